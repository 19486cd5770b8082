import PyProof.Rows.All
import Wide.All
import OpenK.AllK
import Wide.FinOn
import HandS.ForMost
import HandS.ForExc
import HandS.Walk
import HandS.SortRule
import HandS.SortInts
import HandS.Wide
import HandS.TupAny
import HandS.TupMul
import HandS.Deep
import HandS.Zip
import HandS.Rev
import KE.GoesEnum
import HandS.Style
import HandS.ExcInit
import HandS.ExcField
import HandS.TryMany
import HandS.WordsExc
import HandS.More
import HandS.IsInst
import HandS.Defaults
import HandS.SetFor
import KE.GoesMore
import HandS.Conv
import HandS.Gcd
import HandS.Dict
import KE.KDictWalk
import PyProof.Rows.SetFrom
import PyProof.P3In
import HandS.CallSlots
import PySem.Challenge.RW_boutstairs_k26_deeds_that_are_offered
set_option Elab.async false
set_option linter.all false
set_option maxRecDepth 100000
set_option maxHeartbeats 4000000
/-! A layer over plain data: what stands in the slots is told as data (D), lists that change are cells. -/
namespace DL
open PySem L2

/-! ### data -/
inductive D where
  | non | bl (b : Bool) | int (i : Int) | str (x : Str)
  | tup (xs : List D) | lst (xs : List D) | fl (xs : List D) | ins (c : Str) (fs : List (Str × D)) | xc (a dd : Addr) (x : D) | ct (xs : List D)
inductive CC where
  | lst (xs : List D) | dk (ks : List (Int × D)) | dt (ks : List (List Int × D))
inductive Sl where
  | no | dat (d : D) | cell (g : Nat)
abbrev Mem := List (Option CC)
structure S where
  r : List Sl
  M : Mem
structure G where
  K : PySem.W.Frag
  CA : Str → Addr
/-- the cells' places (a dead one: none), places that are kept out of data -/
structure Cs where
  cs : List (Option Addr)
  av : List Addr
def Cs.bad (w : Cs) (a : Addr) : Prop := some a ∈ w.cs ∨ a ∈ w.av

mutual
def Rep (g : G) (cs : Cs) (H : Hp) : D → V → Prop
  | .non, v => v = .non
  | .bl b, v => v = .bl b
  | .int i, v => v = .int i
  | .str x, v => v = .str x
  | .tup ds, v => ∃ a vs, v = .ref a ∧ ¬ cs.bad a ∧ H a = some (.tup vs) ∧ Reps g cs H ds vs
  | .lst ds, v => ∃ a vs, v = .ref a ∧ ¬ cs.bad a ∧ H a = some (.lst vs) ∧ Reps g cs H ds vs
  | .fl ds, v => ∃ a vs, v = .ref a ∧ ((¬ cs.bad a ∧ Rd H a (.lst vs)) ∨ ∃ (o : Obj) (its : Array Value) (n : Nat), g.K.lookup a = some o ∧ o.cls = .type "list" ∧ o.dict = none ∧ o.data = .seq its n ∧ its.size ≤ sizeLine ∧ Vals vs its.toList) ∧ Reps g cs H ds vs
  | .ins c fs, v => ∃ a dx fv, v = .ref a ∧ ¬ cs.bad a ∧ H a = some (.ins (g.CA c) dx fv) ∧ RepF g cs H fs fv
  | .ct ds, v => ∃ a vs, v = .ref a ∧ (∃ (o : Obj) (its : Array Value) (n : Nat), g.K.lookup a = some o ∧ o.cls = .type "tuple" ∧ o.data = .seq its n ∧ its.size ≤ sizeLine ∧ Vals vs its.toList) ∧ Reps g cs H ds vs
  | .xc a dd x, v => ∃ u, v = .ref a ∧ ¬ cs.bad dd ∧ H dd = some (.xd [(("what" : Str), u)]) ∧ Rep g cs H x u
def Reps (g : G) (cs : Cs) (H : Hp) : List D → List V → Prop
  | [], vs => vs = []
  | d :: ds, vs => ∃ v r, vs = v :: r ∧ Rep g cs H d v ∧ Reps g cs H ds r
def RepF (g : G) (cs : Cs) (H : Hp) : List (Str × D) → List (Str × V) → Prop
  | [], vs => vs = []
  | p :: ds, vs => ∃ v r, vs = (p.1, v) :: r ∧ Rep g cs H p.2 v ∧ RepF g cs H ds r
end

/-- what is tracked at addresses that are no cells stays -/
def HExt (w : Cs) (H H' : Hp) : Prop := ∀ a o, some a ∉ w.cs → H a = some o → H' a = some o
theorem HExt.refl (w : Cs) (H : Hp) : HExt w H H := fun _ _ _ h => h
theorem HExt.trans {w : Cs} {H H1 H2 : Hp} (a : HExt w H H1) (b : HExt w H1 H2) : HExt w H H2 := fun x o n h => b x o n (a x o n h)
theorem HExt.of_same {w : Cs} {H H' : Hp} (h : Same H H') : HExt w H H' := fun a o _ e => h a o e
theorem HExt.rd {w : Cs} {H H' : Hp} {a : Addr} {u : HO} (e : HExt w H H') (n : ¬ w.bad a) (h : Rd H a u) : Rd H' a u := by
  have n : some a ∉ w.cs := fun z => n (.inl z)
  rcases h with h | ⟨o, h⟩
  · exact .inl (e _ _ n h)
  · exact .inr ⟨o, e _ _ n h⟩

/-- from w, H to w', H': nothing becomes bad but at new places -/
structure Mv (w : Cs) (H : Hp) (w' : Cs) (H' : Hp) : Prop where
  ext : HExt w H H'
  fresh : ∀ a, w'.bad a → w.bad a ∨ H a = none
  pre : ∀ (c : Nat) (x : Option Addr), w.cs[c]? = some x → w'.cs[c]? = some x ∨ w'.cs[c]? = some none
  av : ∀ a, a ∈ w.av → some a ∈ w'.cs → some a ∈ w.cs
  avk : ∀ a, a ∈ w.av → a ∈ w'.av
theorem Mv.refl (w : Cs) (H : Hp) : Mv w H w H := ⟨HExt.refl _ _, fun _ h => .inl h, fun _ _ h => .inl h, fun _ _ h => h, fun _ h => h⟩
theorem Mv.of_ext {w : Cs} {H H' : Hp} (h : HExt w H H') : Mv w H w H' := ⟨h, fun _ h => .inl h, fun _ _ h => .inl h, fun _ _ h => h, fun _ h => h⟩
theorem Mv.of_same {w : Cs} {H H' : Hp} (h : Same H H') : Mv w H w H' := .of_ext (.of_same h)
theorem Mv.keep {w w' : Cs} {H H' : Hp} (m : Mv w H w' H') {a : Addr} {o : HO} (n : ¬ w.bad a) (h : H a = some o) : ¬ w'.bad a := fun z => by
  rcases m.fresh a z with q | q
  · exact n q
  · rw [h] at q; cases q
theorem Mv.at_ {w w' : Cs} {H H' : Hp} (m : Mv w H w' H') {a : Addr} {o : HO} (n : ¬ w.bad a) (h : H a = some o) : H' a = some o := m.ext a o (fun z => n (.inl z)) h
theorem Mv.trans {w w1 w2 : Cs} {H H1 H2 : Hp} (a : Mv w H w1 H1) (b : Mv w1 H1 w2 H2) (hw : ∀ x, x ∈ w.av → some x ∉ w.cs ∧ ∃ o, H x = some o) : Mv w H w2 H2 := by
  have fr : ∀ x, w2.bad x → w.bad x ∨ H x = none := fun x z => by
    rcases b.fresh x z with q | q
    · exact a.fresh x q
    · by_cases c : w.bad x
      · exact .inl c
      · refine .inr ?_
        cases e : H x with
        | none => rfl
        | some o => rw [a.at_ c e] at q; cases q
  refine ⟨fun x o n h => ?_, fr, fun c x e => ?_, fun x hx z => ?_, fun x hx => b.avk x (a.avk x hx)⟩
  · by_cases c : some x ∈ w1.cs
    · rcases a.fresh x (.inl c) with (q | q) | q
      · exact absurd q n
      · exact absurd (a.av x q c) n
      · rw [h] at q; cases q
    · exact b.ext x o c (a.ext x o n h)
  · rcases a.pre c x e with q | q
    · exact b.pre c x q
    · rcases b.pre c none q with r | r
      · exact .inr r
      · exact .inr r
  · obtain ⟨n, o, h⟩ := hw x hx
    exfalso
    by_cases c : some x ∈ w1.cs
    · exact n (a.av x hx c)
    · have h1 := a.ext x o n h
      rcases b.fresh x (.inl z) with (q | q) | q
      · exact c q
      · exact c (b.av x q z)
      · rw [h1] at q; cases q

mutual
theorem Rep.gen {g : G} {cs cs' : Cs} {H H' : Hp} (m : ∀ a o, ¬ cs.bad a → H a = some o → H' a = some o ∧ ¬ cs'.bad a) : ∀ {d : D} {v : V}, Rep g cs H d v → Rep g cs' H' d v
  | .non, _, h => by simpa only [Rep] using h
  | .bl _, _, h => by simpa only [Rep] using h
  | .int _, _, h => by simpa only [Rep] using h
  | .str _, _, h => by simpa only [Rep] using h
  | .tup ds, v, h => by
    simp only [Rep] at h ⊢
    obtain ⟨a, vs, e, n, q, r⟩ := h
    exact ⟨a, vs, e, (m _ _ n q).2, (m _ _ n q).1, Reps.gen m r⟩
  | .lst ds, v, h => by
    simp only [Rep] at h ⊢
    obtain ⟨a, vs, e, n, q, r⟩ := h
    exact ⟨a, vs, e, (m _ _ n q).2, (m _ _ n q).1, Reps.gen m r⟩
  | .fl ds, v, h => by
    simp only [Rep] at h ⊢
    obtain ⟨a, vs, e, n, r⟩ := h
    refine ⟨a, vs, e, ?_, Reps.gen m r⟩
    rcases n with ⟨n, q⟩ | n
    · rcases q with q | ⟨o, q⟩
      · exact .inl ⟨(m _ _ n q).2, .inl (m _ _ n q).1⟩
      · exact .inl ⟨(m _ _ n q).2, .inr ⟨o, (m _ _ n q).1⟩⟩
    · exact .inr n
  | .ins c fs, v, h => by
    simp only [Rep] at h ⊢
    obtain ⟨a, dx, fv, e, n, q, r⟩ := h
    exact ⟨a, dx, fv, e, (m _ _ n q).2, (m _ _ n q).1, RepF.gen m r⟩
  | .xc a dd x, v, h => by
    simp only [Rep] at h ⊢
    obtain ⟨u, e, n, q, r⟩ := h
    exact ⟨u, e, (m _ _ n q).2, (m _ _ n q).1, Rep.gen m r⟩
  | .ct ds, v, h => by
    simp only [Rep] at h ⊢
    obtain ⟨a, vs, e, n, r⟩ := h
    exact ⟨a, vs, e, n, Reps.gen m r⟩
theorem Reps.gen {g : G} {cs cs' : Cs} {H H' : Hp} (m : ∀ a o, ¬ cs.bad a → H a = some o → H' a = some o ∧ ¬ cs'.bad a) : ∀ {ds : List D} {vs : List V}, Reps g cs H ds vs → Reps g cs' H' ds vs
  | [], _, h => by simpa only [Reps] using h
  | d :: ds, _, h => by
    simp only [Reps] at h ⊢
    obtain ⟨v, r, e, q, z⟩ := h
    exact ⟨v, r, e, Rep.gen m q, Reps.gen m z⟩
theorem RepF.gen {g : G} {cs cs' : Cs} {H H' : Hp} (m : ∀ a o, ¬ cs.bad a → H a = some o → H' a = some o ∧ ¬ cs'.bad a) : ∀ {ds : List (Str × D)} {vs : List (Str × V)}, RepF g cs H ds vs → RepF g cs' H' ds vs
  | [], _, h => by simpa only [RepF] using h
  | p :: ds, _, h => by
    simp only [RepF] at h ⊢
    obtain ⟨v, r, e, q, z⟩ := h
    exact ⟨v, r, e, Rep.gen m q, RepF.gen m z⟩
end
theorem Mv.k {w w' : Cs} {H H' : Hp} (m : Mv w H w' H') : ∀ a o, ¬ w.bad a → H a = some o → H' a = some o ∧ ¬ w'.bad a := fun _ _ n e => ⟨m.at_ n e, m.keep n e⟩
theorem Rep.mv {g : G} {w w' : Cs} {H H' : Hp} {d : D} {v : V} (h : Rep g w H d v) (m : Mv w H w' H') : Rep g w' H' d v := Rep.gen m.k h
theorem Reps.mv {g : G} {w w' : Cs} {H H' : Hp} {d : List D} {v : List V} (h : Reps g w H d v) (m : Mv w H w' H') : Reps g w' H' d v := Reps.gen m.k h
section
variable {g : G} {cs : Cs} {H : Hp}
theorem Reps.len : ∀ {ds : List D} {vs : List V}, Reps g cs H ds vs → vs.length = ds.length
  | [], _, h => by simp only [Reps] at h; subst h; rfl
  | d :: ds, _, h => by
    simp only [Reps] at h
    obtain ⟨v, r, e, _, z⟩ := h
    subst e
    rw [List.length_cons, List.length_cons, Reps.len z]
theorem Reps.get : ∀ {ds : List D} {vs : List V}, Reps g cs H ds vs → ∀ {i : Nat} {v : V}, vs[i]? = some v → ∃ d, ds[i]? = some d ∧ Rep g cs H d v
  | [], _, h, i, v, e => by simp only [Reps] at h; subst h; simp at e
  | d :: ds, _, h, i, v, e => by
    simp only [Reps] at h
    obtain ⟨w, r, e1, q, z⟩ := h
    subst e1
    cases i with
    | zero => simp at e; subst e; exact ⟨d, rfl, q⟩
    | succ i => simp at e; exact Reps.get z e
theorem Reps.get' : ∀ {ds : List D} {vs : List V}, Reps g cs H ds vs → ∀ {i : Nat} {d : D}, ds[i]? = some d → ∃ v, vs[i]? = some v ∧ Rep g cs H d v
  | [], _, h, i, v, e => by simp at e
  | d :: ds, _, h, i, v, e => by
    simp only [Reps] at h
    obtain ⟨w, r, e1, q, z⟩ := h
    subst e1
    cases i with
    | zero => simp at e; subst e; exact ⟨w, rfl, q⟩
    | succ i => simp at e; exact Reps.get' z e
theorem Reps.nil : Reps g cs H [] [] := by simp only [Reps]
theorem Reps.cons {d : D} {v : V} {ds : List D} {vs : List V} (a : Rep g cs H d v) (b : Reps g cs H ds vs) : Reps g cs H (d :: ds) (v :: vs) := by
  simp only [Reps]
  exact ⟨v, vs, rfl, a, b⟩
theorem Reps.app : ∀ {ds es : List D} {vs ws : List V}, Reps g cs H ds vs → Reps g cs H es ws → Reps g cs H (ds ++ es) (vs ++ ws)
  | [], _, _, _, h, k => by simp only [Reps] at h; subst h; exact k
  | d :: ds, _, _, _, h, k => by
    simp only [Reps] at h
    obtain ⟨v, r, e, q, z⟩ := h
    subst e
    exact Reps.cons q (Reps.app z k)
theorem Reps.drop : ∀ (n : Nat) {ds : List D} {vs : List V}, Reps g cs H ds vs → Reps g cs H (ds.drop n) (vs.drop n)
  | 0, _, _, h => h
  | n + 1, [], _, h => by simp only [Reps] at h; subst h; exact Reps.nil
  | n + 1, d :: ds, _, h => by
    simp only [Reps] at h
    obtain ⟨v, r, e, q, z⟩ := h
    subst e
    exact Reps.drop n z
theorem Reps.take : ∀ (n : Nat) {ds : List D} {vs : List V}, Reps g cs H ds vs → Reps g cs H (ds.take n) (vs.take n)
  | 0, _, _, h => Reps.nil
  | n + 1, [], _, h => by simp only [Reps] at h; subst h; exact Reps.nil
  | n + 1, d :: ds, _, h => by
    simp only [Reps] at h
    obtain ⟨v, r, e, q, z⟩ := h
    subst e
    exact Reps.cons q (Reps.take n z)
theorem Reps.set : ∀ (n : Nat) {ds : List D} {vs : List V} {d : D} {v : V}, Reps g cs H ds vs → Rep g cs H d v → Reps g cs H (ds.set n d) (vs.set n v)
  | _, [], _, _, _, h, k => by simp only [Reps] at h; subst h; exact Reps.nil
  | 0, d :: ds, _, _, _, h, k => by
    simp only [Reps] at h
    obtain ⟨v, r, e, q, z⟩ := h
    subst e
    exact Reps.cons k z
  | n + 1, d :: ds, _, _, _, h, k => by
    simp only [Reps] at h
    obtain ⟨v, r, e, q, z⟩ := h
    subst e
    exact Reps.cons q (Reps.set n z k)
theorem Reps.erase : ∀ (n : Nat) {ds : List D} {vs : List V}, Reps g cs H ds vs → Reps g cs H (ds.eraseIdx n) (vs.eraseIdx n)
  | _, [], _, h => by simp only [Reps] at h; subst h; exact Reps.nil
  | 0, d :: ds, _, h => by
    simp only [Reps] at h
    obtain ⟨v, r, e, q, z⟩ := h
    subst e
    exact z
  | n + 1, d :: ds, _, h => by
    simp only [Reps] at h
    obtain ⟨v, r, e, q, z⟩ := h
    subst e
    exact Reps.cons q (Reps.erase n z)
/-- ints -/
theorem Reps.ints : ∀ {ns : List Int} {vs : List V}, Reps g cs H (ns.map D.int) vs → vs = ns.map V.int
  | [], _, h => by simp only [List.map, Reps] at h; exact h
  | n :: ns, _, h => by
    simp only [List.map, Reps, Rep] at h
    obtain ⟨v, r, e, q, z⟩ := h
    subst e q
    rw [Reps.ints z]
    rfl
theorem Reps.of_ints : ∀ (ns : List Int), Reps g cs H (ns.map D.int) (ns.map V.int)
  | [] => Reps.nil
  | n :: ns => Reps.cons (by simp only [Rep]) (Reps.of_ints ns)
theorem Rep.tup {ds : List D} {vs : List V} {a : Addr} (n : ¬ cs.bad a) (h : H a = some (.tup vs)) (r : Reps g cs H ds vs) : Rep g cs H (.tup ds) (.ref a) := by
  simp only [Rep]
  exact ⟨a, vs, rfl, n, h, r⟩
theorem Rep.lst {ds : List D} {vs : List V} {a : Addr} (n : ¬ cs.bad a) (h : H a = some (.lst vs)) (r : Reps g cs H ds vs) : Rep g cs H (.lst ds) (.ref a) := by
  simp only [Rep]
  exact ⟨a, vs, rfl, n, h, r⟩
end

/-! ### a state -/
/-- a dict's entries -/
def RepK {α β : Type} (g : G) (w : Cs) (H : Hp) (enc : α → β) : List (α × D) → List (β × V) → Prop
  | [], ws => ws = []
  | p :: ks, ws => ∃ v r, ws = (enc p.1, v) :: r ∧ Rep g w H p.2 v ∧ RepK g w H enc ks r
theorem RepK.gen {α β : Type} {enc : α → β} {g : G} {cs cs' : Cs} {H H' : Hp} (m : ∀ a o, ¬ cs.bad a → H a = some o → H' a = some o ∧ ¬ cs'.bad a) : ∀ {ks : List (α × D)} {ws : List (β × V)}, RepK g cs H enc ks ws → RepK g cs' H' enc ks ws
  | [], _, h => h
  | _ :: _, _, ⟨v, r, e, q, z⟩ => ⟨v, r, e, Rep.gen m q, RepK.gen m z⟩
theorem RepK.mv {α β : Type} {enc : α → β} {g : G} {w w' : Cs} {H H' : Hp} {ks : List (α × D)} {ws : List (β × V)} (h : RepK g w H enc ks ws) (m : Mv w H w' H') : RepK g w' H' enc ks ws := RepK.gen m.k h
abbrev encI : Int → L2.Key := Sum.inl
abbrev encT : List Int → List L2.Key := fun ks => ks.map Sum.inl
def CellOk (g : G) (w : Cs) (H : Hp) : CC → Addr → Prop
  | .lst ds, a => ∃ vs, H a = some (.lst vs) ∧ Reps g w H ds vs
  | .dk ks, a => ∃ ws, H a = some (.dK ws) ∧ RepK g w H encI ks ws
  | .dt ks, a => ∃ ws, H a = some (.dT ws) ∧ RepK g w H encT ks ws
def SlOk (g : G) (w : Cs) (H : Hp) (σ : L2.St) (i : Nat) : Sl → Prop
  | .no => True
  | .dat d => ∃ v, σ[i]? = some (some v) ∧ Rep g w H d v
  | .cell c => ∃ a, w.cs[c]? = some (some a) ∧ σ[i]? = some (some (.ref a))
structure MemOk (g : G) (w : Cs) (H : Hp) (M : Mem) : Prop where
  len : w.cs.length = M.length
  at_ : ∀ (c : Nat) (x : CC), M[c]? = some (some x) → ∃ a, w.cs[c]? = some (some a) ∧ CellOk g w H x a
  live : ∀ (c : Nat) (a : Addr), w.cs[c]? = some (some a) → ∃ x, M[c]? = some (some x)
  inj : ∀ (c c' : Nat) (a : Addr), w.cs[c]? = some (some a) → w.cs[c']? = some (some a) → c = c'
  av : ∀ a, a ∈ w.av → some a ∉ w.cs ∧ ∃ o, H a = some o
structure RS (g : G) (w : Cs) (H : Hp) (σ : L2.St) (s : S) : Prop where
  len : σ.length = s.r.length
  slot : ∀ (i : Nat) (x : Sl), s.r[i]? = some x → SlOk g w H σ i x
  mem : MemOk g w H s.M

section
variable {g : G} {w w' : Cs} {H H' : Hp} {σ : L2.St} {s : S} {M M' : Mem}
theorem CellOk.tracked {x : CC} {a : Addr} (h : CellOk g w H x a) : ∃ o, H a = some o := by
  cases x with
  | lst ds => obtain ⟨vs, h, _⟩ := h; exact ⟨_, h⟩
  | dk ds => obtain ⟨vs, h, _⟩ := h; exact ⟨_, h⟩
  | dt ds => obtain ⟨vs, h, _⟩ := h; exact ⟨_, h⟩
theorem MemOk.tracked (m : MemOk g w H M) {a : Addr} (h : w.bad a) : ∃ o, H a = some o := by
  rcases h with h | h
  · obtain ⟨c, e⟩ := List.getElem?_of_mem h
    obtain ⟨x, ex⟩ := m.live c a e
    obtain ⟨b, eb, q⟩ := m.at_ c x ex
    rw [e] at eb
    cases eb
    exact q.tracked
  · exact (m.av a h).2
theorem MemOk.fresh (m : MemOk g w H M) {a : Addr} (h : H a = none) : ¬ w.bad a := fun z => by
  obtain ⟨o, e⟩ := m.tracked z
  rw [h] at e
  cases e
/-- nothing tracked changed -/
theorem CellOk.mv {x : CC} {a : Addr} (h : CellOk g w H x a) (m : Mv w H w' H') (e : H' a = H a) : CellOk g w' H' x a := by
  cases x with
  | lst ds => obtain ⟨vs, q, r⟩ := h; exact ⟨vs, e.trans q, r.mv m⟩
  | dk ds => obtain ⟨vs, q, r⟩ := h; exact ⟨vs, e.trans q, r.mv m⟩
  | dt ds => obtain ⟨vs, q, r⟩ := h; exact ⟨vs, e.trans q, r.mv m⟩
theorem MemOk.same (m : MemOk g w H M) (h : Same H H') : MemOk g w H' M := by
  refine ⟨m.len, fun c x e => ?_, m.live, m.inj, fun a ha => ?_⟩
  · obtain ⟨a, ea, q⟩ := m.at_ c x e
    obtain ⟨o, eo⟩ := q.tracked
    exact ⟨a, ea, q.mv (.of_same h) ((h _ _ eo).trans eo.symm)⟩
  · obtain ⟨n, o, e⟩ := m.av a ha
    exact ⟨n, o, h _ _ e⟩
theorem SlOk.mv {i : Nat} {x : Sl} (h : SlOk g w H σ i x) (m : HExt w H H') : SlOk g w H' σ i x := by
  cases x with
  | no => trivial
  | dat d => obtain ⟨v, e, q⟩ := h; exact ⟨v, e, q.mv (.of_ext m)⟩
  | cell c => exact h
theorem RS.same (r : RS g w H σ s) (h : Same H H') : RS g w H' σ s :=
  ⟨r.len, fun i x e => (r.slot i x e).mv (.of_same h), r.mem.same h⟩
theorem RS.mem' (r : RS g w H σ s) (h : HExt w H H') (m : MemOk g w H' M') : RS g w H' σ { s with M := M' } :=
  ⟨r.len, fun i x e => (r.slot i x e).mv h, m⟩
theorem RS.put {x : Sl} {o : Option V} {i : Nat} (r : RS g w H σ s) (q : ∀ σ' : L2.St, σ'[i]? = some o → SlOk g w H σ' i x) : RS g w H (σ.set i o) { s with r := s.r.set i x } := by
  refine ⟨by simp [r.len], fun j y e => ?_, r.mem⟩
  have e : (s.r.set i x)[j]? = some y := e
  by_cases hj : i = j
  · subst hj
    have hi : i < s.r.length := by
      have z := (List.getElem?_eq_some_iff.mp e).1
      simpa using z
    rw [List.getElem?_set_self hi] at e
    cases e
    exact q _ (List.getElem?_set_self (by rw [r.len]; exact hi))
  · rw [List.getElem?_set_ne hj] at e
    have z := r.slot j y e
    cases y with
    | no => trivial
    | dat d => obtain ⟨w, e, q⟩ := z; exact ⟨w, by rw [List.getElem?_set_ne hj]; exact e, q⟩
    | cell c => obtain ⟨a, e1, e2⟩ := z; exact ⟨a, e1, by rw [List.getElem?_set_ne hj]; exact e2⟩
theorem RS.set {d : D} {v : V} {i : Nat} (r : RS g w H σ s) (q : Rep g w H d v) : RS g w H (σ.set i (some v)) { s with r := s.r.set i (.dat d) } := r.put fun _ e => ⟨v, e, q⟩
theorem RS.setNo {o : Option V} {i : Nat} (r : RS g w H σ s) : RS g w H (σ.set i o) { s with r := s.r.set i .no } := r.put fun _ _ => trivial
theorem same_upd {p : Addr} {o : HO} (h : H p = none) : Same H (upd H p o) := fun b u e => by
  rw [upd_ne (ne_of_none e h)]
  exact e
/-- one place more is kept out -/
abbrev Cs.out (w : Cs) (p : Addr) : Cs := { w with av := p :: w.av }
theorem Cs.out_bad {p a : Addr} (h : (w.out p).bad a) : w.bad a ∨ a = p := by
  rcases h with h | h
  · exact .inl (.inl h)
  · rcases List.mem_cons.mp h with h | h
    · exact .inr h
    · exact .inl (.inr h)
theorem mv_out {p : Addr} (e : HExt w H H') (n : H p = none) : Mv w H (w.out p) H' := by
  refine ⟨e, fun a h => ?_, fun _ _ h => .inl h, fun _ _ h => h, fun _ h => List.mem_cons_of_mem _ h⟩
  rcases Cs.out_bad h with h | h
  · exact .inl h
  · exact .inr (by rw [h]; exact n)
theorem k_in {p : Addr} : ∀ a o, ¬ (w.out p).bad a → H a = some o → H a = some o ∧ ¬ w.bad a := fun a o n e => ⟨e, fun z => n (z.elim .inl fun z => .inr (List.mem_cons_of_mem _ z))⟩
/-- a new object at p, kept out of the data -/
theorem RS.out {p : Addr} {o : HO} (r : RS g w H σ s) (n : H p = none) : RS g (w.out p) (upd H p o) σ s := by
  have m : Mv w H (w.out p) (upd H p o) := mv_out (.of_same (same_upd n)) n
  refine ⟨r.len, fun i x e => ?_, ⟨r.mem.len, fun c x e => ?_, r.mem.live, r.mem.inj, fun a ha => ?_⟩⟩
  · have z := r.slot i x e
    cases x with
    | no => trivial
    | dat d => obtain ⟨v, e, q⟩ := z; exact ⟨v, e, q.mv m⟩
    | cell c => exact z
  · obtain ⟨a, ea, q⟩ := r.mem.at_ c x e
    obtain ⟨u, eu⟩ := q.tracked
    exact ⟨a, ea, q.mv m (upd_ne (ne_of_none eu n))⟩
  · rcases List.mem_cons.mp ha with e | ha
    · subst e
      exact ⟨fun z => r.mem.fresh n (.inl z), o, upd_same⟩
    · obtain ⟨z, u, e⟩ := r.mem.av a ha
      exact ⟨z, u, by rw [upd_ne (ne_of_none e n)]; exact e⟩
/-- .. and it is let in again -/
theorem RS.inn {p : Addr} (r : RS g (w.out p) H σ s) : RS g w H σ s := by
  refine ⟨r.len, fun i x e => ?_, ⟨r.mem.len, fun c x e => ?_, r.mem.live, r.mem.inj, fun a ha => r.mem.av a (List.mem_cons_of_mem _ ha)⟩⟩
  · have z := r.slot i x e
    cases x with
    | no => trivial
    | dat d => obtain ⟨v, e, q⟩ := z; exact ⟨v, e, Rep.gen k_in q⟩
    | cell c => exact z
  · obtain ⟨a, ea, q⟩ := r.mem.at_ c x e
    cases x with
    | lst ds => obtain ⟨vs, q, r⟩ := q; exact ⟨a, ea, vs, q, Reps.gen k_in r⟩
    | dk ds => obtain ⟨vs, q, r⟩ := q; exact ⟨a, ea, vs, q, RepK.gen k_in r⟩
    | dt ds => obtain ⟨vs, q, r⟩ := q; exact ⟨a, ea, vs, q, RepK.gen k_in r⟩
/-- what no datum holds changes -/
theorem upd_k {p : Addr} {o : HO} (hp : w.bad p) : ∀ a u, ¬ w.bad a → H a = some u → upd H p o a = some u ∧ ¬ w.bad a := fun a u n e =>
  ⟨by rw [upd_ne (fun z => n (by rw [z]; exact hp))]; exact e, n⟩
theorem CellOk.gen {x : CC} {a : Addr} (h : CellOk g w H x a) (k : ∀ a u, ¬ w.bad a → H a = some u → H' a = some u ∧ ¬ w'.bad a) (e : H' a = H a) : CellOk g w' H' x a := by
  cases x with
  | lst ds => obtain ⟨vs, q, r⟩ := h; exact ⟨vs, e.trans q, Reps.gen k r⟩
  | dk ds => obtain ⟨vs, q, r⟩ := h; exact ⟨vs, e.trans q, RepK.gen k r⟩
  | dt ds => obtain ⟨vs, q, r⟩ := h; exact ⟨vs, e.trans q, RepK.gen k r⟩
theorem RS.updOut {p : Addr} {o : HO} (r : RS g w H σ s) (hp : p ∈ w.av) : RS g w (upd H p o) σ s := by
  have k := upd_k (H := H) (o := o) (w := w) (.inr hp)
  have nc := (r.mem.av p hp).1
  refine ⟨r.len, fun i x e => ?_, ⟨r.mem.len, fun c x e => ?_, r.mem.live, r.mem.inj, fun a ha => ?_⟩⟩
  · have z := r.slot i x e
    cases x with
    | no => trivial
    | dat d => obtain ⟨v, e, q⟩ := z; exact ⟨v, e, Rep.gen k q⟩
    | cell c => exact z
  · obtain ⟨a, ea, q⟩ := r.mem.at_ c x e
    exact ⟨a, ea, q.gen k (upd_ne fun z => nc (by rw [← z]; exact List.mem_of_getElem? ea))⟩
  · obtain ⟨n, u, e⟩ := r.mem.av a ha
    by_cases h : a = p
    · exact ⟨n, o, by rw [h]; exact upd_same⟩
    · exact ⟨n, u, by rw [upd_ne h]; exact e⟩
/-- a cell's content changes -/
theorem RS.updCellG {c : Nat} {p : Addr} {x0 : CC} {o : HO} (r : RS g w H σ s) (hc : w.cs[c]? = some (some p)) (hx : CellOk g w (upd H p o) x0 p) : RS g w (upd H p o) σ { s with M := s.M.set c (some x0) } := by
  have hp : w.bad p := .inl (List.mem_of_getElem? hc)
  have k := upd_k (H := H) (o := o) (w := w) hp
  have hcl : c < s.M.length := by rw [← r.mem.len]; exact (List.getElem?_eq_some_iff.mp hc).1
  refine ⟨r.len, fun i x e => ?_, ⟨by simp [r.mem.len], fun j x e => ?_, fun j a e => ?_, r.mem.inj, fun a ha => ?_⟩⟩
  · have z := r.slot i x e
    cases x with
    | no => trivial
    | dat d => obtain ⟨v, e, q⟩ := z; exact ⟨v, e, Rep.gen k q⟩
    | cell c => exact z
  · have e : (s.M.set c (some x0))[j]? = some (some x) := e
    by_cases hj : c = j
    · subst hj
      rw [List.getElem?_set_self hcl] at e
      cases e
      exact ⟨p, hc, hx⟩
    · rw [List.getElem?_set_ne hj] at e
      obtain ⟨a, ea, q⟩ := r.mem.at_ j x e
      exact ⟨a, ea, q.gen k (upd_ne fun z => hj (r.mem.inj c j p hc (by rw [ea, z])))⟩
  · obtain ⟨x, ex⟩ := r.mem.live j a e
    by_cases hj : c = j
    · subst hj
      exact ⟨_, List.getElem?_set_self hcl⟩
    · exact ⟨x, by show (s.M.set c _)[j]? = _; rw [List.getElem?_set_ne hj]; exact ex⟩
  · obtain ⟨n, u, e⟩ := r.mem.av a ha
    refine ⟨n, u, ?_⟩
    rw [upd_ne fun z => n (by rw [z]; exact List.mem_of_getElem? hc)]
    exact e
theorem RS.updCell {c : Nat} {p : Addr} {ds : List D} {vs : List V} (r : RS g w H σ s) (hc : w.cs[c]? = some (some p)) (hv : Reps g w H ds vs) : RS g w (upd H p (.lst vs)) σ { s with M := s.M.set c (some (.lst ds)) } :=
  r.updCellG hc ⟨vs, upd_same, Reps.gen (upd_k (.inl (List.mem_of_getElem? hc))) hv⟩
theorem upd_cell_ext {c : Nat} {p : Addr} {o : HO} (hc : w.cs[c]? = some (some p)) : HExt w H (upd H p o) := fun a u n e => by
  rw [upd_ne fun z => n (by rw [z]; exact List.mem_of_getElem? hc)]
  exact e
/-- what was kept out becomes a cell -/
abbrev Cs.cell (w : Cs) (p : Addr) : Cs := { w with cs := w.cs ++ [some p] }
theorem Cs.cell_bad {p a : Addr} : (w.cell p).bad a ↔ (w.out p).bad a := by
  simp only [Cs.bad, List.mem_append, List.mem_cons, List.not_mem_nil, or_false, Option.some.injEq]
  constructor
  · rintro ((h | h) | h)
    · exact .inl h
    · exact .inr (.inl h)
    · exact .inr (.inr h)
  · rintro (h | h | h)
    · exact .inl (.inl h)
    · exact .inl (.inr h)
    · exact .inr h
theorem RS.toCellG {p : Addr} {x0 : CC} (r : RS g (w.out p) H σ s) (hp : ¬ w.bad p) (hx : CellOk g (w.out p) H x0 p) :
    RS g (w.cell p) H σ { s with M := s.M ++ [some x0] } := by
  have k : ∀ a u, ¬ (w.out p).bad a → H a = some u → H a = some u ∧ ¬ (w.cell p).bad a := fun a u n e => ⟨e, fun z => n (Cs.cell_bad.mp z)⟩
  have ml : w.cs.length = s.M.length := r.mem.len
  refine ⟨r.len, fun i x e => ?_, ⟨by simp [ml], fun j x e => ?_, fun j a e => ?_, fun j j' a e e' => ?_, fun a ha => ?_⟩⟩
  · have z := r.slot i x e
    cases x with
    | no => trivial
    | dat d => obtain ⟨v, e, q⟩ := z; exact ⟨v, e, Rep.gen k q⟩
    | cell c =>
      obtain ⟨a, ea, q⟩ := z
      exact ⟨a, by show (w.cs ++ [some p])[c]? = _; rw [List.getElem?_append_left (List.getElem?_eq_some_iff.mp ea).1]; exact ea, q⟩
  · have e : (s.M ++ [some x0])[j]? = some (some x) := e
    by_cases hj : j < s.M.length
    · rw [List.getElem?_append_left hj] at e
      obtain ⟨a, ea, q⟩ := r.mem.at_ j x e
      exact ⟨a, by show (w.cs ++ [some p])[j]? = _; rw [List.getElem?_append_left (by rw [ml]; exact hj)]; exact ea, q.gen k rfl⟩
    · have hj' : j = s.M.length := by
        have z := (List.getElem?_eq_some_iff.mp e).1
        simp at z
        omega
      subst hj'
      rw [List.getElem?_append_right (Nat.le_refl _), Nat.sub_self] at e
      cases e
      exact ⟨p, by show (w.cs ++ [some p])[s.M.length]? = _; rw [← ml, List.getElem?_append_right (Nat.le_refl _), Nat.sub_self]; rfl, hx.gen k rfl⟩
  · have e : (w.cs ++ [some p])[j]? = some (some a) := e
    by_cases hj : j < s.M.length
    · rw [List.getElem?_append_left (by rw [ml]; exact hj)] at e
      obtain ⟨x, ex⟩ := r.mem.live j a e
      exact ⟨x, by show (s.M ++ [some x0])[j]? = _; rw [List.getElem?_append_left hj]; exact ex⟩
    · have hj' : j = s.M.length := by
        have z := (List.getElem?_eq_some_iff.mp e).1
        simp [ml] at z
        omega
      subst hj'
      exact ⟨_, by show (s.M ++ [some x0])[s.M.length]? = _; rw [List.getElem?_append_right (Nat.le_refl _), Nat.sub_self]; rfl⟩
  · have e : (w.cs ++ [some p])[j]? = some (some a) := e
    have e' : (w.cs ++ [some p])[j']? = some (some a) := e'
    have lst : ∀ i, ¬ i < w.cs.length → (w.cs ++ [some p])[i]? = some (some a) → i = w.cs.length ∧ a = p := fun i hi q => by
      have hi' : i = w.cs.length := by
        have z := (List.getElem?_eq_some_iff.mp q).1
        simp at z
        omega
      subst hi'
      rw [List.getElem?_append_right (Nat.le_refl _), Nat.sub_self] at q
      cases q
      exact ⟨rfl, rfl⟩
    by_cases h1 : j < w.cs.length <;> by_cases h2 : j' < w.cs.length
    · rw [List.getElem?_append_left h1] at e
      rw [List.getElem?_append_left h2] at e'
      exact r.mem.inj j j' a e e'
    · obtain ⟨_, z⟩ := lst j' h2 e'
      rw [List.getElem?_append_left h1, z] at e
      exact absurd (.inl (List.mem_of_getElem? e)) hp
    · obtain ⟨_, z⟩ := lst j h1 e
      rw [List.getElem?_append_left h2, z] at e'
      exact absurd (.inl (List.mem_of_getElem? e')) hp
    · rw [(lst j h1 e).1, (lst j' h2 e').1]
  · obtain ⟨n, o, q⟩ := r.mem.av a (List.mem_cons_of_mem _ ha)
    refine ⟨fun z => ?_, o, q⟩
    rcases List.mem_append.mp z with z | z
    · exact n z
    · have e : a = p := by simpa using z
      exact hp (.inr (by rw [← e]; exact ha))
theorem RS.toCell {p : Addr} {ds : List D} {vs : List V} (r : RS g (w.out p) H σ s) (hp : ¬ w.bad p) (h : H p = some (.lst vs)) (hv : Reps g (w.out p) H ds vs) :
    RS g (w.cell p) H σ { s with M := s.M ++ [some (.lst ds)] } := r.toCellG hp ⟨vs, h, hv⟩
theorem mv_cell {p : Addr} (e : HExt w H H') (n : H p = none) (hp : ¬ w.bad p) : Mv w H (w.cell p) H' := by
  refine ⟨e, fun a h => ?_, fun c x h => .inl ?_, fun a ha z => ?_, fun _ h => h⟩
  · rcases Cs.out_bad (Cs.cell_bad.mp h) with h | h
    · exact .inl h
    · exact .inr (by rw [h]; exact n)
  · show (w.cs ++ [some p])[c]? = _
    rw [List.getElem?_append_left (List.getElem?_eq_some_iff.mp h).1]
    exact h
  · rcases List.mem_append.mp z with z | z
    · exact z
    · have e : a = p := by simpa using z
      exact absurd (.inr (by rw [← e]; exact ha)) hp
end
end DL

namespace DL
open PySem L2

/-! ### readings over data -/
abbrev KX := Str → D → S → Prop
abbrev TD := S → (D → S → Prop) → KX → Prop
abbrev TDB := S → (Bool → S → Prop) → KX → Prop
abbrev TDA := S → (List Sl → S → Prop) → KX → Prop
/-- values by operators -/
abbrev RD := D → D → (D → Prop) → Prop
abbrev RU := D → (D → Prop) → Prop
def EOk (g : G) (w : Cs) (H : Hp) (σ : L2.St) (P : D → S → Prop) (Q : VK) : Prop := ∀ d s' H' v, P d s' → HExt w H H' → RS g w H' σ s' → Rep g w H' d v → Q v H'
def BOk (g : G) (w : Cs) (H : Hp) (σ : L2.St) (P : Bool → S → Prop) (Q : Bool → Hp → Prop) : Prop := ∀ b s' H', P b s' → HExt w H H' → RS g w H' σ s' → Q b H'
/-- an exception's own dict -/
def XdAt (w : Cs) (H : Hp) (dd : Addr) (v : V) : Prop := ¬ w.bad dd ∧ H dd = some (.xd [(("what" : Str), v)])
def XOk (g : G) (w : Cs) (H : Hp) (σ : L2.St) (P : KX) (W : WX) : Prop := ∀ c x s' H' dd v, P c x s' → HExt w H H' → RS g w H' σ s' → XdAt w H' dd v → Rep g w H' x v → W (.ref (g.CA c)) (some dd) σ H'
/-- argument lists: data, cells -/
def ArgOk (g : G) (w : Cs) (H : Hp) : List Sl → List V → Prop
  | [], vs => vs = []
  | .no :: _, _ => False
  | .dat d :: xs, vs => ∃ v r, vs = v :: r ∧ Rep g w H d v ∧ ArgOk g w H xs r
  | .cell c :: xs, vs => ∃ a r, vs = .ref a :: r ∧ w.cs[c]? = some (some a) ∧ ArgOk g w H xs r
def AOk (g : G) (w : Cs) (H : Hp) (σ : L2.St) (P : List Sl → S → Prop) (Q : List V → Hp → Prop) : Prop := ∀ xs s' H' vs, P xs s' → HExt w H H' → RS g w H' σ s' → ArgOk g w H' xs vs → Q vs H'
def lE (g : G) (W : WX) (td : TD) : TE := fun σ H Q => ∃ w s P PX, RS g w H σ s ∧ td s P PX ∧ EOk g w H σ P Q ∧ XOk g w H σ PX W
def lB (g : G) (W : WX) (td : TDB) : TT := fun σ H Q => ∃ w s P PX, RS g w H σ s ∧ td s P PX ∧ BOk g w H σ P Q ∧ XOk g w H σ PX W
def lA (g : G) (W : WX) (td : TDA) : TA := fun σ H Q => ∃ w s P PX, RS g w H σ s ∧ td s P PX ∧ AOk g w H σ P Q ∧ XOk g w H σ PX W
/-- a new list, kept out of the data as long as it is not put anywhere -/
def FOk (g : G) (w : Cs) (H : Hp) (σ : L2.St) (P : List D → S → Prop) (Q : VK) : Prop := ∀ ds s' H' p vs, P ds s' → HExt w H H' → H p = none → ¬ w.bad p → RS g (w.out p) H' σ s' → H' p = some (.lst vs) → Reps g (w.out p) H' ds vs → Q (.ref p) H'
abbrev TDF := S → (List D → S → Prop) → KX → Prop
def lF (g : G) (W : WX) (td : TDF) : TE := fun σ H Q => ∃ w s P PX, RS g w H σ s ∧ td s P PX ∧ FOk g w H σ P Q ∧ XOk g w H σ PX W
def lR (g : G) (r : RD) : R2 := fun x y H Q => ∃ w d e P, Rep g w H d x ∧ Rep g w H e y ∧ r d e P ∧ (∀ a, H a = none → ¬ w.bad a) ∧ ∀ z v H', P z → Same H H' → Rep g w H' z v → Q v H'
def lU (g : G) (r : RU) : V → Hp → VK → Prop := fun x H Q => ∃ w d P, Rep g w H d x ∧ r d P ∧ (∀ a, H a = none → ¬ w.bad a) ∧ ∀ z v H', P z → Same H H' → Rep g w H' z v → Q v H'

theorem pe_imp {X : Cx} {e : Expr} {t t' : TE} (h : PE X e t) (i : ∀ σ H Q, t' σ H Q → t σ H Q) : PE X e t' := ⟨fun p s σ H Q I q => h.run p s σ H Q I (i σ H Q q)⟩
theorem pt_imp {X : Cx} {e : Expr} {t t' : TT} (h : PT X e t) (i : ∀ σ H Q, t' σ H Q → t σ H Q) : PT X e t' := ⟨fun p s σ H Q I q => h.run p s σ H Q I (i σ H Q q)⟩
theorem pw_imp {X : Cx} {e : Expr} {t t' : TT} (h : PW X e t) (i : ∀ σ H Q, t' σ H Q → t σ H Q) : PW X e t' := ⟨fun wh p s σ H Q I q => h.run wh p s σ H Q I (i σ H Q q)⟩
theorem pa_imp {X : Cx} {e : List Expr} {t t' : TA} (h : PA X e t) (i : ∀ σ H Q, t' σ H Q → t σ H Q) : PA X e t' := ⟨fun pos p s σ H Q I q => h.run pos p s σ H Q I (i σ H Q q)⟩
theorem ps_imp {X : Cx} {e : Stmt} {t t' : TS} (h : PS X e t) (i : ∀ D σ H, t' D σ H → t D σ H) : PS X e t' := ⟨fun p s σ H D I q => h.run p s σ H D I (i D σ H q)⟩
theorem pss_imp {X : Cx} {e : List Stmt} {t t' : TS} (h : PSs X e t) (i : ∀ D σ H, t' D σ H → t D σ H) : PSs X e t' := ⟨fun p s σ H D I q => h.run p s σ H D I (i D σ H q)⟩

section
variable {X : Cx} {g : G} {W : WX} {pos : Pos} {a b c e : Expr} {ta tb tc : TD} {w : Cs} {H H' : Hp} {σ : L2.St} {s : S}
theorem EOk.ext {P : D → S → Prop} {Q : VK} (k : EOk g w H σ P Q) (x : HExt w H H') : EOk g w H' σ P Q := fun d s' H2 v p y => k d s' H2 v p (x.trans y)
theorem BOk.ext {P : Bool → S → Prop} {Q : Bool → Hp → Prop} (k : BOk g w H σ P Q) (x : HExt w H H') : BOk g w H' σ P Q := fun d s' H2 p y => k d s' H2 p (x.trans y)
theorem XOk.ext {P : KX} (k : XOk g w H σ P W) (x : HExt w H H') : XOk g w H' σ P W := fun c d s' H2 dd v p y => k c d s' H2 dd v p (x.trans y)
theorem AOk.ext {P : List Sl → S → Prop} {Q : List V → Hp → Prop} (k : AOk g w H σ P Q) (x : HExt w H H') : AOk g w H' σ P Q := fun d s' H2 v p y => k d s' H2 v p (x.trans y)

/-! ### names, constants -/
@[simp] def dVar (i : Nat) : TD := fun s P _ => ∃ d, s.r[i]? = some (.dat d) ∧ P d s
@[simp] def dC (d : D) : TD := fun s P _ => P d s
theorem de_var (i : Nat) {x : Str} {pos : Pos} (h : PE X (.Name x pos) (tVar i)) : PE X (.Name x pos) (lE g W (dVar i)) := pe_imp h fun σ H Q ⟨w, s, P, PX, r, ⟨d, e, p⟩, k, _⟩ => by
  obtain ⟨v, ev, q⟩ := r.slot i _ e
  exact ⟨v, ev, k d s H v p (HExt.refl _ _) r q⟩
theorem de_c {d : D} {v : V} (h : PE X e (tC v)) (q : ∀ w H, Rep g w H d v) : PE X e (lE g W (dC d)) := pe_imp h fun σ H Q ⟨w, s, P, PX, r, p, k, _⟩ => k d s H v p (HExt.refl _ _) r (q w H)
theorem de_int {i j pos} : PE X (.Constant (.int i) j pos) (lE g W (dC (.int i))) := de_c pe_int fun _ _ => by simp only [Rep]
theorem de_bl {i j pos} : PE X (.Constant (.bool i) j pos) (lE g W (dC (.bl i))) := de_c pe_bl fun _ _ => by simp only [Rep]
theorem de_non {j pos} : PE X (.Constant .none j pos) (lE g W (dC .non)) := de_c pe_non fun _ _ => by simp only [Rep]
theorem de_str {i j pos} : PE X (.Constant (.str i) j pos) (lE g W (dC (.str i))) := de_c pe_str fun _ _ => by simp only [Rep]

/-! ### operators -/
@[simp] def dOp (r : RD) (ta tb : TD) : TD := fun s P X => ta s (fun x s1 => tb s1 (fun y s2 => r x y fun z => P z s2) X) X
@[simp] def dUn (r : RU) (ta : TD) : TD := fun s P X => ta s (fun x s1 => r x fun z => P z s1) X
theorem lE_bin {r : R2} {rd : RD} (hr : ∀ x y H Q, lR g rd x y H Q → r x y H Q) : ∀ σ H Q, lE g W (dOp rd ta tb) σ H Q → tOp r (lE g W ta) (lE g W tb) σ H Q := fun σ H Q ⟨w, s, P, PX, rs, h, k, x⟩ =>
  ⟨w, s, _, PX, rs, h, fun d s1 H1 v q e1 rs1 rp => ⟨w, s1, _, PX, rs1, q, fun d2 s2 H2 v2 q2 e2 rs2 rp2 =>
    hr _ _ _ _ ⟨w, d, d2, _, rp.mv (.of_ext e2), rp2, q2, fun a n => rs2.mem.fresh n, fun z u H3 pz sm rz => k z s2 H3 u pz (e1.trans (e2.trans (.of_same sm))) (rs2.same sm) rz⟩, x.ext e1⟩, x⟩
theorem de_op {op : Operator} {r : R2} {rd : RD} (ho : OpR X (binaryOp op) r) (hr : ∀ x y H Q, lR g rd x y H Q → r x y H Q) (ha : PE X a (lE g W ta)) (hb : PE X b (lE g W tb)) : PE X (.BinOp a op b pos) (lE g W (dOp rd ta tb)) :=
  pe_imp (pe_op ho ha hb) (lE_bin hr)
theorem de_un {op : UnaryOp} {r : V → Hp → VK → Prop} {rd : RU} (ho : UnR X (unaryOp op) r) (hr : ∀ x H Q, lU g rd x H Q → r x H Q) (ha : PE X a (lE g W ta)) : PE X (.UnaryOp op a pos) (lE g W (dUn rd ta)) :=
  pe_imp (pe_un ho ha) fun σ H Q ⟨w, s, P, PX, rs, h, k, x⟩ => ⟨w, s, _, PX, rs, h, fun d s1 H1 v q e1 rs1 rp =>
    hr _ _ _ ⟨w, d, _, rp, q, fun a n => rs1.mem.fresh n, fun z u H3 pz sm rz => k z s1 H3 u pz (e1.trans (.of_same sm)) (rs1.same sm) rz⟩, x⟩
theorem de_cmp {op : CmpOp} {r : R2} {rd : RD} (ho : OpR X (compareOp op) r) (hr : ∀ x y H Q, lR g rd x y H Q → r x y H Q) (ha : PE X a (lE g W ta)) (hb : PE X b (lE g W tb)) (hm : behindInMarks op b = false) : PE X (.Compare a [op] [b] pos) (lE g W (dOp rd ta tb)) :=
  pe_imp (pe_cmpR ho ha hb hm) (lE_bin hr)
/-- tests -/
@[simp] def dT (t : TD) : TDB := fun s P X => t s (fun x s1 => ∃ k, x = .bl k ∧ P k s1) X
theorem lT_of {t : TE} {td : TD} (h : ∀ σ H Q, lE g W td σ H Q → t σ H Q) : ∀ σ H Q, lB g W (dT td) σ H Q → tTest t σ H Q := fun σ H Q ⟨w, s, P, PX, rs, h', k, x⟩ =>
  h _ _ _ ⟨w, s, _, PX, rs, h', fun d s1 H1 v q e1 rs1 rp => by
    obtain ⟨b, e, q⟩ := q
    subst e
    simp only [Rep] at rp
    exact ⟨b, rp, k b s1 H1 q e1 rs1⟩, x⟩
theorem dt_cmp {op : CmpOp} {r : R2} {rd : RD} (ho : OpR X (compareOp op) r) (hr : ∀ x y H Q, lR g rd x y H Q → r x y H Q) (ha : PE X a (lE g W ta)) (hb : PE X b (lE g W tb)) (hm : behindInMarks op b = false) : PT X (.Compare a [op] [b] pos) (lB g W (dT (dOp rd ta tb))) :=
  pt_imp (pt_cmpR ho ha hb hm) (lT_of (lE_bin hr))
theorem dt_val (he : PE X e (lE g W ta)) (hw : ∀ whole, isTrue e X.env whole = (do let v ← whole; standAt e.pos; holding [v] (truthy v)) := by intro _; rfl) : PT X e (lB g W (dT ta)) :=
  pt_imp (pt_val he hw) (lT_of fun _ _ _ h => h)
@[simp] def dChain (r r' : RD) (ta tb tc : TD) : TD := fun s P X => ta s (fun x s1 => tb s1 (fun y s2 => r x y fun z => ∃ k, z = .bl k ∧ if k = true then tc s2 (fun u s3 => r' y u fun z' => P z' s3) X else P (.bl false) s2) X) X
theorem lE_chain {r r' : R2} {rd rd' : RD} (hr : ∀ x y H Q, lR g rd x y H Q → r x y H Q) (hr' : ∀ x y H Q, lR g rd' x y H Q → r' x y H Q) : ∀ σ H Q, lE g W (dChain rd rd' ta tb tc) σ H Q → tChain r r' (lE g W ta) (lE g W tb) (lE g W tc) σ H Q := fun σ H Q ⟨w, s, P, PX, rs, h, k, x⟩ =>
  ⟨w, s, _, PX, rs, h, fun d s1 H1 v q e1 rs1 rp => ⟨w, s1, _, PX, rs1, q, fun d2 s2 H2 v2 q2 e2 rs2 rp2 =>
    hr _ _ _ _ ⟨w, d, d2, _, rp.mv (.of_ext e2), rp2, q2, fun a n => rs2.mem.fresh n, fun z u H3 pz sm rz => by
      obtain ⟨b, e, pz⟩ := pz
      subst e
      simp only [Rep] at rz
      refine ⟨b, rz, ?_⟩
      have e3 : HExt w H2 H3 := .of_same sm
      cases b with
      | true =>
        rw [if_pos rfl] at pz ⊢
        exact ⟨w, s2, _, PX, rs2.same sm, pz, fun d4 s4 H4 v4 q4 e4 rs4 rp4 => hr' _ _ _ _ ⟨w, d2, d4, _, (rp2.mv (.of_ext e3)).mv (.of_ext e4), rp4, q4, fun a n => rs4.mem.fresh n, fun z5 u5 H5 p5 sm5 r5 =>
          k z5 s4 H5 u5 p5 (e1.trans (e2.trans (e3.trans (e4.trans (.of_same sm5))))) (rs4.same sm5) r5⟩, x.ext (e1.trans (e2.trans e3))⟩
      | false =>
        rw [if_neg Bool.false_ne_true] at pz ⊢
        exact k _ s2 H3 _ pz (e1.trans (e2.trans e3)) (rs2.same sm) (by simp only [Rep])⟩, x.ext e1⟩, x⟩
theorem de_chain {op op' : CmpOp} {r r' : R2} {rd rd' : RD} (h : PE X (.Compare a [op, op'] [b, c] pos) (tChain r r' (lE g W ta) (lE g W tb) (lE g W tc))) (hr : ∀ x y H Q, lR g rd x y H Q → r x y H Q) (hr' : ∀ x y H Q, lR g rd' x y H Q → r' x y H Q) :
    PE X (.Compare a [op, op'] [b, c] pos) (lE g W (dChain rd rd' ta tb tc)) := pe_imp h (lE_chain hr hr')

/-! ### and, or, not -/
variable {t u : TDB}
@[simp] def dAnd (t u : TDB) : TDB := fun s P X => t s (fun b s1 => if b = true then u s1 P X else P false s1) X
@[simp] def dOr (t u : TDB) : TDB := fun s P X => t s (fun b s1 => if b = true then P true s1 else u s1 P X) X
@[simp] def dNot (t : TDB) : TDB := fun s P X => t s (fun b s1 => P (!b) s1) X
variable {rest : List Expr}
theorem dw_and1 (ha : PT X a (lB g W t)) : PW X (.BoolOp .And [a] pos) (lB g W t) := pw_and1 ha
theorem dw_or1 (ha : PT X a (lB g W t)) : PW X (.BoolOp .Or [a] pos) (lB g W t) := pw_or1 ha
theorem dw_and (ha : PT X a (lB g W t)) (hb : PW X (.BoolOp .And (b :: rest) pos) (lB g W u)) : PW X (.BoolOp .And (a :: b :: rest) pos) (lB g W (dAnd t u)) := pw_imp (pw_and ha hb) fun σ H Q ⟨w, s, P, PX, rs, h, k, x⟩ =>
  ⟨w, s, _, PX, rs, h, fun b s1 H1 q e1 rs1 => by
    cases b with
    | true =>
      rw [if_pos rfl] at q ⊢
      exact ⟨w, s1, P, PX, rs1, q, k.ext e1, x.ext e1⟩
    | false =>
      rw [if_neg Bool.false_ne_true] at q ⊢
      exact k _ s1 H1 q e1 rs1, x⟩
theorem dw_or (ha : PT X a (lB g W t)) (hb : PW X (.BoolOp .Or (b :: rest) pos) (lB g W u)) : PW X (.BoolOp .Or (a :: b :: rest) pos) (lB g W (dOr t u)) := pw_imp (pw_or ha hb) fun σ H Q ⟨w, s, P, PX, rs, h, k, x⟩ =>
  ⟨w, s, _, PX, rs, h, fun b s1 H1 q e1 rs1 => by
    cases b with
    | false =>
      rw [if_neg Bool.false_ne_true] at q ⊢
      exact ⟨w, s1, P, PX, rs1, q, k.ext e1, x.ext e1⟩
    | true =>
      rw [if_pos rfl] at q ⊢
      exact k _ s1 H1 q e1 rs1, x⟩
theorem dt_not (ha : PT X a (lB g W t)) : PT X (.UnaryOp .Not a pos) (lB g W (dNot t)) := pt_imp (pt_not ha) fun σ H Q ⟨w, s, P, PX, rs, h, k, x⟩ =>
  ⟨w, s, _, PX, rs, h, fun b s1 H1 q e1 rs1 => k _ s1 H1 q e1 rs1, x⟩
/-- as values, all but the last a bool -/
@[simp] def dAndV (ta tb : TD) : TD := fun s P X => ta s (fun x s1 => ∃ k, x = .bl k ∧ if k = true then tb s1 P X else P (.bl false) s1) X
@[simp] def dOrV (ta tb : TD) : TD := fun s P X => ta s (fun x s1 => ∃ k, x = .bl k ∧ if k = true then P (.bl true) s1 else tb s1 P X) X
@[simp] def dNotV (ta : TD) : TD := fun s P X => ta s (fun x s1 => ∃ k, x = .bl k ∧ P (.bl (!k)) s1) X
theorem de_and (ha : PE X a (lE g W ta)) (hb : PE X (.BoolOp .And (b :: rest) pos) (lE g W tb)) : PE X (.BoolOp .And (a :: b :: rest) pos) (lE g W (dAndV ta tb)) := pe_imp (pe_and ha hb) fun σ H Q ⟨w, s, P, PX, rs, h, k, x⟩ =>
  ⟨w, s, _, PX, rs, h, fun d s1 H1 v q e1 rs1 rp => by
    obtain ⟨b, e, q⟩ := q
    subst e
    simp only [Rep] at rp
    refine ⟨b, rp, ?_⟩
    cases b with
    | true =>
      rw [if_pos rfl] at q ⊢
      exact ⟨w, s1, P, PX, rs1, q, k.ext e1, x.ext e1⟩
    | false =>
      rw [if_neg Bool.false_ne_true] at q ⊢
      exact k _ s1 H1 _ q e1 rs1 (by simp only [Rep]), x⟩
theorem de_or (ha : PE X a (lE g W ta)) (hb : PE X (.BoolOp .Or (b :: rest) pos) (lE g W tb)) : PE X (.BoolOp .Or (a :: b :: rest) pos) (lE g W (dOrV ta tb)) := pe_imp (pe_or ha hb) fun σ H Q ⟨w, s, P, PX, rs, h, k, x⟩ =>
  ⟨w, s, _, PX, rs, h, fun d s1 H1 v q e1 rs1 rp => by
    obtain ⟨b, e, q⟩ := q
    subst e
    simp only [Rep] at rp
    refine ⟨b, rp, ?_⟩
    cases b with
    | false =>
      rw [if_neg Bool.false_ne_true] at q ⊢
      exact ⟨w, s1, P, PX, rs1, q, k.ext e1, x.ext e1⟩
    | true =>
      rw [if_pos rfl] at q ⊢
      exact k _ s1 H1 _ q e1 rs1 (by simp only [Rep]), x⟩
theorem de_not (ha : PE X a (lE g W ta)) : PE X (.UnaryOp .Not a pos) (lE g W (dNotV ta)) := pe_imp (pe_not ha) fun σ H Q ⟨w, s, P, PX, rs, h, k, x⟩ =>
  ⟨w, s, _, PX, rs, h, fun d s1 H1 v q e1 rs1 rp => by
    obtain ⟨b, e, q⟩ := q
    subst e
    simp only [Rep] at rp
    exact ⟨b, rp, k _ s1 H1 _ q e1 rs1 (by simp only [Rep])⟩, x⟩
@[simp] def dIf (t : TDB) (ta tb : TD) : TD := fun s P X => t s (fun b s1 => if b = true then ta s1 P X else tb s1 P X) X
theorem de_if (hc : PT X c (lB g W t)) (ha : PE X a (lE g W ta)) (hb : PE X b (lE g W tb)) : PE X (.IfExp c a b pos) (lE g W (dIf t ta tb)) := pe_imp (pe_ifExp hc ha hb) fun σ H Q ⟨w, s, P, PX, rs, h, k, x⟩ =>
  ⟨w, s, _, PX, rs, h, fun d s1 H1 q e1 rs1 => by
    cases d with
    | true =>
      rw [if_pos rfl] at q ⊢
      exact ⟨w, s1, P, PX, rs1, q, k.ext e1, x.ext e1⟩
    | false =>
      rw [if_neg Bool.false_ne_true] at q ⊢
      exact ⟨w, s1, P, PX, rs1, q, k.ext e1, x.ext e1⟩, x⟩

/-! ### argument lists, displays -/
variable {tr : TDA} {es : List Expr}
@[simp] def dNil : TDA := fun s P _ => P [] s
@[simp] def dCons (ta : TD) (tr : TDA) : TDA := fun s P X => ta s (fun x s1 => tr s1 (fun xs s2 => P (.dat x :: xs) s2) X) X
@[simp] def dConsC (i : Nat) (tr : TDA) : TDA := fun s P X => ∃ c, s.r[i]? = some (.cell c) ∧ tr s (fun xs s2 => P (.cell c :: xs) s2) X
theorem da_nil : PA X [] (lA g W dNil) := pa_imp pa_nil fun σ H Q ⟨w, s, P, PX, rs, h, k, x⟩ => k [] s H [] h (HExt.refl _ _) rs rfl
theorem da_cons (ha : PE X e (lE g W ta)) (hr : PA X es (lA g W tr)) (hs : starEach (e :: es) X.env = (false, eval e X.env) :: starEach es X.env := by rfl) : PA X (e :: es) (lA g W (dCons ta tr)) := pa_imp (pa_cons ha hr hs) fun σ H Q ⟨w, s, P, PX, rs, h, k, x⟩ =>
  ⟨w, s, _, PX, rs, h, fun d s1 H1 v q e1 rs1 rp => ⟨w, s1, _, PX, rs1, q, fun xs s2 H2 vs q2 e2 rs2 rp2 => k _ s2 H2 _ q2 (e1.trans e2) rs2 ⟨v, vs, rfl, rp.mv (.of_ext e2), rp2⟩, x.ext e1⟩, x⟩
theorem da_consC (i : Nat) {n : Str} {p : Pos} (ha : PE X (.Name n p) (tVar i)) (hr : PA X es (lA g W tr)) (hs : starEach ((.Name n p) :: es) X.env = (false, eval (.Name n p) X.env) :: starEach es X.env := by rfl) : PA X ((.Name n p) :: es) (lA g W (dConsC i tr)) := pa_imp (pa_cons ha hr hs) fun σ H Q ⟨w, s, P, PX, rs, ⟨c, ec, h⟩, k, x⟩ => by
  obtain ⟨a, ea, es⟩ := rs.slot i _ ec
  exact ⟨.ref a, es, w, s, _, PX, rs, h, fun xs s2 H2 vs q2 e2 rs2 rp2 => k _ s2 H2 _ q2 e2 rs2 ⟨a, vs, rfl, ea, rp2⟩, x⟩
@[simp] def dats : List Sl → Option (List D)
  | [] => some []
  | .dat d :: r => (dats r).map (d :: ·)
  | _ :: _ => none
theorem dats_map (ds : List D) : dats (ds.map Sl.dat) = some ds := by
  induction ds with
  | nil => rfl
  | cons d ds ih => simp only [List.map_cons, dats, ih, Option.map_some]
theorem ArgOk.reps : ∀ {xs : List Sl} {ds : List D} {vs : List V}, ArgOk g w H xs vs → dats xs = some ds → Reps g w H ds vs
  | [], ds, vs, h, e => by simp only [dats] at e; cases e; have h : vs = [] := h; subst h; exact Reps.nil
  | .no :: _, _, _, h, e => nomatch e
  | .cell _ :: _, _, _, h, e => nomatch e
  | .dat d :: xs, ds, vs, h, e => by
    simp only [dats] at e
    obtain ⟨v, r, ev, q, z⟩ := h
    subst ev
    cases e2 : dats xs with
    | none => rw [e2] at e; cases e
    | some es =>
      rw [e2] at e
      cases e
      exact Reps.cons q (ArgOk.reps z e2)
@[simp] def dTup (t : TDA) : TD := fun s P X => t s (fun xs s1 => ∃ ds, dats xs = some ds ∧ ds.length ≤ sizeLine ∧ P (.tup ds) s1) X
@[simp] def dLst (t : TDA) : TDF := fun s P X => t s (fun xs s1 => ∃ ds, dats xs = some ds ∧ ds.length ≤ sizeLine ∧ P ds s1) X
theorem de_tup {x1} (h : PA X es (lA g W tr)) : PE X (.Tuple es x1 pos) (lE g W (dTup tr)) := pe_imp (pe_tup h) fun σ H Q ⟨w, s, P, PX, rs, h, k, x⟩ =>
  ⟨w, s, _, PX, rs, h, fun xs s1 H1 vs q e1 rs1 rp => by
    obtain ⟨ds, ed, hl, q⟩ := q
    have rp := rp.reps ed
    refine ⟨by rw [rp.len]; exact hl, fun p hp => ?_⟩
    have sm := same_upd (o := .tup vs) hp
    exact k _ s1 _ _ q (e1.trans (.of_same sm)) (rs1.same sm) (Rep.tup (rs1.mem.fresh hp) upd_same (rp.mv (.of_same sm))), x⟩
theorem df_lst (h : PA X es (lA g W tr)) : PE X (.List es pos) (lF g W (dLst tr)) := pe_imp (pe_lst h) fun σ H Q ⟨w, s, P, PX, rs, h, k, x⟩ =>
  ⟨w, s, _, PX, rs, h, fun xs s1 H1 vs q e1 rs1 rp => by
    obtain ⟨ds, ed, hl, q⟩ := q
    have rp := rp.reps ed
    refine ⟨by rw [rp.len]; exact hl, fun p hp => ?_⟩
    have sm := same_upd (o := .lst vs) hp
    have n0 : H p = none := by
      cases z : H p with
      | none => rfl
      | some o =>
        by_cases c : some p ∈ w.cs
        · exact absurd (Or.inl c) (rs1.mem.fresh hp)
        · rw [e1 _ _ c z] at hp; cases hp
    exact k ds s1 _ p vs q (e1.trans (.of_same sm)) n0 (rs1.mem.fresh hp) (rs1.out hp) upd_same (rp.mv (mv_out (.of_same sm) hp)), x⟩
/-- a new list as a datum -/
@[simp] def dF (t : TDF) : TD := fun s P X => t s (fun ds s1 => P (.lst ds) s1) X
variable {tf : TDF}
theorem de_f (h : PE X e (lF g W tf)) : PE X e (lE g W (dF tf)) := pe_imp h fun σ H Q ⟨w, s, P, PX, rs, h, k, x⟩ =>
  ⟨w, s, _, PX, rs, h, fun ds s1 H1 p vs q e1 n0 nb rs1 hp rp => k _ s1 H1 _ q e1 rs1.inn (Rep.lst nb hp (Reps.gen k_in rp)), x⟩
end
end DL

namespace DL
open PySem L2

/-! ### == over data -/
mutual
def toPy : D → PyData
  | .non => .none
  | .bl b => .bool b
  | .int i => .int i
  | .str x => .str x
  | .tup xs => .tuple (toPys xs)
  | .lst xs => .list (toPys xs)
  | .fl xs => .list (toPys xs)
  | .ins _ _ => .dict []
  | .xc _ _ _ => .dict []
  | .ct xs => .tuple (toPys xs)
def toPys : List D → List PyData
  | [] => []
  | d :: ds => toPy d :: toPys ds
end
def eqD (d e : D) : Bool := PyData.eqv (toPy d) (toPy e)
/-- may be compared -/
def okD (d : D) : Bool := SeqAt.shaped (toPy d)
theorem eqD_refl (d : D) (h : okD d = true) : eqD d d = true := by
  unfold eqD
  exact SeqAt.eqv_refl _ (SeqAt.canLay_of_shaped h)
mutual
theorem Rep.dp {K : PySem.W.Frag} {g : G} {w : Cs} {H : Hp} (hk : g.K = K) : ∀ {d : D} {v : V}, (toPy d).canLay0 = true → Rep g w H d v → Dp K H v (toPy d)
  | .non, v, _, h => by simp only [Rep] at h; subst h; exact .non
  | .bl b, v, _, h => by simp only [Rep] at h; subst h; exact .bl b
  | .int b, v, _, h => by simp only [Rep] at h; subst h; exact .int b
  | .str b, v, _, h => by simp only [Rep] at h; subst h; exact .str b
  | .tup ds, v, c, h => by
    simp only [Rep] at h
    obtain ⟨a, vs, e, n, q, r⟩ := h
    subst e
    simp only [toPy] at c ⊢
    exact .tup (SqT.of q) (Reps.dp hk (by simpa [PyData.canLay0] using c) r)
  | .lst ds, v, c, h => by
    simp only [Rep] at h
    obtain ⟨a, vs, e, n, q, r⟩ := h
    subst e
    simp only [toPy] at c ⊢
    exact .lst (SqL.of q) (Reps.dp hk (by simpa [PyData.canLay0] using c) r)
  | .ct ds, v, c, h => by
    simp only [Rep] at h
    obtain ⟨a, vs, e, n, r⟩ := h
    subst e
    simp only [toPy] at c ⊢
    refine .tup ?_ (Reps.dp hk (by simpa [PyData.canLay0] using c) r)
    rw [← hk]; exact .inr n
  | .fl ds, v, c, h => by
    simp only [Rep] at h
    obtain ⟨a, vs, e, n, r⟩ := h
    subst e
    simp only [toPy] at c ⊢
    refine .lst ?_ (Reps.dp hk (by simpa [PyData.canLay0] using c) r)
    rcases n with ⟨_, n⟩ | n
    · exact .inl n
    · rw [← hk]; exact .inr n
  | .ins _ _, v, c, h => by simp [toPy, PyData.canLay0] at c
  | .xc _ _ _, v, c, h => by simp [toPy, PyData.canLay0] at c
theorem Reps.dp {K : PySem.W.Frag} {g : G} {w : Cs} {H : Hp} (hk : g.K = K) : ∀ {ds : List D} {vs : List V}, PyData.canLayAll0 (toPys ds) = true → Reps g w H ds vs → DpAll K H vs (toPys ds)
  | [], _, _, h => by simp only [Reps] at h; subst h; simp only [toPys]; exact .nil
  | d :: ds, _, c, h => by
    simp only [Reps] at h
    obtain ⟨v, r, e, q, z⟩ := h
    subst e
    simp only [toPys] at c ⊢
    have c : (toPy d).canLay0 = true ∧ PyData.canLayAll0 (toPys ds) = true := by simpa [PyData.canLayAll0] using c
    exact .cons (Rep.dp hk c.1 q) (Reps.dp hk c.2 z)
end

section
variable {X : Cx} {g : G} {W : WX}
abbrev Same0 : ∀ {H : Hp}, Same H H := fun _ _ h => h

/-! ### ints -/
@[simp] def rI2 (f : Int → Int → D) : RD := fun x y P => match x, y with
  | .int i, .int j => P (f i j)
  | _, _ => False
@[simp] def rI2c (C : Int → Int → Prop) (f : Int → Int → D) : RD := fun x y P => match x, y with
  | .int i, .int j => C i j ∧ P (f i j)
  | _, _ => False
theorem lI2 {f : Int → Int → Int} {x y : V} {H : Hp} {Q : VK} (h : lR g (rI2 fun i j => .int (f i j)) x y H Q) : rI0 (fun i j => .int (f i j)) x y H Q := by
  obtain ⟨w, d, e, P, rd, re, r, nb, q⟩ := h
  cases d <;> cases e <;> try exact r.elim
  simp only [Rep] at rd re
  exact ⟨_, _, rd, re, q _ _ H r Same0 (by simp only [Rep])⟩
theorem lI2b {f : Int → Int → Bool} {x y : V} {H : Hp} {Q : VK} (h : lR g (rI2 fun i j => .bl (f i j)) x y H Q) : rI0 (fun i j => .bl (f i j)) x y H Q := by
  obtain ⟨w, d, e, P, rd, re, r, nb, q⟩ := h
  cases d <;> cases e <;> try exact r.elim
  simp only [Rep] at rd re
  exact ⟨_, _, rd, re, q _ _ H r Same0 (by simp only [Rep])⟩
theorem lI2c {C : Int → Int → Prop} {f : Int → Int → Int} {x y : V} {H : Hp} {Q : VK} (h : lR g (rI2c C fun i j => .int (f i j)) x y H Q) : rI C (fun i j => .int (f i j)) x y H Q := by
  obtain ⟨w, d, e, P, rd, re, r, nb, q⟩ := h
  cases d <;> cases e <;> try exact r.elim
  simp only [Rep] at rd re
  exact ⟨_, _, rd, re, r.1, q _ _ H r.2 Same0 (by simp only [Rep])⟩
@[simp] def rSubD : RD := rI2 fun i j => .int (i - j)
@[simp] def rMulD : RD := rI2c (fun i j => CMul i j ∨ CMulW i j) fun i j => .int (i * j)
@[simp] def rDivD : RD := rI2c CDivW fun i j => .int (i / j)
@[simp] def rModD : RD := rI2c (fun _ j => 0 < j) fun i j => .int (i % j)
@[simp] def rPowD : RD := rI2c CPow fun i j => .int (i ^ j.toNat)
@[simp] def rShlD : RD := rI2c CPow fun i j => .int (i * 2 ^ j.toNat)
@[simp] def rShrD : RD := rI2c (fun _ j => 0 ≤ j) fun i j => .int (i / 2 ^ j.toNat)
@[simp] def rLtD : RD := rI2 fun i j => .bl (decide (i < j))
@[simp] def rLeD : RD := rI2 fun i j => .bl (decide (i ≤ j))
@[simp] def rGtD : RD := rI2 fun i j => .bl (decide (j < i))
@[simp] def rGeD : RD := rI2 fun i j => .bl (decide (j ≤ i))
section
variable {a b : Expr} {ta tb : TD} {pos : Pos}
theorem de_sub (ha : PE X a (lE g W ta)) (hb : PE X b (lE g W tb)) : PE X (.BinOp a .Sub b pos) (lE g W (dOp rSubD ta tb)) := de_op op_sub (fun _ _ _ _ h => lI2 h) ha hb
theorem de_div (ha : PE X a (lE g W ta)) (hb : PE X b (lE g W tb)) : PE X (.BinOp a .FloorDiv b pos) (lE g W (dOp rDivD ta tb)) := de_op op_fdivW (fun _ _ _ _ h => lI2c h) ha hb
theorem de_mod (ha : PE X a (lE g W ta)) (hb : PE X b (lE g W tb)) : PE X (.BinOp a .Mod b pos) (lE g W (dOp rModD ta tb)) := de_op op_mod (fun _ _ _ _ h => lI2c h) ha hb
theorem de_pow (ha : PE X a (lE g W ta)) (hb : PE X b (lE g W tb)) : PE X (.BinOp a .Pow b pos) (lE g W (dOp rPowD ta tb)) := de_op op_pow (fun _ _ _ _ h => lI2c h) ha hb
theorem de_shl (ha : PE X a (lE g W ta)) (hb : PE X b (lE g W tb)) : PE X (.BinOp a .LShift b pos) (lE g W (dOp rShlD ta tb)) := de_op op_shl (fun _ _ _ _ h => lI2c h) ha hb
theorem de_shr (ha : PE X a (lE g W ta)) (hb : PE X b (lE g W tb)) : PE X (.BinOp a .RShift b pos) (lE g W (dOp rShrD ta tb)) := de_op op_shr (fun _ _ _ _ h => lI2c h) ha hb
/-- * of ints, of a list and an int, of a tuple and an int -/
@[simp] def rMultD : RD := fun x y P => match x, y with
  | .int i, .int j => (CMul i j ∨ CMulW i j) ∧ P (.int (i * j))
  | .lst a, .int k => (-(2 ^ 63) ≤ k ∧ k < 2 ^ 63 ∧ a.length * k.toNat ≤ sizeLine) ∧ P (.lst (List.replicate k.toNat a).flatten)
  | .tup a, .int k => (a ≠ [] ∧ 2 ≤ k ∧ k ≤ 1000 ∧ a.length ≤ 1000) ∧ P (.tup (List.replicate k.toNat a).flatten)
  | _, _ => False
theorem Reps.rep {w : Cs} {H : Hp} {ds : List D} {vs : List V} (h : Reps g w H ds vs) : ∀ k : Nat, Reps g w H (List.replicate k ds).flatten (List.replicate k vs).flatten
  | 0 => Reps.nil
  | k + 1 => by
    rw [List.replicate_succ, List.replicate_succ, List.flatten_cons, List.flatten_cons]
    exact Reps.app h (Reps.rep h k)
theorem op_mulA : OpR X (binaryOp .Mult) (fun x y H Q => rI CMul (fun i j => .int (i * j)) x y H Q ∨ rI CMulW (fun i j => .int (i * j)) x y H Q ∨ rRep x y H Q ∨ rRepT X.K x y H Q) := op_mul.or (op_mulW.or (op_rep.or op_repT))
theorem de_mul (ha : PE X a (lE g W ta)) (hb : PE X b (lE g W tb)) : PE X (.BinOp a .Mult b pos) (lE g W (dOp rMultD ta tb)) := de_op op_mulA (fun x y H Q h => by
  obtain ⟨w, d, e, P, rd, re, r, nb, q⟩ := h
  cases d <;> cases e <;> try exact r.elim
  · simp only [Rep] at rd re
    obtain ⟨c, r⟩ := r
    rcases c with c | c
    · exact .inl ⟨_, _, rd, re, c, q _ _ H r Same0 (by simp only [Rep])⟩
    · exact .inr (.inl ⟨_, _, rd, re, c, q _ _ H r Same0 (by simp only [Rep])⟩)
  · rename_i ds k
    simp only [Rep] at rd re
    obtain ⟨l, vs, e, n, hl, rv⟩ := rd
    obtain ⟨⟨c1, c2, c3, c4⟩, r⟩ := r
    refine .inr (.inr (.inr ⟨l, k, vs, e, re, SqT.of hl, fun z => c1 (by
      have := rv.len
      rw [z] at this
      exact List.length_eq_zero_iff.mp this.symm), c2, c3, by rw [rv.len]; exact c4, fun p hp => q _ _ _ r (same_upd hp) (Rep.tup (nb p hp) upd_same (Reps.mv (Reps.rep rv _) (.of_same (same_upd hp))))⟩))
  · rename_i ds k
    simp only [Rep] at rd re
    obtain ⟨l, vs, e, n, hl, rv⟩ := rd
    obtain ⟨⟨c1, c2, c3⟩, r⟩ := r
    refine .inr (.inr (.inl ⟨l, k, vs, e, re, hl, c1, c2, by rw [rv.len]; exact c3, fun p hp => q _ _ _ r (same_upd hp) (Rep.lst (nb p hp) upd_same (Reps.mv (Reps.rep rv _) (.of_same (same_upd hp))))⟩))) ha hb
/-- + of ints, lists, tuples -/
@[simp] def rAddD : RD := fun x y P => match x, y with
  | .int i, .int j => P (.int (i + j))
  | .lst a, .lst b => a.length + b.length ≤ sizeLine ∧ P (.lst (a ++ b))
  | .tup a, .tup b => a.length + b.length ≤ sizeLine ∧ P (.tup (a ++ b))
  | _, _ => False
theorem op_addA : OpR X (binaryOp .Add) (fun x y H Q => rI0 (fun i j => .int (i + j)) x y H Q ∨ rCat x y H Q ∨ rCatA X.K x y H Q) := op_add.or (op_cat.or op_catA)
theorem de_add (ha : PE X a (lE g W ta)) (hb : PE X b (lE g W tb)) : PE X (.BinOp a .Add b pos) (lE g W (dOp rAddD ta tb)) := de_op op_addA (fun x y H Q h => by
  obtain ⟨w, d, e, P, rd, re, r, nb, q⟩ := h
  cases d <;> cases e <;> try exact r.elim
  · simp only [Rep] at rd re
    exact .inl ⟨_, _, rd, re, q _ _ H r Same0 (by simp only [Rep])⟩
  · rename_i ds es
    have rd' := rd
    have re' := re
    simp only [Rep] at rd re
    obtain ⟨l, vs, e, n, hl, rv⟩ := rd
    obtain ⟨l2, vs2, e2, n2, hl2, rv2⟩ := re
    obtain ⟨c, r⟩ := r
    subst e e2
    refine .inr (.inr ⟨l, l2, vs, vs2, rfl, rfl, SqT.of hl, SqT.of hl2, by rw [rv.len, rv2.len]; exact c, fun z => ?_, fun _ z => ?_, fun _ _ p hp => q _ _ _ r (same_upd hp) (Rep.tup (nb p hp) upd_same (Reps.mv (Reps.app rv rv2) (.of_same (same_upd hp))))⟩)
    · subst z
      have e : ds = [] := by
        have z := rv.len
        exact List.length_eq_zero_iff.mp z.symm
      subst e
      exact q _ _ H r Same0 re'
    · subst z
      have e : es = [] := by
        have z := rv2.len
        exact List.length_eq_zero_iff.mp z.symm
      subst e
      rw [List.append_nil] at r
      exact q _ _ H r Same0 rd'
  · simp only [Rep] at rd re
    obtain ⟨l, vs, e, n, hl, rv⟩ := rd
    obtain ⟨l2, vs2, e2, n2, hl2, rv2⟩ := re
    obtain ⟨c, r⟩ := r
    exact .inr (.inl ⟨l, l2, vs, vs2, e, e2, hl, hl2, by rw [rv.len, rv2.len]; exact c, fun p hp => q _ _ _ r (same_upd hp) (Rep.lst (nb p hp) upd_same (Reps.mv (Reps.app rv rv2) (.of_same (same_upd hp))))⟩)) ha hb
@[simp] def rNegD : RU := fun x P => match x with
  | .int i => P (.int (-i))
  | _ => False
theorem de_neg (ha : PE X a (lE g W ta)) : PE X (.UnaryOp .USub a pos) (lE g W (dUn rNegD ta)) := de_un un_neg (fun x H Q h => by
  obtain ⟨w, d, P, rd, r, nb, q⟩ := h
  cases d <;> try exact r.elim
  simp only [Rep] at rd
  exact ⟨_, rd, q _ _ H r Same0 (by simp only [Rep])⟩) ha

/-! ### comparisons -/
@[simp] def rEqD' : RD := fun x y P => okD x = true ∧ okD y = true ∧ P (.bl (eqD x y))
@[simp] def rNeD' : RD := fun x y P => okD x = true ∧ okD y = true ∧ P (.bl (!eqD x y))
theorem l_eq (hk : g.K = X.K) : ∀ x y H Q, lR g rEqD' x y H Q → rEqD X.K x y H Q := fun x y H Q ⟨w, d, e, P, rd, re, ⟨h1, h2, r⟩, nb, q⟩ =>
  ⟨toPy d, toPy e, Rep.dp hk (SeqAt.canLay_of_shaped h1) rd, Rep.dp hk (SeqAt.canLay_of_shaped h2) re, h1, h2, q _ _ H r Same0 (by simp only [Rep]; rfl)⟩
theorem l_ne (hk : g.K = X.K) : ∀ x y H Q, lR g rNeD' x y H Q → rNeD X.K x y H Q := fun x y H Q ⟨w, d, e, P, rd, re, ⟨h1, h2, r⟩, nb, q⟩ =>
  ⟨toPy d, toPy e, Rep.dp hk (SeqAt.canLay_of_shaped h1) rd, Rep.dp hk (SeqAt.canLay_of_shaped h2) re, h1, h2, q _ _ H r Same0 (by simp only [Rep]; rfl)⟩
@[simp] def isNonD : D → Bool
  | .non => true
  | _ => false
@[simp] def rIsN : RD := fun x y P => y = .non ∧ P (.bl (isNonD x))
@[simp] def rIsnotN : RD := fun x y P => y = .non ∧ P (.bl (!isNonD x))
theorem Rep.isN {w : Cs} {H : Hp} {d : D} {v : V} (h : Rep g w H d v) : decide (v = .non) = isNonD d := by
  cases d <;> simp only [Rep] at h
  · subst h; rfl
  · subst h; rfl
  · subst h; rfl
  · subst h; rfl
  · obtain ⟨a, _, e, _⟩ := h; subst e; rfl
  · obtain ⟨a, _, e, _⟩ := h; subst e; rfl
  · obtain ⟨a, _, e, _⟩ := h; subst e; rfl
  · obtain ⟨a, _, _, e, _⟩ := h; subst e; rfl
  · obtain ⟨_, e, _⟩ := h; subst e; rfl
  · obtain ⟨a, _, e, _⟩ := h; subst e; rfl
theorem l_is : ∀ (x y : V) (H : Hp) (Q : VK), lR g rIsN x y H Q → (y = .non ∧ Q (.bl (decide (x = .non))) H) := fun x y H Q ⟨w, d, e, P, rd, re, ⟨h1, r⟩, nb, q⟩ => by
  subst h1
  simp only [Rep] at re
  exact ⟨re, q _ _ H r Same0 (by rw [rd.isN]; simp only [Rep])⟩
theorem l_isnot : ∀ (x y : V) (H : Hp) (Q : VK), lR g rIsnotN x y H Q → (y = .non ∧ Q (.bl (!decide (x = .non))) H) := fun x y H Q ⟨w, d, e, P, rd, re, ⟨h1, r⟩, nb, q⟩ => by
  subst h1
  simp only [Rep] at re
  exact ⟨re, q _ _ H r Same0 (by rw [rd.isN]; simp only [Rep])⟩
/-- in: a list of data, a tuple of ints and texts -/
@[simp] def flatD : D → Bool
  | .non | .bl _ | .int _ | .str _ => true
  | _ => false
def inD (d : D) (ds : List D) : Bool := ds.any fun z => eqD z d
theorem Rep.flat {w : Cs} {H : Hp} {d : D} {v : V} (h : Rep g w H d v) (f : flatD d = true) : flatV v = true := by
  cases d <;> simp only [Rep] at h <;> first | (subst h; rfl) | (simp [flatD] at f)
theorem Reps.flat {w : Cs} {H : Hp} : ∀ {ds : List D} {vs : List V}, Reps g w H ds vs → ds.all flatD = true → vs.all flatV = true
  | [], _, h, _ => by simp only [Reps] at h; subst h; rfl
  | d :: ds, _, h, f => by
    simp only [Reps] at h
    obtain ⟨v, r, e, q, z⟩ := h
    subst e
    rw [List.all_cons, Bool.and_eq_true] at f ⊢
    exact ⟨q.flat f.1, Reps.flat z f.2⟩
theorem eqV_D {w : Cs} {H : Hp} {d e : D} {v u : V} (h : Rep g w H d v) (k : Rep g w H e u) (f : flatD d = true) (f' : flatD e = true) : eqV v u = eqD d e := by
  cases d <;> simp only [flatD, Bool.false_eq_true] at f <;> cases e <;> simp only [flatD, Bool.false_eq_true] at f' <;> simp only [Rep] at h k <;> subst h <;> subst k <;> simp only [eqD, toPy, PyData.eqv, eqV]
theorem inV_D {w : Cs} {H : Hp} {d : D} {v : V} (h : Rep g w H d v) (f : flatD d = true) : ∀ {ds : List D} {vs : List V}, Reps g w H ds vs → ds.all flatD = true → inV v vs = inD d ds
  | [], _, k, _ => by simp only [Reps] at k; subst k; rfl
  | e :: ds, _, k, fs => by
    simp only [Reps] at k
    obtain ⟨u, r, e, q, z⟩ := k
    subst e
    rw [List.all_cons, Bool.and_eq_true] at fs
    have ih := inV_D h f z fs.2
    unfold inV inD at ih ⊢
    rw [List.any_cons, List.any_cons, ih, eqV_D q h fs.1 f]
@[simp] def rInD' (neg : Bool) : RD := fun x y P => match y with
  | .lst ds => okD x = true ∧ okD (.lst ds) = true ∧ P (.bl (if neg then !inD x ds else inD x ds))
  | .tup ds => flatD x = true ∧ ds.all flatD = true ∧ P (.bl (if neg then !inD x ds else inD x ds))
  | _ => False
theorem any_py (d : D) : ∀ ds : List D, (toPys ds).any (fun z => PyData.eqv z (toPy d)) = inD d ds
  | [] => rfl
  | e :: ds => by
    have ih := any_py d ds
    simp only [toPys, inD, List.any_cons, eqD] at ih ⊢
    rw [ih]
theorem op_inA (hu : X.A.units + 65 < cLine) : OpR X (compareOp .In) (fun x y H Q => rInD X.K x y H Q ∨ rIn X.K false x y H Q) := (op_inD hu).or op_in_seq
theorem op_notInA (hu : X.A.units + 65 < cLine) : OpR X (compareOp .NotIn) (fun x y H Q => rNotInD X.K x y H Q ∨ rIn X.K true x y H Q) := (op_notInD hu).or op_notIn_seq
theorem l_in (hk : g.K = X.K) : ∀ x y H Q, lR g (rInD' false) x y H Q → (rInD X.K x y H Q ∨ rIn X.K false x y H Q) := fun x y H Q ⟨w, d, e, P, rd, re, r, nb, q⟩ => by
  cases e <;> try exact r.elim
  · obtain ⟨h1, h2, r⟩ := r
    simp only [Rep] at re
    obtain ⟨p, vs, e, n, hp, rv⟩ := re
    exact .inr ⟨p, vs, e, .inr (SqT.of hp), rd.flat h1, rv.flat h2, q _ _ H r Same0 (by simp only [Rep, Bool.false_eq_true, if_false]; rw [inV_D rd h1 rv h2])⟩
  · rename_i ds
    obtain ⟨h1, h2, r⟩ := r
    exact .inl ⟨toPy d, toPys ds, Rep.dp hk (SeqAt.canLay_of_shaped h1) rd, by have z := Rep.dp hk (SeqAt.canLay_of_shaped h2) re; simpa only [toPy] using z, h1, by simpa only [okD, toPy] using h2, q _ _ H r Same0 (by simp only [Rep, Bool.false_eq_true, if_false]; rw [any_py])⟩
theorem l_notIn (hk : g.K = X.K) : ∀ x y H Q, lR g (rInD' true) x y H Q → (rNotInD X.K x y H Q ∨ rIn X.K true x y H Q) := fun x y H Q ⟨w, d, e, P, rd, re, r, nb, q⟩ => by
  cases e <;> try exact r.elim
  · obtain ⟨h1, h2, r⟩ := r
    simp only [Rep] at re
    obtain ⟨p, vs, e, n, hp, rv⟩ := re
    exact .inr ⟨p, vs, e, .inr (SqT.of hp), rd.flat h1, rv.flat h2, q _ _ H r Same0 (by simp only [Rep, if_true]; rw [inV_D rd h1 rv h2])⟩
  · rename_i ds
    obtain ⟨h1, h2, r⟩ := r
    exact .inl ⟨toPy d, toPys ds, Rep.dp hk (SeqAt.canLay_of_shaped h1) rd, by have z := Rep.dp hk (SeqAt.canLay_of_shaped h2) re; simpa only [toPy] using z, h1, by simpa only [okD, toPy] using h2, q _ _ H r Same0 (by simp only [Rep, if_true]; rw [any_py])⟩
end
end
end DL

namespace DL
open PySem L2

section
variable {X : Cx} {g : G} {W : WX} {pos : Pos} {a b c e : Expr} {ta tb tc : TD} {w : Cs} {H H' : Hp} {σ : L2.St} {s : S}

/-! ### items, slices -/
@[simp] def rIxD : RD := fun x y P => match x, y with
  | .lst ds, .int i => ∃ d, atI ds i = some d ∧ P d
  | .tup ds, .int i => ∃ d, atI ds i = some d ∧ P d
  | .fl ds, .int i => ∃ d, atI ds i = some d ∧ P d
  | _, _ => False
theorem Reps.atI {ds : List D} {vs : List V} (r : Reps g w H ds vs) {i : Int} {d : D} (h : L2.atI ds i = some d) : ∃ v, L2.atI vs i = some v ∧ Rep g w H d v := by
  unfold L2.atI at h ⊢
  rw [r.len]
  cases e : ixN ds.length i with
  | none => rw [e] at h; cases h
  | some j =>
    rw [e] at h
    exact r.get' h
theorem l_ix (hk : g.K = X.K) : ∀ x y H Q, lR g rIxD x y H Q → (rIxL X.K x y H Q ∨ rIxT X.K x y H Q) := fun x y H Q ⟨w, d, e, P, rd, re, r, nb, q⟩ => by
  cases d <;> cases e <;> try exact r.elim
  · simp only [Rep] at rd re
    obtain ⟨p, vs, e, n, hp, rv⟩ := rd
    obtain ⟨d, ed, r⟩ := r
    obtain ⟨v, ev, rp⟩ := rv.atI ed
    exact .inr ⟨p, vs, _, v, e, re, SqT.of hp, ev, q _ _ H r Same0 rp⟩
  · simp only [Rep] at rd re
    obtain ⟨p, vs, e, n, hp, rv⟩ := rd
    obtain ⟨d, ed, r⟩ := r
    obtain ⟨v, ev, rp⟩ := rv.atI ed
    exact .inl ⟨p, vs, _, v, e, re, SqL.of hp, ev, q _ _ H r Same0 rp⟩
  · simp only [Rep] at rd re
    obtain ⟨p, vs, e, n, rv⟩ := rd
    obtain ⟨d, ed, r⟩ := r
    obtain ⟨v, ev, rp⟩ := rv.atI ed
    refine .inl ⟨p, vs, _, v, e, re, ?_, ev, q _ _ H r Same0 rp⟩
    rcases n with ⟨_, n⟩ | n
    · exact .inl n
    · rw [← hk]; exact .inr n
theorem ix_A : IxR X (fun x y H Q => rIxL X.K x y H Q ∨ rIxT X.K x y H Q) := ix_list.or ix_tup
theorem de_ix (hk : g.K = X.K) (ha : PE X a (lE g W ta)) (hb : PE X b (lE g W tb)) (hs : PlainIx b) : PE X (.Subscript a b pos) (lE g W (dOp rIxD ta tb)) := pe_imp (pe_ix ix_A ha hb hs) (lE_bin (l_ix hk))
/-- an item of a cell's list -/
@[simp] def dIxC (i : Nat) (tb : TD) : TD := fun s P X => ∃ c, s.r[i]? = some (.cell c) ∧ tb s (fun y s1 => ∃ ds j d, s1.M[c]? = some (some (.lst ds)) ∧ y = .int j ∧ atI ds j = some d ∧ P d s1) X
theorem de_ixC (i : Nat) {x : Str} {p : Pos} (ha : PE X (.Name x p) (tVar i)) (hb : PE X b (lE g W tb)) (hs : PlainIx b) : PE X (.Subscript (.Name x p) b pos) (lE g W (dIxC i tb)) := pe_imp (pe_ix ix_list ha hb hs) fun σ H Q ⟨w, s, P, PX, rs, ⟨c, ec, h⟩, k, xk⟩ => by
  obtain ⟨a, ea, ev⟩ := rs.slot i _ ec
  refine ⟨.ref a, ev, w, s, _, PX, rs, h, fun d s1 H1 v q e1 rs1 rp => ?_, xk⟩
  obtain ⟨ds, j, d2, em, ed, ei, q⟩ := q
  subst ed
  simp only [Rep] at rp
  obtain ⟨a', ea', vs, hp, rv⟩ := rs1.mem.at_ c _ em
  rw [ea] at ea'
  cases ea'
  obtain ⟨v2, ev2, rp2⟩ := rv.atI ei
  exact ⟨a, vs, j, v2, rfl, rp, SqL.of hp, ev2, k _ s1 H1 _ q e1 rs1 rp2⟩
/-- a slice's part -/
abbrev TDO := S → (Option Int → S → Prop) → KX → Prop
def lO (g : G) (W : WX) (td : TDO) : TO := fun σ H Q => ∃ w s P PX, RS g w H σ s ∧ td s P PX ∧ (∀ o s' H', P o s' → HExt w H H' → RS g w H' σ s' → Q o H') ∧ XOk g w H σ PX W
@[simp] def dNoPart : TDO := fun s P _ => P none s
@[simp] def dPart (t : TD) : TDO := fun s P X => t s (fun y s1 => ∃ i, y = .int i ∧ P (some i) s1) X
theorem do_none : PO X none (lO g W dNoPart) := ⟨fun pins s σ H Q I ⟨w, s1, P, PX, rs, h, k, x⟩ => po_none.run pins s σ H Q I (k _ s1 H h (HExt.refl _ _) rs)⟩
theorem do_some {t : TD} (h : PE X e (lE g W t)) : PO X (some e) (lO g W (dPart t)) := ⟨fun pins s σ H Q I ⟨w, s1, P, PX, rs, hh, k, x⟩ => (po_some h).run pins s σ H Q I ⟨w, s1, _, PX, rs, hh, fun d s2 H2 v q e1 rs1 rp => by
  obtain ⟨i, e, q⟩ := q
  subst e
  simp only [Rep] at rp
  exact ⟨i, rp, k _ s2 H2 q e1 rs1⟩, x⟩⟩
def cutD (xs : List D) (lo hi : Option Int) : List D := (xs.drop (HT.sIx xs.length 0 lo)).take (HT.sIx xs.length xs.length hi - HT.sIx xs.length 0 lo)
theorem Reps.cut {ds : List D} {vs : List V} (r : Reps g w H ds vs) (lo hi : Option Int) : Reps g w H (cutD ds lo hi) (cutV vs lo hi) := by
  unfold cutD cutV
  rw [r.len]
  exact Reps.take _ (Reps.drop _ r)
variable {lo hi : Option Expr} {tl th : TDO} {p2 : Pos}
theorem fresh0 {p : Addr} (e : HExt w H H') (rs : ¬ w.bad p) (n : H' p = none) : H p = none := by
  cases z : H p with
  | none => rfl
  | some o => rw [e _ _ (fun q => rs (.inl q)) z] at n; cases n
@[simp] def dSlL (t : TD) (tl th : TDO) : TDF := fun s P X => t s (fun x s1 => tl s1 (fun l s2 => th s2 (fun u s3 => ∃ ds, x = .lst ds ∧ P (cutD ds l u) s3) X) X) X
theorem df_slice (ha : PE X e (lE g W ta)) (hl : PO X lo (lO g W tl)) (hh : PO X hi (lO g W th)) : PE X (.Subscript e (.Slice lo hi none p2) pos) (lF g W (dSlL ta tl th)) := pe_imp (pe_slice sl_list ha hl hh) fun σ H Q ⟨w, s, P, PX, rs, h, k, x⟩ =>
  ⟨w, s, _, PX, rs, h, fun d s1 H1 v q e1 rs1 rp => ⟨w, s1, _, PX, rs1, q, fun l s2 H2 q e2 rs2 => ⟨w, s2, _, PX, rs2, q, fun u s3 H3 q3 e3 rs3 => by
    obtain ⟨ds, e, q4⟩ := q3
    subst e
    simp only [Rep] at rp
    obtain ⟨a, vs, e, n, ha, rv⟩ := rp
    have ha3 : H3 a = some (.lst vs) := e3 _ _ (fun z => n (.inl z)) (e2 _ _ (fun z => n (.inl z)) ha)
    have rv3 := (Reps.mv rv (.of_ext e2)).mv (.of_ext e3)
    refine ⟨a, vs, e, SqL.of ha3, fun p hp => ?_⟩
    have e0 := e1.trans (e2.trans e3)
    have nb := rs3.mem.fresh hp
    exact k _ s3 _ p _ q4 (e0.trans (.of_same (same_upd hp))) (fresh0 e0 nb hp) nb (rs3.out hp) upd_same ((rv3.cut l u).mv (mv_out (.of_same (same_upd hp)) hp)), (x.ext e1).ext e2⟩, x.ext e1⟩, x⟩
@[simp] def dSlT (t : TD) (tl th : TDO) : TD := fun s P X => t s (fun x s1 => tl s1 (fun l s2 => th s2 (fun u s3 => ∃ ds, x = .tup ds ∧ P (.tup (cutD ds l u)) s3) X) X) X
theorem de_sliceT (ha : PE X e (lE g W ta)) (hl : PO X lo (lO g W tl)) (hh : PO X hi (lO g W th)) : PE X (.Subscript e (.Slice lo hi none p2) pos) (lE g W (dSlT ta tl th)) := pe_imp (pe_slice sl_tupA ha hl hh) fun σ H Q ⟨w, s, P, PX, rs, h, k, x⟩ =>
  ⟨w, s, _, PX, rs, h, fun d s1 H1 v q e1 rs1 rp => ⟨w, s1, _, PX, rs1, q, fun l s2 H2 q e2 rs2 => ⟨w, s2, _, PX, rs2, q, fun u s3 H3 q3 e3 rs3 => by
    obtain ⟨ds, e, q4⟩ := q3
    subst e
    simp only [Rep] at rp
    obtain ⟨a, vs, e, n, ha, rv⟩ := rp
    subst e
    have ha3 : H3 a = some (.tup vs) := e3 _ _ (fun z => n (.inl z)) (e2 _ _ (fun z => n (.inl z)) ha)
    have rv3 := (Reps.mv rv (.of_ext e2)).mv (.of_ext e3)
    have e0 := e1.trans (e2.trans e3)
    refine ⟨a, vs, rfl, SqT.of ha3, fun hw => ?_, fun _ p hp => ?_⟩
    · refine k _ s3 H3 _ q4 e0 rs3 ?_
      have ec : cutD ds l u = ds := by
        unfold cutD
        rw [rv.len] at hw
        rw [hw.1, hw.2]
        simp
      rw [ec]
      exact Rep.tup n ha3 rv3
    · have nb := rs3.mem.fresh hp
      exact k _ s3 _ _ q4 (e0.trans (.of_same (same_upd hp))) (rs3.same (same_upd hp)) (Rep.tup nb upd_same ((rv3.cut l u).mv (.of_same (same_upd hp)))), (x.ext e1).ext e2⟩, x.ext e1⟩, x⟩

/-! ### built-in functions, by values -/
abbrev RCd := List Sl → Mem → (D → Prop) → Prop
def lC (g : G) (r : RCd) : List V → Hp → VK → Prop := fun vs H Q => ∃ w xs M P, ArgOk g w H xs vs ∧ MemOk g w H M ∧ r xs M P ∧ ∀ z v H', P z → Same H H' → Rep g w H' z v → Q v H'
variable {x : Str} {p : Pos} {es : List Expr} {t : TDA} {id T : String}
@[simp] def dCB (r : RCd) (t : TDA) : TD := fun s P X => t s (fun xs s1 => r xs s1.M fun z => P z s1) X
theorem l_cb {r : List V → Hp → VK → Prop} {rd : RCd} (hr : ∀ vs H Q, lC g rd vs H Q → r vs H Q) : ∀ σ H Q, lE g W (dCB rd t) σ H Q → tCB r (lA g W t) σ H Q := fun σ H Q ⟨w, s, P, PX, rs, h, k, x⟩ =>
  ⟨w, s, _, PX, rs, h, fun xs s1 H1 vs q e1 rs1 ra => hr _ _ _ ⟨w, xs, s1.M, _, ra, rs1.mem, q, fun z v H' pz sm rz => k z s1 H' v pz (e1.trans (.of_same sm)) (rs1.same sm) rz⟩, x⟩
theorem ArgOk.one {d : D} {vs : List V} (h : ArgOk g w H [.dat d] vs) : ∃ v, vs = [v] ∧ Rep g w H d v := by
  obtain ⟨v, r, e, q, z⟩ := h
  have z : r = [] := z
  subst z
  exact ⟨v, e, q⟩
theorem ArgOk.two {d d' : D} {vs : List V} (h : ArgOk g w H [.dat d, .dat d'] vs) : ∃ v v', vs = [v, v'] ∧ Rep g w H d v ∧ Rep g w H d' v' := by
  obtain ⟨v, r, e, q, z⟩ := h
  obtain ⟨v', e', q'⟩ := ArgOk.one z
  subst e'
  exact ⟨v, v', e, q, q'⟩
theorem ArgOk.cell1 {c : Nat} {vs : List V} (h : ArgOk g w H [.cell c] vs) : ∃ a, vs = [.ref a] ∧ w.cs[c]? = some (some a) := by
  obtain ⟨v, r, e, q, z⟩ := h
  have z : r = [] := z
  subst z
  exact ⟨v, e, q⟩
/-- len -/
@[simp] def rLenD : RCd := fun xs M P => match xs with
  | [.dat (.lst ds)] => P (.int ds.length)
  | [.dat (.tup ds)] => P (.int ds.length)
  | [.dat (.fl ds)] => P (.int ds.length)
  | [.cell c] => ∃ ds, M[c]? = some (some (.lst ds)) ∧ P (.int ds.length)
  | _ => False
def rLenV (K : PySem.W.Frag) : List V → Hp → VK → Prop := fun xs H Q => ∃ p ys, xs = [.ref p] ∧ (SqL K H p ys ∨ SqT K H p ys) ∧ Q (.int ys.length) H
theorem l_len (hk : g.K = X.K) : ∀ vs H Q, lC g rLenD vs H Q → rLenV X.K vs H Q := fun vs H Q ⟨w, xs, M, P, ha, m, r, q⟩ => by
  match xs, r, ha with
  | [.dat (.lst ds)], r, ha =>
    obtain ⟨v, e, h⟩ := ArgOk.one ha
    subst e
    simp only [Rep] at h
    obtain ⟨p, ys, e, n, hp, rv⟩ := h
    subst e
    exact ⟨p, ys, rfl, .inl (SqL.of hp), q _ _ H r Same0 (by simp only [Rep, rv.len])⟩
  | [.dat (.tup ds)], r, ha =>
    obtain ⟨v, e, h⟩ := ArgOk.one ha
    subst e
    simp only [Rep] at h
    obtain ⟨p, ys, e, n, hp, rv⟩ := h
    subst e
    exact ⟨p, ys, rfl, .inr (SqT.of hp), q _ _ H r Same0 (by simp only [Rep, rv.len])⟩
  | [.dat (.fl ds)], r, ha =>
    obtain ⟨v, e, h⟩ := ArgOk.one ha
    subst e
    simp only [Rep] at h
    obtain ⟨p, ys, e, n, rv⟩ := h
    subst e
    refine ⟨p, ys, rfl, .inl ?_, q _ _ H r Same0 (by simp only [Rep, rv.len])⟩
    rcases n with ⟨_, n⟩ | n
    · exact .inl n
    · rw [← hk]; exact .inr n
  | [.cell c], ⟨ds, em, r⟩, ha =>
    obtain ⟨a, e, ea⟩ := ArgOk.cell1 ha
    subst e
    obtain ⟨a', ea', vs, hp, rv⟩ := m.at_ c _ em
    rw [ea] at ea'
    cases ea'
    exact ⟨a, vs, rfl, .inl (SqL.of hp), q _ _ H r Same0 (by simp only [Rep, rv.len])⟩
theorem de_len (hk : g.K = X.K) (hg : Gl X "len") (hm : X.mg "len" = none) (ha : PA X (e :: es) (lA g W t)) (he : starEach (e :: es) X.env = (false, eval e X.env) :: starEach es X.env := by rfl) (hpl : (backTo pos (starEach es X.env)).any (·.1) = false := by rfl) :
    PE X (.Call (.Name "len" p) (e :: es) [] pos) (lE g W (dCB rLenD t)) := pe_imp (pe_callB call_len_seq hg hm PySem.boot_len ha (by decide) (by decide) he hpl) (l_cb (l_len hk))
/-- max, min of two ints; int -/
@[simp] def r2I (f : Int → Int → Int) : RCd := fun xs M P => match xs with
  | [.dat (.int i), .dat (.int j)] => P (.int (f i j))
  | _ => False
theorem l_2I {f : Int → Int → Int} : ∀ (vs : List V) (H : Hp) (Q : VK), lC g (r2I f) vs H Q → ∃ i j, vs = [.int i, .int j] ∧ Q (.int (f i j)) H := fun vs H Q ⟨w, xs, M, P, ha, m, r, q⟩ => by
  match xs, r, ha with
  | [.dat (.int i), .dat (.int j)], r, ha =>
    obtain ⟨v, v', e, h, h'⟩ := ArgOk.two ha
    simp only [Rep] at h h'
    subst h h' e
    exact ⟨i, j, rfl, q _ _ H r Same0 (by simp only [Rep])⟩
theorem de_max2 (hc : X.calm = true) (hg : Gl X "max") (hm : X.mg "max" = none) (ha : PA X (e :: es) (lA g W t)) (he : starEach (e :: es) X.env = (false, eval e X.env) :: starEach es X.env := by rfl) (hpl : (backTo pos (starEach es X.env)).any (·.1) = false := by rfl) :
    PE X (.Call (.Name "max" p) (e :: es) [] pos) (lE g W (dCB (r2I fun i j => if j > i then j else i) t)) := pe_imp (pe_callB (call_max2 hc) hg hm (by decide +kernel) ha (by decide) (by decide) he hpl) (l_cb l_2I)
theorem de_min2 (hc : X.calm = true) (hg : Gl X "min") (hm : X.mg "min" = none) (ha : PA X (e :: es) (lA g W t)) (he : starEach (e :: es) X.env = (false, eval e X.env) :: starEach es X.env := by rfl) (hpl : (backTo pos (starEach es X.env)).any (·.1) = false := by rfl) :
    PE X (.Call (.Name "min" p) (e :: es) [] pos) (lE g W (dCB (r2I fun i j => if j < i then j else i) t)) := pe_imp (pe_callB (call_min2 hc) hg hm (by decide +kernel) ha (by decide) (by decide) he hpl) (l_cb l_2I)
@[simp] def rIntD : RCd := fun xs M P => match xs with
  | [.dat (.int i)] => P (.int i)
  | [.dat (.bl k)] => P (.int (if k then 1 else 0))
  | _ => False
theorem l_int : ∀ (vs : List V) (H : Hp) (Q : VK), lC g rIntD vs H Q → (∃ i, vs = [.int i] ∧ Q (.int i) H) ∨ ∃ k, vs = [.bl k] ∧ Q (.int (if k then 1 else 0)) H := fun vs H Q ⟨w, xs, M, P, ha, m, r, q⟩ => by
  match xs, r, ha with
  | [.dat (.int i)], r, ha =>
    obtain ⟨v, e, h⟩ := ArgOk.one ha
    simp only [Rep] at h
    subst h e
    exact .inl ⟨i, rfl, q _ _ H r Same0 (by simp only [Rep])⟩
  | [.dat (.bl i)], r, ha =>
    obtain ⟨v, e, h⟩ := ArgOk.one ha
    simp only [Rep] at h
    subst h e
    exact .inr ⟨i, rfl, q _ _ H r Same0 (by simp only [Rep])⟩
theorem de_intc (hg : Gl X "int") (hm : X.mg "int" = none) (ha : PA X (e :: es) (lA g W t)) (he : starEach (e :: es) X.env = (false, eval e X.env) :: starEach es X.env := by rfl) (hpl : (backTo pos (starEach es X.env)).any (·.1) = false := by rfl) :
    PE X (.Call (.Name "int" p) (e :: es) [] pos) (lE g W (dCB rIntD t)) := pe_imp (pe_callTy call_int1 hg hm (by decide +kernel) ha (by decide) (by decide) he hpl) (l_cb l_int)
/-- tuple(list), tuple(tuple) -/
@[simp] def rTupD : RCd := fun xs M P => match xs with
  | [.dat (.lst ds)] => P (.tup ds)
  | [.dat (.tup ds)] => P (.tup ds)
  | [.cell c] => ∃ ds, M[c]? = some (some (.lst ds)) ∧ P (.tup ds)
  | _ => False
def rTupV (K : PySem.W.Frag) : List V → Hp → VK → Prop := fun xs H Q => ∃ p ys, xs = [.ref p] ∧ ((SqL K H p ys ∧ ∀ l, H l = none → Q (.ref l) (upd H l (.tup ys))) ∨ (SqT K H p ys ∧ Q (.ref p) H))
theorem l_tup : ∀ vs H Q, lC g rTupD vs H Q → rTupV X.K vs H Q := fun vs H Q ⟨w, xs, M, P, ha, m, r, q⟩ => by
  match xs, r, ha with
  | [.dat (.lst ds)], r, ha =>
    obtain ⟨v, e, h⟩ := ArgOk.one ha
    subst e
    simp only [Rep] at h
    obtain ⟨p, ys, e, n, hp, rv⟩ := h
    subst e
    exact ⟨p, ys, rfl, .inl ⟨SqL.of hp, fun l hl => q _ _ _ r (same_upd hl) (Rep.tup (m.fresh hl) upd_same (rv.mv (.of_same (same_upd hl))))⟩⟩
  | [.dat (.tup ds)], r, ha =>
    obtain ⟨v, e, h⟩ := ArgOk.one ha
    subst e
    have h0 := h
    simp only [Rep] at h
    obtain ⟨p, ys, e, n, hp, rv⟩ := h
    subst e
    exact ⟨p, ys, rfl, .inr ⟨SqT.of hp, q _ _ H r Same0 h0⟩⟩
  | [.cell c], ⟨ds, em, r⟩, ha =>
    obtain ⟨a, e, ea⟩ := ArgOk.cell1 ha
    subst e
    obtain ⟨a', ea', vs, hp, rv⟩ := m.at_ c _ em
    rw [ea] at ea'
    cases ea'
    exact ⟨a, vs, rfl, .inl ⟨SqL.of hp, fun l hl => q _ _ _ r (same_upd hl) (Rep.tup (m.fresh hl) upd_same (rv.mv (.of_same (same_upd hl))))⟩⟩
theorem de_tuple (hg : Gl X "tuple") (hm : X.mg "tuple" = none) (ha : PA X (e :: es) (lA g W t)) (he : starEach (e :: es) X.env = (false, eval e X.env) :: starEach es X.env := by rfl) (hpl : (backTo pos (starEach es X.env)).any (·.1) = false := by rfl) :
    PE X (.Call (.Name "tuple" p) (e :: es) [] pos) (lE g W (dCB rTupD t)) := pe_imp (pe_callTy call_tuple_of hg hm (by decide +kernel) ha (by decide) (by decide) he hpl) (l_cb l_tup)
end
end DL

namespace DL
open PySem L2

/-! ### statements -/
structure EK where
  nx : S → Prop
  rt : D → S → Prop
  bk : S → Prop
  ct : S → Prop
abbrev TSd := S → EK → KX → Prop
section
variable {X : Cx} {g : G} {W : WX} {pos : Pos} {a b c e : Expr} {ta tb tc : TD} {w : Cs} {H H' : Hp} {σ : L2.St} {s : S}
def NOk (g : G) (w : Cs) (H : Hp) (P : S → Prop) (Q : L2.St → Hp → Prop) : Prop := ∀ s' w' H' σ', P s' → Mv w H w' H' → RS g w' H' σ' s' → Q σ' H'
structure SOk (g : G) (w : Cs) (H : Hp) (E : EK) (D : Ends) : Prop where
  nx : NOk g w H E.nx D.nx
  bk : NOk g w H E.bk D.bk
  ct : NOk g w H E.ct D.ct
  rt : ∀ d s' w' H' σ' v, E.rt d s' → Mv w H w' H' → RS g w' H' σ' s' → Rep g w' H' d v → D.rt v H'
def XOkS (g : G) (w : Cs) (H : Hp) (P : KX) (W : WX) : Prop := ∀ c x s' w' H' σ' dd v, P c x s' → Mv w H w' H' → RS g w' H' σ' s' → XdAt w' H' dd v → Rep g w' H' x v → W (.ref (g.CA c)) (some dd) σ' H'
def lS (g : G) (W : WX) (td : TSd) : TS := fun D σ H => ∃ w s E PX, RS g w H σ s ∧ td s E PX ∧ SOk g w H E D ∧ XOkS g w H PX W
/-- the same wish wherever the frame stands: what lies in W's place may not look at the slots. In a try it does. -/
theorem NOk.mv {P : S → Prop} {Q : L2.St → Hp → Prop} {w' : Cs} (k : NOk g w H P Q) (m : Mv w H w' H') (av : ∀ x, x ∈ w.av → some x ∉ w.cs ∧ ∃ o, H x = some o) : NOk g w' H' P Q := fun s2 w2 H2 σ2 p m2 r => k s2 w2 H2 σ2 p (m.trans m2 av) r
theorem SOk.mv {E : EK} {D : Ends} {w' : Cs} (k : SOk g w H E D) (m : Mv w H w' H') (av : ∀ x, x ∈ w.av → some x ∉ w.cs ∧ ∃ o, H x = some o) : SOk g w' H' E D :=
  ⟨k.nx.mv m av, k.bk.mv m av, k.ct.mv m av, fun d s2 w2 H2 σ2 v p m2 r q => k.rt d s2 w2 H2 σ2 v p (m.trans m2 av) r q⟩
theorem XOkS.mv {P : KX} {w' : Cs} (k : XOkS g w H P W) (m : Mv w H w' H') (av : ∀ x, x ∈ w.av → some x ∉ w.cs ∧ ∃ o, H x = some o) : XOkS g w' H' P W :=
  fun c x s2 w2 H2 σ2 dd v p m2 r q q2 => k c x s2 w2 H2 σ2 dd v p (m.trans m2 av) r q q2
theorem XOkS.ex {P : KX} (k : XOkS g w H P W) : XOk g w H σ P W := fun c x s2 H2 dd v p m r q q2 => k c x s2 w H2 σ dd v p (.of_ext m) r q q2
variable {st : Stmt} {rest : List Stmt} {t u : TSd} {td : TD}
@[simp] def dNext : TSd := fun s E _ => E.nx s
@[simp] def dSeq (t u : TSd) : TSd := fun s E X => t s { E with nx := fun s' => u s' E X } X
@[simp] def dRet (td : TD) : TSd := fun s E X => td s (fun d s' => E.rt d s') X
@[simp] def dRetN : TSd := fun s E _ => E.rt .non s
@[simp] def dDrop (td : TD) : TSd := fun s E X => td s (fun _ s' => E.nx s') X
@[simp] def dIfS (c : TDB) (t u : TSd) : TSd := fun s E X => c s (fun b s1 => if b = true then t s1 E X else u s1 E X) X
@[simp] def dBreak : TSd := fun s E _ => E.bk s
@[simp] def dCont : TSd := fun s E _ => E.ct s
theorem dss_nil : PSs X [] (lS g W dNext) := pss_imp pss_nil fun D σ H ⟨w, s, E, PX, rs, h, k, _⟩ => k.nx s w H σ h (Mv.refl _ _) rs
theorem lS_seq {t' u' : TS} (ht : ∀ D σ H, lS g W t D σ H → t' D σ H) (hu : ∀ D σ H, lS g W u D σ H → u' D σ H) : ∀ D σ H, lS g W (dSeq t u) D σ H → tSeq t' u' D σ H := fun D σ H ⟨w, s, E, PX, rs, h, k, x⟩ =>
  ht _ _ _ ⟨w, s, _, PX, rs, h, ⟨fun s1 w1 H1 σ1 q m rs1 => hu _ _ _ ⟨w1, s1, E, PX, rs1, q, k.mv m rs.mem.av, x.mv m rs.mem.av⟩, k.bk, k.ct, k.rt⟩, x⟩
theorem dss_cons (h1 : PS X st (lS g W t)) (h2 : PSs X rest (lS g W u)) : PSs X (st :: rest) (lS g W (dSeq t u)) := pss_imp (pss_cons h1 h2) (lS_seq (fun _ _ _ h => h) fun _ _ _ h => h)
theorem dss_one (h1 : PS X st (lS g W t)) : PSs X [st] (lS g W t) := pss_one h1
theorem ds_pass : PS X (.Pass pos) (lS g W dNext) := ps_imp ps_pass fun D σ H ⟨w, s, E, PX, rs, h, k, _⟩ => k.nx s w H σ h (Mv.refl _ _) rs
theorem ds_break : PS X (.Break pos) (lS g W dBreak) := ps_imp ps_break fun D σ H ⟨w, s, E, PX, rs, h, k, _⟩ => k.bk s w H σ h (Mv.refl _ _) rs
theorem ds_cont : PS X (.Continue pos) (lS g W dCont) := ps_imp ps_continue fun D σ H ⟨w, s, E, PX, rs, h, k, _⟩ => k.ct s w H σ h (Mv.refl _ _) rs
theorem ds_ret (he : PE X e (lE g W td)) : PS X (.Return (some e) pos) (lS g W (dRet td)) := ps_imp (ps_ret he) fun D σ H ⟨w, s, E, PX, rs, h, k, x⟩ =>
  ⟨w, s, _, PX, rs, h, fun d s1 H1 v q e1 rs1 rp => k.rt d s1 w H1 σ v q (.of_ext e1) rs1 rp, x.ex⟩
theorem ds_retN : PS X (.Return none pos) (lS g W dRetN) := ps_imp ps_retN fun D σ H ⟨w, s, E, PX, rs, h, k, x⟩ => k.rt .non s w H σ _ h (Mv.refl _ _) rs (by simp only [Rep])
theorem ds_expr (he : PE X e (lE g W td)) (hs : swapsWith e none pos.line X.env = pure false := by rfl) : PS X (.Expr e pos) (lS g W (dDrop td)) := ps_imp (ps_expr he hs) fun D σ H ⟨w, s, E, PX, rs, h, k, x⟩ =>
  ⟨w, s, _, PX, rs, h, fun d s1 H1 v q e1 rs1 rp => k.nx s1 w H1 σ q (.of_ext e1) rs1, x.ex⟩
theorem ds_if {a b : List Stmt} {tc : TDB} (hc : PT X c (lB g W tc)) (ha : PSs X a (lS g W t)) (hb : PSs X b (lS g W u)) : PS X (.If c a b pos) (lS g W (dIfS tc t u)) := ps_imp (ps_if hc ha hb) fun D σ H ⟨w, s, E, PX, rs, h, k, x⟩ =>
  ⟨w, s, _, PX, rs, h, fun d s1 H1 q e1 rs1 => by
    have m : Mv w H w H1 := .of_ext e1
    cases d with
    | true =>
      rw [if_pos rfl] at q
      show lS g W t D σ H1
      exact ⟨w, s1, E, PX, rs1, q, k.mv m rs.mem.av, x.mv m rs.mem.av⟩
    | false =>
      rw [if_neg Bool.false_ne_true] at q
      show lS g W u D σ H1
      exact ⟨w, s1, E, PX, rs1, q, k.mv m rs.mem.av, x.mv m rs.mem.av⟩, x.ex⟩
/-- x = e: a datum -/
@[simp] def dSet (i : Nat) (td : TD) : TSd := fun s E X => td s (fun d s1 => E.nx { s1 with r := s1.r.set i (.dat d) }) X
theorem lS_set {i : Nat} {te : TE} (he : ∀ σ H Q, lE g W td σ H Q → te σ H Q) : ∀ D σ H, lS g W (dSet i td) D σ H → tAsg te (gName i) D σ H := fun D σ H ⟨w, s, E, PX, rs, h, k, x⟩ =>
  he _ _ _ ⟨w, s, _, PX, rs, h, fun d s1 H1 v q e1 rs1 rp => k.nx _ w H1 _ q (.of_ext e1) (rs1.set rp), x.ex⟩
theorem ds_set {st : Stmt} {i : Nat} (h : PS X st (tAsg (lE g W td) (gName i))) : PS X st (lS g W (dSet i td)) := ps_imp h (lS_set fun _ _ _ h => h)
/-- x = a new list that will change: a cell -/
@[simp] def dSetF (i : Nat) (tf : TDF) : TSd := fun s E X => tf s (fun ds s1 => E.nx { r := s1.r.set i (.cell s1.M.length), M := s1.M ++ [some (.lst ds)] }) X
theorem lS_setF {i : Nat} {tf : TDF} {te : TE} (he : ∀ σ H Q, lF g W tf σ H Q → te σ H Q) : ∀ D σ H, lS g W (dSetF i tf) D σ H → tAsg te (gName i) D σ H := fun D σ H ⟨w, s, E, PX, rs, h, k, x⟩ =>
  he _ _ _ ⟨w, s, _, PX, rs, h, fun ds s1 H1 p vs q e1 n0 nb rs1 hp rp => by
    refine k.nx _ (w.cell p) H1 _ q (mv_cell e1 n0 nb) ?_
    have r2 := rs1.toCell nb hp rp
    have z := r2.put (i := i) (o := some (.ref p)) (x := .cell s1.M.length) fun σ' e => ⟨p, by
      have ml : w.cs.length = s1.M.length := rs1.mem.len
      show (w.cs ++ [some p])[s1.M.length]? = _
      rw [← ml, List.getElem?_append_right (Nat.le_refl _), Nat.sub_self]
      rfl, e⟩
    exact z, x.ex⟩
theorem ds_setF {st : Stmt} {i : Nat} {tf : TDF} (h : PS X st (tAsg (lF g W tf) (gName i))) : PS X st (lS g W (dSetF i tf)) := ps_imp h (lS_setF fun _ _ _ h => h)
/-- a cell is let go: its list is a datum from now on -/
def thaw (c : Nat) (ds : List D) : Sl → Sl
  | .cell j => if j = c then .dat (.lst ds) else .cell j
  | x => x
@[simp] theorem thaw_no (c : Nat) (ds : List D) : thaw c ds .no = .no := rfl
@[simp] theorem thaw_dat (c : Nat) (ds : List D) (d : D) : thaw c ds (.dat d) = .dat d := rfl
@[simp] theorem thaw_cell (c j : Nat) (ds : List D) : thaw c ds (.cell j) = if j = c then .dat (.lst ds) else .cell j := rfl
@[simp] def dFreeze (i : Nat) (t : TSd) : TSd := fun s E X => ∃ c ds, s.r[i]? = some (.cell c) ∧ s.M[c]? = some (some (.lst ds)) ∧ t { r := s.r.map (thaw c ds), M := s.M.set c none } E X
theorem lS_freeze {i : Nat} : ∀ D σ H, lS g W (dFreeze i t) D σ H → lS g W t D σ H := fun D σ H ⟨w, s, E, PX, rs, ⟨c, ds, ei, em, h⟩, k, x⟩ => by
  obtain ⟨p, ep, vs, hp, rv⟩ := rs.mem.at_ c _ em
  have hcl : c < w.cs.length := (List.getElem?_eq_some_iff.mp ep).1
  have nb : ¬ Cs.bad { w with cs := w.cs.set c none } p := fun z => by
    rcases z with z | z
    · obtain ⟨j, ej⟩ := List.getElem?_of_mem z
      by_cases hj : c = j
      · subst hj
        rw [List.getElem?_set_self hcl] at ej
        cases ej
      · rw [List.getElem?_set_ne hj] at ej
        exact hj (rs.mem.inj c j p ep ej)
    · exact (rs.mem.av p z).1 (List.mem_of_getElem? ep)
  have sub : ∀ a, Cs.bad { w with cs := w.cs.set c none } a → w.bad a := fun a z => by
    rcases z with z | z
    · obtain ⟨j, ej⟩ := List.getElem?_of_mem z
      by_cases hj : c = j
      · subst hj
        rw [List.getElem?_set_self hcl] at ej
        cases ej
      · rw [List.getElem?_set_ne hj] at ej
        exact .inl (List.mem_of_getElem? ej)
    · exact .inr z
  have m : Mv w H { w with cs := w.cs.set c none } H := by
    refine ⟨HExt.refl _ _, fun a z => .inl (sub a z), fun j y ej => ?_, fun a ha z => ?_, fun a h => h⟩
    · by_cases hj : c = j
      · subst hj
        exact .inr (List.getElem?_set_self hcl)
      · exact .inl (by show (w.cs.set c none)[j]? = _; rw [List.getElem?_set_ne hj]; exact ej)
    · have z : some a ∈ w.cs.set c none := z
      obtain ⟨j, ej⟩ := List.getElem?_of_mem z
      by_cases hj : c = j
      · subst hj
        rw [List.getElem?_set_self hcl] at ej
        cases ej
      · rw [List.getElem?_set_ne hj] at ej
        exact List.mem_of_getElem? ej
  have kk : ∀ a o, ¬ w.bad a → H a = some o → H a = some o ∧ ¬ Cs.bad { w with cs := w.cs.set c none } a := fun a o n e => ⟨e, fun z => n (sub a z)⟩
  refine ⟨{ w with cs := w.cs.set c none }, _, E, PX, ⟨by simp [rs.len], fun j y ej => ?_, ⟨by simp [rs.mem.len], fun j y ej => ?_, fun j a ej => ?_, fun j j' a e1 e2 => ?_, fun a ha => ?_⟩⟩, h, k.mv m rs.mem.av, x.mv m rs.mem.av⟩
  · have ej : (s.r.map (thaw c ds))[j]? = some y := ej
    rw [List.getElem?_map] at ej
    cases ez : s.r[j]? with
    | none => rw [ez] at ej; cases ej
    | some z =>
      rw [ez] at ej
      cases ej
      have q := rs.slot j z ez
      cases z with
      | no => trivial
      | dat d => obtain ⟨v, ev, q⟩ := q; exact ⟨v, ev, Rep.gen kk q⟩
      | cell j' =>
        obtain ⟨a, ea, ev⟩ := q
        simp only [thaw]
        by_cases hj : j' = c
        · rw [if_pos hj]
          subst hj
          rw [ep] at ea
          cases ea
          exact ⟨.ref p, ev, Rep.lst nb hp (Reps.gen kk rv)⟩
        · rw [if_neg hj]
          exact ⟨a, by show (w.cs.set c none)[j']? = _; rw [List.getElem?_set_ne (Ne.symm hj)]; exact ea, ev⟩
  · have ej : (s.M.set c none)[j]? = some (some y) := ej
    by_cases hj : c = j
    · subst hj
      rw [List.getElem?_set_self (by rw [← rs.mem.len]; exact hcl)] at ej
      cases ej
    · rw [List.getElem?_set_ne hj] at ej
      obtain ⟨a, ea, q⟩ := rs.mem.at_ j y ej
      exact ⟨a, by show (w.cs.set c none)[j]? = _; rw [List.getElem?_set_ne hj]; exact ea, q.gen kk rfl⟩
  · have ej : (w.cs.set c none)[j]? = some (some a) := ej
    by_cases hj : c = j
    · subst hj
      rw [List.getElem?_set_self hcl] at ej
      cases ej
    · rw [List.getElem?_set_ne hj] at ej
      obtain ⟨y, ey⟩ := rs.mem.live j a ej
      exact ⟨y, by show (s.M.set c none)[j]? = _; rw [List.getElem?_set_ne hj]; exact ey⟩
  · have e1 : (w.cs.set c none)[j]? = some (some a) := e1
    have e2 : (w.cs.set c none)[j']? = some (some a) := e2
    have get : ∀ i, (w.cs.set c none)[i]? = some (some a) → w.cs[i]? = some (some a) := fun i e => by
      by_cases hj : c = i
      · subst hj
        rw [List.getElem?_set_self hcl] at e
        cases e
      · rw [List.getElem?_set_ne hj] at e
        exact e
    exact rs.mem.inj j j' a (get j e1) (get j' e2)
  · obtain ⟨n, o, e⟩ := rs.mem.av a ha
    refine ⟨fun z => ?_, o, e⟩
    obtain ⟨j, ej⟩ := List.getElem?_of_mem z
    by_cases hj : c = j
    · subst hj
      rw [List.getElem?_set_self hcl] at ej
      cases ej
    · rw [List.getElem?_set_ne hj] at ej
      exact n (List.mem_of_getElem? ej)
theorem dss_freeze {sts : List Stmt} (i : Nat) (h : PSs X sts (lS g W t)) : PSs X sts (lS g W (dFreeze i t)) := pss_imp h lS_freeze

/-! ### targets -/
abbrev TGd := D → S → (S → Prop) → Prop
abbrev TGds := List D → S → (S → Prop) → Prop
def lG (g : G) (ix : List Nat) (gt : TGd) : TG := fun v σ H Q => ∃ w s d P, RS g w H σ s ∧ Rep g w H d v ∧ gt d s P ∧ ∀ s' σ', P s' → RS g w H σ' s' → (∀ vs : List Nat, (∀ i ∈ ix, i ∈ vs) → wipe σ' vs = wipe σ vs) → Q σ' H
def lGs (g : G) (ix : List Nat) (gt : TGds) : TGs := fun vs σ H Q => ∃ w s ds P, RS g w H σ s ∧ Reps g w H ds vs ∧ gt ds s P ∧ ∀ s' σ', P s' → RS g w H σ' s' → (∀ vs : List Nat, (∀ i ∈ ix, i ∈ vs) → wipe σ' vs = wipe σ vs) → Q σ' H
theorem wipe_set_out {x : Option V} {i : Nat} : ∀ {vs : List Nat}, i ∉ vs → wipe (σ.set i x) vs = (wipe σ vs).set i x
  | [], _ => rfl
  | v :: vs, h => by
    have h1 : i ≠ v := fun e => h (by simp [e])
    have h2 : i ∉ vs := fun e => h (by simp [e])
    unfold wipe
    rw [wipe_set_out h2, List.set_comm _ _ h1]
theorem wipe_set_in {x : Option V} {i : Nat} : ∀ {vs : List Nat}, i ∈ vs → wipe (σ.set i x) vs = wipe σ vs
  | v :: vs, h => by
    unfold wipe
    by_cases h2 : i ∈ vs
    · rw [wipe_set_in h2]
    · have e : i = v := by
        rcases List.mem_cons.mp h with z | z
        · exact z
        · exact absurd z h2
      subst e
      rw [wipe_set_out h2, List.set_set]
@[simp] def dgName (i : Nat) : TGd := fun d s P => P { s with r := s.r.set i (.dat d) }
theorem pg_imp {X : Cx} {tg : Expr} {t t' : TG} (h : PG X tg t) (i : ∀ v σ H Q, t' v σ H Q → t v σ H Q) : PG X tg t' := ⟨fun p s σ H v u Q I r q => h.run p s σ H v u Q I r (i v σ H Q q)⟩
theorem dg_name {i : Nat} {tg : Expr} (h : PG X tg (gName i)) : PG X tg (lG g [i] (dgName i)) := pg_imp h fun v σ H Q ⟨w, s, d, P, rs, rp, h, k⟩ => k _ _ h (rs.set rp) fun vs hv => wipe_set_in (hv i (by simp))
@[simp] def dgsNil : TGds := fun ds s P => ds = [] ∧ P s
@[simp] def dgsCons (t : TGd) (u : TGds) : TGds := fun ds s P => match ds with
  | d :: r => t d s fun s' => u r s' P
  | [] => False
theorem dgs_nil {ix : List Nat} : PGs X [] (lGs g ix dgsNil) := ⟨fun pins s σ H vs us Q I r ⟨w, s1, ds, P, rs, rp, ⟨e, h⟩, k⟩ => pgs_nil.run pins s σ H vs us Q I r ⟨by subst e; simpa only [Reps] using rp, k s1 σ h rs fun _ _ => rfl⟩⟩
theorem dgs_cons {tg : Expr} {tgs : List Expr} {ix jx : List Nat} {t : TGd} {u : TGds} (h1 : PG X tg (lG g ix t)) (h2 : PGs X tgs (lGs g jx u))
    (hs : (assignEach (tg :: tgs) X.env).map (·.2) = assign tg X.env :: (assignEach tgs X.env).map (·.2) := by rfl) : PGs X (tg :: tgs) (lGs g (ix ++ jx) (dgsCons t u)) := ⟨fun pins s σ H vs us Q I r ⟨w, s1, ds, P, rs, rp, h, k⟩ => (pgs_cons h1 h2 hs).run pins s σ H vs us Q I r (by
    cases ds with
    | nil => exact h.elim
    | cons d ds =>
      simp only [Reps] at rp
      obtain ⟨v, r', e, q, z⟩ := rp
      subst e
      exact ⟨v, r', rfl, w, s1, d, _, rs, q, h, fun s2 σ2 h2 rs2 hw => ⟨w, s2, ds, P, rs2, z, h2, fun s3 σ3 h3 rs3 hw3 => k s3 σ3 h3 rs3 fun vs hv => (hw3 vs fun i hi => hv i (List.mem_append_right _ hi)).trans (hw vs fun i hi => hv i (List.mem_append_left _ hi))⟩⟩)⟩
@[simp] def dgTup (n : Nat) (t : TGds) : TGd := fun d s P => match d with
  | .tup ds => ds.length = n ∧ t ds s P
  | _ => False
theorem dg_tup {tgs : List Expr} {k n : Nat} {ix : List Nat} {t : TGds} {p : Pos} (hc : X.calm = true) (h : PGs X tgs (lGs g ix t)) (hn : (assignEach tgs X.env).length = n := by rfl) (hst : (assignEach tgs X.env).findIdx? (·.1) = none := by rfl) : PG X (.Tuple tgs k p) (lG g ix (dgTup n t)) :=
  pg_imp (pg_tup hc h hn hst) fun v σ H Q ⟨w, s, d, P, rs, rp, h, k⟩ => by
    cases d <;> try exact h.elim
    simp only [Rep] at rp
    obtain ⟨a, vs, e, n, hp, rv⟩ := rp
    exact ⟨a, vs, e, SqT.of hp, by rw [rv.len]; exact h.1, w, s, _, P, rs, rv, h.2, k⟩
/-- target = e -/
@[simp] def dAsg (td : TD) (gt : TGd) : TSd := fun s E X => td s (fun d s1 => gt d s1 E.nx) X
theorem ds_asg {st : Stmt} {ix : List Nat} {gt : TGd} (h : PS X st (tAsg (lE g W td) (lG g ix gt))) : PS X st (lS g W (dAsg td gt)) := ps_imp h fun D σ H ⟨w, s, E, PX, rs, h, k, x⟩ =>
  ⟨w, s, _, PX, rs, h, fun d s1 H1 v q e1 rs1 rp => ⟨w, s1, d, _, rs1, rp, q, fun s2 σ2 p rs2 _ => k.nx s2 w H1 σ2 p (.of_ext e1) rs2⟩, x.ex⟩
/-- a, b = e1, e2 -/
@[simp] def dPar (i j : Nat) (t : TDA) : TSd := fun s E X => t s (fun xs s1 => ∃ x y, xs = [x, y] ∧ x ≠ .no ∧ y ≠ .no ∧ E.nx { s1 with r := (s1.r.set i x).set j y }) X
theorem ds_par {st : Stmt} {i j : Nat} {t : TDA} (h : PS X st (tPar i j (lA g W t))) : PS X st (lS g W (dPar i j t)) := ps_imp h fun D σ H ⟨w, s, E, PX, rs, h, k, x⟩ =>
  ⟨w, s, _, PX, rs, h, fun xs s1 H1 vs q e1 rs1 ra => by
    obtain ⟨y, z, e, ny, nz, q⟩ := q
    subst e
    have one : ∀ {y : Sl} {ys : List Sl} {vs : List V}, y ≠ .no → ArgOk g w H1 (y :: ys) vs → ∃ v r, vs = v :: r ∧ ArgOk g w H1 ys r ∧ ∀ i (σ' : L2.St), σ'[i]? = some (some v) → SlOk g w H1 σ' i y := fun {y ys vs} ny ra => by
      cases y with
      | no => exact absurd rfl ny
      | dat d => obtain ⟨v, r, e, q, z⟩ := ra; exact ⟨v, r, e, z, fun i σ' e => ⟨v, e, q⟩⟩
      | cell c => obtain ⟨a, r, e, q, z⟩ := ra; exact ⟨.ref a, r, e, z, fun i σ' e => ⟨a, q, e⟩⟩
    obtain ⟨v1, r1, e1', z1, k1⟩ := one ny ra
    obtain ⟨v2, r2, e2', z2, k2⟩ := one nz z1
    have z2 : r2 = [] := z2
    subst e1' e2' z2
    refine ⟨v1, v2, rfl, k.nx _ w H1 _ q (.of_ext e1) ?_⟩
    exact (rs1.put (i := i) (o := some v1) (x := y) (k1 i)).put (i := j) (o := some v2) (x := z) (k2 j), x.ex⟩
end
end DL

namespace DL
open PySem L2
section
variable {X : Cx} {g : G} {W : WX} {pos : Pos} {a b c e : Expr} {ta tb tc : TD} {w : Cs} {H H' : Hp} {σ : L2.St} {s : S}

/-! ### what is walked -/
structure WalkD (g : G) (w : Cs) (H : Hp) (J : It) (ds : List D) : Prop where
  ex : ∃ (Gd : Hp → Prop) (Y : Nat → Hp → V → Hp → Prop), Walk J ds.length Gd Y ∧ (∀ w' H', Mv w H w' H' → Gd H') ∧
    ∀ i w' H1 x H2, i < ds.length → Mv w H w' H1 → (∀ a, H1 a = none → ¬ w'.bad a) → Y i H1 x H2 → Same H1 H2 ∧ ∃ d, ds[i]? = some d ∧ Rep g w' H2 d x
abbrev TDI := S → (List D → S → Prop) → KX → Prop
def lI (g : G) (W : WX) (td : TDI) : TI := fun σ H R => ∃ w s P PX, RS g w H σ s ∧ td s P PX ∧ (∀ ds s' H' J, P ds s' → HExt w H H' → RS g w H' σ s' → WalkD g w H' J ds → R J H') ∧ XOk g w H σ PX W
theorem pi_imp {tg iter : Expr} {t t' : TI} (h : PI X tg iter t) (i : ∀ σ H R, t' σ H R → t σ H R) : PI X tg iter t' := ⟨fun p s σ H R I q => h.run p s σ H R I (i σ H R q)⟩
theorem walkD_list {a : Addr} {ds : List D} {vs : List V} (K : PySem.W.Frag) (n : ¬ w.bad a) (h : H a = some (.lst vs)) (rv : Reps g w H ds vs) : WalkD g w H (Itl K a) ds :=
  ⟨fun H => SqL K H a vs, YAt vs, by rw [← rv.len]; exact walk_list, fun w' H' m => SqL.of (m.at_ n h), fun i w' H1 x H2 hi m _ y => by
    obtain ⟨e, y⟩ := y
    subst e
    exact ⟨Same0, (rv.mv m).get y⟩⟩
theorem walkD_tup {a : Addr} {ds : List D} {vs : List V} (K : PySem.W.Frag) (n : ¬ w.bad a) (h : H a = some (.tup vs)) (rv : Reps g w H ds vs) : WalkD g w H (Itt K a) ds :=
  ⟨fun H => SqT K H a vs, YAt vs, by rw [← rv.len]; exact walk_tup, fun w' H' m => SqT.of (m.at_ n h), fun i w' H1 x H2 hi m _ y => by
    obtain ⟨e, y⟩ := y
    subst e
    exact ⟨Same0, (rv.mv m).get y⟩⟩
/-- for .. in a list, in a tuple -/
def iSeq (K : PySem.W.Frag) (tl : TE) : TI := fun σ H R => tl σ H fun x H1 => ∃ a, x = .ref a ∧ ((∃ xs, SqL K H1 a xs ∧ R (Itl K a) H1) ∨ ∃ xs, SqT K H1 a xs ∧ R (Itt K a) H1)
theorem pi_seq {tg l : Expr} {tl : TE} (hl : PE X l tl) : PI X tg l (iSeq X.K tl) := by
  refine ⟨fun pins s σ H R I h => ?_⟩
  refine thn (hl.run pins s σ H _ I h) fun v s1 ⟨x, H1, I1, r1, q1⟩ => ?_
  obtain ⟨a, e, q⟩ := q1
  subst e
  cases r1
  rcases q with ⟨xs, hq, q⟩ | ⟨xs, hq, q⟩
  · obtain ⟨its, rv, p, hz⟩ := I1.list hq
    refine wpAny_pyIter_list p.isList ?_
    refine ⟨s1.heap.objs.size, [s1.heap.objs.size], _, _, H1, rfl, I1.kept (t' := s1.toks) fun b o e => Heap.get?_push_of_some _ e, turn_list a _, ⟨_, Heap.get?_push_size _ rfl, rfl, rfl⟩, fun b hb => ?_, q⟩
    have e : b = s1.heap.objs.size := by simpa using hb
    subst e
    exact I1.fpOk (Nat.le_refl _) (I1.hok.fresh (Nat.le_refl _))
  · obtain ⟨its, rv, p, hz⟩ := I1.tuple hq
    refine wpAny_pyIter_tuple (show s1.heap.IsTuple a its.toArray from p) ?_
    refine ⟨s1.heap.objs.size, [s1.heap.objs.size], _, _, H1, rfl, I1.kept (t' := s1.toks) fun b o e => Heap.get?_push_of_some _ e, turn_tuple a _, ⟨_, Heap.get?_push_size _ rfl, rfl, rfl⟩, fun b hb => ?_, q⟩
    have e : b = s1.heap.objs.size := by simpa using hb
    subst e
    exact I1.fpOk (Nat.le_refl _) (I1.hok.fresh (Nat.le_refl _))
@[simp] def seqD : D → Option (List D)
  | .lst ds => some ds
  | .tup ds => some ds
  | _ => none
@[simp] def dIter (td : TD) : TDI := fun s P X => td s (fun d s1 => ∃ ds, seqD d = some ds ∧ P ds s1) X
theorem di_seq {tg l : Expr} (hl : PE X l (lE g W ta)) : PI X tg l (lI g W (dIter ta)) := pi_imp (pi_seq hl) fun σ H R ⟨w, s, P, PX, rs, h, k, x⟩ =>
  ⟨w, s, _, PX, rs, h, fun d s1 H1 v q e1 rs1 rp => by
    obtain ⟨ds, ed, q⟩ := q
    cases d <;> simp only [seqD, reduceCtorEq, Option.some.injEq] at ed
    · subst ed
      simp only [Rep] at rp
      obtain ⟨a, vs, e, n, hp, rv⟩ := rp
      exact ⟨a, e, .inr ⟨vs, SqT.of hp, k _ s1 H1 _ q e1 rs1 (walkD_tup _ n hp rv)⟩⟩
    · subst ed
      simp only [Rep] at rp
      obtain ⟨a, vs, e, n, hp, rv⟩ := rp
      exact ⟨a, e, .inl ⟨vs, SqL.of hp, k _ s1 H1 _ q e1 rs1 (walkD_list _ n hp rv)⟩⟩, x⟩
/-- range -/
def rangeD (lo : Int) (n : Nat) : List D := (List.range n).map fun (i : Nat) => D.int (lo + (i : Int))
theorem walkD_range {lo : Int} {n : Nat} : WalkD g w H (Itr lo n) (rangeD lo n) :=
  ⟨fun _ => True, YFn fun i => .int (lo + i), by unfold rangeD; rw [List.length_map, List.length_range]; exact walk_range, fun _ _ _ => trivial, fun i w' H1 x H2 hi m _ y => by
    obtain ⟨e, y⟩ := y
    subst e y
    refine ⟨Same0, .int (lo + i), ?_, by simp only [Rep]⟩
    have hi : i < n := by simpa [rangeD] using hi
    simp [rangeD, hi]⟩
variable {t : TDA}
def small (i : Int) : Prop := -(2 ^ 62) ≤ i ∧ i < 2 ^ 62
@[simp] def dRange1 (t : TDA) : TDI := fun s P X => t s (fun xs s1 => ∃ n, xs = [.dat (.int n)] ∧ small n ∧ P (rangeD 0 n.toNat) s1) X
@[simp] def dRange2 (t : TDA) : TDI := fun s P X => t s (fun xs s1 => ∃ m n, xs = [.dat (.int m), .dat (.int n)] ∧ small m ∧ small n ∧ P (rangeD m (n - m).toNat) s1) X
theorem di_range1 {tg : Expr} {p : Pos} (hg : Gl X "range") (hm : X.mg "range" = none) (ha : PA X [a] (lA g W t)) (hs : starEach [a] X.env = [(false, eval a X.env)] := by rfl) : PI X tg (.Call (.Name "range" p) [a] [] pos) (lI g W (dRange1 t)) := pi_imp (pi_range1 hg hm ha hs) fun σ H R ⟨w, s, P, PX, rs, h, k, x⟩ =>
  ⟨w, s, _, PX, rs, h, fun xs s1 H1 vs q e1 rs1 ra => by
    obtain ⟨n, e, ⟨h1, h2⟩, q⟩ := q
    subst e
    obtain ⟨v, e, rp⟩ := ArgOk.one ra
    simp only [Rep] at rp
    subst e rp
    exact ⟨n, rfl, h1, h2, k _ s1 H1 _ q e1 rs1 walkD_range⟩, x⟩
theorem di_range2 {tg : Expr} {p : Pos} (hg : Gl X "range") (hm : X.mg "range" = none) (ha : PA X [a, b] (lA g W t)) (hs : starEach [a, b] X.env = [(false, eval a X.env), (false, eval b X.env)] := by rfl) (hs2 : starEach [b] X.env = [(false, eval b X.env)] := by rfl) : PI X tg (.Call (.Name "range" p) [a, b] [] pos) (lI g W (dRange2 t)) := pi_imp (pi_range2 hg hm ha hs hs2) fun σ H R ⟨w, s, P, PX, rs, h, k, x⟩ =>
  ⟨w, s, _, PX, rs, h, fun xs s1 H1 vs q e1 rs1 ra => by
    obtain ⟨m, n, e, ⟨h0, h00⟩, ⟨h1, h2⟩, q⟩ := q
    subst e
    obtain ⟨v, v', e, rp, rp'⟩ := ArgOk.two ra
    simp only [Rep] at rp rp'
    subst e rp rp'
    exact ⟨m, n, rfl, ⟨h0, h00, h1, h2⟩, k _ s1 H1 _ q e1 rs1 walkD_range⟩, x⟩

/-! ### for -/
def loopD (gt : TGd) (tb : TSd) (E : EK) (PX : KX) : List D → S → Prop
  | [], s => E.nx s
  | d :: ds, s => gt d s fun s1 => tb s1 { nx := loopD gt tb E PX ds, ct := loopD gt tb E PX ds, bk := E.nx, rt := E.rt } PX
@[simp] def dFor (wd : TDI) (gt : TGd) (tb : TSd) : TSd := fun s E X => wd s (fun ds s1 => loopD gt tb E X ds s1) X
theorem ds_for {tg iter : Expr} {body : List Stmt} {ix : List Nat} {wd : TDI} {gt : TGd} {tb : TSd} (h : PS X (.For tg iter body [] pos) (tFor (lI g W wd) (lG g ix gt) (lS g W tb))) : PS X (.For tg iter body [] pos) (lS g W (dFor wd gt tb)) := ps_imp h fun D σ H ⟨w, s, E, PX, rs, h, k, x⟩ =>
  ⟨w, s, _, PX, rs, h, fun ds s1 H1 J q e1 rs1 wk => by
    obtain ⟨Gd, Y, wk, hG, hY⟩ := wk.ex
    have av := rs.mem.av
    have av1 := rs1.mem.av
    have m1 : Mv w H w H1 := .of_ext e1
    refine for_it wk (fun i σ' H' => ∃ w' s', Mv w H1 w' H' ∧ RS g w' H' σ' s' ∧ loopD gt tb E PX (ds.drop i) s') ⟨w, s1, Mv.refl _ _, rs1, q⟩ (fun i σ' H' _ ⟨w', s', m, _, _⟩ => hG w' H' m) ?_ ?_
    · rintro i x1 σ' H' H2 hi ⟨w', s', m, rs', q⟩ y
      obtain ⟨sm, d, ed, rp⟩ := hY i w' H' x1 H2 hi m (fun a n => rs'.mem.fresh n) y
      have ed2 : ds.drop i = d :: ds.drop (i + 1) := by
        rw [List.drop_eq_getElem_cons hi]
        rw [List.getElem?_eq_getElem hi] at ed
        cases ed
        rfl
      rw [ed2] at q
      have rs2 := rs'.same sm
      have m2 : Mv w H1 w' H2 := m.trans (.of_same sm) av1
      refine ⟨w', s', d, _, rs2, rp, q, fun s3 σ3 q3 rs3 _ => ?_⟩
      have nx : NOk g w' H2 (loopD gt tb E PX (ds.drop (i + 1))) (fun σ' H' => ∃ w' s', Mv w H1 w' H' ∧ RS g w' H' σ' s' ∧ loopD gt tb E PX (ds.drop (i + 1)) s') := fun s4 w4 H4 σ4 q4 m4 rs4 => ⟨w4, s4, m2.trans m4 av1, rs4, q4⟩
      refine ⟨w', s3, _, PX, rs3, q3, ⟨nx, (k.nx.mv m1 av).mv m2 av1, nx, ((k.mv m1 av).mv m2 av1).rt⟩, (x.mv m1 av).mv m2 av1⟩
    · rintro σ' H' ⟨w', s', m, rs', q⟩
      rw [List.drop_length] at q
      exact k.nx s' w' H' σ' q (m1.trans m av) rs', x.ex⟩
/-- while: some number of turns -/
def whileD (c : TDB) (tb : TSd) (E : EK) (PX : KX) : Nat → S → Prop
  | 0, _ => False
  | n + 1, s => c s (fun b s1 => if b = true then tb s1 { nx := whileD c tb E PX n, ct := whileD c tb E PX n, bk := E.nx, rt := E.rt } PX else E.nx s1) PX
def dWhile (c : TDB) (tb : TSd) : TSd := fun s E X => ∃ n, whileD c tb E X n s
theorem ds_while {ec : Expr} {body : List Stmt} {c : TDB} {tb : TSd} (h : PS X (.While ec body [] pos) (tWhile (lB g W c) (lS g W tb))) : PS X (.While ec body [] pos) (lS g W (dWhile c tb)) := ps_imp h fun D σ H ⟨w, s, E, PX, rs, ⟨n, h⟩, k, x⟩ => by
  have av := rs.mem.av
  refine ⟨fun n σ' H' => ∃ w' s', Mv w H w' H' ∧ RS g w' H' σ' s' ∧ whileD c tb E PX n s', ⟨n, w, s, Mv.refl _ _, rs, h⟩, ?_⟩
  rintro n σ' H' ⟨w', s', m, rs', q⟩
  cases n with
  | zero => exact q.elim
  | succ n =>
    refine ⟨w', s', _, PX, rs', q, fun b s1 H1 q1 e1 rs1 => ?_, (x.mv m av).ex⟩
    have m1 : Mv w H w' H1 := m.trans (.of_ext e1) av
    cases b with
    | false =>
      rw [if_neg Bool.false_ne_true] at q1
      show D.nx σ' H1
      exact k.nx s1 w' H1 σ' q1 m1 rs1
    | true =>
      rw [if_pos rfl] at q1
      show ∃ N : L2.St → Hp → Prop, _
      refine ⟨fun σ' H' => ∃ w' s', Mv w H w' H' ∧ RS g w' H' σ' s' ∧ whileD c tb E PX n s', fun σ2 H2 hh => ⟨n, Nat.lt_succ_self n, hh⟩, w', s1, _, PX, rs1, q1, ⟨fun s4 w4 H4 σ4 q4 m4 rs4 => ⟨w4, s4, m1.trans m4 av, rs4, q4⟩, k.nx.mv m1 av, fun s4 w4 H4 σ4 q4 m4 rs4 => ⟨w4, s4, m1.trans m4 av, rs4, q4⟩, (k.mv m1 av).rt⟩, x.mv m1 av⟩

/-! ### comprehensions -/
abbrev noX : KX := fun _ _ _ => False
abbrev W0 : WX := fun _ _ _ _ => False
@[simp] def wipeS : List Sl → List Nat → List Sl
  | r, [] => r
  | r, v :: vs => (wipeS r vs).set v .no
def lcD (gt : TGd) (tt : TDB) (te : TD) (vs : List Nat) (P : List D → S → Prop) : List D → List D → S → Prop
  | [], acc, s => P acc s
  | d :: ds, acc, s => gt d { s with r := wipeS s.r vs } fun s2 => tt s2 (fun b s3 => if b = true then te s3 (fun z s4 => acc.length < sizeLine ∧ lcD gt tt te vs P ds (acc ++ [z]) { s4 with r := s.r }) noX else lcD gt tt te vs P ds acc { s3 with r := s.r }) noX
@[simp] def dLc (wd : TDI) (gt : TGd) (tt : TDB) (te : TD) (vs : List Nat) : TDF := fun s P X => wd s (fun ds s1 => lcD gt tt te vs P ds [] s1) X
theorem RS.wipe (r : RS g w H σ s) : ∀ vs : List Nat, RS g w H (wipe σ vs) { s with r := wipeS s.r vs }
  | [] => r
  | v :: vs => (RS.wipe r vs).setNo
theorem xok0 : XOk g w H σ noX W := fun _ _ _ _ _ _ h => h.elim
theorem out_ext {p : Addr} (e : HExt (w.out p) H H') : HExt w H H' := e
theorem lF_lc {wi : TI} {gg : TG} {tt' : TT} {te' : TE} {wd : TDI} {gt : TGd} {tt : TDB} {te : TD} {vs ix : List Nat} (hwi : ∀ σ H R, lI g W wd σ H R → wi σ H R) (hgg : ∀ v σ H Q, lG g ix gt v σ H Q → gg v σ H Q) (htt : ∀ σ H Q, lB g W0 tt σ H Q → tt' σ H Q) (hte : ∀ σ H Q, lE g W0 te σ H Q → te' σ H Q) (hix : ∀ i ∈ ix, i ∈ vs) :
    ∀ σ H Q, lF g W (dLc wd gt tt te vs) σ H Q → tLc wi gg tt' te' vs σ H Q := fun σ H Q ⟨w, s, P, PX, rs, h, k, x⟩ =>
  hwi _ _ _ ⟨w, s, _, PX, rs, h, fun ds s1 H1 J q e1 rs1 wk => by
    intro p hp
    obtain ⟨Gd, Y, wk, hG, hY⟩ := wk.ex
    have nb := rs1.mem.fresh hp
    have nc : some p ∉ w.cs := fun z => nb (.inl z)
    have m0 : Mv w H1 (w.out p) (upd H1 p (.lst [])) := mv_out (.of_same (same_upd hp)) hp
    refine lc_it wk (fun i H' => ∃ M acc vacc, RS g (w.out p) H' σ { s1 with M := M } ∧ HExt w H1 H' ∧ H' p = some (.lst vacc) ∧ Reps g (w.out p) H' acc vacc ∧ lcD gt tt te vs P (ds.drop i) acc { s1 with M := M }) ⟨s1.M, [], [], rs1.out hp, m0.ext, upd_same, Reps.nil, q⟩ (fun i H' _ ⟨M, acc, vacc, r, e, _⟩ => hG (w.out p) H' (mv_out e hp)) ?_ ?_
    · rintro i x1 H2 H3 hi ⟨M, acc, vacc, rs2, e2, hp2, ra, q⟩ y
      have m2 : Mv w H1 (w.out p) H2 := mv_out e2 hp
      obtain ⟨sm, d, ed, rp⟩ := hY i (w.out p) H2 x1 H3 hi m2 (fun a n => rs2.mem.fresh n) y
      have ed2 : ds.drop i = d :: ds.drop (i + 1) := by
        rw [List.drop_eq_getElem_cons hi]
        rw [List.getElem?_eq_getElem hi] at ed
        cases ed
        rfl
      rw [ed2] at q
      have rs3 := rs2.same sm
      refine hgg _ _ _ _ ⟨w.out p, _, d, _, rs3.wipe vs, rp, q, fun s4 σ4 q4 rs4 hw => ?_⟩
      have e3 : HExt w H1 H3 := e2.trans (.of_same sm)
      refine ⟨?_, htt _ _ _ ⟨w.out p, s4, _, noX, rs4, q4, fun bb s5 H5 q5 e5 rs5 => ?_, xok0⟩⟩
      · rw [hw vs hix]
        clear hw q4
        have idem : ∀ us : List Nat, (∀ i ∈ us, i ∈ vs) → L2.wipe (L2.wipe σ vs) us = L2.wipe σ vs := by
          intro us
          induction us with
          | nil => intro _; rfl
          | cons u us ih =>
            intro hu
            show (L2.wipe (L2.wipe σ vs) us).set u none = _
            rw [ih fun i hi => hu i (List.mem_cons_of_mem _ hi)]
            have hm : u ∈ vs := hu u List.mem_cons_self
            have key : ∀ ws : List Nat, u ∈ ws → (L2.wipe σ ws).set u none = L2.wipe σ ws := by
              intro ws
              induction ws with
              | nil => intro h; cases h
              | cons v ws ih2 =>
                intro h
                show ((L2.wipe σ ws).set v none).set u none = (L2.wipe σ ws).set v none
                by_cases e : u = v
                · subst e
                  rw [List.set_set]
                · rw [List.set_comm _ _ (Ne.symm e)]
                  rcases List.mem_cons.mp h with z | z
                  · exact absurd z e
                  · rw [ih2 z]
            exact key vs hm
        exact idem vs fun _ h => h
      · have e5' : HExt w H1 H5 := e3.trans e5
        cases bb with
        | true =>
          rw [if_pos rfl] at q5
          dsimp only
          rw [if_pos rfl]
          refine hte _ _ _ ⟨w.out p, s5, _, noX, rs5, q5, fun z s6 H6 v6 q6 e6 rs6 rp6 => ?_, xok0⟩
          have e36 : HExt (w.out p) H3 H6 := e5.trans e6
          have hp6 : H6 p = some (.lst vacc) := e36 _ _ nc (sm _ _ hp2)
          have ra6 : Reps g (w.out p) H6 acc vacc := (ra.mv (.of_same sm)).mv (.of_ext e36)
          refine ⟨vacc, hp6, by rw [ra6.len]; exact q6.1, s6.M, acc ++ [z], vacc ++ [v6], ?_, ?_, upd_same, ?_, q6.2⟩
          · have r7 := rs3.mem' e36 rs6.mem
            exact r7.updOut List.mem_cons_self
          · exact fun a o n eo => by
              rw [upd_ne (ne_of_none eo hp)]
              exact (e5'.trans e6) _ _ n eo
          · exact Reps.gen (upd_k (.inr List.mem_cons_self)) (Reps.app ra6 (Reps.cons rp6 Reps.nil))
        | false =>
          rw [if_neg Bool.false_ne_true] at q5
          dsimp only
          rw [if_neg Bool.false_ne_true]
          refine ⟨s5.M, acc, vacc, rs3.mem' e5 rs5.mem, e5', e5 _ _ nc (sm _ _ hp2), (ra.mv (.of_same sm)).mv (.of_ext e5), q5⟩
    · rintro H2 ⟨M, acc, vacc, rs2, e2, hp2, ra, q⟩
      rw [List.drop_length] at q
      exact k acc _ H2 p vacc q (e1.trans e2) (fresh0 e1 nb hp) nb rs2 hp2 ra, x⟩
theorem df_lc {elt : Expr} {gs : List Comprehension} {scope : Scope} {wd : TDI} {gt : TGd} {tt : TDB} {te : TD} {vs ix : List Nat} (h : PE X (.ListComp elt gs scope pos) (tLc (lI g W wd) (lG g ix gt) (lB g W0 tt) (lE g W0 te) vs)) (hix : ∀ i ∈ ix, i ∈ vs := by decide) : PE X (.ListComp elt gs scope pos) (lF g W (dLc wd gt tt te vs)) :=
  pe_imp h (lF_lc (fun _ _ _ h => h) (fun _ _ _ _ h => h) (fun _ _ _ h => h) (fun _ _ _ h => h) hix)
theorem ds_lc {st : Stmt} {i : Nat} {wd : TDI} {gt : TGd} {tt : TDB} {te : TD} {vs ix : List Nat} (h : PS X st (tAsg (tLc (lI g W wd) (lG g ix gt) (lB g W0 tt) (lE g W0 te) vs) (gName i))) (hix : ∀ i ∈ ix, i ∈ vs := by decide) : PS X st (tAsg (lF g W (dLc wd gt tt te vs)) (gName i)) :=
  ps_imp h fun D σ H q => lF_lc (fun _ _ _ h => h) (fun _ _ _ _ h => h) (fun _ _ _ h => h) (fun _ _ _ h => h) hix σ H _ q
theorem ds_fe {st : Stmt} {i : Nat} {tf : TDF} (h : PS X st (tAsg (lF g W tf) (gName i))) : PS X st (tAsg (lE g W (dF tf)) (gName i)) := ps_imp h fun D σ H ⟨w, s, P, PX, rs, h, k, x⟩ =>
  ⟨w, s, _, PX, rs, h, fun ds s1 H1 p vs q e1 n0 nb rs1 hp rp => k _ s1 H1 _ q e1 rs1.inn (Rep.lst nb hp (Reps.gen k_in rp)), x⟩
end
end DL

namespace DL
open PySem L2
abbrev KXM := Str → D → Mem → Prop
abbrev SpD := List Sl → Mem → (D → Mem → Prop) → KXM → Prop
section
variable {X : Cx} {g : G} {W : WX} {pos : Pos} {a b c e : Expr} {ta tb tc : TD} {w : Cs} {H H' : Hp} {σ : L2.St} {s : S}
def lSp (g : G) (spd : SpD) : Sp := fun vs H Q E => ∃ w xs M P PX, ArgOk g w H xs vs ∧ MemOk g w H M ∧ spd xs M P PX ∧ (∀ d M' H' v, P d M' → HExt w H H' → MemOk g w H' M' → Rep g w H' d v → Q v H') ∧
  (∀ c x M' H' dd v, PX c x M' → HExt w H H' → MemOk g w H' M' → XdAt w H' dd v → Rep g w H' x v → E (.ref (g.CA c)) (some dd) H')

/-! ### a call of a def -/
@[simp] def cellsIn : List Sl → List Nat
  | [] => []
  | .cell c :: r => c :: cellsIn r
  | _ :: r => cellsIn r
@[simp] def ren0 : Sl → Sl
  | .cell _ => .cell 0
  | x => x
@[simp] def callM (spd : SpD) (xs : List Sl) (s : S) (P : D → S → Prop) (PX : KX) : Prop := match cellsIn xs with
  | [] => spd xs [] (fun d _ => P d s) (fun c x _ => PX c x s)
  | [c] => ∃ m, s.M[c]? = some (some m) ∧ spd (xs.map ren0) [some m] (fun d M' => ∃ m', M' = [some m'] ∧ P d { s with M := s.M.set c (some m') }) (fun k x M' => ∃ m', M' = [some m'] ∧ PX k x { s with M := s.M.set c (some m') })
  | _ => False
def Cs.all (w : Cs) : List Addr := w.cs.filterMap id
theorem mem_all {a : Addr} : a ∈ w.all ↔ some a ∈ w.cs := by
  unfold Cs.all
  rw [List.mem_filterMap]
  constructor
  · rintro ⟨x, h, e⟩
    have e : x = some a := e
    subst e
    exact h
  · intro h
    exact ⟨some a, h, rfl⟩
/-- the callee's world: none of the cells; one -/
def Cs.none_ (w : Cs) : Cs := ⟨[], w.all ++ w.av⟩
def Cs.one_ (w : Cs) (a : Addr) : Cs := ⟨[some a], (w.all.filter fun b => decide (b ≠ a)) ++ w.av⟩
theorem bad_none {a : Addr} : w.none_.bad a ↔ w.bad a := by
  unfold Cs.bad Cs.none_
  simp only [List.not_mem_nil, false_or, List.mem_append, mem_all]
theorem bad_one {p a : Addr} (hp : some p ∈ w.cs) : (w.one_ p).bad a ↔ w.bad a := by
  unfold Cs.bad Cs.one_
  simp only [List.mem_cons, Option.some.injEq, List.not_mem_nil, or_false, List.mem_append, List.mem_filter, mem_all, decide_eq_true_eq]
  constructor
  · rintro (h | ⟨h, _⟩ | h)
    · subst h; exact .inl hp
    · exact .inl h
    · exact .inr h
  · rintro (h | h)
    · by_cases e : a = p
      · exact .inl e
      · exact .inr (.inl ⟨h, e⟩)
    · exact .inr (.inr h)
theorem kb {w w' : Cs} (h : ∀ a, w'.bad a ↔ w.bad a) : ∀ a o, ¬ w.bad a → H a = some o → H a = some o ∧ ¬ w'.bad a := fun a o n e => ⟨e, fun z => n ((h a).mp z)⟩
theorem ArgOk.none_ : ∀ {xs : List Sl} {vs : List V}, ArgOk g w H xs vs → cellsIn xs = [] → ArgOk g w.none_ H xs vs
  | [], _, h, _ => h
  | .no :: _, _, h, _ => h
  | .dat d :: xs, _, h, e => by
    obtain ⟨v, r, ev, q, z⟩ := h
    exact ⟨v, r, ev, Rep.gen (kb fun a => bad_none) q, ArgOk.none_ z e⟩
  | .cell c :: xs, _, h, e => nomatch e
theorem ArgOk.noCell {w' : Cs} (hb : ∀ a, w'.bad a ↔ w.bad a) : ∀ {xs : List Sl} {vs : List V}, ArgOk g w H xs vs → cellsIn xs = [] → ArgOk g w' H (xs.map ren0) vs
  | [], _, h, _ => h
  | .no :: _, _, h, _ => h
  | .dat d :: xs, _, h, e => by
    obtain ⟨v, r, ev, q, z⟩ := h
    exact ⟨v, r, ev, Rep.gen (kb hb) q, ArgOk.noCell hb z e⟩
  | .cell c :: xs, _, h, e => nomatch e
theorem ArgOk.one_ {c : Nat} {p : Addr} (hp : w.cs[c]? = some (some p)) : ∀ {xs : List Sl} {vs : List V}, ArgOk g w H xs vs → cellsIn xs = [c] → ArgOk g (w.one_ p) H (xs.map ren0) vs
  | [], _, h, e => nomatch e
  | .no :: _, _, h, _ => h
  | .dat d :: xs, _, h, e => by
    obtain ⟨v, r, ev, q, z⟩ := h
    exact ⟨v, r, ev, Rep.gen (kb fun a => bad_one (List.mem_of_getElem? hp)) q, ArgOk.one_ hp z e⟩
  | .cell j :: xs, _, h, e => by
    obtain ⟨a, r, ev, q, z⟩ := h
    simp only [cellsIn, List.cons.injEq] at e
    obtain ⟨e1, e2⟩ := e
    subst e1
    rw [hp] at q
    cases q
    exact ⟨p, r, ev, rfl, ArgOk.noCell (fun a => bad_one (List.mem_of_getElem? hp)) z e2⟩
theorem MemOk.none_ {M : Mem} (m : MemOk g w H M) : MemOk g w.none_ H [] := by
  refine ⟨rfl, fun c x e => absurd e (by simp), fun c a e => absurd e (by simp [Cs.none_]), fun c c' a e => absurd e (by simp [Cs.none_]), fun a ha => ⟨fun z => absurd z (by simp [Cs.none_]), ?_⟩⟩
  exact m.tracked (bad_none.mp (.inr ha))
theorem MemOk.one_ {M : Mem} {c : Nat} {p : Addr} {x : CC} (m : MemOk g w H M) (hp : w.cs[c]? = some (some p)) (hx : M[c]? = some (some x)) : MemOk g (w.one_ p) H [some x] := by
  have hb : ∀ a, (w.one_ p).bad a ↔ w.bad a := fun a => bad_one (List.mem_of_getElem? hp)
  refine ⟨rfl, fun j y e => ?_, fun j a e => ?_, fun j j' a e e' => ?_, fun a ha => ⟨fun z => ?_, m.tracked ((hb a).mp (.inr ha))⟩⟩
  · cases j with
    | zero =>
      cases e
      obtain ⟨a, ea, q⟩ := m.at_ c x hx
      rw [hp] at ea
      cases ea
      exact ⟨p, rfl, q.gen (kb hb) rfl⟩
    | succ j => simp at e
  · cases j with
    | zero => exact ⟨x, rfl⟩
    | succ j => simp [Cs.one_] at e
  · cases j with
    | zero =>
      cases j' with
      | zero => rfl
      | succ j => simp [Cs.one_] at e'
    | succ j => simp [Cs.one_] at e
  · have z : a = p := by simpa [Cs.one_] using z
    subst z
    have ha : a ∈ (w.all.filter fun b => decide (b ≠ a)) ++ w.av := ha
    rcases List.mem_append.mp ha with h | h
    · have := (List.mem_filter.mp h).2
      simp at this
    · exact (m.av a h).1 (List.mem_of_getElem? hp)
/-- behind a call that changed one cell -/
theorem RS.after_one {c : Nat} {p : Addr} {x' : CC} (r : RS g w H σ s) (hp : w.cs[c]? = some (some p)) (e : HExt (w.one_ p) H H') (m : MemOk g (w.one_ p) H' [some x']) :
    HExt w H H' ∧ RS g w H' σ { s with M := s.M.set c (some x') } := by
  have hb : ∀ a, (w.one_ p).bad a ↔ w.bad a := fun a => bad_one (List.mem_of_getElem? hp)
  have hcl : c < s.M.length := by rw [← r.mem.len]; exact (List.getElem?_eq_some_iff.mp hp).1
  have ne : ∀ a, a ≠ p → some a ∉ (w.one_ p).cs := fun a h z => h (by simpa [Cs.one_] using z)
  have e' : HExt w H H' := fun a o n h => e a o (ne a fun z => n (by rw [z]; exact List.mem_of_getElem? hp)) h
  refine ⟨e', r.mem' e' ⟨by simp [r.mem.len], fun j y ej => ?_, fun j a ej => ?_, r.mem.inj, fun a ha => ?_⟩⟩
  · have ej : (s.M.set c (some x'))[j]? = some (some y) := ej
    by_cases hj : c = j
    · subst hj
      rw [List.getElem?_set_self hcl] at ej
      cases ej
      obtain ⟨a, ea, q⟩ := m.at_ 0 x' rfl
      have ea : some p = some a := by simpa [Cs.one_] using ea
      cases ea
      exact ⟨p, hp, q.gen (kb fun a => (hb a).symm) rfl⟩
    · rw [List.getElem?_set_ne hj] at ej
      obtain ⟨a, ea, q⟩ := r.mem.at_ j y ej
      obtain ⟨o, eo⟩ := q.tracked
      have hap : a ≠ p := fun z => hj (r.mem.inj c j p hp (by rw [ea, z]))
      exact ⟨a, ea, q.mv (.of_ext e') ((e a o (ne a hap) eo).trans eo.symm)⟩
  · obtain ⟨y, ey⟩ := r.mem.live j a ej
    by_cases hj : c = j
    · subst hj
      exact ⟨_, List.getElem?_set_self hcl⟩
    · exact ⟨y, by show (s.M.set c _)[j]? = _; rw [List.getElem?_set_ne hj]; exact ey⟩
  · obtain ⟨n, o, h⟩ := r.mem.av a ha
    exact ⟨n, o, e' a o n h⟩
@[simp] def dCall (spd : SpD) (t : TDA) : TD := fun s P X => t s (fun xs s1 => callM spd xs s1 P X) X
theorem lE_call {spd : SpD} {t : TDA} {ta : TA} (ht : ∀ σ H Q, lA g W t σ H Q → ta σ H Q) : ∀ σ H Q, lE g W (dCall spd t) σ H Q → tCallS (lSp g spd) (WE W) ta σ H Q := fun σ H Q ⟨w, s, P, PX, rs, h, k, x⟩ =>
  ht _ _ _ ⟨w, s, _, PX, rs, h, fun xs s1 H1 vs q e1 rs1 ra => by
    have q : callM spd xs s1 P PX := q
    unfold callM at q
    split at q
    · rename_i hc
      refine ⟨w.none_, xs, [], _, _, ra.none_ hc, rs1.mem.none_, q, fun d M' H2 v p e2 m2 rp => ?_, fun cc xx M' H2 dd v p e2 m2 hd rp => ?_⟩
      · have sm : Same H1 H2 := fun a o h => e2 a o (fun z => absurd z (by simp [Cs.none_])) h
        exact k d s1 H2 v p (e1.trans (.of_same sm)) (rs1.same sm) (Rep.gen (kb fun a => bad_none.symm) rp)
      · have sm : Same H1 H2 := fun a o h => e2 a o (fun z => absurd z (by simp [Cs.none_])) h
        exact x cc xx s1 H2 dd v p (e1.trans (.of_same sm)) (rs1.same sm) ⟨fun z => hd.1 (bad_none.mpr z), hd.2⟩ (Rep.gen (kb fun a => bad_none.symm) rp)
    · rename_i c hc
      obtain ⟨m, em, q⟩ := q
      obtain ⟨p, hp, _⟩ := rs1.mem.at_ c m em
      have hb : ∀ a, w.bad a ↔ (w.one_ p).bad a := fun a => (bad_one (List.mem_of_getElem? hp)).symm
      refine ⟨w.one_ p, _, _, _, _, ra.one_ hp hc, rs1.mem.one_ hp em, q, fun d M' H2 v pp e2 m2 rp => ?_, fun cc xx M' H2 dd v pp e2 m2 hd rp => ?_⟩
      · obtain ⟨m', em', pp⟩ := pp
        subst em'
        obtain ⟨e3, rs3⟩ := rs1.after_one hp e2 m2
        exact k d _ H2 v pp (e1.trans e3) rs3 (Rep.gen (kb hb) rp)
      · obtain ⟨m', em', pp⟩ := pp
        subst em'
        obtain ⟨e3, rs3⟩ := rs1.after_one hp e2 m2
        exact x cc xx _ H2 dd v pp (e1.trans e3) rs3 ⟨fun z => hd.1 ((hb dd).mp z), hd.2⟩ (Rep.gen (kb hb) rp)
    · exact q.elim, x⟩
theorem de_call {spd : SpD} {t : TDA} {k : Nat} {f : Addr} {fd : FuncData} {ps : List Str} {x : Str} {p : Pos} {es : List Expr} (tk : Takes X W) (F : FnOk X.prog X.w X.K X.mg X.base (L2.CX X.prog X.w) k f fd ps (lSp g spd)) (hr : Room k X.A) (hg : Gl X x) (hm : X.mg x = some (.ref f)) (hk : PySem.W.keepIn X.K (.ref f) = true) (hb : Binds X.K fd ps [])
    (ha : PA X (e :: es) (lA g W t)) (hdb : (x == ("__debug__" : Str)) = false := by decide) (he : starEach (e :: es) X.env = (false, eval e X.env) :: starEach es X.env := by rfl) (hpl : (backTo pos (starEach es X.env)).any (·.1) = false := by rfl) :
    PE X (.Call (.Name x p) (e :: es) [] pos) (lE g W (dCall spd t)) := pe_imp (pe_callS F hr hg hm hk hb (fun σ => passAt tk σ) ha hdb he hpl) (lE_call fun _ _ _ h => h)

/-! ### a def -/
@[simp] def alive (M : Mem) : Prop := M.all Option.isSome = true
@[simp] def endE (n : Nat) (P : D → Mem → Prop) : EK := { nx := fun s => alive (s.M.take n) ∧ P .non (s.M.take n), rt := fun d s => alive (s.M.take n) ∧ P d (s.M.take n), bk := fun _ => False, ct := fun _ => False }
@[simp] def endX (n : Nat) (P : KXM) : KX := fun c x s => alive (s.M.take n) ∧ P c x (s.M.take n)
theorem ArgOk.len : ∀ {xs : List Sl} {vs : List V}, ArgOk g w H xs vs → vs.length = xs.length
  | [], _, h => by have h : _ = [] := h; subst h; rfl
  | .no :: _, _, h => h.elim
  | .dat d :: xs, _, h => by
    obtain ⟨v, r, e, _, z⟩ := h
    subst e
    rw [List.length_cons, List.length_cons, ArgOk.len z]
  | .cell d :: xs, _, h => by
    obtain ⟨v, r, e, _, z⟩ := h
    subst e
    rw [List.length_cons, List.length_cons, ArgOk.len z]
theorem ArgOk.get : ∀ {xs : List Sl} {vs : List V}, ArgOk g w H xs vs → ∀ {i : Nat} {x : Sl}, xs[i]? = some x → ∃ v, vs[i]? = some v ∧ ∀ σ : L2.St, σ[i]? = some (some v) → SlOk g w H σ i x
  | [], _, h, i, x, e => by simp at e
  | .no :: _, _, h, _, _, _ => h.elim
  | .dat d :: xs, _, h, i, x, e => by
    obtain ⟨v, r, ev, q, z⟩ := h
    subst ev
    cases i with
    | zero => cases e; exact ⟨v, rfl, fun σ es => ⟨v, es, q⟩⟩
    | succ i =>
      have e : xs[i]? = some x := by simpa using e
      obtain ⟨v2, e2, k⟩ := ArgOk.get z e
      refine ⟨v2, by simpa using e2, fun σ es => ?_⟩
      cases x with
      | no => trivial
      | dat d2 =>
        obtain ⟨v3, e3, k3⟩ := k (List.replicate i none ++ [some v2]) (by simp)
        have e3 : v2 = v3 := by simpa using e3
        subst e3
        exact ⟨v2, es, k3⟩
      | cell c =>
        obtain ⟨a, ea, k3⟩ := k (List.replicate i none ++ [some v2]) (by simp)
        have k3 : v2 = .ref a := by simpa using k3
        subst k3
        exact ⟨a, ea, es⟩
  | .cell d :: xs, _, h, i, x, e => by
    obtain ⟨v, r, ev, q, z⟩ := h
    subst ev
    cases i with
    | zero => cases e; exact ⟨.ref v, rfl, fun σ es => ⟨v, q, es⟩⟩
    | succ i =>
      have e : xs[i]? = some x := by simpa using e
      obtain ⟨v2, e2, k⟩ := ArgOk.get z e
      refine ⟨v2, by simpa using e2, fun σ es => ?_⟩
      cases x with
      | no => trivial
      | dat d2 =>
        obtain ⟨v3, e3, k3⟩ := k (List.replicate i none ++ [some v2]) (by simp)
        have e3 : v2 = v3 := by simpa using e3
        subst e3
        exact ⟨v2, es, k3⟩
      | cell c =>
        obtain ⟨a, ea, k3⟩ := k (List.replicate i none ++ [some v2]) (by simp)
        have k3 : v2 = .ref a := by simpa using k3
        subst k3
        exact ⟨a, ea, es⟩
/-- at the end: back to the caller's world -/
theorem MemOk.back {w' : Cs} {M M' : Mem} (m : MemOk g w H M) (mv : Mv w H w' H') (m' : MemOk g w' H' M') (al : alive (M'.take M.length)) : MemOk g w H' (M'.take M.length) ∧ ∀ a o, ¬ w'.bad a → H' a = some o → H' a = some o ∧ ¬ w.bad a := by
  have live : ∀ c x, w.cs[c]? = some (some x) → w'.cs[c]? = some (some x) ∧ ∃ y, M'[c]? = some (some y) := fun c x e => by
    have hc : c < M.length := by rw [← m.len]; exact (List.getElem?_eq_some_iff.mp e).1
    rcases mv.pre c _ e with q | q
    · exact ⟨q, m'.live c x q⟩
    · exfalso
      have hcl : c < M'.length := by rw [← m'.len]; exact (List.getElem?_eq_some_iff.mp q).1
      have z : M'[c]?.isSome := by simp [hcl]
      cases ez : M'[c]? with
      | none => rw [ez] at z; cases z
      | some y =>
        cases y with
        | none =>
          have hm : (none : Option CC) ∈ M'.take M.length := List.mem_of_getElem? (i := c) (by rw [List.getElem?_take_of_lt hc]; exact ez)
          have := List.all_eq_true.mp al _ hm
          cases this
        | some y =>
          obtain ⟨p, ep, _⟩ := m'.at_ c y ez
          rw [q] at ep
          cases ep
  have bad : ∀ a, w.bad a → w'.bad a := fun a h => by
    rcases h with h | h
    · obtain ⟨c, e⟩ := List.getElem?_of_mem h
      exact .inl (List.mem_of_getElem? (live c a e).1)
    · exact .inr (mv.avk a h)
  have kk : ∀ a o, ¬ w'.bad a → H' a = some o → H' a = some o ∧ ¬ w.bad a := fun a o n e => ⟨e, fun z => n (bad a z)⟩
  have hlen : M.length ≤ M'.length := by
    rw [← m.len, ← m'.len]
    by_cases h : w.cs.length ≤ w'.cs.length
    · exact h
    · exfalso
      have hc : w'.cs.length < w.cs.length := by omega
      rcases mv.pre w'.cs.length _ (List.getElem?_eq_getElem hc) with q | q
      · simp at q
      · simp at q
  refine ⟨⟨by rw [List.length_take, m.len]; omega, fun c x e => ?_, fun c a e => ?_, m.inj, fun a ha => ?_⟩, kk⟩
  · have hc : c < M.length := by
      have z := (List.getElem?_eq_some_iff.mp e).1
      rw [List.length_take] at z
      omega
    rw [List.getElem?_take_of_lt hc] at e
    obtain ⟨a, ea, q⟩ := m'.at_ c x e
    have hcl : c < w.cs.length := by rw [m.len]; exact hc
    rcases mv.pre c _ (List.getElem?_eq_getElem hcl) with z | z
    · rw [ea] at z
      have z := Option.some.inj z
      refine ⟨a, by rw [List.getElem?_eq_getElem hcl, ← z], ?_⟩
      cases x with
      | lst ds => obtain ⟨vs, q, r⟩ := q; exact ⟨vs, q, Reps.gen kk r⟩
      | dk ds => obtain ⟨vs, q, r⟩ := q; exact ⟨vs, q, RepK.gen kk r⟩
      | dt ds => obtain ⟨vs, q, r⟩ := q; exact ⟨vs, q, RepK.gen kk r⟩
    · rw [ea] at z
      cases z
  · obtain ⟨_, y, ey⟩ := live c a e
    have hc : c < M.length := by rw [← m.len]; exact (List.getElem?_eq_some_iff.mp e).1
    exact ⟨y, by rw [List.getElem?_take_of_lt hc]; exact ey⟩
  · obtain ⟨n, o, e⟩ := m.av a ha
    exact ⟨n, o, mv.ext a o n e⟩
variable {P : Program} {wd : World} {K : PySem.W.Frag} {mg : Str → Option Value} {base : Heap}
@[simp] def startS (N : List Str) (xs : List Sl) (M : Mem) : S := { r := xs ++ List.replicate (N.length - xs.length) .no, M := M }
theorem rs_start {N : List Str} {xs : List Sl} {vs : List V} {M : Mem} (hl : xs.length ≤ N.length) (ra : ArgOk g w H xs vs) (m : MemOk g w H M) : RS g w H (L2.start N vs) (startS N xs M) := by
  have hv := ra.len
  refine ⟨by unfold L2.start startS; simp [hv], fun i x e => ?_, m⟩
  by_cases hi : i < xs.length
  · have e : xs[i]? = some x := by
      have e : (xs ++ List.replicate (N.length - xs.length) .no)[i]? = some x := e
      rw [List.getElem?_append_left hi] at e
      exact e
    obtain ⟨v, ev, k⟩ := ra.get e
    refine k _ ?_
    unfold L2.start
    rw [List.getElem?_append_left (by simp [hv, hi]), List.getElem?_map, ev]
    rfl
  · have e : (xs ++ List.replicate (N.length - xs.length) .no)[i]? = some x := e
    rw [List.getElem?_append_right (by omega)] at e
    have z := List.mem_of_getElem? e
    have z : x = .no := (List.mem_replicate.mp z).2
    subst z
    trivial
theorem fn_ok {x qual : Str} {st : Stmt} {f : Addr} {fd : FuncData} {N ps : List Str} {k : Nat} {spd : SpD} {td : TSd} (F : Fun K x qual st f fd) (S : FnScope N ps (defScope st)) (g : G)
    (len : ∀ xs M P PX, spd xs M P PX → xs.length = ps.length) (hN : ps.length ≤ N.length)
    (body : ∀ (cdv : Value) (A : Around) (outer : List Env) (s : Shared) (H : Hp) (E : XK), Room k (A.deeper (PyProof.Rows.envOfC qual (defScope st) s.heap.objs.size f cdv)) →
      PSs (cxOf (L2.CX P wd) P wd K mg base N qual (defScope st) f cdv A outer s H E) (defBody st) (lS g (fun cls d _ H => E cls d H) td))
    (math : ∀ xs M P PX, spd xs M P PX → td (startS N xs M) (endE M.length P) (endX M.length PX)) : FnOk P wd K mg base (L2.CX P wd) (k + 1) f fd ps (lSp g spd) := by
  refine F.okX S (fun vs H Q E ⟨w, xs, M, P, PX, ra, m, h, _⟩ => (ra.len).trans (len xs M P PX h)) fun cdv A outer s H vs Q E hr ⟨w, xs, M, P, PX, ra, m, h, kq, kx⟩ => ?_
  refine ⟨_, body cdv A outer s H E hr, w, startS N xs M, endE M.length P, endX M.length PX, rs_start (by rw [len xs M P PX h]; exact hN) ra m, math xs M P PX h, ⟨?_, fun _ _ _ _ h => h.elim, fun _ _ _ _ h => h.elim, ?_⟩, ?_⟩
  · rintro s' w' H' σ' ⟨al, p⟩ mv rs'
    obtain ⟨mb, kk⟩ := m.back mv rs'.mem al
    exact kq _ _ H' _ p mv.ext mb (by simp only [Rep])
  · rintro d s' w' H' σ' v ⟨al, p⟩ mv rs' rp
    obtain ⟨mb, kk⟩ := m.back mv rs'.mem al
    exact kq _ _ H' _ p mv.ext mb (Rep.gen kk rp)
  · rintro c x s' w' H' σ' dd v ⟨al, p⟩ mv rs' hd rp
    obtain ⟨mb, kk⟩ := m.back mv rs'.mem al
    exact kx _ _ _ H' _ _ p mv.ext mb ⟨(kk _ _ hd.1 hd.2).2, hd.2⟩ (Rep.gen kk rp)
end
end DL

/-! enumerate of a tuple -/
namespace DLE
open PySem L2
theorem meets_enum1 {v : Value} {o : Obj} {H : Heap → Prop} (B : Begins v o H) :
    Meets (Builtin.«enumerate.__new__» ⟨[.type "enumerate", v], []⟩) (fun _ R s => H s.heap ∧
      R (.ok (.ret (.ref (s.heap.push o).objs.size))) { s with heap := (s.heap.push o).push { cls := .type "enumerate", data := .fields #[.none, .bool false, .ref s.heap.objs.size, rawInt 0, .none, .none] } }) :=
  .of_wp fun prog w A R s h => by
    obtain ⟨hp, g, d, tk, os⟩ := s; obtain ⟨h1, h⟩ := h
    have hsub := sub_enumerate
    have q1 : ∀ {A' : Around} {E : Value → Shared → Prop} {Q : Value → Shared → Prop}, Q (.ref hp.objs.size) ⟨hp.push o, g, d, tk, os⟩ → wpAny (model prog w) A' (pyIter v) Q E ⟨hp, g, d, tk, os⟩ :=
      fun q => B.iter prog w _ _ ⟨hp, g, d, tk, os⟩ _ h1 q
    wp_walk using q1
    refine wpAny_stack_any fun st => wpAny_pure ?_
    split
    · rename_i c _ _ _ _ _
      cases (c == Value.type "enumerate")
      · wp_walk using q1
        exact ⟨_, rfl, h⟩
      · wp_walk using q1
        exact ⟨_, rfl, h⟩
    · wp_walk using q1
      exact ⟨_, rfl, h⟩
section
variable {prog : Program} {w : World} {A : Around} {E : Value → Shared → Prop} {s : Shared}
theorem call_enum1 {v : Value} {o : Obj} {H : Heap → Prop} {Q : Value → Shared → Prop} (B : Begins v o H) (h1 : H s.heap)
    (h : ∀ h', IsEnum h' (s.heap.objs.size + 1) s.heap.objs.size 0 .none → h'.get? s.heap.objs.size = some o → h'.objs.size = s.heap.objs.size + 2 →
      (∀ b o, s.heap.get? b = some o → h'.get? b = some o) → Q (.ref (s.heap.objs.size + 1)) { s with heap := h' }) :
    wpAny (model prog w) A (call (.type "enumerate") [v]) Q E s := by
  refine callType_new F.called_enumerate (by decide) (F.typeCall_enumerate_1 _) (F.newCall_enumerate_1 _) (fun obj => F.args_object_init_2 obj _) F.entry_enumerate_new
    (meets_enum1 B) ⟨h1, ?_⟩
  have hz : (s.heap.push o).objs.size = s.heap.objs.size + 1 := Heap.size_push ..
  show _ ∧ _
  rw [hz]
  have he : IsEnum ((s.heap.push o).push { cls := .type "enumerate", data := .fields #[.none, .bool false, .ref s.heap.objs.size, rawInt 0, .none, .none] }) (s.heap.objs.size + 1) s.heap.objs.size 0 .none := by
    have := Heap.get?_push_size (s.heap.push o) (o := { cls := .type "enumerate", data := .fields #[.none, .bool false, .ref s.heap.objs.size, rawInt 0, .none, .none] }) rfl
    rw [hz] at this; exact this
  exact ⟨⟨_, he, rfl⟩, h _ he (Heap.get?_push_of_some _ (Heap.get?_push_size _ B.free)) (by rw [Heap.size_push, hz]) fun b o x => Heap.get?_push_of_some _ (Heap.get?_push_of_some _ x)⟩
end
/-- the tuple at a, each item in a new pair -/
def IteT (a : Addr) : It :=
  ⟨fun i H => ∃ (xs : List V) (x : V), H a = some (.tup xs) ∧ xs[i]? = some x, fun i H v H' => ∃ T x, v = .ref T ∧ H T = none ∧ H' = upd H T (.tup [.int (i : Nat), x]) ∧ ∀ xs, H a = some (.tup xs) → xs[i]? = some x, fun i H => ∃ xs : List V, H a = some (.tup xs) ∧ xs.length = i⟩
theorem turn_enumT {P : Program} {w : World} {K : PySem.W.Frag} {elts : List Expr} {kk : Nat} {tpos : Pos} (a e it : Addr) :
    Turn P w K (.Tuple elts kk tpos) (IteT a) [e, it] e (fun i h => (∃ old, IsEnum h e it ((i : Nat) : Int) old) ∧ h.IsTupleIter it a i ∧ e ≠ it) where
  mem := by simp
  obj := fun i h st b hb => by
    obtain ⟨⟨old, he⟩, ⟨o, ho, hc, hd⟩, _⟩ := st
    have e' : b = e ∨ b = it := by simpa using hb
    rcases e' with z | z
    · rw [z]; exact ⟨_, he, fun v q => nomatch q⟩
    · rw [z]; exact ⟨o, ho, fun v q => by rw [hd] at q; cases q⟩
  keep := fun i h h' st k => let ⟨⟨old, he⟩, hi, hne⟩ := st; ⟨⟨old, k e (by simp) _ he⟩, hi.at fun o q => k it (by simp) o q, hne⟩
  item := by
    intro X hP hw hK hc i pins s σ H E I hf st hg
    subst hP hw hK
    obtain ⟨⟨old, he⟩, hit, hne⟩ := st
    obtain ⟨xs, x, hq, hx⟩ := hg
    obtain ⟨its, rv, p, hz⟩ := I.tuple (SqT.of hq)
    obtain ⟨u, hu, ru⟩ := rv.get hx
    have hel : e < s.heap.objs.size := Heap.lt_size he
    have hil : it < s.heap.objs.size := by obtain ⟨_, q, _⟩ := hit; exact Heap.lt_size q
    have hai : a ≠ it := fun z => by
      have := (hf it (by simp)).1
      rw [← z, hq] at this; cases this
    have hae : a ≠ e := fun z => by
      have := (hf e (by simp)).1
      rw [← z, hq] at this; cases this
    have D := Draws.tuple (prog := X.prog) (w := X.w) (A := X.A.in1) (I.ok.hd hc) it a hai its.toArray
    have hlt : i < its.toArray.size := by
      have z := (List.getElem?_eq_some_iff.mp hu).1
      simpa using z
    refine wpAny_pyNext_enum_itemD D he ⟨hit, p⟩ hlt hne (by simp [hne, Ne.symm hae]) fun y h' tk hy ho hst hT hsz hk => ?_
    have ey : y = u := by
      have z : its[i]? = some y := by simpa using hy
      rw [hu] at z
      exact (Option.some.inj z).symm
    subst ey
    obtain ⟨hit', _⟩ := hst
    refine ⟨_, rfl, wpAny_letOwnedTupleGo_enum (s := { s with heap := h', toks := tk + 1 }) ho fun h'' he' sb => ?_⟩
    have hT2 : h''.get? s.heap.objs.size = some { cls := .type "tuple", data := .seq #[.int i tk, y] } := (sb.2 _ (Nat.ne_of_gt hel)).trans hT
    have new : ObjOk X.prog X.w (upd H s.heap.objs.size (.tup [.int (i : Nat), x])) h'' s.heap.objs.size (.tup [.int (i : Nat), x]) :=
      ⟨by show 2 ≤ sizeLine; decide, [.int i tk, y], .cons ⟨_, rfl⟩ (.cons ru .nil), ⟨_, hT2, rfl, _, rfl⟩⟩
    have I1 : Inv X pins σ (upd H s.heap.objs.size (.tup [.int (i : Nat), x])) { s with heap := h'', toks := tk + 1 } :=
      I.turnedNew (ch := [e, it]) (fun b ob hb q => (sb.2 b (fun z => hb (by simp [z]))).trans (hk b ob (fun z => hb (by simp [z])) (fun z => hb (by simp [z])) q)) hf (Nat.le_refl _) new
    refine ⟨.ref s.heap.objs.size, _, I1, rfl, ⟨_, x, rfl, I.hok.fresh (Nat.le_refl _), rfl, fun ys hy => by rw [hq] at hy; cases hy; exact hx⟩, ⟨⟨y, ?_⟩, hit'.at fun o q => (sb.2 it (Ne.symm hne)).trans q, hne⟩, fun b hb => ?_⟩
    · have e1 : ((i + 1 : Nat) : Int) = (i : Int) + 1 := by omega
      rw [e1]; exact he'
    · have hb' : b < s.heap.objs.size := by
        have e' : b = e ∨ b = it := by simpa using hb
        rcases e' with z | z
        · rw [z]; exact hel
        · rw [z]; exact hil
      rw [upd_ne (Nat.ne_of_lt hb')]
      exact (hf b hb).1
  done := by
    intro X hP hw hK hc i pins s σ H E I hf st hg
    subst hP hw hK
    obtain ⟨⟨old, he⟩, hit, hne⟩ := st
    obtain ⟨xs, hq, hx⟩ := hg
    obtain ⟨its, rv, p, hz⟩ := I.tuple (SqT.of hq)
    obtain ⟨f0, f1, f2, f3, f4, f5⟩ := hf it (by simp)
    have hl := rv.length
    have hai : a ≠ it := fun z => by
      rw [← z, hq] at f0; cases f0
    have D := Draws.tuple (prog := X.prog) (w := X.w) (A := X.A.in1) (I.ok.hd hc) it a hai its.toArray
    have e0 : i = its.toArray.size := by simp; omega
    exact wpAny_pyNext_enum_endD D he (by rw [← e0]; exact ⟨hit, p⟩) fun h' eb => ⟨rfl, I.turned (t' := s.toks) (fun b o hb q => eb b o hb q) f0 f1 f3 f4 f5⟩
  self := fun A i s Q E st h => let ⟨⟨_, he⟩, _⟩ := st; wpAny_pyIter_enum he h
def iEnumA (K : PySem.W.Frag) (ta : TA) : TI := fun σ H R => ta σ H fun vs H1 => ∃ a xs, vs = [.ref a] ∧ ((SqL K H1 a xs ∧ R (Ite K a) H1) ∨ (H1 a = some (.tup xs) ∧ R (IteT a) H1))
theorem pi_enumA {X : Cx} {e : Expr} {ta : TA} {p pos tpos : Pos} {elts : List Expr} {kk : Nat} (hg : Gl X "enumerate") (hm : X.mg "enumerate" = none) (ha : PA X [e] ta) (hs : starEach [e] X.env = [(false, eval e X.env)] := by rfl) :
    PI X (.Tuple elts kk tpos) (.Call (.Name "enumerate" p) [e] [] pos) (iEnumA X.K ta) := by
  refine ⟨fun pins s σ H R I h => ?_⟩
  refine PyProof.Rows.Call_ (ld_blt I hg hm PyProof.Rows.boot_enumerate (PyProof.Rows.callWith_type1 (thn (ha.run pos pins s σ H _ I h) fun us s1 ⟨vs, H1, I1, r1, q1⟩ => ?_) hs rfl))
  obtain ⟨a, xs, ex, q⟩ := q1
  subst ex
  cases r1 with
  | cons r rr =>
    cases rr
    cases r
    have fin : ∀ {b : Addr}, b ∈ [s1.heap.objs.size + 1, s1.heap.objs.size] → FpOk X pins H1 b := fun {b} hb => by
      have e' : b = s1.heap.objs.size + 1 ∨ b = s1.heap.objs.size := by simpa using hb
      have hle : s1.heap.objs.size ≤ b := by
        rcases e' with z | z
        · rw [z]; exact Nat.le_add_right _ _
        · rw [z]; exact Nat.le_refl _
      exact I1.fpOk hle (I1.hok.fresh hle)
    rcases q with ⟨hq, q⟩ | ⟨hq, q⟩
    · obtain ⟨its, rv, p', hz⟩ := I1.list hq
      refine call_enumerate_list p'.isList fun h' he hit hsz hk => wpAny_pyIter_enum he ?_
      have I2 : Inv X pins σ H1 { s1 with heap := h' } := I1.kept (t' := s1.toks) hk
      exact ⟨s1.heap.objs.size + 1, [s1.heap.objs.size + 1, s1.heap.objs.size], _, _, H1, rfl, I2, turn_enum a (s1.heap.objs.size + 1) s1.heap.objs.size, ⟨⟨.none, he⟩, hit, Nat.succ_ne_self _⟩, fun b hb => fin hb, q⟩
    · obtain ⟨its, rv, p', hz⟩ := I1.tuple (SqT.of hq)
      refine call_enum1 (begins_tuple a its.toArray) (show s1.heap.IsTuple a its.toArray from p') fun h' he hit hsz hk => wpAny_pyIter_enum he ?_
      have I2 : Inv X pins σ H1 { s1 with heap := h' } := I1.kept (t' := s1.toks) hk
      exact ⟨s1.heap.objs.size + 1, [s1.heap.objs.size + 1, s1.heap.objs.size], _, _, H1, rfl, I2, turn_enumT a (s1.heap.objs.size + 1) s1.heap.objs.size, ⟨⟨.none, he⟩, ⟨_, hit, rfl, rfl⟩, Nat.succ_ne_self _⟩, fun b hb => fin hb, q⟩
end DLE
namespace DL
open PySem L2
section
variable {X : Cx} {g : G} {W : WX} {pos : Pos} {a b c e : Expr} {ta tb tc : TD} {w : Cs} {H H' : Hp} {σ : L2.St} {s : S} {t : TDA}
def enumD (ds : List D) : List D := ds.zipIdx.map fun p => D.tup [.int (p.2 : Nat), p.1]
theorem enumD_at {ds : List D} {i : Nat} {d : D} (h : ds[i]? = some d) : (enumD ds)[i]? = some (.tup [.int (i : Nat), d]) := by
  unfold enumD
  rw [List.getElem?_map, List.getElem?_zipIdx, h]
  simp
theorem enumD_len (ds : List D) : (enumD ds).length = ds.length := by simp [enumD]
theorem walkD_pair {J : It} {ds es : List D} {vs : List V} {Gd : Hp → Prop} (hl : es.length = ds.length) (wk : Walk J vs.length Gd (YPair (fun i => some (.int (i : Nat))) (fun i => vs[i]?))) (hG : ∀ w' H', Mv w H w' H' → Gd H') (rv : Reps g w H ds vs) (he : es = enumD ds) : WalkD g w H J es :=
  ⟨Gd, _, by rw [hl, ← rv.len]; exact wk, hG, fun i w' H1 x H2 hi m nb y => by
    obtain ⟨T, x1, y1, e1, n1, e2, e3, e4⟩ := y
    subst e1 e2
    have e3 := Option.some.inj e3
    subst e3
    obtain ⟨d, ed, rp⟩ := rv.get e4
    refine ⟨same_upd n1, _, by rw [he]; exact enumD_at ed, Rep.tup (nb T n1) upd_same (Reps.cons (by simp only [Rep]) (Reps.cons ((rp.mv m).mv (.of_same (same_upd n1))) Reps.nil))⟩⟩
@[simp] def dEnum (t : TDA) : TDI := fun s P X => t s (fun xs s1 => ∃ d ds, xs = [.dat d] ∧ seqD d = some ds ∧ P (enumD ds) s1) X
theorem di_enum {p tpos : Pos} {elts : List Expr} {kk : Nat} (hg : Gl X "enumerate") (hm : X.mg "enumerate" = none) (ha : PA X [e] (lA g W t)) (hs : starEach [e] X.env = [(false, eval e X.env)] := by rfl) : PI X (.Tuple elts kk tpos) (.Call (.Name "enumerate" p) [e] [] pos) (lI g W (dEnum t)) := pi_imp (DLE.pi_enumA hg hm ha hs) fun σ H R ⟨w, s, P, PX, rs, h, k, x⟩ =>
  ⟨w, s, _, PX, rs, h, fun xs s1 H1 vs q e1 rs1 ra => by
    obtain ⟨d, ds, e, ed, q⟩ := q
    subst e
    obtain ⟨v, e, rp⟩ := ArgOk.one ra
    subst e
    cases d <;> simp only [seqD, reduceCtorEq, Option.some.injEq] at ed
    · subst ed
      simp only [Rep] at rp
      obtain ⟨a, vs, e, n, hp, rv⟩ := rp
      subst e
      refine ⟨a, vs, rfl, .inr ⟨hp, k _ s1 H1 _ q e1 rs1 (walkD_pair (Gd := fun H => H a = some (.tup vs)) (enumD_len _) ⟨fun i H hi h => ⟨vs, vs[i], h, by simp [hi]⟩, fun H h => ⟨vs, h, rfl⟩, fun i H v H' hi h y => ?_⟩ (fun w' H' m => m.at_ n hp) rv rfl)⟩⟩
      obtain ⟨T, x, h1, h2, h3, h4⟩ := y
      exact ⟨T, .int (i : Nat), x, h1, h2, h3, rfl, h4 vs h⟩
    · subst ed
      simp only [Rep] at rp
      obtain ⟨a, vs, e, n, hp, rv⟩ := rp
      subst e
      exact ⟨a, vs, rfl, .inl ⟨SqL.of hp, k _ s1 H1 _ q e1 rs1 (walkD_pair (enumD_len _) walk_enum (fun w' H' m => SqL.of (m.at_ n hp)) rv rfl)⟩⟩, x⟩
end
end DL

namespace DL
open PySem L2
section
variable {X : Cx} {g : G} {W : WX} {pos : Pos} {a b c e : Expr} {ta tb tc td : TD} {w : Cs} {H H' : Hp} {σ : L2.St} {s : S} {t : TDA}

/-! ### cells: append, pop, items stored -/
/-- a method of the list in slot i on one argument: (content, argument) to (answer, new content) -/
@[simp] def isLst : Option (Option CC) → Prop
  | some (some (.lst _)) => True
  | _ => False
theorem isLst_ex {m : Option (Option CC)} (h : isLst m) : ∃ ds, m = some (some (.lst ds)) := by
  match m, h with
  | some (some (.lst ds)), _ => exact ⟨ds, rfl⟩
@[simp] def dMeth1 (i : Nat) (f : List D → D → (D → List D → Prop) → Prop) (td : TD) : TD := fun s P X => ∃ c, s.r[i]? = some (.cell c) ∧ isLst s.M[c]? ∧ td s (fun d s1 => ∃ ds, s1.M[c]? = some (some (.lst ds)) ∧ f ds d fun z ds' => P z { s1 with M := s1.M.set c (some (.lst ds')) }) X
@[simp] def dMeth0 (i : Nat) (f : List D → (D → List D → Prop) → Prop) : TD := fun s P X => ∃ c, s.r[i]? = some (.cell c) ∧ ∃ ds, s.M[c]? = some (some (.lst ds)) ∧ f ds fun z ds' => P z { s with M := s.M.set c (some (.lst ds')) }
theorem tyList {K : PySem.W.Frag} {a : Addr} {vs : List V} (h : H a = some (.lst vs)) : tyV K "list" (.ref a) H := .inl ⟨rfl, _, .inl (.inl h)⟩
theorem l_meth1 {r : V → List V → Hp → VK → Prop} {i : Nat} {f : List D → D → (D → List D → Prop) → Prop}
    (hr : ∀ (a : Addr) (vs : List V) (v : V) (w : Cs) (H : Hp) (ds : List D) (d : D) (P : D → List D → Prop) (Q : VK), H a = some (.lst vs) → Reps g w H ds vs → Rep g w H d v → f ds d P →
      (∀ z zv ds' vs', P z ds' → Rep g w H z zv → Reps g w H ds' vs' → Q zv (upd H a (.lst vs'))) → r (.ref a) [v] H Q) :
    ∀ σ H Q, lE g W (dMeth1 i f td) σ H Q → tBM X.K "list" r (tVar i) (tCons (lE g W td) tNil) σ H Q := fun σ H Q ⟨w, s, P, PX, rs, ⟨c, ec, il, h⟩, k, x⟩ => by
  obtain ⟨a, ea, ev⟩ := rs.slot i _ ec
  have tr : ∃ vs, H a = some (.lst vs) := by
    obtain ⟨ds0, ey⟩ := isLst_ex il
    obtain ⟨a', ea', vs, q, _⟩ := rs.mem.at_ c _ ey
    rw [ea] at ea'
    cases ea'
    exact ⟨vs, q⟩
  obtain ⟨vs0, hvs0⟩ := tr
  refine ⟨.ref a, ev, tyList hvs0, w, s, _, PX, rs, h, fun d s1 H1 v q e1 rs1 rp => ?_, x⟩
  obtain ⟨ds, em, q⟩ := q
  obtain ⟨a', ea', vs, hp, rv⟩ := rs1.mem.at_ c _ em
  rw [ea] at ea'
  cases ea'
  refine hr a vs v w H1 ds d _ _ hp rv rp q fun z zv ds' vs' pz rz rv' => ?_
  have hb : w.bad a := .inl (List.mem_of_getElem? ea)
  exact k z _ _ zv pz (e1.trans (upd_cell_ext ea)) (rs1.updCell ea rv') (Rep.gen (upd_k hb) rz)
theorem l_meth0 {r : V → List V → Hp → VK → Prop} {i : Nat} {f : List D → (D → List D → Prop) → Prop}
    (hr : ∀ (a : Addr) (vs : List V) (w : Cs) (H : Hp) (ds : List D) (P : D → List D → Prop) (Q : VK), H a = some (.lst vs) → Reps g w H ds vs → f ds P →
      (∀ z zv ds' vs', P z ds' → Rep g w H z zv → Reps g w H ds' vs' → Q zv (upd H a (.lst vs'))) → r (.ref a) [] H Q) :
    ∀ σ H Q, lE g W (dMeth0 i f) σ H Q → tBM0 X.K "list" r (tVar i) σ H Q := fun σ H Q ⟨w, s, P, PX, rs, ⟨c, ec, ds, em, h⟩, k, x⟩ => by
  obtain ⟨a, ea, ev⟩ := rs.slot i _ ec
  obtain ⟨a', ea', vs, hp, rv⟩ := rs.mem.at_ c _ em
  rw [ea] at ea'
  cases ea'
  refine ⟨.ref a, ev, tyList hp, hr a vs w H ds _ _ hp rv h fun z zv ds' vs' pz rz rv' => ?_⟩
  have hb : w.bad a := .inl (List.mem_of_getElem? ea)
  exact k z _ _ zv pz (upd_cell_ext ea) (rs.updCell ea rv') (Rep.gen (upd_k hb) rz)
@[simp] def fAppend : List D → D → (D → List D → Prop) → Prop := fun ds d P => ds.length < sizeLine ∧ P .non (ds ++ [d])
@[simp] def fPopAt : List D → D → (D → List D → Prop) → Prop := fun ds d P => ∃ (k : Nat) (z : D), d = .int (k : Int) ∧ (k : Int) < 2 ^ 63 ∧ ds[k]? = some z ∧ P z (ds.eraseIdx k)
@[simp] def fPop : List D → (D → List D → Prop) → Prop := fun ds P => ∃ z, ds[ds.length - 1]? = some z ∧ P z ds.dropLast
theorem Reps.dropLast {ds : List D} {vs : List V} (h : Reps g w H ds vs) : Reps g w H ds.dropLast vs.dropLast := by
  rw [List.dropLast_eq_take, List.dropLast_eq_take, h.len]
  exact Reps.take _ h
variable {x : Str} {p q : Pos}
theorem de_append (i : Nat) (h : PE X e (tBM X.K "list" rAppend (tVar i) (tCons (lE g W td) tNil))) : PE X e (lE g W (dMeth1 i fAppend td)) := pe_imp h (l_meth1 fun a vs v w H ds d P Q hp rv rp ⟨hl, pz⟩ k =>
  ⟨a, vs, v, rfl, rfl, hp, by rw [rv.len]; exact hl, k _ _ _ _ pz (by simp only [Rep]) (Reps.app rv (Reps.cons rp Reps.nil))⟩)
theorem de_popAt (i : Nat) (h : PE X e (tBM X.K "list" rPopAt (tVar i) (tCons (lE g W td) tNil))) : PE X e (lE g W (dMeth1 i fPopAt td)) := pe_imp h (l_meth1 fun a vs v w H ds d P Q hp rv rp ⟨j, z, ed, hj, hz, pz⟩ k => by
  subst ed
  simp only [Rep] at rp
  subst rp
  obtain ⟨zv, ez, rz⟩ := rv.get' hz
  have hjl : j < ds.length := (List.getElem?_eq_some_iff.mp hz).1
  refine ⟨a, vs, (j : Int), j, zv, rfl, rfl, hp, by omega, hj, ?_, ez, k _ _ _ _ pz rz (Reps.erase j rv)⟩
  obtain ⟨j', e1, e2, _⟩ := atI_get (atI_nat (xs := vs) ez)
  rw [e1]
  have hix : L2.ixN vs.length (j : Int) = some j := by
    unfold L2.ixN
    rw [if_pos (by omega), if_pos (by rw [rv.len]; omega)]
    simp
  have := (ixN_seq hix).1
  rw [e1] at this
  exact this)
theorem de_pop (i : Nat) (h : PE X e (tBM0 X.K "list" rPop (tVar i))) : PE X e (lE g W (dMeth0 i fPop)) := pe_imp h (l_meth0 fun a vs w H ds P Q hp rv ⟨z, hz, pz⟩ k => by
  rw [← rv.len] at hz
  obtain ⟨zv, ez, rz⟩ := rv.get' hz
  exact ⟨a, vs, zv, rfl, rfl, hp, ez, k _ _ _ _ pz rz rv.dropLast⟩)
/-- x[i] = e, x a cell -/
@[simp] def dSetIx (i : Nat) (tb te : TD) : TSd := fun s E X => te s (fun d s1 => ∃ c, s1.r[i]? = some (.cell c) ∧ tb s1 (fun y s2 => ∃ ds k j, s2.M[c]? = some (some (.lst ds)) ∧ y = .int k ∧ ixN ds.length k = some j ∧ E.nx { s2 with M := s2.M.set c (some (.lst (ds.set j d))) }) X) X
theorem ds_setIx (i : Nat) {te : TD} {st : Stmt} (h : PS X st (tAsg (lE g W te) (gSub (tVar i) (lE g W tb) rSetL))) : PS X st (lS g W (dSetIx i tb te)) := ps_imp h fun D σ H ⟨w, s, E, PX, rs, h, k, x⟩ =>
  ⟨w, s, _, PX, rs, h, fun d s1 H1 v q e1 rs1 rp => by
    obtain ⟨c, ec, q⟩ := q
    obtain ⟨a, ea, ev⟩ := rs1.slot i _ ec
    refine ⟨.ref a, ev, w, s1, _, PX, rs1, q, fun y s2 H2 yv q2 e2 rs2 rp2 => ?_, x.ex.ext e1⟩
    obtain ⟨ds, kk, j, em, ey, ei, q2⟩ := q2
    subst ey
    simp only [Rep] at rp2
    obtain ⟨a', ea', vs, hp, rv⟩ := rs2.mem.at_ c _ em
    rw [ea] at ea'
    cases ea'
    exact ⟨a, vs, kk, j, rfl, rp2, hp, by rw [rv.len]; exact ei, k.nx _ w _ σ q2 (.of_ext (e1.trans (e2.trans (upd_cell_ext ea)))) (rs2.updCell ea (Reps.set j rv (rp.mv (.of_ext e2))))⟩, x.ex⟩
/-- x op= e, ints -/
def lIp (g : G) (r : RD) : TIp := fun x y H Q => lR g r x y H Q
@[simp] def dAug (i : Nat) (r : RD) (td : TD) : TSd := fun s E X => ∃ d, s.r[i]? = some (.dat d) ∧ td s (fun y s1 => r d y fun z => E.nx { s1 with r := s1.r.set i (.dat z) }) X
theorem ds_aug (i : Nat) {st : Stmt} {r : RD} {ti : TIp} (hi : ∀ x y H Q, lR g r x y H Q → ti x y H Q) (h : PS X st (tAug i (lE g W td) ti)) : PS X st (lS g W (dAug i r td)) := ps_imp h fun D σ H ⟨w, s, E, PX, rs, ⟨d, ed, h⟩, k, x⟩ => by
  obtain ⟨v, ev, q⟩ := rs.slot i _ ed
  refine ⟨v, ev, w, s, _, PX, rs, h, fun y s1 H1 yv q1 e1 rs1 rp => hi _ _ _ _ ⟨w, d, y, _, q.mv (.of_ext e1), rp, q1, fun a n => rs1.mem.fresh n, fun z u H3 pz sm rz => k.nx _ w H3 _ pz (.of_ext (e1.trans (.of_same sm))) ((rs1.same sm).set rz)⟩, x.ex⟩
theorem l_ip {f : Int → Int → Int} : ∀ x y H Q, lR g (rI2 fun i j => .int (f i j)) x y H Q → ipI f x y H Q := fun x y H Q h => lI2 h

/-! ### sorted: ints, pairs of ints -/
def insI (x : Int) : List Int → List Int
  | [] => [x]
  | y :: r => if x ≤ y then x :: y :: r else y :: insI x r
def sortI : List Int → List Int
  | [] => []
  | x :: r => insI x (sortI r)
theorem insI_perm (x : Int) : ∀ l, (insI x l).Perm (x :: l)
  | [] => List.Perm.refl _
  | y :: r => by
    unfold insI
    split
    · exact List.Perm.refl _
    · exact ((insI_perm x r).cons y).trans (List.Perm.swap x y r)
theorem sortI_perm : ∀ l, (sortI l).Perm l
  | [] => List.Perm.refl _
  | x :: r => (insI_perm x _).trans ((sortI_perm r).cons x)
theorem insI_sorted (x : Int) : ∀ l, l.Pairwise (· ≤ ·) → (insI x l).Pairwise (· ≤ ·)
  | [], _ => by simp [insI]
  | y :: r, h => by
    unfold insI
    split
    · rename_i hxy
      refine List.pairwise_cons.mpr ⟨fun z hz => ?_, h⟩
      rcases List.mem_cons.mp hz with e | hz
      · rw [e]; exact hxy
      · exact Int.le_trans hxy ((List.pairwise_cons.mp h).1 z hz)
    · rename_i hxy
      refine List.pairwise_cons.mpr ⟨fun z hz => ?_, insI_sorted x r (List.pairwise_cons.mp h).2⟩
      rcases List.mem_cons.mp ((insI_perm x r).mem_iff.mp hz) with e | hz
      · rw [e]; omega
      · exact (List.pairwise_cons.mp h).1 z hz
theorem sortI_sorted : ∀ l, (sortI l).Pairwise (· ≤ ·)
  | [] => List.Pairwise.nil
  | x :: r => insI_sorted x _ (sortI_sorted r)
theorem sorted_uniq {α : Type} {R : α → α → Prop} (anti : ∀ x y, R x y → R y x → x = y) : ∀ {l m : List α}, l.Perm m → l.Pairwise R → m.Pairwise R → l = m
  | [], m, p, _, _ => (List.Perm.eq_nil p.symm).symm
  | x :: l, [], p, _, _ => absurd p.length_eq (by simp)
  | x :: l, y :: m, p, h1, h2 => by
    have e : x = y := by
      rcases List.mem_cons.mp (p.mem_iff.mp (List.mem_cons_self (a := x) (l := l))) with e | hx
      · exact e
      · rcases List.mem_cons.mp (p.mem_iff.mpr (List.mem_cons_self (a := y) (l := m))) with e | hy
        · exact e.symm
        · exact anti x y ((List.pairwise_cons.mp h1).1 y hy) ((List.pairwise_cons.mp h2).1 x hx)
    subst e
    rw [sorted_uniq anti p.cons_inv (List.pairwise_cons.mp h1).2 (List.pairwise_cons.mp h2).2]
def leP (p q : Int × Int) : Bool := !SrtO.lexB q p
def insP (x : Int × Int) : List (Int × Int) → List (Int × Int)
  | [] => [x]
  | y :: r => if leP x y = true then x :: y :: r else y :: insP x r
def sortP : List (Int × Int) → List (Int × Int)
  | [] => []
  | x :: r => insP x (sortP r)
theorem leP_iff {p q : Int × Int} : leP p q = true ↔ p.1 < q.1 ∨ (p.1 = q.1 ∧ p.2 ≤ q.2) := by
  unfold leP
  rw [Bool.not_eq_true', SrtO.lexB_no]
  omega
theorem insP_perm (x : Int × Int) : ∀ l, (insP x l).Perm (x :: l)
  | [] => List.Perm.refl _
  | y :: r => by
    unfold insP
    split
    · exact List.Perm.refl _
    · exact ((insP_perm x r).cons y).trans (List.Perm.swap x y r)
theorem sortP_perm : ∀ l, (sortP l).Perm l
  | [] => List.Perm.refl _
  | x :: r => (insP_perm x _).trans ((sortP_perm r).cons x)
abbrev LeP (p q : Int × Int) : Prop := leP p q = true
theorem insP_sorted (x : Int × Int) : ∀ l, l.Pairwise LeP → (insP x l).Pairwise LeP
  | [], _ => by simp [insP]
  | y :: r, h => by
    unfold insP
    split
    · rename_i hxy
      refine List.pairwise_cons.mpr ⟨fun z hz => ?_, h⟩
      rcases List.mem_cons.mp hz with e | hz
      · rw [e]; exact hxy
      · have h1 := leP_iff.mp hxy
        have h2 := leP_iff.mp ((List.pairwise_cons.mp h).1 z hz)
        exact leP_iff.mpr (by omega)
    · rename_i hxy
      refine List.pairwise_cons.mpr ⟨fun z hz => ?_, insP_sorted x r (List.pairwise_cons.mp h).2⟩
      rcases List.mem_cons.mp ((insP_perm x r).mem_iff.mp hz) with e | hz
      · rw [e]
        have h1 : ¬ (x.1 < y.1 ∨ (x.1 = y.1 ∧ x.2 ≤ y.2)) := fun z => hxy (leP_iff.mpr z)
        exact leP_iff.mpr (by omega)
      · exact (List.pairwise_cons.mp h).1 z hz
theorem sortP_sorted : ∀ l, (sortP l).Pairwise LeP
  | [] => List.Pairwise.nil
  | x :: r => insP_sorted x _ (sortP_sorted r)
theorem leP_anti : ∀ x y : Int × Int, LeP x y → LeP y x → x = y := fun x y h1 h2 => by
  have a := leP_iff.mp h1
  have b := leP_iff.mp h2
  exact Prod.ext (by omega) (by omega)
@[simp] def pairD (p : Int × Int) : D := .tup [.int p.1, .int p.2]
def rSortD : RCd := fun xs M P => match xs with
  | [.dat (.lst ds)] => (∃ ns : List Int, ds = ns.map D.int ∧ P (.lst ((sortI ns).map D.int))) ∨ (∃ ps : List (Int × Int), ds = ps.map pairD ∧ P (.lst ((sortP ps).map pairD)))
  | _ => False
def keyAt (H : Hp) : V → Int × Int
  | .ref a => match H a with
    | some (.tup [.int i, .int j]) => (i, j)
    | _ => (0, 0)
  | _ => (0, 0)
theorem pairs_key : ∀ {ps : List (Int × Int)} {vs : List V}, Reps g w H (ps.map pairD) vs → vs.map (keyAt H) = ps ∧ ∀ v ∈ vs, ∃ t, v = .ref t ∧ ¬ w.bad t ∧ H t = some (.tup [.int (keyAt H v).1, .int (keyAt H v).2])
  | [], vs, h => by simp only [List.map_nil, Reps] at h; subst h; exact ⟨rfl, fun _ h => nomatch h⟩
  | p :: ps, vs, h => by
    simp only [List.map_cons, Reps, pairD, Rep] at h
    obtain ⟨v, r, e, ⟨a, us, ev, n, hp, u1, r1, e1, q1, u2, r2, e2, q2, e3⟩, z⟩ := h
    subst e ev e3 e2 q2 e1 q1
    obtain ⟨i1, i2⟩ := pairs_key z
    have kk : keyAt H (.ref a) = p := by simp only [keyAt, hp]
    refine ⟨by rw [List.map_cons, kk, i1], fun v hv => ?_⟩
    rcases List.mem_cons.mp hv with e | hv
    · subst e
      exact ⟨a, rfl, n, by rw [kk]; exact hp⟩
    · exact i2 v hv
theorem reps_pairs : ∀ {vs : List V}, (∀ v ∈ vs, ∃ t, v = .ref t ∧ ¬ w.bad t ∧ H t = some (.tup [.int (keyAt H v).1, .int (keyAt H v).2])) → Reps g w H ((vs.map (keyAt H)).map pairD) vs
  | [], _ => Reps.nil
  | v :: vs, h => by
    obtain ⟨t, e, n, ht⟩ := h v List.mem_cons_self
    exact Reps.cons (by rw [e] at ht ⊢; exact Rep.tup n ht (Reps.cons (by simp only [Rep]) (Reps.cons (by simp only [Rep]) Reps.nil))) (reps_pairs fun u hu => h u (List.mem_cons_of_mem _ hu))
def rSortV (K : PySem.W.Frag) : List V → Hp → VK → Prop := fun vs H Q => rSortedPO K vs H Q ∨ rSortedI K vs H Q
theorem l_sort : ∀ vs H Q, lC g rSortD vs H Q → rSortV X.K vs H Q := fun vs H Q ⟨w, xs, M, P, ha, m, r, q⟩ => by
  match xs, r, ha with
  | [.dat (.lst ds)], r, ha =>
    obtain ⟨v, e, h⟩ := ArgOk.one ha
    subst e
    simp only [Rep] at h
    obtain ⟨p, ys, e, n, hp, rv⟩ := h
    subst e
    rcases r with ⟨ns, e, r⟩ | ⟨ps, e, r⟩
    · subst e
      have e := rv.ints
      subst e
      refine .inr ⟨p, ns, rfl, SqL.of hp, fun ns' p' pm so np => ?_⟩
      have e : ns' = sortI ns := sorted_uniq (R := fun a b : Int => a ≤ b) (fun x y h1 h2 => by omega) (pm.trans (sortI_perm ns).symm) so (sortI_sorted ns)
      subst e
      exact q _ _ _ r (same_upd np) (Rep.lst (m.fresh np) upd_same (Reps.of_ints _))
    · subst e
      obtain ⟨e1, e2⟩ := pairs_key rv
      refine .inl ⟨p, ys, keyAt H, rfl, SqL.of hp, fun x hx => ?_, fun zs p' so st np => ?_⟩
      · obtain ⟨t, e, _, ht⟩ := e2 x hx
        exact ⟨t, e, ht⟩
      · have hz : ∀ v ∈ zs, ∃ t, v = .ref t ∧ ¬ w.bad t ∧ H t = some (.tup [.int (keyAt H v).1, .int (keyAt H v).2]) := fun v hv => e2 v (st.perm.mem_iff.mp hv)
        have e : zs.map (keyAt H) = sortP ps := by
          refine sorted_uniq leP_anti ?_ ?_ (sortP_sorted ps)
          · exact ((st.perm.map _).trans (by rw [e1])).trans (sortP_perm ps).symm
          · refine List.pairwise_map.mpr (so.imp fun {a b} h => ?_)
            have h : SrtO.lexB (keyAt H b) (keyAt H a) = false := h
            unfold LeP leP
            rw [h]
            rfl
        have rz := reps_pairs (g := g) hz
        rw [e] at rz
        exact q _ _ _ r (same_upd np) (Rep.lst (m.fresh np) upd_same (rz.mv (.of_same (same_upd np))))
theorem de_sorted {es : List Expr} (hg : Gl X "sorted") (hm : X.mg "sorted" = none) (ha : PA X (e :: es) (lA g W t)) (he : starEach (e :: es) X.env = (false, eval e X.env) :: starEach es X.env := by rfl) (hpl : (backTo pos (starEach es X.env)).any (·.1) = false := by rfl) :
    PE X (.Call (.Name "sorted" p) (e :: es) [] pos) (lE g W (dCB rSortD t)) := pe_imp (pe_callB (cr_sortedPO.or cr_sortedI) hg hm (by decide +kernel) ha (by decide) (by decide) he hpl) (l_cb l_sort)
end
end DL

namespace DL
open PySem L2
section
variable {X : Cx} {g : G} {W : WX} {pos : Pos} {a b c e : Expr} {ta tb tc td : TD} {w : Cs} {H H' : Hp} {σ : L2.St} {s : S} {t : TDA} {tf : TDF}

/-! ### argument lists that make cells -/
def AGOk (g : G) (w : Cs) (H : Hp) (σ : L2.St) (P : List Sl → S → Prop) (Q : List V → Hp → Prop) : Prop := ∀ xs s' w' H' vs, P xs s' → Mv w H w' H' → (∀ (c : Nat) a, w.cs[c]? = some (some a) → w'.cs[c]? = some (some a)) → RS g w' H' σ s' → ArgOk g w' H' xs vs → Q vs H'
def XGOk (g : G) (w : Cs) (H : Hp) (σ : L2.St) (P : KX) (W : WX) : Prop := ∀ c x s' w' H' dd v, P c x s' → Mv w H w' H' → RS g w' H' σ s' → XdAt w' H' dd v → Rep g w' H' x v → W (.ref (g.CA c)) (some dd) σ H'
def lAG (g : G) (W : WX) (td : TDA) : TA := fun σ H Q => ∃ w s P PX, RS g w H σ s ∧ td s P PX ∧ AGOk g w H σ P Q ∧ XGOk g w H σ PX W
theorem XGOk.x {P : KX} (k : XGOk g w H σ P W) : XOk g w H σ P W := fun c x s' H' dd v p e r => k c x s' w H' dd v p (.of_ext e) r
theorem XOkS.gg {P : KX} (k : XOkS g w H P W) : XGOk g w H σ P W := fun c x s' w' H' dd v p m r => k c x s' w' H' σ dd v p m r
theorem XGOk.mv {P : KX} {w' : Cs} (k : XGOk g w H σ P W) (m : Mv w H w' H') (av : ∀ x, x ∈ w.av → some x ∉ w.cs ∧ ∃ o, H x = some o) : XGOk g w' H' σ P W := fun c x s2 w2 H2 dd v p m2 r => k c x s2 w2 H2 dd v p (m.trans m2 av) r
theorem dag_nil : PA X [] (lAG g W dNil) := pa_imp pa_nil fun σ H Q ⟨w, s, P, PX, rs, h, k, x⟩ => k [] s w H [] h (Mv.refl _ _) (fun _ _ h => h) rs rfl
variable {es : List Expr} {tr : TDA}
theorem dag_cons (ha : PE X e (lE g W ta)) (hr : PA X es (lAG g W tr)) (hs : starEach (e :: es) X.env = (false, eval e X.env) :: starEach es X.env := by rfl) : PA X (e :: es) (lAG g W (dCons ta tr)) := pa_imp (pa_cons ha hr hs) fun σ H Q ⟨w, s, P, PX, rs, h, k, x⟩ =>
  ⟨w, s, _, PX, rs, h, fun d s1 H1 v q e1 rs1 rp => ⟨w, s1, _, PX, rs1, q, fun xs s2 w2 H2 vs q2 m2 pr rs2 rp2 => k _ s2 w2 H2 _ q2 ((Mv.of_ext e1).trans m2 rs.mem.av) pr rs2 ⟨v, vs, rfl, rp.mv m2, rp2⟩, x.mv (.of_ext e1) rs.mem.av⟩, x.x⟩
theorem dag_consC (i : Nat) {n : Str} {p : Pos} (ha : PE X (.Name n p) (tVar i)) (hr : PA X es (lAG g W tr)) (hs : starEach ((.Name n p) :: es) X.env = (false, eval (.Name n p) X.env) :: starEach es X.env := by rfl) : PA X ((.Name n p) :: es) (lAG g W (dConsC i tr)) := pa_imp (pa_cons ha hr hs) fun σ H Q ⟨w, s, P, PX, rs, ⟨c, ec, h⟩, k, x⟩ => by
  obtain ⟨a, ea, es⟩ := rs.slot i _ ec
  exact ⟨.ref a, es, w, s, _, PX, rs, h, fun xs s2 w2 H2 vs q2 m2 pr rs2 rp2 => k _ s2 w2 H2 _ q2 m2 pr rs2 ⟨a, vs, rfl, pr c a ea, rp2⟩, x⟩
/-- a new list: a cell -/
@[simp] def dConsF (tf : TDF) (tr : TDA) : TDA := fun s P X => tf s (fun ds s1 => tr { s1 with M := s1.M ++ [some (.lst ds)] } (fun xs s2 => P (.cell s1.M.length :: xs) s2) X) X
theorem dag_consF (ha : PE X e (lF g W tf)) (hr : PA X es (lAG g W tr)) (hs : starEach (e :: es) X.env = (false, eval e X.env) :: starEach es X.env := by rfl) : PA X (e :: es) (lAG g W (dConsF tf tr)) := pa_imp (pa_cons ha hr hs) fun σ H Q ⟨w, s, P, PX, rs, h, k, x⟩ =>
  ⟨w, s, _, PX, rs, h, fun ds s1 H1 p vs q e1 n0 nb rs1 hp rp => by
    have m1 : Mv w H (w.cell p) H1 := mv_cell e1 n0 nb
    have ml : w.cs.length = s1.M.length := rs1.mem.len
    have at1 : (w.cell p).cs[s1.M.length]? = some (some p) := by
      show (w.cs ++ [some p])[s1.M.length]? = _
      rw [← ml, List.getElem?_append_right (Nat.le_refl _), Nat.sub_self]
      rfl
    have pr1 : ∀ (c : Nat) a, w.cs[c]? = some (some a) → (w.cell p).cs[c]? = some (some a) := fun c a e => by
      show (w.cs ++ [some p])[c]? = _
      rw [List.getElem?_append_left (List.getElem?_eq_some_iff.mp e).1]
      exact e
    exact ⟨w.cell p, _, _, PX, rs1.toCell nb hp rp, q, fun xs s2 w2 H2 vs2 q2 m2 pr rs2 rp2 => k _ s2 w2 H2 _ q2 (m1.trans m2 rs.mem.av) (fun c a e => pr c a (pr1 c a e)) rs2 ⟨p, vs2, rfl, pr _ _ at1, rp2⟩, x.mv m1 rs.mem.av⟩, x.x⟩
theorem arg_one {y : Sl} {ys : List Sl} {vs : List V} (ny : y ≠ .no) (ra : ArgOk g w H (y :: ys) vs) : ∃ v r, vs = v :: r ∧ ArgOk g w H ys r ∧ ∀ i (σ' : L2.St), σ'[i]? = some (some v) → SlOk g w H σ' i y := by
  cases y with
  | no => exact absurd rfl ny
  | dat d => obtain ⟨v, r, e, q, z⟩ := ra; exact ⟨v, r, e, z, fun i σ' e => ⟨v, e, q⟩⟩
  | cell c => obtain ⟨a, r, e, q, z⟩ := ra; exact ⟨.ref a, r, e, z, fun i σ' e => ⟨a, q, e⟩⟩
theorem ds_parG {st : Stmt} {i j : Nat} (h : PS X st (tPar i j (lAG g W t))) : PS X st (lS g W (dPar i j t)) := ps_imp h fun D σ H ⟨w, s, E, PX, rs, h, k, x⟩ =>
  ⟨w, s, _, PX, rs, h, fun xs s1 w1 H1 vs q m1 _ rs1 ra => by
    obtain ⟨y, z, e, ny, nz, q⟩ := q
    subst e
    obtain ⟨v1, r1, e1', z1, k1⟩ := arg_one ny ra
    obtain ⟨v2, r2, e2', z2, k2⟩ := arg_one nz z1
    have z2 : r2 = [] := z2
    subst e1' e2' z2
    exact ⟨v1, v2, rfl, k.nx _ w1 H1 _ q m1 ((rs1.put (i := i) (o := some v1) (x := y) (k1 i)).put (i := j) (o := some v2) (x := z) (k2 j))⟩, x.gg⟩
@[simp] def dPar3 (i j l : Nat) (t : TDA) : TSd := fun s E X => t s (fun xs s1 => ∃ x y z, xs = [x, y, z] ∧ x ≠ .no ∧ y ≠ .no ∧ z ≠ .no ∧ E.nx { s1 with r := ((s1.r.set i x).set j y).set l z }) X
theorem ds_parG3 {st : Stmt} {i j l : Nat} (h : PS X st (tPar3 i j l (lAG g W t))) : PS X st (lS g W (dPar3 i j l t)) := ps_imp h fun D σ H ⟨w, s, E, PX, rs, h, k, x⟩ =>
  ⟨w, s, _, PX, rs, h, fun xs s1 w1 H1 vs q m1 _ rs1 ra => by
    obtain ⟨y, z, u, e, ny, nz, nu, q⟩ := q
    subst e
    obtain ⟨v1, r1, e1', z1, k1⟩ := arg_one ny ra
    obtain ⟨v2, r2, e2', z2, k2⟩ := arg_one nz z1
    obtain ⟨v3, r3, e3', z3, k3⟩ := arg_one nu z2
    have z3 : r3 = [] := z3
    subst e1' e2' e3' z3
    exact ⟨v1, v2, v3, rfl, k.nx _ w1 H1 _ q m1 (((rs1.put (i := i) (o := some v1) (x := y) (k1 i)).put (i := j) (o := some v2) (x := z) (k2 j)).put (i := l) (o := some v3) (x := u) (k3 l))⟩, x.gg⟩

/-! ### slices of any; new lists by +, *, list -/
variable {lo hi : Option Expr} {tl th : TDO} {p2 : Pos}
@[simp] def rCutD (d : D) (l u : Option Int) (P : D → Prop) : Prop := match d with
  | .lst ds => P (.lst (cutD ds l u))
  | .tup ds => P (.tup (cutD ds l u))
  | _ => False
@[simp] def dSl (t : TD) (tl th : TDO) : TD := fun s P X => t s (fun x s1 => tl s1 (fun l s2 => th s2 (fun u s3 => rCutD x l u fun z => P z s3) X) X) X
theorem de_slice (ha : PE X e (lE g W ta)) (hl : PO X lo (lO g W tl)) (hh : PO X hi (lO g W th)) : PE X (.Subscript e (.Slice lo hi none p2) pos) (lE g W (dSl ta tl th)) := pe_imp (pe_slice (sl_list.or sl_tupA) ha hl hh) fun σ H Q ⟨w, s, P, PX, rs, h, k, x⟩ =>
  ⟨w, s, _, PX, rs, h, fun d s1 H1 v q e1 rs1 rp => ⟨w, s1, _, PX, rs1, q, fun l s2 H2 q e2 rs2 => ⟨w, s2, _, PX, rs2, q, fun u s3 H3 q3 e3 rs3 => by
    have e0 := e1.trans (e2.trans e3)
    cases d <;> try exact q3.elim
    · simp only [Rep] at rp
      obtain ⟨a, vs, e, n, ha, rv⟩ := rp
      subst e
      have ha3 : H3 a = some (.tup vs) := e3 _ _ (fun z => n (.inl z)) (e2 _ _ (fun z => n (.inl z)) ha)
      have rv3 := (Reps.mv rv (.of_ext e2)).mv (.of_ext e3)
      refine .inr ⟨a, vs, rfl, SqT.of ha3, fun hw => ?_, fun _ p hp => ?_⟩
      · refine k _ s3 H3 _ q3 e0 rs3 ?_
        rename_i ds _
        have ec : cutD ds l u = ds := by
          unfold cutD
          rw [rv.len] at hw
          rw [hw.1, hw.2]
          simp
        rw [ec]
        exact Rep.tup n ha3 rv3
      · have nb := rs3.mem.fresh hp
        exact k _ s3 _ _ q3 (e0.trans (.of_same (same_upd hp))) (rs3.same (same_upd hp)) (Rep.tup nb upd_same ((rv3.cut l u).mv (.of_same (same_upd hp))))
    · simp only [Rep] at rp
      obtain ⟨a, vs, e, n, ha, rv⟩ := rp
      have ha3 : H3 a = some (.lst vs) := e3 _ _ (fun z => n (.inl z)) (e2 _ _ (fun z => n (.inl z)) ha)
      have rv3 := (Reps.mv rv (.of_ext e2)).mv (.of_ext e3)
      refine .inl ⟨a, vs, e, SqL.of ha3, fun p hp => ?_⟩
      have nb := rs3.mem.fresh hp
      exact k _ s3 _ _ q3 (e0.trans (.of_same (same_upd hp))) (rs3.same (same_upd hp)) (Rep.lst nb upd_same ((rv3.cut l u).mv (.of_same (same_upd hp)))), (x.ext e1).ext e2⟩, x.ext e1⟩, x⟩
/-- a binary operator that makes a new list -/
def RF := D → D → (List D → Prop) → Prop
def lRF (g : G) (r : D → D → (List D → Prop) → Prop) : R2 := fun x y H Q => ∃ w d e P, Rep g w H d x ∧ Rep g w H e y ∧ r d e P ∧ ∀ ds p vs, P ds → H p = none → Reps g w H ds vs → Q (.ref p) (upd H p (.lst vs))
@[simp] def dOpF (r : D → D → (List D → Prop) → Prop) (ta tb : TD) : TDF := fun s P X => ta s (fun x s1 => tb s1 (fun y s2 => r x y fun z => P z s2) X) X
theorem lF_bin {r : R2} {rd : D → D → (List D → Prop) → Prop} (hr : ∀ x y H Q, lRF g rd x y H Q → r x y H Q) : ∀ σ H Q, lF g W (dOpF rd ta tb) σ H Q → tOp r (lE g W ta) (lE g W tb) σ H Q := fun σ H Q ⟨w, s, P, PX, rs, h, k, x⟩ =>
  ⟨w, s, _, PX, rs, h, fun d s1 H1 v q e1 rs1 rp => ⟨w, s1, _, PX, rs1, q, fun d2 s2 H2 v2 q2 e2 rs2 rp2 =>
    hr _ _ _ _ ⟨w, d, d2, _, rp.mv (.of_ext e2), rp2, q2, fun ds p vs pz hp rv => by
      have nb := rs2.mem.fresh hp
      exact k ds s2 _ p vs pz (e1.trans (e2.trans (.of_same (same_upd hp)))) (fresh0 (e1.trans e2) nb hp) nb (rs2.out hp) upd_same (rv.mv (mv_out (.of_same (same_upd hp)) hp))⟩, x.ext e1⟩, x⟩
@[simp] def rCatF : D → D → (List D → Prop) → Prop := fun x y P => match x, y with
  | .lst a, .lst b => a.length + b.length ≤ sizeLine ∧ P (a ++ b)
  | _, _ => False
theorem df_add (ha : PE X a (lE g W ta)) (hb : PE X b (lE g W tb)) : PE X (.BinOp a .Add b pos) (lF g W (dOpF rCatF ta tb)) := pe_imp (pe_op op_cat ha hb) (lF_bin fun x y H Q ⟨w, d, e, P, rd, re, r, q⟩ => by
  cases d <;> cases e <;> try exact r.elim
  simp only [Rep] at rd re
  obtain ⟨l, vs, e, n, hl, rv⟩ := rd
  obtain ⟨l2, vs2, e2, n2, hl2, rv2⟩ := re
  exact ⟨l, l2, vs, vs2, e, e2, hl, hl2, by rw [rv.len, rv2.len]; exact r.1, fun p hp => q _ p _ r.2 hp (Reps.app rv rv2)⟩)
@[simp] def rRepF : D → D → (List D → Prop) → Prop := fun x y P => match x, y with
  | .lst a, .int k => (-(2 ^ 63) ≤ k ∧ k < 2 ^ 63 ∧ a.length * k.toNat ≤ sizeLine) ∧ P (List.replicate k.toNat a).flatten
  | _, _ => False
theorem df_mul (ha : PE X a (lE g W ta)) (hb : PE X b (lE g W tb)) : PE X (.BinOp a .Mult b pos) (lF g W (dOpF rRepF ta tb)) := pe_imp (pe_op op_rep ha hb) (lF_bin fun x y H Q ⟨w, d, e, P, rd, re, r, q⟩ => by
  cases d <;> cases e <;> try exact r.elim
  simp only [Rep] at rd re
  obtain ⟨l, vs, e, n, hl, rv⟩ := rd
  exact ⟨l, _, vs, e, re, hl, r.1.1, r.1.2.1, by rw [rv.len]; exact r.1.2.2, fun p hp => q _ p _ r.2 hp (Reps.rep rv _)⟩)

/-! ### x.index(y) of a list of flat data -/
variable {x : Str} {p q : Pos}
@[simp] def dBM1 (r : D → D → (D → Prop) → Prop) (ta tb : TD) : TD := fun s P X => ta s (fun x s1 => (∃ ds, x = .lst ds) ∧ tb s1 (fun y s2 => r x y fun z => P z s2) X) X
theorem l_bm1 {r : V → List V → Hp → VK → Prop} {rd : RD} (hr : ∀ x y H Q, lR g rd x y H Q → r x [y] H Q) : ∀ σ H Q, lE g W (dBM1 rd ta tb) σ H Q → tBM X.K "list" r (lE g W ta) (tCons (lE g W tb) tNil) σ H Q := fun σ H Q ⟨w, s, P, PX, rs, h, k, x⟩ =>
  ⟨w, s, _, PX, rs, h, fun d s1 H1 v q e1 rs1 rp => by
    obtain ⟨⟨ds, ed⟩, q⟩ := q
    have rp0 := rp
    subst ed
    simp only [Rep] at rp
    obtain ⟨a, vs, e, n, hp, rv⟩ := rp
    refine ⟨by subst e; exact tyList hp, w, s1, _, PX, rs1, q, fun d2 s2 H2 v2 q2 e2 rs2 rp2 => hr _ _ _ _ ⟨w, _, d2, _, rp0.mv (.of_ext e2), rp2, q2, fun a n => rs2.mem.fresh n, fun z u H3 pz sm rz => k z s2 H3 u pz (e1.trans (e2.trans (.of_same sm))) (rs2.same sm) rz⟩, x.ext e1⟩, x⟩
def rIndexD' : RD := fun x y P => match x with
  | .lst ds => flatD y = true ∧ ds.all flatD = true ∧ ∃ (j : Nat) (z : D), ds[j]? = some z ∧ eqD z y = true ∧ (∀ (m : Nat) (z' : D), m < j → ds[m]? = some z' → eqD z' y = false) ∧ P (.int (j : Nat))
  | _ => False
theorem de_index (h : PE X e (tBM X.K "list" (rIndex X.K) (lE g W ta) (tCons (lE g W tb) tNil))) : PE X e (lE g W (dBM1 rIndexD' ta tb)) := pe_imp h (l_bm1 fun x y H Q ⟨w, d, e, P, rd, re, r, nb, q⟩ => by
  cases d <;> try exact r.elim
  rename_i ds
  obtain ⟨f1, f2, j, z, hz, ez, ah, pz⟩ := r
  simp only [Rep] at rd
  obtain ⟨a, vs, ea, n, hp, rv⟩ := rd
  obtain ⟨zv, e1, rz⟩ := rv.get' hz
  have fz : ∀ {m : Nat} {z' : D}, ds[m]? = some z' → flatD z' = true := fun {m z'} hm => List.all_eq_true.mp f2 z' (List.mem_of_getElem? hm)
  refine ⟨a, vs, y, j, zv, ea, rfl, SqL.of hp, re.flat f1, rv.flat f2, e1, by rw [eqV_D rz re (fz hz) f1]; exact ez, fun m z' hm hv => ?_, q _ _ H pz Same0 (by simp only [Rep])⟩
  obtain ⟨zd, e2, rz2⟩ := rv.get hv
  rw [eqV_D rz2 re (fz e2) f1]
  exact ah m zd hm e2)
end

/-! ### a def that hands back a new list; a call whose argument is one -/
abbrev SpF := List Sl → Mem → (List D → Prop) → Prop
section
variable {X : Cx} {g : G} {W : WX} {pos : Pos} {a b c e : Expr} {ta tb tc td : TD} {w : Cs} {H H' : Hp} {σ : L2.St} {s : S} {t : TDA} {tf : TDF}
/-- no cells go in -/
def lSpF (g : G) (spd : SpF) : Sp := fun vs H Q _ => ∃ w xs P, w.cs = [] ∧ ArgOk g w H xs vs ∧ MemOk g w H [] ∧ spd xs [] P ∧ ∀ ds p H' us, P ds → HExt w H H' → H p = none → ¬ w.bad p → Reps g (w.out p) H' ds us → H' p = some (.lst us) → Q (.ref p) H'
@[simp] def dCallF (spd : SpF) (t : TDA) : TDF := fun s P X => t s (fun xs s1 => cellsIn xs = [] ∧ spd xs [] fun ds => P ds s1) X
theorem RS.hext_out {p : Addr} (r : RS g (w.out p) H σ s) (nb : ¬ w.bad p) (h : ∀ a o, a ≠ p → H a = some o → H' a = some o) (hp : ∃ o, H' p = some o) : RS g (w.out p) H' σ s := by
  have k : ∀ a u, ¬ (w.out p).bad a → H a = some u → H' a = some u ∧ ¬ (w.out p).bad a := fun a u n e => ⟨h a u (fun z => n (.inr (by rw [z]; exact List.mem_cons_self))) e, n⟩
  refine ⟨r.len, fun i x e => ?_, ⟨r.mem.len, fun c x e => ?_, r.mem.live, r.mem.inj, fun a ha => ?_⟩⟩
  · have z := r.slot i x e
    cases x with
    | no => trivial
    | dat d => obtain ⟨v, e, q⟩ := z; exact ⟨v, e, Rep.gen k q⟩
    | cell c => exact z
  · obtain ⟨a, ea, q⟩ := r.mem.at_ c x e
    obtain ⟨o, eo⟩ := q.tracked
    have ne : a ≠ p := fun z => nb (.inl (by rw [← z]; exact List.mem_of_getElem? ea))
    exact ⟨a, ea, q.gen k ((h a o ne eo).trans eo.symm)⟩
  · obtain ⟨n, o, e⟩ := r.mem.av a ha
    by_cases z : a = p
    · exact ⟨n, by rw [z]; exact hp⟩
    · exact ⟨n, o, h a o z e⟩
theorem df_call {spd : SpF} {k : Nat} {f : Addr} {fd : FuncData} {ps : List Str} {x : Str} {p : Pos} {es : List Expr} (tk : Takes X W) (F : FnOk X.prog X.w X.K X.mg X.base (L2.CX X.prog X.w) k f fd ps (lSpF g spd)) (hr : Room k X.A) (hg : Gl X x) (hm : X.mg x = some (.ref f)) (hk : PySem.W.keepIn X.K (.ref f) = true) (hb : Binds X.K fd ps [])
    (ha : PA X (e :: es) (lA g W t)) (hdb : (x == ("__debug__" : Str)) = false := by decide) (he : starEach (e :: es) X.env = (false, eval e X.env) :: starEach es X.env := by rfl) (hpl : (backTo pos (starEach es X.env)).any (·.1) = false := by rfl) :
    PE X (.Call (.Name x p) (e :: es) [] pos) (lF g W (dCallF spd t)) := pe_imp (pe_callS F hr hg hm hk hb (fun σ => passAt tk σ) ha hdb he hpl) fun σ H Q ⟨w, s, P, PX, rs, h, k, x⟩ =>
  ⟨w, s, _, PX, rs, h, fun xs s1 H1 vs q e1 rs1 ra => by
    obtain ⟨hc, q⟩ := q
    refine ⟨w.none_, xs, _, rfl, ra.none_ hc, rs1.mem.none_, q, fun ds p H2 us pz e2 n2 nb2 ru hp => ?_⟩
    have sm : Same H1 H2 := fun a o h => e2 a o (fun z => absurd z (by simp [Cs.none_])) h
    have nb : ¬ w.bad p := fun z => nb2 (bad_none.mpr z)
    have bo : ∀ a, (w.none_.out p).bad a ↔ (w.out p).bad a := fun a => by
      constructor
      · intro z
        rcases Cs.out_bad z with z | z
        · rcases bad_none.mp z with z | z
          · exact .inl z
          · exact .inr (List.mem_cons_of_mem _ z)
        · exact .inr (by rw [z]; exact List.mem_cons_self)
      · intro z
        rcases Cs.out_bad z with z | z
        · rcases bad_none.mpr z with z | z
          · exact .inl z
          · exact .inr (List.mem_cons_of_mem _ z)
        · exact .inr (by rw [z]; exact List.mem_cons_self)
    have r0 : RS g (w.out p) (upd H1 p (.lst us)) σ s1 := rs1.out n2
    have r1 : RS g (w.out p) H2 σ s1 := r0.hext_out nb (fun a o ne eo => by
      rw [upd_ne ne] at eo
      exact sm a o eo) ⟨_, hp⟩
    exact k ds s1 H2 p us pz (e1.trans (.of_same sm)) (fresh0 e1 nb n2) nb r1 hp (Reps.gen (kb fun a => (bo a).symm) ru), x⟩
/-- f(new list): the list is the callee's cell, and gone behind -/
@[simp] def dCallNew (spd : SpD) (tf : TDF) : TD := fun s P X => tf s (fun ds s1 => spd [.cell 0] [some (.lst ds)] (fun d _ => P d s1) (fun c x _ => X c x s1)) X
theorem de_callNew {spd : SpD} {k : Nat} {f : Addr} {fd : FuncData} {ps : List Str} {x : Str} {p : Pos} (tk : Takes X W) (F : FnOk X.prog X.w X.K X.mg X.base (L2.CX X.prog X.w) k f fd ps (lSp g spd)) (hr : Room k X.A) (hg : Gl X x) (hm : X.mg x = some (.ref f)) (hk : PySem.W.keepIn X.K (.ref f) = true) (hb : Binds X.K fd ps [])
    (ha : PE X e (lF g W tf)) (hdb : (x == ("__debug__" : Str)) = false := by decide) (hs : starEach (e :: []) X.env = (false, eval e X.env) :: starEach [] X.env := by rfl) (he : starEach (e :: []) X.env = (false, eval e X.env) :: starEach [] X.env := by rfl) (hpl : (backTo pos (starEach [] X.env)).any (·.1) = false := by rfl) :
    PE X (.Call (.Name x p) (e :: []) [] pos) (lE g W (dCallNew spd tf)) := pe_imp (pe_callS F hr hg hm hk hb (fun σ => passAt tk σ) (pa_cons ha pa_nil hs) hdb he hpl) fun σ H Q ⟨w, s, P, PX, rs, h, k, x⟩ =>
  ⟨w, s, _, PX, rs, h, fun ds s1 H1 p vs q e1 n0 nb rs1 hp rp => by
    have hb : ∀ a, Cs.bad ⟨[some p], w.all ++ w.av⟩ a ↔ (w.out p).bad a := fun a => by
      simp only [Cs.bad, List.mem_cons, Option.some.injEq, List.not_mem_nil, or_false, List.mem_append, mem_all]
      constructor
      · rintro (h | h | h)
        · exact .inr (.inl h)
        · exact .inl h
        · exact .inr (.inr h)
      · rintro (h | h | h)
        · exact .inr (.inl h)
        · exact .inl h
        · exact .inr (.inr h)
    have behind : ∀ H2, HExt ⟨[some p], w.all ++ w.av⟩ H1 H2 → (∃ o, H2 p = some o) → HExt w H H2 ∧ RS g w H2 σ s1 := fun H2 e2 hp2 => by
      have key : ∀ a o, a ≠ p → H1 a = some o → H2 a = some o := fun a o ne h => e2 a o (by simpa using ne) h
      exact ⟨fun a o n h => key a o (ne_of_none h n0) (e1 a o n h), (rs1.hext_out nb key hp2).inn⟩
    have up : ∀ a, w.bad a → (w.out p).bad a := fun a z => Or.elim z (fun h => Or.inl h) (fun h => Or.inr (List.mem_cons_of_mem _ h))
    refine ⟨⟨[some p], w.all ++ w.av⟩, [.cell 0], [some (.lst ds)], _, _, ⟨p, [], rfl, rfl, rfl⟩, ⟨rfl, fun c x e => ?_, fun c a e => ?_, fun c c' a e e' => ?_, fun a ha => ?_⟩, q, fun d M' H2 v pz e2 m2 rz => ?_, fun cc xx M' H2 dd v pz e2 m2 hd rz => ?_⟩
    · cases c with
      | zero =>
        cases e
        exact ⟨p, rfl, vs, hp, Reps.gen (kb hb) rp⟩
      | succ c => simp at e
    · cases c with
      | zero => exact ⟨_, rfl⟩
      | succ c => simp at e
    · cases c with
      | zero =>
        cases c' with
        | zero => rfl
        | succ c => simp at e'
      | succ c => simp at e
    · have ha : a ∈ w.all ++ w.av := ha
      have hba : w.bad a := by
        rcases List.mem_append.mp ha with z | z
        · exact .inl (mem_all.mp z)
        · exact .inr z
      refine ⟨fun z => ?_, ?_⟩
      · have z : a = p := by simpa using z
        rw [z] at hba
        exact nb hba
      · by_cases z : a = p
        · exact ⟨_, by rw [z]; exact hp⟩
        · exact rs1.mem.tracked ((hb a).mp (.inr ha))
    · have tp : ∃ o, H2 p = some o := m2.tracked (.inl (by simp))
      obtain ⟨e3, rs3⟩ := behind H2 e2 tp
      exact k d s1 H2 v pz e3 rs3 (Rep.gen (fun a o n e => ⟨e, fun z => n ((hb a).mpr (up a z))⟩) rz)
    · have tp : ∃ o, H2 p = some o := m2.tracked (.inl (by simp))
      obtain ⟨e3, rs3⟩ := behind H2 e2 tp
      exact x cc xx s1 H2 dd v pz e3 rs3 ⟨fun z => hd.1 ((hb dd).mpr (up dd z)), hd.2⟩ (Rep.gen (fun a o n e => ⟨e, fun z => n ((hb a).mpr (up a z))⟩) rz), x⟩
end
end DL

namespace DL
open PySem L2
section
variable {X : Cx} {g : G} {W : WX} {pos : Pos} {a b c e : Expr} {ta tb tc td : TD} {w : Cs} {H H' : Hp} {σ : L2.St} {s : S} {t : TDA} {tf : TDF}
/-- truth -/
@[simp] def truD : D → Option Bool
  | .non => some false
  | .bl b => some b
  | .int i => some (i != 0)
  | .lst ds => some (!ds.isEmpty)
  | .tup ds => some (!ds.isEmpty)
  | .fl ds => some (!ds.isEmpty)
  | _ => none
theorem Reps.empty {ds : List D} {vs : List V} (h : Reps g w H ds vs) : vs.isEmpty = ds.isEmpty := by
  have z := h.len
  cases ds <;> cases vs <;> simp at z ⊢
theorem Rep.tru (hk : g.K = X.K) {d : D} {v : V} {k : Bool} (h : Rep g w H d v) (e : truD d = some k) : TruV X.K v H k := by
  cases d <;> simp only [truD, Option.some.injEq, reduceCtorEq] at e <;> subst e <;> simp only [Rep] at h
  · subst h; rfl
  · subst h; rfl
  · subst h; rfl
  · obtain ⟨a, vs, e, n, hp, rv⟩ := h
    subst e
    exact .inr (.inl ⟨vs, SqT.of hp, by rw [rv.empty]⟩)
  · obtain ⟨a, vs, e, n, hp, rv⟩ := h
    subst e
    exact .inl ⟨vs, SqL.of hp, by rw [rv.empty]⟩
  · obtain ⟨a, vs, e, n, rv⟩ := h
    subst e
    refine .inl ⟨vs, ?_, by rw [rv.empty]⟩
    rcases n with ⟨_, n⟩ | n
    · exact .inl n
    · rw [← hk]; exact .inr n
@[simp] def dTru (t : TD) : TDB := fun s P X => t s (fun x s1 => ∃ k, truD x = some k ∧ P k s1) X
theorem dt_tru (hk : g.K = X.K) (he : PE X e (lE g W ta)) (hw : ∀ whole, isTrue e X.env whole = (do let v ← whole; standAt e.pos; holding [v] (truthy v)) := by intro _; rfl) : PT X e (lB g W (dTru ta)) := pt_imp (pt_truth he hw) fun σ H Q ⟨w, s, P, PX, rs, h, k, x⟩ =>
  ⟨w, s, _, PX, rs, h, fun d s1 H1 v q e1 rs1 rp => by
    obtain ⟨b, eb, q⟩ := q
    exact ⟨b, rp.tru hk eb, k b s1 H1 q e1 rs1⟩, x⟩
@[simp] def dYes : TDB := fun s P _ => P true s
theorem dts_nil : PTs X [] (lB g W dYes) := ⟨fun pins s σ H Q I ⟨w, s1, P, PX, rs, h, k, x⟩ => pts_nil.run pins s σ H Q I (k _ s1 H h (HExt.refl _ _) rs)⟩
theorem dts_one {c : Expr} {t : TDB} (h : PT X c (lB g W t)) : PTs X [c] (lB g W t) := pts_one h
theorem de_one {op : BoolOp} (h : PE X a (lE g W ta)) : PE X (.BoolOp op [a] pos) (lE g W ta) := pe_one h
theorem hu65 {A : Around} {k : Nat} (hr : Room k A) : A.units + 65 < cLine := by have := hr.un; omega
/-- the two ends of pool's kind of def -/
def RFd (g : G) (W : WX) (t : TS) (td : S → (List D → S → Prop) → KX → Prop) : Prop := ∀ D σ H w s P PX, RS g w H σ s → td s P PX → XOkS g w H PX W →
  (∀ ds s' w' H' H1 σ' p vs, P ds s' → Mv w H w' H1 → HExt w' H1 H' → H1 p = none → ¬ w'.bad p → RS g (w'.out p) H' σ' s' → H' p = some (.lst vs) → Reps g (w'.out p) H' ds vs → (∀ x, x ∈ w'.av → some x ∉ w'.cs ∧ ∃ o, H1 x = some o) → D.rt (.ref p) H') → t D σ H
theorem rf_ret {tf : TDF} : RFd g W (tRet (lF g W tf)) tf := fun D σ H w s P PX rs h x k => ⟨w, s, P, PX, rs, h, fun ds s' H' p vs q e n nb r hp rv => k ds s' w H' H σ p vs q (Mv.refl _ _) e n nb r hp rv rs.mem.av, x.ex⟩
@[simp] def dSeqF (t : TSd) (u : S → (List D → S → Prop) → KX → Prop) : S → (List D → S → Prop) → KX → Prop := fun s P X => t s { nx := fun s' => u s' P X, rt := fun _ _ => False, bk := fun _ => False, ct := fun _ => False } X
theorem rf_cons {t : TSd} {u : TS} {ud : S → (List D → S → Prop) → KX → Prop} (hu : RFd g W u ud) : RFd g W (tSeq (lS g W t) u) (dSeqF t ud) := fun D σ H w s P PX rs h x k =>
  ⟨w, s, _, PX, rs, h, ⟨fun s1 w1 H1 σ1 q m rs1 => hu D σ1 H1 w1 s1 P PX rs1 q (x.mv m rs.mem.av) fun ds s' w' H' H2 σ' p vs q2 m2 e n nb r hp rv av => k ds s' w' H' H2 σ' p vs q2 (m.trans m2 rs.mem.av) e n nb r hp rv av, fun _ _ _ _ h => h.elim, fun _ _ _ _ h => h.elim, fun _ _ _ _ _ _ h => h.elim⟩, x⟩
variable {P : Program} {wd : World} {K : PySem.W.Frag} {mg : Str → Option Value} {base : Heap}
theorem fn_okF {x qual : Str} {st : Stmt} {f : Addr} {fd : FuncData} {N ps : List Str} {k : Nat} {spd : SpF} {td : S → (List D → S → Prop) → KX → Prop} (F : Fun K x qual st f fd) (S : FnScope N ps (defScope st)) (g : G)
    (len : ∀ xs M P, spd xs M P → xs.length = ps.length) (hN : ps.length ≤ N.length)
    (body : ∀ (cdv : Value) (A : Around) (outer : List Env) (s : Shared) (H : Hp) (E : XK), Room k (A.deeper (PyProof.Rows.envOfC qual (defScope st) s.heap.objs.size f cdv)) →
      ∃ t, PSs (cxOf (L2.CX P wd) P wd K mg base N qual (defScope st) f cdv A outer s H E) (defBody st) t ∧ RFd g (fun cls d _ H => E cls d H) t td)
    (math : ∀ xs P, spd xs [] P → td (startS N xs []) (fun ds _ => P ds) noX) : FnOk P wd K mg base (L2.CX P wd) (k + 1) f fd ps (lSpF g spd) := by
  refine F.okX S (fun vs H Q E ⟨w, xs, P, _, ra, m, h, _⟩ => (ra.len).trans (len xs _ P h)) fun cdv A outer s H vs Q E hr ⟨w, xs, P, hw, ra, m, h, kq⟩ => ?_
  obtain ⟨t, ht, hf⟩ := body cdv A outer s H E hr
  refine ⟨t, ht, hf _ _ H w (startS N xs []) _ noX (rs_start (by rw [len xs _ P h]; exact hN) ra m) (math xs P h) (fun _ _ _ _ _ _ _ _ h => h.elim) ?_⟩
  intro ds s' w' H' H1 σ' p us pz m1 e n nb r hp rv av
  have hpn : H p = none := by
    cases z : H p with
    | none => rfl
    | some o =>
      exfalso
      by_cases c : w.bad p
      · rcases c with c | c
        · rw [hw] at c; cases c
        · exact nb (.inr (m1.avk p c))
      · rw [m1.at_ c z] at n; cases n
  have nbw : ¬ w.bad p := m.fresh hpn
  refine kq ds p H' us pz ((m1.trans (.of_ext e) m.av).ext) hpn nbw (Reps.gen (fun a o na ea => ⟨ea, fun z => ?_⟩) rv) hp
  rcases Cs.out_bad z with z | z
  · rcases z with z | z
    · rw [hw] at z; cases z
    · exact na (.inr (List.mem_cons_of_mem _ (m1.avk a z)))
  · exact na (.inr (by rw [z]; exact List.mem_cons_self))
end
end DL
namespace DL
open PySem L2
@[simp] def dNever : TSd := fun _ _ _ => False
theorem ds_never {X : Cx} {g : G} {W : WX} {st : Stmt} : PS X st (lS g W dNever) := ps_imp ps_never fun D σ H ⟨w, s, E, PX, rs, h, k, x⟩ => h
end DL

/-! Mathematics on readings: rules for loops, comprehensions, ==, what every law's own helpers promise. -/
namespace DL
open PySem L2
/-! ### loops -/
theorem loop_inv {gt : TGd} {tb : TSd} {E : EK} {PX : KX} : ∀ (ds : List D) (J : Nat → S → Prop)
    (_ : ∀ (i : Nat) d s (K : S → Prop), ds[i]? = some d → J i s → (∀ s', J (i + 1) s' → K s') → gt d s fun s1 => tb s1 { nx := K, ct := K, bk := E.nx, rt := E.rt } PX)
    (_ : ∀ s, J ds.length s → E.nx s) (s : S), J 0 s → loopD gt tb E PX ds s
  | [], J, _, fin, s, h => fin s h
  | d :: ds, J, step, fin, s, h => by
    unfold loopD
    exact step 0 d s _ rfl h fun s' h' => loop_inv ds (fun i s => J (i + 1) s) (fun i d s K e => step (i + 1) d s K (by simpa using e)) fin s' h'
theorem lc_inv {gt : TGd} {tt : TDB} {te : TD} {vs : List Nat} {P : List D → S → Prop} {r : List Sl} : ∀ (ds : List D) (J : Nat → List D → Mem → Prop)
    (_ : ∀ (i : Nat) d acc M (K : Option D → Mem → Prop), ds[i]? = some d → J i acc M → (∀ z M', J (i + 1) (acc ++ [z]) M' → acc.length < sizeLine → K (some z) M') → (∀ M', J (i + 1) acc M' → K none M') → gt d ⟨wipeS r vs, M⟩ fun s2 => tt s2 (fun b s3 => if b = true then te s3 (fun z s4 => K (some z) s4.M) noX else K none s3.M) noX)
    (_ : ∀ acc M, J ds.length acc M → P acc ⟨r, M⟩) (acc : List D) (M : Mem), acc.length + ds.length ≤ sizeLine → J 0 acc M → lcD gt tt te vs P ds acc ⟨r, M⟩
  | [], J, _, fin, acc, M, _, h => fin acc M h
  | d :: ds, J, step, fin, acc, M, hl, h => by
    unfold lcD
    simp only [List.length_cons] at hl
    refine step 0 d acc M (fun o M' => match o with | some z => acc.length < sizeLine ∧ lcD gt tt te vs P ds (acc ++ [z]) ⟨r, M'⟩ | none => lcD gt tt te vs P ds acc ⟨r, M'⟩) rfl h (fun z M' h' hz => ⟨hz, ?_⟩) fun M' h' => ?_
    · exact lc_inv ds (fun i a s => J (i + 1) a s) (fun i d a s K e => step (i + 1) d a s K (by simpa using e)) fin _ M' (by simp; omega) h'
    · exact lc_inv ds (fun i a s => J (i + 1) a s) (fun i d a s K e => step (i + 1) d a s K (by simpa using e)) fin _ M' (by omega) h'
/-- a comprehension that changes nothing -/
theorem lc_pure {gt : TGd} {tt : TDB} {te : TD} {vs : List Nat} {P : List D → S → Prop} (f : D → Option D) : ∀ (ds : List D) {s : S} (acc : List D)
    (_ : ∀ d ∈ ds, ∀ (K : Option D → Mem → Prop), K (f d) s.M → gt d ⟨wipeS s.r vs, s.M⟩ fun s2 => tt s2 (fun b s3 => if b = true then te s3 (fun z s4 => K (some z) s4.M) noX else K none s3.M) noX)
    (_ : acc.length + ds.length ≤ sizeLine) (_ : P (acc ++ ds.filterMap f) s), lcD gt tt te vs P ds acc s
  | [], s, acc, _, _, h => by simpa [lcD] using h
  | d :: ds, s, acc, step, hl, h => by
    unfold lcD
    simp only [List.length_cons] at hl
    refine step d List.mem_cons_self (fun o M' => match o with | some z => acc.length < sizeLine ∧ lcD gt tt te vs P ds (acc ++ [z]) ⟨s.r, M'⟩ | none => lcD gt tt te vs P ds acc ⟨s.r, M'⟩) ?_
    cases e : f d with
    | none =>
      rw [List.filterMap_cons_none e] at h
      exact lc_pure f ds acc (fun d hd => step d (List.mem_cons_of_mem _ hd)) (by omega) h
    | some z =>
      rw [List.filterMap_cons_some e] at h
      exact ⟨by omega, lc_pure f ds (acc ++ [z]) (fun d hd => step d (List.mem_cons_of_mem _ hd)) (by simp; omega) (by simpa using h)⟩
theorem lc_some {gt : TGd} {tt : TDB} {te : TD} {vs : List Nat} {P : List D → S → Prop} {α : Type} (g0 : α → D) (f : α → Option D) (xs : List α) {s : S} {ds : List D} (hds : ds = xs.map g0) (hl : xs.length ≤ sizeLine)
    (step : ∀ x ∈ xs, ∀ (K : Option D → Mem → Prop), K (f x) s.M → gt (g0 x) ⟨wipeS s.r vs, s.M⟩ fun s2 => tt s2 (fun b s3 => if b = true then te s3 (fun z s4 => K (some z) s4.M) noX else K none s3.M) noX)
    (hP : P (xs.filterMap f) s) : lcD gt tt te vs P ds [] s := by
  subst hds
  have go : ∀ (ys : List α) (acc : List D), (∀ y ∈ ys, y ∈ xs) → acc.length + ys.length ≤ sizeLine → P (acc ++ ys.filterMap f) s → lcD gt tt te vs P (ys.map g0) acc s := by
    intro ys
    induction ys with
    | nil => intro acc _ _ h; simpa [lcD] using h
    | cons y ys ih =>
      intro acc hm hl h
      simp only [List.length_cons] at hl
      rw [List.map_cons]
      unfold lcD
      refine step y (hm y List.mem_cons_self) (fun o M' => match o with | some z => acc.length < sizeLine ∧ lcD gt tt te vs P (ys.map g0) (acc ++ [z]) ⟨s.r, M'⟩ | none => lcD gt tt te vs P (ys.map g0) acc ⟨s.r, M'⟩) ?_
      cases e : f y with
      | none =>
        rw [List.filterMap_cons_none e] at h
        exact ih acc (fun z hz => hm z (List.mem_cons_of_mem _ hz)) (by omega) h
      | some z =>
        rw [List.filterMap_cons_some e] at h
        exact ⟨by omega, ih (acc ++ [z]) (fun z hz => hm z (List.mem_cons_of_mem _ hz)) (by simp; omega) (by simpa using h)⟩
  exact go xs [] (fun _ h => h) (by simpa using hl) (by simpa using hP)
theorem lc_each {gt : TGd} {tt : TDB} {te : TD} {vs : List Nat} {P : List D → S → Prop} {α : Type} (g0 : α → D) (f : α → D) (xs : List α) {s : S} {ds : List D} (hds : ds = xs.map g0) (hl : xs.length ≤ sizeLine)
    (step : ∀ x ∈ xs, ∀ (K : Option D → Mem → Prop), K (some (f x)) s.M → gt (g0 x) ⟨wipeS s.r vs, s.M⟩ fun s2 => tt s2 (fun b s3 => if b = true then te s3 (fun z s4 => K (some z) s4.M) noX else K none s3.M) noX)
    (hP : P (xs.map f) s) : lcD gt tt te vs P ds [] s := by
  refine lc_some g0 (fun x => some (f x)) xs hds hl step ?_
  have e : xs.filterMap (fun x => some (f x)) = xs.map f := by
    clear hl step hP hds
    induction xs with
    | nil => rfl
    | cons a r ih => simp
  rw [e]
  exact hP
/-! ### one statement at a time -/
theorem dSeq_k {t u : TSd} {s : S} {E : EK} {X : KX} (h : ∀ K : S → Prop, (∀ s', u s' E X → K s') → t s { E with nx := K } X) : dSeq t u s E X := h _ fun _ h => h
theorem dSeq_mid {t u : TSd} {s : S} {E : EK} {X : KX} (Q : S → Prop) (h : ∀ K : S → Prop, (∀ s', Q s' → K s') → t s { E with nx := K } X) (k : ∀ s', Q s' → u s' E X) : dSeq t u s E X := h _ k
/-! ### == -/
def OkN (k : Nat) (d : D) : Prop := (toPy d).canLay0 = true ∧ (toPy d).depth ≤ k
theorem OkN.ok {k : Nat} {d : D} (h : OkN k d) (hk : k ≤ 64 := by decide) : okD d = true := by
  unfold okD SeqAt.shaped
  rw [h.1, Bool.true_and]
  exact decide_eq_true (Nat.le_trans h.2 hk)
theorem OkN.int (k : Nat) (i : Int) : OkN k (.int i) := ⟨by simp [toPy, PyData.canLay0], by simp [toPy, PyData.depth]⟩
theorem OkN.non (k : Nat) : OkN k .non := ⟨by simp [toPy, PyData.canLay0], by simp [toPy, PyData.depth]⟩
theorem OkN.bl (k : Nat) (b : Bool) : OkN k (.bl b) := ⟨by simp [toPy, PyData.canLay0], by simp [toPy, PyData.depth]⟩
theorem okAll {k : Nat} : ∀ {ds : List D}, (∀ d ∈ ds, OkN k d) → PyData.canLayAll0 (toPys ds) = true ∧ PyData.depthAll (toPys ds) ≤ k
  | [], _ => ⟨by simp [toPys, PyData.canLayAll0], by simp [toPys, PyData.depthAll]⟩
  | d :: ds, h => by
    obtain ⟨a, b⟩ := okAll (k := k) (ds := ds) fun d hd => h d (List.mem_cons_of_mem _ hd)
    obtain ⟨c, e⟩ := h d List.mem_cons_self
    exact ⟨by simp [toPys, PyData.canLayAll0, a, c], by simp [toPys, PyData.depthAll]; omega⟩
theorem OkN.tup {k : Nat} {ds : List D} (h : ∀ d ∈ ds, OkN k d) : OkN (k + 1) (.tup ds) := by
  obtain ⟨a, b⟩ := okAll h
  exact ⟨by simpa [toPy, PyData.canLay0] using a, by simp only [toPy, PyData.depth]; omega⟩
theorem OkN.lst {k : Nat} {ds : List D} (h : ∀ d ∈ ds, OkN k d) : OkN (k + 1) (.lst ds) := by
  obtain ⟨a, b⟩ := okAll h
  exact ⟨by simpa [toPy, PyData.canLay0] using a, by simp only [toPy, PyData.depth]; omega⟩
abbrev tupI (xs : List Int) : D := .tup (xs.map D.int)
theorem OkN.ofInts (k : Nat) (xs : List Int) : ∀ d ∈ xs.map D.int, OkN k d := fun d h => by
  obtain ⟨i, _, e⟩ := List.mem_map.mp h
  subst e
  exact .int k i
theorem OkN.pairs (xs : List (Int × Int)) : ∀ d ∈ xs.map pairD, OkN 1 d := fun d h => by
  obtain ⟨i, _, e⟩ := List.mem_map.mp h
  subst e
  exact .tup (k := 0) fun d h => by
    rcases List.mem_cons.mp h with e | h
    · subst e; exact .int _ _
    · rcases List.mem_cons.mp h with e | h
      · subst e; exact .int _ _
      · cases h
@[simp] theorem okD_int (i : Int) : okD (.int i) = true := (OkN.int 0 i).ok
@[simp] theorem okD_non : okD .non = true := (OkN.non 0).ok
@[simp] theorem okD_bl (b : Bool) : okD (.bl b) = true := (OkN.bl 0 b).ok
@[simp] theorem okD_ints (xs : List Int) : okD (.tup (xs.map D.int)) = true := (OkN.tup (OkN.ofInts 0 xs)).ok
@[simp] theorem okD_pairs (xs : List (Int × Int)) : okD (.tup (xs.map pairD)) = true := (OkN.tup (OkN.pairs xs)).ok
@[simp] theorem eqD_int (i j : Int) : eqD (.int i) (.int j) = decide (i = j) := by
  simp only [eqD, toPy, PyData.eqv]
  rfl
@[simp] theorem eqD_non : eqD .non .non = true := by simp [eqD, toPy, PyData.eqv]
/-! ### places -/
theorem atI_pos {α : Type} {xs : List α} {i : Int} (h : 0 ≤ i) : atI xs i = xs[i.toNat]? := by
  unfold atI ixN
  rw [if_pos h]
  by_cases hl : i < xs.length
  · rw [if_pos hl]; rfl
  · rw [if_neg hl]
    have : xs.length ≤ i.toNat := by omega
    rw [List.getElem?_eq_none this]
    rfl
@[simp] theorem atI_nat {α : Type} {xs : List α} {i : Nat} : atI xs (i : Int) = xs[i]? := by rw [atI_pos (by omega)]; simp
@[simp] theorem atI_zero {α : Type} {xs : List α} : atI xs 0 = xs[0]? := by rw [atI_pos (by omega)]; simp
@[simp] theorem atI_one {α : Type} {xs : List α} : atI xs 1 = xs[1]? := by rw [atI_pos (by omega)]; simp
theorem ixN_pos {n : Nat} {i : Int} (h : 0 ≤ i) (hl : i < n) : ixN n i = some i.toNat := by
  unfold ixN
  rw [if_pos h, if_pos hl]
@[simp] theorem length_rangeD (lo : Int) (n : Nat) : (rangeD lo n).length = n := by simp [rangeD]
@[simp] theorem length_enumD (ds : List D) : (enumD ds).length = ds.length := by simp [enumD]
theorem rangeD_get {lo : Int} {n i : Nat} {d : D} (h : (rangeD lo n)[i]? = some d) : i < n ∧ d = .int (lo + i) := by
  have hl := (List.getElem?_eq_some_iff.mp h).1
  rw [length_rangeD] at hl
  refine ⟨hl, ?_⟩
  unfold rangeD at h
  rw [List.getElem?_map, List.getElem?_range hl] at h
  exact (Option.some.inj h).symm
theorem enumD_get {ds : List D} {i : Nat} {d : D} (h : (enumD ds)[i]? = some d) : ∃ z, ds[i]? = some z ∧ d = .tup [.int i, z] := by
  unfold enumD at h
  rw [List.getElem?_map, List.getElem?_zipIdx] at h
  cases e : ds[i]? with
  | none => rw [e] at h; cases h
  | some z => rw [e] at h; exact ⟨z, rfl, by simpa using (Option.some.inj h).symm⟩
theorem rangeD_map (lo : Int) (n : Nat) : rangeD lo n = (List.range n).map fun (i : Nat) => D.int (lo + (i : Int)) := rfl
theorem enumD_ints (xs : List Int) : enumD (xs.map D.int) = xs.zipIdx.map fun p => D.tup [.int (p.2 : Nat), .int p.1] := by
  unfold enumD
  rw [List.zipIdx_map, List.map_map]
  rfl
theorem rangeD_nat (n : Nat) : rangeD 0 n = (List.range n).map fun (i : Nat) => D.int i := by
  unfold rangeD
  simp
theorem sort_pairs {ds : List D} {M : Mem} {P : D → Prop} (ps : List (Int × Int)) (e : ds = ps.map pairD) (h : P (.lst ((sortP ps).map pairD))) : rSortD [.dat (.lst ds)] M P := .inr ⟨ps, e, h⟩
theorem sort_ints {ds : List D} {M : Mem} {P : D → Prop} (ps : List Int) (e : ds = ps.map D.int) (h : P (.lst ((sortI ps).map D.int))) : rSortD [.dat (.lst ds)] M P := .inl ⟨ps, e, h⟩
theorem le_sl {n : Nat} (h : n ≤ 1000000) : n ≤ sizeLine := Nat.le_trans h (by decide)
theorem lt_sl {n : Nat} (h : n ≤ 1000000) : n < sizeLine := Nat.lt_of_le_of_lt h (by decide)
theorem range_zip (gs : List Int) : (List.range gs.length).map (fun i => (-(gs.getD i 0), (i : Int))) = gs.zipIdx.map fun p => (-p.1, ((p.2 : Nat) : Int)) := by
  refine List.ext_getElem (by simp) fun i h1 h2 => ?_
  simp at h1
  simp [h1]
theorem filterMap_len {α β : Type} (p : α → Bool) (f : α → β) : ∀ l : List α, (l.filterMap fun x => if p x = true then some (f x) else none).length = (l.filter p).length
  | [] => rfl
  | x :: l => by
    have ih := filterMap_len p f l
    cases e : p x
    · rw [List.filterMap_cons_none (by simp [e]), List.filter_cons_of_neg (by simp [e]), ih]
    · rw [List.filterMap_cons_some (b := f x) (by simp [e]), List.filter_cons_of_pos e, List.length_cons, List.length_cons, ih]
theorem mem_get {α : Type} (M l : List α) (k : Nat) : (M ++ l)[M.length + k]? = l[k]? := by rw [List.getElem?_append_right (by omega)]; congr 1; omega
theorem mem_get0 {α : Type} (M l : List α) : (M ++ l)[M.length]? = l[0]? := mem_get M l 0
theorem mem_set {α : Type} (M l : List α) (k : Nat) (x : α) : (M ++ l).set (M.length + k) x = M ++ l.set k x := by rw [List.set_append_right _ _ (by omega)]; congr 2; omega
theorem mem_set0 {α : Type} (M l : List α) (x : α) : (M ++ l).set M.length x = M ++ l.set 0 x := mem_set M l 0 x
theorem flat_ints (xs : List Int) : (xs.map D.int).all flatD = true := by
  induction xs with
  | nil => rfl
  | cons x xs ih => simp [flatD]
theorem index_ints {xs : List Int} {x : Int} {i : Nat} {P : D → Prop} (h : xs[i]? = some x) (nd : xs.Nodup) (k : P (.int (i : Nat))) : rIndexD' (.lst (xs.map D.int)) (.int x) P := by
  refine ⟨rfl, flat_ints xs, i, .int x, by simp [h], by simp, fun m z hm hz => ?_, k⟩
  rw [List.getElem?_map] at hz
  obtain ⟨y, hy, rfl⟩ := Option.map_eq_some_iff.mp hz
  simp
  rintro rfl
  obtain ⟨l1, e1⟩ := List.getElem?_eq_some_iff.mp h
  obtain ⟨l2, e2⟩ := List.getElem?_eq_some_iff.mp hy
  exact List.pairwise_iff_getElem.mp nd m i l2 l1 hm (e2.trans e1.symm)
/-! ### the source that a law draws from -/
@[simp] def src (a b : Int) : Option CC := some (.lst [.int a, .int b])
structure Good (a b : Int) : Prop where
  a0 : 0 ≤ a
  b0 : 0 ≤ b
  b1 : b < 2147483647
def spTake : SpD := fun xs M P _ => ∃ top a b, xs = [.cell 0, .dat (.int top)] ∧ M = [src a b] ∧ Good a b ∧ 1 ≤ top ∧ top.natAbs.log2 < 9000 ∧ ∀ k a' b', 0 ≤ k → k < top → Good a' b' → P (.int k) [src a' b']
def spOne : SpD := fun xs M P _ => ∃ d0 ds a b, xs = [.cell 0, .dat d0] ∧ seqD d0 = some ds ∧ M = [src a b] ∧ Good a b ∧ ds ≠ [] ∧ ds.length < 2 ^ 60 ∧ ∀ d a' b', d ∈ ds → Good a' b' → P d [src a' b']
def spPool : SpF := fun xs _ P => ∃ (ns : List Int) (k : Int), xs = [.dat (.fl (ns.map .int)), .dat (.int k)] ∧ 0 ≤ k ∧ k ≤ 1000000 ∧ ∀ a b, Good a b → P [.int a, .int b]
theorem useTake {top a b : Int} {m : CC} {K : D → Mem → Prop} {X : KXM} (e : some m = src a b) (g : Good a b) (h1 : 1 ≤ top) (h2 : top < 2 ^ 64) (k : ∀ i a' b', 0 ≤ i → i < top → Good a' b' → K (.int i) [src a' b']) : spTake [.cell 0, .dat (.int top)] [some m] K X :=
  ⟨top, a, b, rfl, by rw [e], g, h1, Nat.lt_of_le_of_lt (by
    by_cases h0 : top.natAbs = 0
    · omega
    · exact Nat.le_of_lt ((Nat.log2_lt h0).mpr (show top.natAbs < 2 ^ 64 by omega))) (show 64 < 9000 by decide), k⟩
theorem useOne {d0 : D} {ds : List D} {a b : Int} {m : CC} {K : D → Mem → Prop} {X : KXM} (hs : seqD d0 = some ds) (e : some m = src a b) (g : Good a b) (h1 : ds ≠ []) (h2 : ds.length < 2 ^ 60) (k : ∀ d a' b', d ∈ ds → Good a' b' → K d [src a' b']) : spOne [.cell 0, .dat d0] [some m] K X := ⟨d0, ds, a, b, rfl, hs, by rw [e], g, h1, h2, k⟩
theorem natAbs_log2_lt {x : Int} {n : Nat} (h : x.natAbs < 2 ^ n) (hn : 0 < n) : x.natAbs.log2 < n := by
  by_cases e : x.natAbs = 0
  · rw [e]; simpa using hn
  · exact (Nat.log2_lt e).mpr h

def tdPool : S → (List D → S → Prop) → KX → Prop :=
  dSeqF (dSet 2 (dC (.int 0)))
  (dSeqF (dIfS (dT (dOp rLtD (dVar 1) (dCB rLenD (dCons (dVar 0) (dNil))))) (dSet 2 (dOp rIxD (dVar 0) (dVar 1))) (dIfS (dTru (dVar 0)) (dSet 2 (dOp rIxD (dVar 0) (dC (.int 0)))) (dNext)))
  (dSeqF (dSet 3 (dCB (r2I fun i j => if j > i then j else i) (dCons (dCB rIntD (dCons (dVar 2) (dNil))) (dCons (dCB rIntD (dCons (dOp rSubD (dUn rNegD (dC (.int 1))) (dVar 2)) (dNil))) (dNil)))))
  (dSeqF (dSet 4 (dOp rModD (dCB rIntD (dCons (dOp rMultD (dOp rAddD (dOp rAddD (dOp rAddD (dOp rModD (dCB rIntD (dCons (dVar 3) (dNil))) (dC (.int 2147483629))) (dOp rMultD (dOp rMultD (dC (.int 7919)) (dVar 1)) (dVar 1))) (dOp rMultD (dC (.int 31)) (dVar 1))) (dC (.int 17))) (dC (.int 48271))) (dNil))) (dC (.int 2147483647))))
  (dLst (dCons (dOp rMultD (dVar 3) (dCB rIntD (dCons (dOp rGeD (dVar 3) (dOp rPowD (dC (.int 10)) (dC (.int 18)))) (dNil)))) (dCons (dVar 4) (dNil)))))))
def tdTake : TSd :=
  dSeq (dIfS (dT (dOp rGtD (dIxC 0 (dC (.int 0))) (dC (.int 0)))) (dSeq (dSet 2 (dOp rModD (dCB rIntD (dCons (dIxC 0 (dC (.int 0))) (dNil))) (dVar 1)))
  (dSeq (dSetIx 0 (dC (.int 0)) (dOp rDivD (dIxC 0 (dC (.int 0))) (dVar 1)))
  (dRet (dVar 2)))) (dNext))
  (dSeq (dSetIx 0 (dC (.int 1)) (dOp rModD (dCB rIntD (dCons (dOp rAddD (dOp rMultD (dIxC 0 (dC (.int 1))) (dC (.int 39373))) (dC (.int 7))) (dNil))) (dC (.int 2147483647))))
  (dRet (dOp rModD (dCB rIntD (dCons (dOp rDivD (dOp rModD (dCB rIntD (dCons (dOp rMultD (dIxC 0 (dC (.int 1))) (dIxC 0 (dC (.int 1)))) (dNil))) (dC (.int 2147483629))) (dC (.int 32))) (dNil))) (dVar 1))))
def tdOne : TSd :=
  dRet (dOp rIxD (dVar 1) (dCall spTake (dConsC 0 (dCons (dCB rLenD (dCons (dVar 1) (dNil))) (dNil)))))
abbrev N_take : List Str := ["_law_source", "_law_top", "_law_digit"]
abbrev N_one : List Str := ["_law_source", "_law_things"]
abbrev N_pool : List Str := ["_law_script", "_law_k", "_law_cell", "_law_big", "_law_stirred"]
theorem len_take : ∀ xs M P PX, spTake xs M P PX → xs.length = 2 := fun _ _ _ _ ⟨_, _, _, e, _⟩ => by rw [e]; rfl
theorem len_one : ∀ xs M P PX, spOne xs M P PX → xs.length = 2 := fun _ _ _ _ ⟨_, _, _, _, e, _⟩ => by rw [e]; rfl
theorem len_pool : ∀ xs M P, spPool xs M P → xs.length = 2 := fun _ _ _ ⟨_, _, e, _⟩ => by rw [e]; rfl
theorem mTake : ∀ xs M P PX, spTake xs M P PX → tdTake (startS N_take xs M) (endE M.length P) (endX M.length PX) := by
  rintro xs M P PX ⟨top, a, b, rfl, rfl, hg, h1, h2, hp⟩
  obtain ⟨a0, b0, b1⟩ := hg
  have m1 : 0 ≤ (b * 39373 + 7) % 2147483647 := Int.emod_nonneg _ (by decide)
  have m2 : (b * 39373 + 7) % 2147483647 < 2147483647 := Int.emod_lt_of_pos _ (by decide)
  simp [tdTake, src, ixN, CDivW, CMul, CMulW, h2]
  split
  · rename_i h0
    exact ⟨by omega, hp _ _ _ (Int.emod_nonneg _ (by omega)) (Int.emod_lt_of_pos _ (by omega)) ⟨Int.ediv_nonneg a0 (by omega), b0, b1⟩⟩
  · refine ⟨.inl (by omega), ?_, by omega, hp _ _ _ (Int.emod_nonneg _ (by omega)) (Int.emod_lt_of_pos _ (by omega)) ⟨a0, m1, m2⟩⟩
    exact Nat.lt_of_lt_of_le ((Nat.log2_lt (by decide)).mpr (show 32 < 2 ^ 10 by decide)) (by decide)
theorem mOne : ∀ xs M P PX, spOne xs M P PX → tdOne (startS N_one xs M) (endE M.length P) (endX M.length PX) := by
  rintro xs M P PX ⟨d0, ds, a, b, rfl, hs, rfl, hg, h1, h2, hp⟩
  have hn : 0 < ds.length := List.length_pos_iff.mpr h1
  have hl : ((ds.length : Int).natAbs).log2 < 9000 := by
    rw [Int.natAbs_natCast]
    exact Nat.lt_of_lt_of_le ((Nat.log2_lt (by omega)).mpr h2) (by decide)
  cases d0 <;> simp at hs <;> subst hs
  all_goals
    simp [tdOne]
    refine ⟨_, a, b, rfl, rfl, hg, by omega, by simpa using hl, fun k a' b' h0 h1 g' => ⟨_, rfl, ?_⟩⟩
    have e : ∀ (l : List D) (hl : k < (l.length : Int)), atI l k = some (l[k.toNat]'(by omega)) := fun l hl => (atI_pos h0).trans (List.getElem?_eq_getElem (by omega))
    exact ⟨_, e _ h1, hp _ _ _ (List.getElem_mem _) g'⟩
theorem mPool : ∀ xs P, spPool xs [] P → tdPool (startS N_pool xs []) (fun ds _ => P ds) noX := by
  rintro xs P ⟨ns, k, rfl, h0, h1, hp⟩
  have key : ∀ c : Int, P [.int ((if c < -1 - c then -1 - c else c) * (if 1000000000000000000 ≤ (if c < -1 - c then -1 - c else c) then 1 else 0)), .int ((((if c < -1 - c then -1 - c else c) % 2147483629 + 7919 * k * k + 31 * k + 17) * 48271) % 2147483647)] := fun c => by
    refine hp _ _ ⟨?_, Int.emod_nonneg _ (by decide), Int.emod_lt_of_pos _ (by decide)⟩
    have : 0 ≤ if c < -1 - c then -1 - c else c := by split <;> omega
    generalize (if c < -1 - c then -1 - c else c) = x at this ⊢
    exact Int.mul_nonneg this (by split <;> decide)
  have c1 : CMul 7919 k ∨ CMulW 7919 k := .inl (.inl (by decide))
  have c2 : CMul (7919 * k) k ∨ CMulW (7919 * k) k := .inl (.inr (by omega))
  have c3 : CMul 31 k ∨ CMulW 31 k := .inl (.inl (by decide))
  have c4 : ∀ x, CMul x 48271 ∨ CMulW x 48271 := fun x => .inl (.inr (by decide))
  have c5 : CPow 10 18 := by unfold CPow; decide
  have c6 : ∀ x : Int, CMul x (if 1000000000000000000 ≤ x then 1 else 0) ∨ CMulW x (if 1000000000000000000 ≤ x then 1 else 0) := fun x => .inl (.inr (by split <;> decide))
  have c7 : 2 ≤ sizeLine := by decide
  by_cases hk : k < (ns.length : Int)
  · have e : ns[k.toNat]? = some (ns[k.toNat]'(by omega)) := List.getElem?_eq_getElem (by omega)
    generalize ns[k.toNat]'(by omega) = c at e
    simp [tdPool, hk, atI_pos h0, e, c1, c2, c3, c4, c5, c7]
    exact ⟨c6 _, key c⟩
  · cases ns with
    | nil =>
      have z := key 0
      have y := c6 0
      simp at y z
      simp at hk
      simp [tdPool, Int.not_lt.mpr hk, c1, c2, c3, c4, c5, c7]
      exact ⟨y, z⟩
    | cons c r =>
      simp at hk
      simp [tdPool, hk, c1, c2, c3, c4, c5, c7, Int.not_lt.mpr hk]
      exact ⟨c6 _, key c⟩
end DL
namespace DL
open PySem L2
/-- the law's own call: the script is a frozen list of ints -/
theorem sp_start {K : PySem.W.Frag} {CA : Str → Addr} {spd : SpD} {H : Hp} {a : Addr} {ns : List Int} (hS : SqL K H a (ns.map V.int)) (h : ∀ P : D → Mem → Prop, P (.bl true) [] → spd [.dat (.fl (ns.map .int))] [] P (fun _ _ _ => False)) : lSp ⟨K, CA⟩ spd [.ref a] H (fun v _ => v = .bl true) (fun _ _ _ => False) := by
  refine ⟨⟨[], []⟩, [.dat (.fl (ns.map .int))], [], fun d _ => d = .bl true, fun _ _ _ => False, ⟨.ref a, [], rfl, ?_, rfl⟩, ⟨rfl, fun c x e => ?_, fun c a e => ?_, fun c c' a e => ?_, fun a h => ?_⟩, h _ rfl, fun d M' H' v e _ _ r => ?_, fun _ _ _ _ _ _ z => z.elim⟩
  · simp only [Rep]
    refine ⟨a, ns.map V.int, rfl, ?_, Reps.of_ints _⟩
    rcases hS with z | z
    · exact .inl ⟨by simp [Cs.bad], z⟩
    · exact .inr z
  · simp at e
  · simp at e
  · simp at e
  · cases h
  · subst e
    simpa only [Rep] using r
end DL

/-! Own errors: raise, try with several clauses that name what they take. -/
namespace DL
open PySem L2 PySem.Spec PyProof.Rows
/-! ### several clauses with names -/
abbrev Cls := Option Nat × Value × (Addr → Value → Option Addr → TS)
def goneD (i : Nat) (D : Ends) : Ends := { nx := fun σ H => D.nx (σ.set i none) H, rt := D.rt, bk := fun σ H => D.bk (σ.set i none) H, ct := fun σ H => D.ct (σ.set i none) H }
def endOf (o : Option Nat) (D : Ends) : Ends := match o with
  | none => D
  | some i => goneD i D
def slotOf (o : Option Nat) (σ : L2.St) (a : Addr) : L2.St := match o with
  | none => σ
  | some i => σ.set i (some (.ref a))
def wH (K : PySem.W.Frag) (Wout : WX) (D : Ends) : List Cls → WX
  | [] => Wout
  | q :: r => fun cls d σ H => ∃ b, PySem.W.exmOne K cls q.2.1 = some b ∧ (b = true → ∀ a, H a = none → q.2.2 a cls d (endOf q.1 D) (slotOf q.1 σ a) H) ∧ (b = false → wH K Wout D r cls d σ H)
inductive Hs2 (X : Cx) : List ExceptHandler → List Cls → Prop
  | nil : Hs2 X [] []
  | nm {x n : Str} {c : Value} {i : Nat} {u : Addr → Value → Option Addr → TS} {b0 : Stmt} {bs : List Stmt} {p1 p2 : Pos} {r : List ExceptHandler} {l : List Cls} (hc : Names X x c) (hN : X.N.Nodup) (hi : X.N[i]? = some n) (hl : X.env.kindOf n = some .local)
      (hu : ∀ (a : Addr) (oe : Obj) (cls : Value) (d : Option Addr) (pn : List (Addr × Obj)), Zc cls d oe → (∃ vs, oe.data = .fields vs) → PSs (X.suite a ((a, oe) :: pn)) (b0 :: bs) (u a cls d)) (hr : Hs2 X r l) :
      Hs2 X (.ExceptHandler (some (.Name x p1)) (some n) (b0 :: bs) p2 :: r) ((some i, c, u) :: l)
  | un {x : Str} {c : Value} {u : Addr → Value → Option Addr → TS} {b0 : Stmt} {bs : List Stmt} {p1 p2 : Pos} {r : List ExceptHandler} {l : List Cls} (hc : Names X x c)
      (hu : ∀ (a : Addr) (oe : Obj) (cls : Value) (d : Option Addr) (pn : List (Addr × Obj)), Zc cls d oe → (∃ vs, oe.data = .fields vs) → PSs (X.suite a ((a, oe) :: pn)) (b0 :: bs) (u a cls d)) (hr : Hs2 X r l) :
      Hs2 X (.ExceptHandler (some (.Name x p1)) none (b0 :: bs) p2 :: r) ((none, c, u) :: l)
theorem ps_try_hs {X : Cx} {body : List Stmt} {h0 : ExceptHandler} {hds : List ExceptHandler} {l : List Cls} {pos : Pos} {tb : WX → TS} {Wout : WX} (es : X.stack = X.env :: X.outer) (ef : X.env.frame = some X.env.locals) (tk : Takes X Wout)
    (hb : ∀ (W : WX) (pn : List (Addr × Obj)) (xe : Value → Shared → Prop), Takes (X.tr pn xe) W → PassesOwn (model X.prog X.w) X.A X.env xe → PSs (X.tr pn xe) body (tb W)) (hh : Hs2 X (h0 :: hds) l) :
    PS X (.Try body (h0 :: hds) [] [] pos) (fun D σ H => tb (wH X.K Wout D l) D σ H) := by
  refine ⟨fun pi s0 st0 Hh Dd In hyp => ?_⟩
  have okX := In.ok
  have fra : X.A.frames = some (X.env :: X.outer) := by rw [okX.frames, es]
  refine wpAny_Try_except ?_
  have bodyR := (hb (wH X.K Wout Dd l) (X.pn ++ pi) (fun e s₁ => wpAny (model X.prog X.w) X.A (noteFrame e X.env) (fun _ s₂ => wpAny (model X.prog X.w) X.A (setFlight e none) (fun _ s₃ => wpAny (model X.prog X.w) X.A (handleBy e X.env (h0 :: hds)) (SP X pi Dd) X.xe s₃) X.xe s₂) X.xe s₁) (fun u s' xx => ?_) PassesOwn.looking).run [] s0 st0 Hh Dd (In.toTry _) hyp
  · refine wpAny_mono bodyR (fun f s1 hsp => ?_) (fun e s1 he => he)
    cases f with
    | next => obtain ⟨a1, a2, a3, a4⟩ := hsp; exact wpAny_execs_nil ⟨a1, a2, a3.ofTry okX, a4⟩
    | brk => obtain ⟨a1, a2, a3, a4⟩ := hsp; exact ⟨a1, a2, a3.ofTry okX, a4⟩
    | cont => obtain ⟨a1, a2, a3, a4⟩ := hsp; exact ⟨a1, a2, a3.ofTry okX, a4⟩
    | ret z => obtain ⟨a0, a1, a2, a3, a5, a4⟩ := hsp; exact ⟨a0, a1, a2, a3.ofTry okX, a5, a4⟩
  · obtain ⟨a, B, sI, pi2, st1, H1, cls, d, rfl, J0, nb, up, sk, na, eo, ag, w0⟩ := xx
    have J : Inv X pi st1 H1 sI := J0.ofTry okX
    have sk2 : Sky B (X.env :: X.outer) a (Zc cls d) X.env.locals s'.heap := by rw [← es]; exact sk
    show wpAny (model X.prog X.w) X.A (noteFrame (.ref a) X.env) _ _ _
    refine Sky.land Zc.steady fra ef sk2 fun g3 fl3 up3 => ?_
    have J3 : Inv X pi st1 H1 { s' with heap := g3 } := J.landed nb fl3.1 (up.trans up3) eo ag
    obtain ⟨oe3, vs3, he3, hz3, hd3⟩ := fl3.there
    have out3 : a ∉ frs (X.env :: X.outer) := fun hm => by
      obtain ⟨_, o', e', hnf⟩ := fl3.2.2.1.mem hm
      rw [he3] at e'
      cases e'
      exact hnf _ hd3
    have nL : a ≠ X.env.locals := fun z => out3 (List.mem_filterMap.mpr ⟨X.env, List.mem_cons_self, by rw [ef, z]⟩)
    have nF : a ∉ X.fs := fun hm => by
      obtain ⟨y, hy, q⟩ := List.mem_filterMap.mp hm
      exact out3 (List.mem_filterMap.mpr ⟨y, List.mem_cons_of_mem _ hy, q⟩)
    have S3 := J3.suite he3 hd3 na nL nF
    have LT : PySem.W.Looks (model X.prog X.w) g3 (typeOf (.ref a)) cls := fun A Q E s k q => wpAny_typeOf_ref (k _ _ he3) (by rw [hz3.1]; exact q)
    have look : ∀ {x : Str} {c : Value} {p1 : Pos}, Names X x c → ∀ {Q E : Value → Shared → Prop}, Q c { s' with heap := g3 } → wpAny (model X.prog X.w) (X.A.mark (some (.ref a))) (eval (.Name x p1) X.env) Q E { s' with heap := g3 } := fun {x c p1} hc {Q E} q => by
      obtain ⟨hg, hdb, hm⟩ := hc
      rcases hm with hm | ⟨hm, hv, hnn⟩
      · exact ld_glob (X := X.suite a ((a, oe3) :: (X.pn ++ pi))) S3 hg hm q hdb
      · exact ld_blt (X := X.suite a ((a, oe3) :: (X.pn ++ pi))) S3 hg hm hv q hnn hdb
    have go : ∀ {hds' : List ExceptHandler} {l' : List Cls}, Hs2 X hds' l' → wH X.K Wout Dd l' cls d st1 H1 → wpAny (model X.prog X.w) X.A (handleBy (.ref a) X.env hds') (SP X pi Dd) X.xe { s' with heap := g3 } := by
      intro hds' l' hk
      induction hk with
      | nil =>
        intro w1
        refine wpAny_handleBy_nil ?_
        obtain ⟨k1, k2, k3, oe, vs, T, oT, ts', he, hz, hd, h1, hr⟩ := id fl3
        unfold PySem.passOn
        refine wpAny_bind (wpAny_field he hd h1 ?_)
        rw [if_neg (show ¬ ((Value.ref T == Value.none) = true) from by simp)]
        have last : wpAny (model X.prog X.w) X.A (setFlight (.ref a) X.env.frame) (fun _ s4 => wpAny (model X.prog X.w) X.A (throw (.ref a) : Sem Flow) (SP X pi Dd) X.xe s4) X.xe { s' with heap := g3 } := by
          rw [ef]
          refine HandSPX.setFlight_upZ fl3 fun g4 hh4 up4 => wpAny_throw (tk _ _ ?_)
          exact ⟨a, B, sI, pi, st1, H1, cls, d, rfl, J, nb, (up.trans up3).trans up4, .inr (.inr (by rw [es]; exact hh4)), na, eo, ag, w1⟩
        first
          | exact wpAny_bind (wpAny_pure (wpAny_bind last))
          | exact wpAny_bind last
      | @nm x n c i u b0 bs p1 p2 r l2 hc hN hi hl hu hr ih =>
        intro w1
        obtain ⟨b, hb1, yes, no⟩ := w1
        have LM := PySem.W.exm_one (M := model X.prog X.w) J3.kIn LT hb1
        refine wpAny_handleBy_cons (codeAny_handlers_test ?_) (by intro q; cases q)
        refine look hc (LM.here ?_)
        cases b with
        | false => show wpAny _ X.A (handleBy (.ref a) X.env r) _ _ _; exact ih (no rfl)
        | true =>
          refine codeAny_handlers_suite_as ?_
          refine HandSPX.lands_againZ fl3 fun g4 fl4 up4 => ?_
          have J4 : Inv X pi st1 H1 { s' with heap := g4 } := J.landed nb fl4.1 ((up.trans up3).trans up4) eo ag
          obtain ⟨oe4, vs4, he4, hz4, hd4⟩ := fl4.there
          have S4 := J4.suite he4 hd4 na nL nF
          refine store_ok (X := X.suite a ((a, oe4) :: (X.pn ++ pi))) (v := .ref a) S4 hN hi (.inl hl) rfl (fun s5 S5 => ?_) (.inr hl)
          have run := (hu a oe4 cls d (X.pn ++ pi) hz4 ⟨_, hd4⟩).run [] s5 _ H1 _ S5 (yes rfl a na)
          refine wpAny_mono run (fun f s6 hsp => ?_) (fun _ _ z => False.elim z)
          have fin : ∀ {st6 : L2.St} {H6 : Hp} {Q : Shared → Prop}, Inv (X.suite a ((a, oe4) :: (X.pn ++ pi))) [] st6 H6 s6 → (∀ s7, Inv X pi (st6.set i none) H6 s7 → Q s7) → wpAny (model X.prog X.w) X.A (do bindName X.env n .none; unbindBehindTheSuite X.env n p2) (fun _ s7 => Q s7) X.xe s6 := fun {st6 H6 Q} S6 hq => gone_ok (S6.unsuite okX) hN hi hl hq
          cases f with
          | next => obtain ⟨a1, a2, a3, a4⟩ := hsp; exact fin a3 fun s7 J7 => ⟨_, _, J7, a4⟩
          | brk => obtain ⟨a1, a2, a3, a4⟩ := hsp; exact fin a3 fun s7 J7 => ⟨_, _, J7, a4⟩
          | cont => obtain ⟨a1, a2, a3, a4⟩ := hsp; exact fin a3 fun s7 J7 => ⟨_, _, J7, a4⟩
          | ret z => obtain ⟨a0, a1, a2, a3, a5, a4⟩ := hsp; exact fin a3 fun s7 J7 => ⟨_, _, _, J7, a5, a4⟩
      | @un x c u b0 bs p1 p2 r l2 hc hu hr ih =>
        intro w1
        obtain ⟨b, hb1, yes, no⟩ := w1
        have LM := PySem.W.exm_one (M := model X.prog X.w) J3.kIn LT hb1
        refine wpAny_handleBy_cons (codeAny_handlers_test ?_) (by intro q; cases q)
        refine look hc (LM.here ?_)
        cases b with
        | false => show wpAny _ X.A (handleBy (.ref a) X.env r) _ _ _; exact ih (no rfl)
        | true =>
          refine codeAny_handlers_suite ?_
          refine HandSPX.lands_againZ fl3 fun g4 fl4 up4 => ?_
          have J4 : Inv X pi st1 H1 { s' with heap := g4 } := J.landed nb fl4.1 ((up.trans up3).trans up4) eo ag
          obtain ⟨oe4, vs4, he4, hz4, hd4⟩ := fl4.there
          have S4 := J4.suite he4 hd4 na nL nF
          have run := (hu a oe4 cls d (X.pn ++ pi) hz4 ⟨_, hd4⟩).run [] _ _ H1 _ S4 (yes rfl a na)
          refine wpAny_mono run (fun f s6 hsp => ?_) (fun _ _ z => False.elim z)
          cases f with
          | next => obtain ⟨a1, a2, a3, a4⟩ := hsp; exact ⟨_, _, a3.unsuite okX, a4⟩
          | brk => obtain ⟨a1, a2, a3, a4⟩ := hsp; exact ⟨_, _, a3.unsuite okX, a4⟩
          | cont => obtain ⟨a1, a2, a3, a4⟩ := hsp; exact ⟨_, _, a3.unsuite okX, a4⟩
          | ret z => obtain ⟨a0, a1, a2, a3, a5, a4⟩ := hsp; exact ⟨_, _, _, a3.unsuite okX, a5, a4⟩
    exact go hh w0
end DL

namespace DL
open PySem L2 PySem.Spec PyProof.Rows
/-! ### an own error's __init__ and raise -/
structure ErrC (K : PySem.W.Frag) (C fI : Addr) : Prop where
  oex : OexC K C
  wh : PySem.W.findIn K (.ref C) "what" = some none
  iC : PySem.W.findIn K (.ref C) "__init__" = some (some (.ref fI))
  xf : XfC K C
def spIni (K : PySem.W.Frag) : Sp := fun vs H Q _ => ∃ (a C : Addr) (v : V), vs = [.ref a, v] ∧ OexC K C ∧ PySem.W.findIn K (.ref C) "what" = some none ∧ H a = some (exo a C none) ∧ ∀ dx, H dx = none → dx ≠ a → Q .non (upd (upd H dx (exd dx [(("what" : Str), v)])) a (exo a C (some dx)))
theorem ini_reads {K : PySem.W.Frag} {vs : List V} {H : Hp} {Q : VK} {E : XK} (h : spIni K vs H Q E) : tOst K "what" (tVar 0) (tVar 1) { nx := fun _ H' => Q .non H', rt := Q } (start ["self", "what"] vs) H := by
  obtain ⟨a, C, v, rfl, T, hno, ha, q⟩ := h
  exact ⟨v, rfl, .ref a, rfl, a, C, rfl, T, hno, .inl ⟨ha, q⟩⟩
theorem ok_ini {P : Program} {w : World} {K : PySem.W.Frag} {mg : Str → Option Value} {base : Heap} {qual : Str} {st : Stmt} {f : Addr} {fd : FuncData} (F : Fun K "__init__" qual st f fd) (S : FnScope ["self", "what"] ["self", "what"] (defScope st))
    (hb : ∀ (cdv : Value) (A : Around) (outer : List Env) (s : Shared) (H : Hp) (E : XK), PSs (cxOf (L2.CX P w) P w K mg base ["self", "what"] qual (defScope st) f cdv A outer s H E) (defBody st) (tOst K "what" (tVar 0) (tVar 1))) : FnOk P w K mg base (L2.CX P w) 1 f fd ["self", "what"] (spIni K) :=
  F.okX S (fun vs H Q E h => by obtain ⟨_, _, _, rfl, _⟩ := h; rfl) fun cdv A outer s H vs Q E _ h => ⟨_, hb cdv A outer s H E, ini_reads h⟩
section
variable {X : Cx} {g : G} {W : WX} {pos : Pos} {e : Expr} {te : TD} {w : Cs} {H H' : Hp} {σ : L2.St} {s : S}
@[simp] def dRaise (c : Str) (te : TD) : TSd := fun s E PX => te s (fun d s1 => PX c d s1) PX
theorem ds_raise {c x : Str} {C fI : Addr} {fd : FuncData} {p pos2 : Pos} (hca : g.CA c = C) (T : ErrC X.K C fI) (tI : PySem.W.typeIn X.K (.ref fI) = some (.type "function")) (F1 : FnOk X.prog X.w X.K X.mg X.base (L2.CX X.prog X.w) 1 fI fd ["self", "what"] (spIni X.K)) (hr : Room 2 X.A) (hb : Binds X.K fd ["self", "what"] [])
    (hc : X.calm = true) (tk : Takes X W) (hg : Gl X x) (hm : X.mg x = some (.ref C)) (he : PE X e (lE g W te)) (hx : Passes (L2.CX X.prog X.w) X (fun _ _ _ => False)) (hs : starEach (e :: []) X.env = (false, eval e X.env) :: starEach [] X.env := by rfl)
    (hdb : (x == ("__debug__" : Str)) = false := by decide) (he' : starEach (e :: []) X.env = (false, eval e X.env) :: starEach [] X.env := by rfl) (hpl : (backTo pos (starEach [] X.env)).any (·.1) = false := by rfl) :
    PS X (.Raise (some (.Call (.Name x p) (e :: []) [] pos)) none pos2) (lS g W (dRaise c te)) := ps_imp (ps_raise hc tk (pmk_oex T.oex T.iC tI F1 hr hb .nil hx hg hm (pa_cons he pa_nil hs) hdb he' hpl)) fun D σ H ⟨w, s, E, PX, rs, h, k, x⟩ =>
  ⟨w, s, _, PX, rs, h, fun d s1 H1 v q e1 rs1 rp => ⟨by simp, fun a na => ⟨a, C, v, rfl, T.oex, T.wh, upd_same, fun dx n ne => by
    have nd : H1 dx = none := by rw [upd_ne ne] at n; exact n
    refine ⟨rfl, dx, [(("what" : Str), v)], upd_same, by rw [upd_ne ne]; exact upd_same, nd, ?_⟩
    have eh : upd (del (upd (upd (upd H1 a (exo a C none)) dx (exd dx [(("what" : Str), v)])) a (exo a C (some dx))) a) dx (.xd [(("what" : Str), v)]) = upd H1 dx (.xd [(("what" : Str), v)]) := by
      funext b
      by_cases e1 : b = dx
      · rw [e1, upd_same, upd_same]
      · rw [upd_ne e1, upd_ne e1]
        by_cases e2 : b = a
        · rw [e2, del_same, na]
        · rw [del_ne e2, upd_ne e2, upd_ne e1, upd_ne e2]
    rw [eh, ← hca]
    have sm : Same H1 (upd H1 dx (.xd [(("what" : Str), v)])) := same_upd nd
    exact x c d s1 w _ σ dx v q (.of_ext (e1.trans (.of_same sm))) (rs1.same sm) ⟨rs1.mem.fresh nd, upd_same⟩ (rp.mv (.of_same sm))⟩⟩, x.ex⟩

/-! ### try .. except A as e: .. e.what .. -/
@[simp] def subE (c C : Str) : Bool := c == C || C == "Refused"
/-- a clause: its slot (if it names what it takes), its class, what stands in it -/
abbrev HdD := Option Nat × Str × (Addr → Addr → TSd)
@[simp] def putX : Option Nat → Addr → Addr → D → S → S
  | none, _, _, _, s => s
  | some i, a, dd, x, s => { s with r := s.r.set i (.dat (.xc a dd x)) }
@[simp] def goneE : Option Nat → EK → EK
  | none, E => E
  | some i, E => { nx := fun s => E.nx { s with r := s.r.set i .no }, rt := E.rt, bk := fun s => E.bk { s with r := s.r.set i .no }, ct := fun s => E.ct { s with r := s.r.set i .no } }
@[simp] def selD (E : EK) (PX : KX) : List HdD → Str → D → S → Prop
  | [], c, x, s => PX c x s
  | q :: r, c, x, s => if subE c q.2.1 = true then ∀ a dd, q.2.2 a dd (putX q.1 a dd x s) (goneE q.1 E) noX else selD E PX r c x s
@[simp] def dTry (L : List Str) (t : TSd) (hs : List HdD) : TSd := fun s E PX => t s E (fun c x s' => c ∈ L ∧ selD E PX hs c x s')
def tsOf (g : G) (L : List Str) (u : Addr → Addr → TSd) : Addr → Value → Option Addr → TS := fun a cls d D σ H => ∃ dd c, d = some dd ∧ cls = .ref (g.CA c) ∧ c ∈ L ∧ lS g W0 (u a dd) D σ H
def clsOf (g : G) (L : List Str) (hs : List HdD) : List Cls := hs.map fun q => (q.1, .ref (g.CA q.2.1), tsOf g L q.2.2)
theorem SOk.gone {E : EK} {D : Ends} (k : SOk g w H E D) : ∀ o : Option Nat, SOk g w H (goneE o E) (endOf o D)
  | none => k
  | some i => ⟨fun s2 w2 H2 σ2 p m r => k.nx _ w2 H2 _ p m r.setNo, fun s2 w2 H2 σ2 p m r => k.bk _ w2 H2 _ p m r.setNo, fun s2 w2 H2 σ2 p m r => k.ct _ w2 H2 _ p m r.setNo, k.rt⟩
theorem RS.putX {a dd : Addr} {x : D} {v : V} (r : RS g w H σ s) (h : XdAt w H dd v) (q : Rep g w H x v) : ∀ o : Option Nat, RS g w H (slotOf o σ a) (DL.putX o a dd x s)
  | none => r
  | some i => r.put fun σ' e => ⟨.ref a, e, by simp only [Rep]; exact ⟨v, trivial, h.1, h.2, q⟩⟩
theorem sel_ok {L : List Str} {Dn : Ends} {E : EK} {PX : KX} (k : SOk g w H E Dn) (kx : XOkS g w H PX W) (av : ∀ x, x ∈ w.av → some x ∉ w.cs ∧ ∃ o, H x = some o) {K : PySem.W.Frag} {c : Str} {x : D} {s' : S} {w' : Cs} {H' : Hp} {σ' : L2.St} {dd : Addr} {v : V} (hL : c ∈ L) (m : Mv w H w' H') (rs : RS g w' H' σ' s') (hd : XdAt w' H' dd v) (rp : Rep g w' H' x v) :
    ∀ hs : List HdD, (∀ q ∈ hs, PySem.W.exmOne K (.ref (g.CA c)) (.ref (g.CA q.2.1)) = some (subE c q.2.1)) → selD E PX hs c x s' → wH K W Dn (clsOf g L hs) (.ref (g.CA c)) (some dd) σ' H'
  | [], _, h => kx c x s' w' H' σ' dd v h m rs hd rp
  | q :: r, he, h => by
    refine ⟨subE c q.2.1, he q List.mem_cons_self, fun e a na => ?_, fun e => ?_⟩
    · simp only [selD, e, if_true] at h
      exact ⟨dd, c, rfl, rfl, hL, w', _, _, noX, rs.putX hd rp q.1, h a dd, (k.mv m av).gone q.1, fun _ _ _ _ _ _ _ _ z => z.elim⟩
    · simp only [selD, e, Bool.false_eq_true, if_false] at h
      exact sel_ok k kx av hL m rs hd rp r (fun q hq => he q (List.mem_cons_of_mem _ hq)) h
theorem ds_try {L : List Str} {body : List Stmt} {h0 : ExceptHandler} {hds : List ExceptHandler} {t : TSd} {hs : List HdD} (es : X.stack = X.env :: X.outer) (ef : X.env.frame = some X.env.locals) (tk : Takes X W)
    (hb : ∀ (W' : WX) (pn : List (Addr × Obj)) (xe : Value → Shared → Prop), Takes (X.tr pn xe) W' → PassesOwn (model X.prog X.w) X.A X.env xe → PSs (X.tr pn xe) body (lS g W' t))
    (he : ∀ c ∈ L, ∀ q ∈ hs, PySem.W.exmOne X.K (.ref (g.CA c)) (.ref (g.CA q.2.1)) = some (subE c q.2.1)) (hh : Hs2 X (h0 :: hds) (clsOf g L hs)) :
    PS X (.Try body (h0 :: hds) [] [] pos) (lS g W (dTry L t hs)) := ps_imp (ps_try_hs (l := clsOf g L hs) es ef tk hb hh) fun D σ H ⟨w, s, E, PX, rs, h, k, x⟩ =>
  ⟨w, s, E, _, rs, h, k, fun c x' s' w' H' σ' dd v ⟨hL, z⟩ m rs' hd rp => sel_ok k x rs.mem.av hL m rs' hd rp hs (fun q hq => he c hL q hq) z⟩
theorem suite_ok {L : List Str} {u : Addr → Addr → TSd} {a : Addr} {oe : Obj} {cls : Value} {d : Option Addr} {pn : List (Addr × Obj)} {bs : List Stmt} (h : ∀ dd c, c ∈ L → cls = .ref (g.CA c) → d = some dd → PSs (X.suite a ((a, oe) :: pn)) bs (lS g W0 (u a dd))) : PSs (X.suite a ((a, oe) :: pn)) bs (tsOf g L u a cls d) :=
  ⟨fun pins s σ H D I ⟨dd, c, e1, e2, hL, z⟩ => (h dd c hL e2 e1).run pins s σ H D I z⟩
/-- e.what in the clause that names e -/
@[simp] def dWhat (i : Nat) (a dd : Addr) : TD := fun s P _ => ∃ x, s.r[i]? = some (.dat (.xc a dd x)) ∧ P x s
theorem de_what {c : Str} {a dd fI : Addr} {oe : Obj} {cls : Value} {d : Option Addr} {pn : List (Addr × Obj)} {n : Str} {p : Pos} (i : Nat) (T : ErrC X.K (g.CA c) fI) (hz : Zc cls d oe) (hf : ∃ vs, oe.data = .fields vs) (ec : cls = .ref (g.CA c)) (ed : d = some dd)
    (he : PE (X.suite a ((a, oe) :: pn)) (.Name n p) (tVar i)) (hb : attributeBase (.Name n p) "what" X.env (eval (.Name n p) X.env) = eval (.Name n p) X.env := by rfl) : PE (X.suite a ((a, oe) :: pn)) (.Attribute (.Name n p) "what" pos) (lE g W0 (dWhat i a dd)) :=
  pe_imp (pe_xf T.xf T.wh hz hf he hb) fun σ H Q ⟨w, s, P, PX, rs, h, k, x⟩ => by
    obtain ⟨y, ey, h⟩ := h
    obtain ⟨u, eu, ru⟩ := rs.slot i _ ey
    simp only [Rep] at ru
    obtain ⟨z, e1, nb, hd, rz⟩ := ru
    subst e1
    exact ⟨.ref a, eu, rfl, ec, dd, _, z, ed, hd, by simp [List.lookup], k y s H z h (HExt.refl _ _) rs rz⟩
end
end DL
namespace DL
/-- where a class of the top stands -/
def caOf (K : PySem.W.Frag) (c : PySem.Str) : PySem.Addr := match PySem.W.nsIn K PySem.mainGlobals c with
  | some (some (.ref a)) => a
  | _ => 0
def gOf (K : PySem.W.Frag) : G := ⟨K, caOf K⟩
end DL
namespace DL
open PySem
theorem exm_mk {K : PySem.W.Frag} {s c : Addr} {b : Bool} (hb : PySem.W.subIn K (.ref c) (.type "BaseException") = some true) (hc : PySem.W.isClsIn K c = true) (ht : PySem.W.typeIn K (.ref c) = some (.type "type")) (hs : PySem.W.subIn K (.ref s) (.ref c) = some b) : PySem.W.exmOne K (.ref s) (.ref c) = some b := by
  have hc : (PySem.W.clsIn K c).isSome = true := hc
  have one : (PySem.W.subIn K (.ref c) (.type "BaseException") == some true) = true := by rw [hb]; rfl
  have two : ((PySem.W.clsIn K c).isSome && PySem.W.typeIn K (.ref c) == some (.type "type")) = true := by rw [hc, ht]; rfl
  unfold PySem.W.exmOne
  rw [if_pos one]
  exact (if_pos two).trans hs
end DL

namespace DL
open PySem L2
section
variable {X : Cx} {g : G} {W : WX} {e : Expr} {ta td : TD}
/-! ### x.insert(i, y), x a cell -/
@[simp] def dIns (i : Nat) (ta td : TD) : TD := fun s P X => ∃ c, s.r[i]? = some (.cell c) ∧ isLst s.M[c]? ∧ ta s (fun y s1 => td s1 (fun d s2 => ∃ ds j, s2.M[c]? = some (some (.lst ds)) ∧ y = .int j ∧ 0 ≤ j ∧ j < 2 ^ 63 ∧ ds.length < sizeLine ∧ P .non { s2 with M := s2.M.set c (some (.lst (ds.take j.toNat ++ [d] ++ ds.drop j.toNat))) }) X) X
abbrev rIns : V → List V → Hp → VK → Prop := fun x vs H Q => ∃ (l : Addr) (xs : List V) (i : Int) (y : V), x = .ref l ∧ vs = [.int i, y] ∧ H l = some (.lst xs) ∧ xs.length < sizeLine ∧ 0 ≤ i ∧ i < 2 ^ 63 ∧ Q .non (upd H l (.lst (xs.take i.toNat ++ [y] ++ xs.drop i.toNat)))
theorem de_insert (i : Nat) (h : PE X e (tBM X.K "list" rIns (tVar i) (tCons (lE g W ta) (tCons (lE g W td) tNil)))) : PE X e (lE g W (dIns i ta td)) := pe_imp h fun σ H Q ⟨w, s, P, PX, rs, ⟨c, ec, il, h⟩, k, x⟩ => by
  obtain ⟨a, ea, ev⟩ := rs.slot i _ ec
  have tr : ∃ vs, H a = some (.lst vs) := by
    obtain ⟨ds0, ey⟩ := isLst_ex il
    obtain ⟨a', ea', vs, q, _⟩ := rs.mem.at_ c _ ey
    rw [ea] at ea'
    cases ea'
    exact ⟨vs, q⟩
  obtain ⟨vs0, hvs0⟩ := tr
  refine ⟨.ref a, ev, tyList hvs0, w, s, _, PX, rs, h, fun y s1 H1 yv q e1 rs1 ry => ⟨w, s1, _, PX, rs1, q, fun d s2 H2 v q2 e2 rs2 rp => ?_, x.ext e1⟩, x⟩
  obtain ⟨ds, j, em, ey, j0, j1, hl, pz⟩ := q2
  subst ey
  simp only [Rep] at ry
  subst ry
  obtain ⟨a', ea', vs, hp, rv⟩ := rs2.mem.at_ c _ em
  rw [ea] at ea'
  cases ea'
  have hb : w.bad a := .inl (List.mem_of_getElem? ea)
  have rv' : Reps g w H2 (ds.take j.toNat ++ [d] ++ ds.drop j.toNat) (vs.take j.toNat ++ [v] ++ vs.drop j.toNat) := Reps.app (Reps.app (Reps.take _ rv) (Reps.cons rp Reps.nil)) (Reps.drop _ rv)
  exact ⟨a, vs, j, v, rfl, rfl, hp, by rw [rv.len]; exact hl, j0, j1, k .non _ _ .non pz ((e1.trans e2).trans (upd_cell_ext ea)) (rs2.updCell ea rv') (by simp only [Rep])⟩
/-- a cell's truth -/
@[simp] def dTruC (i : Nat) : TDB := fun s P _ => ∃ c ds, s.r[i]? = some (.cell c) ∧ s.M[c]? = some (some (.lst ds)) ∧ P (!ds.isEmpty) s
theorem dt_truC (i : Nat) (he : PE X e (tVar i)) (hw : ∀ whole, isTrue e X.env whole = (do let v ← whole; standAt e.pos; holding [v] (truthy v)) := by intro _; rfl) : PT X e (lB g W (dTruC i)) := pt_imp (pt_truth he hw) fun σ H Q ⟨w, s, P, PX, rs, ⟨c, ds, ec, em, h⟩, k, x⟩ => by
  obtain ⟨a, ea, ev⟩ := rs.slot i _ ec
  obtain ⟨a', ea', vs, hp, rv⟩ := rs.mem.at_ c _ em
  rw [ea] at ea'
  cases ea'
  exact ⟨.ref a, ev, !ds.isEmpty, .inl ⟨vs, SqL.of hp, by rw [rv.empty]⟩, k _ s H h (HExt.refl _ _) rs⟩
end
end DL

/-! The own class Field: its attributes, Field(strengths, guards). -/
namespace DL
open PySem L2 PySem.Spec PyProof.Rows
structure FldC (K : PySem.W.Frag) (C fI : Addr) : Prop where
  cl : L2.Cls K C
  na : ∀ f ∈ (["n", "strengths", "guards"] : List Str), NoAttr K C f
  mks : Mk K C fI
section
variable {X : Cx} {g : G} {W : WX} {pos : Pos} {e e2 : Expr} {te te2 : TD} {w : Cs} {H H' : Hp} {σ : L2.St} {s : S}
theorem RepF.get {f : Str} : ∀ {fs : List (Str × D)} {fv : List (Str × V)} {v : D}, RepF g w H fs fv → fs.lookup f = some v → ∃ u, fv.lookup f = some u ∧ Rep g w H v u
  | [], _, _, _, h => by simp at h
  | p :: fs, fv, v, hr, h => by
    simp only [RepF] at hr
    obtain ⟨u, r, e, q, z⟩ := hr
    subst e
    obtain ⟨k, d⟩ := p
    by_cases c : f = k
    · subst c
      simp [List.lookup] at h ⊢
      subst h
      exact q
    · have c' : (f == k) = false := by simpa using c
      simp only [List.lookup, c'] at h ⊢
      exact RepF.get z h
@[simp] def dFld (te : TD) (c f : Str) : TD := fun s P X => te s (fun d s1 => ∃ fs v, d = .ins c fs ∧ fs.lookup f = some v ∧ P v s1) X
theorem de_fld {c f : Str} (cl : L2.Cls X.K (g.CA c)) (na : NoAttr X.K (g.CA c) f) (he : PE X e (lE g W te)) (hb : attributeBase e f X.env (eval e X.env) = eval e X.env := by rfl) : PE X (.Attribute e f pos) (lE g W (dFld te c f)) := pe_imp (pe_fld he hb) fun σ H Q ⟨w, s, P, PX, rs, h, k, x⟩ =>
  ⟨w, s, _, PX, rs, h, fun d s1 H1 v q e1 rs1 rp => by
    obtain ⟨fs, y, ed, el, q⟩ := q
    subst ed
    simp only [Rep] at rp
    obtain ⟨a, dx, fv, ev, nb, hp, rf⟩ := rp
    obtain ⟨u, eu, ru⟩ := rf.get el
    exact ⟨a, _, dx, fv, u, ev, hp, cl, na, eu, k y s1 H1 u q e1 rs1 ru⟩, x⟩
/-! ### Field(strengths, guards) -/
def spFI (K : PySem.W.Frag) : Sp := fun vs H Q _ => ∃ (a C dx t1 fI : Addr) (xs : List V) (gv : V), vs = [.ref a, .ref t1, gv] ∧ FldC K C fI ∧ H a = some (.ins C dx []) ∧ H t1 = some (.tup xs) ∧
  Q .non (upd H a (.ins C dx [(("n" : Str), .int xs.length), (("strengths" : Str), .ref t1), (("guards" : Str), gv)]))
theorem upd_twice {H : Hp} {a : Addr} {o u : HO} : upd (upd H a o) a u = upd H a u := by
  funext b
  by_cases c : b = a
  · rw [c, upd_same, upd_same]
  · rw [upd_ne c, upd_ne c, upd_ne c]
theorem fi_reads {K : PySem.W.Frag} {vs : List V} {H : Hp} {Q : VK} {E : XK} {tl : TE} (hl : ∀ σ H Q, (∃ t1 xs, σ[1]? = some (some (.ref t1)) ∧ SqT K H t1 xs ∧ Q (.int xs.length) H) → tl σ H Q) (h : spFI K vs H Q E) :
    tSeq (sFld K (tVar 0) tl "n") (tSeq (sFld K (tVar 0) (tVar 1) "strengths") (sFld K (tVar 0) (tVar 2) "guards")) { nx := fun _ H' => Q .non H', rt := Q } (start ["self", "strengths", "guards"] vs) H := by
  obtain ⟨a, C, dx, t1, fI, xs, gv, rfl, T, ha, ht, q⟩ := h
  refine hl _ _ _ ⟨t1, xs, rfl, SqT.of ht, ?_⟩
  refine ⟨.ref a, rfl, a, C, dx, [], rfl, ha, T.cl, T.na _ (by simp), by decide, ?_⟩
  refine ⟨.ref t1, rfl, .ref a, rfl, a, C, dx, _, rfl, upd_same, T.cl, T.na _ (by simp), (show (1 : Nat) < 1000 by decide), ?_⟩
  refine ⟨gv, rfl, .ref a, rfl, a, C, dx, _, rfl, upd_same, T.cl, T.na _ (by simp), (show (2 : Nat) < 1000 by decide), ?_⟩
  rw [upd_twice, upd_twice]
  exact q
@[simp] def dMkF (c : Str) (t : TDA) : TD := fun s P X => t s (fun xs s1 => ∃ ds y, xs = [.dat (.tup ds), .dat y] ∧ P (.ins c [("n", .int ds.length), ("strengths", .tup ds), ("guards", y)]) s1) X
theorem de_mkF {c x : Str} {fI : Addr} {fd : FuncData} {p : Pos} (T : FldC X.K (g.CA c) fI) (F : FnOk X.prog X.w X.K X.mg X.base (L2.CX X.prog X.w) 1 fI fd ["self", "strengths", "guards"] (spFI X.K)) (hr : Room 2 X.A) (hg : Gl X x) (hm : X.mg x = some (.ref (g.CA c))) (hb : Binds X.K fd ["self", "strengths", "guards"] [])
    (hx : Passes (L2.CX X.prog X.w) X (fun _ _ _ => False)) {ta : TDA} (ha : PA X (e :: [e2]) (lA g W ta)) (hdb : (x == ("__debug__" : Str)) = false := by decide) (he : starEach (e :: [e2]) X.env = (false, eval e X.env) :: starEach [e2] X.env := by rfl) (hpl : (backTo pos (starEach [e2] X.env)).any (·.1) = false := by rfl) :
    PE X (.Call (.Name x p) (e :: [e2]) [] pos) (lE g W (dMkF c ta)) := pe_imp (pe_make T.mks F hr hg hm hb .nil hx ha hdb he hpl) fun σ H Q ⟨w, s, P, PX, rs, h, k, x⟩ =>
  ⟨w, s, _, PX, rs, h, fun xs s1 H1 vs q e1 rs1 ra => by
    obtain ⟨ds, y, exs, q⟩ := q
    subst exs
    obtain ⟨v1, v2, ev, r1, r2⟩ := ArgOk.two ra
    subst ev
    intro a dx n1 n2 ne
    simp only [Rep] at r1
    obtain ⟨t1, us, e3, nb, ht, ru⟩ := r1
    subst e3
    have st : t1 ≠ dx := ne_of_none ht n2
    have st2 : t1 ≠ a := ne_of_none ht n1
    refine ⟨a, g.CA c, dx, t1, fI, us, v2, rfl, T, upd_same, by rw [upd_ne st2, upd_ne st]; exact ht, rfl, ?_⟩
    rw [upd_twice]
    have sm : Same H1 (upd (upd H1 dx (.own a)) a (.ins (g.CA c) dx [(("n" : Str), V.int us.length), (("strengths" : Str), .ref t1), (("guards" : Str), v2)])) := fun b o eo => by
      rw [upd_ne (ne_of_none eo n1), upd_ne (ne_of_none eo n2)]
      exact eo
    refine k _ s1 _ _ q (e1.trans (.of_same sm)) (rs1.same sm) ?_
    simp only [Rep, RepF]
    exact ⟨a, dx, _, rfl, rs1.mem.fresh n1, upd_same, _, _, rfl, by simp only [ru.len], _, _, rfl, ⟨t1, us, rfl, nb, sm _ _ ht, ru.mv (.of_same sm)⟩, _, _, rfl, r2.mv (.of_same sm), rfl⟩, x⟩
theorem dt_chain {a b c : Expr} {ta tb tc : TD} {op op' : CmpOp} {r r' : R2} {rd rd' : RD} (h : PT X (.Compare a [op, op'] [b, c] pos) (tTest (tChain r r' (lE g W ta) (lE g W tb) (lE g W tc)))) (hr : ∀ x y H Q, lR g rd x y H Q → r x y H Q) (hr' : ∀ x y H Q, lR g rd' x y H Q → r' x y H Q) :
    PT X (.Compare a [op, op'] [b, c] pos) (lB g W (dT (dChain rd rd' ta tb tc))) := pt_imp h (lT_of (lE_chain hr hr'))
end
end DL

/-! isinstance(x, T), T a built-in type. -/
namespace DL
open PySem L2 PySem.Spec PyProof.Rows
def tyD : D → Option String
  | .non => some "NoneType"
  | .bl _ => some "bool"
  | .int _ => some "int"
  | .str _ => some "str"
  | .tup _ => some "tuple"
  | .lst _ => some "list"
  | _ => none
/-- is a datum of the type T -/
@[simp] def isT (T : String) : D → Option Bool
  | .non => some (T == "NoneType")
  | .bl _ => some (T == "bool" || T == "int")
  | .int _ => some (T == "int")
  | .str _ => some (T == "str")
  | .tup _ => some (T == "tuple")
  | .lst _ => some (T == "list")
  | _ => none
section
variable {X : Cx} {g : G} {W : WX} {pos : Pos} {e : Expr} {te : TD} {w : Cs} {H : Hp}
theorem Rep.tyX {d : D} {v : V} {t : String} (h : Rep g w H d v) (e : tyD d = some t) : TyX X.K H v (.type t) := by
  cases d <;> simp only [tyD, Option.some.injEq, reduceCtorEq] at e <;> subst e <;> simp only [Rep] at h
  · subst h; exact .base .non
  · subst h; exact .base (.bl _)
  · subst h; exact .base (.int _)
  · subst h; exact .base (.str _)
  · obtain ⟨a, vs, e, n, hp, rv⟩ := h; subst e; exact .base (.tup hp)
  · obtain ⟨a, vs, e, n, hp, rv⟩ := h; subst e; exact .base (.lst hp)
/-- what kitOne tells of built-in types -/
structure KitT (T : String) : Prop where
  ok : ∀ t ∈ ["NoneType", "bool", "int", "str", "tuple", "list"], kitB t T = some (T == t || (t == "bool" && T == "int"))
theorem kit_int : KitT "int" := ⟨by decide +kernel⟩
theorem kit_bool : KitT "bool" := ⟨by decide +kernel⟩
theorem kit_tuple : KitT "tuple" := ⟨by decide +kernel⟩
theorem kit_str : KitT "str" := ⟨by decide +kernel⟩
@[simp] def dIsT (T : String) (te : TD) : TD := fun s P X => te s (fun d s1 => ∃ b, isT T d = some b ∧ P (.bl b) s1) X
theorem de_isT {T : String} {y : Str} {p q : Pos} (kt : KitT T) (hT : T = "int" ∨ T = "bool" ∨ T = "tuple" ∨ T = "str") (hg : Gl X "isinstance") (hm : X.mg "isinstance" = none) (he : PE X e (lE g W te)) (ht : PE X (.Name y q) (tC (.ty T))) (hs : starEach (e :: [.Name y q]) X.env = (false, eval e X.env) :: starEach [.Name y q] X.env := by rfl)
    (hs2 : starEach (.Name y q :: []) X.env = (false, eval (.Name y q) X.env) :: starEach [] X.env := by rfl) (hpl : (backTo pos (starEach [.Name y q] X.env)).any (·.1) = false := by rfl) :
    PE X (.Call (.Name "isinstance" p) (e :: [.Name y q]) [] pos) (lE g W (dIsT T te)) := pe_imp (pe_callB call_isi hg hm PyProof.Rows.boot_isinstance (pa_cons he (pa_cons ht pa_nil hs2) hs) (by decide) (by decide) hs hpl) fun σ H Q ⟨w, s, P, PX, rs, h, k, x⟩ =>
  ⟨w, s, _, PX, rs, h, fun d s1 H1 v q1 e1 rs1 rp => by
    obtain ⟨b, eb, q1⟩ := q1
    have key : ∀ t, tyD d = some t → t ∈ ["NoneType", "bool", "int", "str", "tuple", "list"] → (T == t || (t == "bool" && T == "int")) = b → rIsi X.K [v, .ty T] H1 Q := fun t e1' mt eb' =>
      ⟨v, .ty T, .type t, .type T, b, rfl, .ty T, rp.tyX e1', kit_ty (by rw [kt.ok t mt, eb']), k (.bl b) s1 H1 _ q1 e1 rs1 (by simp only [Rep])⟩
    have fin : ∃ t, tyD d = some t ∧ t ∈ ["NoneType", "bool", "int", "str", "tuple", "list"] ∧ (T == t || (t == "bool" && T == "int")) = b := by
      cases d <;> simp only [isT, Option.some.injEq, reduceCtorEq] at eb <;> subst eb <;> refine ⟨_, rfl, by decide, ?_⟩ <;> rcases hT with rfl | rfl | rfl | rfl <;> decide
    obtain ⟨t, h1, h2, h3⟩ := fin
    exact key t h1 h2 h3, x⟩
end
end DL

/-! Calls with keywords; xs[::-1]; len(set(xs)). -/
namespace DL
open PySem L2 PySem.Spec PyProof.Rows
/-! ### keywords -/
def pick {α : Type} (p : List Nat) (l : List α) : List α := p.filterMap (l[·]?)
theorem vals_app : ∀ {vs zs : List V} {us ws : List Value}, Vals vs us → Vals zs ws → Vals (vs ++ zs) (us ++ ws)
  | [], _, _, _, .nil, h => h
  | _ :: _, _, _, _, .cons a b, h => .cons a (vals_app b h)
theorem vals_pick {vs : List V} {us : List Value} (h : Vals vs us) : ∀ p : List Nat, Vals (pick p vs) (pick p us)
  | [] => .nil
  | i :: p => by
    have ih := vals_pick h p
    unfold pick at ih ⊢
    rw [List.filterMap_cons, List.filterMap_cons]
    cases e : vs[i]? with
    | none =>
      have e2 : us[i]? = none := by
        rw [List.getElem?_eq_none_iff] at e ⊢
        rw [← h.length]; exact e
      simp only [e2]
      exact ih
    | some v =>
      obtain ⟨u, hu, ru⟩ := h.get e
      simp only [hu]
      exact .cons ru ih
theorem kbn {K : PySem.W.Frag} {fd : FuncData} {ps ks : List Str} {n : Nat} (p : List Nat) (h : ∀ us ws : List Value, us.length = n → ws.length = ks.length → bindArgs fd ⟨us, ks.zip ws⟩ = pure (ps.zip (pick p (us ++ ws)))) :
    KBn K fd ps n ks (fun us ws => pick p (us ++ ws)) (fun us ws => pick p (us ++ ws)) :=
  ⟨fun s us ws _ l1 l2 => .of_eq (h us ws l1 l2), fun r1 r2 => vals_pick (r1.append r2) p⟩
section
variable {X : Cx} {CX : CXT} {k n : Nat} {f : Addr} {fd : FuncData} {ps ks : List Str} {sp : Sp} {E : L2.St → XK} {x : Str} {p pos : Pos} {e : Expr} {es : List Expr} {kws : List Keyword} {t tk : TA} {g : List Value → List Value → List Value} {gV : List V → List V → List V}
def tCallNS (n m : Nat) (sp : Sp) (gV : List V → List V → List V) (E : L2.St → XK) (t tk : TA) : TE := fun σ H Q => t σ H fun vs H1 => tk σ H1 fun zs H2 => vs.length = n ∧ zs.length = m ∧ sp (gV vs zs) H2 Q (E σ)
theorem run_fnNS {pins : List (Addr × Obj)} {σ : L2.St} {H : Hp} {s : Shared} {Q : VK} {us ws : List Value} {vs zs : List V} (F : FnOk X.prog X.w X.K X.mg X.base CX k f fd ps sp) (hr : Room k X.A) (hb : KBn X.K fd ps n ks g gV) (hx : PassesAt CX X σ (E σ))
    (I : Inv X pins σ H s) (r : Vals vs us) (rz : Vals zs ws) (l1 : vs.length = n) (l2 : zs.length = ks.length) (h : sp (gV vs zs) H Q (E σ)) : wpAny (model X.prog X.w) X.A (call (.ref f) us (ks.zip ws)) (EP X pins σ Q) X.xe s := by
  have r2 := hb.rel r rz
  refine wpAny_call (codeAny_mono (F.run X.A X.stack s H ⟨us, ks.zip ws⟩ (g us ws) (gV vs zs) Q (E σ) hr I.env0 (hb.to s us ws I.kIn (r.length.symm.trans l1) (rz.length.symm.trans l2)) r2 h) fun r s' hq => ?_)
  cases r with
  | error e => exact hx pins H s e s' I hq
  | ok fl =>
    cases fl with
    | ret u => exact I.after hq
    | next => exact False.elim hq
    | brk => exact False.elim hq
    | cont => exact False.elim hq
/-- f(e, .., k = v, ..) -/
theorem pe_callNS (F : FnOk X.prog X.w X.K X.mg X.base CX k f fd ps sp) (hr : Room k X.A) (hg : Gl X x) (hm : X.mg x = some (.ref f)) (hk : PySem.W.keepIn X.K (.ref f) = true) (hb : KBn X.K fd ps n ks g gV) (hx : ∀ σ, PassesAt CX X σ (E σ))
    (ha : PA X (e :: es) t) (hkw : PK X kws tk) (hall : (backToKw pos (keywordEach kws X.env)).all (·.1.isSome) = true := by rfl) (hks : (backToKw pos (keywordEach kws X.env)).filterMap (·.1) = ks := by rfl)
    (hdb : (x == ("__debug__" : Str)) = false := by decide) (he : starEach (e :: es) X.env = (false, eval e X.env) :: starEach es X.env := by rfl)
    (hpl : ((backTo pos (starEach (e :: es) X.env)).any (·.1) || (backToKw pos (keywordEach kws X.env)).any (·.1.isNone)) = false := by rfl) :
    PE X (.Call (.Name x p) (e :: es) kws pos) (tCallNS n ks.length sp gV E t tk) := by
  refine ⟨fun pins s σ H Q I h => ?_⟩
  refine wpAny_Call_Name_kw (ld_glob I hg hm ?_ hdb)
  refine PySem.W.callWith_KW (h₀ := X.base) I.ok.mod.kin hk hall (thn (ha.run pos pins s σ H _ I h) fun us s1 ⟨vs, H1, I1, r, q⟩ => ?_) hpl he
  refine thn (hkw.run pos pins s1 σ H1 _ I1 q) fun ws s2 ⟨zs, H2, I2, rz, l1, l2, q2⟩ => ⟨I2.kIn, ?_⟩
  rw [hks]
  exact run_fnNS F hr hb (hx σ) I2 r rz l1 l2 q2
/-- f(k = v, ..) -/
theorem pe_callNS0 (F : FnOk X.prog X.w X.K X.mg X.base CX k f fd ps sp) (hr : Room k X.A) (hg : Gl X x) (hm : X.mg x = some (.ref f)) (hk : PySem.W.keepIn X.K (.ref f) = true) (hb : KBn X.K fd ps 0 ks g gV) (hx : ∀ σ, PassesAt CX X σ (E σ))
    (hkw : PK X kws tk) (hall : (backToKw pos (keywordEach kws X.env)).all (·.1.isSome) = true := by rfl) (hks : (backToKw pos (keywordEach kws X.env)).filterMap (·.1) = ks := by rfl)
    (hdb : (x == ("__debug__" : Str)) = false := by decide)
    (hpl : ((backTo pos (starEach [] X.env)).any (·.1) || (backToKw pos (keywordEach kws X.env)).any (·.1.isNone)) = false := by rfl) :
    PE X (.Call (.Name x p) [] kws pos) (tCallNS 0 ks.length sp gV E tNil tk) := by
  refine ⟨fun pins s σ H Q I h => ?_⟩
  refine wpAny_Call_Name_kw (ld_glob I hg hm ?_ hdb)
  refine PySem.W.callWith_KW0 (h₀ := X.base) I.ok.mod.kin hk hall ?_ hpl
  refine thn (hkw.run pos pins s σ H _ I h) fun ws s2 ⟨zs, H2, I2, rz, l1, l2, q2⟩ => ⟨I2.kIn, ?_⟩
  rw [hks]
  exact run_fnNS F hr hb (hx σ) I2 .nil rz l1 l2 q2
end
theorem pk_imp {X : Cx} {kws : List Keyword} {t t' : TA} (h : PK X kws t) (i : ∀ σ H Q, t' σ H Q → t σ H Q) : PK X kws t' := ⟨fun pos pins s σ H Q I q => h.run pos pins s σ H Q I (i σ H Q q)⟩
section
variable {X : Cx} {g : G} {W : WX} {pos kpos : Pos} {a b c e : Expr} {ta tb tc : TD} {w : Cs} {H H' : Hp} {σ : L2.St} {s : S} {kws : List Keyword} {tr : TDA} {nm : Option Str}
theorem dk_nil : PK X [] (lA g W dNil) := pk_imp pk_nil fun σ H Q ⟨w, s, P, PX, rs, h, k, x⟩ => k [] s H [] h (HExt.refl _ _) rs rfl
theorem dk_cons (ha : PE X e (lE g W ta)) (hr : PK X kws (lA g W tr)) : PK X (⟨nm, e, kpos⟩ :: kws) (lA g W (dCons ta tr)) := pk_imp (pk_cons ha hr) fun σ H Q ⟨w, s, P, PX, rs, h, k, x⟩ =>
  ⟨w, s, _, PX, rs, h, fun d s1 H1 v q e1 rs1 rp => ⟨w, s1, _, PX, rs1, q, fun xs s2 H2 vs q2 e2 rs2 rp2 => k _ s2 H2 _ q2 (e1.trans e2) rs2 ⟨v, vs, rfl, rp.mv (.of_ext e2), rp2⟩, x.ext e1⟩, x⟩
theorem dk_consC (i : Nat) {n : Str} {p : Pos} (ha : PE X (.Name n p) (tVar i)) (hr : PK X kws (lA g W tr)) : PK X (⟨nm, .Name n p, kpos⟩ :: kws) (lA g W (dConsC i tr)) := pk_imp (pk_cons ha hr) fun σ H Q ⟨w, s, P, PX, rs, ⟨c, ec, h⟩, k, x⟩ => by
  obtain ⟨a, ea, es⟩ := rs.slot i _ ec
  exact ⟨.ref a, es, w, s, _, PX, rs, h, fun xs s2 H2 vs q2 e2 rs2 rp2 => k _ s2 H2 _ q2 e2 rs2 ⟨a, vs, rfl, ea, rp2⟩, x⟩
theorem ArgOk.ext (e : HExt w H H') : ∀ {xs : List Sl} {vs : List V}, ArgOk g w H xs vs → ArgOk g w H' xs vs
  | [], _, h => h
  | .no :: _, _, h => h
  | .dat d :: xs, _, ⟨v, r, ev, q, z⟩ => ⟨v, r, ev, q.mv (.of_ext e), ArgOk.ext e z⟩
  | .cell c :: xs, _, ⟨a, r, ev, q, z⟩ => ⟨a, r, ev, q, ArgOk.ext e z⟩
theorem ArgOk.app : ∀ {xs ys : List Sl} {vs us : List V}, ArgOk g w H xs vs → ArgOk g w H ys us → ArgOk g w H (xs ++ ys) (vs ++ us)
  | [], _, _, _, h, k => by have h : _ = [] := h; subst h; exact k
  | .no :: _, _, _, _, h, _ => h.elim
  | .dat d :: xs, _, _, _, ⟨v, r, ev, q, z⟩, k => by subst ev; exact ⟨v, _, rfl, q, ArgOk.app z k⟩
  | .cell c :: xs, _, _, _, ⟨a, r, ev, q, z⟩, k => by subst ev; exact ⟨a, _, rfl, q, ArgOk.app z k⟩
theorem ArgOk.cons_at : ∀ {xs : List Sl} {vs : List V}, ArgOk g w H xs vs → ∀ {i : Nat} {x : Sl}, xs[i]? = some x → ∃ v, vs[i]? = some v ∧ ∀ {ys : List Sl} {us : List V}, ArgOk g w H ys us → ArgOk g w H (x :: ys) (v :: us)
  | [], _, h, i, x, e => by simp at e
  | .no :: _, _, h, _, _, _ => h.elim
  | .dat d :: xs, _, ⟨v, r, ev, q, z⟩, i, x, e => by
    subst ev
    cases i with
    | zero => cases e; exact ⟨v, rfl, fun k => ⟨v, _, rfl, q, k⟩⟩
    | succ i => exact ArgOk.cons_at z (by simpa using e)
  | .cell c :: xs, _, ⟨a, r, ev, q, z⟩, i, x, e => by
    subst ev
    cases i with
    | zero => cases e; exact ⟨_, rfl, fun k => ⟨a, _, rfl, q, k⟩⟩
    | succ i => exact ArgOk.cons_at z (by simpa using e)
theorem ArgOk.pick {xs : List Sl} {vs : List V} (h : ArgOk g w H xs vs) : ∀ p : List Nat, ArgOk g w H (pick p xs) (pick p vs)
  | [] => rfl
  | i :: p => by
    have ih := ArgOk.pick h p
    unfold DL.pick at ih ⊢
    rw [List.filterMap_cons, List.filterMap_cons]
    cases e : xs[i]? with
    | none =>
      have e2 : vs[i]? = none := by
        rw [List.getElem?_eq_none_iff] at e ⊢
        rw [h.len]; exact e
      simp only [e2]
      exact ih
    | some v =>
      obtain ⟨u, hu, ru⟩ := h.cons_at e
      simp only [hu]
      exact ru ih
theorem call_mv {spd : SpD} {xs : List Sl} {vs : List V} {P : D → S → Prop} {PX : KX} {Q : VK} (rs1 : RS g w H σ s) (ra : ArgOk g w H xs vs) (q : callM spd xs s P PX) (k : EOk g w H σ P Q) (x : XOk g w H σ PX W) : lSp g spd vs H Q (WE W σ) := by
  unfold callM at q
  split at q
  · rename_i hc
    refine ⟨w.none_, xs, [], _, _, ra.none_ hc, rs1.mem.none_, q, fun d M' H2 v p e2 m2 rp => ?_, fun cc xx M' H2 dd v p e2 m2 hd rp => ?_⟩
    · have sm : Same H H2 := fun a o h => e2 a o (fun z => absurd z (by simp [Cs.none_])) h
      exact k d s H2 v p (.of_same sm) (rs1.same sm) (Rep.gen (kb fun a => bad_none.symm) rp)
    · have sm : Same H H2 := fun a o h => e2 a o (fun z => absurd z (by simp [Cs.none_])) h
      exact x cc xx s H2 dd v p (.of_same sm) (rs1.same sm) ⟨fun z => hd.1 (bad_none.mpr z), hd.2⟩ (Rep.gen (kb fun a => bad_none.symm) rp)
  · rename_i c hc
    obtain ⟨m, em, q⟩ := q
    obtain ⟨p, hp, _⟩ := rs1.mem.at_ c m em
    have hb : ∀ a, w.bad a ↔ (w.one_ p).bad a := fun a => (bad_one (List.mem_of_getElem? hp)).symm
    refine ⟨w.one_ p, _, _, _, _, ra.one_ hp hc, rs1.mem.one_ hp em, q, fun d M' H2 v pp e2 m2 rp => ?_, fun cc xx M' H2 dd v pp e2 m2 hd rp => ?_⟩
    · obtain ⟨m', em', pp⟩ := pp
      subst em'
      obtain ⟨e3, rs3⟩ := rs1.after_one hp e2 m2
      exact k d _ H2 v pp e3 rs3 (Rep.gen (kb hb) rp)
    · obtain ⟨m', em', pp⟩ := pp
      subst em'
      obtain ⟨e3, rs3⟩ := rs1.after_one hp e2 m2
      exact x cc xx _ H2 dd v pp e3 rs3 ⟨fun z => hd.1 ((hb dd).mp z), hd.2⟩ (Rep.gen (kb hb) rp)
  · exact q.elim
/-- f(.., k = v): the arguments as the def names them -/
@[simp] def dCallK (spd : SpD) (n m : Nat) (p : List Nat) (t u : TDA) : TD := fun s P X => t s (fun xs s1 => u s1 (fun ys s2 => xs.length = n ∧ ys.length = m ∧ callM spd (pick p (xs ++ ys)) s2 P X) X) X
@[simp] theorem pick_nil {α : Type} (l : List α) : pick [] l = [] := rfl
@[simp] theorem pick_cons {α : Type} (i : Nat) (p : List Nat) (l : List α) : pick (i :: p) l = (match l[i]? with | some x => x :: pick p l | none => pick p l) := by
  unfold pick
  rw [List.filterMap_cons]
  cases l[i]? <;> rfl
theorem lE_callK {spd : SpD} {n m : Nat} {p : List Nat} {t u : TDA} : ∀ σ H Q, lE g W (dCallK spd n m p t u) σ H Q → tCallNS n m (lSp g spd) (fun us ws => pick p (us ++ ws)) (WE W) (lA g W t) (lA g W u) σ H Q := fun σ H Q ⟨w, s, P, PX, rs, h, k, x⟩ =>
  ⟨w, s, _, PX, rs, h, fun xs s1 H1 vs q e1 rs1 ra => ⟨w, s1, _, PX, rs1, q, fun ys s2 H2 us q2 e2 rs2 rb => by
    obtain ⟨l1, l2, q2⟩ := q2
    exact ⟨by rw [ra.len]; exact l1, by rw [rb.len]; exact l2, call_mv rs2 (((ra.ext e2).app rb).pick p) q2 ((k.ext e1).ext e2) ((x.ext e1).ext e2)⟩, x.ext e1⟩, x⟩
theorem de_callK {spd : SpD} {t u : TDA} {k n : Nat} {f : Addr} {fd : FuncData} {ps ks : List Str} {x : Str} {p : Pos} {es : List Expr} (pm : List Nat) (tk : Takes X W) (F : FnOk X.prog X.w X.K X.mg X.base (L2.CX X.prog X.w) k f fd ps (lSp g spd)) (hr : Room k X.A) (hg : Gl X x) (hm : X.mg x = some (.ref f)) (hk : PySem.W.keepIn X.K (.ref f) = true)
    (hb : ∀ us ws : List Value, us.length = n → ws.length = ks.length → bindArgs fd ⟨us, ks.zip ws⟩ = pure (ps.zip (pick pm (us ++ ws)))) (ha : PA X (e :: es) (lA g W t)) (hkw : PK X kws (lA g W u)) (hall : (backToKw pos (keywordEach kws X.env)).all (·.1.isSome) = true := by rfl) (hks : (backToKw pos (keywordEach kws X.env)).filterMap (·.1) = ks := by rfl)
    (hdb : (x == ("__debug__" : Str)) = false := by decide) (he : starEach (e :: es) X.env = (false, eval e X.env) :: starEach es X.env := by rfl)
    (hpl : ((backTo pos (starEach (e :: es) X.env)).any (·.1) || (backToKw pos (keywordEach kws X.env)).any (·.1.isNone)) = false := by rfl) :
    PE X (.Call (.Name x p) (e :: es) kws pos) (lE g W (dCallK spd n ks.length pm t u)) := pe_imp (pe_callNS F hr hg hm hk (kbn pm hb) (fun σ => passAt tk σ) ha hkw hall hks hdb he hpl) lE_callK
theorem de_callK0 {spd : SpD} {u : TDA} {k : Nat} {f : Addr} {fd : FuncData} {ps ks : List Str} {x : Str} {p : Pos} (pm : List Nat) (tk : Takes X W) (F : FnOk X.prog X.w X.K X.mg X.base (L2.CX X.prog X.w) k f fd ps (lSp g spd)) (hr : Room k X.A) (hg : Gl X x) (hm : X.mg x = some (.ref f)) (hk : PySem.W.keepIn X.K (.ref f) = true)
    (hb : ∀ us ws : List Value, us.length = 0 → ws.length = ks.length → bindArgs fd ⟨us, ks.zip ws⟩ = pure (ps.zip (pick pm (us ++ ws)))) (hkw : PK X kws (lA g W u)) (hall : (backToKw pos (keywordEach kws X.env)).all (·.1.isSome) = true := by rfl) (hks : (backToKw pos (keywordEach kws X.env)).filterMap (·.1) = ks := by rfl)
    (hdb : (x == ("__debug__" : Str)) = false := by decide)
    (hpl : ((backTo pos (starEach [] X.env)).any (·.1) || (backToKw pos (keywordEach kws X.env)).any (·.1.isNone)) = false := by rfl) :
    PE X (.Call (.Name x p) [] kws pos) (lE g W (dCallK spd 0 ks.length pm dNil u)) := pe_imp (pe_callNS0 F hr hg hm hk (kbn pm hb) (fun σ => passAt tk σ) hkw hall hks hdb hpl) fun σ H Q h => by
  obtain ⟨w, s, P, PX, rs, h, k, x⟩ := h
  refine ⟨w, s, _, PX, rs, h, fun ys s2 H2 us q2 e2 rs2 rb => ?_, x⟩
  obtain ⟨l1, l2, q2⟩ := q2
  exact ⟨rfl, by rw [rb.len]; exact l2, call_mv rs2 (rb.pick pm) q2 (k.ext e2) (x.ext e2)⟩
end
/-! ### xs[::-1] -/
theorem pick_back {α : Type} (l : List α) : ((List.range l.length).map fun k => l.length - 1 - k).filterMap (l[·]?) = l.reverse := by
  refine List.ext_getElem? fun i => ?_
  rw [List.filterMap_map]
  have h : ∀ n, n ≤ l.length → (List.range n).filterMap ((l[·]?) ∘ fun k => l.length - 1 - k) = l.reverse.take n := by
    intro n
    induction n with
    | zero => intro _; rfl
    | succ n ih =>
      intro hn
      rw [List.range_succ, List.filterMap_append, ih (by omega), List.take_add_one]
      congr 1
      have e : l.reverse[n]? = l[l.length - 1 - n]? := by rw [List.getElem?_reverse (by omega)]
      rw [e]
      rw [List.filterMap_cons, List.filterMap_nil]
      show (match l[l.length - 1 - n]? with | none => [] | some b => [b]) = _
      cases l[l.length - 1 - n]? <;> rfl
  rw [h _ (Nat.le_refl _), List.take_of_length_le (by simp)]
theorem slicePick_back (its : List Value) : slicePick its.toArray none none (some (-1)) = its.reverse.toArray := by
  have hb : sliceBounds none none (some (-1)) its.toArray.size = ((its.length : Int) - 1, -1, -1) := by simp [sliceBounds]
  unfold slicePick
  rw [hb]
  have hr : sliceRange ((its.length : Int) - 1) (-1) (-1) = (List.range its.length).map fun k => its.length - 1 - k := by
    unfold sliceRange
    simp only [show ¬ ((-1 : Int) > 0) by decide, if_false]
    by_cases h : its.length = 0
    · simp [h]
    · rw [if_pos (by omega)]
      have e : (((its.length : Int) - 1 - -1 - -1 - 1) / (- -1)).toNat = its.length := by
        rw [show (- -1 : Int) = 1 by decide, Int.ediv_one]
        omega
      rw [e]
      refine List.map_congr_left fun k hk => ?_
      have := List.mem_range.mp hk
      omega
  simp only [hr]
  have e : (fun x : Nat => its.toArray[x]?) = fun x => its[x]? := by funext x; simp
  rw [e, pick_back]
theorem fun_kb {K : PySem.W.Frag} {x qual : Str} {st : Stmt} {f : Addr} {fd : FuncData} {ps ks : List Str} {n : Nat} {pm : List Nat} (F : Fun K x qual st f fd)
    (h : ∀ (kV doc pm' : Value) (an : Option Addr) (cdv ct : Value) (us ws : List Value), us.length = n → ws.length = ks.length → bindArgs (PySem.W.fnOf x qual (defArgs st) (defBody st) (defScope st) .none kV doc pm' an cdv ct) ⟨us, ks.zip ws⟩ = pure (ps.zip (pick pm (us ++ ws)))) :
    ∀ us ws : List Value, us.length = n → ws.length = ks.length → bindArgs fd ⟨us, ks.zip ws⟩ = pure (ps.zip (pick pm (us ++ ws))) := by
  obtain ⟨oc, od, kV, doc, pm, an, cdv, ct, osl, rfl, lk, hcd⟩ := F.ex
  exact h kV doc pm an cdv ct
section
variable {X : Cx} {g : G} {W : WX} {pos p2 : Pos} {e st : Expr} {te : TE} {ts : TO} {ta : TD} {tl : TDO}
def tBack (K : PySem.W.Frag) (te : TE) (ts : TO) : TE := fun σ H Q => te σ H fun x H1 => ts σ H1 fun o H2 => o = some (-1) ∧ ∃ a xs, x = .ref a ∧ SqL K H2 a xs ∧ ∀ p, H2 p = none → Q (.ref p) (upd H2 p (.lst xs.reverse))
theorem pe_back (he : PE X e te) (hs : PO X (some st) ts) : PE X (.Subscript e (.Slice none none (some st) p2) pos) (tBack X.K te ts) := by
  refine ⟨fun pins s σ H Q I h => ?_⟩
  refine Subscript_ (thn (he.run pins s σ H _ I h) fun v s1 ⟨x, H1, I1, r1, q1⟩ => ?_)
  refine wpAny_Slice ?_
  rw [evalPart_none]
  refine wpAny_pure ?_
  refine wpAny_pure ?_
  refine thn (hs.run pins s1 σ H1 _ I1 q1) fun vs s3 ⟨o, H3, I3, ps, q3⟩ => ?_
  obtain ⟨eo, a, xs, ex, hx, q⟩ := q3
  subst eo ex
  cases r1
  have I4 : Inv X pins σ H3 { s3 with heap := s3.heap.push { cls := .type "slice", data := .fields #[.none, .none, vs] } } := I3.kept (t' := s3.toks) fun b ob q => Heap.get?_push_of_some _ q
  obtain ⟨its, r, ht, hz⟩ := I4.list hx
  have hlen := r.length
  show wpAny (model X.prog X.w) X.A (subscriptTail e (.Slice none none (some st) p2) (.ref a) (.ref s3.heap.objs.size)) (EP X pins σ Q) X.xe { s3 with heap := s3.heap.push { cls := .type "slice", data := .fields #[.none, .none, vs] } }
  refine tail_any (ops := [.ref a, .ref s3.heap.objs.size]) ht.isList.typeIs slot_list_getitem.lookup ?_ (by with_unfolding_all rfl)
  refine wpAny_getItem_list_slice ht.isList (Heap.IsSliceOf.new ..) .none .none ps (by decide) ?_ (by rw [List.size_toArray] <;> omega)
  rw [slicePick_back]
  refine ⟨.ref _, _, I4.laid (t' := s3.toks) (o := .lst xs.reverse) (fun b ob q => Heap.get?_push_of_some _ q) (Nat.le_refl _) ?_, rfl, q _ (I4.hok.fresh (Nat.le_refl _))⟩
  exact ⟨by rw [List.length_reverse]; exact hz, _, 0, r.reverse, Heap.get?_push_size _ rfl⟩
variable {w : Cs} {H : Hp} {σ : L2.St} {s : S} {i : Int} {j : Nat} {cp up : Pos}
@[simp] def dBackF (ta : TD) : TDF := fun s P X => ta s (fun x s1 => ∃ ds, x = .lst ds ∧ P ds.reverse s1) X
theorem Reps.rev {H : Hp} : ∀ {ds : List D} {vs : List V}, Reps g w H ds vs → Reps g w H ds.reverse vs.reverse
  | [], _, h => by simp only [Reps] at h; subst h; exact Reps.nil
  | d :: ds, _, h => by
    simp only [Reps] at h
    obtain ⟨v, r, e, q, z⟩ := h
    subst e
    rw [List.reverse_cons, List.reverse_cons]
    exact Reps.app (Reps.rev z) (Reps.cons q Reps.nil)
theorem df_back {jj : Nat} (ha : PE X e (lE g W ta)) : PE X (.Subscript e (.Slice none none (some (.UnaryOp .USub (.Constant (.int 1) jj cp) up)) p2) pos) (lF g W (dBackF ta)) := pe_imp (pe_back ha (po_some (pe_un un_neg pe_int))) fun σ H Q ⟨w, s, P, PX, rs, h, k, x⟩ =>
  ⟨w, s, _, PX, rs, h, fun d s1 H1 v q e1 rs1 rp => by
    obtain ⟨ds, e, q4⟩ := q
    subst e
    simp only [Rep] at rp
    obtain ⟨a, vs, e, n, ha, rv⟩ := rp
    refine ⟨1, rfl, -1, rfl, rfl, a, vs, e, SqL.of ha, fun p hp => ?_⟩
    have nb := rs1.mem.fresh hp
    exact k _ s1 _ p _ q4 (e1.trans (.of_same (same_upd hp))) (fresh0 e1 nb hp) nb (rs1.out hp) upd_same (rv.rev.mv (mv_out (.of_same (same_upd hp)) hp)), x⟩
end
end DL

/-! Fields: what the laws' common helpers promise; loops by what is left, draws in comprehensions. -/
namespace DL
open PySem L2
theorem map_erase {α β : Type} (f : α → β) : ∀ (l : List α) (k : Nat), (l.map f).eraseIdx k = (l.eraseIdx k).map f
  | [], _ => rfl
  | _ :: _, 0 => rfl
  | x :: l, k + 1 => by simp [map_erase f l k]
/-! ### loops by what is left -/
theorem loop_rec {gt : TGd} {tb : TSd} {E : EK} {PX : KX} {α : Type} (enc : α → D) (J : List α → S → Prop)
    (step : ∀ x xs s (K : S → Prop), J (x :: xs) s → (∀ s', J xs s' → K s') → gt (enc x) s fun s1 => tb s1 { nx := K, ct := K, bk := E.nx, rt := E.rt } PX)
    (fin : ∀ s, J [] s → E.nx s) : ∀ (xs : List α) {ds : List D} (s : S), ds = xs.map enc → J xs s → loopD gt tb E PX ds s
  | [], _, s, e, h => by subst e; exact fin s h
  | x :: xs, _, s, e, h => by
    subst e
    rw [List.map_cons]
    unfold loopD
    exact step x xs s _ h fun s' h' => loop_rec enc J step fin xs s' rfl h'
/-! ### draws in comprehensions -/
theorem lc_draws {gt : TGd} {tt : TDB} {te : TD} {vs : List Nat} {P : List D → S → Prop} {r : List Sl} (Ms : Int → Int → Mem) (Pv : Int → Prop) (ds : List D) (hl : ds.length ≤ 1000000) {a b : Int} (hg : Good a b)
    (step : ∀ a b, Good a b → ∀ d ∈ ds, ∀ (K : Option D → Mem → Prop), (∀ v a' b', Pv v → Good a' b' → K (some (.int v)) (Ms a' b')) → gt d ⟨wipeS r vs, Ms a b⟩ fun s2 => tt s2 (fun bb s3 => if bb = true then te s3 (fun z s4 => K (some z) s4.M) noX else K none s3.M) noX)
    (fin : ∀ (L : List Int) a b, L.length = ds.length → (∀ v ∈ L, Pv v) → Good a b → P (L.map D.int) ⟨r, Ms a b⟩) : lcD gt tt te vs P ds [] ⟨r, Ms a b⟩ := by
  refine lc_inv ds (fun i acc M => ∃ (L : List Int) (a b : Int), acc = L.map D.int ∧ L.length = i ∧ (∀ v ∈ L, Pv v) ∧ Good a b ∧ M = Ms a b) ?_ ?_ [] _ (by simpa using le_sl hl) ⟨[], a, b, rfl, rfl, (fun _ h => nomatch h), hg, rfl⟩
  · rintro i d acc M K hd ⟨L, a, b, rfl, hL, hv, hg, rfl⟩ hK _
    have hi : i < ds.length := (List.getElem?_eq_some_iff.mp hd).1
    refine step a b hg d (List.mem_of_getElem? hd) K fun v a' b' pv hg' => hK _ _ ⟨L ++ [v], a', b', by simp, by simp [hL], fun u hu => ?_, hg', rfl⟩ (by rw [List.length_map, hL]; exact lt_sl (by omega))
    rcases List.mem_append.mp hu with hu | hu
    · exact hv u hu
    · rw [List.mem_singleton.mp hu]; exact pv
  · rintro acc M ⟨L, a, b, rfl, hL, hv, hg, rfl⟩
    exact fin L a b hL hv hg
theorem lc_keeps {gt : TGd} {tt : TDB} {te : TD} {vs : List Nat} {P : List D → S → Prop} {r : List Sl} (Ms : Int → Int → Mem) (xs : List Int) {ds : List D} (hds : ds = xs.map D.int) (hl : xs.length ≤ 1000000) {a b : Int} (hg : Good a b)
    (step : ∀ a b, Good a b → ∀ x ∈ xs, ∀ (K : Option D → Mem → Prop), (∀ a' b', Good a' b' → K (some (.int x)) (Ms a' b')) → (∀ a' b', Good a' b' → K none (Ms a' b')) → gt (.int x) ⟨wipeS r vs, Ms a b⟩ fun s2 => tt s2 (fun bb s3 => if bb = true then te s3 (fun z s4 => K (some z) s4.M) noX else K none s3.M) noX)
    (fin : ∀ (L : List Int) a b, L.Sublist xs → Good a b → P (L.map D.int) ⟨r, Ms a b⟩) : lcD gt tt te vs P ds [] ⟨r, Ms a b⟩ := by
  subst hds
  refine lc_inv _ (fun i acc M => ∃ (L : List Int) (a b : Int), acc = L.map D.int ∧ L.Sublist (xs.take i) ∧ Good a b ∧ M = Ms a b) ?_ ?_ [] _ (by simpa using le_sl hl) ⟨[], a, b, rfl, by simp, hg, rfl⟩
  · rintro i d acc M K hd ⟨L, a, b, rfl, hL, hg, rfl⟩ hK hN
    rw [List.getElem?_map] at hd
    obtain ⟨x, hx, rfl⟩ := Option.map_eq_some_iff.mp hd
    have hi : i < xs.length := (List.getElem?_eq_some_iff.mp hx).1
    have et : xs.take (i + 1) = xs.take i ++ [x] := by rw [List.take_add_one, hx]; rfl
    refine step a b hg x (List.mem_of_getElem? hx) K (fun a' b' hg' => hK _ _ ⟨L ++ [x], a', b', by simp, by rw [et]; exact hL.append (List.Sublist.refl _), hg', rfl⟩ ?_) fun a' b' hg' => hN _ ⟨L, a', b', rfl, by rw [et]; exact hL.trans (List.sublist_append_left _ _), hg', rfl⟩
    have := hL.length_le
    rw [List.length_take] at this
    rw [List.length_map]
    exact lt_sl (by omega)
  · rintro acc M ⟨L, a, b, rfl, hL, hg, rfl⟩
    rw [List.length_map, List.take_length] at hL
    exact fin L a b hL hg
theorem OkN.str (k : Nat) {i : Str} (h : PyData.strOk i = true) : OkN k (.str i) := ⟨by simpa [toPy, PyData.canLay0] using h, by simp [toPy, PyData.depth]⟩
@[simp] theorem ex_par {α β : Type} {a : α} {b : β} {Q : α → β → Prop} : (∃ x y, (a = x ∧ b = y) ∧ Q x y) ↔ Q a b := ⟨fun ⟨_, _, ⟨e1, e2⟩, q⟩ => by rw [e1, e2]; exact q, fun q => ⟨_, _, ⟨rfl, rfl⟩, q⟩⟩
@[simp] theorem ex_par3 {α : Type} {a b c : α} {Q : α → α → α → Prop} : (∃ x y z, (a = x ∧ b = y ∧ c = z) ∧ Q x y z) ↔ Q a b c := ⟨fun ⟨_, _, _, ⟨e1, e2, e3⟩, q⟩ => by rw [e1, e2, e3]; exact q, fun q => ⟨_, _, _, ⟨rfl, rfl, rfl⟩, q⟩⟩
@[simp] theorem okD_intsL (xs : List Int) : okD (.lst (xs.map D.int)) = true := (OkN.lst (OkN.ofInts 0 xs)).ok
/-! ### answers, fields -/
inductive Ans | err (s : Str) (x : Int) | bl (b : Bool) | seq (L : List Int) | num (i : Int) | non
@[simp] def Ans.ok : Ans → Prop
  | .err s _ => PyData.strOk s = true
  | .seq L => L.length ≤ 1000000
  | _ => True
def ansD : Ans → D
  | .err s x => .lst [.str s, .int x]
  | .bl b => .lst [.bl b]
  | .seq L => .lst [tupI L]
  | .num i => .lst [.int i]
  | .non => .lst [.non]
theorem okN_ans {r : Ans} (h : r.ok) : OkN 2 (ansD r) := by
  cases r <;> refine .lst fun d hd => ?_ <;> simp at hd
  · rcases hd with rfl | rfl
    · exact .str _ h
    · exact .int _ _
  · subst hd; exact .bl _ _
  · subst hd; exact .tup (.ofInts 0 _)
  · subst hd; exact .int _ _
  · subst hd; exact .non _
theorem okD_ans {r : Ans} (h : r.ok) : okD (ansD r) = true := (okN_ans h).ok
def fldD (ss gs : List Int) : D := .ins "Field" [("n", .int ss.length), ("strengths", tupI ss), ("guards", tupI gs)]
def outI (s : Int) : Bool := !(decide (-1000000000 ≤ s) && decide (s ≤ 1000000000))
def firstOutK : Nat → List Int → Option Nat
  | _, [] => none
  | k, s :: l => if outI s = true then some k else firstOutK (k + 1) l
def firstOut (l : List Int) : Option Nat := firstOutK 0 l
def badF (ss gs : List Int) : Option (Str × Int) :=
  if ss.length < 1 ∨ 32 < ss.length then some ("BadSize", ss.length) else match firstOut ss with
  | some i => some ("BadStrength", (i : Int))
  | none => if gs.length ≠ ss.length then some ("Unlike", gs.length) else match firstOut gs with
    | some i => some ("BadGuard", (i : Int))
    | none => none
def rangeI (n : Nat) : List Int := (List.range n).map fun (i : Nat) => (i : Int)
theorem rangeI_len (n : Nat) : (rangeI n).length = n := by simp [rangeI]
theorem rangeD_I (n : Nat) : rangeD 0 n = (rangeI n).map D.int := by rw [rangeD_nat, rangeI, List.map_map]; rfl
theorem rangeI_mem {n : Nat} {x : Int} : x ∈ rangeI n ↔ 0 ≤ x ∧ x < n := by
  unfold rangeI
  rw [List.mem_map]
  constructor
  · rintro ⟨i, hi, rfl⟩
    have := List.mem_range.mp hi
    omega
  · rintro ⟨h0, h1⟩
    exact ⟨x.toNat, List.mem_range.mpr (by omega), by omega⟩
/-! ### what they promise -/
def spShuf : SpD := fun xs M P _ => ∃ (n a b : Int), xs = [.cell 0, .dat (.int n)] ∧ M = [src a b] ∧ Good a b ∧ 0 ≤ n ∧ n ≤ 1000 ∧ ∀ (L : List Int) a' b', L.Perm (rangeI n.toNat) → Good a' b' → P (.lst (L.map .int)) [src a' b']
def spNum : SpD := fun xs M P _ => ∃ d, xs = [.dat d] ∧ M = [] ∧ (isT "int" d).isSome = true ∧ P (.bl (match d with | .int _ => true | _ => false)) []
def spAlike : SpD := fun xs M P _ => ∃ r : Ans, r.ok ∧ xs = [.dat (ansD r), .dat (ansD r)] ∧ M = [] ∧ P (.bl true) []
def spFar : SpD := fun xs M P _ => ∃ (n a b : Int), xs = [.cell 0, .dat (.int n)] ∧ M = [src a b] ∧ Good a b ∧ 0 ≤ n ∧ n ≤ 1000 ∧ ∀ x a' b', (x < 0 ∨ n ≤ x) → Good a' b' → P (.int x) [src a' b']
def spFieldL : SpD := fun xs M P _ => ∃ (n a b : Int), xs = [.cell 0, .dat (.int n)] ∧ M = [src a b] ∧ Good a b ∧ 1 ≤ n ∧ n ≤ 1000 ∧
  ∀ (ss gs : List Int) a' b', (ss.length : Int) = n → (gs.length : Int) = n → (∀ v ∈ ss, 0 ≤ v ∧ v ≤ n + 2) → (∀ v ∈ gs, 0 ≤ v ∧ v ≤ n + 2) → Good a' b' → P (.tup [.lst (ss.map .int), .lst (gs.map .int)]) [src a' b']
def spMade : SpD := fun xs M P PX => ∃ ss gs, xs = [.dat (tupI ss), .dat (tupI gs)] ∧ M = [] ∧ match badF ss gs with
  | some (c, x) => PX c (.int x) []
  | none => P (fldD ss gs) []
/-- the first number that is no side or not above the one before it -/
def sideBad (n : Int) : Int → List Int → Option Int
  | _, [] => none
  | last, x :: xs => if last < x ∧ x < n then sideBad n x xs else some x
def spSideRow : SpD := fun xs M P PX => ∃ (n : Int) (d : D) (L : List Int), xs = [.dat (.int n), .dat d] ∧ seqD d = some (L.map .int) ∧ M = [] ∧ match sideBad n (-1) L with
  | some x => PX "BadSide" (.int x) []
  | none => P .non []
def tdShuf : TSd :=
  dSeq (dPar 2 3 (dConsF (dLc (dRange1 (dCons (dVar 1) (dNil))) (dgName 4) (dYes) (dVar 4) [4]) (dConsF (dLst (dNil)) (dNil))))
  (dSeq (dFor (dRange1 (dCons (dVar 1) (dNil))) (dgName 5) (dDrop (dMeth1 3 fAppend (dMeth1 2 fPopAt (dCall spTake (dConsC 0 (dCons (dCB rLenD (dConsC 2 (dNil))) (dNil))))))))
  (dFreeze 3 (dRet (dVar 3))))
def tdNum : TSd :=
  dRet (dAndV (dIsT "int" (dVar 0)) (dNotV (dIsT "bool" (dVar 0))))
def tdAlike : TSd :=
  dSeq (dIfS (dT (dOp rNeD' (dVar 0) (dVar 1))) (dRet (dC (.bl false))) (dNext))
  (dSeq (dIfS (dT (dOp rEqD' (dCB rLenD (dCons (dVar 1) (dNil))) (dC (.int 2)))) (dRet (dC (.bl true))) (dNext))
  (dSeq (dPar 2 3 (dCons (dOp rIxD (dVar 0) (dC (.int 0))) (dCons (dOp rIxD (dVar 1) (dC (.int 0))) (dNil))))
  (dSeq (dIfS (dOr (dTru (dIsT "bool" (dVar 3))) (dTru (dIsT "bool" (dVar 2)))) (dRet (dAndV (dIsT "bool" (dVar 3)) (dIsT "bool" (dVar 2)))) (dNext))
  (dSeq (dIfS (dTru (dIsT "tuple" (dVar 3))) (dRet (dAndV (dIsT "tuple" (dVar 2)) (dOp rEqD' (dF (dLc (dIter (dVar 2)) (dgName 4) (dNot (dTru (dCall spNum (dCons (dVar 4) (dNil))))) (dVar 4) [4])) (dF (dLst (dNil)))))) (dNext))
  (dRet (dOrV (dOp rIsN (dVar 3) (dC .non)) (dCall spNum (dCons (dVar 2) (dNil)))))))))
def tdFar : TSd :=
  dRet (dCall spOne (dConsC 0 (dCons (dF (dLst (dCons (dVar 1) (dCons (dUn rNegD (dC (.int 1))) (dCons (dOp rAddD (dOp rAddD (dVar 1) (dC (.int 1))) (dCall spTake (dConsC 0 (dCons (dC (.int 90)) (dNil))))) (dCons (dOp rSubD (dUn rNegD (dC (.int 2))) (dCall spTake (dConsC 0 (dCons (dC (.int 90)) (dNil))))) (dCons (dOp rPowD (dC (.int 10)) (dC (.int 20))) (dCons (dUn rNegD (dOp rPowD (dC (.int 10)) (dC (.int 20)))) (dNil))))))))) (dNil))))
def tdFieldL : TSd :=
  dSeq (dAsg (dTup (dCons (dCall spTake (dConsC 0 (dCons (dC (.int 3)) (dNil)))) (dCons (dOp rAddD (dC (.int 1)) (dCall spTake (dConsC 0 (dCons (dOp rAddD (dVar 1) (dC (.int 2))) (dNil))))) (dCons (dCall spShuf (dConsC 0 (dCons (dVar 1) (dNil)))) (dNil))))) (dgTup 3 (dgsCons (dgName 2) (dgsCons (dgName 3) (dgsCons (dgName 4) (dgsNil))))))
  (dSeq (dSet 5 (dF (dLc (dRange1 (dCons (dVar 1) (dNil))) (dgName 6) (dYes) (dCall spTake (dConsC 0 (dCons (dVar 3) (dNil)))) [6])))
  (dSeq (dSet 7 (dF (dLc (dRange1 (dCons (dVar 1) (dNil))) (dgName 6) (dYes) (dCall spTake (dConsC 0 (dCons (dVar 3) (dNil)))) [6])))
  (dSeq (dIfS (dT (dOp rEqD' (dVar 2) (dC (.int 0)))) (dRet (dTup (dCons (dVar 4) (dCons (dVar 4) (dNil))))) (dNext))
  (dSeq (dIfS (dT (dOp rEqD' (dVar 2) (dC (.int 1)))) (dRet (dTup (dCons (dVar 5) (dCons (dVar 5) (dNil))))) (dNext))
  (dRet (dTup (dCons (dVar 5) (dCons (dVar 7) (dNil)))))))))
def tdMade : TSd :=
  dSeq (dIfS (dNot (dT (dChain rLeD rLeD (dC (.int 1)) (dCB rLenD (dCons (dVar 0) (dNil))) (dC (.int 32))))) (dRaise "BadSize" (dCB rLenD (dCons (dVar 0) (dNil)))) (dNext))
  (dSeq (dFor (dEnum (dCons (dVar 0) (dNil))) (dgTup 2 (dgsCons (dgName 2) (dgsCons (dgName 3) (dgsNil)))) (dIfS (dNot (dT (dChain rLeD rLeD (dUn rNegD (dC (.int 1000000000))) (dVar 3) (dC (.int 1000000000))))) (dRaise "BadStrength" (dVar 2)) (dNext)))
  (dSeq (dIfS (dT (dOp rNeD' (dCB rLenD (dCons (dVar 1) (dNil))) (dCB rLenD (dCons (dVar 0) (dNil))))) (dRaise "Unlike" (dCB rLenD (dCons (dVar 1) (dNil)))) (dNext))
  (dSeq (dFor (dEnum (dCons (dVar 1) (dNil))) (dgTup 2 (dgsCons (dgName 2) (dgsCons (dgName 4) (dgsNil)))) (dIfS (dNot (dT (dChain rLeD rLeD (dUn rNegD (dC (.int 1000000000))) (dVar 4) (dC (.int 1000000000))))) (dRaise "BadGuard" (dVar 2)) (dNext)))
  (dRet (dMkF "Field" (dCons (dVar 0) (dCons (dVar 1) (dNil))))))))
def tdSideRow : TSd :=
  dSeq (dSet 2 (dUn rNegD (dC (.int 1))))
  (dFor (dIter (dVar 1)) (dgName 3) (dSeq (dIfS (dNot (dT (dChain rLtD rLtD (dVar 2) (dVar 3) (dVar 0)))) (dRaise "BadSide" (dVar 3)) (dNext))
  (dSet 2 (dVar 3))))
abbrev N_shuf : List Str := ["_law_source", "_law_count", "_law_left", "_law_found", "_law_x", "_law_turn"]
abbrev N_num : List Str := ["_law_thing"]
abbrev N_far : List Str := ["_law_source", "_law_n"]
abbrev N_fieldL : List Str := ["_law_source", "_law_n", "_law_kind", "_law_top", "_law_names", "_law_low", "_law_x", "_law_high"]
abbrev N_made : List Str := ["strengths", "guards", "index", "strength", "guard"]
abbrev N_sideRow : List Str := ["n", "sides", "last", "x"]
theorem len_shuf : ∀ xs M P PX, spShuf xs M P PX → xs.length = 2 := fun _ _ _ _ ⟨_, _, _, e, _⟩ => by rw [e]; rfl
theorem len_num : ∀ xs M P PX, spNum xs M P PX → xs.length = 1 := fun _ _ _ _ ⟨_, e, _⟩ => by rw [e]; rfl
theorem len_alike : ∀ xs M P PX, spAlike xs M P PX → xs.length = 2 := fun _ _ _ _ ⟨_, _, e, _⟩ => by rw [e]; rfl
theorem len_far : ∀ xs M P PX, spFar xs M P PX → xs.length = 2 := fun _ _ _ _ ⟨_, _, _, e, _⟩ => by rw [e]; rfl
theorem len_fieldL : ∀ xs M P PX, spFieldL xs M P PX → xs.length = 2 := fun _ _ _ _ ⟨_, _, _, e, _⟩ => by rw [e]; rfl
theorem len_made : ∀ xs M P PX, spMade xs M P PX → xs.length = 2 := fun _ _ _ _ ⟨_, _, e, _⟩ => by rw [e]; rfl
theorem len_sideRow : ∀ xs M P PX, spSideRow xs M P PX → xs.length = 2 := fun _ _ _ _ ⟨_, _, _, e, _⟩ => by rw [e]; rfl
theorem mShuf : ∀ xs M P PX, spShuf xs M P PX → tdShuf (startS N_shuf xs M) (endE M.length P) (endX M.length PX) := by
  rintro xs M P PX ⟨n, a, b, rfl, rfl, hg, n0, n1, hp⟩
  unfold tdShuf
  refine dSeq_k fun K hK => ?_
  simp
  refine ⟨by constructor <;> omega, ?_⟩
  refine lc_each D.int D.int (rangeI n.toNat) (rangeD_I _) (by rw [rangeI_len]; exact le_sl (by omega)) (fun x _ K hK => by simpa using hK) ?_
  simp
  refine hK _ ?_
  clear hK K
  refine dSeq_mid (fun s => ∃ (L : List Int) (a b : Int) (x4 x5 : Sl), L.Perm (rangeI n.toNat) ∧ Good a b ∧ s = ⟨[.cell 0, .dat (.int n), .cell 1, .cell 2, x4, x5], [src a b, some (.lst []), some (.lst (L.map .int))]⟩) (fun K hK => ?_) ?_
  · simp
    refine ⟨by constructor <;> omega, ?_⟩
    refine loop_inv _ (fun i s => ∃ (F L : List Int) (a b : Int) (x4 x5 : Sl), (F ++ L).Perm (rangeI n.toNat) ∧ (L.length : Int) = n - i ∧ Good a b ∧ s = ⟨[.cell 0, .dat (.int n), .cell 1, .cell 2, x4, x5], [src a b, some (.lst (L.map .int)), some (.lst (F.map .int))]⟩) ?_ ?_ _ ⟨[], rangeI n.toNat, a, b, _, _, by simp, by simp [rangeI]; omega, hg, rfl⟩
    · rintro i d s K hd ⟨F, L, a, b, x4, x5, hp', hL, hg, rfl⟩ hK
      obtain ⟨hi, rfl⟩ := rangeD_get hd
      simp
      refine useTake rfl hg (by omega) (by omega) fun k a b k0 k1 hg => ⟨_, rfl, ?_⟩
      simp
      have hk : k.toNat < L.length := by omega
      refine ⟨k.toNat, by omega, by omega, .int L[k.toNat], by simp [hk], ?_⟩
      have hF : F.length < 1000000 := by
        have := hp'.length_eq
        rw [List.length_append, rangeI_len] at this
        omega
      refine ⟨lt_sl (by omega), ?_⟩
      have e1 : (L.map D.int).eraseIdx k.toNat = (L.eraseIdx k.toNat).map D.int := map_erase _ _ _
      have e2 : F.map D.int ++ [D.int L[k.toNat]] = (F ++ [L[k.toNat]]).map D.int := by simp
      have e3 : (F ++ [L[k.toNat]] ++ L.eraseIdx k.toNat).Perm (rangeI n.toNat) := by
        refine List.Perm.trans ?_ hp'
        rw [List.append_assoc]
        exact List.Perm.append_left F (erase_perm L k.toNat _ (List.getElem?_eq_getElem hk))
      have e4 : ((L.eraseIdx k.toNat).length : Int) = n - ((i + 1 : Nat) : Int) := by
        rw [List.length_eraseIdx_of_lt hk]; omega
      rw [e1, e2]
      exact hK _ ⟨_, _, a, b, _, _, e3, e4, hg, rfl⟩
    · rintro s ⟨F, L, a, b, x4, x5, hp', hL, hg, rfl⟩
      rw [length_rangeD] at hL
      have e : L = [] := List.length_eq_zero_iff.mp (by omega)
      subst e
      exact hK _ ⟨F, a, b, x4, x5, by simpa using hp', hg, rfl⟩
  rintro s ⟨L, a, b, x4, x5, hL, hg, rfl⟩
  simp
  exact hp _ _ _ hL hg
theorem mNum : ∀ xs M P PX, spNum xs M P PX → tdNum (startS N_num xs M) (endE M.length P) (endX M.length PX) := by
  rintro xs M P PX ⟨d, rfl, rfl, hd, hp⟩
  cases d <;> simp [tdNum] at hd hp ⊢ <;> exact hp
theorem mAlike (N : List Str) (hN : N.length = 5) : ∀ xs M P PX, spAlike xs M P PX → tdAlike (startS N xs M) (endE M.length P) (endX M.length PX) := by
  rintro xs M P PX ⟨r, hr, rfl, rfl, hp⟩
  unfold tdAlike
  refine dSeq_k fun K hK => ?_
  simp [okD_ans hr, eqD_refl _ (okD_ans hr), hN]
  refine hK _ ?_
  clear hK K
  have e2 : List.replicate 3 Sl.no = [Sl.no, Sl.no, Sl.no] := rfl
  cases r with
  | err s x => simp [ansD]; exact hp
  | bl b => simp [ansD]; exact hp
  | num i => simp [ansD, spNum]; exact hp
  | non => simp [ansD]; exact hp
  | seq L =>
    simp [ansD]
    refine lc_some D.int (fun _ => none) L rfl (le_sl hr) (fun x _ K hK => ?_) ?_
    · simp [spNum]
      exact hK
    · have e : L.filterMap (fun _ => (none : Option D)) = [] := by induction L <;> simp_all
      rw [e]
      have e3 := eqD_refl _ (okD_intsL [])
      have e4 := okD_intsL []
      simp at e3 e4
      simp [e3, e4]
      exact hp
theorem mFar : ∀ xs M P PX, spFar xs M P PX → tdFar (startS N_far xs M) (endE M.length P) (endX M.length PX) := by
  rintro xs M P PX ⟨n, a, b, rfl, rfl, hg, n0, n1, hp⟩
  simp [tdFar]
  refine useTake rfl hg (by decide) (by decide) fun k a b k0 k1 hg => ⟨_, rfl, ?_⟩
  refine useTake rfl hg (by decide) (by decide) fun j a b j0 j1 hg => ⟨_, rfl, ?_⟩
  simp
  refine ⟨by unfold CPow; decide, by decide, useOne rfl rfl hg (by simp) (by simp) fun d a b hd hg => ⟨_, rfl, ?_⟩⟩
  simp at hd
  rcases hd with rfl | rfl | rfl | rfl | rfl | rfl <;> refine hp _ _ _ ?_ hg <;> omega

theorem mSideRow : ∀ xs M P PX, spSideRow xs M P PX → tdSideRow (startS N_sideRow xs M) (endE M.length P) (endX M.length PX) := by
  rintro xs M P PX ⟨n, d, L, rfl, hd, rfl, hp⟩
  unfold tdSideRow
  refine dSeq_k fun K hK => ?_
  simp
  refine hK _ ?_
  clear hK K
  simp [-seqD, hd]
  refine loop_rec D.int (fun xs s => ∃ (last : Int) (x3 : Sl), s = ⟨[.dat (.int n), .dat d, .dat (.int last), x3], []⟩ ∧ (match sideBad n last xs with | some x => PX "BadSide" (.int x) [] | none => P .non [])) ?_ ?_ L _ rfl ⟨-1, _, rfl, hp⟩
  · rintro x xs s K ⟨last, x3, rfl, h⟩ hK
    unfold sideBad at h
    simp
    by_cases h1 : last < x
    · by_cases h2 : x < n
      · simp [h1, h2] at h ⊢
        exact hK _ ⟨_, _, rfl, h⟩
      · simp [h1, h2] at h ⊢
        exact h
    · simp [h1] at h ⊢
      exact h
  · rintro s ⟨last, x3, rfl, h⟩
    simpa [sideBad] using h
theorem mMade : ∀ xs M P PX, spMade xs M P PX → tdMade (startS N_made xs M) (endE M.length P) (endX M.length PX) := by
  rintro xs M P PX ⟨ss, gs, rfl, rfl, hp⟩
  unfold tdMade
  refine dSeq_k fun K hK => ?_
  unfold badF at hp
  by_cases hs : ss.length < 1 ∨ 32 < ss.length
  · rw [if_pos hs] at hp
    simp
    split
    · rename_i h1
      have h2 : ¬ (ss.length : Int) ≤ 32 := by omega
      simp [h2]
      exact hp
    · exact hp
  · rw [if_neg hs] at hp
    have h1 : (1 : Int) ≤ ss.length := by omega
    have h2 : (ss.length : Int) ≤ 32 := by omega
    simp [h1, h2]
    refine hK _ ?_
    clear hK K
    refine dSeq_mid (fun s => ∃ (x2 x3 : Sl), s = ⟨[.dat (tupI ss), .dat (tupI gs), x2, x3, .no], []⟩ ∧ firstOut ss = none) (fun K hK => ?_) ?_
    · simp
      rw [enumD_ints]
      refine loop_rec (fun p : Int × Nat => D.tup [.int (p.2 : Nat), .int p.1]) (fun xs s => ∃ (l : List Int) (k : Nat) (x2 x3 : Sl), s = ⟨[.dat (tupI ss), .dat (tupI gs), x2, x3, .no], []⟩ ∧ xs = l.zipIdx k ∧ firstOutK k l = firstOut ss) ?_ ?_ (ss.zipIdx) _ rfl ⟨ss, 0, _, _, rfl, rfl, rfl⟩
      · rintro x xs s K ⟨l, k, x2, x3, rfl, hx, hf⟩ hK
        cases l with
        | nil => simp at hx
        | cons v l =>
          rw [List.zipIdx_cons] at hx
          cases hx
          unfold firstOutK outI at hf
          simp
          by_cases c1 : (-1000000000 : Int) ≤ v
          · by_cases c2 : v ≤ 1000000000
            · simp [c1, c2] at hf ⊢
              exact hK _ ⟨l, k + 1, _, _, rfl, rfl, hf⟩
            · simp [c1, c2] at hf ⊢
              rw [← hf] at hp
              exact hp
          · simp [c1] at hf ⊢
            rw [← hf] at hp
            exact hp
      · rintro s ⟨l, k, x2, x3, rfl, hx, hf⟩
        cases l with
        | nil => exact hK _ ⟨_, _, rfl, hf.symm⟩
        | cons v l => rw [List.zipIdx_cons] at hx; cases hx
    rintro s ⟨x2, x3, rfl, hf⟩
    rw [hf] at hp
    refine dSeq_k fun K hK => ?_
    by_cases hl : gs.length = ss.length
    · rw [if_neg (by simpa using hl)] at hp
      simp [hl]
      refine hK _ ?_
      clear hK K
      refine dSeq_mid (fun s => ∃ (x2 x3 x4 : Sl), s = ⟨[.dat (tupI ss), .dat (tupI gs), x2, x3, x4], []⟩ ∧ firstOut gs = none) (fun K hK => ?_) ?_
      · simp
        rw [enumD_ints]
        refine loop_rec (fun p : Int × Nat => D.tup [.int (p.2 : Nat), .int p.1]) (fun xs s => ∃ (l : List Int) (k : Nat) (x2 x4 : Sl), s = ⟨[.dat (tupI ss), .dat (tupI gs), x2, x3, x4], []⟩ ∧ xs = l.zipIdx k ∧ firstOutK k l = firstOut gs) ?_ ?_ (gs.zipIdx) _ rfl ⟨gs, 0, _, _, rfl, rfl, rfl⟩
        · rintro x xs s K ⟨l, k, x2, x4, rfl, hx, hf⟩ hK
          cases l with
          | nil => simp at hx
          | cons v l =>
            rw [List.zipIdx_cons] at hx
            cases hx
            unfold firstOutK outI at hf
            simp
            by_cases c1 : (-1000000000 : Int) ≤ v
            · by_cases c2 : v ≤ 1000000000
              · simp [c1, c2] at hf ⊢
                exact hK _ ⟨l, k + 1, _, _, rfl, rfl, hf⟩
              · simp [c1, c2] at hf ⊢
                rw [← hf] at hp
                exact hp
            · simp [c1] at hf ⊢
              rw [← hf] at hp
              exact hp
        · rintro s ⟨l, k, x2, x4, rfl, hx, hf⟩
          cases l with
          | nil => exact hK _ ⟨_, _, _, rfl, hf.symm⟩
          | cons v l => rw [List.zipIdx_cons] at hx; cases hx
      rintro s ⟨x2, x3, x4, rfl, hf⟩
      rw [hf] at hp
      simp at hp ⊢
      exact hp
    · rw [if_pos (by simpa using hl)] at hp
      have hl' : ¬ (gs.length : Int) = ss.length := by omega
      simp [hl']
      exact hp
theorem mFieldL : ∀ xs M P PX, spFieldL xs M P PX → tdFieldL (startS N_fieldL xs M) (endE M.length P) (endX M.length PX) := by
  rintro xs M P PX ⟨n, a, b, rfl, rfl, hg, n0, n1, hp⟩
  unfold tdFieldL
  refine dSeq_mid (fun s => ∃ (k top : Int) (L : List Int) (a b : Int), 1 ≤ top ∧ top ≤ n + 2 ∧ L.Perm (rangeI n.toNat) ∧ Good a b ∧ s = ⟨[.cell 0, .dat (.int n), .dat (.int k), .dat (.int top), .dat (.lst (L.map .int)), .no, .no, .no], [src a b]⟩) (fun K hK => ?_) ?_
  · simp
    refine useTake rfl hg (by decide) (by decide) fun k a b k0 k1 hg => ⟨_, rfl, ?_⟩
    refine useTake rfl hg (by omega) (by omega) fun j a b j0 j1 hg => ⟨_, rfl, ?_⟩
    refine ⟨n, a, b, rfl, rfl, hg, by omega, n1, fun L a b hL hg => ⟨_, rfl, by decide, ?_⟩⟩
    exact hK _ ⟨k, 1 + j, L, a, b, by omega, by omega, hL, hg, rfl⟩
  rintro s ⟨k, top, L, a, b, t0, t1, hL, hg, rfl⟩
  refine dSeq_mid (fun s => ∃ (ss : List Int) (a b : Int), (ss.length : Int) = n ∧ (∀ v ∈ ss, 0 ≤ v ∧ v ≤ n + 2) ∧ Good a b ∧ s = ⟨[.cell 0, .dat (.int n), .dat (.int k), .dat (.int top), .dat (.lst (L.map .int)), .dat (.lst (ss.map .int)), .no, .no], [src a b]⟩) (fun K hK => ?_) ?_
  · simp
    refine ⟨by constructor <;> omega, ?_⟩
    refine lc_draws (fun a b => [src a b]) (fun v => 0 ≤ v ∧ v ≤ n + 2) _ (by rw [length_rangeD]; omega) hg (fun a b hg d _ K hK => ?_) (fun ss a b hl hv hg => hK _ ⟨ss, a, b, by rw [hl, length_rangeD]; omega, hv, hg, rfl⟩)
    simp
    exact useTake rfl hg (by omega) (by omega) fun j a b j0 j1 hg => ⟨_, rfl, hK _ _ _ ⟨j0, by omega⟩ hg⟩
  rintro s ⟨ss, a, b, hs, hsv, hg, rfl⟩
  refine dSeq_mid (fun s => ∃ (gs : List Int) (a b : Int), (gs.length : Int) = n ∧ (∀ v ∈ gs, 0 ≤ v ∧ v ≤ n + 2) ∧ Good a b ∧ s = ⟨[.cell 0, .dat (.int n), .dat (.int k), .dat (.int top), .dat (.lst (L.map .int)), .dat (.lst (ss.map .int)), .no, .dat (.lst (gs.map .int))], [src a b]⟩) (fun K hK => ?_) ?_
  · simp
    refine ⟨by constructor <;> omega, ?_⟩
    refine lc_draws (fun a b => [src a b]) (fun v => 0 ≤ v ∧ v ≤ n + 2) _ (by rw [length_rangeD]; omega) hg (fun a b hg d _ K hK => ?_) (fun ss a b hl hv hg => hK _ ⟨ss, a, b, by rw [hl, length_rangeD]; omega, hv, hg, rfl⟩)
    simp
    exact useTake rfl hg (by omega) (by omega) fun j a b j0 j1 hg => ⟨_, rfl, hK _ _ _ ⟨j0, by omega⟩ hg⟩
  rintro s ⟨gs, a, b, hs', hgv, hg, rfl⟩
  have hL1 : (L.length : Int) = n := by rw [hL.length_eq, rangeI_len]; omega
  have hL2 : ∀ v ∈ L, 0 ≤ v ∧ v ≤ n + 2 := fun v hv => by
    have := rangeI_mem.mp (hL.mem_iff.mp hv)
    omega
  have z2 : 2 ≤ sizeLine := by decide
  refine dSeq_k fun K hK => ?_
  by_cases h0 : k = 0
  · subst h0
    simp [z2]
    exact hp _ _ _ _ hL1 hL1 hL2 hL2 hg
  · simp [h0]
    refine hK _ ?_
    clear hK K
    refine dSeq_k fun K hK => ?_
    by_cases h1 : k = 1
    · subst h1
      simp [z2]
      exact hp _ _ _ _ hs hs hsv hsv hg
    · simp [h1]
      refine hK _ ?_
      simp [z2]
      exact hp _ _ _ _ hs hs' hsv hgv hg
end DL

/-! The law's own loop over cells; slices; stair rows. -/
namespace DL
open PySem L2
@[simp] theorem cutD_all (ds : List D) : cutD ds none none = ds := by simp [cutD, HT.sIx_none]
theorem cutD_to {ds : List D} {k : Int} (h : 0 ≤ k) : cutD ds none (some k) = ds.take k.toNat := by
  obtain ⟨j, rfl⟩ : ∃ j : Nat, k = j := ⟨k.toNat, by omega⟩
  unfold cutD
  rw [HT.sIx_none, HT.sIx_nat]
  simp
theorem cutD_from {ds : List D} {k : Int} (h : 0 ≤ k) : cutD ds (some k) none = ds.drop k.toNat := by
  obtain ⟨j, rfl⟩ : ∃ j : Nat, k = j := ⟨k.toNat, by omega⟩
  unfold cutD
  rw [HT.sIx_none, HT.sIx_nat]
  by_cases hk : j ≤ ds.length
  · rw [Nat.min_eq_left hk, List.take_of_length_le (by simp)]
    simp
  · rw [Nat.min_eq_right (by omega)]
    simp
    omega
def spRight : SpD := fun xs M P _ => ∃ a b, xs = [.cell 0] ∧ M = [src a b] ∧ Good a b ∧ ∀ a' b', Good a' b' → P (.bl true) [src a' b']
def spLaw : SpD := fun xs M P _ => ∃ ns : List Int, xs = [.dat (.fl (ns.map .int))] ∧ M = [] ∧ P (.bl true) []
theorem len_right : ∀ xs M P PX, spRight xs M P PX → xs.length = 1 := fun _ _ _ _ ⟨_, _, e, _⟩ => by rw [e]; rfl
theorem len_law1 : ∀ xs M P PX, spLaw xs M P PX → xs.length = 1 := fun _ _ _ _ ⟨_, e, _⟩ => by rw [e]; rfl
def tdLaw (c : Int) (sp : SpD) : TSd :=
  dSeq (dFor (dRange1 (dCons (dCB (r2I fun i j => if j > i then j else i) (dCons (dC (.int 1)) (dCons (dCB (r2I fun i j => if j < i then j else i) (dCons (dCB rLenD (dCons (dVar 0) (dNil))) (dCons (dC (.int c)) (dNil)))) (dNil)))) (dNil))) (dgName 1) (dIfS (dNot (dTru (dCallNew sp (dCallF spPool (dCons (dVar 0) (dCons (dVar 1) (dNil))))))) (dRet (dC (.bl false))) (dNext)))
  (dRet (dC (.bl true)))
theorem mLaw {c : Int} (h0 : 1 ≤ c) (h1 : c ≤ 1000) : ∀ xs M P PX, spLaw xs M P PX → tdLaw c spRight (startS ["_law_script", "_law_k"] xs M) (endE M.length P) (endX M.length PX) := by
  rintro xs M P PX ⟨ns, rfl, rfl, hp⟩
  unfold tdLaw
  refine dSeq_k fun K hK => ?_
  simp
  generalize hm : (if 1 < (if c < (ns.length : Int) then c else (ns.length : Int)) then (if c < (ns.length : Int) then c else (ns.length : Int)) else 1) = m
  have m0 : 0 ≤ m := by rw [← hm]; split <;> (try split) <;> omega
  have m1 : m ≤ 1000 := by rw [← hm]; split <;> (try split) <;> omega
  refine ⟨by constructor <;> omega, ?_⟩
  refine loop_inv _ (fun i s => ∃ x1, s = ⟨[.dat (.fl (ns.map .int)), x1], []⟩) ?_ ?_ _ ⟨_, rfl⟩
  · rintro i d s K2 hd ⟨x1, rfl⟩ hK2
    obtain ⟨hi, rfl⟩ := rangeD_get hd
    simp
    refine ⟨ns, i, rfl, by omega, by omega, fun a b hg => ?_⟩
    refine ⟨a, b, rfl, rfl, hg, fun a' b' hg' => ?_⟩
    simp
    exact hK2 _ ⟨_, rfl⟩
  · rintro s ⟨x1, rfl⟩
    refine hK _ ?_
    simp
    exact hp
theorem start_law1 {ns : List Int} {P : D → Mem → Prop} (_ : ns.length ≤ 63) (h : P (.bl true) []) : spLaw [.dat (.fl (ns.map .int))] [] P (fun _ _ _ => False) := ⟨ns, rfl, rfl, h⟩
/-! ### stair rows -/
def atG (gs : List Int) (x : Int) : Int := gs.getD x.toNat 0
theorem atG_at {gs : List Int} {x : Int} (h0 : 0 ≤ x) (h1 : x < gs.length) : atI (gs.map D.int) x = some (.int (atG gs x)) := by
  rw [atI_pos h0, List.getElem?_map, List.getElem?_eq_getElem (by omega)]
  unfold atG
  rw [List.getD_eq_getElem?_getD, List.getElem?_eq_getElem (by omega)]
  rfl
def keyP (gs : List Int) (x : Int) : Int × Int := (-(atG gs x), x)
def stairOf (gs : List Int) (L : List Int) : List Int := (sortP (L.map (keyP gs))).map (·.2)
theorem stairOf_len (gs L : List Int) : (stairOf gs L).length = L.length := by unfold stairOf; rw [List.length_map, (sortP_perm _).length_eq, List.length_map]
def Asc (n : Int) (L : List Int) : Prop := L.Pairwise (· < ·) ∧ ∀ x ∈ L, 0 ≤ x ∧ x < n
theorem sideBad_none {n : Int} : ∀ {L : List Int} {last : Int}, sideBad n last L = none → (∀ x ∈ L, last < x ∧ x < n) ∧ L.Pairwise (· < ·)
  | [], _, _ => ⟨(fun _ h => nomatch h), List.Pairwise.nil⟩
  | x :: L, last, h => by
    unfold sideBad at h
    split at h
    · rename_i c
      obtain ⟨h1, h2⟩ := sideBad_none h
      refine ⟨fun y hy => ?_, List.pairwise_cons.mpr ⟨fun y hy => (h1 y hy).1, h2⟩⟩
      rcases List.mem_cons.mp hy with e | hy
      · rw [e]; exact c
      · exact ⟨Int.lt_trans c.1 (h1 y hy).1, (h1 y hy).2⟩
    · cases h
theorem sideBad_asc {n : Int} {L : List Int} (h : sideBad n (-1) L = none) : Asc n L := ⟨(sideBad_none h).2, fun x hx => by have := (sideBad_none h).1 x hx; omega⟩
theorem asc_sideBad {n : Int} : ∀ {L : List Int} {last : Int}, (∀ x ∈ L, last < x ∧ x < n) → L.Pairwise (· < ·) → sideBad n last L = none
  | [], _, _, _ => rfl
  | x :: L, last, h, p => by
    unfold sideBad
    rw [if_pos (h x List.mem_cons_self)]
    have p := List.pairwise_cons.mp p
    exact asc_sideBad (fun y hy => ⟨p.1 y hy, (h y (List.mem_cons_of_mem _ hy)).2⟩) p.2
theorem Asc.ok {n : Int} {L : List Int} (h : Asc n L) : sideBad n (-1) L = none := asc_sideBad (fun x hx => by have := h.2 x hx; omega) h.1
def bestOf (gs : List Int) : Int → List Int → Int
  | b, [] => b
  | b, x :: r => if atG gs b < atG gs x then bestOf gs x r else bestOf gs b r
theorem bestOf_spec (gs : List Int) : ∀ (r : List Int) (b : Int), (b :: r).Pairwise (· ≤ ·) → bestOf gs b r ∈ b :: r ∧ ∀ y ∈ b :: r, LeP (keyP gs (bestOf gs b r)) (keyP gs y)
  | [], b, _ => by
    refine ⟨by simp [bestOf], fun y hy => ?_⟩
    simp at hy
    subst hy
    exact leP_iff.mpr (.inr ⟨rfl, Int.le_refl _⟩)
  | x :: r, b, h => by
    have h' := List.pairwise_cons.mp h
    unfold bestOf
    split
    · rename_i c
      obtain ⟨i1, i2⟩ := bestOf_spec gs r x h'.2
      refine ⟨List.mem_cons_of_mem _ i1, fun y hy => ?_⟩
      rcases List.mem_cons.mp hy with e | hy
      · subst e
        have := leP_iff.mp (i2 x List.mem_cons_self)
        simp only [keyP] at this
        exact leP_iff.mpr (.inl (by simp only [keyP]; omega))
      · exact i2 y hy
    · rename_i c
      have hb : (b :: r).Pairwise (· ≤ ·) := List.pairwise_cons.mpr ⟨fun y hy => h'.1 y (List.mem_cons_of_mem _ hy), (List.pairwise_cons.mp h'.2).2⟩
      obtain ⟨i1, i2⟩ := bestOf_spec gs r b hb
      refine ⟨?_, fun y hy => ?_⟩
      · rcases List.mem_cons.mp i1 with e | e
        · rw [e]; exact List.mem_cons_self
        · exact List.mem_cons_of_mem _ (List.mem_cons_of_mem _ e)
      · rcases List.mem_cons.mp hy with e | hy
        · subst e; exact i2 y List.mem_cons_self
        · rcases List.mem_cons.mp hy with e | hy
          · subst e
            have h1 := leP_iff.mp (i2 b List.mem_cons_self)
            have h2 := h'.1 y List.mem_cons_self
            simp only [keyP] at h1
            refine leP_iff.mpr ?_
            simp only [keyP]
            omega
          · exact i2 y (List.mem_cons_of_mem _ hy)
theorem stairOf_step {gs : List Int} {b : Int} {L : List Int} (nd : L.Nodup) (hb : b ∈ L) (hm : ∀ y ∈ L, LeP (keyP gs b) (keyP gs y)) : stairOf gs L = b :: stairOf gs (L.filter (· != b)) := by
  have p1 : L.Perm (b :: L.filter (· != b)) := by
    rw [← nd.erase_eq_filter]
    exact List.perm_cons_erase hb
  unfold stairOf
  have e : sortP (L.map (keyP gs)) = keyP gs b :: sortP ((L.filter (· != b)).map (keyP gs)) := by
    refine sorted_uniq leP_anti ?_ (sortP_sorted _) (List.pairwise_cons.mpr ⟨fun y hy => ?_, sortP_sorted _⟩)
    · refine (sortP_perm _).trans ((p1.map (keyP gs)).trans ?_)
      rw [List.map_cons]
      exact List.Perm.cons _ (sortP_perm _).symm
    · obtain ⟨z, hz, rfl⟩ := List.mem_map.mp ((sortP_perm _).mem_iff.mp hy)
      exact hm z (List.mem_filter.mp hz).1
  rw [e]
  rfl
end DL
namespace DL
theorem rangeI_asc (n : Nat) : (rangeI n).Pairwise (· < ·) := by
  unfold rangeI
  refine List.pairwise_map.mpr (List.pairwise_lt_range.imp fun h => ?_)
  omega
end DL
namespace DL
open PySem
@[simp] theorem fl_n (a b c : D) : List.lookup ("n" : Str) [("n", a), ("strengths", b), ("guards", c)] = some a := rfl
@[simp] theorem fl_s (a b c : D) : List.lookup ("strengths" : Str) [("n", a), ("strengths", b), ("guards", c)] = some b := rfl
@[simp] theorem fl_g (a b c : D) : List.lookup ("guards" : Str) [("n", a), ("strengths", b), ("guards", c)] = some c := rfl
end DL

/-! len(set(xs)), xs a tuple of ints. -/
namespace DL
open PySem L2 PySem.Spec PyProof.Rows
def dedupI : List Int → List Int
  | [] => []
  | x :: l => if x ∈ l then dedupI l else x :: dedupI l
theorem dedupI_mem : ∀ {l : List Int} {k : Int}, k ∈ dedupI l ↔ k ∈ l
  | [], _ => Iff.rfl
  | x :: l, k => by
    unfold dedupI
    split
    · rename_i h
      rw [dedupI_mem, List.mem_cons]
      constructor
      · exact .inr
      · rintro (e | e)
        · rw [e]; exact h
        · exact e
    · rw [List.mem_cons, List.mem_cons, dedupI_mem]
theorem dedupI_nodup : ∀ l : List Int, (dedupI l).Nodup
  | [] => List.Pairwise.nil
  | x :: l => by
    unfold dedupI
    split
    · exact dedupI_nodup l
    · rename_i h
      exact List.nodup_cons.mpr ⟨fun z => h (dedupI_mem.mp z), dedupI_nodup l⟩
theorem nodup_le {l : List Int} : ∀ {m : List Int}, l.Nodup → (∀ k ∈ l, k ∈ m) → l.length ≤ m.length := by
  induction l with
  | nil => intro m _ _; exact Nat.zero_le _
  | cons x l ih =>
    intro m nd h
    have nd := List.nodup_cons.mp nd
    have hx := h x List.mem_cons_self
    have := ih (m := m.erase x) nd.2 fun k hk => (List.mem_erase_of_ne (fun z => nd.1 (by rw [← z]; exact hk))).mpr (h k (List.mem_cons_of_mem _ hk))
    rw [List.length_erase_of_mem hx] at this
    have := List.length_pos_of_mem hx
    rw [List.length_cons]
    omega
theorem nodup_len {l m : List Int} (h1 : l.Nodup) (h2 : m.Nodup) (h : ∀ k, k ∈ l ↔ k ∈ m) : l.length = m.length := Nat.le_antisymm (nodup_le h1 fun k hk => (h k).mp hk) (nodup_le h2 fun k hk => (h k).mpr hk)
theorem dedupI_len {l : List Int} : (dedupI l).length = l.length ↔ l.Nodup := by
  induction l with
  | nil => simp [dedupI]
  | cons x l ih =>
    have hle := nodup_le (dedupI_nodup l) fun k hk => dedupI_mem.mp hk
    unfold dedupI
    split
    · rename_i h
      constructor
      · intro e
        rw [List.length_cons] at e
        omega
      · intro nd
        exact absurd h (List.nodup_cons.mp nd).1
    · rename_i h
      rw [List.length_cons, List.length_cons, Nat.add_right_cancel_iff, ih, List.nodup_cons]
      exact ⟨fun q => ⟨h, q⟩, fun q => q.2⟩
section
variable {X : Cx} {g : G} {W : WX} {pos pos' p p' : Pos} {e : Expr} {te : TE} {ta : TD} {w : Cs} {H H' : Hp} {σ : L2.St} {s : S}
def rSetI (K : PySem.W.Frag) : List V → Hp → VK → Prop := fun xs H Q => ∃ (p : Addr) (ns : List Int), xs = [.ref p] ∧ SqT K H p (ns.map V.int) ∧ ns.length + 1 < scanBound ∧
  ∀ (l : Addr) (S : Int → Bool), H l = none → Q (.ref l) (upd H l (.set S (dedupI ns).length))
theorem cr_setI (hc : X.calm = true) : CallR X (.type "set") (rSetI X.K) := by
  intro pins s σ H xs us Q I r h
  obtain ⟨l, ns, rfl, hl, hb, q⟩ := h
  rw [Vals.ref1 r]
  obtain ⟨its, rv, pl, hz⟩ := I.tuple hl
  have hn : H s.heap.objs.size = none := I.hok.fresh (Nat.le_refl _)
  refine call_set_tupI (P := X.prog) (w := X.w) ns (I.ok.hd hc) (show s.heap.IsTuple l its.toArray from pl) (by simpa using intsAre_of rv) hb fun h' tk c R _ k => ?_
  have ec : c = (dedupI ns).length := by
    obtain ⟨o, es, ep, t, ho, hx, hd, gg, nd, hm, hb, hf, hn, _⟩ := R
    rw [← hn, ← Array.length_toList, ← List.length_map (f := keyOf)]
    refine nodup_len nd (dedupI_nodup _) fun k => ?_
    rw [← hm k, dedupI_mem, decide_eq_true_iff]
  refine ⟨.ref s.heap.objs.size, upd H s.heap.objs.size (.set (fun j => decide (j ∈ ns)) c), I.laid (t' := tk) k (Nat.le_refl _) R.setOf, rfl, ?_⟩
  rw [ec]
  exact q _ _ hn
def rLenSet : List V → Hp → VK → Prop := fun xs H Q => ∃ (a : Addr) (S : Int → Bool) (n : Nat), xs = [.ref a] ∧ H a = some (.set S n) ∧ Q (.int n) H
theorem cr_lenSet : CallR X (.builtin "len") rLenSet := by
  intro pins s σ H xs us Q I r h
  obtain ⟨a, S, n, rfl, ha, q⟩ := h
  rw [Vals.ref1 r]
  obtain ⟨o, es, ep, t, ho, hx, hd, _, _, hb, hf, hn⟩ : s.heap.SetOf (intKind X.prog X.w) a S n := I.hok a _ ha
  refine call_len_set ho hx hd hf (by have : scanBound = 4096 := rfl; omega) ?_
  rw [hn]
  exact ⟨.int n, H, I.kept (t' := s.toks + 1 + 1) fun b ob e => e, ⟨_, rfl⟩, q⟩
@[simp] def dLenSet (ta : TD) : TD := fun s P X => ta s (fun d s1 => ∃ ns : List Int, d = .tup (ns.map .int) ∧ ns.length ≤ 1000 ∧ P (.int (dedupI ns).length) s1) X
theorem de_lenSet (hc : X.calm = true) (hg : Gl X "len") (hm : X.mg "len" = none) (hg2 : Gl X "set") (hm2 : X.mg "set" = none) (he : PE X e (lE g W ta)) (hs : starEach (e :: []) X.env = (false, eval e X.env) :: starEach [] X.env := by rfl) (hpl : (backTo pos' (starEach [] X.env)).any (·.1) = false := by rfl)
    (hs2 : starEach ((.Call (.Name "set" p') [e] [] pos') :: []) X.env = (false, eval (.Call (.Name "set" p') [e] [] pos') X.env) :: starEach [] X.env := by rfl) (hpl2 : (backTo pos (starEach [] X.env)).any (·.1) = false := by rfl) :
    PE X (.Call (.Name "len" p) [.Call (.Name "set" p') [e] [] pos'] [] pos) (lE g W (dLenSet ta)) :=
  pe_imp (pe_callB cr_lenSet hg hm PySem.boot_len (pa_cons (pe_callTy (cr_setI hc) hg2 hm2 (by decide +kernel) (pa_cons he pa_nil hs) (by decide) (by decide) hs hpl) pa_nil hs2) (by decide) (by decide) hs2 hpl2) fun σ H Q ⟨w, s, P, PX, rs, h, k, x⟩ =>
  ⟨w, s, _, PX, rs, h, fun d s1 H1 v q e1 rs1 rp => by
    obtain ⟨ns, ed, hl, q⟩ := q
    subst ed
    simp only [Rep] at rp
    obtain ⟨t1, us, e3, nb, ht, ru⟩ := rp
    have e4 := ru.ints
    subst e4 e3
    refine ⟨t1, ns, rfl, SqT.of ht, by have : scanBound = 4096 := rfl; omega, fun l S n1 => ⟨l, S, _, rfl, upd_same, ?_⟩⟩
    have sm := same_upd (o := .set S (dedupI ns).length) n1
    exact k _ s1 _ _ q (e1.trans (.of_same sm)) (rs1.same sm) (by simp only [Rep]), x⟩
end
end DL

/-! == by what stands in the data; places in lists; sides. -/
namespace DL
open PySem L2
def eqDs : List D → List D → Bool
  | [], [] => true
  | x :: xs, y :: ys => eqD x y && eqDs xs ys
  | _, _ => false
theorem eqvAll_D : ∀ xs ys : List D, PyData.eqvAll (toPys xs) (toPys ys) = eqDs xs ys
  | [], [] => by simp [toPys, PyData.eqvAll, eqDs]
  | [], _ :: _ => by simp [toPys, PyData.eqvAll, eqDs]
  | _ :: _, [] => by simp [toPys, PyData.eqvAll, eqDs]
  | x :: xs, y :: ys => by
    have ih := eqvAll_D xs ys
    simp only [toPys, PyData.eqvAll, eqDs, eqD, ih]
theorem eqD_tup (xs ys : List D) : eqD (.tup xs) (.tup ys) = eqDs xs ys := by
  simp only [eqD, toPy, PyData.eqv]
  exact eqvAll_D xs ys
theorem eqD_lst (xs ys : List D) : eqD (.lst xs) (.lst ys) = eqDs xs ys := by
  simp only [eqD, toPy, PyData.eqv]
  exact eqvAll_D xs ys
theorem eqDs_ints : ∀ a b : List Int, eqDs (a.map D.int) (b.map D.int) = decide (a = b)
  | [], [] => rfl
  | [], _ :: _ => by simp [eqDs]
  | _ :: _, [] => by simp [eqDs]
  | x :: xs, y :: ys => by
    have ih := eqDs_ints xs ys
    simp only [List.map_cons, eqDs, eqD_int, ih]
    by_cases h : x = y <;> simp [h]
@[simp] theorem eqD_tints (a b : List Int) : eqD (.tup (a.map D.int)) (.tup (b.map D.int)) = decide (a = b) := (eqD_tup _ _).trans (eqDs_ints a b)
@[simp] theorem eqD_lints (a b : List Int) : eqD (.lst (a.map D.int)) (.lst (b.map D.int)) = decide (a = b) := (eqD_lst _ _).trans (eqDs_ints a b)
@[simp] theorem eqD_bl (a b : Bool) : eqD (.bl a) (.bl b) = (a == b) := by simp [eqD, toPy, PyData.eqv]
theorem eqD_lnil (xs : List D) : eqD (.lst xs) (.lst []) = xs.isEmpty := by
  rw [eqD_lst]
  cases xs <;> rfl
def firstAt (x : Int) : List Int → Nat
  | [] => 0
  | y :: l => if y = x then 0 else firstAt x l + 1
theorem firstAt_get {x : Int} : ∀ {l : List Int}, x ∈ l → l[firstAt x l]? = some x
  | [], h => nomatch h
  | y :: l, h => by
    unfold firstAt
    split
    · rename_i e; simp [e]
    · rename_i e
      rcases List.mem_cons.mp h with h | h
      · exact absurd h.symm e
      · simpa using firstAt_get h
theorem firstAt_no {x : Int} : ∀ {l : List Int} {m : Nat}, m < firstAt x l → l[m]? ≠ some x
  | [], m, h => by simp
  | y :: l, m, h => by
    unfold firstAt at h
    split at h
    · omega
    · rename_i e
      cases m with
      | zero => simpa using e
      | succ m => simpa using firstAt_no (l := l) (m := m) (by omega)
/-- x.index(y) of ints: the first place -/
theorem index_first {xs : List Int} {x : Int} {P : D → Prop} (h : x ∈ xs) (k : P (.int (firstAt x xs : Nat))) : rIndexD' (.lst (xs.map D.int)) (.int x) P := by
  refine ⟨rfl, flat_ints xs, firstAt x xs, .int x, by simp [firstAt_get h], by simp, fun m z hm hz => ?_, k⟩
  rw [List.getElem?_map] at hz
  obtain ⟨y, hy, rfl⟩ := Option.map_eq_some_iff.mp hz
  simp
  rintro rfl
  exact firstAt_no hm hy
theorem nodup_first {l : List Int} : l.Nodup ↔ ∀ (i : Nat) x, l[i]? = some x → firstAt x l = i := by
  constructor
  · intro nd i x hx
    have h1 := firstAt_get (List.mem_of_getElem? hx)
    obtain ⟨l1, e1⟩ := List.getElem?_eq_some_iff.mp h1
    obtain ⟨l2, e2⟩ := List.getElem?_eq_some_iff.mp hx
    rcases Nat.lt_trichotomy (firstAt x l) i with c | c | c
    · exact absurd (e1.trans e2.symm) (List.pairwise_iff_getElem.mp nd _ _ l1 l2 c)
    · exact c
    · exact absurd (e2.trans e1.symm) (List.pairwise_iff_getElem.mp nd _ _ l2 l1 c)
  · intro h
    refine List.pairwise_iff_getElem.mpr fun i j hi hj hij e => ?_
    have h1 := h i l[i] (List.getElem?_eq_getElem hi)
    have h2 := h j l[j] (List.getElem?_eq_getElem hj)
    rw [e] at h1
    omega
/-! ### sides -/
def inS (n x : Int) : Bool := decide (0 ≤ x) && decide (x < n)
def sideF (n : Int) (L : List Int) : Option Int := L.find? fun x => !inS n x
def spSide : SpD := fun xs M P PX => ∃ n x, xs = [.dat (.int n), .dat (.int x)] ∧ M = [] ∧ if inS n x = true then P .non [] else PX "BadSide" (.int x) []
theorem len_side : ∀ xs M P PX, spSide xs M P PX → xs.length = 2 := fun _ _ _ _ ⟨_, _, e, _⟩ => by rw [e]; rfl
def tdSide : TSd :=
  dIfS (dNot (dT (dChain rLeD rLtD (dC (.int 0)) (dVar 1) (dVar 0)))) (dRaise "BadSide" (dVar 1)) (dNext)
theorem mSide : ∀ xs M P PX, spSide xs M P PX → tdSide (startS ["n", "x"] xs M) (endE M.length P) (endX M.length PX) := by
  rintro xs M P PX ⟨n, x, rfl, rfl, hp⟩
  unfold inS at hp
  by_cases h0 : 0 ≤ x <;> by_cases h1 : x < n <;> simp [tdSide, h0, h1] at hp ⊢ <;> exact hp
end DL
namespace DL
theorem filterMap_if {α β : Type} (p : α → Bool) (f : α → β) : ∀ l : List α, (l.filterMap fun x => if p x = true then some (f x) else none) = (l.filter p).map f
  | [] => rfl
  | x :: l => by
    have ih := filterMap_if p f l
    cases e : p x
    · rw [List.filterMap_cons_none (by simp [e]), List.filter_cons_of_neg (by simp [e]), ih]
    · rw [List.filterMap_cons_some (b := f x) (by simp [e]), List.filter_cons_of_pos e, ih]; rfl
end DL

/-! zip of two sequences, each a list or a tuple. -/
namespace DLE
open PySem L2 PySem.Spec PyProof.Rows
def SqA (K : PySem.W.Frag) (b : Bool) (H : Hp) (a : Addr) (xs : List V) : Prop := if b = true then SqL K H a xs else SqT K H a xs
def IsA (b : Bool) (h : Heap) (a : Addr) (items : Array Value) : Prop := if b = true then h.IsList a items else h.IsTuple a items
def IterA (b : Bool) (h : Heap) (it a : Addr) (i : Nat) : Prop := if b = true then h.IsListIter it a i else h.IsTupleIter it a i
section
variable {X : Cx} {pins : List (Addr × Obj)} {σ : L2.St} {H : Hp} {s : Shared} {a : Addr} {xs ys : List V}
theorem seq_at (I : Inv X pins σ H s) (b : Bool) (h : SqA X.K b H a xs) : ∃ its : List Value, Vals xs its ∧ IsA b s.heap a its.toArray ∧ a < s.heap.objs.size := by
  cases b with
  | true => obtain ⟨its, rv, p, _⟩ := I.list h; exact ⟨its, rv, p.isList, p.lt⟩
  | false => obtain ⟨its, rv, p, _⟩ := I.tuple h; obtain ⟨o, ho, _⟩ := id p; exact ⟨its, rv, p, Heap.lt_size ho⟩
theorem seq_inj (I : Inv X pins σ H s) (b : Bool) (h : SqA X.K b H a xs) (h' : SqA X.K b H a ys) : xs = ys := by
  cases b with
  | true => exact I.list_inj h h'
  | false => exact I.tuple_inj h h'
end
theorem drawsA {prog : Program} {w : World} {A : Around} (b : Bool) (hh : A.handled = none) (it a : Addr) (hne : a ≠ it) (items : Array Value) :
    Draws prog w A it [it, a] items.size (fun i v => items[i]? = some v) (fun i h => IterA b h it a i ∧ IsA b h a items) := by
  cases b with
  | true => exact Draws.list hh it a hne items
  | false => exact Draws.tuple hh it a hne items
theorem IterA.at {b : Bool} {h h' : Heap} {it a : Addr} {i : Nat} (x : IterA b h it a i) (k : ∀ o, h.get? it = some o → h'.get? it = some o) : IterA b h' it a i := by
  cases b with
  | true => exact Heap.IsListIter.at (show h.IsListIter it a i from x) k
  | false => exact Heap.IsTupleIter.at (show h.IsTupleIter it a i from x) k
theorem IterA.ob {b : Bool} {h : Heap} {it a : Addr} {i : Nat} (x : IterA b h it a i) : ∃ o, h.get? it = some o ∧ ∀ v, o.data ≠ .cell v := by
  cases b with
  | true => obtain ⟨o, e, _, d⟩ := (show h.IsListIter it a i from x); exact ⟨o, e, fun v q => by rw [d] at q; cases q⟩
  | false => obtain ⟨o, e, _, d⟩ := (show h.IsTupleIter it a i from x); exact ⟨o, e, fun v q => by rw [d] at q; cases q⟩
def ItzA (K : PySem.W.Frag) (b1 b2 : Bool) (a b : Addr) : It :=
  ⟨fun i H => ∃ (xs ys : List V) (x y : V), SqA K b1 H a xs ∧ SqA K b2 H b ys ∧ xs[i]? = some x ∧ ys[i]? = some y,
    fun i H v H' => ∃ T x y, v = .ref T ∧ H T = none ∧ H' = upd H T (.tup [x, y]) ∧ (∀ xs, SqA K b1 H a xs → xs[i]? = some x) ∧ ∀ ys, SqA K b2 H b ys → ys[i]? = some y,
    fun i H => ∃ xs ys : List V, SqA K b1 H a xs ∧ SqA K b2 H b ys ∧ i ≤ xs.length ∧ i ≤ ys.length ∧ (i = xs.length ∨ i = ys.length)⟩
theorem sepA {z TI TO i1 i2 a b : Addr} (D : ZipApart z TI TO i1 i2 a b) : ZipSep2 z TI TO i1 i2 [i1, a] [i2, b] where
  TIz := D.TIz
  TOz := D.TOz
  TITO := D.TITO
  TIi1 := D.TIi1
  mem1 := by simp
  zf1 := by simp [Ne.symm D.i1z, Ne.symm D.l1z]
  Tf1 := by simp [D.TOi1, Ne.symm D.l1TO]
  TIi2 := D.TIi2
  mem2 := by simp
  zf2 := by simp [Ne.symm D.i2z, Ne.symm D.l2z]
  Tf2 := by simp [D.TOi2, Ne.symm D.l2TO]
  sep1_2 := by simp [D.i12, Ne.symm D.l2i1]
  sep2_1 := by simp [Ne.symm D.i12, Ne.symm D.l1i2]
theorem turn_zipA {P : Program} {w : World} {K : PySem.W.Frag} {elts : List Expr} {kk : Nat} {tpos : Pos} {b1 b2 : Bool} {a b z TI TO i1 i2 : Addr} (D : ZipApart z TI TO i1 i2 a b) :
    Turn P w K (.Tuple elts kk tpos) (ItzA K b1 b2 a b) [z, TI, TO, i1, i2] z (fun i h => IsZip h z TI TO .none ∧ IsTupOf2 h TI (.ref i1) (.ref i2) ∧ (∃ x y, IsTupOf2 h TO x y) ∧ IterA b1 h i1 a i ∧ IterA b2 h i2 b i) where
  mem := by simp
  obj := fun i h st c hc => by
    obtain ⟨hz, hTI, ⟨x, y, hTO⟩, h1, h2⟩ := st
    obtain ⟨o1, e1, d1⟩ := h1.ob
    obtain ⟨o2, e2, d2⟩ := h2.ob
    have e' : c = z ∨ c = TI ∨ c = TO ∨ c = i1 ∨ c = i2 := by simpa using hc
    rcases e' with q | q | q | q | q
    · rw [q]; exact ⟨_, hz, fun v q => nomatch q⟩
    · rw [q]; exact ⟨_, hTI, fun v q => nomatch q⟩
    · rw [q]; exact ⟨_, hTO, fun v q => nomatch q⟩
    · rw [q]; exact ⟨o1, e1, d1⟩
    · rw [q]; exact ⟨o2, e2, d2⟩
  keep := fun i h h' st k => by
    obtain ⟨hz, hTI, ⟨x, y, hTO⟩, h1, h2⟩ := st
    exact ⟨k z (by simp) _ hz, k TI (by simp) _ hTI, ⟨x, y, k TO (by simp) _ hTO⟩, h1.at fun o q => k i1 (by simp) o q, h2.at fun o q => k i2 (by simp) o q⟩
  item := by
    intro X hP hw hK hc i pins s σ H E I hf st hg
    subst hP hw hK
    obtain ⟨hz, hTI, ⟨x0, y0, hTO⟩, h1, h2⟩ := st
    obtain ⟨xs, ys, x, y, hqx, hqy, hx, hy⟩ := hg
    obtain ⟨its, rv, p, _⟩ := seq_at I b1 hqx
    obtain ⟨its2, rv2, p2, _⟩ := seq_at I b2 hqy
    obtain ⟨u, hu, ru⟩ := rv.get hx
    obtain ⟨u2, hu2, ru2⟩ := rv2.get hy
    have hzl : z < s.heap.objs.size := Heap.lt_size hz
    have D1 := drawsA (prog := X.prog) (w := X.w) (A := X.A.in1) b1 (I.ok.hd hc) i1 a D.l1i1 its.toArray
    have D2 := drawsA (prog := X.prog) (w := X.w) (A := X.A.in1) b2 (I.ok.hd hc) i2 b D.l2i2 its2.toArray
    have l1 : i < its.toArray.size := by have z := (List.getElem?_eq_some_iff.mp hu).1; simpa using z
    have l2 : i < its2.toArray.size := by have z := (List.getElem?_eq_some_iff.mp hu2).1; simpa using z
    refine wpAny_pyNext_zipD2_item (sepA D) D1 D2 hz hTI hTO ⟨h1, p⟩ ⟨h2, p2⟩ l1 l2 fun v1 v2 h' tk q1 q2 z' TO' s1' s2' hT hsz hk => ?_
    have ev1 : v1 = u := by
      have z : its[i]? = some v1 := by simpa using q1
      rw [hu] at z
      exact (Option.some.inj z).symm
    have ev2 : v2 = u2 := by
      have z : its2[i]? = some v2 := by simpa using q2
      rw [hu2] at z
      exact (Option.some.inj z).symm
    subst ev1 ev2
    refine ⟨_, rfl, wpAny_letOwnedTupleGo_zip (s := { s with heap := h', toks := tk }) z' fun h'' z'' sb => ?_⟩
    have hT2 : h''.get? s.heap.objs.size = some { cls := .type "tuple", data := .seq #[v1, v2] } := (sb.2 _ (Nat.ne_of_gt hzl)).trans hT
    have new : ObjOk X.prog X.w (upd H s.heap.objs.size (.tup [x, y])) h'' s.heap.objs.size (.tup [x, y]) :=
      ⟨by show 2 ≤ sizeLine; decide, [v1, v2], .cons ru (.cons ru2 .nil), ⟨_, hT2, rfl, _, rfl⟩⟩
    have I1 : Inv X pins σ (upd H s.heap.objs.size (.tup [x, y])) { s with heap := h'', toks := tk } :=
      I.turnedNew (t' := tk) (ch := [z, TI, TO, i1, i2]) (fun c o hb q => (sb.2 c (fun q' => hb (by simp [q']))).trans (hk c o (fun q' => hb (by simp [q'])) (fun q' => hb (by simp [q'])) (fun q' => hb (by simp [q'])) (fun q' => hb (by simp [q'])) q)) hf (Nat.le_refl _) new
    refine ⟨.ref s.heap.objs.size, _, I1, rfl, ⟨_, x, y, rfl, I.hok.fresh (Nat.le_refl _), rfl, fun l hl => by rw [seq_inj I b1 hl hqx]; exact hx, fun l hl => by rw [seq_inj I b2 hl hqy]; exact hy⟩, ⟨z'', ?_, ⟨v1, v2, ?_⟩, ?_, ?_⟩, fun c hcm => ?_⟩
    · exact (sb.2 _ D.TIz).trans (hk _ _ D.TIz D.TITO D.TIi1 D.TIi2 hTI)
    · exact (sb.2 _ D.TOz).trans TO'
    · exact s1'.1.at fun o q => (sb.2 _ D.i1z).trans q
    · exact s2'.1.at fun o q => (sb.2 _ D.i2z).trans q
    · have hlt : c < s.heap.objs.size := by
        have e' : c = z ∨ c = TI ∨ c = TO ∨ c = i1 ∨ c = i2 := by simpa using hcm
        rcases e' with q | q | q | q | q
        · rw [q]; exact hzl
        · rw [q]; exact Heap.lt_size hTI
        · rw [q]; exact Heap.lt_size hTO
        · rw [q]; obtain ⟨_, e1, _⟩ := h1.ob; exact Heap.lt_size e1
        · rw [q]; obtain ⟨_, e2, _⟩ := h2.ob; exact Heap.lt_size e2
      rw [upd_ne (Nat.ne_of_lt hlt)]
      exact (hf c hcm).1
  done := by
    intro X hP hw hK hc i pins s σ H E I hf st hg
    subst hP hw hK
    obtain ⟨hz, hTI, ⟨x0, y0, hTO⟩, h1, h2⟩ := st
    obtain ⟨xs, ys, hqx, hqy, g1, g2, hend⟩ := hg
    obtain ⟨its, rv, p, _⟩ := seq_at I b1 hqx
    obtain ⟨its2, rv2, p2, _⟩ := seq_at I b2 hqy
    have l1 := rv.length
    have l2 := rv2.length
    have D1 := drawsA (prog := X.prog) (w := X.w) (A := X.A.in1) b1 (I.ok.hd hc) i1 a D.l1i1 its.toArray
    have D2 := drawsA (prog := X.prog) (w := X.w) (A := X.A.in1) b2 (I.ok.hd hc) i2 b D.l2i2 its2.toArray
    refine wpAny_pyNext_zipD2_end (sepA D) D1 D2 hz hTI hTO ⟨h1, p⟩ ⟨h2, p2⟩ (by simp; omega) (by simp; omega) (by simp; omega) fun h' tk hk => ⟨rfl, I.turnedL (t' := tk) (ch := [z, TI, TO, i1, i2]) (fun c o hb q =>
      hk c o (fun q' => hb (by simp [q'])) (fun q' => hb (by simp [q'])) (fun q' => hb (by simp [q'])) (fun q' => hb (by simp [q'])) q) hf⟩
  self := fun A i s Q E st h => wpAny_pyIter_zip st.1 h
def iZipB (K : PySem.W.Frag) (ta : TA) : TI := fun σ H R => ta σ H fun vs H1 => ∃ b1 b2 a b xs ys, vs = [.ref a, .ref b] ∧ SqA K b1 H1 a xs ∧ SqA K b2 H1 b ys ∧ R (ItzA K b1 b2 a b) H1
theorem beginsA (b : Bool) (a : Addr) (items : Array Value) : ∃ o, Begins (.ref a) o (fun h => IsA b h a items) ∧ ∀ (h : Heap) (it : Addr), h.get? it = some o → IterA b h it a 0 := by
  cases b with
  | true => exact ⟨_, begins_list a items, fun h it e => ⟨_, e, rfl, rfl⟩⟩
  | false => exact ⟨_, begins_tuple a items, fun h it e => ⟨_, e, rfl, rfl⟩⟩
theorem pi_zipB {X : Cx} {e e2 : Expr} {ta : TA} {p pos tpos : Pos} {elts : List Expr} {kk : Nat} (hg : Gl X "zip") (hm : X.mg "zip" = none) (ha : PA X [e, e2] ta)
    (hs : starEach [e, e2] X.env = (false, eval e X.env) :: starEach [e2] X.env := by rfl) (hpl : (backTo pos (starEach [e2] X.env)).any (·.1) = false := by rfl) :
    PI X (.Tuple elts kk tpos) (.Call (.Name "zip" p) [e, e2] [] pos) (iZipB X.K ta) := by
  refine ⟨fun pins s σ H R I h => ?_⟩
  refine PyProof.Rows.Call_ (ld_blt I hg hm PyProof.Rows.boot_zip (PyProof.Rows.callWith_type1 (thn (ha.run pos pins s σ H _ I h) fun us s1 ⟨vs, H1, I1, r1, q1⟩ => ?_) hs hpl))
  obtain ⟨b1, b2, a, b, xs, ys, ex, hqx, hqy, q⟩ := q1
  subst ex
  cases r1 with
  | cons r rr =>
    cases rr with
    | cons r' rr =>
      cases rr
      cases r
      cases r'
      have fresh5 : ∀ c, c ∈ [s1.heap.objs.size + 4, s1.heap.objs.size + 2, s1.heap.objs.size + 3, s1.heap.objs.size, s1.heap.objs.size + 1] → FpOk X pins H1 c := fun c hcm => by
        have e' : c = s1.heap.objs.size + 4 ∨ c = s1.heap.objs.size + 2 ∨ c = s1.heap.objs.size + 3 ∨ c = s1.heap.objs.size ∨ c = s1.heap.objs.size + 1 := by simpa using hcm
        have hle : s1.heap.objs.size ≤ c := by
          rcases e' with z | z | z | z | z
          · rw [z]; exact Nat.le_add_right _ _
          · rw [z]; exact Nat.le_add_right _ _
          · rw [z]; exact Nat.le_add_right _ _
          · rw [z]; exact Nat.le_refl _
          · rw [z]; exact Nat.le_add_right _ _
        exact I1.fpOk hle (I1.hok.fresh hle)
      obtain ⟨its, rv, p1, lt1⟩ := seq_at I1 b1 hqx
      obtain ⟨its2, rv2, p2, lt2⟩ := seq_at I1 b2 hqy
      obtain ⟨o1, B1, c1⟩ := beginsA b1 a its.toArray
      obtain ⟨o2, B2, c2⟩ := beginsA b2 b its2.toArray
      refine zip_begins2 B1 B2 p1 p2 fun h' hz hTI hTO h1 h2 hsz hk => wpAny_pyIter_zip hz ?_
      have I2 : Inv X pins σ H1 { s1 with heap := h' } := I1.kept (t' := s1.toks) hk
      exact ⟨s1.heap.objs.size + 4, [s1.heap.objs.size + 4, s1.heap.objs.size + 2, s1.heap.objs.size + 3, s1.heap.objs.size, s1.heap.objs.size + 1], _, _, H1, rfl, I2, turn_zipA (PySem.W.ktu_apart s1.heap.objs.size a b lt1 lt2), ⟨hz, hTI, ⟨_, _, hTO⟩, c1 _ _ h1, c2 _ _ h2⟩, fresh5, q⟩
end DLE
namespace DL
open PySem L2
section
variable {X : Cx} {g : G} {W : WX} {pos : Pos} {e e2 : Expr} {w : Cs} {H H' : Hp} {σ : L2.St} {s : S} {t : TDA}
def zipD : List D → List D → List D
  | x :: xs, y :: ys => .tup [x, y] :: zipD xs ys
  | _, _ => []
theorem zipD_get : ∀ {xs ys : List D} {i : Nat} {x y : D}, xs[i]? = some x → ys[i]? = some y → (zipD xs ys)[i]? = some (.tup [x, y])
  | [], _, _, _, _, h, _ => by simp at h
  | _ :: _, [], _, _, _, _, h => by simp at h
  | x :: xs, y :: ys, 0, _, _, h, h' => by simp at h h'; subst h h'; rfl
  | x :: xs, y :: ys, i + 1, _, _, h, h' => by simp at h h'; simpa [zipD] using zipD_get h h'
theorem zipD_len : ∀ xs ys : List D, (zipD xs ys).length = min xs.length ys.length
  | [], _ => by simp [zipD]
  | _ :: _, [] => by simp [zipD]
  | x :: xs, y :: ys => by simp [zipD, zipD_len xs ys]
/-- what stands where a sequence does -/
theorem seqA {d : D} {v : V} {ds : List D} (rp : Rep g w H d v) (ed : seqD d = some ds) : ∃ (b : Bool) (a : Addr) (vs : List V), v = .ref a ∧ Reps g w H ds vs ∧ ∀ w' H', Mv w H w' H' → DLE.SqA X.K b H' a vs := by
  cases d <;> simp only [seqD, reduceCtorEq, Option.some.injEq] at ed
  · subst ed
    simp only [Rep] at rp
    obtain ⟨a, vs, e, n, hp, rv⟩ := rp
    exact ⟨false, a, vs, e, rv, fun w' H' m => SqT.of (m.at_ n hp)⟩
  · subst ed
    simp only [Rep] at rp
    obtain ⟨a, vs, e, n, hp, rv⟩ := rp
    exact ⟨true, a, vs, e, rv, fun w' H' m => SqL.of (m.at_ n hp)⟩
@[simp] def dZip (t : TDA) : TDI := fun s P X => t s (fun xs s1 => ∃ d d' ds es, xs = [.dat d, .dat d'] ∧ seqD d = some ds ∧ seqD d' = some es ∧ P (zipD ds es) s1) X
theorem di_zip {p tpos : Pos} {elts : List Expr} {kk : Nat} (hg : Gl X "zip") (hm : X.mg "zip" = none) (ha : PA X [e, e2] (lA g W t)) (hs : starEach [e, e2] X.env = (false, eval e X.env) :: starEach [e2] X.env := by rfl) (hpl : (backTo pos (starEach [e2] X.env)).any (·.1) = false := by rfl) :
    PI X (.Tuple elts kk tpos) (.Call (.Name "zip" p) [e, e2] [] pos) (lI g W (dZip t)) := pi_imp (DLE.pi_zipB hg hm ha hs hpl) fun σ H R ⟨w, s, P, PX, rs, h, k, x⟩ =>
  ⟨w, s, _, PX, rs, h, fun xs s1 H1 vs q e1 rs1 ra => by
    obtain ⟨d, d', ds, es, e, ed, ed', q⟩ := q
    subst e
    obtain ⟨v, v', e, rp, rp'⟩ := ArgOk.two ra
    subst e
    obtain ⟨b1, a1, vs1, ev1, rv1, k1⟩ := seqA (X := X) rp ed
    obtain ⟨b2, a2, vs2, ev2, rv2, k2⟩ := seqA (X := X) rp' ed'
    subst ev1 ev2
    refine ⟨b1, b2, a1, a2, vs1, vs2, rfl, k1 _ _ (Mv.refl _ _), k2 _ _ (Mv.refl _ _), k _ s1 H1 _ q e1 rs1 ?_⟩
    have l1 := rv1.len
    have l2 := rv2.len
    refine ⟨fun H => DLE.SqA X.K b1 H a1 vs1 ∧ DLE.SqA X.K b2 H a2 vs2, YPair (fun i => vs1[i]?) (fun i => vs2[i]?), ?_, fun w' H' m => ⟨k1 _ _ m, k2 _ _ m⟩, fun i w' H1 x H2 hi m nb y => ?_⟩
    · rw [zipD_len, ← l1, ← l2]
      refine ⟨fun i H hi h => ⟨vs1, vs2, vs1[i]'(by omega), vs2[i]'(by omega), h.1, h.2, by simp, by simp⟩, fun H h => ⟨vs1, vs2, h.1, h.2, by omega, by omega, by omega⟩, fun i H v H' hi h y => ?_⟩
      obtain ⟨T, x, y', h1, h2, h3, h4, h5⟩ := y
      exact ⟨T, x, y', h1, h2, h3, h4 vs1 h.1, h5 vs2 h.2⟩
    · obtain ⟨T, x1, y1, e1, n1, e2, e3, e4⟩ := y
      subst e1 e2
      obtain ⟨d1, ed1, r1⟩ := rv1.get e3
      obtain ⟨d2, ed2, r2⟩ := rv2.get e4
      exact ⟨same_upd n1, _, zipD_get ed1 ed2, Rep.tup (nb T n1) upd_same (Reps.cons ((r1.mv m).mv (.of_same (same_upd n1))) (Reps.cons ((r2.mv m).mv (.of_same (same_upd n1))) Reps.nil))⟩, x⟩
end
end DL

/-! isinstance(x, Field); tuple(range(n)); targets that are items of cells; x[i] op= e. -/
namespace DL
open PySem L2 PySem.Spec PyProof.Rows
section
variable {X : Cx} {g : G} {W : WX} {pos : Pos} {e a b : Expr} {te ta tb td : TD} {w : Cs} {H H' : Hp} {σ : L2.St} {s : S}
/-! ### isinstance(x, an own class), x one -/
structure InsC (K : PySem.W.Frag) (C : Addr) : Prop where
  cl : L2.Cls K C
  ha : PySem.W.findIn K (.ref C) "__class__" = some (some (.builtin "object.__class__"))
  hn : PySem.W.specialIn K (.builtin "object.__class__") "__get__" = some (some (.builtin "getset_descriptor.__get__"))
  htk : PySem.W.takesIn K (.builtin "object.__class__") = some true
  hm : PySem.W.mroIn K C (.type "object") = some true
@[simp] def dIsO (c : Str) (te : TD) : TD := fun s P X => te s (fun d s1 => ∃ fs, d = .ins c fs ∧ P (.bl true) s1) X
theorem de_isO {c y : Str} {p q : Pos} (T : InsC X.K (g.CA c)) (hg : Gl X "isinstance") (hm : X.mg "isinstance" = none) (he : PE X e (lE g W te)) (ht : PE X (.Name y q) (tC (.ref (g.CA c)))) (hs : starEach (e :: [.Name y q]) X.env = (false, eval e X.env) :: starEach [.Name y q] X.env := by rfl)
    (hs2 : starEach (.Name y q :: []) X.env = (false, eval (.Name y q) X.env) :: starEach [] X.env := by rfl) (hpl : (backTo pos (starEach [.Name y q] X.env)).any (·.1) = false := by rfl) :
    PE X (.Call (.Name "isinstance" p) (e :: [.Name y q]) [] pos) (lE g W (dIsO c te)) := pe_imp (pe_callB call_isi hg hm PyProof.Rows.boot_isinstance (pa_cons he (pa_cons ht pa_nil hs2) hs) (by decide) (by decide) hs hpl) fun σ H Q ⟨w, s, P, PX, rs, h, k, x⟩ =>
  ⟨w, s, _, PX, rs, h, fun d s1 H1 v q1 e1 rs1 rp => by
    obtain ⟨fs, ed, q1⟩ := q1
    subst ed
    simp only [Rep] at rp
    obtain ⟨a, dx, fv, ev, nb, hp, rf⟩ := rp
    subst ev
    exact ⟨_, _, .ref (g.CA c), .ref (g.CA c), true, rfl, .own _, .base (.ins hp T.cl T.ha T.hn T.htk T.hm), if_pos (beq_self_eq_true _), k (.bl true) s1 H1 _ q1 e1 rs1 (by simp only [Rep])⟩, x⟩
/-! ### tuple(range(n)) -/
@[simp] def dTupRg (ta : TD) : TD := fun s P X => ta s (fun d s1 => ∃ n : Int, d = .int n ∧ n ≤ 16777216 ∧ -(2 ^ 62) ≤ n ∧ P (.tup (rangeD 0 n.toNat)) s1) X
theorem rgV_reps (n : Int) : Reps g w H (rangeD 0 n.toNat) (rgV 0 n) := by
  unfold rangeD rgV
  rw [show (n - 0).toNat = n.toNat by omega]
  induction List.range n.toNat with
  | nil => exact Reps.nil
  | cons i l ih => exact Reps.cons (by simp only [Rep]) ih
theorem de_tupRg {p p2 pos2 : Pos} (hc : X.calm = true) (hg : Gl X "tuple") (hm : X.mg "tuple" = none) (hg2 : Gl X "range") (hm2 : X.mg "range" = none) (ha : PE X a (lE g W ta)) (na : starEach [a] X.env = (false, eval a X.env) :: starEach [] X.env := by rfl)
    (na2 : starEach [.Call (.Name "range" p2) [a] [] pos2] X.env = (false, eval (.Call (.Name "range" p2) [a] [] pos2) X.env) :: starEach [] X.env := by rfl) :
    PE X (.Call (.Name "tuple" p) [.Call (.Name "range" p2) [a] [] pos2] [] pos) (lE g W (dTupRg ta)) := pe_imp (pe_tupRg hc hg hm (prg_1 hg2 hm2 ha na) na2) fun σ H Q ⟨w, s, P, PX, rs, h, k, x⟩ =>
  ⟨w, s, _, PX, rs, h, fun d s1 H1 v q1 e1 rs1 rp => by
    obtain ⟨n, ed, h1, h2, q1⟩ := q1
    subst ed
    simp only [Rep] at rp
    refine ⟨n, rp, ⟨by omega, by omega, h2, by omega, by omega⟩, fun q hq => ?_⟩
    have sm := same_upd (o := .tup (rgV 0 n)) hq
    exact k _ s1 _ _ q1 (e1.trans (.of_same sm)) (rs1.same sm) (Rep.tup (rs1.mem.fresh hq) upd_same (rgV_reps n)), x⟩
/-! ### targets that are items of cells -/
abbrev TGm := D → S → (S → Prop) → KX → Prop
abbrev TGms := List D → S → (S → Prop) → KX → Prop
def lGm (g : G) (W : WX) (gt : TGm) : TG := fun v σ H Q => ∃ w s d P PX, RS g w H σ s ∧ Rep g w H d v ∧ gt d s P PX ∧ (∀ s' σ' H', P s' → HExt w H H' → RS g w H' σ' s' → Q σ' H') ∧ (∀ σ', XOk g w H σ' PX W)
def lGms (g : G) (W : WX) (gt : TGms) : TGs := fun vs σ H Q => ∃ w s ds P PX, RS g w H σ s ∧ Reps g w H ds vs ∧ gt ds s P PX ∧ (∀ s' σ' H', P s' → HExt w H H' → RS g w H' σ' s' → Q σ' H') ∧ (∀ σ', XOk g w H σ' PX W)
@[simp] def dmName (i : Nat) : TGm := fun d s P _ => P { s with r := s.r.set i (.dat d) }
theorem dm_name {i : Nat} {tg : Expr} (h : PG X tg (gName i)) : PG X tg (lGm g W (dmName i)) := pg_imp h fun v σ H Q ⟨w, s, d, P, PX, rs, rp, h, k, x⟩ => k _ _ H h (HExt.refl _ _) (rs.set rp)
@[simp] def dmSub (i : Nat) (tb : TD) : TGm := fun d s P X => ∃ c, s.r[i]? = some (.cell c) ∧ tb s (fun y s2 => ∃ ds k j, s2.M[c]? = some (some (.lst ds)) ∧ y = .int k ∧ ixN ds.length k = some j ∧ P { s2 with M := s2.M.set c (some (.lst (ds.set j d))) }) X
theorem dm_sub (i : Nat) {tg : Expr} (h : PG X tg (gSub (tVar i) (lE g W tb) rSetL)) : PG X tg (lGm g W (dmSub i tb)) := pg_imp h fun v σ H Q ⟨w, s, d, P, PX, rs, rp, ⟨c, ec, q⟩, k, x⟩ => by
  obtain ⟨a, ea, ev⟩ := rs.slot i _ ec
  refine ⟨.ref a, ev, w, s, _, PX, rs, q, fun y s2 H2 yv q2 e2 rs2 rp2 => ?_, x σ⟩
  obtain ⟨ds, kk, j, em, ey, ei, q2⟩ := q2
  subst ey
  simp only [Rep] at rp2
  obtain ⟨a', ea', vs, hp, rv⟩ := rs2.mem.at_ c _ em
  rw [ea] at ea'
  cases ea'
  exact ⟨a, vs, kk, j, rfl, rp2, hp, by rw [rv.len]; exact ei, k _ σ _ q2 (e2.trans (upd_cell_ext ea)) (rs2.updCell ea (Reps.set j rv (rp.mv (.of_ext e2))))⟩
@[simp] def dmsNil : TGms := fun ds s P _ => ds = [] ∧ P s
@[simp] def dmsCons (t : TGm) (u : TGms) : TGms := fun ds s P X => match ds with
  | d :: r => t d s (fun s' => u r s' P X) X
  | [] => False
theorem dms_nil : PGs X [] (lGms g W dmsNil) := ⟨fun pins s σ H vs us Q I r ⟨w, s1, ds, P, PX, rs, rp, ⟨e, h⟩, k, x⟩ => pgs_nil.run pins s σ H vs us Q I r ⟨by subst e; simpa only [Reps] using rp, k s1 σ H h (HExt.refl _ _) rs⟩⟩
theorem dms_cons {tg : Expr} {tgs : List Expr} {t : TGm} {u : TGms} (h1 : PG X tg (lGm g W t)) (h2 : PGs X tgs (lGms g W u))
    (hs : (assignEach (tg :: tgs) X.env).map (·.2) = assign tg X.env :: (assignEach tgs X.env).map (·.2) := by rfl) : PGs X (tg :: tgs) (lGms g W (dmsCons t u)) := ⟨fun pins s σ H vs us Q I r ⟨w, s1, ds, P, PX, rs, rp, h, k, x⟩ => (pgs_cons h1 h2 hs).run pins s σ H vs us Q I r (by
    cases ds with
    | nil => exact h.elim
    | cons d ds =>
      simp only [Reps] at rp
      obtain ⟨v, r', e, q, z⟩ := rp
      subst e
      exact ⟨v, r', rfl, w, s1, d, _, PX, rs, q, h, fun s2 σ2 H2 h2 e2 rs2 => ⟨w, s2, ds, P, PX, rs2, Reps.mv z (.of_ext e2), h2, fun s3 σ3 H3 h3 e3 rs3 => k s3 σ3 H3 h3 (e2.trans e3) rs3, fun σ' => (x σ').ext e2⟩, x⟩)⟩
@[simp] def dmTup (n : Nat) (t : TGms) : TGm := fun d s P X => match d with
  | .tup ds => ds.length = n ∧ t ds s P X
  | _ => False
theorem dm_tup {tgs : List Expr} {k n : Nat} {t : TGms} {p : Pos} (hc : X.calm = true) (h : PGs X tgs (lGms g W t)) (hn : (assignEach tgs X.env).length = n := by rfl) (hst : (assignEach tgs X.env).findIdx? (·.1) = none := by rfl) : PG X (.Tuple tgs k p) (lGm g W (dmTup n t)) :=
  pg_imp (pg_tup hc h hn hst) fun v σ H Q ⟨w, s, d, P, PX, rs, rp, h, k, x⟩ => by
    cases d <;> try exact h.elim
    simp only [Rep] at rp
    obtain ⟨a, vs, e, n, hp, rv⟩ := rp
    exact ⟨a, vs, e, SqT.of hp, by rw [rv.len]; exact h.1, w, s, _, P, PX, rs, rv, h.2, k, x⟩
@[simp] def dAsgM (td : TD) (gt : TGm) : TSd := fun s E X => td s (fun d s1 => gt d s1 E.nx X) X
theorem ds_asgM {st : Stmt} {gt : TGm} (h : PS X st (tAsg (lE g W td) (lGm g W gt))) : PS X st (lS g W (dAsgM td gt)) := ps_imp h fun D σ H ⟨w, s, E, PX, rs, h, k, x⟩ =>
  ⟨w, s, _, PX, rs, h, fun d s1 H1 v q e1 rs1 rp => ⟨w, s1, d, _, PX, rs1, rp, q, fun s2 σ2 H2 p e2 rs2 => k.nx s2 w H2 σ2 p (.of_ext (e1.trans e2)) rs2, fun σ' => x.ex.ext e1⟩, x.ex⟩
/-! ### x[i] op= e, x a cell -/
def rGetL (K : PySem.W.Frag) : V → V → Hp → VK → Prop := fun x y H Q => ∃ p xs i z, x = .ref p ∧ y = .int i ∧ SqL K H p xs ∧ 0 ≤ i ∧ atI xs i = some z ∧ Q z H
theorem get_list : PGet X (rGetL X.K) := by
  intro pins s σ H x y v u Q I rx ry h
  obtain ⟨p, xs, i, z, rfl, rfl, hq, h0, he, q⟩ := h
  cases rx
  obtain ⟨t, rfl⟩ := ry
  obtain ⟨its, r, pl, hz⟩ := I.list hq
  obtain ⟨j, h1, h2, h3, h4, h5⟩ := atI_get he
  obtain ⟨w, ew, rw'⟩ := r.get h2
  have hl := r.length
  have hn := line63
  have hj : i.toNat = j := by
    rw [seqIndex_of h0 h5] at h1
    exact Option.some.inj h1
  exact wpAny_getItem_list pl.isList h0 (by omega) (by rw [hj]; simpa using ew) ⟨z, H, I, rw', q⟩
@[simp] def dAugIx (i : Nat) (tb : TD) (r : RD) (te : TD) : TSd := fun s E X => ∃ c, s.r[i]? = some (.cell c) ∧ tb s (fun y s1 => ∃ ds k d, s1.M[c]? = some (some (.lst ds)) ∧ y = .int k ∧ 0 ≤ k ∧ atI ds k = some d ∧
  te s1 (fun y2 s2 => r d y2 fun z => ∃ ds' j, s2.M[c]? = some (some (.lst ds')) ∧ ixN ds'.length k = some j ∧ E.nx { s2 with M := s2.M.set c (some (.lst (ds'.set j z))) }) X) X
theorem ds_augIx (i : Nat) {st : Stmt} {r : RD} {ti : TIp} (hi : ∀ x y H Q, lR g r x y H Q → ti x y H Q) (h : PS X st (tAugS (tVar i) (lE g W tb) (lE g W te) (rGetL X.K) ti rSetL)) : PS X st (lS g W (dAugIx i tb r te)) := ps_imp h fun D σ H ⟨w, s, E, PX, rs, ⟨c, ec, h⟩, k, x⟩ => by
  obtain ⟨a, ea, ev⟩ := rs.slot i _ ec
  refine ⟨.ref a, ev, w, s, _, PX, rs, h, fun y s1 H1 yv q e1 rs1 rp => ?_, x.ex⟩
  obtain ⟨ds, kk, d, em, ey, k0, ed, q⟩ := q
  subst ey
  simp only [Rep] at rp
  subst rp
  obtain ⟨a', ea', vs, hp, rv⟩ := rs1.mem.at_ c _ em
  rw [ea] at ea'
  cases ea'
  obtain ⟨v2, ev2, rp2⟩ := rv.atI ed
  refine ⟨a, vs, kk, v2, rfl, rfl, SqL.of hp, k0, ev2, w, s1, _, PX, rs1, q, fun y2 s2 H2 v3 q2 e2 rs2 rp3 => ?_, x.ex.ext e1⟩
  refine hi _ _ _ _ ⟨w, d, y2, _, rp2.mv (.of_ext e2), rp3, q2, fun a n => rs2.mem.fresh n, fun z u H3 pz sm rz => ?_⟩
  obtain ⟨ds', j, em', ei, pz⟩ := pz
  have rs3 := rs2.same sm
  obtain ⟨a', ea', vs', hp', rv'⟩ := rs3.mem.at_ c _ em'
  rw [ea] at ea'
  cases ea'
  exact ⟨a, vs', kk, j, rfl, rfl, hp', by rw [rv'.len]; exact ei, k.nx _ w _ σ pz (.of_ext (e1.trans (e2.trans ((HExt.of_same sm).trans (upd_cell_ext ea))))) (rs3.updCell ea (Reps.set j rv' rz))⟩
end
end DL

/-! Rows, fields told: what the laws' helpers of fields promise. -/
namespace DL
open PySem L2
theorem badF_none {ss gs : List Int} (h1 : 1 ≤ ss.length) (h2 : ss.length ≤ 32) (e : gs.length = ss.length) (hs : ∀ v ∈ ss, -1000000000 ≤ v ∧ v ≤ 1000000000) (hg : ∀ v ∈ gs, -1000000000 ≤ v ∧ v ≤ 1000000000) : badF ss gs = none := by
  have key : ∀ (l : List Int) (k : Nat), (∀ v ∈ l, -1000000000 ≤ v ∧ v ≤ 1000000000) → firstOutK k l = none := by
    intro l
    induction l with
    | nil => intro _ _; rfl
    | cons v l ih =>
      intro k h
      have hv := h v List.mem_cons_self
      unfold firstOutK outI
      simp [hv.1, hv.2]
      exact ih _ fun u hu => h u (List.mem_cons_of_mem _ hu)
  unfold badF firstOut
  rw [if_neg (by omega), key ss 0 hs]
  simp [e, key gs 0 hg]
def nameOf (c : Str) : Str := if c = "BadSize" then "size" else if c = "BadStrength" then "strength" else if c = "Unlike" then "unlike" else "guard"
@[simp] theorem nm1 : nameOf "BadSize" = "size" := by decide +kernel
@[simp] theorem nm2 : nameOf "BadStrength" = "strength" := by decide +kernel
@[simp] theorem nm3 : nameOf "Unlike" = "unlike" := by decide +kernel
@[simp] theorem nm4 : nameOf "BadGuard" = "guard" := by decide +kernel
def faultD : Option (Str × Int) → D
  | some (c, x) => .lst [.str (nameOf c), .int x]
  | none => .lst []
theorem nameOk (c : Str) : PyData.strOk (nameOf c) = true := by
  unfold nameOf
  split
  · decide +kernel
  · split
    · decide +kernel
    · split <;> decide +kernel
theorem okN_fault (b : Option (Str × Int)) : OkN 1 (faultD b) := by
  cases b with
  | none => exact .lst (k := 0) fun _ h => nomatch h
  | some p =>
    refine .lst (k := 0) fun d hd => ?_
    simp at hd
    rcases hd with rfl | rfl
    · exact .str _ (nameOk _)
    · exact .int _ _
theorem okD_fault (b : Option (Str × Int)) : okD (faultD b) = true := (okN_fault b).ok
def spRow : SpD := fun xs M P _ => ∃ (L : List Int) (d : D), xs = [.dat (tupI L), .dat d] ∧ seqD d = some (L.map .int) ∧ M = [] ∧ P (.bl true) []
def spFieldIs : SpD := fun xs M P _ => ∃ (ss gs : List Int) (d e : D), xs = [.dat (fldD ss gs), .dat d, .dat e] ∧ seqD d = some (ss.map .int) ∧ seqD e = some (gs.map .int) ∧ M = [] ∧ P (.bl true) []
def spFault : SpD := fun xs M P _ => ∃ (ss gs : List Int), xs = [.dat (.lst (ss.map .int)), .dat (.lst (gs.map .int))] ∧ M = [] ∧ P (faultD (badF ss gs)) []
def spSaid : SpD := fun xs M P _ => ∃ (b : Bool), xs = [.dat (.bl b), .dat (.bl b)] ∧ M = [] ∧ P (.bl true) []
def spEntry : SpD := fun xs M P _ => ∃ (n a b : Int), xs = [.cell 0, .dat (.int n)] ∧ M = [src a b] ∧ Good a b ∧ 1 ≤ n ∧ n < 2 ^ 80 ∧ ∀ x a' b', -n < x → x < n → Good a' b' → P (.int x) [src a' b']
def spNumbers : SpD := fun xs M P _ => ∃ (n a b : Int), xs = [.cell 0, .dat (.int n)] ∧ M = [src a b] ∧ Good a b ∧ 0 ≤ n ∧ n ≤ 1000 ∧ ∀ (L : List Int) a' b', (L.length : Int) = n → (∀ v ∈ L, -1000000000 ≤ v ∧ v ≤ 1000000000) → Good a' b' → P (.lst (L.map .int)) [src a' b']
def spSides : SpD := fun xs M P PX => ∃ (n : Int), xs = [.dat (.int n)] ∧ M = [] ∧ if 1 ≤ n ∧ n ≤ 32 then P .non [] else PX "BadSize" (.int n) []
theorem len_row : ∀ xs M P PX, spRow xs M P PX → xs.length = 2 := fun _ _ _ _ ⟨_, _, e, _⟩ => by rw [e]; rfl
theorem len_fieldIs : ∀ xs M P PX, spFieldIs xs M P PX → xs.length = 3 := fun _ _ _ _ ⟨_, _, _, _, e, _⟩ => by rw [e]; rfl
theorem len_fault : ∀ xs M P PX, spFault xs M P PX → xs.length = 2 := fun _ _ _ _ ⟨_, _, e, _⟩ => by rw [e]; rfl
theorem len_said : ∀ xs M P PX, spSaid xs M P PX → xs.length = 2 := fun _ _ _ _ ⟨_, e, _⟩ => by rw [e]; rfl
theorem len_entry : ∀ xs M P PX, spEntry xs M P PX → xs.length = 2 := fun _ _ _ _ ⟨_, _, _, e, _⟩ => by rw [e]; rfl
theorem len_numbers : ∀ xs M P PX, spNumbers xs M P PX → xs.length = 2 := fun _ _ _ _ ⟨_, _, _, e, _⟩ => by rw [e]; rfl
theorem len_sides : ∀ xs M P PX, spSides xs M P PX → xs.length = 1 := fun _ _ _ _ ⟨_, e, _⟩ => by rw [e]; rfl
def tdRow : TSd :=
  dSeq (dIfS (dOr (dNot (dTru (dIsT "tuple" (dVar 0)))) (dT (dOp rNeD' (dCB rLenD (dCons (dVar 0) (dNil))) (dCB rLenD (dCons (dVar 1) (dNil)))))) (dRet (dC (.bl false))) (dNext))
  (dSeq (dFor (dZip (dCons (dVar 0) (dCons (dVar 1) (dNil)))) (dgTup 2 (dgsCons (dgName 2) (dgsCons (dgName 3) (dgsNil)))) (dIfS (dOr (dNot (dTru (dCall spNum (dCons (dVar 2) (dNil))))) (dT (dOp rNeD' (dVar 2) (dVar 3)))) (dRet (dC (.bl false))) (dNext)))
  (dRet (dC (.bl true))))
def tdFieldIs : TSd :=
  dSeq (dIfS (dOr (dNot (dTru (dIsO "Field" (dVar 0)))) (dOr (dNot (dTru (dCall spNum (dCons (dFld (dVar 0) "Field" "n") (dNil))))) (dT (dOp rNeD' (dFld (dVar 0) "Field" "n") (dCB rLenD (dCons (dVar 1) (dNil))))))) (dRet (dC (.bl false))) (dNext))
  (dRet (dAndV (dCall spRow (dCons (dFld (dVar 0) "Field" "strengths") (dCons (dVar 1) (dNil)))) (dCall spRow (dCons (dFld (dVar 0) "Field" "guards") (dCons (dVar 2) (dNil))))))
def tdFault : TSd :=
  dSeq (dIfS (dNot (dT (dChain rLeD rLeD (dC (.int 1)) (dCB rLenD (dCons (dVar 0) (dNil))) (dC (.int 32))))) (dRet (dF (dLst (dCons (dC (.str "size")) (dCons (dCB rLenD (dCons (dVar 0) (dNil))) (dNil)))))) (dNext))
  (dSeq (dFor (dEnum (dCons (dVar 0) (dNil))) (dgTup 2 (dgsCons (dgName 2) (dgsCons (dgName 3) (dgsNil)))) (dIfS (dNot (dT (dChain rLeD rLeD (dUn rNegD (dOp rPowD (dC (.int 10)) (dC (.int 9)))) (dVar 3) (dOp rPowD (dC (.int 10)) (dC (.int 9)))))) (dRet (dF (dLst (dCons (dC (.str "strength")) (dCons (dVar 2) (dNil)))))) (dNext)))
  (dSeq (dIfS (dT (dOp rNeD' (dCB rLenD (dCons (dVar 1) (dNil))) (dCB rLenD (dCons (dVar 0) (dNil))))) (dRet (dF (dLst (dCons (dC (.str "unlike")) (dCons (dCB rLenD (dCons (dVar 1) (dNil))) (dNil)))))) (dNext))
  (dSeq (dFor (dEnum (dCons (dVar 1) (dNil))) (dgTup 2 (dgsCons (dgName 2) (dgsCons (dgName 3) (dgsNil)))) (dIfS (dNot (dT (dChain rLeD rLeD (dUn rNegD (dOp rPowD (dC (.int 10)) (dC (.int 9)))) (dVar 3) (dOp rPowD (dC (.int 10)) (dC (.int 9)))))) (dRet (dF (dLst (dCons (dC (.str "guard")) (dCons (dVar 2) (dNil)))))) (dNext)))
  (dRet (dF (dLst (dNil)))))))
def tdSaid : TSd :=
  dRet (dAndV (dIsT "bool" (dVar 0)) (dOp rEqD' (dVar 0) (dVar 1)))
def tdEntry : TSd :=
  dSeq (dSet 2 (dCall spTake (dConsC 0 (dCons (dVar 1) (dNil)))))
  (dRet (dIf (dT (dOp rEqD' (dCall spTake (dConsC 0 (dCons (dC (.int 2)) (dNil)))) (dC (.int 0)))) (dUn rNegD (dVar 2)) (dVar 2)))
def tdNumbers : TSd :=
  dSeq (dSet 2 (dCall spOne (dConsC 0 (dCons (dF (dLst (dCons (dC (.int 1)) (dCons (dC (.int 2)) (dCons (dC (.int 4)) (dCons (dOp rAddD (dOp rPowD (dC (.int 10)) (dC (.int 9))) (dC (.int 1))) (dNil))))))) (dNil)))))
  (dRet (dF (dLc (dRange1 (dCons (dVar 1) (dNil))) (dgName 3) (dYes) (dCall spEntry (dConsC 0 (dCons (dVar 2) (dNil)))) [3])))
def tdSides : TSd :=
  dIfS (dNot (dT (dChain rLeD rLeD (dC (.int 1)) (dVar 0) (dC (.int 32))))) (dRaise "BadSize" (dVar 0)) (dNext)
theorem mSides : ∀ xs M P PX, spSides xs M P PX → tdSides (startS ["n"] xs M) (endE M.length P) (endX M.length PX) := by
  rintro xs M P PX ⟨n, rfl, rfl, hp⟩
  by_cases h1 : 1 ≤ n <;> by_cases h2 : n ≤ 32 <;> simp [tdSides, h1, h2] at hp ⊢ <;> exact hp
theorem len_seqD {d : D} {ds : List D} {M : Mem} {P : D → Prop} (h : seqD d = some ds) (hp : P (.int ds.length)) : rLenD [.dat d] M P := by
  cases d <;> simp at h <;> subst h <;> exact hp
theorem zip_same (L : List Int) : zipD (L.map D.int) (L.map D.int) = L.map fun x => D.tup [.int x, .int x] := by
  induction L with
  | nil => rfl
  | cons x L ih => simp [zipD, ih]
theorem mRow : ∀ xs M P PX, spRow xs M P PX → tdRow (startS ["_law_told", "_law_due", "_law_a", "_law_b"] xs M) (endE M.length P) (endX M.length PX) := by
  rintro xs M P PX ⟨L, d, rfl, hd, rfl, hp⟩
  unfold tdRow
  refine dSeq_k fun K hK => ?_
  simp [-rLenD]
  refine len_seqD (ds := L.map .int) rfl (len_seqD hd ?_)
  simp
  refine hK _ ?_
  clear hK K
  refine dSeq_k fun K hK => ?_
  simp [-seqD]
  refine ⟨_, rfl, _, hd, ?_⟩
  rw [zip_same]
  refine loop_rec (fun x : Int => D.tup [.int x, .int x]) (fun _ s => ∃ x2 x3, s = ⟨[.dat (tupI L), .dat d, x2, x3], []⟩) ?_ ?_ L _ rfl ⟨_, _, rfl⟩
  · rintro x xs s K2 ⟨x2, x3, rfl⟩ hK2
    simp [spNum]
    exact hK2 _ ⟨_, _, rfl⟩
  · rintro s ⟨x2, x3, rfl⟩
    refine hK _ ?_
    simp
    exact hp
theorem mFieldIs : ∀ xs M P PX, spFieldIs xs M P PX → tdFieldIs (startS ["_law_told", "_law_strengths", "_law_guards"] xs M) (endE M.length P) (endX M.length PX) := by
  rintro xs M P PX ⟨ss, gs, d, e, rfl, hd, he, rfl, hp⟩
  unfold tdFieldIs
  refine dSeq_k fun K hK => ?_
  simp [-rLenD, fldD, spNum]
  refine len_seqD hd ?_
  simp
  refine hK _ ?_
  simp
  refine ⟨ss, d, rfl, hd, rfl, ?_⟩
  simp
  exact ⟨gs, e, rfl, he, rfl, hp⟩
theorem mSaid : ∀ xs M P PX, spSaid xs M P PX → tdSaid (startS ["_law_told", "_law_due"] xs M) (endE M.length P) (endX M.length PX) := by
  rintro xs M P PX ⟨b, rfl, rfl, hp⟩
  simp [tdSaid]
  exact hp
theorem mEntry : ∀ xs M P PX, spEntry xs M P PX → tdEntry (startS ["_law_source", "_law_top", "_law_size"] xs M) (endE M.length P) (endX M.length PX) := by
  rintro xs M P PX ⟨n, a, b, rfl, rfl, hg, n0, n1, hp⟩
  unfold tdEntry
  refine dSeq_k fun K hK => ?_
  simp
  refine ⟨n, a, b, rfl, rfl, hg, n0, Nat.lt_trans (natAbs_log2_lt (n := 80) (by omega) (by decide)) (by decide), fun k a b k0 k1 hg => ⟨_, rfl, hK _ ?_⟩⟩
  simp
  refine useTake rfl hg (by decide) (by decide) fun j a b j0 j1 hg => ⟨_, rfl, ?_⟩
  by_cases h : j = 0
  · simp [h]
    exact hp _ _ _ (by omega) (by omega) hg
  · simp [h]
    exact hp _ _ _ (by omega) (by omega) hg
theorem mNumbers : ∀ xs M P PX, spNumbers xs M P PX → tdNumbers (startS ["_law_source", "_law_n", "_law_top", "_law_x"] xs M) (endE M.length P) (endX M.length PX) := by
  rintro xs M P PX ⟨n, a, b, rfl, rfl, hg, n0, n1, hp⟩
  unfold tdNumbers
  refine dSeq_mid (fun s => ∃ (t a b : Int), 1 ≤ t ∧ t ≤ 1000000001 ∧ Good a b ∧ s = ⟨[.cell 0, .dat (.int n), .dat (.int t), .no], [src a b]⟩) (fun K hK => ?_) ?_
  · simp
    refine ⟨by unfold CPow; decide, by decide, useOne rfl rfl hg (by simp) (by simp) fun d a b hd hg => ⟨_, rfl, ?_⟩⟩
    simp at hd
    rcases hd with rfl | rfl | rfl | rfl <;> exact hK _ ⟨_, a, b, by decide, by decide, hg, rfl⟩
  rintro s ⟨t, a, b, t0, t1, hg, rfl⟩
  simp
  refine ⟨by constructor <;> omega, ?_⟩
  refine lc_draws (fun a b => [src a b]) (fun v => -1000000000 ≤ v ∧ v ≤ 1000000000) _ (by rw [length_rangeD]; omega) hg (fun a b hg d _ K hK => ?_) (fun L a b hl hv hg => ?_)
  · simp
    exact ⟨t, a, b, rfl, rfl, hg, t0, by omega, fun x a b h1 h2 hg => ⟨_, rfl, hK _ _ _ (by omega) hg⟩⟩
  · rw [length_rangeD] at hl
    simp
    exact hp _ _ _ (by omega) hv hg
theorem mFault : ∀ xs M P PX, spFault xs M P PX → tdFault (startS ["_law_strengths", "_law_guards", "_law_at", "_law_number_here"] xs M) (endE M.length P) (endX M.length PX) := by
  rintro xs M P PX ⟨ss, gs, rfl, rfl, hp⟩
  have z2 : 2 ≤ sizeLine := by decide
  have c1 : CPow 10 9 := by unfold CPow; decide
  unfold tdFault
  refine dSeq_k fun K hK => ?_
  unfold badF at hp
  by_cases hs : ss.length < 1 ∨ 32 < ss.length
  · rw [if_pos hs] at hp
    simp [faultD] at hp
    by_cases h1 : 1 ≤ (ss.length : Int)
    · have h2 : ¬ (ss.length : Int) ≤ 32 := by omega
      simp [h1, h2, z2]
      exact hp
    · simp [h1, z2]
      exact hp
  · rw [if_neg hs] at hp
    have h1 : (1 : Int) ≤ ss.length := by omega
    have h2 : (ss.length : Int) ≤ 32 := by omega
    simp [h1, h2]
    refine hK _ ?_
    clear hK K
    refine dSeq_mid (fun s => ∃ (x2 x3 : Sl), s = ⟨[.dat (.lst (ss.map .int)), .dat (.lst (gs.map .int)), x2, x3], []⟩ ∧ firstOut ss = none) (fun K hK => ?_) ?_
    · simp
      rw [enumD_ints]
      refine loop_rec (fun p : Int × Nat => D.tup [.int (p.2 : Nat), .int p.1]) (fun xs s => ∃ (l : List Int) (k : Nat) (x2 x3 : Sl), s = ⟨[.dat (.lst (ss.map .int)), .dat (.lst (gs.map .int)), x2, x3], []⟩ ∧ xs = l.zipIdx k ∧ firstOutK k l = firstOut ss) ?_ ?_ (ss.zipIdx) _ rfl ⟨ss, 0, _, _, rfl, rfl, rfl⟩
      · rintro x xs s K ⟨l, k, x2, x3, rfl, hx, hf⟩ hK
        cases l with
        | nil => simp at hx
        | cons v l =>
          rw [List.zipIdx_cons] at hx
          cases hx
          unfold firstOutK outI at hf
          by_cases c2 : (-1000000000 : Int) ≤ v
          · by_cases c3 : v ≤ 1000000000
            · simp [c1, c2, c3, z2] at hf ⊢
              exact hK _ ⟨l, k + 1, _, _, rfl, rfl, hf⟩
            · simp [c1, c2, c3, z2] at hf ⊢
              rw [← hf] at hp
              simpa [faultD] using hp
          · simp [c1, c2, z2] at hf ⊢
            rw [← hf] at hp
            simpa [faultD] using hp
      · rintro s ⟨l, k, x2, x3, rfl, hx, hf⟩
        cases l with
        | nil => exact hK _ ⟨_, _, rfl, hf.symm⟩
        | cons v l => rw [List.zipIdx_cons] at hx; cases hx
    rintro s ⟨x2, x3, rfl, hf⟩
    rw [hf] at hp
    refine dSeq_k fun K hK => ?_
    by_cases hl : gs.length = ss.length
    · rw [if_neg (by simpa using hl)] at hp
      simp [hl]
      refine hK _ ?_
      clear hK K
      refine dSeq_mid (fun s => ∃ (x2 x3 : Sl), s = ⟨[.dat (.lst (ss.map .int)), .dat (.lst (gs.map .int)), x2, x3], []⟩ ∧ firstOut gs = none) (fun K hK => ?_) ?_
      · simp
        rw [enumD_ints]
        refine loop_rec (fun p : Int × Nat => D.tup [.int (p.2 : Nat), .int p.1]) (fun xs s => ∃ (l : List Int) (k : Nat) (x2 x3 : Sl), s = ⟨[.dat (.lst (ss.map .int)), .dat (.lst (gs.map .int)), x2, x3], []⟩ ∧ xs = l.zipIdx k ∧ firstOutK k l = firstOut gs) ?_ ?_ (gs.zipIdx) _ rfl ⟨gs, 0, _, _, rfl, rfl, rfl⟩
        · rintro x xs s K ⟨l, k, x2, x4, rfl, hx, hf⟩ hK
          cases l with
          | nil => simp at hx
          | cons v l =>
            rw [List.zipIdx_cons] at hx
            cases hx
            unfold firstOutK outI at hf
            by_cases c2 : (-1000000000 : Int) ≤ v
            · by_cases c3 : v ≤ 1000000000
              · simp [c1, c2, c3, z2] at hf ⊢
                exact hK _ ⟨l, k + 1, _, _, rfl, rfl, hf⟩
              · simp [c1, c2, c3, z2] at hf ⊢
                rw [← hf] at hp
                simpa [faultD] using hp
            · simp [c1, c2, z2] at hf ⊢
              rw [← hf] at hp
              simpa [faultD] using hp
        · rintro s ⟨l, k, x2, x4, rfl, hx, hf⟩
          cases l with
          | nil => exact hK _ ⟨_, _, rfl, hf.symm⟩
          | cons v l => rw [List.zipIdx_cons] at hx; cases hx
      rintro s ⟨x2, x3, rfl, hf⟩
      rw [hf] at hp
      simp
      exact hp
    · rw [if_pos (by simpa using hl)] at hp
      have hl' : ¬ (gs.length : Int) = ss.length := by omega
      simp [hl', z2]
      simpa [faultD] using hp
end DL
namespace DL
open PySem
theorem ofString_inj {a b : String} : Str.ofString a = Str.ofString b ↔ a = b := by
  refine ⟨fun h => ?_, fun h => by rw [h]⟩
  rw [Str.ofString_eq_toList, Str.ofString_eq_toList] at h
  have h1 : a.toList.map Char.toNat = b.toList.map Char.toNat := by
    have := congrArg Str.cps h
    have := congrArg Array.toList this
    simpa using this
  have h2 : a.toList = b.toList := by
    have inj : ∀ l m : List Char, l.map Char.toNat = m.map Char.toNat → l = m := by
      intro l
      induction l with
      | nil => intro m h; cases m with | nil => rfl | cons _ _ => cases h
      | cons c l ih =>
        intro m h
        cases m with
        | nil => cases h
        | cons d m =>
          simp only [List.map_cons, List.cons.injEq] at h
          rw [ih m h.2]
          have : c = d := Char.ext (UInt32.toNat_inj.mp h.1)
          rw [this]
    exact inj _ _ h1
  exact String.toList_inj.mp h2
end DL
namespace DL
theorem rep_len {α : Type} (L : List α) : ∀ k, ((List.replicate k L).flatten).length = k * L.length
  | 0 => by simp
  | k + 1 => by rw [List.replicate_succ, List.flatten_cons, List.length_append, rep_len L k, Nat.succ_mul]; omega
theorem rep_map (L : List Int) : ∀ k, (List.replicate k (L.map D.int)).flatten = ((List.replicate k L).flatten).map D.int
  | 0 => rfl
  | k + 1 => by rw [List.replicate_succ, List.replicate_succ, List.flatten_cons, List.flatten_cons, List.map_append, rep_map L k]
end DL

/-! Defs that hand back a list of their own: by a new one, by an owned one; early returns; recursion. -/
namespace DL
open PySem L2
section
variable {X : Cx} {g : G} {W : WX}
abbrev TDR := S → (List D → S → Prop) → KX → Prop
/-- the list at p is new or was a cell -/
def RFe (g : G) (W : WX) (t : TS) (td : TDR) : Prop := ∀ D σ H w s P PX, RS g w H σ s → td s P PX → XOkS g w H PX W →
  (∀ ds s' w' H' p vs, P ds s' → Mv w H w' H' → (some p ∈ w.cs ∨ H p = none) → w'.bad p → H' p = some (.lst vs) → Reps g w' H' ds vs → D.rt (.ref p) H') → t D σ H
theorem re_ret {tf : TDF} : RFe g W (tRet (lF g W tf)) tf := fun D σ H w s P PX rs h x k => ⟨w, s, P, PX, rs, h, fun ds s' H' p vs q e n nb r hp rv => k ds s' (w.out p) H' p vs q (mv_out e n) (.inr n) (.inr List.mem_cons_self) hp rv, x.ex⟩
@[simp] def dRetC (i : Nat) : TDR := fun s P _ => ∃ c ds, s.r[i]? = some (.cell c) ∧ s.M[c]? = some (some (.lst ds)) ∧ P ds s
theorem re_own {i : Nat} : RFe g W (tRet (tVar i)) (dRetC i) := fun D σ H w s P PX rs ⟨c, ds, ei, em, h⟩ x k => by
  obtain ⟨p, ep, ev⟩ := rs.slot i _ ei
  obtain ⟨p', ep', vs, hp, rv⟩ := rs.mem.at_ c _ em
  rw [ep] at ep'
  cases ep'
  exact ⟨.ref p, ev, k ds s w H p vs h (Mv.refl _ _) (.inl (List.mem_of_getElem? ep)) (.inl (List.mem_of_getElem? ep)) hp rv⟩
theorem new_back {w w1 : Cs} {H H1 : Hp} (m : Mv w H w1 H1) {p : Addr} (h : some p ∈ w1.cs ∨ H1 p = none) (av : ∀ x, x ∈ w.av → some x ∉ w.cs ∧ ∃ o, H x = some o) : some p ∈ w.cs ∨ H p = none := by
  by_cases c : some p ∈ w.cs
  · exact .inl c
  rcases h with h | h
  · rcases m.fresh p (.inl h) with q | q
    · rcases q with q | q
      · exact .inl q
      · exact .inl (m.av p q h)
    · exact .inr q
  · refine .inr ?_
    cases z : H p with
    | none => rfl
    | some o =>
      have := m.ext p o c z
      rw [h] at this
      cases this
theorem re_cons {t : TSd} {u : TS} {ud : TDR} (hu : RFe g W u ud) : RFe g W (tSeq (lS g W t) u) (dSeqF t ud) := fun D σ H w s P PX rs h x k =>
  ⟨w, s, _, PX, rs, h, ⟨fun s1 w1 H1 σ1 q m rs1 => hu D σ1 H1 w1 s1 P PX rs1 q (x.mv m rs.mem.av) fun ds s' w' H' p vs q2 m2 n b hp rv => k ds s' w' H' p vs q2 (m.trans m2 rs.mem.av) (new_back m n rs.mem.av) b hp rv, fun _ _ _ _ h => h.elim, fun _ _ _ _ h => h.elim, fun _ _ _ _ _ _ h => h.elim⟩, x⟩
@[simp] def dIfF (c : TDB) (tf : TDF) (ud : TDR) : TDR := fun s P X => c s (fun b s1 => if b = true then tf s1 P X else ud s1 P X) X
theorem re_if {tb : TDB} {tf : TDF} {u : TS} {ud : TDR} (hu : RFe g W u ud) : RFe g W (tSeq (tIfS (lB g W tb) (tSeq (tRet (lF g W tf)) tNext) tNext) u) (dIfF tb tf ud) := fun D σ H w s P PX rs h x k => by
  refine ⟨w, s, _, PX, rs, h, fun b s1 H1 q e rs1 => ?_, x.ex⟩
  have m : Mv w H w H1 := .of_ext e
  cases b with
  | true =>
    exact ⟨w, s1, P, PX, rs1, q, fun ds s' H' p vs q2 e2 n nb r hp rv => k ds s' (w.out p) H' p vs q2 (m.trans (mv_out e2 n) rs.mem.av) (new_back m (.inr n) rs.mem.av) (.inr List.mem_cons_self) hp rv, (x.mv m rs.mem.av).ex⟩
  | false =>
    exact hu D σ H1 w s1 P PX rs1 q (x.mv m rs.mem.av) fun ds s' w' H' p vs q2 m2 n b hp rv => k ds s' w' H' p vs q2 (m.trans m2 rs.mem.av) (new_back m n rs.mem.av) b hp rv
variable {P : Program} {wd : World} {K : PySem.W.Frag} {mg : Str → Option Value} {base : Heap}
theorem fn_okR {x qual : Str} {st : Stmt} {f : Addr} {fd : FuncData} {N ps : List Str} {k : Nat} {spd : SpF} {td : TDR} (F : Fun K x qual st f fd) (S : FnScope N ps (defScope st)) (g : G)
    (len : ∀ xs M P, spd xs M P → xs.length = ps.length) (hN : ps.length ≤ N.length)
    (body : ∀ (cdv : Value) (A : Around) (outer : List Env) (s : Shared) (H : Hp) (E : XK), Room k (A.deeper (PyProof.Rows.envOfC qual (defScope st) s.heap.objs.size f cdv)) →
      ∃ t, PSs (cxOf (L2.CX P wd) P wd K mg base N qual (defScope st) f cdv A outer s H E) (defBody st) t ∧ RFe g (fun cls d _ H => E cls d H) t td)
    (math : ∀ xs P, spd xs [] P → td (startS N xs []) (fun ds _ => P ds) noX) : FnOk P wd K mg base (L2.CX P wd) (k + 1) f fd ps (lSpF g spd) := by
  refine F.okX S (fun vs H Q E ⟨w, xs, P, _, ra, m, h, _⟩ => (ra.len).trans (len xs _ P h)) fun cdv A outer s H vs Q E hr ⟨w, xs, P, hw, ra, m, h, kq⟩ => ?_
  obtain ⟨t, ht, hf⟩ := body cdv A outer s H E hr
  refine ⟨t, ht, hf _ _ H w (startS N xs []) _ noX (rs_start (by rw [len xs _ P h]; exact hN) ra m) (math xs P h) (fun _ _ _ _ _ _ _ _ h => h.elim) ?_⟩
  intro ds s' w' H' p us pz m1 n b hp rv
  have hpn : H p = none := by
    rcases n with n | n
    · rw [hw] at n; cases n
    · exact n
  refine kq ds p H' us pz m1.ext hpn (m.fresh hpn) (Reps.gen (fun a o na ea => ⟨ea, fun z => ?_⟩) rv) hp
  rcases Cs.out_bad z with z | z
  · rcases z with z | z
    · rw [hw] at z; cases z
    · exact na (.inr (m1.avk a z))
  · exact na (by rw [z]; exact b)
/-- no call at all -/
theorem fn_none {f : Addr} {fd : FuncData} {ps : List Str} {k : Nat} {spd : SpF} {g : G} (h : ∀ xs M P, ¬ spd xs M P) : FnOk P wd K mg base (L2.CX P wd) k f fd ps (lSpF g spd) :=
  ⟨fun vs H Q E ⟨w, xs, P, _, _, _, z, _⟩ => absurd z (h _ _ _), fun _ _ _ _ _ _ _ _ _ _ _ _ _ ⟨w, xs, P, _, _, _, z, _⟩ => absurd z (h _ _ _)⟩
end
end DL

/-! Constants that are tuples of ints; sum, max, min of one list; any of a tuple of ints. -/
namespace DL
open PySem L2 PyProof.Rows
/-- a tuple of ints that the top has written -/
def CtAt (K : PySem.W.Frag) (a : Addr) (ns : List Int) : Prop := ∃ (o : Obj) (its : Array Value) (n : Nat), K.lookup a = some o ∧ o.cls = .type "tuple" ∧ o.data = .seq its n ∧ its.size ≤ sizeLine ∧ Vals (ns.map V.int) its.toList
section
variable {X : Cx} {g : G} {W : WX} {pos p : Pos} {a b c e : Expr} {ta tb tc td : TD} {w : Cs} {H H' : Hp} {σ : L2.St} {s : S} {t : TDA} {es : List Expr}
theorem CtAt.rep (hk : g.K = X.K) {ad : Addr} {ns : List Int} (h : CtAt X.K ad ns) : Rep g w H (.ct (ns.map .int)) (.ref ad) := by
  simp only [Rep]
  obtain ⟨o, its, n, h1, h2, h3, h4, h5⟩ := h
  exact ⟨ad, _, rfl, ⟨o, its, n, by rw [hk]; exact h1, h2, h3, h4, h5⟩, Reps.of_ints ns⟩
theorem de_ct (hk : g.K = X.K) {x : Str} {ad : Addr} {ns : List Int} (hg : Gl X x) (hm : X.mg x = some (.ref ad)) (h : CtAt X.K ad ns) (hd : (x == ("__debug__" : Str)) = false := by decide) : PE X (.Name x pos) (lE g W (dC (.ct (ns.map .int)))) :=
  de_c (pe_glob (v := .ref ad) hg hm rfl hd) fun _ _ => h.rep hk
/-- for .. in a constant -/
@[simp] def dIterCt (td : TD) : TDI := fun s P X => td s (fun d s1 => ∃ ds, d = .ct ds ∧ P ds s1) X
theorem walkD_ct {ad : Addr} {ds : List D} {vs : List V} (K : PySem.W.Frag) (h : ∀ H, SqT K H ad vs) (rv : Reps g w H ds vs) : WalkD g w H (Itt K ad) ds :=
  ⟨fun H => SqT K H ad vs, YAt vs, by rw [← rv.len]; exact walk_tup, fun w' H' m => h H', fun i w' H1 x H2 hi m _ y => by
    obtain ⟨e, y⟩ := y
    subst e
    exact ⟨Same0, (rv.mv m).get y⟩⟩
theorem di_ct (hk : g.K = X.K) {tg l : Expr} (hl : PE X l (lE g W ta)) : PI X tg l (lI g W (dIterCt ta)) := pi_imp (pi_seq hl) fun σ H R ⟨w, s, P, PX, rs, h, k, x⟩ =>
  ⟨w, s, _, PX, rs, h, fun d s1 H1 v q e1 rs1 rp => by
    obtain ⟨ds, ed, q⟩ := q
    subst ed
    simp only [Rep] at rp
    obtain ⟨ad, vs, e, n, rv⟩ := rp
    rw [hk] at n
    exact ⟨ad, e, .inr ⟨vs, .inr n, k _ s1 H1 _ q e1 rs1 (walkD_ct _ (fun H => .inr n) rv)⟩⟩, x⟩
/-- in, not in a constant -/
@[simp] def rInC (neg : Bool) : RD := fun x y P => match y with
  | .ct ds => flatD x = true ∧ ds.all flatD = true ∧ P (.bl (if neg then !inD x ds else inD x ds))
  | _ => False
theorem l_inC {neg : Bool} (hk : g.K = X.K) : ∀ x y H Q, lR g (rInC neg) x y H Q → rIn X.K neg x y H Q := fun x y H Q ⟨w, d, e, P, rd, re, r, nb, q⟩ => by
  cases e <;> try exact r.elim
  obtain ⟨h1, h2, r⟩ := r
  simp only [Rep] at re
  obtain ⟨p, vs, e, n, rv⟩ := re
  rw [hk] at n
  refine ⟨p, vs, e, .inr (.inr n), rd.flat h1, rv.flat h2, q _ _ H r Same0 ?_⟩
  simp only [Rep]
  rw [inV_D rd h1 rv h2]
/-! ### sum, max, min of a list of ints -/
@[simp] def rSumD : RCd := fun xs M P => match xs with
  | [.dat (.lst ds)] => ∃ ns : List Int, ds = ns.map .int ∧ P (.int ns.sum)
  | _ => False
@[simp] def rMax1D : RCd := fun xs M P => match xs with
  | [.dat (.lst ds)] => ∃ ns : List Int, ds = ns.map .int ∧ 0 < ns.length ∧ ∀ m, m ∈ ns → (∀ y, y ∈ ns → y ≤ m) → P (.int m)
  | _ => False
@[simp] def rMin1D : RCd := fun xs M P => match xs with
  | [.dat (.lst ds)] => ∃ ns : List Int, ds = ns.map .int ∧ 0 < ns.length ∧ ∀ m, m ∈ ns → (∀ y, y ∈ ns → m ≤ y) → P (.int m)
  | _ => False
theorem l_sumD : ∀ vs H Q, lC g rSumD vs H Q → rSum X.K vs H Q := fun vs H Q ⟨w, xs, M, P, ha, m, r, q⟩ => by
  match xs, r, ha with
  | [.dat (.lst ds)], ⟨ns, ed, r⟩, ha =>
    obtain ⟨v, e, h⟩ := ArgOk.one ha
    subst e ed
    simp only [Rep] at h
    obtain ⟨p, ys, e, n, hp, rv⟩ := h
    subst e
    have e := rv.ints
    subst e
    exact ⟨p, ns, rfl, SqL.of hp, q _ _ _ r Same0 (by simp only [Rep])⟩
theorem l_max1 : ∀ vs H Q, lC g rMax1D vs H Q → rMax X.K vs H Q := fun vs H Q ⟨w, xs, M, P, ha, m, r, q⟩ => by
  match xs, r, ha with
  | [.dat (.lst ds)], ⟨ns, ed, hl, r⟩, ha =>
    obtain ⟨v, e, h⟩ := ArgOk.one ha
    subst e ed
    simp only [Rep] at h
    obtain ⟨p, ys, e, n, hp, rv⟩ := h
    subst e
    have e := rv.ints
    subst e
    exact ⟨p, ns, rfl, SqL.of hp, hl, fun z h1 h2 => q _ _ _ (r z h1 h2) Same0 (by simp only [Rep])⟩
theorem l_min1 : ∀ vs H Q, lC g rMin1D vs H Q → rMin X.K vs H Q := fun vs H Q ⟨w, xs, M, P, ha, m, r, q⟩ => by
  match xs, r, ha with
  | [.dat (.lst ds)], ⟨ns, ed, hl, r⟩, ha =>
    obtain ⟨v, e, h⟩ := ArgOk.one ha
    subst e ed
    simp only [Rep] at h
    obtain ⟨p, ys, e, n, hp, rv⟩ := h
    subst e
    have e := rv.ints
    subst e
    exact ⟨p, ns, rfl, SqL.of hp, hl, fun z h1 h2 => q _ _ _ (r z h1 h2) Same0 (by simp only [Rep])⟩
theorem de_sum (hc : X.calm = true) (hg : Gl X "sum") (hm : X.mg "sum" = none) (ha : PA X (e :: es) (lA g W t)) (he : starEach (e :: es) X.env = (false, eval e X.env) :: starEach es X.env := by rfl) (hpl : (backTo pos (starEach es X.env)).any (·.1) = false := by rfl) :
    PE X (.Call (.Name "sum" p) (e :: es) [] pos) (lE g W (dCB rSumD t)) := pe_imp (pe_callB (cr_sum hc) hg hm (by decide +kernel) ha (by decide) (by decide) he hpl) (l_cb l_sumD)
theorem de_max1 (hc : X.calm = true) (hg : Gl X "max") (hm : X.mg "max" = none) (ha : PA X (e :: es) (lA g W t)) (he : starEach (e :: es) X.env = (false, eval e X.env) :: starEach es X.env := by rfl) (hpl : (backTo pos (starEach es X.env)).any (·.1) = false := by rfl) :
    PE X (.Call (.Name "max" p) (e :: es) [] pos) (lE g W (dCB rMax1D t)) := pe_imp (pe_callB (cr_max hc) hg hm (by decide +kernel) ha (by decide) (by decide) he hpl) (l_cb l_max1)
theorem de_min1 (hc : X.calm = true) (hg : Gl X "min") (hm : X.mg "min" = none) (ha : PA X (e :: es) (lA g W t)) (he : starEach (e :: es) X.env = (false, eval e X.env) :: starEach es X.env := by rfl) (hpl : (backTo pos (starEach es X.env)).any (·.1) = false := by rfl) :
    PE X (.Call (.Name "min" p) (e :: es) [] pos) (lE g W (dCB rMin1D t)) := pe_imp (pe_callB (cr_min hc) hg hm (by decide +kernel) ha (by decide) (by decide) he hpl) (l_cb l_min1)
/-! ### any of a tuple of ints -/
theorem any_rangeI : ∀ ns : List Int, (List.range ns.length).any (fun i => ns.getD i 0 != 0) = ns.any (· != 0)
  | [] => rfl
  | b :: bs => by
    rw [List.length_cons, List.range_succ_eq_map, List.any_cons, List.any_map, List.any_cons, ← any_rangeI bs]
    all_goals rfl
theorem truth_ints {prog : Program} {w : World} {A : Around} : ∀ {ns : List Int} {its : List Value}, Vals (ns.map V.int) its → TruthOf prog w A (fun i v => its.toArray[i]? = some v) (fun i => ns.getD i 0 != 0) := fun {ns its} hv i v s Q E hi hq => by
  have hi' : its[i]? = some v := by simpa using hi
  have key : ∀ {ns : List Int} {its : List Value} {i : Nat}, Vals (ns.map V.int) its → its[i]? = some v → ∃ n t, ns[i]? = some n ∧ v = .int n t := by
    intro ns
    induction ns with
    | nil => intro its i h e; cases h; simp at e
    | cons n ns ih =>
      intro its i h e
      rw [List.map_cons] at h
      cases h with
      | cons r rs =>
        obtain ⟨t, rfl⟩ := r
        cases i with
        | zero => simp at e; exact ⟨n, t, rfl, e.symm⟩
        | succ i => simp at e; obtain ⟨m, t, e1, e2⟩ := ih rs e; exact ⟨m, t, by simpa using e1, e2⟩
  obtain ⟨n, t, e1, rfl⟩ := key hv hi'
  have hg : ns.getD i 0 = n := by rw [List.getD_eq_getElem?_getD, e1]; rfl
  have hq' : Q (ns.getD i 0 != 0) s := hq
  rw [hg] at hq'
  exact PySem.P.truthy_int hq'
def rAnyT (K : PySem.W.Frag) : List V → Hp → VK → Prop := fun vs H Q => ∃ (a : Addr) (ns : List Int), vs = [V.ref a] ∧ SqT K H a (ns.map V.int) ∧ Q (.bl (ns.any (· != 0))) H
theorem cr_anyT (hc : X.calm = true) : CallR X (.builtin "any") (rAnyT X.K) := by
  intro pins s σ H vs us Q I r h
  obtain ⟨a, ns, rfl, hs, q⟩ := h
  obtain ⟨its, rv, hl, _⟩ := I.tuple hs
  rw [Vals.ref1 r]
  have hlt : a < s.heap.objs.size := by obtain ⟨_, e, _⟩ := hl; exact Heap.lt_size e
  refine call_any_walk (wpAny_pyIter_tuple (show s.heap.IsTuple a its.toArray from hl) ?_)
  refine ⟨_, _, _, _, _, _, _, rfl, Walks.tuple (A := X.A.in1) (I.ok.hd hc) _ a (Nat.ne_of_lt hlt) its.toArray, ⟨⟨_, Heap.get?_push_size _ rfl, rfl, rfl⟩, hl.push _⟩, truth_ints rv, fun h' tk hk => ?_⟩
  refine ⟨.bl _, H, I.kept fun b o eo => hk b o (fun hmem => ?_) (Heap.get?_push_of_some _ eo), ?_, q⟩
  · rcases List.mem_cons.mp hmem with e1 | hmem
    · exact absurd (e1 ▸ Heap.lt_size eo) (Nat.lt_irrefl _)
    · cases hmem
  · show Value.bool _ = Value.bool _
    rw [← any_rangeI, List.size_toArray, ← rv.length, List.length_map]
@[simp] def rAnyD : RCd := fun xs M P => match xs with
  | [.dat (.tup ds)] => ∃ ns : List Int, ds = ns.map .int ∧ P (.bl (ns.any (· != 0)))
  | _ => False
theorem l_anyD : ∀ vs H Q, lC g rAnyD vs H Q → rAnyT X.K vs H Q := fun vs H Q ⟨w, xs, M, P, ha, m, r, q⟩ => by
  match xs, r, ha with
  | [.dat (.tup ds)], ⟨ns, ed, r⟩, ha =>
    obtain ⟨v, e, h⟩ := ArgOk.one ha
    subst e ed
    simp only [Rep] at h
    obtain ⟨p, ys, e, n, hp, rv⟩ := h
    subst e
    have e := rv.ints
    subst e
    exact ⟨p, ns, rfl, SqT.of hp, q _ _ _ r Same0 (by simp only [Rep])⟩
theorem de_any (hc : X.calm = true) (hg : Gl X "any") (hm : X.mg "any" = none) (ha : PA X (e :: es) (lA g W t)) (he : starEach (e :: es) X.env = (false, eval e X.env) :: starEach es X.env := by rfl) (hpl : (backTo pos (starEach es X.env)).any (·.1) = false := by rfl) :
    PE X (.Call (.Name "any" p) (e :: es) [] pos) (lE g W (dCB rAnyD t)) := pe_imp (pe_callB (cr_anyT hc) hg hm (by decide +kernel) ha (by decide) (by decide) he hpl) (l_cb l_anyD)
end
end DL

/-! (..) * k of a tuple for any small k. -/
namespace DL
open PySem PySem.Spec PyProof.Rows L2
theorem tuple_mul1 (l : Addr) (items : Array Value) (n : Nat) (dd : Option Addr) (sl : Array (Option Value)) (u : Tok) (ne : items.isEmpty = false) :
    Meets (Builtin.«tuple.__mul__» ⟨[.ref l, .int 1 u], []⟩) (fun _ R s => s.heap.get? l = some { cls := .type "tuple", dict := dd, data := .seq items n, slots := sl } ∧ R (.ok (.ret (Value.ref l))) s) :=
  .of_wp fun prog w A R s h => by
    obtain ⟨hp, g, d, tk, os⟩ := s
    obtain ⟨hl, h⟩ := h
    have f1 := AutoSeq1.idx_int
    have c0 : (decide ((1 : Int) < -(2 ^ 63)) || decide ((1 : Int) ≥ 2 ^ 63)) = false := by decide
    have c1 : (items.isEmpty || (1 : Int) == 1) = true := by rw [ne]; rfl
    wp_walk using wpAny_loadPart' hl
    repeat (first
      | (refine wpAny_ite_false (decide_eq_false (by rw [c0]; exact Bool.false_ne_true)) ?_; wp_walk using wpAny_loadPart' hl)
      | (refine wpAny_ite_true (decide_eq_true c1) ?_; wp_walk using wpAny_loadPart' hl))
    exact ⟨_, rfl, h⟩
theorem tuple_mul0 (l : Addr) (items : Array Value) (n : Nat) (dd : Option Addr) (sl : Array (Option Value)) (x : Int) (u : Tok) (c0 : (decide (x < -(2 ^ 63)) || decide (x ≥ 2 ^ 63)) = false) (c1 : (items.isEmpty || x == 1) = false) (c2 : (decide (x ≤ 0) || items.isEmpty) = true) :
    Meets (Builtin.«tuple.__mul__» ⟨[.ref l, .int x u], []⟩) (fun _ R s => s.heap.get? l = some { cls := .type "tuple", dict := dd, data := .seq items n, slots := sl } ∧
      R (.ok (.ret (Value.ref s.heap.objs.size))) { s with heap := s.heap.push { cls := Value.type "tuple", data := Data.seq #[] }, toks := s.toks }) :=
  .of_wp fun prog w A R s h => by
    obtain ⟨hp, g, d, tk, os⟩ := s
    obtain ⟨hl, h⟩ := h
    have f1 := AutoSeq1.idx_int
    wp_walk using wpAny_loadPart' hl
    repeat (first
      | (refine wpAny_ite_false (decide_eq_false (by rw [c0]; exact Bool.false_ne_true)) ?_; wp_walk using wpAny_loadPart' hl)
      | (refine wpAny_ite_false (decide_eq_false (by rw [c1]; exact Bool.false_ne_true)) ?_; wp_walk using wpAny_loadPart' hl)
      | (refine wpAny_ite_true (decide_eq_true c2) ?_; wp_walk using wpAny_loadPart' hl))
    exact ⟨_, rfl, h⟩
section
variable {X : Cx}
/-- not empty, times 1 at most -/
def rRepT01 (K : PySem.W.Frag) : R2 := fun x y H Q => ∃ l k xs, x = .ref l ∧ y = .int k ∧ SqT K H l xs ∧ xs ≠ [] ∧ -1000 ≤ k ∧ k ≤ 1 ∧ (k = 1 → Q (.ref l) H) ∧ (k ≠ 1 → ∀ p, H p = none → Q (.ref p) (upd H p (.tup [])))
theorem op_repT01 : OpR X (binaryOp .Mult) (rRepT01 X.K) := by
  intro pins s σ H x y v u Q I rx ry h
  obtain ⟨l, k, xs, rfl, rfl, hT, hne, h1, h2, q1, q2⟩ := h
  cases rx
  obtain ⟨t, rfl⟩ := ry
  obtain ⟨its, r, ⟨⟨cls, dd, data, sl⟩, ho, hc, n, hd⟩, hs⟩ := I.tuple hT
  simp only at hc hd
  subst hc hd
  have hle : its.length = xs.length := r.length.symm
  have hn : its ≠ [] := fun e => hne (by
    rw [e] at hle
    exact List.eq_nil_of_length_eq_zero hle.symm)
  have hi : its.toArray.isEmpty = false := by
    cases its with
    | nil => exact absurd rfl hn
    | cons a b => rfl
  by_cases hk : k = 1
  · subst hk
    refine wpAny_binaryOp_repeat_ref (T := "tuple") (U := "int") (by decide) ⟨_, ho, rfl⟩ (fun s' => typeIs_int s' 1 t) noFill_tuple_mul F.fills_int_mul F.slot_int_rmul repeat_tuple F.slot_int_index.lookup
      (call_meets F.slot_int_rmul (typeIs_int s 1 t) F.entry_int_rmul (F.args_int_rmul_2 _ _) (int_rmul_tuple 1 t l its.toArray n dd sl)
        ⟨ho, rfl, ⟨_, ho, rfl⟩, call_meets F.slot_tuple_mul ⟨_, ho, rfl⟩ F.entry_tuple_mul (F.args_tuple_mul_2 _ _) (tuple_mul1 l its.toArray n dd sl t hi) ⟨ho, ?_⟩⟩)
    exact ⟨.ref l, H, I, rfl, q1 rfl⟩
  · have c0 : (decide (k < -(2 ^ 63)) || decide (k ≥ 2 ^ 63)) = false := by
      rw [decide_eq_false (by omega), decide_eq_false (by omega)] <;> rfl
    have c1 : (its.toArray.isEmpty || k == 1) = false := by
      rw [hi, Bool.false_or]
      exact beq_eq_false_iff_ne.mpr hk
    have c2 : (decide (k ≤ 0) || its.toArray.isEmpty) = true := by
      rw [decide_eq_true (by omega)]; rfl
    refine wpAny_binaryOp_repeat_ref (T := "tuple") (U := "int") (by decide) ⟨_, ho, rfl⟩ (fun s' => typeIs_int s' k t) noFill_tuple_mul F.fills_int_mul F.slot_int_rmul repeat_tuple F.slot_int_index.lookup
      (call_meets F.slot_int_rmul (typeIs_int s k t) F.entry_int_rmul (F.args_int_rmul_2 _ _) (int_rmul_tuple k t l its.toArray n dd sl)
        ⟨ho, rfl, ⟨_, ho, rfl⟩, call_meets F.slot_tuple_mul ⟨_, ho, rfl⟩ F.entry_tuple_mul (F.args_tuple_mul_2 _ _) (tuple_mul0 l its.toArray n dd sl k t c0 c1 c2) ⟨ho, ?_⟩⟩)
    refine ⟨.ref s.heap.objs.size, _, I.laid (t' := s.toks) (o := .tup []) (fun b ob q => Heap.get?_push_of_some _ q) (Nat.le_refl _) ?_, rfl, q2 hk _ (I.hok.fresh (Nat.le_refl _))⟩
    exact ⟨Nat.zero_le _, [], .nil, IsTup.new _ _⟩
variable {g : G} {W : WX} {pos : Pos} {a b : Expr} {ta tb : TD}
/-- (..) * k, k small -/
@[simp] def rRepTD : RD := fun x y P => match x, y with
  | .tup a, .int k => (a ≠ [] ∧ -1000 ≤ k ∧ k ≤ 1000 ∧ a.length ≤ 1000) ∧ P (.tup (List.replicate k.toNat a).flatten)
  | _, _ => False
theorem de_mulT (ha : PE X a (lE g W ta)) (hb : PE X b (lE g W tb)) : PE X (.BinOp a .Mult b pos) (lE g W (dOp rRepTD ta tb)) := de_op (op_repT.or op_repT01) (fun x y H Q h => by
  obtain ⟨w, d, e, P, rd, re, r, nb, q⟩ := h
  cases d <;> cases e <;> try exact r.elim
  rename_i ds k
  simp only [Rep] at rd re
  obtain ⟨l, vs, e, n, hl, rv⟩ := rd
  obtain ⟨⟨c1, c2, c3, c4⟩, r⟩ := r
  subst e re
  have hv : vs ≠ [] := fun z => c1 (by
    have := rv.len
    rw [z] at this
    exact List.length_eq_zero_iff.mp this.symm)
  by_cases hk : 2 ≤ k
  · exact .inl ⟨l, k, vs, rfl, rfl, SqT.of hl, hv, hk, c3, by rw [rv.len]; exact c4, fun p hp => q _ _ _ r (same_upd hp) (Rep.tup (nb p hp) upd_same (Reps.mv (Reps.rep rv _) (.of_same (same_upd hp))))⟩
  · refine .inr ⟨l, k, vs, rfl, rfl, SqT.of hl, hv, c2, by omega, fun z => ?_, fun z p hp => ?_⟩
    · subst z
      have e : (List.replicate (1 : Int).toNat ds).flatten = ds := by show (List.replicate 1 ds).flatten = ds; simp
      rw [e] at r
      exact q _ _ _ r Same0 (Rep.tup n hl rv)
    · have e : (List.replicate k.toNat ds).flatten = [] := by rw [show k.toNat = 0 by omega]; rfl
      rw [e] at r
      exact q _ _ _ r (same_upd hp) (Rep.tup (nb p hp) upd_same Reps.nil)) ha hb
end
end DL

/-! x.remove(n), x.extend(xs), list(xs), abs(n). -/
namespace DL
open PySem L2
section
variable {X : Cx} {g : G} {W : WX} {pos p : Pos} {e : Expr} {es : List Expr} {td : TD} {t : TDA}
@[simp] def fRemI : List D → D → (D → List D → Prop) → Prop := fun ds d P => ∃ (ns : List Int) (k : Int) (j : Nat), ds = ns.map .int ∧ d = .int k ∧ ns[j]? = some k ∧ (∀ m : Nat, m < j → ns[m]? ≠ some k) ∧ P .non ((ns.eraseIdx j).map .int)
theorem de_remove (i : Nat) (h : PE X e (tBM X.K "list" rRemI (tVar i) (tCons (lE g W td) tNil))) : PE X e (lE g W (dMeth1 i fRemI td)) := pe_imp h (l_meth1 fun a vs v w H ds d P Q hp rv rp ⟨ns, k, j, e1, e2, h1, h2, pz⟩ kk => by
  subst e1 e2
  simp only [Rep] at rp
  subst rp
  have e := rv.ints
  subst e
  exact ⟨a, ns, k, j, rfl, rfl, hp, h1, h2, kk _ _ _ _ pz (by simp only [Rep]) (Reps.of_ints _)⟩)
@[simp] def fExtend : List D → D → (D → List D → Prop) → Prop := fun ds d P => ∃ es, d = .lst es ∧ ds.length + es.length ≤ sizeLine ∧ P .non (ds ++ es)
theorem de_extend (i : Nat) (h : PE X e (tBM X.K "list" rExtend (tVar i) (tCons (lE g W td) tNil))) : PE X e (lE g W (dMeth1 i fExtend td)) := pe_imp h (l_meth1 fun a vs v w H ds d P Q hp rv rp ⟨es, e1, hl, pz⟩ kk => by
  subst e1
  simp only [Rep] at rp
  obtain ⟨b, us, eb, n, hb, ru⟩ := rp
  subst eb
  exact ⟨a, b, vs, us, rfl, rfl, hp, hb, by rw [rv.len, ru.len]; exact hl, kk _ _ _ _ pz (by simp only [Rep]) (Reps.app rv ru)⟩)
/-- list(xs): a new list -/
@[simp] def dListF (t : TDA) : TDF := fun s P X => t s (fun xs s1 => ∃ d ds, xs = [.dat d] ∧ seqD d = some ds ∧ P ds s1) X
theorem df_list (hg : Gl X "list") (hm : X.mg "list" = none) (ha : PA X (e :: es) (lA g W t)) (he : starEach (e :: es) X.env = (false, eval e X.env) :: starEach es X.env := by rfl) (hpl : (backTo pos (starEach es X.env)).any (·.1) = false := by rfl) :
    PE X (.Call (.Name "list" p) (e :: es) [] pos) (lF g W (dListF t)) := pe_imp (pe_callTy call_list_of hg hm (by decide +kernel) ha (by decide) (by decide) he hpl) fun σ H Q ⟨w, s, P, PX, rs, h, k, x⟩ =>
  ⟨w, s, _, PX, rs, h, fun xs s1 H1 vs q e1 rs1 ra => by
    obtain ⟨d, ds, exs, ed, q⟩ := q
    subst exs
    obtain ⟨v, ev, rp⟩ := ArgOk.one ra
    subst ev
    have fin : ∀ (l : Addr) (ys : List V), H1 l = none → Reps g w H1 ds ys → Q (.ref l) (upd H1 l (.lst ys)) := fun l ys hl rv => by
      have nb := rs1.mem.fresh hl
      exact k ds s1 _ l ys q (e1.trans (.of_same (same_upd hl))) (fresh0 e1 nb hl) nb (rs1.out hl) upd_same (rv.mv (mv_out (.of_same (same_upd hl)) hl))
    cases d <;> simp only [seqD, reduceCtorEq, Option.some.injEq] at ed
    · subst ed
      simp only [Rep] at rp
      obtain ⟨a, ys, e, n, hp, rv⟩ := rp
      exact ⟨a, ys, by rw [e], .inr (SqT.of hp), fun l hl => fin l ys hl rv⟩
    · subst ed
      simp only [Rep] at rp
      obtain ⟨a, ys, e, n, hp, rv⟩ := rp
      exact ⟨a, ys, by rw [e], .inl (SqL.of hp), fun l hl => fin l ys hl rv⟩, x⟩
@[simp] def rAbsD : RCd := fun xs M P => match xs with
  | [.dat (.int i)] => P (.int (if i < 0 then -i else i))
  | _ => False
theorem l_abs : ∀ (vs : List V) (H : Hp) (Q : VK), lC g rAbsD vs H Q → ∃ i, vs = [V.int i] ∧ Q (.int (if i < 0 then -i else i)) H := fun vs H Q ⟨w, xs, M, P, ha, m, r, q⟩ => by
  match xs, r, ha with
  | [.dat (.int i)], r, ha =>
    obtain ⟨v, e, h⟩ := ArgOk.one ha
    subst e
    simp only [Rep] at h
    subst h
    exact ⟨i, rfl, q _ _ _ r Same0 (by simp only [Rep])⟩
theorem de_abs (hg : Gl X "abs") (hm : X.mg "abs" = none) (ha : PA X (e :: es) (lA g W t)) (he : starEach (e :: es) X.env = (false, eval e X.env) :: starEach es X.env := by rfl) (hpl : (backTo pos (starEach es X.env)).any (·.1) = false := by rfl) :
    PE X (.Call (.Name "abs" p) (e :: es) [] pos) (lE g W (dCB rAbsD t)) := pe_imp (pe_callB call_abs hg hm (by decide +kernel) ha (by decide) (by decide) he hpl) (l_cb l_abs)
/-- math.gcd -/
theorem de_gcd (hg : Gl X "gcd") (hm : X.mg "gcd" = some (.builtin "math.gcd")) (ha : PA X (e :: es) (lA g W t)) (he : starEach (e :: es) X.env = (false, eval e X.env) :: starEach es X.env := by rfl) (hpl : (backTo pos (starEach es X.env)).any (·.1) = false := by rfl) :
    PE X (.Call (.Name "gcd" p) (e :: es) [] pos) (lE g W (dCB (r2I fun i j => ((Nat.gcd i.natAbs j.natAbs : Nat) : Int)) t)) := pe_imp (pe_callBfun cr_gcd hg hm ha (by decide) he hpl) (l_cb l_2I)
end
end DL

/-! Cells that are dicts: keys ints (dk) or tuples of ints (dt). -/
namespace DL
open PySem L2
section
variable {X : Cx} {g : G} {W : WX} {pos pos' : Pos} {a b c e o i : Expr} {ta tb tc td ty tv : TD} {w : Cs} {H H' : Hp} {σ : L2.St} {s : S} {t : TDA} {α β : Type} [DecidableEq α] [DecidableEq β]
def valD (ks : List (α × D)) (k : α) : Option D := (ks.find? fun p => decide (p.1 = k)).map (·.2)
def putD (ks : List (α × D)) (k : α) (d : D) : List (α × D) := if (ks.any fun p => decide (p.1 = k)) = true then ks.map (fun p => if p.1 = k then (p.1, d) else p) else ks ++ [(k, d)]
@[simp] theorem valD_nil (k : α) : valD ([] : List (α × D)) k = none := rfl
theorem valD_cons (p : α × D) (ks : List (α × D)) (k : α) : valD (p :: ks) k = if p.1 = k then some p.2 else valD ks k := by
  unfold valD
  by_cases h : p.1 = k
  · rw [if_pos h, List.find?_cons_of_pos (by simpa using h)]; rfl
  · rw [if_neg h, List.find?_cons_of_neg (by simpa using h)]
theorem valD_any (ks : List (α × D)) (k : α) : (ks.any fun p => decide (p.1 = k)) = (valD ks k).isSome := by
  induction ks with
  | nil => rfl
  | cons p r ih =>
    rw [List.any_cons, valD_cons, ih]
    by_cases h : p.1 = k <;> simp [h]
theorem valD_put (ks : List (α × D)) (k j : α) (d : D) : valD (putD ks k d) j = if j = k then some d else valD ks j := by
  unfold putD
  by_cases h : (ks.any fun p => decide (p.1 = k)) = true
  · rw [if_pos h]
    rw [valD_any] at h
    induction ks with
    | nil => cases h
    | cons p r ih =>
      rw [List.map_cons, valD_cons, valD_cons]
      rw [valD_cons] at h
      by_cases e : p.1 = k
      · rw [if_pos e]
        by_cases ej : j = k
        · rw [if_pos ej, if_pos (by rw [ej]; exact e)]
        · rw [if_neg ej]
          have ne : ¬ p.1 = j := fun z => ej (z.symm.trans e)
          rw [if_neg ne]
          show valD (r.map fun p => if p.1 = k then (p.1, d) else p) j = if p.1 = j then some p.2 else valD r j
          rw [if_neg ne]
          by_cases hr : (valD r k).isSome = true
          · rw [ih hr, if_neg ej]
          · congr 1
            rw [← valD_any] at hr
            have : r.map (fun p => if p.1 = k then (p.1, d) else p) = r := by
              rw [List.map_congr_left (g := id), List.map_id]
              intro q hq
              have : ¬ q.1 = k := fun z => hr (List.any_eq_true.mpr ⟨q, hq, by simpa using z⟩)
              simp [this]
            rw [this]
      · rw [if_neg e] at h
        rw [if_neg e]
        rw [ih h]
        by_cases e2 : p.1 = j
        · rw [if_pos e2, if_pos e2, if_neg (fun z => e (e2.trans z))]
        · rw [if_neg e2, if_neg e2]
  · rw [if_neg h]
    rw [valD_any] at h
    induction ks with
    | nil =>
      show valD ((k, d) :: []) j = _
      rw [valD_cons]
      by_cases e : j = k
      · subst e; simp
      · rw [if_neg (fun z => e z.symm), if_neg e]
    | cons p r ih =>
      rw [List.cons_append, valD_cons, valD_cons]
      rw [valD_cons] at h
      by_cases e : p.1 = k
      · rw [if_pos e] at h; simp at h
      · rw [if_neg e] at h
        rw [ih h]
        by_cases e2 : p.1 = j
        · rw [if_pos e2, if_pos e2, if_neg (fun z => e (e2.trans z))]
        · rw [if_neg e2, if_neg e2]
theorem RepK.len {enc : α → β} : ∀ {ks : List (α × D)} {ws : List (β × V)}, RepK g w H enc ks ws → ws.length = ks.length
  | [], _, h => by subst h; rfl
  | _ :: ks, _, ⟨v, r, e, q, z⟩ => by subst e; rw [List.length_cons, List.length_cons, RepK.len z]
theorem RepK.val {enc : α → β} (inj : ∀ x y, enc x = enc y → x = y) (k : α) : ∀ {ks : List (α × D)} {ws : List (β × V)}, RepK g w H enc ks ws → (valD ks k = none ∧ valV ws (enc k) = none) ∨ ∃ d v, valD ks k = some d ∧ valV ws (enc k) = some v ∧ Rep g w H d v
  | [], _, h => by subst h; exact .inl ⟨rfl, valV_nil⟩
  | p :: ks, _, ⟨v, r, e, q, z⟩ => by
    subst e
    by_cases hk : p.1 = k
    · exact .inr ⟨p.2, v, by rw [valD_cons, if_pos hk], valV_pos (p := (enc p.1, v)) (by show enc p.1 = enc k; rw [hk]), q⟩
    · rw [valD_cons, if_neg hk, valV_neg (p := (enc p.1, v)) (fun z => hk (inj _ _ z))]
      exact RepK.val inj k z
theorem RepK.any {enc : α → β} (inj : ∀ x y, enc x = enc y → x = y) (k : α) : ∀ {ks : List (α × D)} {ws : List (β × V)}, RepK g w H enc ks ws → (ks.any fun p => decide (p.1 = k)) = (ws.any fun p => decide (p.1 = enc k))
  | [], _, h => by subst h; rfl
  | p :: ks, _, ⟨v, r, e, q, z⟩ => by
    subst e
    rw [List.any_cons, List.any_cons, RepK.any inj k z]
    congr 1
    by_cases hk : p.1 = k
    · simp [hk]
    · have : ¬ enc p.1 = enc k := fun z => hk (inj _ _ z)
      simp [hk, this]
theorem RepK.map {enc : α → β} (inj : ∀ x y, enc x = enc y → x = y) (k : α) {d : D} {u : V} (hd : Rep g w H d u) : ∀ {ks : List (α × D)} {ws : List (β × V)}, RepK g w H enc ks ws → RepK g w H enc (ks.map fun p => if p.1 = k then (p.1, d) else p) (ws.map fun p => if p.1 = enc k then (p.1, u) else p)
  | [], _, h => by subst h; exact rfl
  | p :: ks, _, ⟨v, r, e, q, z⟩ => by
    subst e
    rw [List.map_cons, List.map_cons]
    by_cases hk : p.1 = k
    · rw [if_pos hk, if_pos (by rw [hk])]
      exact ⟨u, _, rfl, hd, RepK.map inj k hd z⟩
    · rw [if_neg hk, if_neg (fun z => hk (inj _ _ z))]
      exact ⟨v, _, rfl, q, RepK.map inj k hd z⟩
theorem RepK.snoc {enc : α → β} (k : α) {d : D} {u : V} (hd : Rep g w H d u) : ∀ {ks : List (α × D)} {ws : List (β × V)}, RepK g w H enc ks ws → RepK g w H enc (ks ++ [(k, d)]) (ws ++ [(enc k, u)])
  | [], _, h => by subst h; exact ⟨u, [], rfl, hd, rfl⟩
  | p :: ks, _, ⟨v, r, e, q, z⟩ => by subst e; exact ⟨v, _, rfl, q, RepK.snoc k hd z⟩
theorem RepK.put {enc : α → β} (inj : ∀ x y, enc x = enc y → x = y) (k : α) {d : D} {u : V} (hd : Rep g w H d u) {ks : List (α × D)} {ws : List (β × V)} (h : RepK g w H enc ks ws) : RepK g w H enc (putD ks k d) (putK ws (enc k) u) := by
  unfold putD putK
  rw [← h.any inj k]
  by_cases z : (ks.any fun p => decide (p.1 = k)) = true
  · rw [if_pos z, if_pos z]
    exact h.map inj k hd
  · rw [if_neg z, if_neg z]
    exact h.snoc k hd
theorem encI_inj : ∀ x y, encI x = encI y → x = y := fun _ _ h => Sum.inl.inj h
theorem encT_inj : ∀ x y, encT x = encT y → x = y := fun x y h => by
  have e := congrArg (List.map (fun k : L2.Key => match k with | .inl i => i | .inr _ => 0)) h
  simpa [encT, Function.comp_def] using e
@[simp] def intsD : List D → Option (List Int)
  | [] => some []
  | .int i :: ds => (intsD ds).map (i :: ·)
  | _ :: _ => none
theorem intsD_eq : ∀ {ds : List D} {js : List Int}, intsD ds = some js → ds = js.map .int
  | [], _, h => by simp at h; subst h; rfl
  | .int i :: ds, js, h => by
    simp at h
    obtain ⟨ks, h, e⟩ := h
    subst e
    rw [intsD_eq h]
    rfl
  | .non :: _, _, h => by simp at h
  | .bl _ :: _, _, h => by simp at h
  | .str _ :: _, _, h => by simp at h
  | .tup _ :: _, _, h => by simp at h
  | .lst _ :: _, _, h => by simp at h
  | .fl _ :: _, _, h => by simp at h
  | .ins _ _ :: _, _, h => by simp at h
  | .xc _ _ _ :: _, _, h => by simp at h
  | .ct _ :: _, _, h => by simp at h
@[simp] theorem intsD_map (js : List Int) : intsD (js.map .int) = some js := by
  induction js with
  | nil => rfl
  | cons j js ih => simp [ih]
@[simp] def isDic : Option (Option CC) → Prop
  | some (some (.dk _)) => True
  | some (some (.dt _)) => True
  | _ => False
@[simp] def getC (m : Option (Option CC)) (y : D) (P : Option D → Prop) : Prop := match m, y with
  | some (some (.dk ks)), .int k => P (valD ks k)
  | some (some (.dt ks)), .tup ds => ∃ js, intsD ds = some js ∧ P (valD ks js)
  | _, _ => False
@[simp] def putC (m : Option (Option CC)) (y d : D) (P : CC → Prop) : Prop := match m, y with
  | some (some (.dk ks)), .int k => ks.length < sizeLine ∧ P (.dk (putD ks k d))
  | some (some (.dt ks)), .tup ds => ∃ js, intsD ds = some js ∧ ks.length < sizeLine ∧ P (.dt (putD ks js d))
  | _, _ => False
theorem keyT {js : List Int} {yv : V} (h : Rep g w H (.tup (js.map .int)) yv) : ∃ b, yv = .ref b ∧ H b = some (.tup ((encT js).map kV)) := by
  simp only [Rep] at h
  obtain ⟨b, vs, e, _, hp, rv⟩ := h
  refine ⟨b, e, ?_⟩
  rw [hp, Reps.ints rv]
  simp [encT, kV, Function.comp_def]
theorem isDic_ok (rs : RS g w H σ s) {c : Nat} {p : Addr} (ec : w.cs[c]? = some (some p)) (h : isDic s.M[c]?) : IsD H p := by
  rcases em : s.M[c]? with _ | (_ | (_ | ks | ks)) <;> rw [em] at h
  · exact h.elim
  · exact h.elim
  · exact h.elim
  · obtain ⟨a', ea', ws, hp, rv⟩ := rs.mem.at_ c _ em
    rw [ec] at ea'; cases ea'
    exact .inl ⟨ws, .inl hp⟩
  · obtain ⟨a', ea', ws, hp, rv⟩ := rs.mem.at_ c _ em
    rw [ec] at ea'; cases ea'
    exact .inr ⟨ws, .inl hp⟩
theorem getC_ok (rs : RS g w H σ s) {c : Nat} {p : Addr} (ec : w.cs[c]? = some (some p)) {y : D} {yv : V} {P : Option D → Prop} (h : getC s.M[c]? y P) (ry : Rep g w H y yv) :
    ∃ o od, DGet H p yv o ∧ P od ∧ ((od = none ∧ o = none) ∨ ∃ d v, od = some d ∧ o = some v ∧ Rep g w H d v) := by
  unfold getC at h
  split at h
  · rename_i ks k em
    obtain ⟨a', ea', ws, hp, rv⟩ := rs.mem.at_ c _ em
    rw [ec] at ea'; cases ea'
    simp only [Rep] at ry
    refine ⟨valV ws (encI k), valD ks k, .inl ⟨ws, .inl k, .inl hp, ry, rfl⟩, h, ?_⟩
    rcases rv.val encI_inj k with ⟨e1, e2⟩ | ⟨d, v, e1, e2, q⟩
    · exact .inl ⟨e1, e2⟩
    · exact .inr ⟨d, v, e1, e2, q⟩
  · rename_i ks ds em
    obtain ⟨js, ej, h⟩ := h
    obtain ⟨a', ea', ws, hp, rv⟩ := rs.mem.at_ c _ em
    rw [ec] at ea'; cases ea'
    rw [intsD_eq ej] at ry
    obtain ⟨b, eb, hb⟩ := keyT ry
    refine ⟨valV ws (encT js), valD ks js, .inr ⟨ws, encT js, b, .inl hp, eb, hb, rfl⟩, h, ?_⟩
    rcases rv.val encT_inj js with ⟨e1, e2⟩ | ⟨d, v, e1, e2, q⟩
    · exact .inl ⟨e1, e2⟩
    · exact .inr ⟨d, v, e1, e2, q⟩
  · exact h.elim
theorem putC_ok (rs : RS g w H σ s) {c : Nat} {p : Addr} (ec : w.cs[c]? = some (some p)) {y d : D} {yv dv : V} {P : CC → Prop} (h : putC s.M[c]? y d P) (ry : Rep g w H y yv) (rd : Rep g w H d dv) :
    ∃ H' x, DPut H p yv dv H' ∧ P x ∧ HExt w H H' ∧ RS g w H' σ { s with M := s.M.set c (some x) } := by
  unfold putC at h
  have hb : w.bad p := .inl (List.mem_of_getElem? ec)
  split at h
  · rename_i ks k em
    obtain ⟨a', ea', ws, hp, rv⟩ := rs.mem.at_ c _ em
    rw [ec] at ea'; cases ea'
    simp only [Rep] at ry
    refine ⟨upd H p (.dK (putK ws (encI k) dv)), _, .inl ⟨ws, .inl k, hp, ry, by rw [rv.len]; exact h.1, rfl⟩, h.2, upd_cell_ext ec, rs.updCellG ec ⟨_, upd_same, RepK.gen (upd_k hb) (rv.put encI_inj k rd)⟩⟩
  · rename_i ks ds em
    obtain ⟨js, ej, h1, h2⟩ := h
    obtain ⟨a', ea', ws, hp, rv⟩ := rs.mem.at_ c _ em
    rw [ec] at ea'; cases ea'
    rw [intsD_eq ej] at ry
    obtain ⟨b, eb, hbb⟩ := keyT ry
    exact ⟨upd H p (.dT (putK ws (encT js) dv)), _, .inr ⟨ws, encT js, b, hp, eb, hbb, by rw [rv.len]; exact h1, rfl⟩, h2, upd_cell_ext ec, rs.updCellG ec ⟨_, upd_same, RepK.gen (upd_k hb) (rv.put encT_inj js rd)⟩⟩
  · exact h.elim
/-- k in d -/
@[simp] def dInK (neg : Bool) (i : Nat) (ty : TD) : TD := fun s P X => ty s (fun y s1 => ∃ c, s1.r[i]? = some (.cell c) ∧ getC s1.M[c]? y fun o => P (.bl (if neg then !o.isSome else o.isSome)) s1) X
theorem l_inK {n : Nat} : ∀ σ H Q, lE g W (dInK false n ty) σ H Q → tDIn (lE g W ty) (tVar n) σ H Q := fun σ H Q ⟨w, s, P, PX, rs, h, k, x⟩ =>
  ⟨w, s, _, PX, rs, h, fun y s1 H1 yv q e1 rs1 ry => by
    obtain ⟨c, ec, q⟩ := q
    obtain ⟨p, ep, ev⟩ := rs1.slot n _ ec
    obtain ⟨ov, od, hg, hq, hc⟩ := getC_ok rs1 ep q ry
    refine ⟨.ref p, ev, p, ov, rfl, hg, k _ s1 H1 _ hq e1 rs1 ?_⟩
    rcases hc with ⟨e1, e2⟩ | ⟨d, v, e1, e2, _⟩ <;> subst e1 e2 <;> simp only [Rep] <;> rfl, x⟩
theorem l_notInK {n : Nat} : ∀ σ H Q, lE g W (dInK true n ty) σ H Q → tDNotIn (lE g W ty) (tVar n) σ H Q := fun σ H Q ⟨w, s, P, PX, rs, h, k, x⟩ =>
  ⟨w, s, _, PX, rs, h, fun y s1 H1 yv q e1 rs1 ry => by
    obtain ⟨c, ec, q⟩ := q
    obtain ⟨p, ep, ev⟩ := rs1.slot n _ ec
    obtain ⟨ov, od, hg, hq, hc⟩ := getC_ok rs1 ep q ry
    refine ⟨.ref p, ev, p, ov, rfl, hg, k _ s1 H1 _ hq e1 rs1 ?_⟩
    rcases hc with ⟨e1, e2⟩ | ⟨d, v, e1, e2, _⟩ <;> subst e1 e2 <;> simp only [Rep] <;> rfl, x⟩
theorem de_inK (hu : X.A.units + 1 < cLine) (n : Nat) (ho : PE X o (tVar n)) (hi : PE X i (lE g W ty)) (hb : behindInMarks .In o = false := by rfl) : PE X (.Compare i [.In] [o] pos) (lE g W (dInK false n ty)) := pe_imp (pe_cmp (pc_din hu hi ho) hb) l_inK
theorem de_notInK (hu : X.A.units + 1 < cLine) (n : Nat) (ho : PE X o (tVar n)) (hi : PE X i (lE g W ty)) (hb : behindInMarks .NotIn o = false := by rfl) : PE X (.Compare i [.NotIn] [o] pos) (lE g W (dInK true n ty)) := pe_imp (pe_cmp (pc_dnotin hu hi ho) hb) l_notInK
theorem dt_inK (hu : X.A.units + 1 < cLine) (n : Nat) (ho : PE X o (tVar n)) (hi : PE X i (lE g W ty)) (hb : behindInMarks .In o = false := by rfl) : PT X (.Compare i [.In] [o] pos) (lB g W (dT (dInK false n ty))) := pt_imp (pt_cmp (pc_din hu hi ho) hb) (lT_of l_inK)
theorem dt_notInK (hu : X.A.units + 1 < cLine) (n : Nat) (ho : PE X o (tVar n)) (hi : PE X i (lE g W ty)) (hb : behindInMarks .NotIn o = false := by rfl) : PT X (.Compare i [.NotIn] [o] pos) (lB g W (dT (dInK true n ty))) := pt_imp (pt_cmp (pc_dnotin hu hi ho) hb) (lT_of l_notInK)
/-- d[k], it is there -/
@[simp] def dIxK (n : Nat) (ty : TD) : TD := fun s P X => ∃ c, s.r[n]? = some (.cell c) ∧ ty s (fun y s1 => getC s1.M[c]? y fun o => ∃ d, o = some d ∧ P d s1) X
theorem de_ixK (hu : X.A.units + 1 < cLine) (n : Nat) (ho : PE X o (tVar n)) (hi : PE X i (lE g W ty)) (hs : NoSl i) : PE X (.Subscript o i pos) (lE g W (dIxK n ty)) := pe_imp (pe_dget hu ho hi hs) fun σ H Q ⟨w, s, P, PX, rs, ⟨c, ec, h⟩, k, x⟩ => by
  obtain ⟨p, ep, ev⟩ := rs.slot n _ ec
  refine ⟨.ref p, ev, w, s, _, PX, rs, h, fun y s1 H1 yv q e1 rs1 ry => ?_, x⟩
  obtain ⟨ov, od, hg, ⟨d, ed, pz⟩, hc⟩ := getC_ok rs1 ep q ry
  rcases hc with ⟨z1, z2⟩ | ⟨d', v, z1, z2, rz⟩
  · rw [ed] at z1; cases z1
  · rw [ed] at z1; cases z1; subst z2
    exact ⟨p, v, rfl, hg, k _ s1 H1 v pz e1 rs1 rz⟩
/-- d.get(k), d.get(k, x) -/
@[simp] def dGet1 (n : Nat) (ty : TD) : TD := fun s P X => ∃ c, s.r[n]? = some (.cell c) ∧ isDic s.M[c]? ∧ ty s (fun y s1 => getC s1.M[c]? y fun o => P (o.getD .non) s1) X
@[simp] def dGet2 (n : Nat) (ty tv : TD) : TD := fun s P X => ∃ c, s.r[n]? = some (.cell c) ∧ isDic s.M[c]? ∧ ty s (fun y s1 => tv s1 (fun d s2 => getC s2.M[c]? y fun o => P (o.getD d) s2) X) X
theorem l_get1 {n : Nat} : ∀ σ H Q, lE g W (dGet1 n ty) σ H Q → tDGet1 (tVar n) (lE g W ty) σ H Q := fun σ H Q ⟨w, s, P, PX, rs, ⟨c, ec, hi, h⟩, k, x⟩ => by
  obtain ⟨p, ep, ev⟩ := rs.slot n _ ec
  refine ⟨.ref p, ev, p, rfl, isDic_ok rs ep hi, w, s, _, PX, rs, h, fun y s1 H1 yv q e1 rs1 ry => ?_, x⟩
  obtain ⟨ov, od, hg, pz, hc⟩ := getC_ok rs1 ep q ry
  refine ⟨ov, hg, ?_⟩
  rcases hc with ⟨z1, z2⟩ | ⟨d', v, z1, z2, rz⟩ <;> subst z1 z2
  · exact k _ s1 H1 _ pz e1 rs1 (by simp only [Option.getD, Rep])
  · exact k _ s1 H1 _ pz e1 rs1 rz
theorem l_get2 {n : Nat} : ∀ σ H Q, lE g W (dGet2 n ty tv) σ H Q → tDGet2 (tVar n) (lE g W ty) (lE g W tv) σ H Q := fun σ H Q ⟨w, s, P, PX, rs, ⟨c, ec, hi, h⟩, k, x⟩ => by
  obtain ⟨p, ep, ev⟩ := rs.slot n _ ec
  refine ⟨.ref p, ev, p, rfl, isDic_ok rs ep hi, w, s, _, PX, rs, h, fun y s1 H1 yv q e1 rs1 ry => ⟨w, s1, _, PX, rs1, q, fun d s2 H2 dv q2 e2 rs2 rd => ?_, x.ext e1⟩, x⟩
  obtain ⟨ov, od, hg, pz, hc⟩ := getC_ok rs2 ep q2 (ry.mv (.of_ext e2))
  refine ⟨ov, hg, ?_⟩
  rcases hc with ⟨z1, z2⟩ | ⟨d', v, z1, z2, rz⟩ <;> subst z1 z2
  · exact k _ s2 H2 _ pz (e1.trans e2) rs2 rd
  · exact k _ s2 H2 _ pz (e1.trans e2) rs2 rz
theorem de_get1 (hu : X.A.units + 1 < cLine) {apos cpos : Pos} (n : Nat) (ho : PE X o (tVar n)) (hi : PE X i (lE g W ty)) (m : M1 X o "get" apos i cpos) : PE X (.Call (.Attribute o "get" apos) [i] [] cpos) (lE g W (dGet1 n ty)) := pe_imp (pe_dget1 hu ho hi m) l_get1
theorem de_get2 (hu : X.A.units + 1 < cLine) {apos cpos : Pos} (n : Nat) (ho : PE X o (tVar n)) (hi : PE X i (lE g W ty)) (hv : PE X e (lE g W tv)) (m : M2 X o "get" apos i e cpos) : PE X (.Call (.Attribute o "get" apos) [i, e] [] cpos) (lE g W (dGet2 n ty tv)) := pe_imp (pe_dget2 hu ho hi hv m) l_get2
/-- d[k] = v -/
@[simp] def dPutK (n : Nat) (ty tv : TD) : TSd := fun s E X => tv s (fun v s1 => ∃ c, s1.r[n]? = some (.cell c) ∧ ty s1 (fun y s2 => putC s2.M[c]? y v fun x => E.nx { s2 with M := s2.M.set c (some x) }) X) X
theorem ds_putK (hu : X.A.units + 1 < cLine) (n : Nat) (ho : PE X o (tVar n)) (hi : PE X i (lE g W ty)) (hv : PE X e (lE g W tv)) (hs : swapsWith e (some (.Subscript o i pos')) pos.line X.env = pure false) :
    PS X (.Assign [.Subscript o i pos'] e pos) (lS g W (dPutK n ty tv)) := ps_imp (ps_dput hu ho hi hv hs) fun D σ H ⟨w, s, E, PX, rs, h, k, x⟩ =>
  ⟨w, s, _, PX, rs, h, fun d s1 H1 v q e1 rs1 rd => by
    obtain ⟨c, ec, q⟩ := q
    obtain ⟨p, ep, ev⟩ := rs1.slot n _ ec
    refine ⟨.ref p, ev, w, s1, _, PX, rs1, q, fun y s2 H2 yv q2 e2 rs2 ry => ?_, x.ex.ext e1⟩
    obtain ⟨H3, cx, hp, pz, e3, rs3⟩ := putC_ok rs2 ep q2 ry (rd.mv (.of_ext e2))
    exact ⟨p, H3, rfl, hp, k.nx _ w H3 σ pz (.of_ext (e1.trans (e2.trans e3))) rs3⟩, x.ex⟩
/-- x = {} -/
@[simp] def dNewD (n : Nat) (x0 : CC) : TSd := fun s E _ => E.nx { r := s.r.set n (.cell s.M.length), M := s.M ++ [some x0] }
theorem lS_newD {n : Nat} {x0 : CC} {u0 : HO} {te : TE} (hx : ∀ (w : Cs) (H : Hp) (p : Addr), H p = some u0 → CellOk g w H x0 p) (he : ∀ σ H Q, (∀ p, H p = none → Q (.ref p) (upd H p u0)) → te σ H Q) :
    ∀ D σ H, lS g W (dNewD n x0) D σ H → tAsg te (gName n) D σ H := fun D σ H ⟨w, s, E, PX, rs, h, k, x⟩ =>
  he _ _ _ fun p n0 => by
    have nb : ¬ w.bad p := rs.mem.fresh n0
    have e1 : HExt w H (upd H p u0) := .of_same (same_upd n0)
    refine k.nx _ (w.cell p) _ _ h (mv_cell e1 n0 nb) ?_
    have r2 := (rs.out (o := u0) n0).toCellG (x0 := x0) nb (hx _ _ _ upd_same)
    have z := r2.put (i := n) (o := some (.ref p)) (x := .cell s.M.length) fun σ' e => ⟨p, by
      have ml : w.cs.length = s.M.length := rs.mem.len
      show (w.cs ++ [some p])[s.M.length]? = _
      rw [← ml, List.getElem?_append_right (Nat.le_refl _), Nat.sub_self]
      rfl, e⟩
    exact z
theorem ds_newK {n : Nat} {st : Stmt} (h : PS X st (tAsg tDNewK (gName n))) : PS X st (lS g W (dNewD n (.dk []))) := ps_imp h (lS_newD (u0 := .dK []) (fun w H p hp => ⟨[], hp, rfl⟩) fun _ _ _ h => h)
theorem ds_newT {n : Nat} {st : Stmt} (h : PS X st (tAsg tDNewT (gName n))) : PS X st (lS g W (dNewD n (.dt []))) := ps_imp h (lS_newD (u0 := .dT []) (fun w H p hp => ⟨[], hp, rfl⟩) fun _ _ _ h => h)
end
end DL

/-! A cell that is lent: read as a datum for one expression; calls that take two cells. -/
namespace DL
open PySem L2
section
variable {X : Cx} {g : G} {W : WX} {pos pos' : Pos} {a b c e o i : Expr} {ta tb tc td ty tv : TD} {w : Cs} {H H' H1 : Hp} {σ : L2.St} {s s1 : S} {t : TDA}
abbrev Cs.off (w : Cs) (c : Nat) : Cs := { w with cs := w.cs.set c none }
theorem RS.freeze {c : Nat} {ds : List D} (rs : RS g w H σ s) (em : s.M[c]? = some (some (.lst ds))) : RS g (w.off c) H σ { r := s.r.map (thaw c ds), M := s.M.set c none } := by
  obtain ⟨p, ep, vs, hp, rv⟩ := rs.mem.at_ c _ em
  have hcl : c < w.cs.length := (List.getElem?_eq_some_iff.mp ep).1
  have nb : ¬ Cs.bad { w with cs := w.cs.set c none } p := fun z => by
    rcases z with z | z
    · obtain ⟨j, ej⟩ := List.getElem?_of_mem z
      by_cases hj : c = j
      · subst hj
        rw [List.getElem?_set_self hcl] at ej
        cases ej
      · rw [List.getElem?_set_ne hj] at ej
        exact hj (rs.mem.inj c j p ep ej)
    · exact (rs.mem.av p z).1 (List.mem_of_getElem? ep)
  have sub : ∀ a, Cs.bad { w with cs := w.cs.set c none } a → w.bad a := fun a z => by
    rcases z with z | z
    · obtain ⟨j, ej⟩ := List.getElem?_of_mem z
      by_cases hj : c = j
      · subst hj
        rw [List.getElem?_set_self hcl] at ej
        cases ej
      · rw [List.getElem?_set_ne hj] at ej
        exact .inl (List.mem_of_getElem? ej)
    · exact .inr z
  have kk : ∀ a o, ¬ w.bad a → H a = some o → H a = some o ∧ ¬ Cs.bad { w with cs := w.cs.set c none } a := fun a o n e => ⟨e, fun z => n (sub a z)⟩
  refine ⟨by simp [rs.len], fun j y ej => ?_, ⟨by simp [rs.mem.len], fun j y ej => ?_, fun j a ej => ?_, fun j j' a e1 e2 => ?_, fun a ha => ?_⟩⟩
  · have ej : (s.r.map (thaw c ds))[j]? = some y := ej
    rw [List.getElem?_map] at ej
    cases ez : s.r[j]? with
    | none => rw [ez] at ej; cases ej
    | some z =>
      rw [ez] at ej
      cases ej
      have q := rs.slot j z ez
      cases z with
      | no => trivial
      | dat d => obtain ⟨v, ev, q⟩ := q; exact ⟨v, ev, Rep.gen kk q⟩
      | cell j' =>
        obtain ⟨a, ea, ev⟩ := q
        simp only [thaw]
        by_cases hj : j' = c
        · rw [if_pos hj]
          subst hj
          rw [ep] at ea
          cases ea
          exact ⟨.ref p, ev, Rep.lst nb hp (Reps.gen kk rv)⟩
        · rw [if_neg hj]
          exact ⟨a, by show (w.cs.set c none)[j']? = _; rw [List.getElem?_set_ne (Ne.symm hj)]; exact ea, ev⟩
  · have ej : (s.M.set c none)[j]? = some (some y) := ej
    by_cases hj : c = j
    · subst hj
      rw [List.getElem?_set_self (by rw [← rs.mem.len]; exact hcl)] at ej
      cases ej
    · rw [List.getElem?_set_ne hj] at ej
      obtain ⟨a, ea, q⟩ := rs.mem.at_ j y ej
      exact ⟨a, by show (w.cs.set c none)[j]? = _; rw [List.getElem?_set_ne hj]; exact ea, q.gen kk rfl⟩
  · have ej : (w.cs.set c none)[j]? = some (some a) := ej
    by_cases hj : c = j
    · subst hj
      rw [List.getElem?_set_self hcl] at ej
      cases ej
    · rw [List.getElem?_set_ne hj] at ej
      obtain ⟨y, ey⟩ := rs.mem.live j a ej
      exact ⟨y, by show (s.M.set c none)[j]? = _; rw [List.getElem?_set_ne hj]; exact ey⟩
  · have e1 : (w.cs.set c none)[j]? = some (some a) := e1
    have e2 : (w.cs.set c none)[j']? = some (some a) := e2
    have get : ∀ i, (w.cs.set c none)[i]? = some (some a) → w.cs[i]? = some (some a) := fun i e => by
      by_cases hj : c = i
      · subst hj
        rw [List.getElem?_set_self hcl] at e
        cases e
      · rw [List.getElem?_set_ne hj] at e
        exact e
    exact rs.mem.inj j j' a (get j e1) (get j' e2)
  · obtain ⟨n, o, e⟩ := rs.mem.av a ha
    refine ⟨fun z => ?_, o, e⟩
    obtain ⟨j, ej⟩ := List.getElem?_of_mem z
    by_cases hj : c = j
    · subst hj
      rw [List.getElem?_set_self hcl] at ej
      cases ej
    · rw [List.getElem?_set_ne hj] at ej
      exact n (List.mem_of_getElem? ej)

mutual
@[simp] def noL : D → Bool
  | .non => true
  | .bl _ => true
  | .int _ => true
  | .str _ => true
  | .tup ds => noLs ds
  | .ct ds => noLs ds
  | .lst _ => false
  | .fl _ => false
  | .ins _ _ => false
  | .xc _ _ _ => false
@[simp] def noLs : List D → Bool
  | [] => true
  | d :: ds => noL d && noLs ds
end

theorem noLs_all {ds : List D} (h : ∀ d ∈ ds, noL d = true) : noLs ds = true := by
  induction ds with
  | nil => rfl
  | cons d ds ih => simp only [noLs, Bool.and_eq_true]; exact ⟨h d List.mem_cons_self, ih fun x hx => h x (List.mem_cons_of_mem _ hx)⟩
theorem noLs_map {α : Type} {f : α → D} (h : ∀ x, noL (f x) = true) (l : List α) : noLs (l.map f) = true := noLs_all fun d hd => by
  obtain ⟨x, _, e⟩ := List.mem_map.mp hd
  subst e
  exact h x
@[simp] theorem noLs_ints (l : List Int) : noLs (l.map .int) = true := noLs_map (fun _ => rfl) l
@[simp] theorem noLs_app (l k : List D) : noLs (l ++ k) = (noLs l && noLs k) := by
  induction l with
  | nil => rfl
  | cons d l ih => simp [ih, Bool.and_assoc]
@[simp] def ccNoL : CC → Bool
  | .lst ds => noLs ds
  | .dk ks => noLs (ks.map (·.2))
  | .dt ks => noLs (ks.map (·.2))
@[simp] def memNoL : Mem → Bool
  | [] => true
  | none :: M => memNoL M
  | some x :: M => ccNoL x && memNoL M
theorem memNoL_at : ∀ {M : Mem} {j : Nat} {x : CC}, memNoL M = true → M[j]? = some (some x) → ccNoL x = true
  | [], j, x, _, e => by simp at e
  | none :: M, 0, x, _, e => by simp at e
  | none :: M, j + 1, x, h, e => memNoL_at (M := M) h (by simpa using e)
  | some y :: M, 0, x, h, e => by
    simp at e; subst e
    simp only [memNoL, Bool.and_eq_true] at h
    exact h.1
  | some y :: M, j + 1, x, h, e => by
    simp only [memNoL, Bool.and_eq_true] at h
    exact memNoL_at (M := M) h.2 (by simpa using e)
mutual
theorem Rep.noL {cs cs' : Cs} {p : Addr} {us : List V} (hb : ∀ a, cs'.bad a → cs.bad a ∨ a = p) (hp : H p = some (.lst us)) : ∀ {d : D} {v : V}, noL d = true → Rep g cs H d v → Rep g cs' H d v
  | .non, _, _, h => by simpa only [Rep] using h
  | .bl _, _, _, h => by simpa only [Rep] using h
  | .int _, _, _, h => by simpa only [Rep] using h
  | .str _, _, _, h => by simpa only [Rep] using h
  | .tup ds, v, n, h => by
    simp only [Rep] at h ⊢
    obtain ⟨a, vs, e, nb, q, r⟩ := h
    exact ⟨a, vs, e, fun z => (hb a z).elim nb (fun z => by rw [z, hp] at q; cases q), q, Reps.noL hb hp (by simpa using n) r⟩
  | .ct ds, v, n, h => by
    simp only [Rep] at h ⊢
    obtain ⟨a, vs, e, q, r⟩ := h
    exact ⟨a, vs, e, q, Reps.noL hb hp (by simpa using n) r⟩
  | .lst _, _, n, _ => by simp at n
  | .fl _, _, n, _ => by simp at n
  | .ins _ _, _, n, _ => by simp at n
  | .xc _ _ _, _, n, _ => by simp at n
theorem Reps.noL {cs cs' : Cs} {p : Addr} {us : List V} (hb : ∀ a, cs'.bad a → cs.bad a ∨ a = p) (hp : H p = some (.lst us)) : ∀ {ds : List D} {vs : List V}, noLs ds = true → Reps g cs H ds vs → Reps g cs' H ds vs
  | [], _, _, h => by simpa only [Reps] using h
  | d :: ds, _, n, h => by
    simp only [Reps] at h ⊢
    simp only [noLs, Bool.and_eq_true] at n
    obtain ⟨v, r, e, q, z⟩ := h
    exact ⟨v, r, e, Rep.noL hb hp n.1 q, Reps.noL hb hp n.2 z⟩
end
theorem RepK.noL {α β : Type} {enc : α → β} {cs cs' : Cs} {p : Addr} {us : List V} (hb : ∀ a, cs'.bad a → cs.bad a ∨ a = p) (hp : H p = some (.lst us)) : ∀ {ks : List (α × D)} {ws : List (β × V)}, noLs (ks.map (·.2)) = true → RepK g cs H enc ks ws → RepK g cs' H enc ks ws
  | [], _, _, h => h
  | q :: ks, _, n, ⟨v, r, e, h, z⟩ => by
    simp only [List.map_cons, noLs, Bool.and_eq_true] at n
    exact ⟨v, r, e, Rep.noL hb hp n.1 h, RepK.noL hb hp n.2 z⟩
theorem CellOk.noL {cs cs' : Cs} {p : Addr} {us : List V} (hb : ∀ a, cs'.bad a → cs.bad a ∨ a = p) (hp : H p = some (.lst us)) {x : CC} {a : Addr} (n : ccNoL x = true) (h : CellOk g cs H x a) : CellOk g cs' H x a := by
  cases x with
  | lst ds => obtain ⟨vs, q, r⟩ := h; exact ⟨vs, q, Reps.noL hb hp n r⟩
  | dk ds => obtain ⟨vs, q, r⟩ := h; exact ⟨vs, q, RepK.noL hb hp n r⟩
  | dt ds => obtain ⟨vs, q, r⟩ := h; exact ⟨vs, q, RepK.noL hb hp n r⟩
theorem bad_off {av : List Addr} {c : Nat} {p : Addr} (ep : w.cs[c]? = some (some p)) : ∀ a, Cs.bad ⟨w.cs, av⟩ a → Cs.bad ⟨w.cs.set c none, av⟩ a ∨ a = p := fun a h => by
  rcases h with h | h
  · obtain ⟨j, ej⟩ := List.getElem?_of_mem h
    have ej : w.cs[j]? = some (some a) := ej
    by_cases hj : c = j
    · subst hj
      rw [ep] at ej
      cases ej
      exact .inr rfl
    · refine .inl (.inl (List.mem_of_getElem? (i := j) ?_))
      show (w.cs.set c none)[j]? = _
      rw [List.getElem?_set_ne hj]
      exact ej
  · exact .inl (.inr h)
theorem off_ext {c : Nat} (e1 : HExt (w.off c) H H1) : HExt w H H1 := fun a o n h => e1 a o (fun z => n (by
  obtain ⟨j, ej⟩ := List.getElem?_of_mem z
  have ej : (w.cs.set c none)[j]? = some (some a) := ej
  by_cases hj : c = j
  · subst hj
    have hc : c < w.cs.length := by
      have := (List.getElem?_eq_some_iff.mp ej).1
      simpa using this
    rw [List.getElem?_set_self hc] at ej
    cases ej
  · rw [List.getElem?_set_ne hj] at ej
    exact List.mem_of_getElem? ej)) h
theorem off_not {c : Nat} {p : Addr} (rs : RS g w H σ s) (ep : w.cs[c]? = some (some p)) : some p ∉ (w.off c).cs := fun z => by
  obtain ⟨j, ej⟩ := List.getElem?_of_mem z
  have ej : (w.cs.set c none)[j]? = some (some p) := ej
  by_cases hj : c = j
  · subst hj
    rw [List.getElem?_set_self (List.getElem?_eq_some_iff.mp ep).1] at ej
    cases ej
  · rw [List.getElem?_set_ne hj] at ej
    exact hj (rs.mem.inj c j p ep ej)
theorem RS.lend {av1 : List Addr} {c : Nat} {p : Addr} {ds : List D} (rs : RS g w H σ s) (ep : w.cs[c]? = some (some p)) (em : s.M[c]? = some (some (.lst ds))) (e1 : HExt (w.off c) H H1)
    (rs1 : RS g ⟨w.cs.set c none, av1⟩ H1 σ s1) (nl : memNoL s1.M = true) (m : Mv w H ⟨w.cs, av1⟩ H1) (hav : ∀ a, a ∈ av1 → some a ∉ w.cs) :
    (∃ us, H1 p = some (.lst us)) ∧ RS g ⟨w.cs, av1⟩ H1 σ { r := s.r, M := s1.M.set c (some (.lst ds)) } := by
  obtain ⟨p', ep', vs, hp, rv⟩ := rs.mem.at_ c _ em
  rw [ep] at ep'
  cases ep'
  have hp1 : H1 p = some (.lst vs) := e1 p _ (off_not rs ep) hp
  have hlen : s1.M.length = w.cs.length := by
    have := rs1.mem.len
    simpa using this.symm
  have hcl : c < w.cs.length := (List.getElem?_eq_some_iff.mp ep).1
  refine ⟨⟨vs, hp1⟩, rs.len, fun j y ej => ?_, ⟨by simp [hlen], fun j y ej => ?_, fun j a ej => ?_, rs.mem.inj, fun a ha => ⟨hav a ha, (rs1.mem.av a ha).2⟩⟩⟩
  · have q := rs.slot j y ej
    cases y with
    | no => trivial
    | dat d => obtain ⟨v, ev, q⟩ := q; exact ⟨v, ev, q.mv m⟩
    | cell j' => exact q
  · have ej : (s1.M.set c (some (.lst ds)))[j]? = some (some y) := ej
    by_cases hj : c = j
    · subst hj
      rw [List.getElem?_set_self (by rw [hlen]; exact hcl)] at ej
      cases ej
      exact ⟨p, ep, vs, hp1, rv.mv m⟩
    · rw [List.getElem?_set_ne hj] at ej
      obtain ⟨a, ea, q⟩ := rs1.mem.at_ j y ej
      have ea : (w.cs.set c none)[j]? = some (some a) := ea
      rw [List.getElem?_set_ne hj] at ea
      exact ⟨a, ea, CellOk.noL (bad_off ep) hp1 (memNoL_at nl ej) q⟩
  · by_cases hj : c = j
    · subst hj
      exact ⟨_, List.getElem?_set_self (by rw [hlen]; exact hcl)⟩
    · obtain ⟨y, ey⟩ := rs1.mem.live j a (by show (w.cs.set c none)[j]? = _; rw [List.getElem?_set_ne hj]; exact ej)
      exact ⟨y, by show (s1.M.set c _)[j]? = _; rw [List.getElem?_set_ne hj]; exact ey⟩
@[simp] def dLendF (n : Nat) (tf : TDF) : TDF := fun s P _ => ∃ c ds, s.r[n]? = some (.cell c) ∧ s.M[c]? = some (some (.lst ds)) ∧
  tf { r := s.r.map (thaw c ds), M := s.M.set c none } (fun es s1 => memNoL s1.M = true ∧ noLs es = true ∧ P es { r := s.r, M := s1.M.set c (some (.lst ds)) }) fun _ _ _ => False
@[simp] def dLend (n : Nat) (t : TD) : TD := fun s P _ => ∃ c ds, s.r[n]? = some (.cell c) ∧ s.M[c]? = some (some (.lst ds)) ∧
  t { r := s.r.map (thaw c ds), M := s.M.set c none } (fun d s1 => memNoL s1.M = true ∧ noL d = true ∧ P d { r := s.r, M := s1.M.set c (some (.lst ds)) }) fun _ _ _ => False
theorem lF_lend {n : Nat} {tf : TDF} : ∀ σ H Q, lF g W (dLendF n tf) σ H Q → lF g W tf σ H Q := fun σ H Q ⟨w, s, P, PX, rs, ⟨c, ds, ec, em, h⟩, k, x⟩ => by
  obtain ⟨p, ep, vs, hp, rv⟩ := rs.mem.at_ c _ em
  refine ⟨w.off c, _, _, _, rs.freeze em, h, fun es s1 H1 q us ⟨nl, ne, pz⟩ e1 n0 nb rs1 hq rq => ?_, fun _ _ _ _ _ _ z => z.elim⟩
  have ex := off_ext e1
  have nbw : ¬ w.bad q := rs.mem.fresh n0
  obtain ⟨⟨ls, hl⟩, rs2⟩ := rs.lend (av1 := q :: w.av) ep em e1 rs1 nl (mv_out ex n0) fun a ha => by
    rcases List.mem_cons.mp ha with z | z
    · rw [z]; exact fun z => nbw (.inl z)
    · exact (rs.mem.av a z).1
  exact k es _ H1 q us pz ex n0 nbw rs2 hq (Reps.noL (bad_off ep) hl ne rq)
theorem lE_lend {n : Nat} {t : TD} : ∀ σ H Q, lE g W (dLend n t) σ H Q → lE g W t σ H Q := fun σ H Q ⟨w, s, P, PX, rs, ⟨c, ds, ec, em, h⟩, k, x⟩ => by
  obtain ⟨p, ep, vs, hp, rv⟩ := rs.mem.at_ c _ em
  refine ⟨w.off c, _, _, _, rs.freeze em, h, fun d s1 H1 v ⟨nl, ne, pz⟩ e1 rs1 rd => ?_, fun _ _ _ _ _ _ z => z.elim⟩
  have ex := off_ext e1
  obtain ⟨⟨ls, hl⟩, rs2⟩ := rs.lend (av1 := w.av) ep em e1 rs1 nl (.of_ext ex) fun a ha => (rs.mem.av a ha).1
  exact k d _ H1 v pz ex rs2 (Rep.noL (bad_off ep) hl ne rd)
theorem df_lend (n : Nat) {tf : TDF} (h : PE X e (lF g W tf)) : PE X e (lF g W (dLendF n tf)) := pe_imp h lF_lend
theorem de_lend (n : Nat) {t : TD} (h : PE X e (lE g W t)) : PE X e (lE g W (dLend n t)) := pe_imp h lE_lend
theorem ds_lend (n : Nat) {st : Stmt} {tf : TDF} {i : Nat} (h : PS X st (tAsg (lF g W tf) (gName i))) : PS X st (tAsg (lF g W (dLendF n tf)) (gName i)) := ps_imp h fun D σ H q => lF_lend σ H _ q

/-! ### calls that take two cells -/
@[simp] def ren2 (c : Nat) : Sl → Sl
  | .cell j => if j = c then .cell 0 else .cell 1
  | x => x
def Cs.two_ (w : Cs) (a b : Addr) : Cs := ⟨[some a, some b], (w.all.filter fun x => decide (x ≠ a) && decide (x ≠ b)) ++ w.av⟩
theorem bad_two {p q a : Addr} (hp : some p ∈ w.cs) (hq : some q ∈ w.cs) : (w.two_ p q).bad a ↔ w.bad a := by
  unfold Cs.bad Cs.two_
  simp only [List.mem_cons, Option.some.injEq, List.not_mem_nil, or_false, List.mem_append, List.mem_filter, mem_all, Bool.and_eq_true, decide_eq_true_eq]
  constructor
  · rintro ((h | h) | ⟨h, _⟩ | h)
    · subst h; exact .inl hp
    · subst h; exact .inl hq
    · exact .inl h
    · exact .inr h
  · rintro (h | h)
    · by_cases e : a = p
      · exact .inl (.inl e)
      · by_cases e2 : a = q
        · exact .inl (.inr e2)
        · exact .inr (.inl ⟨h, e, e2⟩)
    · exact .inr (.inr h)
theorem ArgOk.two_ {c c2 : Nat} {p q : Addr} (hp : w.cs[c]? = some (some p)) (hq : w.cs[c2]? = some (some q)) : ∀ {xs : List Sl} {vs : List V}, ArgOk g w H xs vs → (∀ j ∈ cellsIn xs, j = c ∨ j = c2) → ArgOk g (w.two_ p q) H (xs.map (ren2 c)) vs
  | [], _, h, _ => h
  | .no :: _, _, h, _ => h
  | .dat d :: xs, _, h, e => by
    obtain ⟨v, r, ev, z, y⟩ := h
    exact ⟨v, r, ev, Rep.gen (kb fun a => bad_two (List.mem_of_getElem? hp) (List.mem_of_getElem? hq)) z, ArgOk.two_ hp hq y e⟩
  | .cell j :: xs, _, h, e => by
    obtain ⟨a, r, ev, z, y⟩ := h
    have ih := ArgOk.two_ hp hq y fun j' hj' => e j' (List.mem_cons_of_mem _ hj')
    rw [List.map_cons]
    by_cases hj : j = c
    · subst hj
      rw [hp] at z; cases z
      simp only [ren2, if_pos]
      exact ⟨p, r, ev, rfl, ih⟩
    · rcases e j List.mem_cons_self with z2 | z2
      · exact absurd z2 hj
      · subst z2
        rw [hq] at z; cases z
        simp only [ren2, if_neg hj]
        exact ⟨q, r, ev, rfl, ih⟩
theorem MemOk.two_ {M : Mem} {c c2 : Nat} {p q : Addr} {x y : CC} (m : MemOk g w H M) (hp : w.cs[c]? = some (some p)) (hq : w.cs[c2]? = some (some q)) (hx : M[c]? = some (some x)) (hy : M[c2]? = some (some y)) (ne : c ≠ c2) : MemOk g (w.two_ p q) H [some x, some y] := by
  have hb : ∀ a, (w.two_ p q).bad a ↔ w.bad a := fun a => bad_two (List.mem_of_getElem? hp) (List.mem_of_getElem? hq)
  have npq : p ≠ q := fun z => ne (m.inj c c2 p hp (by rw [z]; exact hq))
  refine ⟨rfl, fun j z e => ?_, fun j a e => ?_, fun j j' a e e' => ?_, fun a ha => ⟨fun z => ?_, m.tracked ((hb a).mp (.inr ha))⟩⟩
  · match j, e with
    | 0, e =>
      cases e
      obtain ⟨a, ea, z⟩ := m.at_ c x hx
      rw [hp] at ea; cases ea
      exact ⟨p, rfl, z.gen (kb hb) rfl⟩
    | 1, e =>
      cases e
      obtain ⟨a, ea, z⟩ := m.at_ c2 y hy
      rw [hq] at ea; cases ea
      exact ⟨q, rfl, z.gen (kb hb) rfl⟩
    | j + 2, e => simp at e
  · match j, e with
    | 0, e => exact ⟨x, rfl⟩
    | 1, e => exact ⟨y, rfl⟩
    | j + 2, e => simp [Cs.two_] at e
  · match j, j', e, e' with
    | 0, 0, _, _ => rfl
    | 1, 1, _, _ => rfl
    | 0, 1, e, e' => simp [Cs.two_] at e e'; exact absurd (e.trans e'.symm) npq
    | 1, 0, e, e' => simp [Cs.two_] at e e'; exact absurd (e'.trans e.symm) npq
    | j + 2, _, e, _ => simp [Cs.two_] at e
    | _, j + 2, _, e => simp [Cs.two_] at e
  · have ha : a ∈ (w.all.filter fun x => decide (x ≠ p) && decide (x ≠ q)) ++ w.av := ha
    have z : a = p ∨ a = q := by simpa [Cs.two_] using z
    rcases List.mem_append.mp ha with h | h
    · have := (List.mem_filter.mp h).2
      simp at this
      rcases z with z | z
      · exact this.1 z
      · exact this.2 z
    · rcases z with z | z
      · exact (m.av a h).1 (by rw [z]; exact List.mem_of_getElem? hp)
      · exact (m.av a h).1 (by rw [z]; exact List.mem_of_getElem? hq)
theorem RS.after_two {c c2 : Nat} {p q : Addr} {x' y' : CC} (r : RS g w H σ s) (hp : w.cs[c]? = some (some p)) (hq : w.cs[c2]? = some (some q)) (ne : c ≠ c2) (e : HExt (w.two_ p q) H H') (m : MemOk g (w.two_ p q) H' [some x', some y']) :
    HExt w H H' ∧ RS g w H' σ { s with M := (s.M.set c (some x')).set c2 (some y') } := by
  have hb : ∀ a, (w.two_ p q).bad a ↔ w.bad a := fun a => bad_two (List.mem_of_getElem? hp) (List.mem_of_getElem? hq)
  have hcl : c < s.M.length := by rw [← r.mem.len]; exact (List.getElem?_eq_some_iff.mp hp).1
  have hcl2 : c2 < s.M.length := by rw [← r.mem.len]; exact (List.getElem?_eq_some_iff.mp hq).1
  have nn : ∀ a, a ≠ p → a ≠ q → some a ∉ (w.two_ p q).cs := fun a h h2 z => by
    have z : a = p ∨ a = q := by simpa [Cs.two_] using z
    exact z.elim h h2
  have e' : HExt w H H' := fun a o n h => e a o (nn a (fun z => n (by rw [z]; exact List.mem_of_getElem? hp)) (fun z => n (by rw [z]; exact List.mem_of_getElem? hq))) h
  refine ⟨e', r.mem' e' ⟨by simp [r.mem.len], fun j y ej => ?_, fun j a ej => ?_, r.mem.inj, fun a ha => ?_⟩⟩
  · have ej : ((s.M.set c (some x')).set c2 (some y'))[j]? = some (some y) := ej
    by_cases hj2 : c2 = j
    · subst hj2
      rw [List.getElem?_set_self (by simpa using hcl2)] at ej
      cases ej
      obtain ⟨a, ea, z⟩ := m.at_ 1 y' rfl
      have ea : some q = some a := by simpa [Cs.two_] using ea
      cases ea
      exact ⟨q, hq, z.gen (kb fun a => (hb a).symm) rfl⟩
    · rw [List.getElem?_set_ne hj2] at ej
      by_cases hj : c = j
      · subst hj
        rw [List.getElem?_set_self hcl] at ej
        cases ej
        obtain ⟨a, ea, z⟩ := m.at_ 0 x' rfl
        have ea : some p = some a := by simpa [Cs.two_] using ea
        cases ea
        exact ⟨p, hp, z.gen (kb fun a => (hb a).symm) rfl⟩
      · rw [List.getElem?_set_ne hj] at ej
        obtain ⟨a, ea, z⟩ := r.mem.at_ j y ej
        obtain ⟨o, eo⟩ := z.tracked
        have hap : a ≠ p := fun u => hj (r.mem.inj c j p hp (by rw [ea, u]))
        have haq : a ≠ q := fun u => hj2 (r.mem.inj c2 j q hq (by rw [ea, u]))
        exact ⟨a, ea, z.mv (.of_ext e') ((e a o (nn a hap haq) eo).trans eo.symm)⟩
  · obtain ⟨y, ey⟩ := r.mem.live j a ej
    by_cases hj2 : c2 = j
    · subst hj2
      exact ⟨_, List.getElem?_set_self (by simpa using hcl2)⟩
    · by_cases hj : c = j
      · subst hj
        exact ⟨x', by show ((s.M.set c _).set c2 _)[c]? = _; rw [List.getElem?_set_ne hj2]; exact List.getElem?_set_self hcl⟩
      · exact ⟨y, by show ((s.M.set c _).set c2 _)[j]? = _; rw [List.getElem?_set_ne hj2, List.getElem?_set_ne hj]; exact ey⟩
  · obtain ⟨n, o, h⟩ := r.mem.av a ha
    exact ⟨n, o, e' a o n h⟩
@[simp] def dCall2 (spd : SpD) (t : TDA) : TD := fun s P X => t s (fun xs s1 => ∃ c c2, cellsIn xs = [c, c2] ∧ c ≠ c2 ∧ ∃ m m2, s1.M[c]? = some (some m) ∧ s1.M[c2]? = some (some m2) ∧
  spd (xs.map (ren2 c)) [some m, some m2] (fun d M' => ∃ m' m2', M' = [some m', some m2'] ∧ P d { s1 with M := (s1.M.set c (some m')).set c2 (some m2') }) fun k x M' => ∃ m' m2', M' = [some m', some m2'] ∧ X k x { s1 with M := (s1.M.set c (some m')).set c2 (some m2') }) X
theorem lE_call2 {spd : SpD} {t : TDA} {ta : TA} (ht : ∀ σ H Q, lA g W t σ H Q → ta σ H Q) : ∀ σ H Q, lE g W (dCall2 spd t) σ H Q → tCallS (lSp g spd) (WE W) ta σ H Q := fun σ H Q ⟨w, s, P, PX, rs, h, k, x⟩ =>
  ht _ _ _ ⟨w, s, _, PX, rs, h, fun xs s1 H1 vs q e1 rs1 ra => by
    obtain ⟨c, c2, hc, ne, m, m2, em, em2, q⟩ := q
    obtain ⟨p, hp, _⟩ := rs1.mem.at_ c m em
    obtain ⟨p2, hp2, _⟩ := rs1.mem.at_ c2 m2 em2
    have hb : ∀ a, w.bad a ↔ (w.two_ p p2).bad a := fun a => (bad_two (List.mem_of_getElem? hp) (List.mem_of_getElem? hp2)).symm
    refine ⟨w.two_ p p2, _, _, _, _, ra.two_ hp hp2 (fun j hj => by rw [hc] at hj; simpa using hj), rs1.mem.two_ hp hp2 em em2 ne, q, fun d M' H2 v pp e2 mm rp => ?_, fun cc xx M' H2 dd v pp e2 mm hd rp => ?_⟩
    · obtain ⟨m', m2', em', pp⟩ := pp
      subst em'
      obtain ⟨e3, rs3⟩ := rs1.after_two hp hp2 ne e2 mm
      exact k d _ H2 v pp (e1.trans e3) rs3 (Rep.gen (kb hb) rp)
    · obtain ⟨m', m2', em', pp⟩ := pp
      subst em'
      obtain ⟨e3, rs3⟩ := rs1.after_two hp hp2 ne e2 mm
      exact x cc xx _ H2 dd v pp (e1.trans e3) rs3 ⟨fun z => hd.1 ((hb dd).mp z), hd.2⟩ (Rep.gen (kb hb) rp), x⟩
theorem de_call2 {spd : SpD} {t : TDA} {k : Nat} {f : Addr} {fd : FuncData} {ps : List Str} {x : Str} {p : Pos} {es : List Expr} (tk : Takes X W) (F : FnOk X.prog X.w X.K X.mg X.base (L2.CX X.prog X.w) k f fd ps (lSp g spd)) (hr : Room k X.A) (hg : Gl X x) (hm : X.mg x = some (.ref f)) (hk : PySem.W.keepIn X.K (.ref f) = true) (hb : Binds X.K fd ps [])
    (ha : PA X (e :: es) (lA g W t)) (hdb : (x == ("__debug__" : Str)) = false := by decide) (he : starEach (e :: es) X.env = (false, eval e X.env) :: starEach es X.env := by rfl) (hpl : (backTo pos (starEach es X.env)).any (·.1) = false := by rfl) :
    PE X (.Call (.Name x p) (e :: es) [] pos) (lE g W (dCall2 spd t)) := pe_imp (pe_callS F hr hg hm hk hb (fun σ => passAt tk σ) ha hdb he hpl) (lE_call2 fun _ _ _ h => h)
end
end DL

/-! max of a dict's keys; tuples written at the top in comparisons. -/
namespace DL
open PySem L2 PyProof.Rows
section
variable {X : Cx} {g : G} {W : WX} {pos p : Pos} {a b c e : Expr} {ta tb tc td : TD} {w : Cs} {H H' : Hp} {σ : L2.St} {s : S} {t : TDA} {es : List Expr}
def rMaxK : List V → Hp → VK → Prop := fun vs H Q => ∃ (a : Addr) (kvs : List (Key × V)) (ns : List Int), vs = [V.ref a] ∧ H a = some (.dK kvs) ∧ kvs.map (·.1) = ns.map Sum.inl ∧ 0 < ns.length ∧ ∀ m, m ∈ ns → (∀ y, y ∈ ns → y ≤ m) → Q (.int m) H
theorem cr_maxK (hc : X.calm = true) : CallR X (.builtin "max") rMaxK := by
  intro pins s σ H vs us Q I r h
  obtain ⟨a, kvs, ns, rfl, hd, hns, hne, q⟩ := h
  rw [Vals.ref1 r]
  obtain ⟨z, lo, ks, rel, dd⟩ := dk_of I.hok hd
  obtain ⟨es, ep, hr, hsz, he⟩ := dd.raw
  have hlt : a < s.heap.objs.size := by obtain ⟨o, e, _⟩ := hr; exact Heap.lt_size e
  have hk2 : ks.map (·.1) = ns.map Sum.inl := by rw [← rel.keys]; exact hns
  have hl : es.size = ns.length := by
    have := congrArg List.length hk2
    rw [hsz]; simpa using this
  have item : ∀ i v, (∃ hi : i < es.size, v = es[i].key) → ∃ t, v = .int (ns.getD i 0) t := fun i v ⟨hi, e⟩ => by
    have hi2 : i < ks.length := by rw [← hsz]; exact hi
    have hi3 : i < ns.length := by omega
    have h1 := (he i hi ks[i].1 ks[i].2 (by rw [List.getElem?_eq_getElem hi2])).1
    have e1 : ks[i].1 = Sum.inl ns[i] := by
      have z : (ks.map (·.1))[i]? = (ns.map Sum.inl)[i]? := by rw [hk2]
      rw [List.getElem?_map, List.getElem?_map, List.getElem?_eq_getElem hi2, List.getElem?_eq_getElem hi3] at z
      exact Option.some.inj z
    rw [e1] at h1
    have e3 : ns.getD i 0 = ns[i] := by rw [List.getD_eq_getElem?_getD, List.getElem?_eq_getElem hi3]; rfl
    have h1' : keyIs (Sum.inl ns[i] : Key) es[i].key = true := h1
    rcases keyIs_shape h1' with ⟨j, t, ek, ev⟩ | ⟨z, t, ek, ev⟩
    · cases ek
      exact ⟨t, by rw [e, e3]; exact ev⟩
    · cases ek
  refine call_max_walk (wpAny_pyIter_dict_raw lo hr ?_)
  refine ⟨_, _, _, _, _, _, _, rfl, Walks.rawKeys (A := X.A.in1) (I.ok.hd hc) _ a (Nat.ne_of_lt hlt) es ep, ⟨⟨_, Heap.get?_push_size _ rfl, rfl, rfl⟩, hr.at fun o e => Heap.get?_push_of_some _ e⟩, fun b hb => ?_, by omega, CmpOf.ints_gt (fun i => ns.getD i 0) item, fun v h' tk hv' hk => ?_⟩
  · show b < (s.heap.push _).objs.size
    show b < (s.heap.objs.push _).size
    rw [Array.size_push]
    rcases List.mem_cons.mp hb with z | z
    · rw [z]; exact Nat.lt_succ_self _
    · rw [List.mem_singleton.mp z]; exact Nat.lt_succ_of_lt hlt
  · obtain ⟨t, rfl⟩ := item _ _ hv'
    obtain ⟨m1, m2⟩ := argBest_gt (fun i => ns.getD i 0) (es.size - 1)
    have hk2 : ∀ b o, s.heap.get? b = some o → h'.get? b = some o := fun b o e => hk b o (fun z => by rw [List.mem_singleton.mp z] at e; exact absurd (Heap.lt_size e) (Nat.lt_irrefl _)) (Heap.get?_push_of_some _ e)
    refine ⟨.int _, H, I.kept (t' := tk) hk2, ⟨t, rfl⟩, q _ (PySem.getD_mem (by omega)) fun y hy => ?_⟩
    obtain ⟨j, hj, e⟩ := List.mem_iff_getElem.mp hy
    have z := m2 j (by omega)
    have e3 : ns.getD j 0 = y := by rw [List.getD_eq_getElem?_getD, List.getElem?_eq_getElem hj, ← e]; rfl
    rw [e3] at z
    exact z
@[simp] def rMaxKD : RCd := fun xs M P => match xs with
  | [.cell c] => ∃ ks, M[c]? = some (some (.dk ks)) ∧ 0 < ks.length ∧ ∀ m, m ∈ ks.map (·.1) → (∀ y, y ∈ ks.map (·.1) → y ≤ m) → P (.int m)
  | _ => False
theorem RepK.keys {α β : Type} {enc : α → β} : ∀ {ks : List (α × D)} {ws : List (β × V)}, RepK g w H enc ks ws → ws.map (·.1) = (ks.map (·.1)).map enc
  | [], _, h => by subst h; rfl
  | _ :: ks, _, ⟨v, r, e, q, z⟩ => by subst e; rw [List.map_cons, List.map_cons, List.map_cons, RepK.keys z]
theorem l_maxK : ∀ vs H Q, lC g rMaxKD vs H Q → rMaxK vs H Q := fun vs H Q ⟨w, xs, M, P, ha, m, r, q⟩ => by
  match xs, r, ha with
  | [.cell c], ⟨ks, em, hl, r⟩, ha =>
    obtain ⟨a, r', ev, ec, z⟩ := ha
    have z : r' = [] := z
    subst ev z
    obtain ⟨a', ea', ws, hp, rv⟩ := m.at_ c _ em
    rw [ec] at ea'; cases ea'
    exact ⟨a, ws, ks.map (·.1), rfl, hp, rv.keys, by simpa using hl, fun mm h1 h2 => q _ _ _ (r mm h1 h2) Same0 (by simp only [Rep])⟩
theorem de_maxK (hc : X.calm = true) (hg : Gl X "max") (hm : X.mg "max" = none) (ha : PA X (e :: es) (lA g W t)) (he : starEach (e :: es) X.env = (false, eval e X.env) :: starEach es X.env := by rfl) (hpl : (backTo pos (starEach es X.env)).any (·.1) = false := by rfl) :
    PE X (.Call (.Name "max" p) (e :: es) [] pos) (lE g W (dCB rMaxKD t)) := pe_imp (pe_callB (cr_maxK hc) hg hm (by decide +kernel) ha (by decide) (by decide) he hpl) (l_cb l_maxK)
end
theorem hu1 {k : Nat} {A : Around} (hr : Room k A) : A.units + 1 < cLine := Nat.lt_of_le_of_lt (by omega) hr.units
end DL

/-! Cups: what the laws of cups share (the checks of made_cup; the drawing of a cup). -/
namespace DL
open PySem L2
abbrev figD (S G : List Int) : D := .tup [tupI S, tupI G]
abbrev pairsT (ps : List (Int × Int)) : D := .tup (ps.map pairD)
def mayB (S G : List Int) (y x : Int) : Bool := decide (y ≠ x) && decide (atG G x ≤ atG S y)
theorem okN_pair (r y : Int) : OkN 1 (.tup [.int r, .int y]) := OkN.tup fun d hd => by
  simp only [List.mem_cons, List.not_mem_nil, or_false] at hd
  rcases hd with rfl | rfl <;> exact OkN.int 0 _
theorem okD_pair (r y : Int) : okD (.tup [.int r, .int y]) = true := (okN_pair r y).ok
theorem okD_stays : okD (.ct [.int 0, .int (-1)]) = true := by
  have := okD_pair 0 (-1)
  simpa [okD, toPy] using this
theorem eqD_pairs (r y r' y' : Int) : eqD (.tup [.int r, .int y]) (.tup [.int r', .int y']) = decide (r = r' ∧ y = y') := by
  rw [eqD_tup]
  simp [eqDs]
theorem eqD_stays (r y : Int) : eqD (.tup [.int r, .int y]) (.ct [.int 0, .int (-1)]) = decide (r = 0 ∧ y = -1) := by
  have := eqD_pairs r y 0 (-1)
  simpa [eqD, toPy] using this
/-- the pair of a side -/
def cg (ps : List (Int × Int)) (x : Int) : Int × Int := ps.getD x.toNat (0, -1)
theorem cg_at {ps : List (Int × Int)} {x : Int} (h0 : 0 ≤ x) (h1 : x < ps.length) : atI (ps.map pairD) x = some (pairD (cg ps x)) := by
  rw [atI_pos h0, List.getElem?_map, List.getElem?_eq_getElem (by omega)]
  unfold cg
  rw [List.getD_eq_getElem?_getD, List.getElem?_eq_getElem (by omega)]
  rfl
theorem cg_get {ps : List (Int × Int)} {k : Nat} {p : Int × Int} (h : ps[k]? = some p) : cg ps k = p := by
  unfold cg
  rw [List.getD_eq_getElem?_getD]
  simp [h]
def formOk (n : Int) (k : Nat) (p : Int × Int) : Prop := (1 ≤ p.1 ∧ 0 ≤ p.2 ∧ p.2 < n ∧ p.2 ≠ k) ∨ p = (0, -1)
instance (n : Int) (k : Nat) (p : Int × Int) : Decidable (formOk n k p) := by unfold formOk; infer_instance
def formBad (n : Int) : Nat → List (Int × Int) → Option Nat
  | _, [] => none
  | k, p :: r => if formOk n k p then formBad n (k + 1) r else some k
def ranges (b : Int) : List Int := (List.range (b - 1).toNat).map fun (i : Nat) => (1 : Int) + i
def gapBad (b : Int) (rs : List Int) : Option Int := (ranges b).find? fun r => decide (r ∉ rs)
def maxL : List Int → Int
  | [] => 0
  | [x] => x
  | x :: y :: r => max x (maxL (y :: r))
def gamesBad (S G : List Int) (all : List (Int × Int)) : Nat → List (Int × Int) → Option (Nat × Int)
  | _, [] => none
  | k, p :: r => if 0 < p.1 then (if 0 < (cg all p.2).1 ∧ (cg all p.2).1 ≤ p.1 then some (k, 1) else if p ∈ all.take k then some (k, 2) else if mayB S G p.2 k = true then gamesBad S G all (k + 1) r else some (k, 3)) else gamesBad S G all (k + 1) r
def cupErr (S G : List Int) (ps : List (Int × Int)) : Option (Str × D) :=
  if ps.length = S.length then match formBad S.length 0 ps with
    | some k => some ("BadGame", .tup [.int (k : Nat), .int 0])
    | none => match gapBad (min (maxL (ps.map (·.1))) (S.length + 1)) (ps.map (·.1)) with
      | some r => some ("BadRounds", .int r)
      | none => match gamesBad S G ps 0 ps with
        | some (k, j) => some ("BadGame", .tup [.int (k : Nat), .int j])
        | none => none
  else some ("Unlike", .int ps.length)
def orE (e : Option (Str × D)) (d : D) (P : D → Mem → Prop) (PX : KXM) : Prop := match e with
  | some (c, x) => PX c x []
  | none => P d []
def spCanBeat : SpD := fun xs M P _ => ∃ (S G : List Int) (y x : Int), xs = [.dat (fldD S G), .dat (.int y), .dat (.int x)] ∧ M = [] ∧ 0 ≤ y ∧ y < S.length ∧ 0 ≤ x ∧ x < G.length ∧ P (.bl (mayB S G y x)) []
def spForm : SpD := fun xs M P PX => ∃ (n : Int) (ps : List (Int × Int)), xs = [.dat (.int n), .dat (pairsT ps)] ∧ M = [] ∧ ps.length ≤ 1000 ∧ orE (if (ps.length : Int) = n then match formBad n 0 ps with
  | some k => some ("BadGame", .tup [.int (k : Nat), .int 0])
  | none => none else some ("Unlike", .int ps.length)) .non P PX
def spGap : SpD := fun xs M P PX => ∃ (n : Int) (ps : List (Int × Int)), xs = [.dat (.int n), .dat (pairsT ps)] ∧ M = [] ∧ ps ≠ [] ∧ ps.length ≤ 1000 ∧ 0 ≤ n ∧ n ≤ 1000 ∧ (∀ p ∈ ps, 0 ≤ p.1) ∧ orE (match gapBad (min (maxL (ps.map (·.1))) (n + 1)) (ps.map (·.1)) with
  | some r => some ("BadRounds", .int r)
  | none => none) .non P PX
def spGamesC : SpD := fun xs M P PX => ∃ (S G : List Int) (ps : List (Int × Int)), xs = [.dat (fldD S G), .dat (pairsT ps)] ∧ M = [] ∧ ps.length = S.length ∧ G.length = S.length ∧ ps.length ≤ 1000 ∧ formBad S.length 0 ps = none ∧ orE (match gamesBad S G ps 0 ps with
  | some (k, j) => some ("BadGame", .tup [.int (k : Nat), .int j])
  | none => none) .non P PX
def spMadeCup : SpD := fun xs M P PX => ∃ (S G : List Int) (ps : List (Int × Int)), xs = [.dat (fldD S G), .dat (pairsT ps)] ∧ M = [] ∧ 1 ≤ S.length ∧ G.length = S.length ∧ S.length ≤ 1000 ∧ ps.length ≤ 1000 ∧ orE (cupErr S G ps) (pairsT ps) P PX
def spMay : SpD := fun xs M P _ => ∃ (S G : List Int) (y x : Int), xs = [.dat (figD S G), .dat (.int y), .dat (.int x)] ∧ M = [] ∧ 0 ≤ y ∧ y < S.length ∧ 0 ≤ x ∧ x < G.length ∧ P (.bl (mayB S G y x)) []
def spFigures : SpD := fun xs M P _ => ∃ (n a b : Int), xs = [.cell 0, .dat (.int n)] ∧ M = [src a b] ∧ Good a b ∧ 1 ≤ n ∧ n ≤ 32 ∧ ∀ (S G : List Int) a' b', S.length = n.toNat → G.length = n.toNat → (∀ v ∈ S, 0 ≤ v ∧ v ≤ 100) → (∀ v ∈ G, -1 ≤ v ∧ v ≤ 100) → Good a' b' → P (figD S G) [src a' b']
def spStairC : SpD := fun xs M P _ => ∃ (S G L : List Int), xs = [.dat (figD S G), .dat (.lst (L.map .int))] ∧ M = [] ∧ L.length ≤ 1000 ∧ (∀ x ∈ L, 0 ≤ x ∧ x < G.length) ∧ P (.lst ((stairOf G L).map .int)) []
/-- what a drawn round tells -/
structure FOK (S G : List Int) (left : List Int) (F : List (Int × Int)) : Prop where
  nx : (F.map (·.1)).Nodup
  ny : (F.map (·.2)).Nodup
  mem : ∀ p ∈ F, p.1 ∈ left ∧ p.2 ∈ left ∧ mayB S G p.2 p.1 = true
  dis : ∀ p ∈ F, ∀ q ∈ F, p.1 ≠ q.2
def spDrawn : SpD := fun xs M P _ => ∃ (S G left : List Int) (f : Bool) (a b : Int), xs = [.cell 0, .dat (figD S G), .cell 1, .dat (.bl f)] ∧ M = [src a b, some (.lst (left.map .int))] ∧ Good a b ∧ left.Nodup ∧ G.length = S.length ∧ (∀ x ∈ left, 0 ≤ x ∧ x < S.length) ∧ left.length ≤ 1000 ∧
  ∀ F a' b', FOK S G left F → Good a' b' → P (.lst (F.map pairD)) [src a' b', some (.lst (left.map .int))]
structure CupP (S G : List Int) (ps : List (Int × Int)) : Prop where
  len : ps.length = S.length
  form : ∀ x : Int, 0 ≤ x → x < S.length → cg ps x = (0, -1) ∨ (1 ≤ (cg ps x).1 ∧ 0 ≤ (cg ps x).2 ∧ (cg ps x).2 < S.length ∧ mayB S G (cg ps x).2 x = true ∧ ((cg ps (cg ps x).2) = (0, -1) ∨ (cg ps x).1 < (cg ps (cg ps x).2).1))
  one : ∀ x z : Int, 0 ≤ x → x < S.length → 0 ≤ z → z < S.length → cg ps x = cg ps z → 1 ≤ (cg ps x).1 → x = z
  gap : ∀ x r : Int, 0 ≤ x → x < S.length → 1 ≤ r → r ≤ (cg ps x).1 → ∃ z : Int, 0 ≤ z ∧ z < S.length ∧ (cg ps z).1 = r
  top : ∀ x : Int, 0 ≤ x → x < S.length → (cg ps x).1 < S.length
def spCupL : SpD := fun xs M P _ => ∃ (S G : List Int) (a b : Int), xs = [.cell 0, .dat (figD S G)] ∧ M = [src a b] ∧ Good a b ∧ 1 ≤ S.length ∧ S.length ≤ 1000 ∧ G.length = S.length ∧ ∀ (ps : List (Int × Int)) a' b', CupP S G ps → Good a' b' → P (pairsT ps) [src a' b']
theorem len_canBeat : ∀ xs M P PX, spCanBeat xs M P PX → xs.length = 3 := fun _ _ _ _ ⟨_, _, _, _, e, _⟩ => by rw [e]; rfl
theorem len_form : ∀ xs M P PX, spForm xs M P PX → xs.length = 2 := fun _ _ _ _ ⟨_, _, e, _⟩ => by rw [e]; rfl
theorem len_gap : ∀ xs M P PX, spGap xs M P PX → xs.length = 2 := fun _ _ _ _ ⟨_, _, e, _⟩ => by rw [e]; rfl
theorem len_gamesC : ∀ xs M P PX, spGamesC xs M P PX → xs.length = 2 := fun _ _ _ _ ⟨_, _, _, e, _⟩ => by rw [e]; rfl
theorem len_madeCup : ∀ xs M P PX, spMadeCup xs M P PX → xs.length = 2 := fun _ _ _ _ ⟨_, _, _, e, _⟩ => by rw [e]; rfl
theorem len_may : ∀ xs M P PX, spMay xs M P PX → xs.length = 3 := fun _ _ _ _ ⟨_, _, _, _, e, _⟩ => by rw [e]; rfl
theorem len_figures : ∀ xs M P PX, spFigures xs M P PX → xs.length = 2 := fun _ _ _ _ ⟨_, _, _, e, _⟩ => by rw [e]; rfl
theorem len_stairC : ∀ xs M P PX, spStairC xs M P PX → xs.length = 2 := fun _ _ _ _ ⟨_, _, _, e, _⟩ => by rw [e]; rfl
theorem len_drawn : ∀ xs M P PX, spDrawn xs M P PX → xs.length = 4 := fun _ _ _ _ ⟨_, _, _, _, _, _, e, _⟩ => by rw [e]; rfl
theorem len_cupL : ∀ xs M P PX, spCupL xs M P PX → xs.length = 2 := fun _ _ _ _ ⟨_, _, _, _, e, _⟩ => by rw [e]; rfl
def tdCanBeat : TSd :=
  dRet (dAndV (dOp rNeD' (dVar 1) (dVar 2)) (dOp rGeD (dOp rIxD (dFld (dVar 0) "Field" "strengths") (dVar 1)) (dOp rIxD (dFld (dVar 0) "Field" "guards") (dVar 2))))
abbrev N_cCanBeat : List Str := ["field", "y", "x"]
def tdForm : TSd :=
  dSeq (dIfS (dT (dOp rNeD' (dCB rLenD (dCons (dVar 1) (dNil))) (dVar 0))) (dRaise "Unlike" (dCB rLenD (dCons (dVar 1) (dNil)))) (dNext))
  (dFor (dEnum (dCons (dVar 1) (dNil))) (dgTup 2 (dgsCons (dgName 2) (dgsCons (dgTup 2 (dgsCons (dgName 3) (dgsCons (dgName 4) (dgsNil)))) (dgsNil)))) (dSeq (dSet 5 (dAndV (dOp rGeD (dVar 3) (dC (.int 1))) (dAndV (dChain rLeD rLtD (dC (.int 0)) (dVar 4) (dVar 0)) (dOp rNeD' (dVar 4) (dVar 2)))))
  (dIfS (dAnd (dNot (dTru (dVar 5))) (dT (dOp rNeD' (dTup (dCons (dVar 3) (dCons (dVar 4) (dNil)))) (dC (.ct (([0, -1] : List Int).map .int)))))) (dRaise "BadGame" (dTup (dCons (dVar 2) (dCons (dC (.int 0)) (dNil))))) (dNext))))
abbrev N_cForm : List Str := ["n", "pairs", "x", "r", "y", "loses"]
def tdGap : TSd :=
  dSeq (dNewD 2 (.dk []))
  (dSeq (dFor (dIter (dVar 1)) (dgTup 2 (dgsCons (dgName 3) (dgsCons (dgName 4) (dgsNil)))) (dPutK 2 (dVar 3) (dC (.bl true))))
  (dFor (dRange2 (dCons (dC (.int 1)) (dCons (dCB (r2I fun i j => if j < i then j else i) (dCons (dCB rMaxKD (dConsC 2 (dNil))) (dCons (dOp rAddD (dVar 0) (dC (.int 1))) (dNil)))) (dNil)))) (dgName 3) (dIfS (dT (dInK true 2 (dVar 3))) (dRaise "BadRounds" (dVar 3)) (dNext))))
abbrev N_cGap : List Str := ["n", "pairs", "told", "r", "_"]
def tdGamesC : TSd :=
  dSeq (dNewD 2 (.dt []))
  (dFor (dEnum (dCons (dVar 1) (dNil))) (dgTup 2 (dgsCons (dgName 3) (dgsCons (dgTup 2 (dgsCons (dgName 4) (dgsCons (dgName 5) (dgsNil)))) (dgsNil)))) (dIfS (dT (dOp rGtD (dVar 4) (dC (.int 0)))) (dSeq (dIfS (dT (dChain rLtD rLeD (dC (.int 0)) (dOp rIxD (dOp rIxD (dVar 1) (dVar 5)) (dC (.int 0))) (dVar 4))) (dRaise "BadGame" (dTup (dCons (dVar 3) (dCons (dC (.int 1)) (dNil))))) (dNext))
  (dSeq (dIfS (dT (dInK false 2 (dTup (dCons (dVar 4) (dCons (dVar 5) (dNil)))))) (dRaise "BadGame" (dTup (dCons (dVar 3) (dCons (dC (.int 2)) (dNil))))) (dNext))
  (dSeq (dIfS (dNot (dTru (dCall spCanBeat (dCons (dVar 0) (dCons (dVar 5) (dCons (dVar 3) (dNil))))))) (dRaise "BadGame" (dTup (dCons (dVar 3) (dCons (dC (.int 3)) (dNil))))) (dNext))
  (dPutK 2 (dTup (dCons (dVar 4) (dCons (dVar 5) (dNil)))) (dC (.bl true)))))) (dNext)))
abbrev N_cGamesC : List Str := ["field", "pairs", "beaten", "x", "r", "y"]
def tdMadeCup : TSd :=
  dSeq (dDrop (dCall spForm (dCons (dFld (dVar 0) "Field" "n") (dCons (dVar 1) (dNil)))))
  (dSeq (dDrop (dCall spGap (dCons (dFld (dVar 0) "Field" "n") (dCons (dVar 1) (dNil)))))
  (dSeq (dDrop (dCall spGamesC (dCons (dVar 0) (dCons (dVar 1) (dNil)))))
  (dRet (dVar 1))))
abbrev N_cMadeCup : List Str := ["field", "pairs"]
def tdFigures : TSd :=
  dSeq (dSet 2 (dCall spTake (dConsC 0 (dCons (dC (.int 3)) (dNil)))))
  (dSeq (dIfS (dT (dOp rEqD' (dVar 2) (dC (.int 0)))) (dSeq (dSet 3 (dCB rTupD (dCons (dCall spShuf (dConsC 0 (dCons (dVar 1) (dNil)))) (dNil))))
  (dRet (dTup (dCons (dVar 3) (dCons (dVar 3) (dNil)))))) (dNext))
  (dSeq (dSet 4 (dCB rTupD (dCons (dF (dLc (dRange1 (dCons (dVar 1) (dNil))) (dgName 5) (dYes) (dCall spTake (dConsC 0 (dCons (dC (.int 4)) (dNil)))) [5])) (dNil))))
  (dSeq (dIfS (dT (dOp rEqD' (dVar 2) (dC (.int 1)))) (dRet (dTup (dCons (dVar 4) (dCons (dVar 4) (dNil))))) (dNext))
  (dRet (dTup (dCons (dVar 4) (dCons (dCB rTupD (dCons (dF (dLc (dRange1 (dCons (dVar 1) (dNil))) (dgName 5) (dYes) (dOp rSubD (dCall spTake (dConsC 0 (dCons (dC (.int 5)) (dNil)))) (dC (.int 1))) [5])) (dNil))) (dNil))))))))
abbrev N_cFigures : List Str := ["_law_source", "_law_n", "_law_kind", "_law_row", "_law_ranks", "_law_x"]
def tdMay : TSd :=
  dRet (dAndV (dOp rNeD' (dVar 1) (dVar 2)) (dOp rGeD (dOp rIxD (dOp rIxD (dVar 0) (dC (.int 0))) (dVar 1)) (dOp rIxD (dOp rIxD (dVar 0) (dC (.int 1))) (dVar 2))))
abbrev N_cMay : List Str := ["_law_figures_here", "_law_y", "_law_x"]
def tdStairC : TSd :=
  dRet (dF (dLc (dIter (dCB rSortD (dCons (dF (dLc (dIter (dVar 1)) (dgName 3) (dYes) (dTup (dCons (dUn rNegD (dOp rIxD (dOp rIxD (dVar 0) (dC (.int 1))) (dVar 3))) (dCons (dVar 3) (dNil)))) [3])) (dNil)))) (dgTup 2 (dgsCons (dgName 2) (dgsCons (dgName 3) (dgsNil)))) (dYes) (dVar 3) [2, 3]))
abbrev N_cStairC : List Str := ["_law_figures_here", "_law_sides", "_law_guard", "_law_x"]
def tdDrawn : TSd :=
  dSeq (dSet 4 (dF (dLc (dIter (dCall spShuf (dConsC 0 (dCons (dCB rLenD (dConsC 2 (dNil))) (dNil))))) (dgName 5) (dYes) (dIxC 2 (dVar 5)) [5])))
  (dSeq (dSet 6 (dOp rDivD (dCB rLenD (dConsC 2 (dNil))) (dC (.int 2))))
  (dSeq (dIfS (dNot (dTru (dVar 3))) (dSet 6 (dCall spTake (dConsC 0 (dCons (dOp rAddD (dVar 6) (dC (.int 1))) (dNil))))) (dNext))
  (dSeq (dPar 7 8 (dConsF (dSlL (dVar 4) (dPart (dVar 6)) (dNoPart)) (dConsF (dLst (dNil)) (dNil))))
  (dSeq (dFor (dIter (dCall spStairC (dCons (dVar 1) (dCons (dSl (dVar 4) (dNoPart) (dPart (dVar 6))) (dNil))))) (dgName 9) (dSeq (dSet 10 (dF (dLendF 7 (dLc (dIter (dVar 7)) (dgName 11) (dTru (dCall spMay (dCons (dVar 1) (dCons (dVar 11) (dCons (dVar 9) (dNil)))))) (dVar 11) [11]))))
  (dIfS (dTru (dVar 10)) (dSeq (dSet 11 (dCall spOne (dConsC 0 (dCons (dVar 10) (dNil)))))
  (dSeq (dDrop (dMeth1 7 fRemI (dVar 11)))
  (dDrop (dMeth1 8 fAppend (dTup (dCons (dVar 9) (dCons (dVar 11) (dNil)))))))) (dNext))))
  (dFreeze 8 (dRet (dVar 8)))))))
abbrev N_cDrawn : List Str := ["_law_source", "_law_figures_here", "_law_left", "_law_is_full", "_law_names", "_law_k", "_law_many", "_law_seats", "_law_found", "_law_x", "_law_may_here", "_law_y"]
def tdCupL : TSd :=
  dSeq (dSet 2 (dCB rLenD (dCons (dOp rIxD (dVar 1) (dC (.int 0))) (dNil))))
  (dSeq (dPar3 3 4 5 (dConsF (dOpF rRepF (dF (dLst (dCons (dTup (dCons (dC (.int 0)) (dCons (dUn rNegD (dC (.int 1))) (dNil)))) (dNil)))) (dVar 2)) (dConsF (dLc (dRange1 (dCons (dVar 2) (dNil))) (dgName 6) (dYes) (dVar 6) [6]) (dCons (dOp rEqD' (dCall spTake (dConsC 0 (dCons (dC (.int 3)) (dNil)))) (dC (.int 0))) (dNil)))))
  (dSeq (dFor (dRange2 (dCons (dC (.int 1)) (dCons (dVar 2) (dNil)))) (dgName 7) (dSeq (dSet 8 (dCall2 spDrawn (dConsC 0 (dCons (dVar 1) (dConsC 4 (dCons (dOrV (dVar 5) (dOp rGtD (dCall spTake (dConsC 0 (dCons (dC (.int 4)) (dNil)))) (dC (.int 0)))) (dNil)))))))
  (dSeq (dIfS (dNot (dTru (dVar 8))) (dBreak) (dNext))
  (dFor (dIter (dVar 8)) (dgTup 2 (dgsCons (dgName 6) (dgsCons (dgName 9) (dgsNil)))) (dSeq (dSetIx 3 (dVar 6) (dTup (dCons (dVar 7) (dCons (dVar 9) (dNil)))))
  (dDrop (dMeth1 4 fRemI (dVar 6))))))))
  (dFreeze 3 (dRet (dCB rTupD (dCons (dVar 3) (dNil)))))))
abbrev N_cCupL : List Str := ["_law_source", "_law_figures_here", "_law_n", "_law_row", "_law_left", "_law_is_full", "_law_x", "_law_r", "_law_found", "_law_y"]
theorem mCanBeat : ∀ xs M P PX, spCanBeat xs M P PX → tdCanBeat (startS N_cCanBeat xs M) (endE M.length P) (endX M.length PX) := by
  rintro xs M P PX ⟨S, G, y, x, rfl, rfl, y0, y1, x0, x1, hp⟩
  unfold mayB at hp
  by_cases e : y = x
  · simp [tdCanBeat, e] at hp ⊢
    exact hp
  · simp [tdCanBeat, fldD, e, atG_at y0 y1, atG_at x0 x1] at hp ⊢
    exact hp
theorem mMay : ∀ xs M P PX, spMay xs M P PX → tdMay (startS N_cMay xs M) (endE M.length P) (endX M.length PX) := by
  rintro xs M P PX ⟨S, G, y, x, rfl, rfl, y0, y1, x0, x1, hp⟩
  unfold mayB at hp
  by_cases e : y = x
  · simp [tdMay, e] at hp ⊢
    exact hp
  · simp [tdMay, e, atG_at y0 y1, atG_at x0 x1] at hp ⊢
    exact hp
theorem zipIdxP (ps : List (Int × Int)) : ∀ k, (ps.map pairD).zipIdx k = (ps.zipIdx k).map fun p => (pairD p.1, p.2) := by
  induction ps with
  | nil => intro k; rfl
  | cons x r ih => intro k; simp [List.zipIdx_cons, ih]
theorem enumP (ps : List (Int × Int)) : enumD (ps.map pairD) = ps.zipIdx.map fun p => D.tup [.int (p.2 : Nat), pairD p.1] := by
  unfold enumD
  rw [zipIdxP, List.map_map]
  rfl
theorem mForm : ∀ xs M P PX, spForm xs M P PX → tdForm (startS N_cForm xs M) (endE M.length P) (endX M.length PX) := by
  rintro xs M P PX ⟨n, ps, rfl, rfl, hl, hp⟩
  unfold tdForm
  refine dSeq_k fun K hK => ?_
  by_cases hn : (ps.length : Int) = n
  case neg =>
    rw [if_neg hn] at hp
    simp [hn]
    exact hp
  rw [if_pos hn] at hp
  simp [hn]
  refine hK _ ?_
  clear hK K
  simp
  rw [enumP]
  refine loop_rec (fun p : (Int × Int) × Nat => D.tup [.int (p.2 : Nat), pairD p.1]) (fun xs s => ∃ (k : Nat) (r : List (Int × Int)) (x2 x3 x4 x5 : Sl), xs = r.zipIdx k ∧ formBad n k r = formBad n 0 ps ∧ s = ⟨[.dat (.int n), .dat (pairsT ps), x2, x3, x4, x5], []⟩) ?_ ?_ ps.zipIdx _ rfl ⟨0, ps, _, _, _, _, rfl, rfl, rfl⟩
  · rintro x xs s K2 ⟨k, r, x2, x3, x4, x5, hx, hb, rfl⟩ hK2
    cases r with
    | nil => simp at hx
    | cons m r =>
      rw [List.zipIdx_cons] at hx
      obtain ⟨rfl, rfl⟩ := List.cons.inj hx
      obtain ⟨r0, y0⟩ := m
      have hb2 : (if formOk n k (r0, y0) then formBad n (k + 1) r else some k) = formBad n 0 ps := hb
      have z2 : 2 ≤ sizeLine := by decide
      by_cases hf : formOk n k (r0, y0)
      · rw [if_pos hf] at hb2
        have next : ∀ z : D, K2 ⟨[.dat (.int n), .dat (pairsT ps), .dat (.int k), .dat (.int r0), .dat (.int y0), .dat z], []⟩ := fun z => hK2 _ ⟨k + 1, r, _, _, _, _, rfl, hb2, rfl⟩
        rcases hf with ⟨h1, h2, h3, h4⟩ | h5
        · have h1 : 1 ≤ r0 := h1
          have h2 : 0 ≤ y0 := h2
          have h3 : y0 < n := h3
          have h4 : ¬ y0 = (k : Int) := h4
          simp [h1, h2, h3, h4]
          exact next _
        · cases h5
          simp [okD_pair, okD_stays, eqD_stays, z2]
          exact next _
      · rw [if_neg hf] at hb2
        rw [← hb2] at hp
        have h5 : ¬ (r0 = 0 ∧ y0 = -1) := fun z => hf (.inr (by rw [z.1, z.2]))
        have h6 : ¬ (1 ≤ r0 ∧ 0 ≤ y0 ∧ y0 < n ∧ ¬ y0 = (k : Int)) := fun z => hf (.inl z)
        by_cases c4 : y0 = (k : Int)
        · have c2 : 0 ≤ y0 := by omega
          have h7 : ¬ (r0 = 0 ∧ (k : Int) = -1) := by omega
          by_cases c1 : 1 ≤ r0 <;> by_cases c3 : y0 < n <;> simp only [c4] at c2 c3 <;> simp [c1, c2, c3, c4, okD_pair, okD_stays, eqD_stays, z2] <;> (first | exact hp | exact Or.inr hp | exact ⟨by omega, hp⟩)
        · by_cases c1 : 1 ≤ r0 <;> by_cases c2 : 0 ≤ y0 <;> by_cases c3 : y0 < n <;> (first | (exfalso; exact h6 ⟨c1, c2, c3, c4⟩) | (simp [c1, c2, c3, c4, okD_pair, okD_stays, eqD_stays, z2, h5]; exact hp))
  · rintro s ⟨k, r, x2, x3, x4, x5, hx, hb, rfl⟩
    have : r = [] := by cases r with
      | nil => rfl
      | cons => simp [List.zipIdx_cons] at hx
    subst this
    rw [← hb] at hp
    simpa [orE, formBad] using hp
theorem valD_keys : ∀ (ks : List (Int × D)) (r : Int), (valD ks r).isSome = decide (r ∈ ks.map (·.1))
  | [], r => by simp
  | p :: ks, r => by
    rw [valD_cons]
    by_cases h : p.1 = r
    · simp [h]
    · simp [h, valD_keys ks r]
      intro z; exact absurd z.symm h
theorem keys_put (ks : List (Int × D)) (r : Int) (d : D) (x : Int) : x ∈ (putD ks r d).map (·.1) ↔ x = r ∨ x ∈ ks.map (·.1) := by
  have h1 := valD_keys (putD ks r d) x
  have h2 := valD_keys ks x
  rw [valD_put] at h1
  by_cases e : x = r
  · subst e
    simp only [if_pos] at h1
    have : x ∈ (putD ks x d).map (·.1) := by simpa using h1.symm
    simp [this]
  · rw [if_neg e, h2] at h1
    have : (x ∈ ks.map (·.1)) ↔ x ∈ (putD ks r d).map (·.1) := by simpa using h1
    rw [← this]
    simp [e]
theorem putD_len {α : Type} [DecidableEq α] (ks : List (α × D)) (r : α) (d : D) : (putD ks r d).length ≤ ks.length + 1 := by
  unfold putD
  split <;> simp
theorem maxL_mem : ∀ {l : List Int}, l ≠ [] → maxL l ∈ l ∧ ∀ y ∈ l, y ≤ maxL l
  | [], h => absurd rfl h
  | [x], _ => by simp [maxL]
  | x :: y :: r, _ => by
    obtain ⟨h1, h2⟩ := maxL_mem (l := y :: r) (by simp)
    unfold maxL
    constructor
    · by_cases c : x ≤ maxL (y :: r)
      · rw [Int.max_eq_right c]; exact List.mem_cons_of_mem _ h1
      · rw [Int.max_eq_left (by omega)]; exact List.mem_cons_self
    · intro z hz
      rcases List.mem_cons.mp hz with e | hz
      · omega
      · have := h2 z hz; omega
theorem maxL_eq {l : List Int} {m : Int} (h1 : m ∈ l) (h2 : ∀ y ∈ l, y ≤ m) : maxL l = m := by
  have ne : l ≠ [] := by intro z; rw [z] at h1; cases h1
  obtain ⟨a, b⟩ := maxL_mem ne
  have := h2 _ a
  have := b _ h1
  omega
theorem rangeD_ranges (b : Int) : rangeD 1 (b - 1).toNat = (ranges b).map D.int := by
  unfold rangeD ranges
  rw [List.map_map]
  rfl
theorem mGap : ∀ xs M P PX, spGap xs M P PX → tdGap (startS N_cGap xs M) (endE M.length P) (endX M.length PX) := by
  rintro xs M P PX ⟨n, ps, rfl, rfl, hne, hl, n0, n1, hpos, hp⟩
  unfold tdGap
  refine dSeq_k fun K hK => ?_
  simp
  refine hK _ ?_
  clear hK K
  refine dSeq_mid (fun s => ∃ (ks : List (Int × D)) (x3 x4 : Sl), (∀ x, x ∈ ks.map (·.1) ↔ x ∈ ps.map (·.1)) ∧ s = ⟨[.dat (.int n), .dat (pairsT ps), .cell 0, x3, x4], [some (.dk ks)]⟩) (fun K hK => ?_) ?_
  · simp
    refine loop_inv _ (fun i s => ∃ (ks : List (Int × D)) (x3 x4 : Sl), ks.length ≤ i ∧ (∀ x, x ∈ ks.map (·.1) ↔ x ∈ (ps.take i).map (·.1)) ∧ s = ⟨[.dat (.int n), .dat (pairsT ps), .cell 0, x3, x4], [some (.dk ks)]⟩) ?_ ?_ _ ⟨[], _, _, by simp, by simp, rfl⟩
    · rintro i d s K2 hd ⟨ks, x3, x4, hk, hm, rfl⟩ hK2
      rw [List.getElem?_map] at hd
      cases e : ps[i]? with
      | none => rw [e] at hd; cases hd
      | some p =>
        rw [e] at hd
        cases hd
        have hi : i < ps.length := (List.getElem?_eq_some_iff.mp e).1
        simp
        refine ⟨lt_sl (by omega), hK2 _ ⟨_, _, _, Nat.le_trans (putD_len _ _ _) (by omega), fun x => ?_, rfl⟩⟩
        rw [keys_put, hm, List.take_add_one, e]
        simp
        exact Or.comm
    · rintro s ⟨ks, x3, x4, hk, hm, rfl⟩
      refine hK _ ⟨ks, x3, x4, fun x => ?_, rfl⟩
      rw [hm]
      simp
  · rintro s ⟨ks, x3, x4, hm, rfl⟩
    have kne : 0 < ks.length := by
      cases ps with
      | nil => exact absurd rfl hne
      | cons p r =>
        have := (hm p.1).mpr (by simp)
        cases ks with
        | nil => simp at this
        | cons => simp
    simp
    refine ⟨kne, fun m a hma htop => ?_⟩
    have em : maxL (ps.map (·.1)) = m := maxL_eq ((hm m).mp (List.mem_map.mpr ⟨_, hma, rfl⟩)) fun y hy => by
      obtain ⟨q, hq, e⟩ := List.mem_map.mp ((hm y).mpr hy)
      exact htop y q.2 (by rw [← e]; exact hq)
    rw [em] at hp
    have hmin : (if n + 1 < m then n + 1 else m) = min m (n + 1) := by omega
    rw [hmin]
    have m0 : 0 ≤ m := by
      obtain ⟨q, hq, e⟩ := List.mem_map.mp ((hm m).mp (List.mem_map.mpr ⟨_, hma, rfl⟩))
      rw [← e]; exact hpos q hq
    refine ⟨by constructor <;> omega, by constructor <;> omega, ?_⟩
    have e5 : (min m (n + 1)).toNat - 1 = (min m (n + 1) - 1).toNat := by omega
    rw [e5, rangeD_ranges]
    refine loop_rec D.int (fun xs s => ∃ x3 : Sl, gapBad (min m (n + 1)) (ps.map (·.1)) = xs.find? (fun r => decide (r ∉ ps.map (·.1))) ∧ s = ⟨[.dat (.int n), .dat (pairsT ps), .cell 0, x3, x4], [some (.dk ks)]⟩) ?_ ?_ (ranges (min m (n + 1))) _ rfl ⟨x3, rfl, rfl⟩
    · rintro x xs s K2 ⟨x3, hb, rfl⟩ hK2
      have hk : (valD ks x).isSome = decide (x ∈ ps.map (·.1)) := by rw [valD_keys]; exact decide_eq_decide.mpr (hm x)
      by_cases c : x ∈ ps.map (·.1)
      · rw [List.find?_cons_of_neg (by simpa using c)] at hb
        rw [decide_eq_true c] at hk
        have nx := hK2 _ ⟨Sl.dat (.int x), hb, rfl⟩
        cases ev : valD ks x with
        | none => rw [ev] at hk; cases hk
        | some z => simp [ev]; exact nx
      · rw [List.find?_cons_of_pos (by simpa using c)] at hb
        rw [hb] at hp
        rw [decide_eq_false c] at hk
        cases ev : valD ks x with
        | none => simp [ev]; exact hp
        | some z => rw [ev] at hk; cases hk
    · rintro s ⟨x3, hb, rfl⟩
      rw [hb] at hp
      simpa [orE] using hp
theorem formBad_none {n : Int} : ∀ {ps : List (Int × Int)} {k : Nat}, formBad n k ps = none → ∀ (j : Nat) p, ps[j]? = some p → formOk n (k + j) p
  | [], _, _, j, p, h => by simp at h
  | q :: r, k, e, j, p, h => by
    unfold formBad at e
    by_cases c : formOk n k q
    · rw [if_pos c] at e
      cases j with
      | zero => simp at h; subst h; exact c
      | succ j =>
        have := formBad_none e j p (by simpa using h)
        rw [show k + (j + 1) = k + 1 + j by omega]
        exact this
    · rw [if_neg c] at e; cases e
theorem form_pos {n : Int} {ps : List (Int × Int)} (e : formBad n 0 ps = none) : ∀ p ∈ ps, 0 ≤ p.1 := fun p hp => by
  obtain ⟨j, hj⟩ := List.getElem?_of_mem hp
  rcases formBad_none e j p hj with h | h
  · omega
  · rw [h]; exact Int.le_refl 0
theorem mMadeCup : ∀ xs M P PX, spMadeCup xs M P PX → tdMadeCup (startS N_cMadeCup xs M) (endE M.length P) (endX M.length PX) := by
  rintro xs M P PX ⟨S, G, ps, rfl, rfl, s1, hg, hs, hl, hp⟩
  unfold tdMadeCup
  unfold cupErr at hp
  refine dSeq_k fun K hK => ?_
  simp [fldD]
  refine ⟨_, ps, rfl, rfl, hl, ?_⟩
  by_cases hn : ps.length = S.length
  case neg =>
    rw [if_neg hn] at hp
    rw [if_neg (by omega)]
    exact hp
  rw [if_pos hn] at hp
  rw [if_pos (by omega)]
  cases e1 : formBad S.length 0 ps with
  | some k => rw [e1] at hp; exact hp
  | none =>
    rw [e1] at hp
    refine hK _ ?_
    clear hK K
    refine dSeq_k fun K hK => ?_
    simp [fldD]
    refine ⟨_, ps, rfl, rfl, by intro z; rw [z] at hn; simp at hn; omega, hl, by omega, by omega, form_pos e1, ?_⟩
    cases e2 : gapBad (min (maxL (ps.map (·.1))) (S.length + 1)) (ps.map (·.1)) with
    | some r => simp only [e2] at hp; exact hp
    | none =>
      simp only [e2] at hp
      refine hK _ ?_
      clear hK K
      refine dSeq_k fun K hK => ?_
      simp [fldD]
      refine ⟨S, G, ps, rfl, rfl, hn, hg, hl, e1, ?_⟩
      cases e3 : gamesBad S G ps 0 ps with
      | some q => obtain ⟨k, j⟩ := q; simp only [e3] at hp; exact hp
      | none =>
        simp only [e3] at hp
        refine hK _ ?_
        simp
        exact hp
theorem mGamesC : ∀ xs M P PX, spGamesC xs M P PX → tdGamesC (startS N_cGamesC xs M) (endE M.length P) (endX M.length PX) := by
  rintro xs M P PX ⟨S, G, ps, rfl, rfl, hn, hg, hl, hf, hp⟩
  have z2 : 2 ≤ sizeLine := by decide
  unfold tdGamesC
  refine dSeq_k fun K hK => ?_
  simp
  refine hK _ ?_
  clear hK K
  simp
  rw [enumP]
  refine loop_rec (fun p : (Int × Int) × Nat => D.tup [.int (p.2 : Nat), pairD p.1]) (fun xs s => ∃ (k : Nat) (r : List (Int × Int)) (ks : List (List Int × D)) (x3 x4 x5 : Sl), xs = r.zipIdx k ∧ ps.drop k = r ∧ gamesBad S G ps k r = gamesBad S G ps 0 ps ∧ ks.length ≤ k ∧ (∀ q : Int × Int, (valD ks [q.1, q.2]).isSome = decide (0 < q.1 ∧ q ∈ ps.take k)) ∧ s = ⟨[.dat (fldD S G), .dat (pairsT ps), .cell 0, x3, x4, x5], [some (.dt ks)]⟩) ?_ ?_ ps.zipIdx _ rfl ⟨0, ps, [], _, _, _, rfl, rfl, rfl, Nat.le_refl _, fun q => by simp, rfl⟩
  · rintro x xs s K2 ⟨k, r, ks, x3, x4, x5, hx, hd, hb, hkl, hv, rfl⟩ hK2
    cases r with
    | nil => simp at hx
    | cons m r =>
      rw [List.zipIdx_cons] at hx
      obtain ⟨rfl, rfl⟩ := List.cons.inj hx
      have hm : ps[k]? = some m := by
        have := congrArg (·[0]?) hd
        simpa using this
      have hkl2 : k < ps.length := (List.getElem?_eq_some_iff.mp hm).1
      have hd2 : ps.drop (k + 1) = r := by
        have := congrArg List.tail hd
        simpa using this
      have htk : ps.take (k + 1) = ps.take k ++ [m] := by rw [List.take_add_one, hm]; rfl
      have ff := formBad_none hf k m hm
      obtain ⟨r0, y0⟩ := m
      have hb2 : (if 0 < r0 then (if 0 < (cg ps y0).1 ∧ (cg ps y0).1 ≤ r0 then some (k, 1) else if (r0, y0) ∈ ps.take k then some (k, 2) else if mayB S G y0 k = true then gamesBad S G ps (k + 1) r else some (k, 3)) else gamesBad S G ps (k + 1) r) = gamesBad S G ps 0 ps := hb
      by_cases c0 : 0 < r0
      · rw [if_pos c0] at hb2
        have hy : 0 ≤ y0 ∧ y0 < S.length := by
          rcases ff with h | h
          · exact ⟨h.2.1, h.2.2.1⟩
          · have : r0 = 0 := congrArg Prod.fst h
            omega
        have ea : atI (ps.map pairD) y0 = some (pairD (cg ps y0)) := cg_at hy.1 (by omega)
        have ev := hv (r0, y0)
        simp [c0, ea]
        by_cases c1 : 0 < (cg ps y0).1 ∧ (cg ps y0).1 ≤ r0
        · rw [if_pos c1] at hb2
          rw [← hb2] at hp
          simp [c1.1, c1.2, z2]
          exact hp
        · rw [if_neg c1] at hb2
          have c1' : 0 < (cg ps y0).1 → r0 < (cg ps y0).1 := fun h => by omega
          by_cases c2 : (r0, y0) ∈ ps.take k
          · rw [if_pos c2] at hb2
            rw [← hb2] at hp
            have ev2 : (valD ks [r0, y0]).isSome = true := by rw [ev]; simp [c0, c2]
            cases e7 : valD ks [r0, y0] with
            | none => rw [e7] at ev2; cases ev2
            | some z =>
              by_cases c3 : 0 < (cg ps y0).1
              · have c4 : ¬ (cg ps y0).1 ≤ r0 := by have := c1' c3; omega
                simp [c3, c4, z2, e7]
                exact hp
              · simp [c3, z2, e7]
                exact hp
          · rw [if_neg c2] at hb2
            have ev2 : (valD ks [r0, y0]).isSome = false := by rw [ev]; simp [c2]
            cases e7 : valD ks [r0, y0] with
            | some z => rw [e7] at ev2; cases ev2
            | none =>
              have tail : if mayB S G y0 k = true then (∀ x3 x4 x5 : Sl, K2 ⟨[.dat (fldD S G), .dat (pairsT ps), .cell 0, x3, x4, x5], [some (.dt (putD ks [r0, y0] (.bl true)))]⟩) else PX "BadGame" (.tup [.int (k : Nat), .int 3]) [] := by
                by_cases c5 : mayB S G y0 k = true
                · rw [if_pos c5] at hb2 ⊢
                  intro x3 x4 x5
                  refine hK2 _ ⟨k + 1, r, _, _, _, _, rfl, hd2, hb2, Nat.le_trans (putD_len _ _ _) (by omega), fun q => ?_, rfl⟩
                  rw [valD_put, htk]
                  obtain ⟨q1, q2⟩ := q
                  by_cases c6 : q1 = r0 ∧ q2 = y0
                  · obtain ⟨rfl, rfl⟩ := c6
                    simp [c0]
                  · have c7 : ¬ ([q1, q2] = [r0, y0]) := by simpa using c6
                    rw [if_neg c7, hv (q1, q2)]
                    simp [c6]
                · rw [if_neg c5] at hb2 ⊢
                  rw [← hb2] at hp
                  exact hp
              by_cases c3 : 0 < (cg ps y0).1
              · have c4 : ¬ (cg ps y0).1 ≤ r0 := by have := c1' c3; omega
                simp [c3, c4, z2, e7]
                refine ⟨S, G, y0, k, rfl, rfl, hy.1, hy.2, by omega, by omega, ?_⟩
                cases e9 : mayB S G y0 k with
                | true => rw [e9] at tail; simp; exact ⟨lt_sl (by omega), tail _ _ _⟩
                | false => rw [e9] at tail; simp; exact tail
              · simp [c3, z2, e7]
                refine ⟨S, G, y0, k, rfl, rfl, hy.1, hy.2, by omega, by omega, ?_⟩
                cases e9 : mayB S G y0 k with
                | true => rw [e9] at tail; simp; exact ⟨lt_sl (by omega), tail _ _ _⟩
                | false => rw [e9] at tail; simp; exact tail
      · rw [if_neg c0] at hb2
        simp [c0]
        refine hK2 _ ⟨k + 1, r, ks, _, _, _, rfl, hd2, hb2, by omega, fun q => ?_, rfl⟩
        rw [hv, htk]
        obtain ⟨q1, q2⟩ := q
        by_cases c6 : q1 = r0 ∧ q2 = y0
        · obtain ⟨rfl, rfl⟩ := c6
          simp [c0]
        · simp [c6]
  · rintro s ⟨k, r, ks, x3, x4, x5, hx, hd, hb, hkl, hv, rfl⟩
    have : r = [] := by cases r with
      | nil => rfl
      | cons => simp [List.zipIdx_cons] at hx
    subst this
    rw [← hb] at hp
    simpa [orE, gamesBad] using hp
theorem mStairC : ∀ xs M P PX, spStairC xs M P PX → tdStairC (startS N_cStairC xs M) (endE M.length P) (endX M.length PX) := by
  rintro xs M P PX ⟨S, G, L, rfl, rfl, hl, hin, hp⟩
  have z2 : 2 ≤ sizeLine := by decide
  unfold tdStairC
  simp
  refine lc_each D.int (fun x => pairD (keyP G x)) L rfl (le_sl (by omega)) (fun x hx K hK => ?_) ?_
  · simp [atG_at (hin x hx).1 (hin x hx).2, z2]
    exact hK
  · simp
    refine .inr ⟨L.map (keyP G), by rw [List.map_map]; rfl, ?_⟩
    refine ⟨_, rfl, ?_⟩
    refine lc_each pairD (fun p => .int p.2) _ rfl (by rw [(sortP_perm _).length_eq, List.length_map]; exact le_sl (by omega)) (fun p _ K hK => by simp; exact hK) ?_
    have e2 : (sortP (L.map (keyP G))).map (fun p => D.int p.2) = (stairOf G L).map D.int := by unfold stairOf; rw [List.map_map]; rfl
    rw [e2]
    exact hp
theorem mFigures : ∀ xs M P PX, spFigures xs M P PX → tdFigures (startS N_cFigures xs M) (endE M.length P) (endX M.length PX) := by
  rintro xs M P PX ⟨n, a, b, rfl, rfl, hg, n1, n2, hp⟩
  have z2 : 2 ≤ sizeLine := by decide
  unfold tdFigures
  refine dSeq_k fun K hK => ?_
  simp
  refine useTake rfl hg (by decide) (by decide) fun kind a b k0 k3 hg => ?_
  simp
  refine hK _ ?_
  clear hK K
  refine dSeq_k fun K hK => ?_
  by_cases c0 : kind = 0
  · simp [c0]
    refine ⟨n, a, b, rfl, rfl, hg, by omega, by omega, fun L a b hL hg => ?_⟩
    simp [z2]
    have hm : ∀ v ∈ L, 0 ≤ v ∧ v < n := fun v hv => by
      have := rangeI_mem.mp (hL.mem_iff.mp hv)
      omega
    have hlen : L.length = n.toNat := by rw [hL.length_eq, rangeI_len]
    exact hp L L a b hlen hlen (fun v hv => by have := hm v hv; omega) (fun v hv => by have := hm v hv; omega) hg
  · simp [c0]
    refine hK _ ?_
    clear hK K
    refine dSeq_k fun K hK => ?_
    simp
    refine ⟨by constructor <;> omega, ?_⟩
    rw [rangeD_I]
    refine lc_draws (fun a b => [src a b]) (fun v => 0 ≤ v ∧ v < 4) _ (by rw [List.length_map, rangeI_len]; omega) hg (fun a b hg d hd K hK => ?_) fun L a b hL hv hg => ?_
    · obtain ⟨x, hx, rfl⟩ := List.mem_map.mp hd
      simp
      exact useTake rfl hg (by decide) (by decide) fun v a b h0 h1 hg => by simp; exact hK _ _ _ ⟨h0, h1⟩ hg
    · rw [List.length_map, rangeI_len] at hL
      simp
      refine hK _ ?_
      clear hK K
      refine dSeq_k fun K hK => ?_
      by_cases c1 : kind = 1
      · simp [c1, z2]
        exact hp L L a b hL hL (fun v h => by have := hv v h; omega) (fun v h => by have := hv v h; omega) hg
      · simp [c1]
        refine hK _ ?_
        clear hK K
        simp
        refine ⟨by constructor <;> omega, ?_⟩
        rw [rangeD_I]
        refine lc_draws (fun a b => [src a b]) (fun v => -1 ≤ v ∧ v < 4) _ (by rw [List.length_map, rangeI_len]; omega) hg (fun a b hg d hd K hK => ?_) fun L2 a b hL2 hv2 hg => ?_
        · obtain ⟨x, hx, rfl⟩ := List.mem_map.mp hd
          simp
          exact useTake rfl hg (by decide) (by decide) fun v a b h0 h1 hg => by simp; exact hK _ _ _ ⟨by omega, by omega⟩ hg
        · rw [List.length_map, rangeI_len] at hL2
          simp [z2]
          exact hp L L2 a b hL hL2 (fun v h => by have := hv v h; omega) (fun v h => by have := hv2 v h; omega) hg
end DL

namespace DL
open PySem L2
theorem rangeI_atG (l : List Int) : (rangeI l.length).map (atG l) = l := by
  apply List.ext_getElem?
  intro i
  unfold rangeI
  rw [List.map_map, List.getElem?_map]
  by_cases h : i < l.length
  · rw [List.getElem?_range h, List.getElem?_eq_getElem h]
    simp [atG, List.getD_eq_getElem?_getD, h]
  · rw [List.getElem?_eq_none (by simpa using h), List.getElem?_eq_none (by omega)]
    rfl
theorem rem_at : ∀ {l : List Int} {y : Int}, l.Nodup → y ∈ l → ∃ j, l[j]? = some y ∧ (∀ m : Nat, m < j → l[m]? ≠ some y) ∧ (l.eraseIdx j).Nodup ∧ (∀ z, z ∈ l.eraseIdx j ↔ z ∈ l ∧ z ≠ y) ∧ (l.eraseIdx j).length + 1 = l.length
  | [], _, _, h => nomatch h
  | x :: l, y, nd, h => by
    obtain ⟨n1, n2⟩ := List.nodup_cons.mp nd
    by_cases e : x = y
    · subst e
      refine ⟨0, rfl, fun m hm => absurd hm (Nat.not_lt_zero _), n2, fun z => ?_, rfl⟩
      show z ∈ l ↔ _
      constructor
      · intro hz
        exact ⟨List.mem_cons_of_mem _ hz, fun c => n1 (by rw [← c]; exact hz)⟩
      · rintro ⟨hz, ne⟩
        exact (List.mem_cons.mp hz).resolve_left ne
    · have hy : y ∈ l := (List.mem_cons.mp h).resolve_left fun c => e c.symm
      obtain ⟨j, h1, h2, h3, h4, h5⟩ := rem_at n2 hy
      refine ⟨j + 1, by simpa using h1, fun m hm => ?_, ?_, fun z => ?_, by simpa using h5⟩
      · cases m with
        | zero => simpa using e
        | succ m => simpa using h2 m (by omega)
      · rw [List.eraseIdx_cons_succ]
        exact List.nodup_cons.mpr ⟨fun c => n1 ((h4 x).mp c).1, h3⟩
      · rw [List.eraseIdx_cons_succ, List.mem_cons, List.mem_cons, h4]
        constructor
        · rintro (c | ⟨c, d⟩)
          · exact ⟨.inl c, by rw [c]; exact e⟩
          · exact ⟨.inr c, d⟩
        · rintro ⟨c | c, d⟩
          · exact .inl c
          · exact .inr ⟨c, d⟩
theorem stairOf_perm (G L : List Int) : (stairOf G L).Perm L := by
  unfold stairOf
  have h := (sortP_perm (L.map (keyP G))).map (·.2)
  rw [List.map_map] at h
  have e : ((fun x : Int × Int => x.2) ∘ keyP G) = id := rfl
  rw [e, List.map_id] at h
  exact h
theorem cdivW2 (l : Int) : CDivW l 2 := ⟨by decide, by decide⟩
theorem noL_pairs (F : List (Int × Int)) : noLs (F.map pairD) = true := noLs_map (fun _ => rfl) F
theorem mDrawn : ∀ xs M P PX, spDrawn xs M P PX → tdDrawn (startS N_cDrawn xs M) (endE M.length P) (endX M.length PX) := by
  rintro xs M P PX ⟨S, G, left, f, a, b, rfl, rfl, hg, nd, hgl, hin, hl, hp⟩
  have z2 : 2 ≤ sizeLine := by decide
  unfold tdDrawn
  refine dSeq_mid (fun s => ∃ (names : List Int) (a b : Int), names.Perm left ∧ Good a b ∧ s = ⟨[.cell 0, .dat (figD S G), .cell 1, .dat (.bl f), .dat (.lst (names.map .int)), .no, .no, .no, .no, .no, .no, .no], [src a b, some (.lst (left.map .int))]⟩) (fun K hK => ?_) ?_
  · simp
    refine ⟨left.length, a, b, rfl, rfl, hg, by omega, by omega, fun L a b hL hg => ?_⟩
    simp
    have hL' : L.Perm (rangeI left.length) := by simpa using hL
    refine lc_each D.int (fun k => .int (atG left k)) L rfl (by rw [hL'.length_eq, rangeI_len]; exact le_sl (by omega)) (fun k hk K hK => ?_) ?_
    · have := rangeI_mem.mp (hL'.mem_iff.mp hk)
      simp [atG_at this.1 this.2]
      exact hK
    · refine hK _ ⟨L.map (atG left), a, b, ?_, hg, by rw [List.map_map]; rfl⟩
      have := hL'.map (atG left)
      rw [rangeI_atG] at this
      exact this
  · rintro s ⟨names, a, b, hnp, hg, rfl⟩
    have hnl : names.length = left.length := hnp.length_eq
    have hnn : names.Nodup := hnp.nodup_iff.mpr nd
    refine dSeq_k fun K hK => ?_
    simp
    refine ⟨cdivW2 _, hK _ ?_⟩
    clear hK K
    refine dSeq_mid (fun s => ∃ (many : Nat) (a b : Int), 2 * many ≤ left.length ∧ Good a b ∧ s = ⟨[.cell 0, .dat (figD S G), .cell 1, .dat (.bl f), .dat (.lst (names.map .int)), .no, .dat (.int many), .no, .no, .no, .no, .no], [src a b, some (.lst (left.map .int))]⟩) (fun K hK => ?_) ?_
    · cases f with
      | true => simp; exact hK _ ⟨left.length / 2, a, b, by omega, hg, by simp⟩
      | false =>
        simp
        refine useTake rfl hg (by omega) (by omega) fun v a b h0 h1 hg => ?_
        simp
        refine hK _ ⟨v.toNat, a, b, by omega, hg, ?_⟩
        rw [Int.toNat_of_nonneg h0]
        rfl
    · rintro s ⟨many, a, b, hm, hg, rfl⟩
      refine dSeq_k fun K hK => ?_
      simp
      rw [cutD_from (by omega)]
      refine hK _ ?_
      clear hK K
      have hdj := List.nodup_append.mp (show (names.take many ++ names.drop many).Nodup by rw [List.take_append_drop]; exact hnn)
      have hsub : ∀ y ∈ names.drop many, y ∈ left := fun y hy => hnp.mem_iff.mp (List.mem_of_mem_drop hy)
      have lsub : ∀ y ∈ names.take many, y ∈ left := fun y hy => hnp.mem_iff.mp (List.mem_of_mem_take hy)
      refine dSeq_mid (fun s => ∃ (F : List (Int × Int)) (m7 : CC) (a b : Int) (x9 x10 x11 : Sl), FOK S G left F ∧ Good a b ∧ s = ⟨[.cell 0, .dat (figD S G), .cell 1, .dat (.bl f), .dat (.lst (names.map .int)), .no, .dat (.int many), .cell 2, .cell 3, x9, x10, x11], [src a b, some (.lst (left.map .int)), some m7, some (.lst (F.map pairD))]⟩) (fun K hK => ?_) ?_
      · simp
        rw [cutD_to (by omega)]
        refine ⟨S, G, names.take many, by simp [List.map_take], by simp, by simp; omega, fun x hx => by rw [hgl]; exact hin x (lsub x hx), ?_⟩
        simp
        have hsp := stairOf_perm G (names.take many)
        refine loop_rec D.int (fun rest s => ∃ (F : List (Int × Int)) (seats : List Int) (a b : Int) (x9 x10 x11 : Sl), rest.Nodup ∧ (∀ x ∈ rest, x ∈ names.take many) ∧ (F.map (·.1)).Nodup ∧ (F.map (·.2)).Nodup ∧ (∀ p ∈ F, p.1 ∈ names.take many ∧ p.1 ∉ rest ∧ p.2 ∈ names.drop many ∧ p.2 ∉ seats ∧ mayB S G p.2 p.1 = true) ∧ seats.Nodup ∧ (∀ y ∈ seats, y ∈ names.drop many) ∧ F.length + rest.length ≤ 1000 ∧ seats.length ≤ 1000 ∧ Good a b ∧ s = ⟨[.cell 0, .dat (figD S G), .cell 1, .dat (.bl f), .dat (.lst (names.map .int)), .no, .dat (.int many), .cell 2, .cell 3, x9, x10, x11], [src a b, some (.lst (left.map .int)), some (.lst (seats.map .int)), some (.lst (F.map pairD))]⟩) ?_ ?_ (stairOf G (names.take many)) _ rfl ⟨[], names.drop many, a, b, .no, .no, .no, hsp.nodup_iff.mpr hdj.1, fun x hx => hsp.mem_iff.mp hx, List.nodup_nil, List.nodup_nil, (fun _ h => nomatch h), hdj.2.1, fun _ h => h, by rw [hsp.length_eq]; simp; omega, by simp; omega, hg, by simp⟩
        · rintro x rest s K2 ⟨F, seats, a, b, x9, x10, x11, rn, rm, fn, yn, fm, sn, sm, fl, sl, hg, rfl⟩ hK2
          obtain ⟨rn1, rn2⟩ := List.nodup_cons.mp rn
          have hx := rm x List.mem_cons_self
          have hx2 := hin x (lsub x hx)
          refine dSeq_mid (fun s => ∃ x11 : Sl, s = ⟨[.cell 0, .dat (figD S G), .cell 1, .dat (.bl f), .dat (.lst (names.map .int)), .no, .dat (.int many), .cell 2, .cell 3, .dat (.int x), .dat (.lst ((seats.filter (mayB S G · x)).map .int)), x11], [src a b, some (.lst (left.map .int)), some (.lst (seats.map .int)), some (.lst (F.map pairD))]⟩) (fun K hK => ?_) ?_
          · simp
            refine lc_some D.int (fun y => if mayB S G y x = true then some (.int y) else none) seats rfl (le_sl (by omega)) (fun y hy K hK => ?_) ?_
            · have hy2 := hin y (hsub y (sm y hy))
              simp
              refine ⟨S, G, y, x, rfl, rfl, hy2.1, hy2.2, hx2.1, by omega, ?_⟩
              cases e : mayB S G y x <;> simp [e] at hK ⊢ <;> exact hK
            · rw [filterMap_if]
              simp [noL_pairs]
              exact hK _ ⟨_, rfl⟩
          · rintro s ⟨x11, rfl⟩
            generalize hC : seats.filter (mayB S G · x) = C
            cases C with
            | nil =>
              simp
              exact hK2 _ ⟨F, seats, a, b, _, _, _, rn2, fun z hz => rm z (List.mem_cons_of_mem _ hz), fn, yn, fun p hp => ⟨(fm p hp).1, fun c => (fm p hp).2.1 (List.mem_cons_of_mem _ c), (fm p hp).2.2⟩, sn, sm, by simp at fl; omega, sl, hg, rfl⟩
            | cons c0 C0 =>
              simp
              refine useOne rfl rfl hg (by simp) (by
                have e := congrArg List.length hC
                have := List.length_filter_le (mayB S G · x) seats
                simp at e ⊢
                omega) fun d a b hd hg => ?_
              have hd' : ∃ y, y ∈ seats ∧ mayB S G y x = true ∧ d = .int y := by
                have : d ∈ (c0 :: C0).map D.int := by simpa using hd
                rw [← hC] at this
                obtain ⟨y, hy, rfl⟩ := List.mem_map.mp this
                obtain ⟨h1, h2⟩ := List.mem_filter.mp hy
                exact ⟨y, h1, h2, rfl⟩
              obtain ⟨y, hy, hmay, rfl⟩ := hd'
              obtain ⟨j, j1, j2, j3, j4, j5⟩ := rem_at sn hy
              simp
              refine ⟨seats, rfl, j, j1, j2, z2, lt_sl (by simp at fl; omega), hK2 _ ⟨F ++ [(x, y)], seats.eraseIdx j, a, b, .dat (.int x), .dat (.lst (.int c0 :: C0.map .int)), .dat (.int y), rn2, fun z hz => rm z (List.mem_cons_of_mem _ hz), ?_, ?_, ?_, j3, fun z hz => sm z ((j4 z).mp hz).1, by simp at fl ⊢; omega, by omega, hg, by simp⟩⟩
              · rw [List.map_append, List.nodup_append]
                refine ⟨fn, by simp, fun u hu v hv => ?_⟩
                obtain ⟨p, hp, rfl⟩ := List.mem_map.mp hu
                have hv : v = x := by simpa using hv
                rw [hv]
                exact fun c => (fm p hp).2.1 (by rw [c]; exact List.mem_cons_self)
              · rw [List.map_append, List.nodup_append]
                refine ⟨yn, by simp, fun u hu v hv => ?_⟩
                obtain ⟨p, hp, rfl⟩ := List.mem_map.mp hu
                have hv : v = y := by simpa using hv
                rw [hv]
                exact fun c => (fm p hp).2.2.2.1 (by rw [c]; exact hy)
              · intro p hp
                rcases List.mem_append.mp hp with hp | hp
                · refine ⟨(fm p hp).1, fun c => (fm p hp).2.1 (List.mem_cons_of_mem _ c), (fm p hp).2.2.1, fun c => (fm p hp).2.2.2.1 ((j4 _).mp c).1, (fm p hp).2.2.2.2⟩
                · have e : p = (x, y) := by simpa using hp
                  subst e
                  exact ⟨hx, rn1, sm y hy, fun c => ((j4 y).mp c).2 rfl, hmay⟩
        · rintro s ⟨F, seats, a, b, x9, x10, x11, rn, rm, fn, yn, fm, sn, sm, fl, sl, hg, rfl⟩
          refine hK _ ⟨F, _, a, b, _, _, _, ⟨fn, yn, fun p hp => ⟨lsub _ (fm p hp).1, hsub _ (fm p hp).2.2.1, (fm p hp).2.2.2.2⟩, fun p hp q hq c => ?_⟩, hg, rfl⟩
          exact hdj.2.2 _ (fm p hp).1 _ (fm q hq).2.2.1 c
      · rintro s ⟨F, m7, a, b, x9, x10, x11, hF, hg, rfl⟩
        simp
        exact hp F a b hF hg
end DL

namespace DL
open PySem L2
theorem nodup_map_inj {α β : Type} {f : α → β} : ∀ {l : List α}, (l.map f).Nodup → ∀ p ∈ l, ∀ q ∈ l, f p = f q → p = q
  | [], _, p, hp, _, _, _ => nomatch hp
  | x :: l, nd, p, hp, q, hq, e => by
    rw [List.map_cons, List.nodup_cons] at nd
    rcases List.mem_cons.mp hp with h1 | h1 <;> rcases List.mem_cons.mp hq with h2 | h2
    · rw [h1, h2]
    · exact absurd (List.mem_map.mpr ⟨q, h2, by rw [← e, h1]⟩) nd.1
    · exact absurd (List.mem_map.mpr ⟨p, h1, by rw [e, h2]⟩) nd.1
    · exact nodup_map_inj nd.2 p h1 q h2 e
theorem cg_set {ps : List (Int × Int)} {x z : Int} {p : Int × Int} (x0 : 0 ≤ x) (x1 : x < ps.length) (z0 : 0 ≤ z) : cg (ps.set x.toNat p) z = if z = x then p else cg ps z := by
  unfold cg
  rw [List.getD_eq_getElem?_getD, List.getD_eq_getElem?_getD]
  by_cases h : z = x
  · subst h
    rw [if_pos rfl, List.getElem?_set_self (by omega)]
    rfl
  · rw [if_neg h, List.getElem?_set_ne (by omega)]
structure CInv (S G : List Int) (r : Int) (row : List (Int × Int)) (left : List Int) : Prop where
  len : row.length = S.length
  nd : left.Nodup
  rng : ∀ x ∈ left, 0 ≤ x ∧ x < S.length
  iff : ∀ x : Int, 0 ≤ x → x < S.length → (x ∈ left ↔ cg row x = (0, -1))
  form : ∀ x : Int, 0 ≤ x → x < S.length → cg row x = (0, -1) ∨ (1 ≤ (cg row x).1 ∧ (cg row x).1 < r ∧ 0 ≤ (cg row x).2 ∧ (cg row x).2 < S.length ∧ mayB S G (cg row x).2 x = true ∧ ((cg row (cg row x).2) = (0, -1) ∨ (cg row x).1 < (cg row (cg row x).2).1))
  one : ∀ x z : Int, 0 ≤ x → x < S.length → 0 ≤ z → z < S.length → cg row x = cg row z → 1 ≤ (cg row x).1 → x = z
  gap : ∀ q : Int, 1 ≤ q → q < r → ∃ z : Int, 0 ≤ z ∧ z < S.length ∧ (cg row z).1 = q
theorem CInv.cup {S G : List Int} {r : Int} {row : List (Int × Int)} {left : List Int} (h : CInv S G r row left) (hr : r ≤ S.length) (n1 : 1 ≤ S.length) : CupP S G row := by
  refine ⟨h.len, fun x x0 x1 => ?_, h.one, fun x q x0 x1 q1 q2 => ?_, fun x x0 x1 => ?_⟩
  · rcases h.form x x0 x1 with e | ⟨a, b, c, d, e, f⟩
    · exact .inl e
    · exact .inr ⟨a, c, d, e, f⟩
  · rcases h.form x x0 x1 with e | ⟨a, b, c, d, e, f⟩
    · rw [e] at q2; simp at q2; omega
    · exact h.gap q q1 (by omega)
  · rcases h.form x x0 x1 with e | ⟨a, b, c, d, e, f⟩
    · rw [e]; simp; omega
    · omega
theorem CInv.next {S G : List Int} {r : Int} {row row' : List (Int × Int)} {left left' : List Int} {F : List (Int × Int)} (h : CInv S G r row left) (r1 : 1 ≤ r) (hF : FOK S G left F) (ne : F ≠ [])
    (len : row'.length = S.length) (nd : left'.Nodup) (hl : ∀ x, x ∈ left' ↔ x ∈ left ∧ x ∉ F.map (·.1)) (h1 : ∀ p ∈ F, cg row' p.1 = (r, p.2)) (h2 : ∀ x : Int, 0 ≤ x → x < S.length → x ∉ F.map (·.1) → cg row' x = cg row x) : CInv S G (r + 1) row' left' := by
  have old : ∀ x : Int, 0 ≤ x → x < S.length → x ∉ left → cg row' x = cg row x := fun x x0 x1 hx => h2 x x0 x1 fun c => by
    obtain ⟨p, hp, e⟩ := List.mem_map.mp c
    exact hx (by rw [← e]; exact (hF.mem p hp).1)
  refine ⟨len, nd, fun x hx => h.rng x ((hl x).mp hx).1, fun x x0 x1 => ?_, fun x x0 x1 => ?_, fun x z x0 x1 z0 z1 e e1 => ?_, fun q q1 q2 => ?_⟩
  · by_cases c : x ∈ F.map (·.1)
    · obtain ⟨p, hp, e⟩ := List.mem_map.mp c
      constructor
      · intro hx; exact absurd c ((hl x).mp hx).2
      · intro hx
        rw [← e, h1 p hp] at hx
        have : r = 0 := congrArg Prod.fst hx
        omega
    · rw [hl, h2 x x0 x1 c, ← h.iff x x0 x1]
      exact ⟨fun a => a.1, fun a => ⟨a, c⟩⟩
  · by_cases c : x ∈ F.map (·.1)
    · obtain ⟨p, hp, e⟩ := List.mem_map.mp c
      obtain ⟨m1, m2, m3⟩ := hF.mem p hp
      have ey := h.rng p.2 m2
      have e2 : cg row' x = (r, p.2) := by rw [← e]; exact h1 p hp
      have e3 : cg row' p.2 = (0, -1) := by
        rw [h2 p.2 ey.1 ey.2 fun c => by
          obtain ⟨p', hp', e'⟩ := List.mem_map.mp c
          exact hF.dis p' hp' p hp e']
        exact (h.iff _ ey.1 ey.2).mp m2
      right
      rw [e2]
      exact ⟨r1, by show r < r + 1; omega, ey.1, ey.2, by rw [← e]; exact m3, .inl e3⟩
    · rw [h2 x x0 x1 c]
      rcases h.form x x0 x1 with e | ⟨a, b, cc, d, e, f⟩
      · exact .inl e
      · refine .inr ⟨a, by omega, cc, d, e, ?_⟩
        by_cases c2 : (cg row x).2 ∈ F.map (·.1)
        · obtain ⟨p, hp, e'⟩ := List.mem_map.mp c2
          right
          rw [← e', h1 p hp]
          exact b
        · rw [h2 _ cc d c2]
          exact f
  · by_cases c : x ∈ F.map (·.1) <;> by_cases c2 : z ∈ F.map (·.1)
    · obtain ⟨p, hp, ep⟩ := List.mem_map.mp c
      obtain ⟨p', hp', ep'⟩ := List.mem_map.mp c2
      rw [← ep, ← ep', h1 p hp, h1 p' hp'] at e
      have e4 : p.2 = p'.2 := (Prod.mk.inj e).2
      have := nodup_map_inj hF.ny p hp p' hp' e4
      rw [← ep, ← ep', this]
    · obtain ⟨p, hp, ep⟩ := List.mem_map.mp c
      rw [← ep, h1 p hp, h2 z z0 z1 c2] at e
      rcases h.form z z0 z1 with e' | ⟨a, b, _⟩
      · rw [e'] at e
        have : r = 0 := congrArg Prod.fst e
        omega
      · rw [← e] at b
        exact absurd b (Int.lt_irrefl _)
    · obtain ⟨p', hp', ep'⟩ := List.mem_map.mp c2
      rw [← ep', h1 p' hp', h2 x x0 x1 c] at e
      rcases h.form x x0 x1 with e' | ⟨a, b, _⟩
      · rw [e'] at e
        have : 0 = r := congrArg Prod.fst e
        omega
      · rw [e] at b
        exact absurd b (Int.lt_irrefl _)
    · rw [h2 x x0 x1 c] at e e1
      rw [h2 z z0 z1 c2] at e
      exact h.one x z x0 x1 z0 z1 e e1
  · by_cases c : q < r
    · obtain ⟨z, z0, z1, e⟩ := h.gap q q1 c
      refine ⟨z, z0, z1, ?_⟩
      rw [old z z0 z1 fun m => by
        rw [(h.iff z z0 z1).mp m] at e
        simp at e
        omega]
      exact e
    · have : q = r := by omega
      subst this
      cases F with
      | nil => exact absurd rfl ne
      | cons p F =>
        obtain ⟨m1, _⟩ := hF.mem p List.mem_cons_self
        have := h.rng _ m1
        exact ⟨p.1, this.1, this.2, by rw [h1 p List.mem_cons_self]⟩
theorem CInv.start (S G : List Int) : CInv S G 1 (List.replicate S.length (0, -1)) (rangeI S.length) := by
  have e : ∀ x, cg (List.replicate S.length (0, -1)) x = (0, -1) := fun x => by
    unfold cg
    rw [List.getD_eq_getElem?_getD, List.getElem?_replicate]
    split <;> rfl
  refine ⟨by simp, (rangeI_asc _).imp fun h => by omega, fun x hx => by have := rangeI_mem.mp hx; omega, fun x x0 x1 => ?_, fun x _ _ => .inl (e x), fun x z _ _ _ _ _ h => ?_, fun q q1 q2 => by omega⟩
  · rw [e, rangeI_mem]
    simp
    omega
  · rw [e] at h; simp at h
end DL

namespace DL
open PySem L2
theorem mCupL : ∀ xs M P PX, spCupL xs M P PX → tdCupL (startS N_cCupL xs M) (endE M.length P) (endX M.length PX) := by
  rintro xs M P PX ⟨S, G, a, b, rfl, rfl, hg, n1, hn, hgl, hp⟩
  have z2 : 2 ≤ sizeLine := by decide
  unfold tdCupL
  refine dSeq_k fun K hK => ?_
  simp
  refine hK _ ?_
  clear hK K
  refine dSeq_mid (fun s => ∃ (f : Bool) (a b : Int), Good a b ∧ s = ⟨[.cell 0, .dat (figD S G), .dat (.int S.length), .cell 1, .cell 2, .dat (.bl f), .no, .no, .no, .no], [src a b, some (.lst ((List.replicate S.length (0, -1)).map pairD)), some (.lst ((rangeI S.length).map .int))]⟩) (fun K hK => ?_) ?_
  · simp
    refine ⟨z2, by decide, ⟨by omega, le_sl (by omega)⟩, by constructor <;> omega, ?_⟩
    rw [show rangeD 0 S.length = (rangeI S.length).map D.int from rangeD_I _]
    refine lc_each D.int D.int (rangeI S.length) rfl (by rw [rangeI_len]; exact le_sl (by omega)) (fun x _ K hK => by simpa using hK) ?_
    simp
    refine useTake rfl hg (by decide) (by decide) fun v a b _ _ hg => ?_
    simp
    exact hK _ ⟨decide (v = 0), a, b, hg, by simp⟩
  · rintro s ⟨f, a, b, hg, rfl⟩
    refine dSeq_mid (fun s => ∃ (row : List (Int × Int)) (m4 : CC) (a b : Int) (x6 x7 x8 x9 : Sl), CupP S G row ∧ Good a b ∧ s = ⟨[.cell 0, .dat (figD S G), .dat (.int S.length), .cell 1, .cell 2, .dat (.bl f), x6, x7, x8, x9], [src a b, some (.lst (row.map pairD)), some m4]⟩) (fun K hK => ?_) ?_
    · simp
      refine ⟨by constructor <;> omega, by constructor <;> omega, ?_⟩
      refine loop_inv _ (fun i s => ∃ (row : List (Int × Int)) (left : List Int) (a b : Int) (x6 x7 x8 x9 : Sl), CInv S G (1 + i) row left ∧ left.length ≤ 1000 ∧ Good a b ∧ s = ⟨[.cell 0, .dat (figD S G), .dat (.int S.length), .cell 1, .cell 2, .dat (.bl f), x6, x7, x8, x9], [src a b, some (.lst (row.map pairD)), some (.lst (left.map .int))]⟩) ?_ ?_ _ ⟨_, _, a, b, .no, .no, .no, .no, by simpa using CInv.start S G, by rw [rangeI_len]; omega, hg, by simp⟩
      · rintro i d s K2 hd ⟨row, left, a, b, x6, x7, x8, x9, ci, ll, hg, rfl⟩ hK2
        unfold rangeD at hd
        rw [List.getElem?_map] at hd
        have hi : i < S.length - 1 := by
          by_cases c : i < S.length - 1
          · exact c
          · rw [List.getElem?_eq_none (by simpa using c)] at hd; cases hd
        rw [List.getElem?_range (by simpa using hi)] at hd
        cases hd
        refine dSeq_k fun K3 hK3 => ?_
        have body : ∀ (gg : Bool) (a b : Int) (PX' : KXM), Good a b → spDrawn [.cell 0, .dat (figD S G), .cell 1, .dat (.bl gg)] [some (.lst [.int a, .int b]), some (.lst (left.map .int))]
            (fun d M' => ∃ m' m2', M' = [some m', some m2'] ∧ K3 ⟨[.cell 0, .dat (figD S G), .dat (.int S.length), .cell 1, .cell 2, .dat (.bl f), x6, .dat (.int (1 + i)), .dat d, x9], [some m', some (.lst (row.map pairD)), some m2']⟩) PX' := fun gg a b PX' hg => ⟨S, G, left, gg, a, b, rfl, rfl, hg, ci.nd, hgl, ci.rng, ll, fun F a b hF hg => ⟨_, _, rfl, hK3 _ ?_⟩⟩
        · simp
          cases f with
          | true => exact .inr ⟨rfl, body true a b _ hg⟩
          | false =>
            refine .inl ⟨rfl, useTake rfl hg (by decide) (by decide) fun v a b _ _ hg => ⟨_, rfl, body _ a b _ hg⟩⟩
        · clear hK3 K3
          have hFl : F.length ≤ 1000 := by
            have := nodup_le hF.nx (m := left) fun k hk => by
              obtain ⟨p, hp, e⟩ := List.mem_map.mp hk
              rw [← e]; exact (hF.mem p hp).1
            simp at this
            omega
          generalize hr : (1 : Int) + (i : Int) = r at ci ⊢
          have r1 : 1 ≤ r := by omega
          refine dSeq_k fun K3 hK3 => ?_
          by_cases hne : F = []
          · subst hne
            simp
            exact hK _ ⟨row, _, a, b, _, _, _, _, ci.cup (by omega) n1, hg, rfl⟩
          · have hemp : (F.map pairD).isEmpty = false := by cases F with
              | nil => exact absurd rfl hne
              | cons => rfl
            simp [hne]
            refine hK3 _ ?_
            clear hK3 K3
            simp
            refine loop_rec pairD (fun rest s => ∃ (done row' : List (Int × Int)) (left' : List Int) (x6 x9 : Sl), done ++ rest = F ∧ row'.length = S.length ∧ left'.Nodup ∧ left'.length ≤ 1000 ∧ (∀ x, x ∈ left' ↔ x ∈ left ∧ x ∉ done.map (·.1)) ∧ (∀ p ∈ done, cg row' p.1 = (r, p.2)) ∧ (∀ x : Int, 0 ≤ x → x < S.length → x ∉ done.map (·.1) → cg row' x = cg row x) ∧ s = ⟨[.cell 0, .dat (figD S G), .dat (.int S.length), .cell 1, .cell 2, .dat (.bl f), x6, .dat (.int r), .dat (.lst (F.map pairD)), x9], [src a b, some (.lst (row'.map pairD)), some (.lst (left'.map .int))]⟩) ?_ ?_ F _ rfl ⟨[], row, left, x6, x9, rfl, ci.len, ci.nd, ll, by simp, (fun _ h => nomatch h), fun _ _ _ _ => rfl, rfl⟩
            · rintro p rest s K4 ⟨done, row', left', x6, x9, hF1, hlen, hnd, hll, hl, h1, h2, rfl⟩ hK4
              have hpF : p ∈ F := by rw [← hF1]; simp
              obtain ⟨m1, m2, m3⟩ := hF.mem p hpF
              have hp2 := ci.rng _ m1
              have hnx := hF.nx
              rw [← hF1, List.map_append, List.map_cons, List.nodup_append] at hnx
              have hpd : p.1 ∉ done.map (·.1) := fun c => hnx.2.2 _ c _ List.mem_cons_self rfl
              obtain ⟨j, j1, j2, j3, j4, j5⟩ := rem_at hnd ((hl p.1).mpr ⟨m1, hpd⟩)
              simp
              refine ⟨z2, p.1.toNat, ixN_pos hp2.1 (by have := hp2.2; simp [hlen]; omega), left', rfl, j, j1, j2, ?_⟩
              refine hK4 _ ⟨done ++ [p], row'.set p.1.toNat (r, p.2), left'.eraseIdx j, _, _, by simp [hF1], by simp [hlen], j3, by omega, fun x => ?_, fun q hq => ?_, fun x x0 x1 hx => ?_, by simp [List.map_set]; exact ⟨rfl, rfl⟩⟩
              · rw [j4, hl]
                simp
                exact and_assoc
              · rcases List.mem_append.mp hq with hq | hq
                · have q1 := List.mem_map_of_mem (f := (·.1)) hq
                  have q2 := ci.rng _ (hF.mem q (by rw [← hF1]; exact List.mem_append_left _ hq)).1
                  rw [cg_set hp2.1 (by rw [hlen]; exact hp2.2) q2.1, if_neg fun c => hpd (by rw [← c]; exact q1)]
                  exact h1 q hq
                · have e : q = p := by simpa using hq
                  subst e
                  rw [cg_set hp2.1 (by rw [hlen]; exact hp2.2) hp2.1, if_pos rfl]
              · rw [List.map_append, List.mem_append] at hx
                rw [cg_set hp2.1 (by rw [hlen]; exact hp2.2) x0, if_neg fun c => hx (.inr (by simp [c]))]
                exact h2 x x0 x1 fun c => hx (.inl c)
            · rintro s ⟨done, row', left', x6, x9, hF1, hlen, hnd, hll, hl, h1, h2, rfl⟩
              rw [List.append_nil] at hF1
              subst hF1
              refine hK2 _ ⟨row', left', a, b, _, _, _, _, ?_, hll, hg, rfl⟩
              have := ci.next r1 hF hne hlen hnd hl h1 h2
              rw [show (1 : Int) + ((i + 1 : Nat) : Int) = r + 1 by omega]
              exact this
      · rintro s ⟨row, left, a, b, x6, x7, x8, x9, ci, ll, hg, rfl⟩
        refine hK _ ⟨row, _, a, b, _, _, _, _, ci.cup ?_ n1, hg, rfl⟩
        simp [rangeD]
        omega
    · rintro s ⟨row, m4, a, b, x6, x7, x8, x9, hc, hg, rfl⟩
      simp
      exact hp row a b hc hg
end DL

/-! all of a list of bools. -/
namespace DL
open PySem L2 PyProof.Rows
section
variable {X : Cx} {g : G} {W : WX} {pos p : Pos} {a b c e : Expr} {ta tb tc td : TD} {w : Cs} {H H' : Hp} {σ : L2.St} {s : S} {t : TDA} {es : List Expr}
theorem all_rangeB : ∀ bs : List Bool, (List.range bs.length).all (fun i => bs.getD i false) = bs.all id
  | [] => rfl
  | b :: bs => by
    rw [List.length_cons, List.range_succ_eq_map, List.all_cons, List.all_map, List.all_cons, ← all_rangeB bs]
    all_goals rfl
theorem truth_bools {prog : Program} {w : World} {A : Around} : ∀ {bs : List Bool} {its : List Value}, Vals (bs.map V.bl) its → TruthOf prog w A (fun i v => its.toArray[i]? = some v) (fun i => bs.getD i false) := fun {bs its} hv i v s Q E hi hq => by
  have hi' : its[i]? = some v := by simpa using hi
  have key : ∀ {bs : List Bool} {its : List Value} {i : Nat}, Vals (bs.map V.bl) its → its[i]? = some v → ∃ n, bs[i]? = some n ∧ v = .bool n := by
    intro bs
    induction bs with
    | nil => intro its i h e; cases h; simp at e
    | cons n bs ih =>
      intro its i h e
      rw [List.map_cons] at h
      cases h with
      | cons r rs =>
        cases i with
        | zero =>
          simp at e
          refine ⟨n, rfl, ?_⟩
          rw [← e]
          exact r
        | succ i => simp at e; obtain ⟨m, e1, e2⟩ := ih rs e; exact ⟨m, by simpa using e1, e2⟩
  obtain ⟨n, e1, rfl⟩ := key hv hi'
  have hg : bs.getD i false = n := by rw [List.getD_eq_getElem?_getD, e1]; rfl
  have hq' : Q (bs.getD i false) s := hq
  rw [hg] at hq'
  exact wpAny_truthy_bool hq'
def rAllL (K : PySem.W.Frag) : List V → Hp → VK → Prop := fun vs H Q => ∃ (a : Addr) (bs : List Bool), vs = [V.ref a] ∧ SqL K H a (bs.map V.bl) ∧ Q (.bl (bs.all id)) H
theorem cr_allL (hc : X.calm = true) : CallR X (.builtin "all") (rAllL X.K) := by
  intro pins s σ H vs us Q I r h
  obtain ⟨a, bs, rfl, hs, q⟩ := h
  obtain ⟨its, rv, hl, _⟩ := I.list hs
  rw [Vals.ref1 r]
  have hlt : a < s.heap.objs.size := by obtain ⟨_, e, _⟩ := hl.isList; exact Heap.lt_size e
  refine call_all_walk (wpAny_pyIter_list (show s.heap.IsList a its.toArray from hl.isList) ?_)
  refine ⟨_, _, _, _, _, _, _, rfl, Walks.list (A := X.A.in1) (I.ok.hd hc) _ a (Nat.ne_of_lt hlt) its.toArray, ⟨⟨_, Heap.get?_push_size _ rfl, rfl, rfl⟩, hl.isList.push _⟩, truth_bools rv, fun h' tk hk => ?_⟩
  refine ⟨.bl _, H, I.kept fun b o eo => hk b o (fun hmem => ?_) (Heap.get?_push_of_some _ eo), ?_, q⟩
  · rcases List.mem_cons.mp hmem with e1 | hmem
    · exact absurd (e1 ▸ Heap.lt_size eo) (Nat.lt_irrefl _)
    · cases hmem
  · show Value.bool _ = Value.bool _
    rw [← all_rangeB, List.size_toArray, ← rv.length, List.length_map]
@[simp] def rAllD : RCd := fun xs M P => match xs with
  | [.dat (.lst ds)] => ∃ bs : List Bool, ds = bs.map .bl ∧ P (.bl (bs.all id))
  | _ => False
theorem Reps.bools : ∀ {bs : List Bool} {vs : List V}, Reps g w H (bs.map D.bl) vs → vs = bs.map V.bl
  | [], _, h => by simp only [List.map, Reps] at h; exact h
  | n :: ns, _, h => by
    simp only [List.map, Reps, Rep] at h
    obtain ⟨v, r, e, q, z⟩ := h
    subst e q
    rw [Reps.bools z]
    rfl
theorem l_allD : ∀ vs H Q, lC g rAllD vs H Q → rAllL X.K vs H Q := fun vs H Q ⟨w, xs, M, P, ha, m, r, q⟩ => by
  match xs, r, ha with
  | [.dat (.lst ds)], ⟨bs, ed, r⟩, ha =>
    obtain ⟨v, e, h⟩ := ArgOk.one ha
    subst e ed
    simp only [Rep] at h
    obtain ⟨p, ys, e, n, hp, rv⟩ := h
    subst e
    have e := rv.bools
    subst e
    exact ⟨p, bs, rfl, SqL.of hp, q _ _ _ r Same0 (by simp only [Rep])⟩
theorem de_allL (hc : X.calm = true) (hg : Gl X "all") (hm : X.mg "all" = none) (ha : PA X (e :: es) (lA g W t)) (he : starEach (e :: es) X.env = (false, eval e X.env) :: starEach es X.env := by rfl) (hpl : (backTo pos (starEach es X.env)).any (·.1) = false := by rfl) :
    PE X (.Call (.Name "all" p) (e :: es) [] pos) (lE g W (dCB rAllD t)) := pe_imp (pe_callB (cr_allL hc) hg hm (by decide +kernel) ha (by decide) (by decide) he hpl) (l_cb l_allD)
end
end DL

/-! Looks at a cup: rounds, who comes through, holders. -/
namespace DL
open PySem L2
theorem formBad_of {n : Int} : ∀ {ps : List (Int × Int)} {k : Nat}, (∀ (j : Nat) p, ps[j]? = some p → formOk n (k + j) p) → formBad n k ps = none
  | [], _, _ => rfl
  | q :: r, k, h => by
    unfold formBad
    have h0 : formOk n k q := h 0 q rfl
    rw [if_pos h0]
    refine formBad_of fun j p hj => ?_
    rw [show k + 1 + j = k + (j + 1) by omega]
    exact h (j + 1) p (by simpa using hj)
theorem gamesBad_of {S G : List Int} {all : List (Int × Int)} : ∀ {r : List (Int × Int)} {k : Nat}, (∀ (j : Nat) p, r[j]? = some p → 0 < p.1 → ¬ (0 < (cg all p.2).1 ∧ (cg all p.2).1 ≤ p.1) ∧ p ∉ all.take (k + j) ∧ mayB S G p.2 (k + j : Nat) = true) → gamesBad S G all k r = none
  | [], _, _ => rfl
  | q :: r, k, h => by
    unfold gamesBad
    have ih : gamesBad S G all (k + 1) r = none := gamesBad_of fun j p hj => by
      rw [show k + 1 + j = k + (j + 1) by omega]
      exact h (j + 1) p (by simpa using hj)
    by_cases c : 0 < q.1
    · obtain ⟨h1, h2, h3⟩ := h 0 q rfl c
      have h2 : q ∉ all.take k := h2
      have h3 : mayB S G q.2 k = true := h3
      rw [if_pos c, if_neg h1, if_neg h2, if_pos h3, ih]
    · rw [if_neg c, ih]
theorem mayB_ne {S G : List Int} {y x : Int} (h : mayB S G y x = true) : y ≠ x := by
  unfold mayB at h
  simp at h
  exact h.1
theorem ranges_mem {b r : Int} : r ∈ ranges b ↔ 1 ≤ r ∧ r < b := by
  unfold ranges
  rw [List.mem_map]
  constructor
  · rintro ⟨i, hi, rfl⟩
    have := List.mem_range.mp hi
    omega
  · rintro ⟨h1, h2⟩
    exact ⟨(r - 1).toNat, List.mem_range.mpr (by omega), by omega⟩
theorem CupP.get {S G : List Int} {ps : List (Int × Int)} (h : CupP S G ps) {j : Nat} {p : Int × Int} (e : ps[j]? = some p) : (j : Int) < S.length ∧ cg ps j = p := by
  have := (List.getElem?_eq_some_iff.mp e).1
  have := h.len
  exact ⟨by omega, cg_get e⟩
theorem cg_mem {ps : List (Int × Int)} {z : Int} (h0 : 0 ≤ z) (h1 : z < ps.length) : cg ps z ∈ ps := by
  obtain ⟨i, rfl⟩ : ∃ i : Nat, z = i := ⟨z.toNat, by omega⟩
  have hi : ps[i]? = some (ps[i]'(by omega)) := List.getElem?_eq_getElem (by omega)
  rw [cg_get hi]
  exact List.mem_of_getElem? hi
theorem CupP.err {S G : List Int} {ps : List (Int × Int)} (h : CupP S G ps) (n1 : 1 ≤ S.length) : cupErr S G ps = none := by
  have hne : ps ≠ [] := by intro z; have := h.len; rw [z] at this; simp at this; omega
  unfold cupErr
  rw [if_pos h.len]
  have e1 : formBad S.length 0 ps = none := formBad_of fun j p hj => by
    obtain ⟨j1, e⟩ := h.get hj
    rw [Nat.zero_add]
    rcases h.form j (by omega) j1 with c | ⟨a, b, c, d, _⟩
    · exact .inr (by rw [← e, c])
    · rw [e] at a b c d
      exact .inl ⟨a, b, c, mayB_ne d⟩
  have e2 : gapBad (min (maxL (ps.map (·.1))) (S.length + 1)) (ps.map (·.1)) = none := by
    unfold gapBad
    rw [List.find?_eq_none]
    intro r hr
    have hr2 := ranges_mem.mp hr
    obtain ⟨m1, m2⟩ := maxL_mem (l := ps.map (·.1)) (by simpa using hne)
    obtain ⟨p, hp, ep⟩ := List.mem_map.mp m1
    obtain ⟨j, hj⟩ := List.getElem?_of_mem hp
    obtain ⟨j1, e⟩ := h.get hj
    obtain ⟨z, z0, z1, ez⟩ := h.gap j r (by omega) j1 hr2.1 (by rw [e, ep]; omega)
    simp only [decide_not, Bool.not_eq_true', decide_eq_false_iff_not, Classical.not_not]
    exact List.mem_map.mpr ⟨_, cg_mem z0 (by rw [h.len]; exact z1), ez⟩
  have e3 : gamesBad S G ps 0 ps = none := gamesBad_of fun j p hj hp => by
    obtain ⟨j1, e⟩ := h.get hj
    rw [Nat.zero_add]
    rcases h.form j (by omega) j1 with c | ⟨a, b, c, d, f⟩
    · rw [e] at c; rw [c] at hp; exact absurd hp (by decide)
    · rw [e] at a b c d f
      refine ⟨fun z => ?_, fun z => ?_, d⟩
      · rcases f with f | f
        · rw [f] at z; exact absurd z.1 (by decide)
        · omega
      · obtain ⟨i, hi⟩ := List.getElem?_of_mem z
        have hij : i < j := by
          have := (List.getElem?_eq_some_iff.mp hi).1
          simp at this
          omega
        rw [List.getElem?_take_of_lt hij] at hi
        obtain ⟨i1, e'⟩ := h.get hi
        have := h.one i j (by omega) i1 (by omega) j1 (by rw [e, e']) (by rw [e']; exact a)
        omega
  simp only [e1, e2, e3]
def thruB (ps : List (Int × Int)) (x r : Int) : Bool := decide ((cg ps x).1 = 0) || decide (r < (cg ps x).1)
def stepH (ps : List (Int × Int)) (r x : Int) : Int := if thruB ps x r = true then x else (cg ps x).2
def heldF (ps : List (Int × Int)) (r : Int) : Nat → Int → Int
  | 0, x => x
  | k + 1, x => heldF ps r k (stepH ps r x)
theorem heldF_thru {ps : List (Int × Int)} {r x : Int} (h : thruB ps x r = true) : ∀ k, heldF ps r k x = x
  | 0 => rfl
  | k + 1 => by unfold heldF stepH; rw [if_pos h]; exact heldF_thru h k
theorem CupP.pos {S G : List Int} {ps : List (Int × Int)} (h : CupP S G ps) {x : Int} (x0 : 0 ≤ x) (x1 : x < S.length) : 0 ≤ (cg ps x).1 := by
  rcases h.form x x0 x1 with c | c
  · rw [c]; decide
  · omega
theorem CupP.step {S G : List Int} {ps : List (Int × Int)} (h : CupP S G ps) {r x : Int} (x0 : 0 ≤ x) (x1 : x < S.length) (n : thruB ps x r = false) : 1 ≤ (cg ps x).1 ∧ (cg ps x).1 ≤ r ∧ 0 ≤ (cg ps x).2 ∧ (cg ps x).2 < S.length ∧ (thruB ps (cg ps x).2 r = true ∨ (cg ps x).1 < (cg ps (cg ps x).2).1) := by
  unfold thruB at n
  simp at n
  rcases h.form x x0 x1 with c | ⟨a, b, c, d, f⟩
  · rw [c] at n; simp at n
  · refine ⟨a, n.2, b, c, ?_⟩
    rcases f with f | f
    · left; unfold thruB; rw [f]; simp
    · exact .inr f
theorem stepH_in {S G : List Int} {ps : List (Int × Int)} (h : CupP S G ps) {r x : Int} (x0 : 0 ≤ x) (x1 : x < S.length) : 0 ≤ stepH ps r x ∧ stepH ps r x < S.length := by
  unfold stepH
  by_cases c : thruB ps x r = true
  · rw [if_pos c]; exact ⟨x0, x1⟩
  · rw [if_neg c]
    have := h.step x0 x1 (by simpa using c)
    exact ⟨this.2.2.1, this.2.2.2.1⟩
theorem heldF_in {S G : List Int} {ps : List (Int × Int)} (h : CupP S G ps) {r : Int} : ∀ (k : Nat) {x : Int}, 0 ≤ x → x < S.length → 0 ≤ heldF ps r k x ∧ heldF ps r k x < S.length
  | 0, _, x0, x1 => ⟨x0, x1⟩
  | k + 1, x, x0, x1 => by
    have := stepH_in h (r := r) x0 x1
    exact heldF_in h k this.1 this.2
theorem CupP.ne {S G : List Int} {ps : List (Int × Int)} (h : CupP S G ps) (n1 : 1 ≤ S.length) : ps ≠ [] := by
  intro z; have := h.len; rw [z] at this; simp at this; omega
theorem CupP.max {S G : List Int} {ps : List (Int × Int)} (h : CupP S G ps) (n1 : 1 ≤ S.length) : 0 ≤ maxL (ps.map (·.1)) ∧ maxL (ps.map (·.1)) < S.length := by
  obtain ⟨m1, m2⟩ := maxL_mem (l := ps.map (·.1)) (by simpa using h.ne n1)
  obtain ⟨p, hp, ep⟩ := List.mem_map.mp m1
  obtain ⟨j, hj⟩ := List.getElem?_of_mem hp
  obtain ⟨j1, e⟩ := h.get hj
  have := h.pos (by omega) j1
  have := h.top j (by omega) j1
  rw [← ep]
  rw [e] at *
  omega
def spRound : SpD := fun xs M P PX => ∃ (r l m : Int), xs = [.dat (.int r), .dat (.int l), .dat (.int m)] ∧ M = [] ∧ (if l ≤ r ∧ r ≤ m then P .non [] else PX "BadRound" (.int r) [])
def spLastR : SpD := fun xs M P _ => ∃ (ps : List (Int × Int)), xs = [.dat (pairsT ps)] ∧ M = [] ∧ ps ≠ [] ∧ ps.length ≤ 1000 ∧ P (.int (maxL (ps.map (·.1)))) []
def spRounds : SpD := fun xs M P _ => ∃ (ps : List (Int × Int)), xs = [.dat (pairsT ps)] ∧ M = [] ∧ ps ≠ [] ∧ ps.length ≤ 1000 ∧ P (.int (maxL (ps.map (·.1)))) []
def spThru : SpD := fun xs M P _ => ∃ (ps : List (Int × Int)) (x r : Int), xs = [.dat (pairsT ps), .dat (.int x), .dat (.int r)] ∧ M = [] ∧ 0 ≤ x ∧ x < ps.length ∧ P (.bl (thruB ps x r)) []
def spHeld : SpD := fun xs M P _ => ∃ (S G : List Int) (ps : List (Int × Int)) (x r : Int), xs = [.dat (pairsT ps), .dat (.int x), .dat (.int r)] ∧ M = [] ∧ CupP S G ps ∧ 0 ≤ x ∧ x < S.length ∧ P (.int (heldF ps r S.length x)) []
def spRowC : SpD := fun xs M P _ => ∃ (us vs : List Int), xs = [.dat (tupI us), .dat (.lst (vs.map .int))] ∧ M = [] ∧ us.length ≤ 1000 ∧ us = vs ∧ P (.bl true) []
theorem len_round : ∀ xs M P PX, spRound xs M P PX → xs.length = 3 := fun _ _ _ _ ⟨_, _, _, e, _⟩ => by rw [e]; rfl
theorem len_lastR : ∀ xs M P PX, spLastR xs M P PX → xs.length = 1 := fun _ _ _ _ ⟨_, e, _⟩ => by rw [e]; rfl
theorem len_roundsC : ∀ xs M P PX, spRounds xs M P PX → xs.length = 1 := fun _ _ _ _ ⟨_, e, _⟩ => by rw [e]; rfl
theorem len_thru : ∀ xs M P PX, spThru xs M P PX → xs.length = 3 := fun _ _ _ _ ⟨_, _, _, e, _⟩ => by rw [e]; rfl
theorem len_held : ∀ xs M P PX, spHeld xs M P PX → xs.length = 3 := fun _ _ _ _ ⟨_, _, _, _, _, e, _⟩ => by rw [e]; rfl
theorem len_rowC : ∀ xs M P PX, spRowC xs M P PX → xs.length = 2 := fun _ _ _ _ ⟨_, _, e, _⟩ => by rw [e]; rfl
def tdRound : TSd :=
  dIfS (dNot (dT (dChain rLeD rLeD (dVar 1) (dVar 0) (dVar 2)))) (dRaise "BadRound" (dVar 0)) (dNext)
abbrev N_cRound : List Str := ["r", "least", "most"]
def tdLastR : TSd :=
  dRet (dCB rMax1D (dCons (dF (dLc (dIter (dVar 0)) (dgTup 2 (dgsCons (dgName 1) (dgsCons (dgName 2) (dgsNil)))) (dYes) (dVar 1) [1, 2])) (dNil)))
abbrev N_cLastR : List Str := ["cup", "r", "_"]
def tdThru : TSd :=
  dRet (dOrV (dOp rEqD' (dOp rIxD (dOp rIxD (dVar 0) (dVar 1)) (dC (.int 0))) (dC (.int 0))) (dOp rGtD (dOp rIxD (dOp rIxD (dVar 0) (dVar 1)) (dC (.int 0))) (dVar 2)))
abbrev N_cThru : List Str := ["cup", "x", "r"]
def tdHeld : TSd :=
  dSeq (dSet 3 (dVar 1))
  (dSeq (dWhile (dNot (dTru (dCall spThru (dCons (dVar 0) (dCons (dVar 3) (dCons (dVar 2) (dNil))))))) (dSet 3 (dOp rIxD (dOp rIxD (dVar 0) (dVar 3)) (dC (.int 1)))))
  (dRet (dVar 3)))
abbrev N_cHeld : List Str := ["cup", "x", "r", "found"]
def tdRounds : TSd :=
  dRet (dCB rMax1D (dCons (dF (dLc (dIter (dVar 0)) (dgName 1) (dYes) (dOp rIxD (dVar 1) (dC (.int 0))) [1])) (dNil)))
abbrev N_cRounds : List Str := ["_law_cup_here", "_law_pair"]
def tdRowC : TSd :=
  dSeq (dIfS (dOr (dNot (dTru (dIsT "tuple" (dVar 0)))) (dT (dOp rNeD' (dVar 0) (dCB rTupD (dCons (dVar 1) (dNil)))))) (dRet (dC (.bl false))) (dNext))
  (dRet (dCB rAllD (dCons (dF (dLc (dIter (dVar 0)) (dgName 2) (dYes) (dAndV (dIsT "int" (dVar 2)) (dNotV (dIsT "bool" (dVar 2)))) [2])) (dNil))))
abbrev N_cRowC : List Str := ["_law_told", "_law_due", "_law_entry"]
theorem mRound : ∀ xs M P PX, spRound xs M P PX → tdRound (startS N_cRound xs M) (endE M.length P) (endX M.length PX) := by
  rintro xs M P PX ⟨r, l, m, rfl, rfl, hp⟩
  by_cases h1 : l ≤ r <;> by_cases h2 : r ≤ m <;> simp [tdRound, h1, h2] at hp ⊢ <;> exact hp
theorem mLastR : ∀ xs M P PX, spLastR xs M P PX → tdLastR (startS N_cLastR xs M) (endE M.length P) (endX M.length PX) := by
  rintro xs M P PX ⟨ps, rfl, rfl, hne, hl, hp⟩
  unfold tdLastR
  simp
  refine lc_each pairD (fun p => .int p.1) ps rfl (le_sl (by omega)) (fun p _ K hK => by simp; exact hK) ?_
  refine ⟨ps.map (·.1), by rw [List.map_map]; rfl, ?_⟩
  refine ⟨by cases ps with | nil => exact absurd rfl hne | cons => simp, fun m hm hb => ?_⟩
  rw [maxL_eq hm hb] at hp
  exact hp
theorem mRounds : ∀ xs M P PX, spRounds xs M P PX → tdRounds (startS N_cRounds xs M) (endE M.length P) (endX M.length PX) := by
  rintro xs M P PX ⟨ps, rfl, rfl, hne, hl, hp⟩
  unfold tdRounds
  simp
  refine lc_each pairD (fun p => .int p.1) ps rfl (le_sl (by omega)) (fun p _ K hK => by simp; exact hK) ?_
  refine ⟨ps.map (·.1), by rw [List.map_map]; rfl, ?_⟩
  refine ⟨by cases ps with | nil => exact absurd rfl hne | cons => simp, fun m hm hb => ?_⟩
  rw [maxL_eq hm hb] at hp
  exact hp
theorem mThru : ∀ xs M P PX, spThru xs M P PX → tdThru (startS N_cThru xs M) (endE M.length P) (endX M.length PX) := by
  rintro xs M P PX ⟨ps, x, r, rfl, rfl, x0, x1, hp⟩
  unfold tdThru
  unfold thruB at hp
  by_cases c : (cg ps x).1 = 0
  · simp [cg_at x0 x1, c] at hp ⊢; exact hp
  · simp [cg_at x0 x1, c] at hp ⊢; exact hp
theorem mHeld : ∀ xs M P PX, spHeld xs M P PX → tdHeld (startS N_cHeld xs M) (endE M.length P) (endX M.length PX) := by
  rintro xs M P PX ⟨S, G, ps, x, r, rfl, rfl, hc, x0, x1, hp⟩
  unfold tdHeld
  refine dSeq_k fun K hK => ?_
  simp
  refine hK _ ?_
  clear hK K
  refine dSeq_mid (fun s => s = ⟨[.dat (pairsT ps), .dat (.int x), .dat (.int r), .dat (.int (heldF ps r S.length x))], []⟩) (fun K hK => ?_) ?_
  · have go : ∀ (m : Nat) (z : Int), 0 ≤ z → z < S.length → (thruB ps z r = true ∨ (S.length : Int) ≤ (cg ps z).1 + m) → ∀ K' : DL.S → Prop, (∀ z', (∀ k, m ≤ k → heldF ps r k z = z') → K' ⟨[.dat (pairsT ps), .dat (.int x), .dat (.int r), .dat (.int z')], []⟩) →
        whileD (dNot (dTru (dCall spThru (dCons (dVar 0) (dCons (dVar 3) (dCons (dVar 2) (dNil))))))) (dSet 3 (dOp rIxD (dOp rIxD (dVar 0) (dVar 3)) (dC (.int 1)))) { nx := K', rt := (endE 0 P).rt, bk := fun _ => False, ct := fun _ => False } (endX 0 PX) (m + 1) ⟨[.dat (pairsT ps), .dat (.int x), .dat (.int r), .dat (.int z)], []⟩ := by
      intro m
      induction m with
      | zero =>
        intro z z0 z1 ht K' hK'
        have tt : thruB ps z r = true := by
          rcases ht with h | h
          · exact h
          · have := hc.top z z0 z1; omega
        unfold whileD
        simp
        refine ⟨ps, z, r, rfl, rfl, z0, by rw [hc.len]; exact z1, ?_⟩
        simp [tt]
        exact hK' z fun k _ => heldF_thru tt k
      | succ m ih =>
        intro z z0 z1 ht K' hK'
        unfold whileD
        simp
        refine ⟨ps, z, r, rfl, rfl, z0, by rw [hc.len]; exact z1, ?_⟩
        cases tt : thruB ps z r with
        | true =>
          simp
          exact hK' z fun k _ => heldF_thru tt k
        | false =>
          obtain ⟨s1, s2, s3, s4, s5⟩ := hc.step z0 z1 tt
          have ea : atI (ps.map pairD) z = some (pairD (cg ps z)) := cg_at z0 (by rw [hc.len]; exact z1)
          simp [ea]
          have hm : (S.length : Int) ≤ (cg ps z).1 + (m + 1 : Nat) := by
            rcases ht with h | h
            · rw [tt] at h; cases h
            · exact h
          have := ih (cg ps z).2 s3 s4 (by
            rcases s5 with h | h
            · exact .inl h
            · exact .inr (by omega)) K' fun z' hz' => hK' z' fun k hk => by
              cases k with
              | zero => omega
              | succ k =>
                unfold heldF stepH
                rw [if_neg (by rw [tt]; decide)]
                exact hz' k (by omega)
          have er : (endE 0 P).rt = fun d s => P d [] := by funext d s; simp
          rw [er] at this
          exact this
    refine ⟨S.length + 1, ?_⟩
    have q0 := hc.pos x0 x1
    exact go S.length x x0 x1 (.inr (by omega)) K fun z' hz' => hK _ (by rw [hz' S.length (Nat.le_refl _)])
  · rintro s rfl
    simp
    exact hp
theorem mRowC : ∀ xs M P PX, spRowC xs M P PX → tdRowC (startS N_cRowC xs M) (endE M.length P) (endX M.length PX) := by
  rintro xs M P PX ⟨us, vs, rfl, rfl, hl, rfl, hp⟩
  unfold tdRowC
  refine dSeq_k fun K hK => ?_
  simp
  refine hK _ ?_
  simp
  refine lc_each D.int (fun _ => .bl true) us rfl (le_sl (by omega)) (fun x _ K hK => by simp; exact hK) ?_
  refine ⟨us.map fun _ => true, by rw [List.map_map]; rfl, ?_⟩
  have : (us.map fun _ => true).all id = true := by simp
  rw [this]
  exact hp
end DL

/-! len(set(xs)), xs a list of ints. -/
namespace DL
open PySem L2 PySem.Spec PyProof.Rows
section
variable {X : Cx} {g : G} {W : WX} {pos pos' p p' : Pos} {e : Expr} {te : TE} {ta : TD} {w : Cs} {H H' : Hp} {σ : L2.St} {s : S}
def rSetJ (K : PySem.W.Frag) : List V → Hp → VK → Prop := fun xs H Q => ∃ (p : Addr) (ns : List Int), xs = [.ref p] ∧ SqL K H p (ns.map V.int) ∧ ns.length + 1 < scanBound ∧
  ∀ (l : Addr) (S : Int → Bool), H l = none → Q (.ref l) (upd H l (.set S (dedupI ns).length))
theorem firstMet_nd (val : Nat → Int) : ∀ i, (firstMet val i).Nodup
  | 0 => List.Pairwise.nil
  | i + 1 => by
    rw [firstMet_succ]
    unfold step_dedup
    have ih := firstMet_nd val i
    split
    · exact ih
    · rename_i h
      rw [List.nodup_append]
      refine ⟨ih, by simp, fun a ha b hb => ?_⟩
      have e : b = val i := by simpa using hb
      rw [e]
      intro c
      refine h ?_
      rw [c] at ha
      first | exact ha | exact List.any_eq_true.mpr ⟨_, ha, by simp⟩ | simpa using ha
theorem cr_setJ (hc : X.calm = true) : CallR X (.type "set") (rSetJ X.K) := by
  intro pins s σ H xs us Q I r h
  obtain ⟨l, ns, rfl, hl, hb, q⟩ := h
  rw [Vals.ref1 r]
  obtain ⟨its, rv, pl, hz⟩ := I.list hl
  have hn : H s.heap.objs.size = none := I.hok.fresh (Nat.le_refl _)
  have hil : its.length = ns.length := by have := rv.length; simpa using this.symm
  refine call_set_list (prog := X.prog) (w := X.w) (ns := ns) (I.ok.hd hc) pl.isList (by simpa using intsAre_of rv) (by simpa [hil] using hb) fun h' tk R k => ?_
  have ec : (firstMet (fun i => ns.getD i 0) its.toArray.size).length = (dedupI ns).length := by
    refine nodup_len (firstMet_nd _ _) (dedupI_nodup _) fun q => ?_
    have h1 := firstMet_any (fun i => ns.getD i 0) its.toArray.size q
    have e : (List.range its.toArray.size).map (fun i => ns.getD i 0) = ns := by
      apply List.ext_getElem?
      intro j
      rw [List.getElem?_map, List.size_toArray, hil]
      by_cases hj : j < ns.length
      · rw [List.getElem?_range hj, List.getElem?_eq_getElem hj]
        simp [List.getD_eq_getElem?_getD, hj]
      · rw [List.getElem?_eq_none (by simpa using hj), List.getElem?_eq_none (by omega)]; rfl
    rw [e] at h1
    rw [dedupI_mem]
    constructor
    · intro m
      have : (firstMet (fun i => ns.getD i 0) its.toArray.size).any (· == q) = true := List.any_eq_true.mpr ⟨q, m, by simp⟩
      rw [h1] at this
      obtain ⟨u, hu, eu⟩ := List.any_eq_true.mp this
      have : u = q := by simpa using eu
      rw [← this]; exact hu
    · intro m
      have : ns.any (· == q) = true := List.any_eq_true.mpr ⟨q, m, by simp⟩
      rw [← h1] at this
      obtain ⟨u, hu, eu⟩ := List.any_eq_true.mp this
      have : u = q := by simpa using eu
      rw [← this]; exact hu
  rw [ec] at R
  refine ⟨.ref s.heap.objs.size, upd H s.heap.objs.size (.set _ (dedupI ns).length), I.laid (t' := tk) (fun b o e => k b o (Heap.lt_size e) e) (Nat.le_refl _) R, rfl, ?_⟩
  exact q _ _ hn
@[simp] def dLenSetL (ta : TD) : TD := fun s P X => ta s (fun d s1 => ∃ ns : List Int, d = .lst (ns.map .int) ∧ ns.length ≤ 1000 ∧ P (.int (dedupI ns).length) s1) X
theorem de_lenSetL (hc : X.calm = true) (hg : Gl X "len") (hm : X.mg "len" = none) (hg2 : Gl X "set") (hm2 : X.mg "set" = none) (he : PE X e (lE g W ta)) (hs : starEach (e :: []) X.env = (false, eval e X.env) :: starEach [] X.env := by rfl) (hpl : (backTo pos' (starEach [] X.env)).any (·.1) = false := by rfl)
    (hs2 : starEach ((.Call (.Name "set" p') [e] [] pos') :: []) X.env = (false, eval (.Call (.Name "set" p') [e] [] pos') X.env) :: starEach [] X.env := by rfl) (hpl2 : (backTo pos (starEach [] X.env)).any (·.1) = false := by rfl) :
    PE X (.Call (.Name "len" p) [.Call (.Name "set" p') [e] [] pos'] [] pos) (lE g W (dLenSetL ta)) :=
  pe_imp (pe_callB cr_lenSet hg hm PySem.boot_len (pa_cons (pe_callTy (cr_setJ hc) hg2 hm2 (by decide +kernel) (pa_cons he pa_nil hs) (by decide) (by decide) hs hpl) pa_nil hs2) (by decide) (by decide) hs2 hpl2) fun σ H Q ⟨w, s, P, PX, rs, h, k, x⟩ =>
  ⟨w, s, _, PX, rs, h, fun d s1 H1 v q e1 rs1 rp => by
    obtain ⟨ns, ed, hl, q⟩ := q
    subst ed
    simp only [Rep] at rp
    obtain ⟨t1, us, e3, nb, ht, ru⟩ := rp
    have e4 := ru.ints
    subst e4 e3
    refine ⟨t1, ns, rfl, SqL.of ht, by have : scanBound = 4096 := rfl; omega, fun l S n1 => ⟨l, S, _, rfl, upd_same, ?_⟩⟩
    have sm := same_upd (o := .set S (dedupI ns).length) n1
    exact k _ s1 _ _ q (e1.trans (.of_same sm)) (rs1.same sm) (by simp only [Rep]), x⟩
end
end DL

/-! in: a tuple or a list whose items are data of any depth. -/
namespace DL
open PySem L2
section
variable {X : Cx} {g : G} {W : WX}
def rInU (K : PySem.W.Frag) (neg : Bool) : R2 := fun x y H Q => ∃ d ds, Dp K H x d ∧ Dp K H y (.tuple ds) ∧ SeqAt.shaped d = true ∧ SeqAt.shaped (.tuple ds) = true ∧ Q (.bl (if neg then !ds.any fun z => PyData.eqv z d else ds.any fun z => PyData.eqv z d)) H
theorem roomS {A : Around} {d : PyData} {n : Nat} (h : SeqAt.shaped d = true) (hu : A.units + 65 < cLine) : A.units + 1 + min n d.depth < cLine := by
  unfold SeqAt.shaped at h
  rw [Bool.and_eq_true] at h
  have h2 : d.depth ≤ 64 := of_decide_eq_true h.2
  omega
theorem op_inU (hu : X.A.units + 65 < cLine) : OpR X (compareOp .In) (rInU X.K false) := by
  intro pins s σ H x y v u Q I rx ry h
  obtain ⟨d, ds, hd, he, sd, se, q⟩ := h
  obtain ⟨as, r1⟩ := Dp.reads I d x v hd rx
  obtain ⟨bs, r2⟩ := Dp.reads I (.tuple ds) y u he ry
  exact SeqAt.in_tuple_reads r2 r1 (SeqAt.canLay_of_shaped se) (SeqAt.canLay_of_shaped sd) (roomS sd hu) ⟨.bl _, H, I, rfl, q⟩
theorem op_notInU (hu : X.A.units + 65 < cLine) : OpR X (compareOp .NotIn) (rInU X.K true) := by
  intro pins s σ H x y v u Q I rx ry h
  obtain ⟨d, ds, hd, he, sd, se, q⟩ := h
  obtain ⟨as, r1⟩ := Dp.reads I d x v hd rx
  obtain ⟨bs, r2⟩ := Dp.reads I (.tuple ds) y u he ry
  exact SeqAt.notIn_tuple_reads r2 r1 (SeqAt.canLay_of_shaped se) (SeqAt.canLay_of_shaped sd) (roomS sd hu) ⟨.bl _, H, I, rfl, q⟩
@[simp] def rInT (neg : Bool) : RD := fun x y P => match y with
  | .lst ds => okD x = true ∧ okD (.lst ds) = true ∧ P (.bl (if neg then !inD x ds else inD x ds))
  | .tup ds => okD x = true ∧ okD (.tup ds) = true ∧ P (.bl (if neg then !inD x ds else inD x ds))
  | _ => False
theorem op_inT (hu : X.A.units + 65 < cLine) : OpR X (compareOp .In) (fun x y H Q => rInD X.K x y H Q ∨ rInU X.K false x y H Q) := (op_inD hu).or (op_inU hu)
theorem op_notInT (hu : X.A.units + 65 < cLine) : OpR X (compareOp .NotIn) (fun x y H Q => rNotInD X.K x y H Q ∨ rInU X.K true x y H Q) := (op_notInD hu).or (op_notInU hu)
theorem l_inT (hk : g.K = X.K) : ∀ x y H Q, lR g (rInT false) x y H Q → (rInD X.K x y H Q ∨ rInU X.K false x y H Q) := fun x y H Q ⟨w, d, e, P, rd, re, r, nb, q⟩ => by
  cases e <;> try exact r.elim
  · rename_i ds
    obtain ⟨h1, h2, r⟩ := r
    exact .inr ⟨toPy d, toPys ds, Rep.dp hk (SeqAt.canLay_of_shaped h1) rd, by have z := Rep.dp hk (SeqAt.canLay_of_shaped h2) re; simpa only [toPy] using z, h1, by simpa only [okD, toPy] using h2, q _ _ H r Same0 (by simp only [Rep, Bool.false_eq_true, if_false]; rw [any_py])⟩
  · rename_i ds
    obtain ⟨h1, h2, r⟩ := r
    exact .inl ⟨toPy d, toPys ds, Rep.dp hk (SeqAt.canLay_of_shaped h1) rd, by have z := Rep.dp hk (SeqAt.canLay_of_shaped h2) re; simpa only [toPy] using z, h1, by simpa only [okD, toPy] using h2, q _ _ H r Same0 (by simp only [Rep, Bool.false_eq_true, if_false]; rw [any_py])⟩
theorem l_notInT (hk : g.K = X.K) : ∀ x y H Q, lR g (rInT true) x y H Q → (rNotInD X.K x y H Q ∨ rInU X.K true x y H Q) := fun x y H Q ⟨w, d, e, P, rd, re, r, nb, q⟩ => by
  cases e <;> try exact r.elim
  · rename_i ds
    obtain ⟨h1, h2, r⟩ := r
    exact .inr ⟨toPy d, toPys ds, Rep.dp hk (SeqAt.canLay_of_shaped h1) rd, by have z := Rep.dp hk (SeqAt.canLay_of_shaped h2) re; simpa only [toPy] using z, h1, by simpa only [okD, toPy] using h2, q _ _ H r Same0 (by simp only [Rep, if_true]; rw [any_py])⟩
  · rename_i ds
    obtain ⟨h1, h2, r⟩ := r
    exact .inl ⟨toPy d, toPys ds, Rep.dp hk (SeqAt.canLay_of_shaped h1) rd, by have z := Rep.dp hk (SeqAt.canLay_of_shaped h2) re; simpa only [toPy] using z, h1, by simpa only [okD, toPy] using h2, q _ _ H r Same0 (by simp only [Rep, if_true]; rw [any_py])⟩
end
theorem inD_pair (r x : Int) (ps : List (Int × Int)) : inD (.tup [.int r, .int x]) (ps.map pairD) = decide ((r, x) ∈ ps) := by
  unfold inD
  induction ps with
  | nil => rfl
  | cons p ps ih =>
    obtain ⟨u, v⟩ := p
    rw [List.map_cons, List.any_cons, ih]
    show (eqD (.tup [.int u, .int v]) (.tup [.int r, .int x]) || _) = _
    rw [eqD_pairs]
    by_cases c : u = r ∧ v = x
    · obtain ⟨rfl, rfl⟩ := c; simp
    · have c2 : ¬ (r = u ∧ x = v) := fun z => c ⟨z.1.symm, z.2.symm⟩
      simp [c, c2]
end DL

/-! xs[a::2]; a cell by another name. -/
namespace DL
open PySem L2 PyProof.Rows
def stepL {α : Type} (b : Nat) (l : List α) : List α := (List.range ((l.length + 1 - b) / 2)).filterMap fun k => l[b + 2 * k]?
theorem slicePick_two (its : List Value) (b : Nat) (lo : Option Int) (hlo : lo = some (b : Int) ∨ (lo = none ∧ b = 0)) : slicePick its.toArray lo none (some 2) = (stepL b its).toArray := by
  have hb : sliceBounds lo none (some 2) its.toArray.size = (min (b : Int) its.length, (its.length : Int), 2) := by
    rcases hlo with rfl | ⟨rfl, rfl⟩
    · simp [sliceBounds]
      omega
    · simp [sliceBounds]
      omega
  unfold slicePick stepL
  rw [hb]
  congr 1
  have hr : sliceRange (min (b : Int) its.length) (its.length : Int) 2 = (List.range ((its.length + 1 - b) / 2)).map fun k => min b its.length + 2 * k := by
    unfold sliceRange
    simp only [show ((2 : Int) > 0) by decide, if_true]
    by_cases h : b < its.length
    · rw [if_pos (by omega)]
      have e : (((its.length : Int) - min (b : Int) its.length + 2 - 1) / 2).toNat = (its.length + 1 - b) / 2 := by omega
      rw [e]
      refine List.map_congr_left fun k hk => ?_
      omega
    · rw [if_neg (by omega)]
      have e : (its.length + 1 - b) / 2 = 0 := by omega
      rw [e]
      rfl
  simp only [hr]
  rw [List.filterMap_map]
  by_cases h : b < its.length
  · congr 1
    funext k
    simp [Nat.min_eq_left (Nat.le_of_lt h)]
  · have e : (its.length + 1 - b) / 2 = 0 := by omega
    rw [e]; rfl
section
variable {X : Cx} {g : G} {W : WX} {pos p2 : Pos} {e st : Expr} {lo : Option Expr} {te : TE} {tl ts : TO} {ta : TD} {w : Cs} {H : Hp}
def tStep (K : PySem.W.Frag) (b : Nat) (te : TE) (tl ts : TO) : TE := fun σ H Q => te σ H fun x H1 => tl σ H1 fun l H2 => ts σ H2 fun o H3 => (l = some (b : Int) ∨ (l = none ∧ b = 0)) ∧ o = some 2 ∧ ∃ a xs, x = .ref a ∧ SqL K H3 a xs ∧ ∀ p, H3 p = none → Q (.ref p) (upd H3 p (.lst (stepL b xs)))
theorem Vals.pick {vs : List V} {us : List Value} (h : Vals vs us) (is : List Nat) : Vals (is.filterMap (vs[·]?)) (is.filterMap (us[·]?)) := by
  induction is with
  | nil => exact .nil
  | cons i is ih =>
    have key : ∀ {vs : List V} {us : List Value} {i : Nat}, Vals vs us → (vs[i]? = none ∧ us[i]? = none) ∨ ∃ v u, vs[i]? = some v ∧ us[i]? = some u ∧ RelV v u := by
      intro vs us i h
      induction h generalizing i with
      | nil => left; simp
      | cons r rs ih2 =>
        cases i with
        | zero => right; exact ⟨_, _, rfl, rfl, r⟩
        | succ i => simpa using ih2 (i := i)
    rcases key (i := i) h with ⟨e1, e2⟩ | ⟨v, u, e1, e2, r⟩
    · rw [List.filterMap_cons_none e1, List.filterMap_cons_none e2]; exact ih
    · rw [List.filterMap_cons_some e1, List.filterMap_cons_some e2]; exact .cons r ih
theorem stepL_pick {α : Type} (b : Nat) (l : List α) : stepL b l = ((List.range ((l.length + 1 - b) / 2)).map fun k => b + 2 * k).filterMap (l[·]?) := by
  unfold stepL
  rw [List.filterMap_map]
  rfl
theorem pe_step2 {b : Nat} (he : PE X e te) (hl : PO X lo tl) (hs : PO X (some st) ts) : PE X (.Subscript e (.Slice lo none (some st) p2) pos) (tStep X.K b te tl ts) := by
  refine ⟨fun pins s σ H Q I h => ?_⟩
  refine Subscript_ (thn (he.run pins s σ H _ I h) fun v s1 ⟨x, H1, I1, r1, q1⟩ => ?_)
  refine wpAny_Slice ?_
  refine thn (hl.run pins s1 σ H1 _ I1 q1) fun vl s2 ⟨l, H2, I2, pl, q2⟩ => ?_
  rw [evalPart_none]
  refine wpAny_pure ?_
  refine thn (hs.run pins s2 σ H2 _ I2 q2) fun vs s3 ⟨o, H3, I3, ps, q3⟩ => ?_
  obtain ⟨el, eo, a, xs, ex, hx, q⟩ := q3
  subst eo ex
  cases r1
  have I4 : Inv X pins σ H3 { s3 with heap := s3.heap.push { cls := .type "slice", data := .fields #[vl, .none, vs] } } := I3.kept (t' := s3.toks) fun b ob q => Heap.get?_push_of_some _ q
  obtain ⟨its, r, ht, hz⟩ := I4.list hx
  have hlen := r.length
  show wpAny (model X.prog X.w) X.A (subscriptTail e (.Slice lo none (some st) p2) (.ref a) (.ref s3.heap.objs.size)) (EP X pins σ Q) X.xe { s3 with heap := s3.heap.push { cls := .type "slice", data := .fields #[vl, .none, vs] } }
  refine tail_any (ops := [.ref a, .ref s3.heap.objs.size]) ht.isList.typeIs slot_list_getitem.lookup ?_ (by with_unfolding_all rfl)
  refine wpAny_getItem_list_slice ht.isList (Heap.IsSliceOf.new ..) pl .none ps (by decide) ?_ (by rw [List.size_toArray] <;> omega)
  rw [slicePick_two its b l el]
  have rv : Vals (stepL b xs) (stepL b its) := by
    rw [stepL_pick, stepL_pick, hlen]
    exact Vals.pick r _
  have hle : (stepL b xs).length ≤ xs.length := by
    unfold stepL
    refine Nat.le_trans (List.length_filterMap_le _ _) ?_
    rw [List.length_range]
    omega
  refine ⟨.ref _, _, I4.laid (t' := s3.toks) (o := .lst (stepL b xs)) (fun b ob q => Heap.get?_push_of_some _ q) (Nat.le_refl _) ?_, rfl, q _ (I4.hok.fresh (Nat.le_refl _))⟩
  exact ⟨Nat.le_trans hle hz, _, 0, rv, Heap.get?_push_size _ rfl⟩
@[simp] def dStepF (b : Nat) (ta : TD) : TDF := fun s P X => ta s (fun x s1 => ∃ ds, x = .lst ds ∧ P (stepL b ds) s1) X
theorem Reps.pick {ds : List D} {vs : List V} (h : Reps g w H ds vs) (is : List Nat) : Reps g w H (is.filterMap (ds[·]?)) (is.filterMap (vs[·]?)) := by
  induction is with
  | nil => exact Reps.nil
  | cons i is ih =>
    cases e : ds[i]? with
    | none =>
      have e2 : vs[i]? = none := by
        rw [List.getElem?_eq_none_iff] at e ⊢
        rw [h.len]; exact e
      rw [List.filterMap_cons_none e, List.filterMap_cons_none e2]; exact ih
    | some d =>
      obtain ⟨v, e2, r⟩ := h.get' e
      rw [List.filterMap_cons_some e, List.filterMap_cons_some e2]; exact Reps.cons r ih
theorem Reps.step (b : Nat) {ds : List D} {vs : List V} (h : Reps g w H ds vs) : Reps g w H (stepL b ds) (stepL b vs) := by
  rw [stepL_pick, stepL_pick, h.len]
  exact h.pick _
theorem df_step0 {jj : Nat} {cp : Pos} (ha : PE X e (lE g W ta)) : PE X (.Subscript e (.Slice none none (some (.Constant (.int 2) jj cp)) p2) pos) (lF g W (dStepF 0 ta)) := pe_imp (pe_step2 (b := 0) ha po_none (po_some pe_int)) fun σ H Q ⟨w, s, P, PX, rs, h, k, x⟩ =>
  ⟨w, s, _, PX, rs, h, fun d s1 H1 v q e1 rs1 rp => by
    obtain ⟨ds, e, q4⟩ := q
    subst e
    simp only [Rep] at rp
    obtain ⟨a, vs, e, n, ha, rv⟩ := rp
    refine ⟨2, rfl, .inr ⟨rfl, rfl⟩, rfl, a, vs, e, SqL.of ha, fun p hp => ?_⟩
    have nb := rs1.mem.fresh hp
    exact k _ s1 _ p _ q4 (e1.trans (.of_same (same_upd hp))) (fresh0 e1 nb hp) nb (rs1.out hp) upd_same ((rv.step 0).mv (mv_out (.of_same (same_upd hp)) hp)), x⟩
theorem df_step1 {jj kk : Nat} {cp cq : Pos} (ha : PE X e (lE g W ta)) : PE X (.Subscript e (.Slice (some (.Constant (.int 1) kk cq)) none (some (.Constant (.int 2) jj cp)) p2) pos) (lF g W (dStepF 1 ta)) := pe_imp (pe_step2 (b := 1) ha (po_some pe_int) (po_some pe_int)) fun σ H Q ⟨w, s, P, PX, rs, h, k, x⟩ =>
  ⟨w, s, _, PX, rs, h, fun d s1 H1 v q e1 rs1 rp => by
    obtain ⟨ds, e, q4⟩ := q
    subst e
    simp only [Rep] at rp
    obtain ⟨a, vs, e, n, ha, rv⟩ := rp
    refine ⟨1, rfl, 2, rfl, .inl rfl, rfl, a, vs, e, SqL.of ha, fun p hp => ?_⟩
    have nb := rs1.mem.fresh hp
    exact k _ s1 _ p _ q4 (e1.trans (.of_same (same_upd hp))) (fresh0 e1 nb hp) nb (rs1.out hp) upd_same ((rv.step 1).mv (mv_out (.of_same (same_upd hp)) hp)), x⟩
/-- x = y, y a cell: a second name of it -/
@[simp] def dAlias (i j : Nat) : TSd := fun s E _ => ∃ c, s.r[j]? = some (.cell c) ∧ E.nx { s with r := s.r.set i (.cell c) }
theorem ds_alias {stt : Stmt} {i j : Nat} (h : PS X stt (tAsg (tVar j) (gName i))) : PS X stt (lS g W (dAlias i j)) := ps_imp h fun D σ H ⟨w, s, E, PX, rs, ⟨c, ec, h⟩, k, x⟩ => by
  obtain ⟨a, ea, ev⟩ := rs.slot j _ ec
  refine ⟨.ref a, ev, ?_⟩
  exact k.nx _ w H _ h (Mv.refl _ _) (rs.put (i := i) (o := some (.ref a)) (x := .cell c) fun σ' e => ⟨a, ea, e⟩)
end
end DL

/-! t[::-1], t a tuple. -/
namespace HT
open PySem PySem.Spec PyProof.Rows
theorem fm_congr {α β : Type} {f k : α → Option β} : ∀ {l : List α}, (∀ m ∈ l, f m = k m) → l.filterMap f = l.filterMap k
  | [], _ => rfl
  | x :: l, h => by
    have ih := fm_congr (l := l) fun m hm => h m (List.mem_cons_of_mem _ hm)
    rw [List.filterMap_cons, List.filterMap_cons, h x List.mem_cons_self, ih]
section
variable {prog : Program} {w : World} {A : Around} {E : Value → Shared → Prop} {s : Shared}
theorem applied_back {z : Addr} {vz : Value} {n : Nat} {Q : Int × Int × Nat → Shared → Prop} (hz : s.heap.IsSliceOf z .none .none vz) (pz : IsPart vz (some (-1)))
    (h : Q ((n : Int) - 1, -1, n) s) : wpAny (model prog w) A (Builtin.Slice.sliceApplied (.ref z) (pure (n : Int))) Q E s := by
  obtain ⟨oz, hoz, hcz, hdz⟩ := id hz
  unfold Builtin.Slice.sliceApplied Builtin.Slice.sliceFields
  refine wpAny_bind (wpAny_bind (wpAny_field hoz hdz (x := .none) rfl (wpAny_bind (wpAny_field hoz hdz (x := .none) rfl (wpAny_bind (wpAny_field hoz hdz (x := vz) rfl (wpAny_pure ?_)))))))
  refine wpAny_bind (slicePart_ pz ?_)
  show wpAny _ _ (if ((-1 : Int) == 0) = true then _ else _) _ _ s
  rw [if_neg (by decide)]
  refine wpAny_bind (slicePart_none (wpAny_bind (slicePart_none (wpAny_bind (wpAny_pure ?_)))))
  have ea : Builtin.Slice.sliceAdjust none none (-1) (n : Int) = ((n : Int) - 1, -1) := by
    unfold Builtin.Slice.sliceAdjust
    simp
  have ep : Builtin.Slice.slicePlaces ((n : Int) - 1) (-1) (-1) = n := by
    unfold Builtin.Slice.slicePlaces
    simp
    omega
  show wpAny _ _ (match Builtin.Slice.sliceAdjust none none (-1) (n : Int) with | (x, y) => pure (x, (-1 : Int), Builtin.Slice.slicePlaces x y (-1))) _ _ s
  rw [ea]
  show wpAny _ _ (pure ((n : Int) - 1, (-1 : Int), Builtin.Slice.slicePlaces ((n : Int) - 1) (-1) (-1))) _ _ s
  rw [ep]
  exact wpAny_pure h
theorem item_back {q z : Addr} {its : Array Value} {vz : Value} {Q : Value → Shared → Prop} (hq : IsTup s.heap q its) (hz : s.heap.IsSliceOf z .none .none vz) (pz : IsPart vz (some (-1)))
    (h : Q (.ref s.heap.objs.size) { s with heap := s.heap.push { cls := .type "tuple", data := .seq its.toList.reverse.toArray } }) (hl : its.size ≤ sizeLine) : wpAny (model prog w) A (getItem (.ref q) (.ref z)) Q E s := by
  have hok : sizeOk (.seq its.toList.reverse.toArray) := by
    show its.toList.reverse.toArray.size ≤ sizeLine
    rw [List.size_toArray, List.length_reverse, Array.length_toList]
    exact hl
  obtain ⟨oz, hoz, hcz, hdz⟩ := id hz
  have tz : s.TypeIs (.ref z) "slice" := ⟨oz, hoz, hcz⟩
  unfold getItem
  (try with_reducible refine wpAny_holding ?_); (first | refine wpAny_bind (wpAny_pure ?_) | skip)
  refine wpAny_bind (wpAny_sequenceKey hq.typeIs (by decide) ?_)
  refine wpAny_bind (wpAny_callSpecial?_slot (name := Str.ofString "__getitem__") hq.typeIs PyProof.Rows.slot_tuple_getitem (wpAny_call_entry PyProof.Rows.slot_tuple_getitem hq.typeIs entry_tuple_getitem ?_ (args_tuple_getitem _ _)))
  show wpAny _ _ (Builtin.Tuple.tupleItemsOf (.ref q) >>= _) _ _ s
  refine wpAny_bind (tupleItemsOf_ hq ?_)
  refine wpAny_bind (wpAny_typeOf tz ?_)
  rw [if_pos (by decide)]
  refine wpAny_bind (applied_back hz pz ?_)
  show wpAny _ _ (if (((its.size : Int) - 1) == 0 && (-1 : Int) == 1 && its.size == its.size) = true then _ else _) _ _ s
  rw [if_neg (by simp)]
  have ep : ((List.range its.size).filterMap fun (m : Nat) => its[(((its.size : Int) - 1) + (m : Int) * -1).toNat]?).toArray = its.toList.reverse.toArray := by
    congr 1
    have e := DL.pick_back its.toList
    rw [List.filterMap_map] at e
    rw [← e, Array.length_toList]
    refine fm_congr fun m hm => ?_
    have := List.mem_range.mp hm
    show its[(((its.size : Int) - 1) + (m : Int) * -1).toNat]? = its.toList[its.size - 1 - m]?
    rw [Array.getElem?_toList]
    congr 1
    omega
  rw [ep]
  first
    | (exact wpAny_bind (m := Builtin.Tuple.tupleExact _) (wpAny_newObj_type (wpAny_pure ⟨_, rfl, wpAny_pure h⟩) hok))
    | (exact wpAny_bind (m := Builtin.Tuple.tupleExact _) (wpAny_newObj_type (wpAny_bind (wpAny_pure (wpAny_pure ⟨_, rfl, wpAny_pure h⟩))) hok))
    | (exact wpAny_bind (wpAny_bind (m := Builtin.Tuple.tupleExact _) (wpAny_newObj_type (wpAny_pure (wpAny_pure ⟨_, rfl, wpAny_pure h⟩)) hok)))
    | (exact wpAny_bind (wpAny_bind (m := Builtin.Tuple.tupleExact _) (wpAny_newObj_type (wpAny_pure ⟨_, rfl, wpAny_pure h⟩) hok)))
end
end HT
namespace DL
open PySem L2 PyProof.Rows
section
variable {X : Cx} {g : G} {W : WX} {pos p2 : Pos} {e st : Expr} {te : TE} {ts : TO} {ta : TD} {w : Cs} {H : Hp}
def tBackT (K : PySem.W.Frag) (te : TE) (ts : TO) : TE := fun σ H Q => te σ H fun x H1 => ts σ H1 fun o H2 => o = some (-1) ∧ ∃ a xs, x = .ref a ∧ SqT K H2 a xs ∧ ∀ p, H2 p = none → Q (.ref p) (upd H2 p (.tup xs.reverse))
theorem pe_backT (he : PE X e te) (hs : PO X (some st) ts) : PE X (.Subscript e (.Slice none none (some st) p2) pos) (tBackT X.K te ts) := by
  refine ⟨fun pins s σ H Q I h => ?_⟩
  refine Subscript_ (thn (he.run pins s σ H _ I h) fun v s1 ⟨x, H1, I1, r1, q1⟩ => ?_)
  refine wpAny_Slice ?_
  rw [evalPart_none]
  refine wpAny_pure ?_
  refine wpAny_pure ?_
  refine thn (hs.run pins s1 σ H1 _ I1 q1) fun vs s3 ⟨o, H3, I3, ps, q3⟩ => ?_
  obtain ⟨eo, a, xs, ex, hx, q⟩ := q3
  subst eo ex
  cases r1
  have I4 : Inv X pins σ H3 { s3 with heap := s3.heap.push { cls := .type "slice", data := .fields #[.none, .none, vs] } } := I3.kept (t' := s3.toks) fun b ob q => Heap.get?_push_of_some _ q
  obtain ⟨its, r, ht, hz⟩ := I4.tuple hx
  have hlen := r.length
  show wpAny (model X.prog X.w) X.A (subscriptTail e (.Slice none none (some st) p2) (.ref a) (.ref s3.heap.objs.size)) (EP X pins σ Q) X.xe { s3 with heap := s3.heap.push { cls := .type "slice", data := .fields #[.none, .none, vs] } }
  refine tail_any (ops := [.ref a, .ref s3.heap.objs.size]) ht.typeIs slot_tuple_getitem.lookup ?_ (by with_unfolding_all rfl)
  refine HT.item_back ht (Heap.IsSliceOf.new ..) ps ?_ (by rw [List.size_toArray] <;> omega)
  refine ⟨.ref _, _, I4.laid (t' := s3.toks) (o := .tup xs.reverse) (fun b ob q => Heap.get?_push_of_some _ q) (Nat.le_refl _) ?_, rfl, q _ (I4.hok.fresh (Nat.le_refl _))⟩
  exact ⟨by rw [List.length_reverse]; exact hz, _, r.reverse, IsTup.new _ _⟩
variable {i : Int} {j : Nat} {cp up : Pos}
@[simp] def dBackT (ta : TD) : TD := fun s P X => ta s (fun x s1 => ∃ ds, x = .tup ds ∧ P (.tup ds.reverse) s1) X
theorem de_backT {jj : Nat} (ha : PE X e (lE g W ta)) : PE X (.Subscript e (.Slice none none (some (.UnaryOp .USub (.Constant (.int 1) jj cp) up)) p2) pos) (lE g W (dBackT ta)) := pe_imp (pe_backT ha (po_some (pe_un un_neg pe_int))) fun σ H Q ⟨w, s, P, PX, rs, h, k, x⟩ =>
  ⟨w, s, _, PX, rs, h, fun d s1 H1 v q e1 rs1 rp => by
    obtain ⟨ds, e, q4⟩ := q
    subst e
    simp only [Rep] at rp
    obtain ⟨a, vs, e, n, ha, rv⟩ := rp
    refine ⟨1, rfl, -1, rfl, rfl, a, vs, e, SqT.of ha, fun p hp => ?_⟩
    have nb := rs1.mem.fresh hp
    have sm := same_upd (o := .tup vs.reverse) hp
    exact k _ s1 _ _ q4 (e1.trans (.of_same sm)) (rs1.same sm) (Rep.tup nb upd_same (rv.rev.mv (.of_same sm))), x⟩
end
end DL

/-! a def's keyword-only default (), enumerate of it and in it. -/
namespace DLE
open PySem L2
theorem SqT.ne {X : Cx} {pins : List (Addr × Obj)} {σ : L2.St} {H : Hp} {s : Shared} {a b : Addr} {xs : List V} (I : Inv X pins σ H s) (h : SqT X.K H a xs) (f : FpOk X pins H b) : a ≠ b := fun z => by
  subst z
  obtain ⟨f0, f1, f2, f3, f4, f5⟩ := f
  rcases h with (h | ⟨o, h⟩) | ⟨o, its, n, h, _⟩
  · rw [h] at f0; cases f0
  · rw [h] at f0; cases f0
  · have hb := I.ok.mod.kin _ _ h
    rcases f3 with f3 | f3
    · exact I.ok.noex _ _ hb f3
    · exact absurd (Nat.lt_of_lt_of_le (Heap.lt_size hb) (Nat.le_trans I.ok.bsz f3)) (Nat.lt_irrefl _)
/-- any tuple at a, each item in a new pair -/
def IteS (K : PySem.W.Frag) (a : Addr) (xs : List V) : It :=
  ⟨fun i H => SqT K H a xs ∧ i < xs.length, fun i H v H' => ∃ T x, v = .ref T ∧ H T = none ∧ H' = upd H T (.tup [.int (i : Nat), x]) ∧ xs[i]? = some x, fun i H => SqT K H a xs ∧ xs.length = i⟩
theorem turn_enumS {P : Program} {w : World} {K : PySem.W.Frag} {elts : List Expr} {kk : Nat} {tpos : Pos} (a e it : Addr) (xs : List V) :
    Turn P w K (.Tuple elts kk tpos) (IteS K a xs) [e, it] e (fun i h => (∃ old, IsEnum h e it ((i : Nat) : Int) old) ∧ h.IsTupleIter it a i ∧ e ≠ it) where
  mem := by simp
  obj := fun i h st b hb => by
    obtain ⟨⟨old, he⟩, ⟨o, ho, hc, hd⟩, _⟩ := st
    have e' : b = e ∨ b = it := by simpa using hb
    rcases e' with z | z
    · rw [z]; exact ⟨_, he, fun v q => nomatch q⟩
    · rw [z]; exact ⟨o, ho, fun v q => by rw [hd] at q; cases q⟩
  keep := fun i h h' st k => let ⟨⟨old, he⟩, hi, hne⟩ := st; ⟨⟨old, k e (by simp) _ he⟩, hi.at fun o q => k it (by simp) o q, hne⟩
  item := by
    intro X hP hw hK hc i pins s σ H E I hf st hg
    subst hP hw hK
    obtain ⟨⟨old, he⟩, hit, hne⟩ := st
    obtain ⟨hq, hil2⟩ := hg
    obtain ⟨x, hx⟩ : ∃ x, xs[i]? = some x := ⟨xs[i], List.getElem?_eq_getElem hil2⟩
    obtain ⟨its, rv, p, hz⟩ := I.tuple hq
    obtain ⟨u, hu, ru⟩ := rv.get hx
    have hel : e < s.heap.objs.size := Heap.lt_size he
    have hil : it < s.heap.objs.size := by obtain ⟨_, q, _⟩ := hit; exact Heap.lt_size q
    have hai : a ≠ it := SqT.ne I hq (hf it (by simp))
    have hae : a ≠ e := SqT.ne I hq (hf e (by simp))
    have D := Draws.tuple (prog := X.prog) (w := X.w) (A := X.A.in1) (I.ok.hd hc) it a hai its.toArray
    have hlt : i < its.toArray.size := by
      have z := (List.getElem?_eq_some_iff.mp hu).1
      simpa using z
    refine wpAny_pyNext_enum_itemD D he ⟨hit, p⟩ hlt hne (by simp [hne, Ne.symm hae]) fun y h' tk hy ho hst hT hsz hk => ?_
    have ey : y = u := by
      have z : its[i]? = some y := by simpa using hy
      rw [hu] at z
      exact (Option.some.inj z).symm
    subst ey
    obtain ⟨hit', _⟩ := hst
    refine ⟨_, rfl, wpAny_letOwnedTupleGo_enum (s := { s with heap := h', toks := tk + 1 }) ho fun h'' he' sb => ?_⟩
    have hT2 : h''.get? s.heap.objs.size = some { cls := .type "tuple", data := .seq #[.int i tk, y] } := (sb.2 _ (Nat.ne_of_gt hel)).trans hT
    have new : ObjOk X.prog X.w (upd H s.heap.objs.size (.tup [.int (i : Nat), x])) h'' s.heap.objs.size (.tup [.int (i : Nat), x]) :=
      ⟨by show 2 ≤ sizeLine; decide, [.int i tk, y], .cons ⟨_, rfl⟩ (.cons ru .nil), ⟨_, hT2, rfl, _, rfl⟩⟩
    have I1 : Inv X pins σ (upd H s.heap.objs.size (.tup [.int (i : Nat), x])) { s with heap := h'', toks := tk + 1 } :=
      I.turnedNew (ch := [e, it]) (fun b ob hb q => (sb.2 b (fun z => hb (by simp [z]))).trans (hk b ob (fun z => hb (by simp [z])) (fun z => hb (by simp [z])) q)) hf (Nat.le_refl _) new
    refine ⟨.ref s.heap.objs.size, _, I1, rfl, ⟨_, x, rfl, I.hok.fresh (Nat.le_refl _), rfl, hx⟩, ⟨⟨y, ?_⟩, hit'.at fun o q => (sb.2 it (Ne.symm hne)).trans q, hne⟩, fun b hb => ?_⟩
    · have e1 : ((i + 1 : Nat) : Int) = (i : Int) + 1 := by omega
      rw [e1]; exact he'
    · have hb' : b < s.heap.objs.size := by
        have e' : b = e ∨ b = it := by simpa using hb
        rcases e' with z | z
        · rw [z]; exact hel
        · rw [z]; exact hil
      rw [upd_ne (Nat.ne_of_lt hb')]
      exact (hf b hb).1
  done := by
    intro X hP hw hK hc i pins s σ H E I hf st hg
    subst hP hw hK
    obtain ⟨⟨old, he⟩, hit, hne⟩ := st
    obtain ⟨hq, hx⟩ := hg
    obtain ⟨its, rv, p, hz⟩ := I.tuple hq
    have hai : a ≠ it := SqT.ne I hq (hf it (by simp))
    obtain ⟨f0, f1, f2, f3, f4, f5⟩ := hf it (by simp)
    have hl := rv.length
    have D := Draws.tuple (prog := X.prog) (w := X.w) (A := X.A.in1) (I.ok.hd hc) it a hai its.toArray
    have e0 : i = its.toArray.size := by simp; omega
    exact wpAny_pyNext_enum_endD D he (by rw [← e0]; exact ⟨hit, p⟩) fun h' eb => ⟨rfl, I.turned (t' := s.toks) (fun b o hb q => eb b o hb q) f0 f1 f3 f4 f5⟩
  self := fun A i s Q E st h => let ⟨⟨_, he⟩, _⟩ := st; wpAny_pyIter_enum he h
def iEnumS (K : PySem.W.Frag) (ta : TA) : TI := fun σ H R => ta σ H fun vs H1 => ∃ a xs, vs = [.ref a] ∧ ((SqL K H1 a xs ∧ R (Ite K a) H1) ∨ (SqT K H1 a xs ∧ R (IteS K a xs) H1))
theorem pi_enumS {X : Cx} {e : Expr} {ta : TA} {p pos tpos : Pos} {elts : List Expr} {kk : Nat} (hg : Gl X "enumerate") (hm : X.mg "enumerate" = none) (ha : PA X [e] ta) (hs : starEach [e] X.env = [(false, eval e X.env)] := by rfl) :
    PI X (.Tuple elts kk tpos) (.Call (.Name "enumerate" p) [e] [] pos) (iEnumS X.K ta) := by
  refine ⟨fun pins s σ H R I h => ?_⟩
  refine PyProof.Rows.Call_ (ld_blt I hg hm PyProof.Rows.boot_enumerate (PyProof.Rows.callWith_type1 (thn (ha.run pos pins s σ H _ I h) fun us s1 ⟨vs, H1, I1, r1, q1⟩ => ?_) hs rfl))
  obtain ⟨a, xs, ex, q⟩ := q1
  subst ex
  cases r1 with
  | cons r rr =>
    cases rr
    cases r
    have fin : ∀ {b : Addr}, b ∈ [s1.heap.objs.size + 1, s1.heap.objs.size] → FpOk X pins H1 b := fun {b} hb => by
      have e' : b = s1.heap.objs.size + 1 ∨ b = s1.heap.objs.size := by simpa using hb
      have hle : s1.heap.objs.size ≤ b := by
        rcases e' with z | z
        · rw [z]; exact Nat.le_add_right _ _
        · rw [z]; exact Nat.le_refl _
      exact I1.fpOk hle (I1.hok.fresh hle)
    rcases q with ⟨hq, q⟩ | ⟨hq, q⟩
    · obtain ⟨its, rv, p', hz⟩ := I1.list hq
      refine call_enumerate_list p'.isList fun h' he hit hsz hk => wpAny_pyIter_enum he ?_
      have I2 : Inv X pins σ H1 { s1 with heap := h' } := I1.kept (t' := s1.toks) hk
      exact ⟨s1.heap.objs.size + 1, [s1.heap.objs.size + 1, s1.heap.objs.size], _, _, H1, rfl, I2, turn_enum a (s1.heap.objs.size + 1) s1.heap.objs.size, ⟨⟨.none, he⟩, hit, Nat.succ_ne_self _⟩, fun b hb => fin hb, q⟩
    · obtain ⟨its, rv, p', hz⟩ := I1.tuple hq
      refine call_enum1 (begins_tuple a its.toArray) (show s1.heap.IsTuple a its.toArray from p') fun h' he hit hsz hk => wpAny_pyIter_enum he ?_
      have I2 : Inv X pins σ H1 { s1 with heap := h' } := I1.kept (t' := s1.toks) hk
      exact ⟨s1.heap.objs.size + 1, [s1.heap.objs.size + 1, s1.heap.objs.size], _, _, H1, rfl, I2, turn_enumS a (s1.heap.objs.size + 1) s1.heap.objs.size xs, ⟨⟨.none, he⟩, ⟨_, hit, rfl, rfl⟩, Nat.succ_ne_self _⟩, fun b hb => fin hb, q⟩
end DLE
namespace DL
open PySem L2
section
variable {X : Cx} {g : G} {W : WX} {pos : Pos} {a b c e : Expr} {ta tb tc : TD} {w : Cs} {H H' : Hp} {σ : L2.St} {s : S} {t : TDA}
@[simp] def seqC : D → Option (List D)
  | .lst ds => some ds
  | .tup ds => some ds
  | .ct ds => some ds
  | _ => none
@[simp] def dEnumC (t : TDA) : TDI := fun s P X => t s (fun xs s1 => ∃ d ds, xs = [.dat d] ∧ seqC d = some ds ∧ P (enumD ds) s1) X
theorem di_enumC (hk : g.K = X.K) {p tpos : Pos} {elts : List Expr} {kk : Nat} (hg : Gl X "enumerate") (hm : X.mg "enumerate" = none) (ha : PA X [e] (lA g W t)) (hs : starEach [e] X.env = [(false, eval e X.env)] := by rfl) : PI X (.Tuple elts kk tpos) (.Call (.Name "enumerate" p) [e] [] pos) (lI g W (dEnumC t)) := pi_imp (DLE.pi_enumS hg hm ha hs) fun σ H R ⟨w, s, P, PX, rs, h, k, x⟩ =>
  ⟨w, s, _, PX, rs, h, fun xs s1 H1 vs q e1 rs1 ra => by
    obtain ⟨d, ds, e, ed, q⟩ := q
    subst e
    obtain ⟨v, e, rp⟩ := ArgOk.one ra
    subst e
    have fin : ∀ {a : Addr} {vs : List V}, SqT X.K H1 a vs → (∀ w' H', Mv w H1 w' H' → SqT X.K H' a vs) → Reps g w H1 ds vs → R (DLE.IteS X.K a vs) H1 := fun {a vs} hq hmv rv =>
      k _ s1 H1 _ q e1 rs1 (walkD_pair (Gd := fun H => SqT X.K H a vs) (enumD_len _) ⟨fun i H hi h => ⟨h, hi⟩, fun H h => ⟨h, rfl⟩, fun i H v H' hi h y => ?_⟩ hmv rv rfl)
    · cases d <;> simp only [seqC, reduceCtorEq, Option.some.injEq] at ed
      · subst ed
        simp only [Rep] at rp
        obtain ⟨a, vs, e, n, hp, rv⟩ := rp
        subst e
        exact ⟨a, vs, rfl, .inr ⟨SqT.of hp, fin (SqT.of hp) (fun w' H' m => SqT.of (m.at_ n hp)) rv⟩⟩
      · subst ed
        simp only [Rep] at rp
        obtain ⟨a, vs, e, n, hp, rv⟩ := rp
        subst e
        exact ⟨a, vs, rfl, .inl ⟨SqL.of hp, k _ s1 H1 _ q e1 rs1 (walkD_pair (enumD_len _) walk_enum (fun w' H' m => SqL.of (m.at_ n hp)) rv rfl)⟩⟩
      · subst ed
        simp only [Rep] at rp
        obtain ⟨a, vs, e, n, rv⟩ := rp
        subst e
        rw [hk] at n
        exact ⟨a, vs, rfl, .inr ⟨.inr n, fin (.inr n) (fun w' H' m => .inr n) rv⟩⟩
    · obtain ⟨T, x, h1, h2, h3, h4⟩ := y
      exact ⟨T, .int (i : Nat), x, h1, h2, h3, rfl, h4⟩, x⟩
/-- in, not in: a tuple of any kind -/
@[simp] def rInX (neg : Bool) : RD := fun x y P => match y with
  | .ct ds => flatD x = true ∧ ds.all flatD = true ∧ P (.bl (if neg then !inD x ds else inD x ds))
  | .tup ds => flatD x = true ∧ ds.all flatD = true ∧ P (.bl (if neg then !inD x ds else inD x ds))
  | _ => False
theorem l_inX {neg : Bool} (hk : g.K = X.K) : ∀ x y H Q, lR g (rInX neg) x y H Q → rIn X.K neg x y H Q := fun x y H Q ⟨w, d, e, P, rd, re, r, nb, q⟩ => by
  cases e <;> try exact r.elim
  · obtain ⟨h1, h2, r⟩ := r
    simp only [Rep] at re
    obtain ⟨p, vs, e, n, hp, rv⟩ := re
    refine ⟨p, vs, e, .inr (SqT.of hp), rd.flat h1, rv.flat h2, q _ _ H r Same0 ?_⟩
    simp only [Rep]
    rw [inV_D rd h1 rv h2]
  · obtain ⟨h1, h2, r⟩ := r
    simp only [Rep] at re
    obtain ⟨p, vs, e, n, rv⟩ := re
    rw [hk] at n
    refine ⟨p, vs, e, .inr (.inr n), rd.flat h1, rv.flat h2, q _ _ H r Same0 ?_⟩
    simp only [Rep]
    rw [inV_D rd h1 rv h2]
/-- a call where a keyword-only () lacks -/
@[simp] def dWith0 (t : TDA) : TDA := fun s P X => t s (fun xs s1 => P (xs ++ [.dat (.ct [])]) s1) X
theorem ArgOk.snoc {x : D} {v : V} (hx : Rep g w H x v) : ∀ {xs : List Sl} {vs : List V}, ArgOk g w H xs vs → ArgOk g w H (xs ++ [.dat x]) (vs ++ [v])
  | [], vs, h => by
    have h : vs = [] := h
    subst h
    exact ⟨v, [], rfl, hx, rfl⟩
  | .no :: _, _, h => h.elim
  | .dat d :: xs, _, h => by
    obtain ⟨v', r, e, h1, z⟩ := h
    subst e
    exact ⟨v', _, rfl, h1, ArgOk.snoc hx z⟩
  | .cell d :: xs, _, h => by
    obtain ⟨v', r, e, h1, z⟩ := h
    subst e
    exact ⟨v', _, rfl, h1, ArgOk.snoc hx z⟩
/-- the default of a def's one keyword-only name stands, an empty tuple -/
def Dfl0 (K : PySem.W.Frag) (fd : FuncData) (ps : List Str) : Prop := ∃ (ad : Addr) (ds : List Value), CtAt K ad [] ∧ Vals [V.ref ad] ds ∧ Binds K fd ps ds
theorem de_call0d {spd : SpD} {t : TDA} {k : Nat} {f : Addr} {fd : FuncData} {ps : List Str} {x : Str} {p : Pos} {es : List Expr} (hK : g.K = X.K) (tk : Takes X W) (F : FnOk X.prog X.w X.K X.mg X.base (L2.CX X.prog X.w) k f fd ps (lSp g spd)) (hr : Room k X.A) (hg : Gl X x) (hm : X.mg x = some (.ref f)) (hk : PySem.W.keepIn X.K (.ref f) = true) (hb : Dfl0 X.K fd ps)
    (ha : PA X (e :: es) (lA g W t)) (hdb : (x == ("__debug__" : Str)) = false := by decide) (he : starEach (e :: es) X.env = (false, eval e X.env) :: starEach es X.env := by rfl) (hpl : (backTo pos (starEach es X.env)).any (·.1) = false := by rfl) :
    PE X (.Call (.Name x p) (e :: es) [] pos) (lE g W (dCall spd (dWith0 t))) := by
  obtain ⟨ad, ds, hc, hv, hb⟩ := hb
  refine pe_imp (pe_callSD F hr hg hm hk hb hv (fun σ => passAt tk σ) ha hdb he hpl) fun σ H Q h => ?_
  exact lE_call (ta := fun σ H Q => lA g W t σ H fun vs H1 => Q (vs ++ [V.ref ad]) H1) (fun σ H Q ⟨w, s, P, PX, rs, h, k, x⟩ => ⟨w, s, _, PX, rs, h, fun xs s1 H1 vs q e1 rs1 ra => k _ s1 H1 _ q e1 rs1 (ArgOk.snoc (hc.rep hK) ra), x⟩) σ H Q h
theorem dfl0_mk {K : PySem.W.Frag} {x qual : Str} {st : Stmt} {f D ad : Addr} {fd : FuncData} {ps : List Str} {kn : Str} {oc : Value} {od : Option Addr} {doc pm : Value} {an : Option Addr} {cdv ct : Value} {osl : Array (Option Value)} {od2 : Option Addr} {n2 : Nat} {sl2 : Array (Option Value)} (n : Nat)
    (efd : fd = PySem.W.fnOf x qual (defArgs st) (defBody st) (defScope st) .none (.ref D) doc pm an cdv ct) (lk : K.lookup f = some ⟨oc, od, .func fd, osl⟩) (hcd : PySem.W.codeIn K cdv qual = true) (kp : PySem.W.keepIn K (.ref f) = true)
    (hn : PySem.W.nsIn K D kn = some (some (.ref ad))) (ha : K.lookup ad = some ⟨.type "tuple", od2, .seq #[] n2, sl2⟩) (hl : n + 1 = ps.length)
    (h : ∀ (D : Addr) (doc pm : Value) (an : Option Addr) (cdv ct : Value) (us ks : List Value), us.length = n → ks.length = 1 →
      KwChain D (([kn] : List Str).zip ks) (bindArgs (PySem.W.fnOf x qual (defArgs st) (defBody st) (defScope st) .none (.ref D) doc pm an cdv ct) ⟨us, []⟩) (ps.zip (us ++ ks))) : Dfl0 K fd ps := by
  have F : FunD K x qual (defArgs st) (defBody st) (defScope st) [] [(kn, V.ref ad)] f fd := ⟨⟨oc, od, .none, .ref D, doc, pm, an, cdv, ct, osl, efd, lk, hcd, .inl ⟨rfl, rfl⟩, .inr ⟨D, rfl, fun q hq => by
    rw [List.mem_singleton.mp hq]
    exact ⟨_, hn, rfl⟩⟩⟩, kp⟩
  obtain ⟨ds, h1, h2⟩ := FunD.binds0 F n (by simp) hl h
  exact ⟨ad, ds, ⟨_, _, _, ha, rfl, rfl, by simp, .nil⟩, h1, h2⟩
end
end DL

/-! [e for .. in .. for .. in ..] -/
namespace DL
open PySem L2
theorem it2 {J : It} {n : Nat} {G : Hp → Prop} {Y : Nat → Hp → V → Hp → Prop} (w : Walk J n G Y) {H0 : Hp} {Qd : Hp → Prop} (B : V → Hp → (Hp → Prop) → Prop) (Pv : Nat → Hp → Prop) (h0 : Pv 0 H0) (hG : ∀ i H, i ≤ n → Pv i H → G H)
    (hs : ∀ i x H H', i < n → Pv i H → Y i H x H' → B x H' (Pv (i + 1))) (hd : ∀ H, Pv n H → Qd H) :
    ∃ W : Nat → Nat → Hp → Prop, (∃ m, W 0 m H0) ∧ ∀ i m H, W i m H →
      (J.stop i H ∧ Qd H) ∨ (J.go i H ∧ ∃ Nx : Hp → Prop, (∀ H', Nx H' → ∃ m', m' < m ∧ W (i + 1) m' H') ∧ ∀ x H', J.yld i H x H' → B x H' Nx) := by
  refine ⟨fun i m H => m = n - i ∧ i ≤ n ∧ Pv i H, ⟨n, by simp, Nat.zero_le _, h0⟩, ?_⟩
  rintro i m H ⟨rfl, hi, p⟩
  have q := hG i H hi p
  by_cases hlt : i < n
  · refine .inr ⟨w.goes i H hlt q, Pv (i + 1), fun H' p' => ⟨n - (i + 1), by omega, rfl, hlt, p'⟩, fun x H' y => hs i x H H' hlt p (w.yields i H x H' hlt q y)⟩
  · have e : i = n := by omega
    subst e
    exact .inl ⟨w.stops H q, hd H p⟩
theorem wipe_idem {σ : L2.St} {vs : List Nat} : ∀ us : List Nat, (∀ i ∈ us, i ∈ vs) → L2.wipe (L2.wipe σ vs) us = L2.wipe σ vs := by
  intro us
  induction us with
  | nil => intro _; rfl
  | cons u us ih =>
    intro hu
    show (L2.wipe (L2.wipe σ vs) us).set u none = _
    rw [ih fun i hi => hu i (List.mem_cons_of_mem _ hi)]
    have hm : u ∈ vs := hu u List.mem_cons_self
    have key : ∀ ws : List Nat, u ∈ ws → (L2.wipe σ ws).set u none = L2.wipe σ ws := by
      intro ws
      induction ws with
      | nil => intro h; cases h
      | cons v ws ih2 =>
        intro h
        show ((L2.wipe σ ws).set v none).set u none = (L2.wipe σ ws).set v none
        by_cases e : u = v
        · subst e
          rw [List.set_set]
        · rw [List.set_comm _ _ (Ne.symm e)]
          rcases List.mem_cons.mp h with z | z
          · exact absurd z e
          · rw [ih2 z]
    exact key vs hm
section
variable {X : Cx} {g : G} {W : WX} {pos : Pos} {w : Cs} {H : Hp} {σ : L2.St} {s : S}
/-- a walk that no heap stops (a range) -/
structure WalkT (g : G) (J : It) (ds : List D) : Prop where
  ex : ∃ (Y : Nat → Hp → V → Hp → Prop), Walk J ds.length (fun _ => True) Y ∧
    ∀ i w' H1 x H2, i < ds.length → (∀ a, H1 a = none → ¬ Cs.bad w' a) → Y i H1 x H2 → Same H1 H2 ∧ ∃ d, ds[i]? = some d ∧ Rep g w' H2 d x
def lIt (g : G) (W : WX) (td : TDI) : TI := fun σ H R => ∃ w s P PX, RS g w H σ s ∧ td s P PX ∧ (∀ ds s' H' J, P ds s' → HExt w H H' → RS g w H' σ s' → WalkT g J ds → R J H') ∧ XOk g w H σ PX W
theorem walkT_range {lo : Int} {n : Nat} : WalkT g (Itr lo n) (rangeD lo n) :=
  ⟨YFn fun i => .int (lo + i), by unfold rangeD; rw [List.length_map, List.length_range]; exact walk_range, fun i w' H1 x H2 hi _ y => by
    obtain ⟨e, y⟩ := y
    subst e y
    refine ⟨Same0, .int (lo + i), ?_, by simp only [Rep]⟩
    have hi : i < n := by simpa [rangeD] using hi
    simp [rangeD, hi]⟩
theorem dit_range1 {t : TDA} {tg a : Expr} {p : Pos} (hg : Gl X "range") (hm : X.mg "range" = none) (ha : PA X [a] (lA g W t)) (hs : starEach [a] X.env = [(false, eval a X.env)] := by rfl) : PI X tg (.Call (.Name "range" p) [a] [] pos) (lIt g W (dRange1 t)) := pi_imp (pi_range1 hg hm ha hs) fun σ H R ⟨w, s, P, PX, rs, h, k, x⟩ =>
  ⟨w, s, _, PX, rs, h, fun xs s1 H1 vs q e1 rs1 ra => by
    obtain ⟨n, e, ⟨h1, h2⟩, q⟩ := q
    subst e
    obtain ⟨v, e, rp⟩ := ArgOk.one ra
    simp only [Rep] at rp
    subst e rp
    exact ⟨n, rfl, h1, h2, k _ s1 H1 _ q e1 rs1 walkT_range⟩, x⟩
theorem dit_range2 {t : TDA} {tg a b : Expr} {p : Pos} (hg : Gl X "range") (hm : X.mg "range" = none) (ha : PA X [a, b] (lA g W t)) (hs : starEach [a, b] X.env = [(false, eval a X.env), (false, eval b X.env)] := by rfl) (hs2 : starEach [b] X.env = [(false, eval b X.env)] := by rfl) : PI X tg (.Call (.Name "range" p) [a, b] [] pos) (lIt g W (dRange2 t)) := pi_imp (pi_range2 hg hm ha hs hs2) fun σ H R ⟨w, s, P, PX, rs, h, k, x⟩ =>
  ⟨w, s, _, PX, rs, h, fun xs s1 H1 vs q e1 rs1 ra => by
    obtain ⟨m, n, e, ⟨h0, h00⟩, ⟨h1, h2⟩, q⟩ := q
    subst e
    obtain ⟨v, v', e, rp, rp'⟩ := ArgOk.two ra
    simp only [Rep] at rp rp'
    subst e rp rp'
    exact ⟨m, n, rfl, ⟨h0, h00, h1, h2⟩, k _ s1 H1 _ q e1 rs1 walkT_range⟩, x⟩
def lc2D (gt : TGd) (tt : TDB) (wd1 : TDI) (gt1 : TGd) (tt1 : TDB) (te : TD) (vs vs1 : List Nat) (P : List D → S → Prop) : List D → List D → S → Prop
  | [], acc, s => P acc s
  | d :: ds, acc, s => gt d { s with r := wipeS s.r vs } fun s2 => tt s2 (fun b s3 => if b = true then wd1 s3 (fun ds1 s4 => lcD gt1 tt1 te vs1 (fun acc' s5 => lc2D gt tt wd1 gt1 tt1 te vs vs1 P ds acc' { s5 with r := s.r }) ds1 acc s4) noX else lc2D gt tt wd1 gt1 tt1 te vs vs1 P ds acc { s3 with r := s.r }) noX
@[simp] def dLc2 (wd : TDI) (gt : TGd) (tt : TDB) (wd1 : TDI) (gt1 : TGd) (tt1 : TDB) (te : TD) (vs vs1 : List Nat) : TDF := fun s P X => wd s (fun ds s1 => lc2D gt tt wd1 gt1 tt1 te vs vs1 P ds [] s1) X
theorem lF_lc2 {wd : TDI} {gt : TGd} {tt : TDB} {wd1 : TDI} {gt1 : TGd} {tt1 : TDB} {te : TD} {vs vs1 ix ix1 : List Nat} (hix : ∀ i ∈ ix, i ∈ vs) (hix1 : ∀ i ∈ ix1, i ∈ vs1) :
    ∀ σ H Q, lF g W (dLc2 wd gt tt wd1 gt1 tt1 te vs vs1) σ H Q → tLc2 (lI g W wd) (lG g ix gt) (lB g W0 tt) (lIt g W0 wd1) (lG g ix1 gt1) (lB g W0 tt1) (lE g W0 te) vs vs1 σ H Q := fun σ H Q ⟨w, s, P, PX, rs, h, k, x⟩ =>
  ⟨w, s, _, PX, rs, h, fun ds s1 H1 J q e1 rs1 wk => by
    intro p hp
    obtain ⟨Gd, Y, wk, hG, hY⟩ := wk.ex
    have nb := rs1.mem.fresh hp
    have nc : some p ∉ w.cs := fun z => nb (.inl z)
    have m0 : Mv w H1 (w.out p) (upd H1 p (.lst [])) := mv_out (.of_same (same_upd hp)) hp
    refine it2 wk _ (fun i H' => ∃ M acc vacc, RS g (w.out p) H' σ { s1 with M := M } ∧ HExt w H1 H' ∧ H' p = some (.lst vacc) ∧ Reps g (w.out p) H' acc vacc ∧ lc2D gt tt wd1 gt1 tt1 te vs vs1 P (ds.drop i) acc { s1 with M := M }) ⟨s1.M, [], [], rs1.out hp, m0.ext, upd_same, Reps.nil, q⟩ (fun i H' _ ⟨M, acc, vacc, r, e, _⟩ => hG (w.out p) H' (mv_out e hp)) ?_ ?_
    · rintro i x1 H2 H3 hi ⟨M, acc, vacc, rs2, e2, hp2, ra, q⟩ y
      have m2 : Mv w H1 (w.out p) H2 := mv_out e2 hp
      obtain ⟨sm, d, ed, rp⟩ := hY i (w.out p) H2 x1 H3 hi m2 (fun a n => rs2.mem.fresh n) y
      have ed2 : ds.drop i = d :: ds.drop (i + 1) := by
        rw [List.drop_eq_getElem_cons hi]
        rw [List.getElem?_eq_getElem hi] at ed
        cases ed
        rfl
      rw [ed2] at q
      have rs3 := rs2.same sm
      have e3 : HExt w H1 H3 := e2.trans (.of_same sm)
      have hp3 : H3 p = some (.lst vacc) := sm _ _ hp2
      have ra3 : Reps g (w.out p) H3 acc vacc := ra.mv (.of_same sm)
      refine ⟨w.out p, _, d, _, rs3.wipe vs, rp, q, fun s4 σ4 q4 rs4 hw => ?_⟩
      refine ⟨by rw [hw vs hix]; exact wipe_idem vs fun _ h => h, w.out p, s4, _, noX, rs4, q4, fun bb s5 H5 q5 e5 rs5 => ?_, xok0⟩
      have e5' : HExt w H1 H5 := e3.trans e5
      cases bb with
      | false =>
        rw [if_neg Bool.false_ne_true] at q5
        dsimp only
        rw [if_neg Bool.false_ne_true]
        exact ⟨s5.M, acc, vacc, rs3.mem' e5 rs5.mem, e5', e5 _ _ nc hp3, ra3.mv (.of_ext e5), q5⟩
      | true =>
        rw [if_pos rfl] at q5
        dsimp only
        rw [if_pos rfl]
        refine ⟨w.out p, s5, _, noX, rs5, q5, fun ds1 s6 H6 J1 q6 e6 rs6 wk1 => ?_, xok0⟩
        obtain ⟨Y1, wk1, hY1⟩ := wk1.ex
        have e36 : HExt (w.out p) H3 H6 := e5.trans e6
        have rs36 : RS g (w.out p) H6 σ { s1 with M := s6.M } := rs3.mem' e36 rs6.mem
        refine it2 wk1 _ (fun j H' => ∃ M acc vacc, RS g (w.out p) H' σ4 { s6 with M := M } ∧ RS g (w.out p) H' σ { s1 with M := M } ∧ HExt w H1 H' ∧ H' p = some (.lst vacc) ∧ Reps g (w.out p) H' acc vacc ∧ lcD gt1 tt1 te vs1 (fun acc' s5 => lc2D gt tt wd1 gt1 tt1 te vs vs1 P (ds.drop (i + 1)) acc' { s5 with r := s1.r }) (ds1.drop j) acc { s6 with M := M }) ⟨s6.M, acc, vacc, rs6, rs36, e5'.trans e6, e36 _ _ nc hp3, ra3.mv (.of_ext e36), q6⟩ (fun _ _ _ _ => trivial) ?_ ?_
        · rintro j x7 H7 H8 hj ⟨M, acc, vacc, rs7, rt7, e7, hp7, ra7, q7⟩ y7
          obtain ⟨sm7, d7, ed7, rp7⟩ := hY1 j (w.out p) H7 x7 H8 hj (fun a n => rs7.mem.fresh n) y7
          have ed8 : ds1.drop j = d7 :: ds1.drop (j + 1) := by
            rw [List.drop_eq_getElem_cons hj]
            rw [List.getElem?_eq_getElem hj] at ed7
            cases ed7
            rfl
          rw [ed8] at q7
          have rs8 := rs7.same sm7
          have rt8 := rt7.same sm7
          have e8 : HExt w H1 H8 := e7.trans (.of_same sm7)
          have hp8 : H8 p = some (.lst vacc) := sm7 _ _ hp7
          have ra8 : Reps g (w.out p) H8 acc vacc := ra7.mv (.of_same sm7)
          refine ⟨w.out p, _, d7, _, rs8.wipe vs1, rp7, q7, fun s9 σ9 q9 rs9 hw9 => ?_⟩
          refine ⟨by rw [hw9 vs1 hix1]; exact wipe_idem vs1 fun _ h => h, w.out p, s9, _, noX, rs9, q9, fun bb s10 H10 q10 e10 rs10 => ?_, xok0⟩
          cases bb with
          | false =>
            rw [if_neg Bool.false_ne_true] at q10
            dsimp only
            rw [if_neg Bool.false_ne_true]
            exact ⟨s10.M, acc, vacc, rs8.mem' e10 rs10.mem, rt8.mem' e10 rs10.mem, e8.trans e10, e10 _ _ nc hp8, ra8.mv (.of_ext e10), q10⟩
          | true =>
            rw [if_pos rfl] at q10
            dsimp only
            rw [if_pos rfl]
            refine ⟨w.out p, s10, _, noX, rs10, q10, fun z s11 H11 v11 q11 e11 rs11 rp11 => ?_, xok0⟩
            have e811 : HExt (w.out p) H8 H11 := e10.trans e11
            have hp11 : H11 p = some (.lst vacc) := e811 _ _ nc hp8
            have ra11 : Reps g (w.out p) H11 acc vacc := ra8.mv (.of_ext e811)
            refine ⟨vacc, hp11, by rw [ra11.len]; exact q11.1, s11.M, acc ++ [z], vacc ++ [v11], ?_, ?_, ?_, upd_same, ?_, q11.2⟩
            · exact (rs8.mem' e811 rs11.mem).updOut List.mem_cons_self
            · exact (rt8.mem' e811 rs11.mem).updOut List.mem_cons_self
            · exact fun a o n eo => by
                rw [upd_ne (ne_of_none eo hp)]
                exact (e8.trans e811) _ _ n eo
            · exact Reps.gen (upd_k (.inr List.mem_cons_self)) (Reps.app ra11 (Reps.cons rp11 Reps.nil))
        · rintro H7 ⟨M, acc, vacc, rs7, rt7, e7, hp7, ra7, q7⟩
          rw [List.drop_length] at q7
          exact ⟨M, acc, vacc, rt7, e7, hp7, ra7, q7⟩
    · rintro H2 ⟨M, acc, vacc, rs2, e2, hp2, ra, q⟩
      rw [List.drop_length] at q
      exact k acc _ H2 p vacc q (e1.trans e2) (fresh0 e1 nb hp) nb rs2 hp2 ra, x⟩
theorem df_lc2 {elt : Expr} {gs : List Comprehension} {scope : Scope} {wd : TDI} {gt : TGd} {tt : TDB} {wd1 : TDI} {gt1 : TGd} {tt1 : TDB} {te : TD} {vs vs1 ix ix1 : List Nat} (h : PE X (.ListComp elt gs scope pos) (tLc2 (lI g W wd) (lG g ix gt) (lB g W0 tt) (lIt g W0 wd1) (lG g ix1 gt1) (lB g W0 tt1) (lE g W0 te) vs vs1)) (hix : ∀ i ∈ ix, i ∈ vs := by decide) (hix1 : ∀ i ∈ ix1, i ∈ vs1 := by decide) : PE X (.ListComp elt gs scope pos) (lF g W (dLc2 wd gt tt wd1 gt1 tt1 te vs vs1)) :=
  pe_imp h (lF_lc2 hix hix1)
theorem ds_lc2 {st : Stmt} {i : Nat} {wd : TDI} {gt : TGd} {tt : TDB} {wd1 : TDI} {gt1 : TGd} {tt1 : TDB} {te : TD} {vs vs1 ix ix1 : List Nat} (h : PS X st (tAsg (tLc2 (lI g W wd) (lG g ix gt) (lB g W0 tt) (lIt g W0 wd1) (lG g ix1 gt1) (lB g W0 tt1) (lE g W0 te) vs vs1) (gName i))) (hix : ∀ i ∈ ix, i ∈ vs := by decide) (hix1 : ∀ i ∈ ix1, i ∈ vs1 := by decide) : PS X st (tAsg (lF g W (dLc2 wd gt tt wd1 gt1 tt1 te vs vs1)) (gName i)) :=
  ps_imp h fun D σ H q => lF_lc2 hix hix1 σ H _ q
end
end DL

namespace LawP
open PySem L2 DL

/-! ### the text -/
def topS (i : Nat) : Stmt := PySem.Challenge.pw_boutstairs_k26_deeds_that_are_offered.main.body.getD i (.Pass ⟨0, 0, 0, 0⟩)
abbrev st_check_loose : Stmt := topS 11
theorem sc_check_loose : FnScope ["loose", "last", "index", "r"] ["loose"] (defScope st_check_loose) := ⟨rfl, rfl, rfl, by decide +kernel, rfl, by decide +kernel, by decide +kernel⟩
abbrev st_can_beat : Stmt := topS 13
theorem sc_can_beat : FnScope ["field", "y", "x"] ["field", "y", "x"] (defScope st_can_beat) := ⟨rfl, rfl, rfl, by decide +kernel, rfl, by decide +kernel, by decide +kernel⟩
abbrev st_check_form : Stmt := topS 16
theorem sc_check_form : FnScope ["n", "pairs", "x", "r", "y", "loses"] ["n", "pairs"] (defScope st_check_form) := ⟨rfl, rfl, rfl, by decide +kernel, rfl, by decide +kernel, by decide +kernel⟩
abbrev st_check_no_gap : Stmt := topS 17
theorem sc_check_no_gap : FnScope ["n", "pairs", "told", "r", "_"] ["n", "pairs"] (defScope st_check_no_gap) := ⟨rfl, rfl, rfl, by decide +kernel, rfl, by decide +kernel, by decide +kernel⟩
abbrev st_check_games : Stmt := topS 18
theorem sc_check_games : FnScope ["field", "pairs", "beaten", "x", "r", "y"] ["field", "pairs"] (defScope st_check_games) := ⟨rfl, rfl, rfl, by decide +kernel, rfl, by decide +kernel, by decide +kernel⟩
abbrev st_made_cup : Stmt := topS 19
theorem sc_made_cup : FnScope ["field", "pairs"] ["field", "pairs"] (defScope st_made_cup) := ⟨rfl, rfl, rfl, by decide +kernel, rfl, by decide +kernel, by decide +kernel⟩
abbrev st_comes_through : Stmt := topS 21
theorem sc_comes_through : FnScope ["cup", "x", "r"] ["cup", "x", "r"] (defScope st_comes_through) := ⟨rfl, rfl, rfl, by decide +kernel, rfl, by decide +kernel, by decide +kernel⟩
abbrev st_rests : Stmt := topS 22
theorem sc_rests : FnScope ["cup", "x", "r"] ["cup", "x", "r"] (defScope st_rests) := ⟨rfl, rfl, rfl, by decide +kernel, rfl, by decide +kernel, by decide +kernel⟩
abbrev st_is_let : Stmt := topS 24
theorem sc_is_let : FnScope ["field", "cup", "deed", "loose", "word", "x", "y", "r", "beater", "other", "second"] ["field", "cup", "deed", "loose"] (defScope st_is_let) := ⟨rfl, rfl, rfl, by decide +kernel, rfl, by decide +kernel, by decide +kernel⟩
abbrev st_offers : Stmt := topS 26
theorem sc_offers : FnScope ["field", "cup", "loose", "found", "x", "y", "deed"] ["field", "cup", "loose"] (defScope st_offers) := ⟨rfl, rfl, rfl, by decide +kernel, rfl, by decide +kernel, by decide +kernel⟩
abbrev st_made_field : Stmt := topS 30
theorem sc_made_field : FnScope ["strengths", "guards", "index", "strength", "guard"] ["strengths", "guards"] (defScope st_made_field) := ⟨rfl, rfl, rfl, by decide +kernel, rfl, by decide +kernel, by decide +kernel⟩
abbrev st__law_pool : Stmt := topS 32
theorem sc__law_pool : FnScope ["_law_script", "_law_k", "_law_cell", "_law_big", "_law_stirred"] ["_law_script", "_law_k"] (defScope st__law_pool) := ⟨rfl, rfl, rfl, by decide +kernel, rfl, by decide +kernel, by decide +kernel⟩
abbrev st__law_take : Stmt := topS 33
theorem sc__law_take : FnScope ["_law_source", "_law_top", "_law_digit"] ["_law_source", "_law_top"] (defScope st__law_take) := ⟨rfl, rfl, rfl, by decide +kernel, rfl, by decide +kernel, by decide +kernel⟩
abbrev st__law_one : Stmt := topS 34
theorem sc__law_one : FnScope ["_law_source", "_law_things"] ["_law_source", "_law_things"] (defScope st__law_one) := ⟨rfl, rfl, rfl, by decide +kernel, rfl, by decide +kernel, by decide +kernel⟩
abbrev st__law_shuffled : Stmt := topS 35
theorem sc__law_shuffled : FnScope ["_law_source", "_law_count", "_law_left", "_law_found", "_law_x", "_law_turn"] ["_law_source", "_law_count"] (defScope st__law_shuffled) := ⟨rfl, rfl, rfl, by decide +kernel, rfl, by decide +kernel, by decide +kernel⟩
abbrev st__law_figures : Stmt := topS 36
theorem sc__law_figures : FnScope ["_law_source", "_law_n", "_law_kind", "_law_row", "_law_ranks", "_law_x"] ["_law_source", "_law_n"] (defScope st__law_figures) := ⟨rfl, rfl, rfl, by decide +kernel, rfl, by decide +kernel, by decide +kernel⟩
abbrev st__law_may : Stmt := topS 37
theorem sc__law_may : FnScope ["_law_figures_here", "_law_y", "_law_x"] ["_law_figures_here", "_law_y", "_law_x"] (defScope st__law_may) := ⟨rfl, rfl, rfl, by decide +kernel, rfl, by decide +kernel, by decide +kernel⟩
abbrev st__law_stair : Stmt := topS 38
theorem sc__law_stair : FnScope ["_law_figures_here", "_law_sides", "_law_guard", "_law_x"] ["_law_figures_here", "_law_sides"] (defScope st__law_stair) := ⟨rfl, rfl, rfl, by decide +kernel, rfl, by decide +kernel, by decide +kernel⟩
abbrev st__law_drawn_round : Stmt := topS 39
theorem sc__law_drawn_round : FnScope ["_law_source", "_law_figures_here", "_law_left", "_law_is_full", "_law_names", "_law_k", "_law_many", "_law_seats", "_law_found", "_law_x", "_law_may_here", "_law_y"] ["_law_source", "_law_figures_here", "_law_left", "_law_is_full"] (defScope st__law_drawn_round) := ⟨rfl, rfl, rfl, by decide +kernel, rfl, by decide +kernel, by decide +kernel⟩
abbrev st__law_cup : Stmt := topS 40
theorem sc__law_cup : FnScope ["_law_source", "_law_figures_here", "_law_n", "_law_row", "_law_left", "_law_is_full", "_law_x", "_law_r", "_law_found", "_law_y"] ["_law_source", "_law_figures_here"] (defScope st__law_cup) := ⟨rfl, rfl, rfl, by decide +kernel, rfl, by decide +kernel, by decide +kernel⟩
abbrev st__law_rounds : Stmt := topS 41
theorem sc__law_rounds : FnScope ["_law_cup_here", "_law_pair"] ["_law_cup_here"] (defScope st__law_rounds) := ⟨rfl, rfl, rfl, by decide +kernel, rfl, by decide +kernel, by decide +kernel⟩
abbrev st__law_through : Stmt := topS 42
theorem sc__law_through : FnScope ["_law_cup_here", "_law_r", "_law_x"] ["_law_cup_here", "_law_r"] (defScope st__law_through) := ⟨rfl, rfl, rfl, by decide +kernel, rfl, by decide +kernel, by decide +kernel⟩
abbrev st__law_out : Stmt := topS 43
theorem sc__law_out : FnScope ["_law_cup_here", "_law_r", "_law_x"] ["_law_cup_here", "_law_r"] (defScope st__law_out) := ⟨rfl, rfl, rfl, by decide +kernel, rfl, by decide +kernel, by decide +kernel⟩
abbrev st__law_resting : Stmt := topS 44
theorem sc__law_resting : FnScope ["_law_cup_here", "_law_r", "_law_busy", "_law_x", "_law_y"] ["_law_cup_here", "_law_r"] (defScope st__law_resting) := ⟨rfl, rfl, rfl, by decide +kernel, rfl, by decide +kernel, by decide +kernel⟩
abbrev st__law_loose : Stmt := topS 45
theorem sc__law_loose : FnScope ["_law_source", "_law_cup_here", "_law_r"] ["_law_source", "_law_cup_here"] (defScope st__law_loose) := ⟨rfl, rfl, rfl, by decide +kernel, rfl, by decide +kernel, by decide +kernel⟩
abbrev st__law_offered : Stmt := topS 46
theorem sc__law_offered : FnScope ["_law_figures_here", "_law_cup_here", "_law_loose_here", "_law_found", "_law_n", "_law_x", "_law_y"] ["_law_figures_here", "_law_cup_here", "_law_loose_here"] (defScope st__law_offered) := ⟨rfl, rfl, rfl, by decide +kernel, rfl, by decide +kernel, by decide +kernel⟩
abbrev st__law_changed : Stmt := topS 47
theorem sc__law_changed : FnScope ["_law_cup_here", "_law_deed", "_law_row", "_law_x", "_law_y", "_law_pair"] ["_law_cup_here", "_law_deed"] (defScope st__law_changed) := ⟨rfl, rfl, rfl, by decide +kernel, rfl, by decide +kernel, by decide +kernel⟩
abbrev st__law_low : Stmt := topS 48
theorem sc__law_low : FnScope ["_law_source", "_law_many", "_law_others", "_law_strengths", "_law_y", "_law_guards", "_law_x", "_law_row", "_law_seats", "_law_may_here"] ["_law_source", "_law_many", "_law_others"] (defScope st__law_low) := ⟨rfl, rfl, rfl, by decide +kernel, rfl, by decide +kernel, by decide +kernel⟩
abbrev st__law_world : Stmt := topS 49
theorem sc__law_world : FnScope ["_law_source", "_law_n", "_law_figures_here"] ["_law_source"] (defScope st__law_world) := ⟨rfl, rfl, rfl, by decide +kernel, rfl, by decide +kernel, by decide +kernel⟩
abbrev st__law_told : Stmt := topS 50
theorem sc__law_told : FnScope ["_law_field", "_law_cup_here", "_law_loose_here", "e"] ["_law_field", "_law_cup_here", "_law_loose_here"] (defScope st__law_told) := ⟨rfl, rfl, rfl, by decide +kernel, rfl, by decide +kernel, by decide +kernel⟩
abbrev st_law : Stmt := topS 51
theorem sc_law : FnScope ["_law_script", "_law_turn", "_law_source", "_law_figures_here", "_law_cup_here", "_law_field", "_law_n", "_law_time", "_law_loose_here", "_law_may_here", "_law_every", "_law_r", "_law_spoilt"] ["_law_script"] (defScope st_law) := ⟨rfl, rfl, rfl, by decide +kernel, rfl, by decide +kernel, by decide +kernel⟩
def clsB : Stmt → List Stmt
  | .ClassDef (body := b) .. => b
  | _ => []
abbrev st_ini : Stmt := (clsB (topS 1)).getD 0 (.Pass ⟨0, 0, 0, 0⟩)
theorem sc_ini : FnScope ["self", "what"] ["self", "what"] (defScope st_ini) := ⟨rfl, rfl, rfl, by decide +kernel, rfl, by decide +kernel, by decide +kernel⟩
def LC_ : List Str := ["BadLoose", "Unlike", "BadGame", "BadRounds", "BadSize", "BadStrength", "BadGuard"]
def HC_ : List Str := ["BadLoose", "Unlike", "Refused"]
abbrev st_fini : Stmt := (clsB (topS 29)).getD 0 (.Pass ⟨0, 0, 0, 0⟩)
theorem sc_fini : FnScope ["self", "strengths", "guards"] ["self", "strengths", "guards"] (defScope st_fini) := ⟨rfl, rfl, rfl, by decide +kernel, rfl, by decide +kernel, by decide +kernel⟩
structure Txt (K : PySem.W.Frag) (mg : Str → Option Value) (CA : Str → Addr) where
  f_fini : Addr
  fd_fini : FuncData
  F_fini : Fun K "__init__" "Field.__init__" st_fini f_fini fd_fini
  b_fini : Binds K fd_fini ["self", "strengths", "guards"] []
  fc_Field : FldC K (CA "Field") f_fini
  gC_Field : mg "Field" = some (.ref (CA "Field"))
  f_ini : Addr
  fd_ini : FuncData
  F_ini : Fun K "__init__" "Refused.__init__" st_ini f_ini fd_ini
  b_ini : Binds K fd_ini ["self", "what"] []
  ti_ini : PySem.W.typeIn K (.ref f_ini) = some (.type "function")
  e_er : ∀ c ∈ LC_, ErrC K (CA c) f_ini
  em_er : ∀ c ∈ LC_, ∀ C ∈ HC_, PySem.W.exmOne K (.ref (CA c)) (.ref (CA C)) = some (subE c C)
  gC_Refused : mg "Refused" = some (.ref (CA "Refused"))
  gC_BadSize : mg "BadSize" = some (.ref (CA "BadSize"))
  gC_BadStrength : mg "BadStrength" = some (.ref (CA "BadStrength"))
  gC_BadGuard : mg "BadGuard" = some (.ref (CA "BadGuard"))
  gC_Unlike : mg "Unlike" = some (.ref (CA "Unlike"))
  gC_BadGame : mg "BadGame" = some (.ref (CA "BadGame"))
  gC_BadRounds : mg "BadRounds" = some (.ref (CA "BadRounds"))
  gC_BadLoose : mg "BadLoose" = some (.ref (CA "BadLoose"))
  f_check_loose : Addr
  fd_check_loose : FuncData
  F_check_loose : Fun K "check_loose" "check_loose" st_check_loose f_check_loose fd_check_loose
  b_check_loose : Binds K fd_check_loose ["loose"] []
  g_check_loose : mg "check_loose" = some (.ref f_check_loose)
  f_can_beat : Addr
  fd_can_beat : FuncData
  F_can_beat : Fun K "can_beat" "can_beat" st_can_beat f_can_beat fd_can_beat
  b_can_beat : Binds K fd_can_beat ["field", "y", "x"] []
  g_can_beat : mg "can_beat" = some (.ref f_can_beat)
  f_check_form : Addr
  fd_check_form : FuncData
  F_check_form : Fun K "check_form" "check_form" st_check_form f_check_form fd_check_form
  b_check_form : Binds K fd_check_form ["n", "pairs"] []
  g_check_form : mg "check_form" = some (.ref f_check_form)
  f_check_no_gap : Addr
  fd_check_no_gap : FuncData
  F_check_no_gap : Fun K "check_no_gap" "check_no_gap" st_check_no_gap f_check_no_gap fd_check_no_gap
  b_check_no_gap : Binds K fd_check_no_gap ["n", "pairs"] []
  g_check_no_gap : mg "check_no_gap" = some (.ref f_check_no_gap)
  f_check_games : Addr
  fd_check_games : FuncData
  F_check_games : Fun K "check_games" "check_games" st_check_games f_check_games fd_check_games
  b_check_games : Binds K fd_check_games ["field", "pairs"] []
  g_check_games : mg "check_games" = some (.ref f_check_games)
  f_made_cup : Addr
  fd_made_cup : FuncData
  F_made_cup : Fun K "made_cup" "made_cup" st_made_cup f_made_cup fd_made_cup
  b_made_cup : Binds K fd_made_cup ["field", "pairs"] []
  g_made_cup : mg "made_cup" = some (.ref f_made_cup)
  f_comes_through : Addr
  fd_comes_through : FuncData
  F_comes_through : Fun K "comes_through" "comes_through" st_comes_through f_comes_through fd_comes_through
  b_comes_through : Binds K fd_comes_through ["cup", "x", "r"] []
  g_comes_through : mg "comes_through" = some (.ref f_comes_through)
  f_rests : Addr
  fd_rests : FuncData
  F_rests : Fun K "rests" "rests" st_rests f_rests fd_rests
  b_rests : Binds K fd_rests ["cup", "x", "r"] []
  g_rests : mg "rests" = some (.ref f_rests)
  f_is_let : Addr
  fd_is_let : FuncData
  F_is_let : Fun K "is_let" "is_let" st_is_let f_is_let fd_is_let
  b_is_let : Binds K fd_is_let ["field", "cup", "deed", "loose"] []
  g_is_let : mg "is_let" = some (.ref f_is_let)
  f_offers : Addr
  fd_offers : FuncData
  F_offers : Fun K "offers" "offers" st_offers f_offers fd_offers
  g_offers : mg "offers" = some (.ref f_offers)
  d_offers : Dfl0 K fd_offers ["field", "cup", "loose"]
  f_made_field : Addr
  fd_made_field : FuncData
  F_made_field : Fun K "made_field" "made_field" st_made_field f_made_field fd_made_field
  b_made_field : Binds K fd_made_field ["strengths", "guards"] []
  g_made_field : mg "made_field" = some (.ref f_made_field)
  f__law_pool : Addr
  fd__law_pool : FuncData
  F__law_pool : Fun K "_law_pool" "_law_pool" st__law_pool f__law_pool fd__law_pool
  b__law_pool : Binds K fd__law_pool ["_law_script", "_law_k"] []
  g__law_pool : mg "_law_pool" = some (.ref f__law_pool)
  f__law_take : Addr
  fd__law_take : FuncData
  F__law_take : Fun K "_law_take" "_law_take" st__law_take f__law_take fd__law_take
  b__law_take : Binds K fd__law_take ["_law_source", "_law_top"] []
  g__law_take : mg "_law_take" = some (.ref f__law_take)
  f__law_one : Addr
  fd__law_one : FuncData
  F__law_one : Fun K "_law_one" "_law_one" st__law_one f__law_one fd__law_one
  b__law_one : Binds K fd__law_one ["_law_source", "_law_things"] []
  g__law_one : mg "_law_one" = some (.ref f__law_one)
  f__law_shuffled : Addr
  fd__law_shuffled : FuncData
  F__law_shuffled : Fun K "_law_shuffled" "_law_shuffled" st__law_shuffled f__law_shuffled fd__law_shuffled
  b__law_shuffled : Binds K fd__law_shuffled ["_law_source", "_law_count"] []
  g__law_shuffled : mg "_law_shuffled" = some (.ref f__law_shuffled)
  f__law_figures : Addr
  fd__law_figures : FuncData
  F__law_figures : Fun K "_law_figures" "_law_figures" st__law_figures f__law_figures fd__law_figures
  b__law_figures : Binds K fd__law_figures ["_law_source", "_law_n"] []
  g__law_figures : mg "_law_figures" = some (.ref f__law_figures)
  f__law_may : Addr
  fd__law_may : FuncData
  F__law_may : Fun K "_law_may" "_law_may" st__law_may f__law_may fd__law_may
  b__law_may : Binds K fd__law_may ["_law_figures_here", "_law_y", "_law_x"] []
  g__law_may : mg "_law_may" = some (.ref f__law_may)
  f__law_stair : Addr
  fd__law_stair : FuncData
  F__law_stair : Fun K "_law_stair" "_law_stair" st__law_stair f__law_stair fd__law_stair
  b__law_stair : Binds K fd__law_stair ["_law_figures_here", "_law_sides"] []
  g__law_stair : mg "_law_stair" = some (.ref f__law_stair)
  f__law_drawn_round : Addr
  fd__law_drawn_round : FuncData
  F__law_drawn_round : Fun K "_law_drawn_round" "_law_drawn_round" st__law_drawn_round f__law_drawn_round fd__law_drawn_round
  b__law_drawn_round : Binds K fd__law_drawn_round ["_law_source", "_law_figures_here", "_law_left", "_law_is_full"] []
  g__law_drawn_round : mg "_law_drawn_round" = some (.ref f__law_drawn_round)
  f__law_cup : Addr
  fd__law_cup : FuncData
  F__law_cup : Fun K "_law_cup" "_law_cup" st__law_cup f__law_cup fd__law_cup
  b__law_cup : Binds K fd__law_cup ["_law_source", "_law_figures_here"] []
  g__law_cup : mg "_law_cup" = some (.ref f__law_cup)
  f__law_rounds : Addr
  fd__law_rounds : FuncData
  F__law_rounds : Fun K "_law_rounds" "_law_rounds" st__law_rounds f__law_rounds fd__law_rounds
  b__law_rounds : Binds K fd__law_rounds ["_law_cup_here"] []
  g__law_rounds : mg "_law_rounds" = some (.ref f__law_rounds)
  f__law_through : Addr
  fd__law_through : FuncData
  F__law_through : Fun K "_law_through" "_law_through" st__law_through f__law_through fd__law_through
  b__law_through : Binds K fd__law_through ["_law_cup_here", "_law_r"] []
  g__law_through : mg "_law_through" = some (.ref f__law_through)
  f__law_out : Addr
  fd__law_out : FuncData
  F__law_out : Fun K "_law_out" "_law_out" st__law_out f__law_out fd__law_out
  b__law_out : Binds K fd__law_out ["_law_cup_here", "_law_r"] []
  g__law_out : mg "_law_out" = some (.ref f__law_out)
  f__law_resting : Addr
  fd__law_resting : FuncData
  F__law_resting : Fun K "_law_resting" "_law_resting" st__law_resting f__law_resting fd__law_resting
  b__law_resting : Binds K fd__law_resting ["_law_cup_here", "_law_r"] []
  g__law_resting : mg "_law_resting" = some (.ref f__law_resting)
  f__law_loose : Addr
  fd__law_loose : FuncData
  F__law_loose : Fun K "_law_loose" "_law_loose" st__law_loose f__law_loose fd__law_loose
  b__law_loose : Binds K fd__law_loose ["_law_source", "_law_cup_here"] []
  g__law_loose : mg "_law_loose" = some (.ref f__law_loose)
  f__law_offered : Addr
  fd__law_offered : FuncData
  F__law_offered : Fun K "_law_offered" "_law_offered" st__law_offered f__law_offered fd__law_offered
  b__law_offered : Binds K fd__law_offered ["_law_figures_here", "_law_cup_here", "_law_loose_here"] []
  g__law_offered : mg "_law_offered" = some (.ref f__law_offered)
  f__law_changed : Addr
  fd__law_changed : FuncData
  F__law_changed : Fun K "_law_changed" "_law_changed" st__law_changed f__law_changed fd__law_changed
  b__law_changed : Binds K fd__law_changed ["_law_cup_here", "_law_deed"] []
  g__law_changed : mg "_law_changed" = some (.ref f__law_changed)
  f__law_low : Addr
  fd__law_low : FuncData
  F__law_low : Fun K "_law_low" "_law_low" st__law_low f__law_low fd__law_low
  b__law_low : Binds K fd__law_low ["_law_source", "_law_many", "_law_others"] []
  g__law_low : mg "_law_low" = some (.ref f__law_low)
  f__law_world : Addr
  fd__law_world : FuncData
  F__law_world : Fun K "_law_world" "_law_world" st__law_world f__law_world fd__law_world
  b__law_world : Binds K fd__law_world ["_law_source"] []
  g__law_world : mg "_law_world" = some (.ref f__law_world)
  f__law_told : Addr
  fd__law_told : FuncData
  F__law_told : Fun K "_law_told" "_law_told" st__law_told f__law_told fd__law_told
  b__law_told : Binds K fd__law_told ["_law_field", "_law_cup_here", "_law_loose_here"] []
  g__law_told : mg "_law_told" = some (.ref f__law_told)
  f_law : Addr
  fd_law : FuncData
  F_law : Fun K "law" "law" st_law f_law fd_law
  b_law : Binds K fd_law ["_law_script"] []
  g_law : mg "law" = some (.ref f_law)
  z_enumerate : mg "enumerate" = none
  z_int : mg "int" = none
  z_len : mg "len" = none
  z_max : mg "max" = none
  z_min : mg "min" = none
  z_range : mg "range" = none
  z_sorted : mg "sorted" = none
  z_tuple : mg "tuple" = none
  t_MOST : Tok
  c_MOST : mg "MOST" = some (.int 1000000000 t_MOST)
  t_MOST_SIDES : Tok
  c_MOST_SIDES : mg "MOST_SIDES" = some (.int 32 t_MOST_SIDES)
  ad_STAYS : Addr
  c_STAYS : mg "STAYS" = some (.ref ad_STAYS)
  k_STAYS : CtAt K ad_STAYS [0, -1]
theorem ok_INI {P : Program} {w : World} {K : PySem.W.Frag} {mg : Str → Option Value} {base : Heap} {CA : Str → Addr} (T : Txt K mg CA) : FnOk P w K mg base (L2.CX P w) 1 T.f_ini T.fd_ini ["self", "what"] (spIni K) :=
  ok_ini T.F_ini sc_ini fun cdv A outer s H E => pss_one (ps_ost (pv 0) (pv 1))
theorem ok_FINI {P : Program} {w : World} {K : PySem.W.Frag} {mg : Str → Option Value} {base : Heap} {CA : Str → Addr} (T : Txt K mg CA) : FnOk P w K mg base (L2.CX P w) 1 T.f_fini T.fd_fini ["self", "strengths", "guards"] (spFI K) :=
  T.F_fini.okX sc_fini (fun vs H Q E h => by obtain ⟨_, _, _, _, _, _, _, rfl, _⟩ := h; rfl) fun cdv A outer s H vs Q E hr h => ⟨_, pss_cons (ps_fld (pv 0) (pe_callB call_len_seq (by rfl) T.z_len PySem.boot_len (pa_cons (pv 1) pa_nil)) rfl) (pss_cons (ps_fld (pv 0) (pv 1) rfl) (pss_one (ps_fld (pv 0) (pv 2) rfl))), fi_reads (fun σ H Q ⟨t1, xs, e, h, q⟩ => ⟨_, e, t1, xs, rfl, .inr h, q⟩) h⟩

abbrev sp_can_beat : SpD := spCanBeat
theorem len_can_beat : ∀ xs M P PX, sp_can_beat xs M P PX → xs.length = 3 := len_canBeat
abbrev sp_check_form : SpD := spForm
theorem len_check_form : ∀ xs M P PX, sp_check_form xs M P PX → xs.length = 2 := len_form
abbrev sp_check_no_gap : SpD := spGap
theorem len_check_no_gap : ∀ xs M P PX, sp_check_no_gap xs M P PX → xs.length = 2 := len_gap
abbrev sp_check_games : SpD := spGamesC
theorem len_check_games : ∀ xs M P PX, sp_check_games xs M P PX → xs.length = 2 := len_gamesC
abbrev sp_made_cup : SpD := spMadeCup
theorem len_made_cup : ∀ xs M P PX, sp_made_cup xs M P PX → xs.length = 2 := len_madeCup
abbrev sp_comes_through : SpD := spThru
theorem len_comes_through : ∀ xs M P PX, sp_comes_through xs M P PX → xs.length = 3 := len_thru
abbrev sp_made_field : SpD := spMade
theorem len_made_field : ∀ xs M P PX, sp_made_field xs M P PX → xs.length = 2 := len_made
abbrev sp__law_pool : SpF := spPool
theorem len__law_pool : ∀ xs M P, sp__law_pool xs M P → xs.length = 2 := len_pool
abbrev sp__law_take : SpD := spTake
theorem len__law_take : ∀ xs M P PX, sp__law_take xs M P PX → xs.length = 2 := len_take
abbrev sp__law_one : SpD := spOne
theorem len__law_one : ∀ xs M P PX, sp__law_one xs M P PX → xs.length = 2 := len_one
abbrev sp__law_shuffled : SpD := spShuf
theorem len__law_shuffled : ∀ xs M P PX, sp__law_shuffled xs M P PX → xs.length = 2 := len_shuf
abbrev sp__law_figures : SpD := spFigures
theorem len__law_figures : ∀ xs M P PX, sp__law_figures xs M P PX → xs.length = 2 := len_figures
abbrev sp__law_may : SpD := spMay
theorem len__law_may : ∀ xs M P PX, sp__law_may xs M P PX → xs.length = 3 := len_may
abbrev sp__law_stair : SpD := spStairC
theorem len__law_stair : ∀ xs M P PX, sp__law_stair xs M P PX → xs.length = 2 := len_stairC
abbrev sp__law_drawn_round : SpD := spDrawn
theorem len__law_drawn_round : ∀ xs M P PX, sp__law_drawn_round xs M P PX → xs.length = 4 := len_drawn
abbrev sp__law_cup : SpD := spCupL
theorem len__law_cup : ∀ xs M P PX, sp__law_cup xs M P PX → xs.length = 2 := len_cupL
abbrev sp__law_rounds : SpD := spRounds
theorem len__law_rounds : ∀ xs M P PX, sp__law_rounds xs M P PX → xs.length = 1 := len_roundsC
structure Cp (S G : List Int) (ps : List (Int × Int)) : Prop where
  c : CupP S G ps
  n1 : 1 ≤ S.length
  n2 : S.length ≤ 100
  g : G.length = S.length
def mx (ps : List (Int × Int)) : Int := maxL (ps.map (·.1))
def outL (ps : List (Int × Int)) (r : Int) : List Int := (rangeI ps.length).filter fun x => decide ((cg ps x).1 = r)
def thruL (ps : List (Int × Int)) (r : Int) : List Int := (rangeI ps.length).filter fun x => thruB ps x r
def restL (ps : List (Int × Int)) (r : Int) : List Int := (rangeI ps.length).filter fun x => thruB ps x r && decide ((r, x) ∉ ps)
/-- a deed: an exchange or a shift, its two sides -/
structure Dd where
  e : Bool
  x : Int
  y : Int
deriving DecidableEq
def Dd.d (q : Dd) : D := .tup [.str (if q.e = true then "exchange" else "shift"), .int q.x, .int q.y]
def Dd.form (q : Dd) : Bool := !q.e || decide (q.x < q.y)
def Dd.sides (n : Int) (q : Dd) : Bool := decide (0 ≤ q.x ∧ q.x < n) && decide (0 ≤ q.y ∧ q.y < n)
def looseBad : Nat → Int → List Int → Option Nat
  | _, _, [] => none
  | k, last, r :: l => if r ≤ last then some k else looseBad (k + 1) r l
def letB (S G : List Int) (ps : List (Int × Int)) (L : List Int) (q : Dd) : Bool :=
  if q.e = true then decide (0 < (cg ps q.x).1) && (decide ((cg ps q.y).1 = (cg ps q.x).1) && (mayB S G (cg ps q.y).2 q.x && mayB S G (cg ps q.x).2 q.y))
  else decide ((cg ps q.x).1 ∈ L) && ((thruB ps q.y (cg ps q.x).1 && decide (((cg ps q.x).1, q.y) ∉ ps)) && mayB S G q.y q.x)
def newP (ps : List (Int × Int)) (q : Dd) : List (Int × Int) := if q.e = true then (ps.set q.x.toNat (cg ps q.y)).set q.y.toNat (cg ps q.x) else ps.set q.x.toNat ((cg ps q.x).1, q.y)
def oddL (n : Int) : List D := [.tup [.str "exchange", .int 1, .int 0], .tup [.str "exchange", .int 0, .int 0], .tup [.str "exchange", .int n, .int 0], .tup [.str "swap", .int 0, .int 1], .tup [.str "shift", .int 0], .tup [],
            .tup [.str "shift", .int 0, .int 0, .int 0], .tup [.str "exchange", .str "0", .int 1], .tup [.str "shift", .int 0, .str "0"], .tup [.str "shift"], .tup [.int 0, .int 0, .int 1], .tup [.str "", .int 0, .int 1]]
def isDd (d : D) (o : Option Dd) : Prop := (∃ q, o = some q ∧ d = q.d) ∨ (o = none ∧ ∃ n, 1 ≤ n ∧ d ∈ oddL n)
def formO : Option Dd → Bool
  | some q => q.form
  | none => false
def errN : Nat → Str
  | 0 => "BadDeed"
  | 1 => "BadLoose"
  | _ => "Unlike"
def wordN : Nat → Str
  | 0 => "deed"
  | 1 => "loose"
  | _ => "unlike"
/-- what a deed comes to: an error, or the cup behind it -/
def doneR (S G : List Int) (ps : List (Int × Int)) (o : Option Dd) (L : List Int) : (Nat × Int) ⊕ List (Int × Int) :=
  if ps.length = S.length then (match o with
    | none => .inl (0, 0)
    | some q => if q.form = true then (if q.sides S.length = true then (match looseBad 0 0 L with
      | some k => .inl (1, k)
      | none => if letB S G ps L q = true then .inr (newP ps q) else .inl (0, 2)) else .inl (0, 1)) else .inl (0, 0))
  else .inl (2, ps.length)
/-- a cup, or one with too many or too few pairs -/
def CupOr (S G : List Int) (ps : List (Int × Int)) : Prop := (ps.length = S.length → CupP S G ps) ∧ 1 ≤ S.length ∧ S.length ≤ 100 ∧ G.length = S.length ∧ ps.length ≤ 1000
def isLoose (l : D) (L : List Int) : Prop := l = tupI L ∨ l = .ct (L.map .int)
def errK (r : (Nat × Int) ⊕ List (Int × Int)) (P : List (Int × Int) → Prop) (PX : KXM) : Prop := match r with
  | .inl (k, i) => PX (errN k) (.int i) []
  | .inr p => P p
def toldD : (Nat × Int) ⊕ List (Int × Int) → D
  | .inl (k, i) => .tup [.str (wordN k), .int i]
  | .inr p => pairsT p
def src1 (M : Mem) (a b : Int) : Prop := M = [src a b]
def sp_check_loose : SpD := fun xs M P PX => ∃ l L, xs = [.dat l] ∧ M = [] ∧ isLoose l L ∧ L.length ≤ 1000 ∧ (match looseBad 0 0 L with
  | some k => PX "BadLoose" (.int (k : Nat)) []
  | none => P .non [])
def sp_rests : SpD := fun xs M P _ => ∃ ps x r, xs = [.dat (pairsT ps), .dat (.int x), .dat (.int r)] ∧ M = [] ∧ 0 ≤ x ∧ x < ps.length ∧ P (.bl (thruB ps x r && decide ((r, x) ∉ ps))) []
def sp_is_let : SpD := fun xs M P _ => ∃ S G ps q l L, xs = [.dat (fldD S G), .dat (pairsT ps), .dat (Dd.d q), .dat l] ∧ M = [] ∧ Cp S G ps ∧ isLoose l L ∧ q.sides S.length = true ∧ P (.bl (letB S G ps L q)) []
def sp__law_through : SpD := fun xs M P _ => ∃ ps r, xs = [.dat (pairsT ps), .dat (.int r)] ∧ M = [] ∧ ps.length ≤ 1000 ∧ P (.lst ((thruL ps r).map .int)) []
def sp__law_out : SpD := fun xs M P _ => ∃ ps r, xs = [.dat (pairsT ps), .dat (.int r)] ∧ M = [] ∧ ps.length ≤ 1000 ∧ P (.lst ((outL ps r).map .int)) []
def sp__law_resting : SpD := fun xs M P _ => ∃ ps r, xs = [.dat (pairsT ps), .dat (.int r)] ∧ M = [] ∧ ps.length ≤ 1000 ∧ P (.lst ((restL ps r).map .int)) []
def sp__law_loose : SpD := fun xs M P _ => ∃ S G ps a b, xs = [.cell 0, .dat (pairsT ps)] ∧ M = [src a b] ∧ Good a b ∧ Cp S G ps ∧ ∀ (L : List Int) a' b', looseBad 0 0 L = none → L.length ≤ 200 → Good a' b' → P (tupI L) [src a' b']
/-- the deeds that are let -/
def offP (S G : List Int) (ps : List (Int × Int)) (L : List Int) (F : List Dd) : Prop := ∀ q : Dd, q ∈ F ↔ (q.form = true ∧ q.sides S.length = true ∧ letB S G ps L q = true)
def sp__law_changed : SpD := fun xs M P _ => ∃ ps q, xs = [.dat (pairsT ps), .dat (Dd.d q)] ∧ M = [] ∧ ps.length ≤ 1000 ∧ q.sides ps.length = true ∧ P (pairsT (newP ps q)) []
def wide (S G : List Int) : Prop := S.length ≤ 32 ∧ (∀ v ∈ S, 0 ≤ v ∧ v ≤ 100) ∧ (∀ v ∈ G, -1 ≤ v ∧ v ≤ 100)
def sp__law_low : SpD := fun xs M P _ => ∃ m k a b, xs = [.cell 0, .dat (.int m), .dat (.int k)] ∧ M = [src a b] ∧ Good a b ∧ 1 ≤ m ∧ m ≤ 4 ∧ 1 ≤ k ∧ k ≤ 4 ∧ ∀ S G ps a' b', Cp S G ps → wide S G → Good a' b' → P (.tup [figD S G, pairsT ps]) [src a' b']
def sp__law_world : SpD := fun xs M P _ => ∃ a b, xs = [.cell 0] ∧ M = [src a b] ∧ Good a b ∧ ∀ S G ps a' b', Cp S G ps → wide S G → Good a' b' → P (.tup [figD S G, pairsT ps]) [src a' b']
def strL (n : Int) : List Dd := [⟨true, 0, n⟩, ⟨false, n, 0⟩, ⟨false, 0, -1⟩, ⟨true, -1, 0⟩, ⟨false, 10 ^ 20, 0⟩, ⟨true, n, n + 1⟩, ⟨false, -1, n⟩]
theorem len_check_loose : ∀ xs M P PX, sp_check_loose xs M P PX → xs.length = 1 := fun _ _ _ _ ⟨_, _, e, _⟩ => by rw [e]; rfl
theorem len_rests : ∀ xs M P PX, sp_rests xs M P PX → xs.length = 3 := fun _ _ _ _ ⟨_, _, _, e, _⟩ => by rw [e]; rfl
theorem len_is_let : ∀ xs M P PX, sp_is_let xs M P PX → xs.length = 4 := fun _ _ _ _ ⟨_, _, _, _, _, _, e, _⟩ => by rw [e]; rfl
theorem len__law_through : ∀ xs M P PX, sp__law_through xs M P PX → xs.length = 2 := fun _ _ _ _ ⟨_, _, e, _⟩ => by rw [e]; rfl
theorem len__law_out : ∀ xs M P PX, sp__law_out xs M P PX → xs.length = 2 := fun _ _ _ _ ⟨_, _, e, _⟩ => by rw [e]; rfl
theorem len__law_resting : ∀ xs M P PX, sp__law_resting xs M P PX → xs.length = 2 := fun _ _ _ _ ⟨_, _, e, _⟩ => by rw [e]; rfl
theorem len__law_loose : ∀ xs M P PX, sp__law_loose xs M P PX → xs.length = 2 := fun _ _ _ _ ⟨_, _, _, _, _, e, _⟩ => by rw [e]; rfl
theorem len__law_changed : ∀ xs M P PX, sp__law_changed xs M P PX → xs.length = 2 := fun _ _ _ _ ⟨_, _, e, _⟩ => by rw [e]; rfl
theorem len__law_low : ∀ xs M P PX, sp__law_low xs M P PX → xs.length = 3 := fun _ _ _ _ ⟨_, _, _, _, e, _⟩ => by rw [e]; rfl
theorem len__law_world : ∀ xs M P PX, sp__law_world xs M P PX → xs.length = 1 := fun _ _ _ _ ⟨_, _, e, _⟩ => by rw [e]; rfl
abbrev sp_law : SpD := spLaw
theorem len_law : ∀ xs M P PX, sp_law xs M P PX → xs.length = 1 := len_law1
theorem start_law {ns : List Int} {P : D → Mem → Prop} (h : ns.length ≤ 63) (k : P (.bl true) []) : sp_law [.dat (.fl (ns.map .int))] [] P (fun _ _ _ => False) := start_law1 h k
def exL (n : Nat) (x : Int) : List Dd := ((rangeI n).filter fun y => decide (x < y)).map fun y => ⟨true, x, y⟩
def shL (n : Nat) (x : Int) : List Dd := (rangeI n).map fun y => ⟨false, x, y⟩
def offE (S G : List Int) (ps : List (Int × Int)) (L : List Int) : List Dd := ((rangeI S.length).flatMap (exL S.length)).filter (letB S G ps L) ++ ((rangeI S.length).flatMap (shL S.length)).filter (letB S G ps L)
/-- what is offered: an error, or all deeds that are let -/
def offR (S G : List Int) (ps : List (Int × Int)) (L : List Int) : (Nat × Int) ⊕ List Dd :=
  if ps.length = S.length then (match looseBad 0 0 L with
    | some k => .inl (1, k)
    | none => .inr (offE S G ps L)) else .inl (2, ps.length)
def toldO : (Nat × Int) ⊕ List Dd → D
  | .inl (k, i) => .tup [.str (wordN k), .int i]
  | .inr F => .tup (F.map Dd.d)
def sp_offers : SpD := fun xs M P PX => ∃ S G ps l L, xs = [.dat (fldD S G), .dat (pairsT ps), .dat l] ∧ M = [] ∧ CupOr S G ps ∧ isLoose l L ∧ L.length ≤ 1000 ∧ (match offR S G ps L with
  | .inl (k, i) => PX (errN k) (.int i) []
  | .inr F => P (.tup (F.map Dd.d)) [])
def sp__law_told : SpD := fun xs M P _ => ∃ S G ps L, xs = [.dat (fldD S G), .dat (pairsT ps), .dat (tupI L)] ∧ M = [] ∧ CupOr S G ps ∧ L.length ≤ 1000 ∧ P (toldO (offR S G ps L)) []
def sp__law_offered : SpD := fun xs M P _ => ∃ S G ps L, xs = [.dat (figD S G), .dat (pairsT ps), .dat (tupI L)] ∧ M = [] ∧ Cp S G ps ∧ L.length ≤ 1000 ∧ P (.lst ((offE S G ps L).map Dd.d)) []
theorem len_offers : ∀ xs M P PX, sp_offers xs M P PX → xs.length = 3 := fun _ _ _ _ ⟨_, _, _, _, _, e, _⟩ => by rw [e]; rfl
theorem len__law_told : ∀ xs M P PX, sp__law_told xs M P PX → xs.length = 3 := fun _ _ _ _ ⟨_, _, _, _, e, _⟩ => by rw [e]; rfl
theorem len__law_offered : ∀ xs M P PX, sp__law_offered xs M P PX → xs.length = 3 := fun _ _ _ _ ⟨_, _, _, _, e, _⟩ => by rw [e]; rfl

/- slots: 0 loose, 1 last, 2 index, 3 r -/
def td_check_loose : TSd :=
  dSeq (dSet 1 (dC (.int 0)))
  (dFor (dEnumC (dCons (dVar 0) (dNil))) (dgTup 2 (dgsCons (dgName 2) (dgsCons (dgName 3) (dgsNil)))) (dSeq (dIfS (dT (dOp rLeD (dVar 3) (dVar 1))) (dRaise "BadLoose" (dVar 2)) (dNext))
  (dSet 1 (dVar 3))))

abbrev N_check_loose : List Str := ["loose", "last", "index", "r"]

/- slots: 0 field, 1 y, 2 x -/
def td_can_beat : TSd :=
  dRet (dAndV (dOp rNeD' (dVar 1) (dVar 2)) (dOp rGeD (dOp rIxD (dFld (dVar 0) "Field" "strengths") (dVar 1)) (dOp rIxD (dFld (dVar 0) "Field" "guards") (dVar 2))))

abbrev N_can_beat : List Str := ["field", "y", "x"]

/- slots: 0 n, 1 pairs, 2 x, 3 r, 4 y, 5 loses -/
def td_check_form : TSd :=
  dSeq (dIfS (dT (dOp rNeD' (dCB rLenD (dCons (dVar 1) (dNil))) (dVar 0))) (dRaise "Unlike" (dCB rLenD (dCons (dVar 1) (dNil)))) (dNext))
  (dFor (dEnum (dCons (dVar 1) (dNil))) (dgTup 2 (dgsCons (dgName 2) (dgsCons (dgTup 2 (dgsCons (dgName 3) (dgsCons (dgName 4) (dgsNil)))) (dgsNil)))) (dSeq (dSet 5 (dAndV (dOp rGeD (dVar 3) (dC (.int 1))) (dAndV (dChain rLeD rLtD (dC (.int 0)) (dVar 4) (dVar 0)) (dOp rNeD' (dVar 4) (dVar 2)))))
  (dIfS (dAnd (dNot (dTru (dVar 5))) (dT (dOp rNeD' (dTup (dCons (dVar 3) (dCons (dVar 4) (dNil)))) (dC (.ct (([0, -1] : List Int).map .int)))))) (dRaise "BadGame" (dTup (dCons (dVar 2) (dCons (dC (.int 0)) (dNil))))) (dNext))))

abbrev N_check_form : List Str := ["n", "pairs", "x", "r", "y", "loses"]

/- slots: 0 n, 1 pairs, 2 told, 3 r, 4 _ -/
def td_check_no_gap : TSd :=
  dSeq (dNewD 2 (.dk []))
  (dSeq (dFor (dIter (dVar 1)) (dgTup 2 (dgsCons (dgName 3) (dgsCons (dgName 4) (dgsNil)))) (dPutK 2 (dVar 3) (dC (.bl true))))
  (dFor (dRange2 (dCons (dC (.int 1)) (dCons (dCB (r2I fun i j => if j < i then j else i) (dCons (dCB rMaxKD (dConsC 2 (dNil))) (dCons (dOp rAddD (dVar 0) (dC (.int 1))) (dNil)))) (dNil)))) (dgName 3) (dIfS (dT (dInK true 2 (dVar 3))) (dRaise "BadRounds" (dVar 3)) (dNext))))

abbrev N_check_no_gap : List Str := ["n", "pairs", "told", "r", "_"]

/- slots: 0 field, 1 pairs, 2 beaten, 3 x, 4 r, 5 y -/
def td_check_games : TSd :=
  dSeq (dNewD 2 (.dt []))
  (dFor (dEnum (dCons (dVar 1) (dNil))) (dgTup 2 (dgsCons (dgName 3) (dgsCons (dgTup 2 (dgsCons (dgName 4) (dgsCons (dgName 5) (dgsNil)))) (dgsNil)))) (dIfS (dT (dOp rGtD (dVar 4) (dC (.int 0)))) (dSeq (dIfS (dT (dChain rLtD rLeD (dC (.int 0)) (dOp rIxD (dOp rIxD (dVar 1) (dVar 5)) (dC (.int 0))) (dVar 4))) (dRaise "BadGame" (dTup (dCons (dVar 3) (dCons (dC (.int 1)) (dNil))))) (dNext))
  (dSeq (dIfS (dT (dInK false 2 (dTup (dCons (dVar 4) (dCons (dVar 5) (dNil)))))) (dRaise "BadGame" (dTup (dCons (dVar 3) (dCons (dC (.int 2)) (dNil))))) (dNext))
  (dSeq (dIfS (dNot (dTru (dCall sp_can_beat (dCons (dVar 0) (dCons (dVar 5) (dCons (dVar 3) (dNil))))))) (dRaise "BadGame" (dTup (dCons (dVar 3) (dCons (dC (.int 3)) (dNil))))) (dNext))
  (dPutK 2 (dTup (dCons (dVar 4) (dCons (dVar 5) (dNil)))) (dC (.bl true)))))) (dNext)))

abbrev N_check_games : List Str := ["field", "pairs", "beaten", "x", "r", "y"]

/- slots: 0 field, 1 pairs -/
def td_made_cup : TSd :=
  dSeq (dDrop (dCall sp_check_form (dCons (dFld (dVar 0) "Field" "n") (dCons (dVar 1) (dNil)))))
  (dSeq (dDrop (dCall sp_check_no_gap (dCons (dFld (dVar 0) "Field" "n") (dCons (dVar 1) (dNil)))))
  (dSeq (dDrop (dCall sp_check_games (dCons (dVar 0) (dCons (dVar 1) (dNil)))))
  (dRet (dVar 1))))

abbrev N_made_cup : List Str := ["field", "pairs"]

/- slots: 0 cup, 1 x, 2 r -/
def td_comes_through : TSd :=
  dRet (dOrV (dOp rEqD' (dOp rIxD (dOp rIxD (dVar 0) (dVar 1)) (dC (.int 0))) (dC (.int 0))) (dOp rGtD (dOp rIxD (dOp rIxD (dVar 0) (dVar 1)) (dC (.int 0))) (dVar 2)))

abbrev N_comes_through : List Str := ["cup", "x", "r"]

/- slots: 0 cup, 1 x, 2 r -/
def td_rests : TSd :=
  dRet (dAndV (dCall sp_comes_through (dCons (dVar 0) (dCons (dVar 1) (dCons (dVar 2) (dNil))))) (dOp (rInT true) (dTup (dCons (dVar 2) (dCons (dVar 1) (dNil)))) (dVar 0)))

abbrev N_rests : List Str := ["cup", "x", "r"]

/- slots: 0 field, 1 cup, 2 deed, 3 loose, 4 word, 5 x, 6 y, 7 r, 8 beater, 9 other, 10 second -/
def td_is_let : TSd :=
  dSeq (dAsg (dVar 2) (dgTup 3 (dgsCons (dgName 4) (dgsCons (dgName 5) (dgsCons (dgName 6) (dgsNil))))))
  (dSeq (dAsg (dOp rIxD (dVar 1) (dVar 5)) (dgTup 2 (dgsCons (dgName 7) (dgsCons (dgName 8) (dgsNil)))))
  (dSeq (dIfS (dT (dOp rEqD' (dVar 4) (dC (.str "shift")))) (dRet (dAndV (dOp (rInX false) (dVar 7) (dVar 3)) (dAndV (dCall sp_rests (dCons (dVar 1) (dCons (dVar 6) (dCons (dVar 7) (dNil))))) (dCall sp_can_beat (dCons (dVar 0) (dCons (dVar 6) (dCons (dVar 5) (dNil)))))))) (dNext))
  (dSeq (dAsg (dOp rIxD (dVar 1) (dVar 6)) (dgTup 2 (dgsCons (dgName 9) (dgsCons (dgName 10) (dgsNil)))))
  (dRet (dAndV (dOp rGtD (dVar 7) (dC (.int 0))) (dAndV (dOp rEqD' (dVar 9) (dVar 7)) (dAndV (dCall sp_can_beat (dCons (dVar 0) (dCons (dVar 10) (dCons (dVar 5) (dNil))))) (dCall sp_can_beat (dCons (dVar 0) (dCons (dVar 8) (dCons (dVar 6) (dNil))))))))))))

abbrev N_is_let : List Str := ["field", "cup", "deed", "loose", "word", "x", "y", "r", "beater", "other", "second"]

/- slots: 0 field, 1 cup, 2 loose, 3 found, 4 x, 5 y, 6 deed -/
def td_offers : TSd :=
  dSeq (dDrop (dCall sp_made_cup (dCons (dVar 0) (dCons (dVar 1) (dNil)))))
  (dSeq (dDrop (dCall sp_check_loose (dCons (dVar 2) (dNil))))
  (dSeq (dSetF 3 (dLc2 (dRange1 (dCons (dFld (dVar 0) "Field" "n") (dNil))) (dgName 4) (dYes) (dRange2 (dCons (dOp rAddD (dVar 4) (dC (.int 1))) (dCons (dFld (dVar 0) "Field" "n") (dNil)))) (dgName 5) (dYes) (dTup (dCons (dC (.str "exchange")) (dCons (dVar 4) (dCons (dVar 5) (dNil))))) [4, 5] [5]))
  (dSeq (dDrop (dMeth1 3 fExtend (dF (dLc2 (dRange1 (dCons (dFld (dVar 0) "Field" "n") (dNil))) (dgName 4) (dYes) (dRange1 (dCons (dFld (dVar 0) "Field" "n") (dNil))) (dgName 5) (dYes) (dTup (dCons (dC (.str "shift")) (dCons (dVar 4) (dCons (dVar 5) (dNil))))) [4, 5] [5]))))
  (dFreeze 3 (dRet (dCB rTupD (dCons (dF (dLc (dIter (dVar 3)) (dgName 6) (dTru (dCall sp_is_let (dCons (dVar 0) (dCons (dVar 1) (dCons (dVar 6) (dCons (dVar 2) (dNil))))))) (dVar 6) [6])) (dNil))))))))

abbrev N_offers : List Str := ["field", "cup", "loose", "found", "x", "y", "deed"]

/- slots: 0 strengths, 1 guards, 2 index, 3 strength, 4 guard -/
def td_made_field : TSd :=
  dSeq (dIfS (dNot (dT (dChain rLeD rLeD (dC (.int 1)) (dCB rLenD (dCons (dVar 0) (dNil))) (dC (.int 32))))) (dRaise "BadSize" (dCB rLenD (dCons (dVar 0) (dNil)))) (dNext))
  (dSeq (dFor (dEnum (dCons (dVar 0) (dNil))) (dgTup 2 (dgsCons (dgName 2) (dgsCons (dgName 3) (dgsNil)))) (dIfS (dNot (dT (dChain rLeD rLeD (dUn rNegD (dC (.int 1000000000))) (dVar 3) (dC (.int 1000000000))))) (dRaise "BadStrength" (dVar 2)) (dNext)))
  (dSeq (dIfS (dT (dOp rNeD' (dCB rLenD (dCons (dVar 1) (dNil))) (dCB rLenD (dCons (dVar 0) (dNil))))) (dRaise "Unlike" (dCB rLenD (dCons (dVar 1) (dNil)))) (dNext))
  (dSeq (dFor (dEnum (dCons (dVar 1) (dNil))) (dgTup 2 (dgsCons (dgName 2) (dgsCons (dgName 4) (dgsNil)))) (dIfS (dNot (dT (dChain rLeD rLeD (dUn rNegD (dC (.int 1000000000))) (dVar 4) (dC (.int 1000000000))))) (dRaise "BadGuard" (dVar 2)) (dNext)))
  (dRet (dMkF "Field" (dCons (dVar 0) (dCons (dVar 1) (dNil))))))))

abbrev N_made_field : List Str := ["strengths", "guards", "index", "strength", "guard"]

/- slots: 0 _law_script, 1 _law_k, 2 _law_cell, 3 _law_big, 4 _law_stirred -/
def td__law_pool : S → (List D → S → Prop) → KX → Prop :=
  dSeqF (dSet 2 (dC (.int 0)))
  (dSeqF (dIfS (dT (dOp rLtD (dVar 1) (dCB rLenD (dCons (dVar 0) (dNil))))) (dSet 2 (dOp rIxD (dVar 0) (dVar 1))) (dIfS (dTru (dVar 0)) (dSet 2 (dOp rIxD (dVar 0) (dC (.int 0)))) (dNext)))
  (dSeqF (dSet 3 (dCB (r2I fun i j => if j > i then j else i) (dCons (dCB rIntD (dCons (dVar 2) (dNil))) (dCons (dCB rIntD (dCons (dOp rSubD (dUn rNegD (dC (.int 1))) (dVar 2)) (dNil))) (dNil)))))
  (dSeqF (dSet 4 (dOp rModD (dCB rIntD (dCons (dOp rMultD (dOp rAddD (dOp rAddD (dOp rAddD (dOp rModD (dCB rIntD (dCons (dVar 3) (dNil))) (dC (.int 2147483629))) (dOp rMultD (dOp rMultD (dC (.int 7919)) (dVar 1)) (dVar 1))) (dOp rMultD (dC (.int 31)) (dVar 1))) (dC (.int 17))) (dC (.int 48271))) (dNil))) (dC (.int 2147483647))))
  (dLst (dCons (dOp rMultD (dVar 3) (dCB rIntD (dCons (dOp rGeD (dVar 3) (dOp rPowD (dC (.int 10)) (dC (.int 18)))) (dNil)))) (dCons (dVar 4) (dNil)))))))

abbrev N__law_pool : List Str := ["_law_script", "_law_k", "_law_cell", "_law_big", "_law_stirred"]

/- slots: 0 _law_source, 1 _law_top, 2 _law_digit -/
def td__law_take : TSd :=
  dSeq (dIfS (dT (dOp rGtD (dIxC 0 (dC (.int 0))) (dC (.int 0)))) (dSeq (dSet 2 (dOp rModD (dCB rIntD (dCons (dIxC 0 (dC (.int 0))) (dNil))) (dVar 1)))
  (dSeq (dSetIx 0 (dC (.int 0)) (dOp rDivD (dIxC 0 (dC (.int 0))) (dVar 1)))
  (dRet (dVar 2)))) (dNext))
  (dSeq (dSetIx 0 (dC (.int 1)) (dOp rModD (dCB rIntD (dCons (dOp rAddD (dOp rMultD (dIxC 0 (dC (.int 1))) (dC (.int 39373))) (dC (.int 7))) (dNil))) (dC (.int 2147483647))))
  (dRet (dOp rModD (dCB rIntD (dCons (dOp rDivD (dOp rModD (dCB rIntD (dCons (dOp rMultD (dIxC 0 (dC (.int 1))) (dIxC 0 (dC (.int 1)))) (dNil))) (dC (.int 2147483629))) (dC (.int 32))) (dNil))) (dVar 1))))

abbrev N__law_take : List Str := ["_law_source", "_law_top", "_law_digit"]

/- slots: 0 _law_source, 1 _law_things -/
def td__law_one : TSd :=
  dRet (dOp rIxD (dVar 1) (dCall sp__law_take (dConsC 0 (dCons (dCB rLenD (dCons (dVar 1) (dNil))) (dNil)))))

abbrev N__law_one : List Str := ["_law_source", "_law_things"]

/- slots: 0 _law_source, 1 _law_count, 2 _law_left, 3 _law_found, 4 _law_x, 5 _law_turn -/
def td__law_shuffled : TSd :=
  dSeq (dPar 2 3 (dConsF (dLc (dRange1 (dCons (dVar 1) (dNil))) (dgName 4) (dYes) (dVar 4) [4]) (dConsF (dLst (dNil)) (dNil))))
  (dSeq (dFor (dRange1 (dCons (dVar 1) (dNil))) (dgName 5) (dDrop (dMeth1 3 fAppend (dMeth1 2 fPopAt (dCall sp__law_take (dConsC 0 (dCons (dCB rLenD (dConsC 2 (dNil))) (dNil))))))))
  (dFreeze 3 (dRet (dVar 3))))

abbrev N__law_shuffled : List Str := ["_law_source", "_law_count", "_law_left", "_law_found", "_law_x", "_law_turn"]

/- slots: 0 _law_source, 1 _law_n, 2 _law_kind, 3 _law_row, 4 _law_ranks, 5 _law_x -/
def td__law_figures : TSd :=
  dSeq (dSet 2 (dCall sp__law_take (dConsC 0 (dCons (dC (.int 3)) (dNil)))))
  (dSeq (dIfS (dT (dOp rEqD' (dVar 2) (dC (.int 0)))) (dSeq (dSet 3 (dCB rTupD (dCons (dCall sp__law_shuffled (dConsC 0 (dCons (dVar 1) (dNil)))) (dNil))))
  (dRet (dTup (dCons (dVar 3) (dCons (dVar 3) (dNil)))))) (dNext))
  (dSeq (dSet 4 (dCB rTupD (dCons (dF (dLc (dRange1 (dCons (dVar 1) (dNil))) (dgName 5) (dYes) (dCall sp__law_take (dConsC 0 (dCons (dC (.int 4)) (dNil)))) [5])) (dNil))))
  (dSeq (dIfS (dT (dOp rEqD' (dVar 2) (dC (.int 1)))) (dRet (dTup (dCons (dVar 4) (dCons (dVar 4) (dNil))))) (dNext))
  (dRet (dTup (dCons (dVar 4) (dCons (dCB rTupD (dCons (dF (dLc (dRange1 (dCons (dVar 1) (dNil))) (dgName 5) (dYes) (dOp rSubD (dCall sp__law_take (dConsC 0 (dCons (dC (.int 5)) (dNil)))) (dC (.int 1))) [5])) (dNil))) (dNil))))))))

abbrev N__law_figures : List Str := ["_law_source", "_law_n", "_law_kind", "_law_row", "_law_ranks", "_law_x"]

/- slots: 0 _law_figures_here, 1 _law_y, 2 _law_x -/
def td__law_may : TSd :=
  dRet (dAndV (dOp rNeD' (dVar 1) (dVar 2)) (dOp rGeD (dOp rIxD (dOp rIxD (dVar 0) (dC (.int 0))) (dVar 1)) (dOp rIxD (dOp rIxD (dVar 0) (dC (.int 1))) (dVar 2))))

abbrev N__law_may : List Str := ["_law_figures_here", "_law_y", "_law_x"]

/- slots: 0 _law_figures_here, 1 _law_sides, 2 _law_guard, 3 _law_x -/
def td__law_stair : TSd :=
  dRet (dF (dLc (dIter (dCB rSortD (dCons (dF (dLc (dIter (dVar 1)) (dgName 3) (dYes) (dTup (dCons (dUn rNegD (dOp rIxD (dOp rIxD (dVar 0) (dC (.int 1))) (dVar 3))) (dCons (dVar 3) (dNil)))) [3])) (dNil)))) (dgTup 2 (dgsCons (dgName 2) (dgsCons (dgName 3) (dgsNil)))) (dYes) (dVar 3) [2, 3]))

abbrev N__law_stair : List Str := ["_law_figures_here", "_law_sides", "_law_guard", "_law_x"]

/- slots: 0 _law_source, 1 _law_figures_here, 2 _law_left, 3 _law_is_full, 4 _law_names, 5 _law_k, 6 _law_many, 7 _law_seats, 8 _law_found, 9 _law_x, 10 _law_may_here, 11 _law_y -/
def td__law_drawn_round : TSd :=
  dSeq (dSet 4 (dF (dLc (dIter (dCall sp__law_shuffled (dConsC 0 (dCons (dCB rLenD (dConsC 2 (dNil))) (dNil))))) (dgName 5) (dYes) (dIxC 2 (dVar 5)) [5])))
  (dSeq (dSet 6 (dOp rDivD (dCB rLenD (dConsC 2 (dNil))) (dC (.int 2))))
  (dSeq (dIfS (dNot (dTru (dVar 3))) (dSet 6 (dCall sp__law_take (dConsC 0 (dCons (dOp rAddD (dVar 6) (dC (.int 1))) (dNil))))) (dNext))
  (dSeq (dPar 7 8 (dConsF (dSlL (dVar 4) (dPart (dVar 6)) (dNoPart)) (dConsF (dLst (dNil)) (dNil))))
  (dSeq (dFor (dIter (dCall sp__law_stair (dCons (dVar 1) (dCons (dSl (dVar 4) (dNoPart) (dPart (dVar 6))) (dNil))))) (dgName 9) (dSeq (dSet 10 (dF (dLendF 7 (dLc (dIter (dVar 7)) (dgName 11) (dTru (dCall sp__law_may (dCons (dVar 1) (dCons (dVar 11) (dCons (dVar 9) (dNil)))))) (dVar 11) [11]))))
  (dIfS (dTru (dVar 10)) (dSeq (dSet 11 (dCall sp__law_one (dConsC 0 (dCons (dVar 10) (dNil)))))
  (dSeq (dDrop (dMeth1 7 fRemI (dVar 11)))
  (dDrop (dMeth1 8 fAppend (dTup (dCons (dVar 9) (dCons (dVar 11) (dNil)))))))) (dNext))))
  (dFreeze 8 (dRet (dVar 8)))))))

abbrev N__law_drawn_round : List Str := ["_law_source", "_law_figures_here", "_law_left", "_law_is_full", "_law_names", "_law_k", "_law_many", "_law_seats", "_law_found", "_law_x", "_law_may_here", "_law_y"]

/- slots: 0 _law_source, 1 _law_figures_here, 2 _law_n, 3 _law_row, 4 _law_left, 5 _law_is_full, 6 _law_x, 7 _law_r, 8 _law_found, 9 _law_y -/
def td__law_cup : TSd :=
  dSeq (dSet 2 (dCB rLenD (dCons (dOp rIxD (dVar 1) (dC (.int 0))) (dNil))))
  (dSeq (dPar3 3 4 5 (dConsF (dOpF rRepF (dF (dLst (dCons (dTup (dCons (dC (.int 0)) (dCons (dUn rNegD (dC (.int 1))) (dNil)))) (dNil)))) (dVar 2)) (dConsF (dLc (dRange1 (dCons (dVar 2) (dNil))) (dgName 6) (dYes) (dVar 6) [6]) (dCons (dOp rEqD' (dCall sp__law_take (dConsC 0 (dCons (dC (.int 3)) (dNil)))) (dC (.int 0))) (dNil)))))
  (dSeq (dFor (dRange2 (dCons (dC (.int 1)) (dCons (dVar 2) (dNil)))) (dgName 7) (dSeq (dSet 8 (dCall2 sp__law_drawn_round (dConsC 0 (dCons (dVar 1) (dConsC 4 (dCons (dOrV (dVar 5) (dOp rGtD (dCall sp__law_take (dConsC 0 (dCons (dC (.int 4)) (dNil)))) (dC (.int 0)))) (dNil)))))))
  (dSeq (dIfS (dNot (dTru (dVar 8))) (dBreak) (dNext))
  (dFor (dIter (dVar 8)) (dgTup 2 (dgsCons (dgName 6) (dgsCons (dgName 9) (dgsNil)))) (dSeq (dSetIx 3 (dVar 6) (dTup (dCons (dVar 7) (dCons (dVar 9) (dNil)))))
  (dDrop (dMeth1 4 fRemI (dVar 6))))))))
  (dFreeze 3 (dRet (dCB rTupD (dCons (dVar 3) (dNil)))))))

abbrev N__law_cup : List Str := ["_law_source", "_law_figures_here", "_law_n", "_law_row", "_law_left", "_law_is_full", "_law_x", "_law_r", "_law_found", "_law_y"]

/- slots: 0 _law_cup_here, 1 _law_pair -/
def td__law_rounds : TSd :=
  dRet (dCB rMax1D (dCons (dF (dLc (dIter (dVar 0)) (dgName 1) (dYes) (dOp rIxD (dVar 1) (dC (.int 0))) [1])) (dNil)))

abbrev N__law_rounds : List Str := ["_law_cup_here", "_law_pair"]

/- slots: 0 _law_cup_here, 1 _law_r, 2 _law_x -/
def td__law_through : TSd :=
  dRet (dF (dLc (dRange1 (dCons (dCB rLenD (dCons (dVar 0) (dNil))) (dNil))) (dgName 2) (dOr (dT (dOp rEqD' (dOp rIxD (dOp rIxD (dVar 0) (dVar 2)) (dC (.int 0))) (dC (.int 0)))) (dT (dOp rGtD (dOp rIxD (dOp rIxD (dVar 0) (dVar 2)) (dC (.int 0))) (dVar 1)))) (dVar 2) [2]))

abbrev N__law_through : List Str := ["_law_cup_here", "_law_r", "_law_x"]

/- slots: 0 _law_cup_here, 1 _law_r, 2 _law_x -/
def td__law_out : TSd :=
  dRet (dF (dLc (dRange1 (dCons (dCB rLenD (dCons (dVar 0) (dNil))) (dNil))) (dgName 2) (dT (dOp rEqD' (dOp rIxD (dOp rIxD (dVar 0) (dVar 2)) (dC (.int 0))) (dVar 1))) (dVar 2) [2]))

abbrev N__law_out : List Str := ["_law_cup_here", "_law_r", "_law_x"]

/- slots: 0 _law_cup_here, 1 _law_r, 2 _law_busy, 3 _law_x, 4 _law_y -/
def td__law_resting : TSd :=
  dSeq (dSet 2 (dF (dLc (dIter (dCall sp__law_out (dCons (dVar 0) (dCons (dVar 1) (dNil))))) (dgName 3) (dYes) (dOp rIxD (dOp rIxD (dVar 0) (dVar 3)) (dC (.int 1))) [3])))
  (dRet (dF (dLc (dIter (dCall sp__law_through (dCons (dVar 0) (dCons (dVar 1) (dNil))))) (dgName 4) (dT (dOp (rInD' true) (dVar 4) (dVar 2))) (dVar 4) [4])))

abbrev N__law_resting : List Str := ["_law_cup_here", "_law_r", "_law_busy", "_law_x", "_law_y"]

/- slots: 0 _law_source, 1 _law_cup_here, 2 _law_r -/
def td__law_loose : TSd :=
  dRet (dCB rTupD (dCons (dF (dLc (dRange2 (dCons (dC (.int 1)) (dCons (dOp rAddD (dCall sp__law_rounds (dCons (dVar 1) (dNil))) (dC (.int 2))) (dNil)))) (dgName 2) (dT (dOp rEqD' (dCall sp__law_take (dConsC 0 (dCons (dC (.int 2)) (dNil)))) (dC (.int 0)))) (dVar 2) [2])) (dNil)))

abbrev N__law_loose : List Str := ["_law_source", "_law_cup_here", "_law_r"]

/- slots: 0 _law_figures_here, 1 _law_cup_here, 2 _law_loose_here, 3 _law_found, 4 _law_n, 5 _law_x, 6 _law_y -/
def td__law_offered : TSd :=
  dSeq (dPar 3 4 (dConsF (dLst (dNil)) (dCons (dCB rLenD (dCons (dVar 1) (dNil))) (dNil))))
  (dSeq (dFor (dRange1 (dCons (dVar 4) (dNil))) (dgName 5) (dFor (dRange2 (dCons (dOp rAddD (dVar 5) (dC (.int 1))) (dCons (dVar 4) (dNil)))) (dgName 6) (dIfS (dAnd (dT (dOp rGtD (dOp rIxD (dOp rIxD (dVar 1) (dVar 5)) (dC (.int 0))) (dC (.int 0)))) (dT (dOp rEqD' (dOp rIxD (dOp rIxD (dVar 1) (dVar 5)) (dC (.int 0))) (dOp rIxD (dOp rIxD (dVar 1) (dVar 6)) (dC (.int 0)))))) (dIfS (dAnd (dTru (dCall sp__law_may (dCons (dVar 0) (dCons (dOp rIxD (dOp rIxD (dVar 1) (dVar 6)) (dC (.int 1))) (dCons (dVar 5) (dNil)))))) (dTru (dCall sp__law_may (dCons (dVar 0) (dCons (dOp rIxD (dOp rIxD (dVar 1) (dVar 5)) (dC (.int 1))) (dCons (dVar 6) (dNil))))))) (dDrop (dMeth1 3 fAppend (dTup (dCons (dC (.str "exchange")) (dCons (dVar 5) (dCons (dVar 6) (dNil))))))) (dNext)) (dNext))))
  (dSeq (dFor (dRange1 (dCons (dVar 4) (dNil))) (dgName 5) (dIfS (dT (dOp (rInD' false) (dOp rIxD (dOp rIxD (dVar 1) (dVar 5)) (dC (.int 0))) (dVar 2))) (dFor (dIter (dCall sp__law_resting (dCons (dVar 1) (dCons (dOp rIxD (dOp rIxD (dVar 1) (dVar 5)) (dC (.int 0))) (dNil))))) (dgName 6) (dIfS (dTru (dCall sp__law_may (dCons (dVar 0) (dCons (dVar 6) (dCons (dVar 5) (dNil)))))) (dDrop (dMeth1 3 fAppend (dTup (dCons (dC (.str "shift")) (dCons (dVar 5) (dCons (dVar 6) (dNil))))))) (dNext))) (dNext)))
  (dFreeze 3 (dRet (dVar 3)))))

abbrev N__law_offered : List Str := ["_law_figures_here", "_law_cup_here", "_law_loose_here", "_law_found", "_law_n", "_law_x", "_law_y"]

/- slots: 0 _law_cup_here, 1 _law_deed, 2 _law_row, 3 _law_x, 4 _law_y, 5 _law_pair -/
def td__law_changed : TSd :=
  dSeq (dPar3 2 3 4 (dConsF (dLc (dIter (dVar 0)) (dgName 5) (dYes) (dVar 5) [5]) (dCons (dOp rIxD (dVar 1) (dC (.int 1))) (dCons (dOp rIxD (dVar 1) (dC (.int 2))) (dNil)))))
  (dSeq (dIfS (dT (dOp rEqD' (dOp rIxD (dVar 1) (dC (.int 0))) (dC (.str "shift")))) (dSetIx 2 (dVar 3) (dTup (dCons (dOp rIxD (dOp rIxD (dVar 0) (dVar 3)) (dC (.int 0))) (dCons (dVar 4) (dNil))))) (dAsgM (dTup (dCons (dOp rIxD (dVar 0) (dVar 4)) (dCons (dOp rIxD (dVar 0) (dVar 3)) (dNil)))) (dmTup 2 (dmsCons (dmSub 2 (dVar 3)) (dmsCons (dmSub 2 (dVar 4)) (dmsNil))))))
  (dFreeze 2 (dRet (dCB rTupD (dCons (dVar 2) (dNil))))))

abbrev N__law_changed : List Str := ["_law_cup_here", "_law_deed", "_law_row", "_law_x", "_law_y", "_law_pair"]

/- slots: 0 _law_source, 1 _law_many, 2 _law_others, 3 _law_strengths, 4 _law_y, 5 _law_guards, 6 _law_x, 7 _law_row, 8 _law_seats, 9 _law_may_here -/
def td__law_low : TSd :=
  dSeq (dSet 3 (dCB rTupD (dCons (dOp rAddD (dOp rMultD (dF (dLst (dCons (dC (.int 0)) (dNil)))) (dVar 1)) (dF (dLc (dRange1 (dCons (dVar 2) (dNil))) (dgName 4) (dYes) (dCall sp__law_take (dConsC 0 (dCons (dC (.int 4)) (dNil)))) [4]))) (dNil))))
  (dSeq (dSet 5 (dCB rTupD (dCons (dOp rAddD (dF (dLc (dRange1 (dCons (dVar 1) (dNil))) (dgName 6) (dYes) (dCall sp__law_take (dConsC 0 (dCons (dC (.int 2)) (dNil)))) [6])) (dOp rMultD (dF (dLst (dCons (dC (.int 9)) (dNil)))) (dVar 2))) (dNil))))
  (dSeq (dPar 7 8 (dConsF (dOpF rRepF (dF (dLst (dCons (dTup (dCons (dC (.int 0)) (dCons (dUn rNegD (dC (.int 1))) (dNil)))) (dNil)))) (dOp rAddD (dVar 1) (dVar 2))) (dConsF (dLc (dRange2 (dCons (dVar 1) (dCons (dOp rAddD (dVar 1) (dVar 2)) (dNil)))) (dgName 4) (dYes) (dVar 4) [4]) (dNil))))
  (dSeq (dFor (dIter (dCall sp__law_stair (dCons (dTup (dCons (dVar 3) (dCons (dVar 5) (dNil)))) (dCons (dF (dLc (dRange1 (dCons (dVar 1) (dNil))) (dgName 6) (dYes) (dVar 6) [6])) (dNil))))) (dgName 6) (dSeq (dSet 9 (dF (dLendF 8 (dLc (dIter (dVar 8)) (dgName 4) (dT (dOp rGeD (dOp rIxD (dVar 3) (dVar 4)) (dOp rIxD (dVar 5) (dVar 6)))) (dVar 4) [4]))))
  (dIfS (dTru (dVar 9)) (dSeq (dSet 4 (dCall sp__law_one (dConsC 0 (dCons (dVar 9) (dNil)))))
  (dSeq (dDrop (dMeth1 8 fRemI (dVar 4)))
  (dSetIx 7 (dVar 6) (dTup (dCons (dC (.int 1)) (dCons (dVar 4) (dNil))))))) (dNext))))
  (dFreeze 7 (dRet (dTup (dCons (dTup (dCons (dVar 3) (dCons (dVar 5) (dNil)))) (dCons (dCB rTupD (dCons (dVar 7) (dNil))) (dNil)))))))))

abbrev N__law_low : List Str := ["_law_source", "_law_many", "_law_others", "_law_strengths", "_law_y", "_law_guards", "_law_x", "_law_row", "_law_seats", "_law_may_here"]

/- slots: 0 _law_source, 1 _law_n, 2 _law_figures_here -/
def td__law_world : TSd :=
  dSeq (dIfS (dT (dOp rEqD' (dCall sp__law_take (dConsC 0 (dCons (dC (.int 3)) (dNil)))) (dC (.int 0)))) (dRet (dCall sp__law_low (dConsC 0 (dCons (dOp rAddD (dC (.int 1)) (dCall sp__law_take (dConsC 0 (dCons (dC (.int 4)) (dNil))))) (dCons (dOp rAddD (dC (.int 1)) (dCall sp__law_take (dConsC 0 (dCons (dC (.int 4)) (dNil))))) (dNil)))))) (dNext))
  (dSeq (dSet 1 (dCall sp__law_one (dConsC 0 (dCons (dF (dLst (dCons (dC (.int 1)) (dCons (dC (.int 2)) (dCons (dC (.int 3)) (dCons (dC (.int 4)) (dCons (dC (.int 5)) (dCons (dC (.int 5)) (dCons (dC (.int 6)) (dCons (dC (.int 6)) (dCons (dC (.int 7)) (dCons (dC (.int 8)) (dNil))))))))))))) (dNil)))))
  (dSeq (dIfS (dT (dOp rEqD' (dCall sp__law_take (dConsC 0 (dCons (dC (.int 20)) (dNil)))) (dC (.int 0)))) (dSet 1 (dC (.int 32))) (dNext))
  (dSeq (dSet 2 (dCall sp__law_figures (dConsC 0 (dCons (dVar 1) (dNil)))))
  (dRet (dTup (dCons (dVar 2) (dCons (dCall sp__law_cup (dConsC 0 (dCons (dVar 2) (dNil)))) (dNil))))))))

abbrev N__law_world : List Str := ["_law_source", "_law_n", "_law_figures_here"]

/- slots: 0 _law_field, 1 _law_cup_here, 2 _law_loose_here, 3 e -/
def td__law_told : TSd :=
  dTry LC_ (dRet (dCallK sp_offers 2 1 [0, 1, 2] (dCons (dVar 0) (dCons (dVar 1) (dNil))) (dCons (dVar 2) (dNil)))) [(some 3, "BadLoose", fun a dd => dRet (dTup (dCons (dC (.str "loose")) (dCons (dWhat 3 a dd) (dNil))))), (some 3, "Unlike", fun a dd => dRet (dTup (dCons (dC (.str "unlike")) (dCons (dWhat 3 a dd) (dNil))))), (some 3, "Refused", fun a dd => dRet (dTup (dCons (dC (.str "another error")) (dCons (dWhat 3 a dd) (dNil)))))]

abbrev N__law_told : List Str := ["_law_field", "_law_cup_here", "_law_loose_here", "e"]

/- slots: 0 _law_script, 1 _law_turn, 2 _law_source, 3 _law_figures_here, 4 _law_cup_here, 5 _law_field, 6 _law_n, 7 _law_time, 8 _law_loose_here, 9 _law_may_here, 10 _law_every, 11 _law_r, 12 _law_spoilt -/
def td_law : TSd :=
  dSeq (dFor (dRange1 (dCons (dC (.int 3)) (dNil))) (dgName 1) (dSeq (dSetF 2 (dCallF sp__law_pool (dCons (dVar 0) (dCons (dVar 1) (dNil)))))
  (dSeq (dAsg (dCall sp__law_world (dConsC 2 (dNil))) (dgTup 2 (dgsCons (dgName 3) (dgsCons (dgName 4) (dgsNil)))))
  (dSeq (dPar 5 6 (dCons (dCall sp_made_field (dCons (dOp rIxD (dVar 3) (dC (.int 0))) (dCons (dOp rIxD (dVar 3) (dC (.int 1))) (dNil)))) (dCons (dCB rLenD (dCons (dVar 4) (dNil))) (dNil))))
  (dFor (dRange1 (dCons (dOp rSubD (dC (.int 3)) (dOp rMultD (dC (.int 2)) (dCB rIntD (dCons (dOp rEqD' (dVar 6) (dC (.int 32))) (dNil))))) (dNil))) (dgName 7) (dSeq (dSet 8 (dCall sp__law_loose (dConsC 2 (dCons (dVar 4) (dNil)))))
  (dSeq (dSet 9 (dCall sp__law_offered (dCons (dVar 3) (dCons (dVar 4) (dCons (dVar 8) (dNil))))))
  (dSeq (dIfS (dT (dOp rNeD' (dCall sp__law_told (dCons (dVar 5) (dCons (dVar 4) (dCons (dVar 8) (dNil))))) (dCB rTupD (dCons (dVar 9) (dNil))))) (dRet (dC (.bl false))) (dNext))
  (dSeq (dIfS (dT (dOp rNeD' (dCall sp_offers (dWith0 (dCons (dVar 5) (dCons (dVar 4) (dNil))))) (dCB rTupD (dCons (dCall sp__law_offered (dCons (dVar 3) (dCons (dVar 4) (dCons (dTup (dNil)) (dNil))))) (dNil))))) (dRet (dC (.bl false))) (dNext))
  (dSeq (dSet 10 (dCB rTupD (dCons (dF (dLc (dRange2 (dCons (dC (.int 1)) (dCons (dOp rAddD (dVar 6) (dC (.int 1))) (dNil)))) (dgName 11) (dYes) (dVar 11) [11])) (dNil))))
  (dSeq (dIfS (dAnd (dT (dOp rLtD (dVar 6) (dC (.int 32)))) (dT (dOp rNeD' (dCall sp__law_told (dCons (dVar 5) (dCons (dVar 4) (dCons (dVar 10) (dNil))))) (dCB rTupD (dCons (dCall sp__law_offered (dCons (dVar 3) (dCons (dVar 4) (dCons (dVar 10) (dNil))))) (dNil)))))) (dRet (dC (.bl false))) (dNext))
  (dSeq (dSet 12 (dOp rAddD (dVar 8) (dTup (dCons (dCall sp__law_one (dConsC 2 (dCons (dOp rAddD (dTup (dCons (dC (.int 0)) (dCons (dUn rNegD (dC (.int 1))) (dNil)))) (dVar 8)) (dNil)))) (dNil)))))
  (dSeq (dIfS (dT (dOp rNeD' (dCall sp__law_told (dCons (dVar 5) (dCons (dVar 4) (dCons (dOp rAddD (dVar 12) (dTup (dCons (dC (.int 0)) (dNil)))) (dNil))))) (dTup (dCons (dC (.str "loose")) (dCons (dCB rLenD (dCons (dVar 8) (dNil))) (dNil)))))) (dRet (dC (.bl false))) (dNext))
  (dSeq (dIfS (dT (dOp rNeD' (dCall sp__law_told (dCons (dVar 5) (dCons (dOp rAddD (dVar 4) (dTup (dCons (dTup (dCons (dC (.int 0)) (dCons (dUn rNegD (dC (.int 1))) (dNil)))) (dNil)))) (dCons (dVar 12) (dNil))))) (dTup (dCons (dC (.str "unlike")) (dCons (dOp rAddD (dVar 6) (dC (.int 1))) (dNil)))))) (dRet (dC (.bl false))) (dNext))
  (dSeq (dIfS (dT (dOp rNeD' (dCall sp__law_told (dCons (dVar 5) (dCons (dSl (dVar 4) (dPart (dC (.int 1))) (dNoPart)) (dCons (dVar 12) (dNil))))) (dTup (dCons (dC (.str "unlike")) (dCons (dOp rSubD (dVar 6) (dC (.int 1))) (dNil)))))) (dRet (dC (.bl false))) (dNext))
  (dIfS (dTru (dVar 9)) (dSet 4 (dCall sp__law_changed (dCons (dVar 4) (dCons (dCall sp__law_one (dConsC 2 (dCons (dVar 9) (dNil)))) (dNil))))) (dNext)))))))))))))))))
  (dRet (dC (.bl true)))

abbrev N_law : List Str := ["_law_script", "_law_turn", "_law_source", "_law_figures_here", "_law_cup_here", "_law_field", "_law_n", "_law_time", "_law_loose_here", "_law_may_here", "_law_every", "_law_r", "_law_spoilt"]

theorem math_can_beat : ∀ xs M P PX, sp_can_beat xs M P PX → td_can_beat (startS N_can_beat xs M) (endE M.length P) (endX M.length PX) := mCanBeat
theorem math_check_form : ∀ xs M P PX, sp_check_form xs M P PX → td_check_form (startS N_check_form xs M) (endE M.length P) (endX M.length PX) := mForm
theorem math_check_no_gap : ∀ xs M P PX, sp_check_no_gap xs M P PX → td_check_no_gap (startS N_check_no_gap xs M) (endE M.length P) (endX M.length PX) := mGap
theorem math_check_games : ∀ xs M P PX, sp_check_games xs M P PX → td_check_games (startS N_check_games xs M) (endE M.length P) (endX M.length PX) := mGamesC
theorem math_made_cup : ∀ xs M P PX, sp_made_cup xs M P PX → td_made_cup (startS N_made_cup xs M) (endE M.length P) (endX M.length PX) := mMadeCup
theorem math_comes_through : ∀ xs M P PX, sp_comes_through xs M P PX → td_comes_through (startS N_comes_through xs M) (endE M.length P) (endX M.length PX) := mThru
theorem math_made_field : ∀ xs M P PX, sp_made_field xs M P PX → td_made_field (startS N_made_field xs M) (endE M.length P) (endX M.length PX) := mMade
theorem math__law_pool : ∀ xs P, sp__law_pool xs [] P → td__law_pool (startS N__law_pool xs []) (fun ds _ => P ds) noX := mPool
theorem math__law_take : ∀ xs M P PX, sp__law_take xs M P PX → td__law_take (startS N__law_take xs M) (endE M.length P) (endX M.length PX) := mTake
theorem math__law_one : ∀ xs M P PX, sp__law_one xs M P PX → td__law_one (startS N__law_one xs M) (endE M.length P) (endX M.length PX) := mOne
theorem math__law_shuffled : ∀ xs M P PX, sp__law_shuffled xs M P PX → td__law_shuffled (startS N__law_shuffled xs M) (endE M.length P) (endX M.length PX) := mShuf
theorem math__law_figures : ∀ xs M P PX, sp__law_figures xs M P PX → td__law_figures (startS N__law_figures xs M) (endE M.length P) (endX M.length PX) := mFigures
theorem math__law_may : ∀ xs M P PX, sp__law_may xs M P PX → td__law_may (startS N__law_may xs M) (endE M.length P) (endX M.length PX) := mMay
theorem math__law_stair : ∀ xs M P PX, sp__law_stair xs M P PX → td__law_stair (startS N__law_stair xs M) (endE M.length P) (endX M.length PX) := mStairC
theorem math__law_drawn_round : ∀ xs M P PX, sp__law_drawn_round xs M P PX → td__law_drawn_round (startS N__law_drawn_round xs M) (endE M.length P) (endX M.length PX) := mDrawn
theorem math__law_cup : ∀ xs M P PX, sp__law_cup xs M P PX → td__law_cup (startS N__law_cup xs M) (endE M.length P) (endX M.length PX) := mCupL
theorem math__law_rounds : ∀ xs M P PX, sp__law_rounds xs M P PX → td__law_rounds (startS N__law_rounds xs M) (endE M.length P) (endX M.length PX) := mRounds
theorem Cp.len {S G : List Int} {ps : List (Int × Int)} (h : Cp S G ps) : ps.length = S.length := h.c.len
theorem Cp.made {S G : List Int} {ps : List (Int × Int)} (h : Cp S G ps) {P : D → Mem → Prop} {PX : KXM} (k : P (pairsT ps) []) : spMadeCup [.dat (fldD S G), .dat (pairsT ps)] [] P PX := by
  have := h.n2
  have := h.len
  refine ⟨S, G, ps, rfl, rfl, h.n1, h.g, by omega, by omega, ?_⟩
  rw [h.c.err h.n1]
  exact k
theorem Cp.last {S G : List Int} {ps : List (Int × Int)} (h : Cp S G ps) {P : D → Mem → Prop} {PX : KXM} (k : P (.int (maxL (ps.map (·.1)))) []) : spLastR [.dat (pairsT ps)] [] P PX := by
  have := h.n2
  have := h.len
  exact ⟨ps, rfl, rfl, h.c.ne h.n1, by omega, k⟩
theorem Cp.next {S G : List Int} {ps : List (Int × Int)} (h : Cp S G ps) {x : Int} (x0 : 0 ≤ x) (x1 : x < S.length) : ((cg ps x) = (0, -1)) ∨ (1 ≤ (cg ps x).1 ∧ 0 ≤ (cg ps x).2 ∧ (cg ps x).2 < S.length ∧ ((cg ps (cg ps x).2) = (0, -1) ∨ (cg ps x).1 < (cg ps (cg ps x).2).1)) := by
  rcases h.c.form x x0 x1 with c | ⟨a, b, c, d, e⟩
  · exact .inl c
  · exact .inr ⟨a, b, c, e⟩
theorem inD_ints (x : Int) (l : List Int) : inD (.int x) (l.map .int) = decide (x ∈ l) := by
  unfold inD
  induction l with
  | nil => rfl
  | cons y l ih =>
    rw [List.map_cons, List.any_cons, ih, eqD_int]
    by_cases h : y = x
    · simp [h]
    · have : ¬ x = y := fun z => h z.symm
      simp [h, this]
theorem okT (c : Str) (x : Int) (h : PyData.strOk c = true) : okD (.tup [.str c, .int x]) = true := by
  have : OkN 1 (.tup [.str c, .int x]) := OkN.tup fun d hd => by
    simp only [List.mem_cons, List.not_mem_nil, or_false] at hd
    rcases hd with rfl | rfl
    · exact OkN.str _ h
    · exact OkN.int _ _
  exact this.ok
theorem badF_none {ss gs : List Int} (h1 : 1 ≤ ss.length) (h2 : ss.length ≤ 32) (e : gs.length = ss.length) (hs : ∀ v ∈ ss, 0 ≤ v ∧ v ≤ 100) (hg : ∀ v ∈ gs, -1 ≤ v ∧ v ≤ 100) : badF ss gs = none := by
  have key : ∀ (l : List Int) (k : Nat), (∀ v ∈ l, -1 ≤ v ∧ v ≤ 100) → firstOutK k l = none := by
    intro l
    induction l with
    | nil => intro _ _; rfl
    | cons v l ih =>
      intro k h
      have hv := h v List.mem_cons_self
      unfold firstOutK outI
      have c1 : (-1000000000 : Int) ≤ v := by omega
      have c2 : v ≤ (1000000000 : Int) := by omega
      simp [c1, c2]
      exact ih _ fun u hu => h u (List.mem_cons_of_mem _ hu)
  unfold badF firstOut
  rw [if_neg (by omega), key ss 0 (fun v hv => by have := hs v hv; omega)]
  simp [e, key gs 0 hg]
theorem ps_range (ps : List (Int × Int)) : ps = (rangeI ps.length).map (cg ps) := by
  apply List.ext_getElem?
  intro i
  unfold rangeI
  rw [List.map_map, List.getElem?_map]
  by_cases h : i < ps.length
  · rw [List.getElem?_range h, List.getElem?_eq_getElem h]
    show _ = some (cg ps i)
    rw [cg_get (List.getElem?_eq_getElem h)]
  · rw [List.getElem?_eq_none (by omega), List.getElem?_eq_none (by simpa using h)]; rfl
theorem zip_range (ps : List (Int × Int)) : ps.zipIdx = (rangeI ps.length).map fun x => (cg ps x, x.toNat) := by
  apply List.ext_getElem?
  intro i
  unfold rangeI
  rw [List.map_map, List.getElem?_map, List.getElem?_zipIdx]
  by_cases h : i < ps.length
  · rw [List.getElem?_range h, List.getElem?_eq_getElem h]
    show some (ps[i], 0 + i) = some (cg ps i, _)
    rw [cg_get (List.getElem?_eq_getElem h)]
    simp
  · rw [List.getElem?_eq_none (by omega), List.getElem?_eq_none (by simpa using h)]; rfl
theorem enum_range (ps : List (Int × Int)) : enumD (ps.map pairD) = (rangeI ps.length).map fun x => D.tup [.int x, pairD (cg ps x)] := by
  rw [enumP, zip_range, List.map_map]
  refine List.map_congr_left fun x hx => ?_
  have := rangeI_mem.mp hx
  show D.tup [.int (x.toNat : Int), _] = _
  rw [Int.toNat_of_nonneg this.1]
theorem outL_len (ps : List (Int × Int)) (r : Int) : (outL ps r).length ≤ ps.length := by
  have := List.length_filter_le (fun x => decide ((cg ps x).1 = r)) (rangeI ps.length)
  rw [rangeI_len] at this
  exact this
theorem outL_in {ps : List (Int × Int)} {r x : Int} (h : x ∈ outL ps r) : 0 ≤ x ∧ x < ps.length ∧ (cg ps x).1 = r := by
  obtain ⟨h1, h2⟩ := List.mem_filter.mp h
  have := rangeI_mem.mp h1
  exact ⟨this.1, by omega, by simpa using h2⟩
theorem math_rests : ∀ xs M P PX, sp_rests xs M P PX → td_rests (startS N_rests xs M) (endE M.length P) (endX M.length PX) := by
  rintro xs M P PX ⟨ps, x, r, rfl, rfl, x0, x1, hp⟩
  have z2 : 2 ≤ sizeLine := by decide
  unfold td_rests
  simp
  refine ⟨ps, x, r, rfl, rfl, x0, x1, ?_⟩
  cases e : thruB ps x r with
  | false => rw [e] at hp; simp at hp ⊢; exact hp
  | true =>
    rw [e] at hp
    simp [okD_pair, z2, inD_pair] at hp ⊢
    exact hp
theorem math__law_through : ∀ xs M P PX, sp__law_through xs M P PX → td__law_through (startS N__law_through xs M) (endE M.length P) (endX M.length PX) := by
  rintro xs M P PX ⟨ps, r, rfl, rfl, hl, hp⟩
  unfold td__law_through
  simp
  refine ⟨by constructor <;> omega, ?_⟩
  rw [show rangeD 0 ps.length = (rangeI ps.length).map D.int from rangeD_I _]
  refine lc_some D.int (fun x => if thruB ps x r = true then some (.int x) else none) (rangeI ps.length) rfl (by rw [rangeI_len]; exact le_sl (by omega)) (fun x hx K hK => ?_) ?_
  · have hx2 := rangeI_mem.mp hx
    unfold thruB at hK
    by_cases c : (cg ps x).1 = 0
    · simp [cg_at hx2.1 hx2.2, c] at hK ⊢; exact hK
    · by_cases c2 : r < (cg ps x).1
      · simp [cg_at hx2.1 hx2.2, c, c2] at hK ⊢; exact hK
      · simp [cg_at hx2.1 hx2.2, c, c2] at hK ⊢; exact hK
  · rw [filterMap_if]
    exact hp
theorem math__law_out : ∀ xs M P PX, sp__law_out xs M P PX → td__law_out (startS N__law_out xs M) (endE M.length P) (endX M.length PX) := by
  rintro xs M P PX ⟨ps, r, rfl, rfl, hl, hp⟩
  unfold td__law_out
  simp
  refine ⟨by constructor <;> omega, ?_⟩
  rw [show rangeD 0 ps.length = (rangeI ps.length).map D.int from rangeD_I _]
  refine lc_some D.int (fun x => if decide ((cg ps x).1 = r) = true then some (.int x) else none) (rangeI ps.length) rfl (by rw [rangeI_len]; exact le_sl (by omega)) (fun x hx K hK => ?_) ?_
  · have := rangeI_mem.mp hx
    simp [cg_at this.1 this.2]
    by_cases e : (cg ps x).1 = r <;> simp [e] at hK ⊢ <;> exact hK
  · rw [filterMap_if]
    exact hp
theorem math__law_resting : ∀ xs M P PX, sp__law_resting xs M P PX → td__law_resting (startS N__law_resting xs M) (endE M.length P) (endX M.length PX) := by
  rintro xs M P PX ⟨ps, r, rfl, rfl, hl, hp⟩
  unfold td__law_resting
  refine dSeq_k fun K hK => ?_
  simp
  refine ⟨ps, r, rfl, rfl, hl, _, rfl, ?_⟩
  refine lc_each D.int (fun x => .int (cg ps x).2) (outL ps r) rfl (by have := outL_len ps r; exact le_sl (by omega)) (fun x hx K hK => ?_) ?_
  · have hx2 := outL_in hx
    simp [cg_at hx2.1 hx2.2.1]
    exact hK
  · refine hK _ ?_
    clear hK K
    have eb : (outL ps r).map (fun x => D.int (cg ps x).2) = ((outL ps r).map fun x => (cg ps x).2).map D.int := by rw [List.map_map]; rfl
    rw [eb]
    have hbusy : ∀ y, y ∈ ((outL ps r).map fun x => (cg ps x).2) ↔ (r, y) ∈ ps := fun y => by
      constructor
      · intro h
        obtain ⟨x, hx, e⟩ := List.mem_map.mp h
        have hx2 := outL_in hx
        have := cg_mem hx2.1 hx2.2.1
        have e2 : cg ps x = (r, y) := by rw [← e, ← hx2.2.2]
        rw [e2] at this
        exact this
      · intro h
        obtain ⟨i, hi⟩ := List.getElem?_of_mem h
        have hl := (List.getElem?_eq_some_iff.mp hi).1
        refine List.mem_map.mpr ⟨i, List.mem_filter.mpr ⟨rangeI_mem.mpr ⟨by omega, by omega⟩, ?_⟩, ?_⟩
        · rw [cg_get hi]; simp
        · rw [cg_get hi]
    generalize ((outL ps r).map fun x => (cg ps x).2) = B at hbusy
    simp
    refine ⟨ps, r, rfl, rfl, hl, _, rfl, ?_⟩
    refine lc_some D.int (fun y => if decide ((r, y) ∉ ps) = true then some (.int y) else none) (thruL ps r) rfl (by have := List.length_filter_le (fun x => thruB ps x r) (rangeI ps.length); rw [rangeI_len] at this; unfold thruL; exact le_sl (by omega)) (fun y hy K hK => ?_) ?_
    · have e2 : inD (.int y) (B.map .int) = decide (y ∈ B) := inD_ints y _
      simp [okD_intsL]
      have e4 : decide (y ∈ B) = decide ((r, y) ∈ ps) := decide_eq_decide.mpr (hbusy y)
      rw [e2, e4]
      by_cases c : (r, y) ∈ ps <;> simp [c] at hK ⊢ <;> exact hK
    · rw [filterMap_if]
      unfold thruL
      rw [List.filter_filter]
      have e3 : ((rangeI ps.length).filter fun a => decide ((r, a) ∉ ps) && thruB ps a r) = restL ps r := by
        unfold restL
        congr 1
        funext a
        exact Bool.and_comm _ _
      rw [e3]
      exact hp
theorem restL_len (ps : List (Int × Int)) (r : Int) : (restL ps r).length ≤ ps.length := by
  have := List.length_filter_le (fun x => thruB ps x r && decide ((r, x) ∉ ps)) (rangeI ps.length)
  rw [rangeI_len] at this
  exact this
theorem flatI (l : List Int) : (l.map D.int).all flatD = true := by
  induction l with
  | nil => rfl
  | cons x l ih => simp
theorem sh_ex : eqD (.str "exchange") (.str "shift") = false := by decide +kernel
theorem sh_sh : eqD (.str "shift") (.str "shift") = true := by decide +kernel
theorem ex_ex : eqD (.str "exchange") (.str "exchange") = true := by decide +kernel
theorem ok_sh : okD (.str "shift") = true := by decide +kernel
theorem ok_ex : okD (.str "exchange") = true := by decide +kernel
theorem at2 (a b c : D) : atI [a, b, c] 2 = some c := rfl
theorem math_check_loose : ∀ xs M P PX, sp_check_loose xs M P PX → td_check_loose (startS N_check_loose xs M) (endE M.length P) (endX M.length PX) := by
  rintro xs M P PX ⟨l, L, rfl, rfl, hlo, hl, hp⟩
  have hs : seqC l = some (L.map .int) := by rcases hlo with rfl | rfl <;> rfl
  unfold td_check_loose
  refine dSeq_k fun K hK => ?_
  simp
  refine hK _ ?_
  clear hK K
  simp
  refine ⟨_, hs, ?_⟩
  have en : enumD (L.map D.int) = L.zipIdx.map fun p => D.tup [.int (p.2 : Nat), .int p.1] := by
    have zi : ∀ (r : List Int) k, (r.map D.int).zipIdx k = (r.zipIdx k).map fun p => (D.int p.1, p.2) := by
      intro r
      induction r with
      | nil => intro k; rfl
      | cons x r ih => intro k; simp [List.zipIdx_cons, ih]
    unfold enumD
    rw [zi, List.map_map]
    rfl
  rw [en]
  refine loop_rec (fun p : Int × Nat => D.tup [.int (p.2 : Nat), .int p.1]) (fun xs s => ∃ (k : Nat) (r : List Int) (last : Int) (x2 x3 : Sl), xs = r.zipIdx k ∧ looseBad k last r = looseBad 0 0 L ∧ s = ⟨[.dat l, .dat (.int last), x2, x3], []⟩) ?_ ?_ L.zipIdx _ rfl ⟨0, L, 0, _, _, rfl, rfl, rfl⟩
  · rintro x xs s K2 ⟨k, r, last, x2, x3, hx, hb, rfl⟩ hK2
    cases r with
    | nil => simp at hx
    | cons m r =>
      rw [List.zipIdx_cons] at hx
      obtain ⟨rfl, rfl⟩ := List.cons.inj hx
      rw [looseBad] at hb
      by_cases c : m ≤ last
      · rw [if_pos c] at hb
        rw [← hb] at hp
        simp [c]
        exact hp
      · rw [if_neg c] at hb
        simp [c]
        exact hK2 _ ⟨k + 1, r, m, _, _, rfl, hb, rfl⟩
  · rintro s ⟨k, r, last, x2, x3, hx, hb, rfl⟩
    have : r = [] := by cases r with
      | nil => rfl
      | cons => simp [List.zipIdx_cons] at hx
    subst this
    rw [← hb] at hp
    simpa [looseBad] using hp
theorem Cp.cgF {S G : List Int} {ps : List (Int × Int)} (h : Cp S G ps) {x : Int} (x0 : 0 ≤ x) (x1 : x < S.length) (hr : 0 < (cg ps x).1) : 0 ≤ (cg ps x).2 ∧ (cg ps x).2 < S.length := by
  rcases h.c.form x x0 x1 with c | ⟨_, b, c, _, _⟩
  · rw [c] at hr; exact absurd hr (by decide)
  · exact ⟨b, c⟩
theorem sides_iff {n : Int} {q : Dd} : q.sides n = true ↔ (0 ≤ q.x ∧ q.x < n) ∧ (0 ≤ q.y ∧ q.y < n) := by
  unfold Dd.sides
  simp
theorem math_is_let : ∀ xs M P PX, sp_is_let xs M P PX → td_is_let (startS N_is_let xs M) (endE M.length P) (endX M.length PX) := by
  rintro xs M P PX ⟨S, G, ps, q, l, L, rfl, rfl, hc, hl, hq, hp⟩
  obtain ⟨e, x, y⟩ := q
  obtain ⟨⟨x0, x1⟩, ⟨y0, y1⟩⟩ := sides_iff.mp hq
  simp only at x0 x1 y0 y1
  have hlen := hc.len
  have hg := hc.g
  unfold td_is_let
  refine dSeq_k fun K hK => ?_
  simp [Dd.d]
  refine hK _ ?_
  clear hK K
  refine dSeq_k fun K hK => ?_
  simp [cg_at x0 (show x < (ps.length : Int) by omega)]
  refine hK _ ?_
  clear hK K
  refine dSeq_k fun K hK => ?_
  cases e with
  | false =>
    unfold letB at hp
    simp only [Bool.false_eq_true, if_false] at hp
    have hin : inD (.int (cg ps x).1) (L.map .int) = decide ((cg ps x).1 ∈ L) := inD_ints _ _
    have key : (if inD (.int (cg ps x).1) (L.map .int) = true then
        sp_rests [.dat (pairsT ps), .dat (.int y), .dat (.int (cg ps x).1)] []
          (fun d _ => d = D.bl false ∧ P (D.bl false) [] ∨ d = D.bl true ∧ sp_can_beat [.dat (fldD S G), .dat (.int y), .dat (.int x)] [] (fun d _ => P d []) fun c x _ => PX c x [])
          fun c x _ => PX c x []
      else P (D.bl false) []) := by
      rw [hin]
      by_cases c : (cg ps x).1 ∈ L
      · simp [c] at hp ⊢
        refine ⟨ps, y, (cg ps x).1, rfl, rfl, y0, by omega, ?_⟩
        cases e2 : (thruB ps y (cg ps x).1 && decide (((cg ps x).1, y) ∉ ps)) with
        | false =>
          left
          refine ⟨rfl, ?_⟩
          have e3 : (thruB ps y (cg ps x).1 && !decide (((cg ps x).1, y) ∈ ps)) = false := by rw [← e2]; simp
          rw [e3] at hp
          simpa using hp
        | true =>
          right
          refine ⟨rfl, S, G, y, x, rfl, rfl, y0, y1, x0, by omega, ?_⟩
          have e3 : (thruB ps y (cg ps x).1 && !decide (((cg ps x).1, y) ∈ ps)) = true := by rw [← e2]; simp
          rw [e3] at hp
          simpa using hp
      · simp [c] at hp ⊢
        exact hp
    have fl : ∀ z ∈ L.map D.int, flatD z = true := fun z hz => by
      obtain ⟨v, _, rfl⟩ := List.mem_map.mp hz
      rfl
    rcases hl with rfl | rfl
    · simp [ok_sh, sh_sh]
      first | exact key | exact ⟨fl, key⟩
    · simp [ok_sh, sh_sh]
      first | exact key | exact ⟨fl, key⟩
  | true =>
    unfold letB at hp
    simp only [if_true] at hp
    simp [ok_sh, ok_ex, sh_ex]
    refine hK _ ?_
    clear hK K
    refine dSeq_k fun K hK => ?_
    simp [cg_at y0 (show y < (ps.length : Int) by omega)]
    refine hK _ ?_
    clear hK K
    simp
    by_cases c1 : 0 < (cg ps x).1
    case neg => simp [c1] at hp ⊢; exact hp
    have bx := hc.cgF x0 x1 c1
    by_cases c2 : (cg ps y).1 = (cg ps x).1
    case neg => simp [c1, c2] at hp ⊢; exact hp
    have by' := hc.cgF y0 y1 (by omega)
    simp [c1, c2] at hp ⊢
    refine ⟨S, G, (cg ps y).2, x, rfl, rfl, by'.1, by'.2, x0, by omega, ?_⟩
    cases e2 : mayB S G (cg ps y).2 x with
    | false => left; rw [e2] at hp; simp at hp; exact ⟨rfl, hp⟩
    | true =>
      right
      rw [e2] at hp
      simp at hp
      exact ⟨rfl, S, G, (cg ps x).2, y, rfl, rfl, bx.1, bx.2, y0, by omega, hp⟩
theorem newP_len (ps : List (Int × Int)) (q : Dd) : (newP ps q).length = ps.length := by
  unfold newP
  split <;> simp
theorem pairs_set (ps : List (Int × Int)) (i : Nat) (p : Int × Int) : (ps.map pairD).set i (pairD p) = (ps.set i p).map pairD := by
  rw [List.map_set]
theorem CupOr.made {S G : List Int} {ps : List (Int × Int)} (h : CupOr S G ps) {P : D → Mem → Prop} {PX : KXM} (k : Cp S G ps → P (pairsT ps) []) (hx : ps.length ≠ S.length → PX "Unlike" (.int ps.length) []) : spMadeCup [.dat (fldD S G), .dat (pairsT ps)] [] P PX := by
  obtain ⟨h1, h2, h3, h4, h5⟩ := h
  by_cases c : ps.length = S.length
  · exact Cp.made ⟨h1 c, h2, h3, h4⟩ (k ⟨h1 c, h2, h3, h4⟩)
  · refine ⟨S, G, ps, rfl, rfl, h2, h4, by omega, h5, ?_⟩
    unfold cupErr orE
    rw [if_neg c]
    exact hx c
theorem Cp.mx {S G : List Int} {ps : List (Int × Int)} (h : Cp S G ps) : 0 ≤ mx ps ∧ mx ps < S.length := h.c.max h.n1
theorem looseBad_snoc {v : Int} : ∀ {k : Nat} {last : Int} {L : List Int}, looseBad k last L = none → last < v → (∀ u ∈ L, u < v) → looseBad k last (L ++ [v]) = none
  | k, last, [], _, h, _ => by
    show looseBad k last [v] = none
    rw [looseBad, if_neg (by omega), looseBad]
  | k, last, r :: L, h, hv, hu => by
    rw [looseBad] at h
    by_cases c : r ≤ last
    · rw [if_pos c] at h; cases h
    · rw [if_neg c] at h
      show looseBad k last (r :: (L ++ [v])) = none
      rw [looseBad, if_neg c]
      exact looseBad_snoc h (hu r List.mem_cons_self) fun u hm => hu u (List.mem_cons_of_mem _ hm)
theorem math__law_loose : ∀ xs M P PX, sp__law_loose xs M P PX → td__law_loose (startS N__law_loose xs M) (endE M.length P) (endX M.length PX) := by
  rintro xs M P PX ⟨S, G, ps, a, b, rfl, rfl, hg, hc, hp⟩
  have hmx := hc.mx
  have h2 := hc.n2
  have hlen := hc.len
  unfold td__law_loose
  simp
  refine ⟨ps, rfl, rfl, hc.c.ne hc.n1, by omega, ?_⟩
  simp
  refine ⟨by constructor <;> omega, by constructor <;> (show _ ; have : maxL (ps.map (·.1)) = mx ps := rfl; omega), ?_⟩
  refine lc_inv _ (fun i acc M => ∃ (L : List Int) (a b : Int), acc = L.map D.int ∧ L.length ≤ i ∧ (∀ v ∈ L, v < 1 + (i : Nat)) ∧ looseBad 0 0 L = none ∧ Good a b ∧ M = [src a b]) ?_ ?_ [] _ ?_ ⟨[], a, b, rfl, by simp, (fun _ h => nomatch h), rfl, hg, rfl⟩
  · rintro i d acc M K hd ⟨L, a, b, rfl, h1, h2, h3, hg, rfl⟩ hK1 hK2
    obtain ⟨hi, rfl⟩ := rangeD_get hd
    simp
    refine useTake rfl hg (by decide) (by decide) fun v a b v0 v1 hg => ?_
    simp
    by_cases c : v = 0
    · simp [c]
      refine hK1 _ _ ⟨L ++ [(1 : Int) + ((i : Nat) : Int)], a, b, by simp, by simp; omega, fun u hu => ?_, looseBad_snoc h3 (by omega) h2, hg, rfl⟩ ?_
      · rcases List.mem_append.mp hu with hu | hu
        · have := h2 u hu; omega
        · rw [List.mem_singleton.mp hu]; omega
      · rw [List.length_map]; exact lt_sl (by have : maxL (ps.map (·.1)) = mx ps := rfl; omega)
    · simp [c]
      exact hK2 _ ⟨L, a, b, rfl, by omega, fun u hu => by have := h2 u hu; omega, h3, hg, rfl⟩
  · rintro acc M ⟨L, a, b, rfl, h1, h2, h3, hg, rfl⟩
    rw [length_rangeD] at h1
    simp
    have hL : L.length ≤ 200 := by have : maxL (ps.map (·.1)) = mx ps := rfl; omega
    simpa using hp L a b h3 hL hg
  · rw [length_rangeD]
    exact le_sl (by have : maxL (ps.map (·.1)) = mx ps := rfl; simp; omega)
theorem math__law_changed : ∀ xs M P PX, sp__law_changed xs M P PX → td__law_changed (startS N__law_changed xs M) (endE M.length P) (endX M.length PX) := by
  rintro xs M P PX ⟨ps, q, rfl, rfl, hl, hq, hp⟩
  obtain ⟨e, x, y⟩ := q
  obtain ⟨⟨x0, x1⟩, ⟨y0, y1⟩⟩ := sides_iff.mp hq
  simp only at x0 x1 y0 y1
  have z2 : 2 ≤ sizeLine := by decide
  have hp2 := newP_len ps ⟨e, x, y⟩
  unfold td__law_changed
  refine dSeq_k fun K hK => ?_
  simp
  refine lc_each pairD pairD ps rfl (le_sl (by omega)) (fun p _ K hK => by simpa using hK) ?_
  simp [Dd.d, at2]
  refine hK _ ?_
  clear hK K
  refine dSeq_mid (fun s => ∃ x1 x3 x4 x5, s = ⟨[.dat (pairsT ps), x1, .cell 0, x3, x4, x5], [some (.lst ((newP ps ⟨e, x, y⟩).map pairD))]⟩) (fun K hK => ?_) ?_
  · cases e with
    | false =>
      simp [ok_sh, sh_sh, z2, cg_at x0 x1]
      refine ⟨x.toNat, ixN_pos x0 x1, hK _ ⟨.dat (.tup [.str "shift", .int x, .int y]), .dat (.int x), .dat (.int y), .no, ?_⟩⟩
      simp [newP]
    | true =>
      simp [ok_sh, ok_ex, sh_ex, z2, cg_at x0 x1, cg_at y0 y1]
      refine ⟨x.toNat, ixN_pos x0 x1, y.toNat, ixN_pos y0 y1, hK _ ⟨.dat (.tup [.str "exchange", .int x, .int y]), .dat (.int x), .dat (.int y), .no, ?_⟩⟩
      simp [newP]
  · rintro s ⟨x1, x3, x4, x5, rfl⟩
    simp
    exact hp
theorem math__law_world : ∀ xs M P PX, sp__law_world xs M P PX → td__law_world (startS N__law_world xs M) (endE M.length P) (endX M.length PX) := by
  rintro xs M P PX ⟨a, b, rfl, rfl, hg, hp⟩
  have z2 : 2 ≤ sizeLine := by decide
  have z10 : 10 ≤ sizeLine := by decide
  unfold td__law_world
  refine dSeq_mid (fun s => ∃ a b, Good a b ∧ s = ⟨[.cell 0, .no, .no], [src a b]⟩) (fun K hK => ?_) ?_
  · simp
    refine useTake rfl hg (by decide) (by decide) fun v a b v0 v1 hg => ⟨_, rfl, ?_⟩
    simp
    by_cases c : v = 0
    · simp [c]
      refine useTake rfl hg (by decide) (by decide) fun m a b m0 m1 hg => ⟨_, rfl, ?_⟩
      simp
      refine useTake rfl hg (by decide) (by decide) fun k a b k0 k1 hg => ⟨_, rfl, ?_⟩
      simp
      refine ⟨1 + m, 1 + k, a, b, rfl, rfl, hg, by omega, by omega, by omega, by omega, fun S G ps a b hc hw hg => ⟨_, rfl, ?_⟩⟩
      simpa using hp S G ps a b hc hw hg
    · simp [c]
      exact hK _ ⟨a, b, hg, rfl⟩
  rintro s ⟨a, b, hg, rfl⟩
  refine dSeq_mid (fun s => ∃ n a b, 1 ≤ n ∧ n ≤ 8 ∧ Good a b ∧ s = ⟨[.cell 0, .dat (.int n), .no], [src a b]⟩) (fun K hK => ?_) ?_
  · simp [z10]
    refine useOne rfl rfl hg (by simp) (by simp) fun d a b hd hg => ⟨_, rfl, ?_⟩
    have key : ∃ n : Int, d = .int n ∧ 1 ≤ n ∧ n ≤ 8 := by
      simp at hd
      rcases hd with rfl | rfl | rfl | rfl | rfl | rfl | rfl | rfl <;> exact ⟨_, rfl, by decide, by decide⟩
    obtain ⟨n, rfl, n1, n2⟩ := key
    exact hK _ ⟨n, a, b, n1, n2, hg, rfl⟩
  rintro s ⟨n, a, b, n1, n2, hg, rfl⟩
  refine dSeq_mid (fun s => ∃ n a b, 1 ≤ n ∧ n ≤ 32 ∧ Good a b ∧ s = ⟨[.cell 0, .dat (.int n), .no], [src a b]⟩) (fun K hK => ?_) ?_
  · simp
    refine useTake rfl hg (by decide) (by decide) fun v a b v0 v1 hg => ⟨_, rfl, ?_⟩
    simp
    by_cases c : v = 0
    · simp [c]
      exact hK _ ⟨32, a, b, by decide, by decide, hg, rfl⟩
    · simp [c]
      exact hK _ ⟨n, a, b, n1, by omega, hg, rfl⟩
  rintro s ⟨n, a, b, n1, n2, hg, rfl⟩
  refine dSeq_k fun K hK => ?_
  simp
  refine ⟨n, a, b, rfl, rfl, hg, n1, n2, fun S G a b hS hG hs hgv hg => ⟨_, rfl, hK _ ?_⟩⟩
  clear hK K
  simp
  refine ⟨S, G, a, b, rfl, rfl, hg, by omega, by omega, by omega, fun ps a b hcp hg => ⟨_, rfl, z2, ?_⟩⟩
  simpa using hp S G ps a b ⟨hcp, by omega, by omega, by omega⟩ ⟨by omega, hs, hgv⟩ hg
theorem one_Cp {S G : List Int} {ps : List (Int × Int)} {m : Int} (hl : ps.length = S.length) (hg : G.length = S.length) (n2 : 2 ≤ S.length) (n3 : S.length ≤ 100) (m0 : 0 ≤ m)
    (h : ∀ x : Int, 0 ≤ x → x < S.length → cg ps x = (0, -1) ∨ (x < m ∧ (cg ps x).1 = 1 ∧ m ≤ (cg ps x).2 ∧ (cg ps x).2 < S.length ∧ atG G x ≤ atG S (cg ps x).2))
    (one : ∀ x z : Int, 0 ≤ x → x < S.length → 0 ≤ z → z < S.length → cg ps x = cg ps z → 1 ≤ (cg ps x).1 → x = z) : Cp S G ps where
  n1 := by omega
  n2 := n3
  g := hg
  c := {
    len := hl
    form := fun x x0 x1 => by
      rcases h x x0 x1 with c | ⟨a, b, c, d, e⟩
      · exact .inl c
      · refine .inr ⟨by omega, by omega, d, ?_, .inl ?_⟩
        · unfold mayB
          simp [e]
          omega
        · rcases h (cg ps x).2 (by omega) d with c2 | ⟨a2, _⟩
          · exact c2
          · omega
    one := one
    gap := fun x r x0 x1 r1 r2 => by
      rcases h x x0 x1 with c | ⟨a, b, c, d, e⟩
      · rw [c] at r2; have r2 : r ≤ 0 := r2; omega
      · exact ⟨x, x0, x1, by omega⟩
    top := fun x x0 x1 => by
      rcases h x x0 x1 with c | ⟨a, b, c, d, e⟩
      · rw [c]; show (0 : Int) < _; omega
      · omega }
theorem cg_rep (n : Nat) (x : Int) : cg (List.replicate n ((0 : Int), (-1 : Int))) x = (0, -1) := by
  unfold cg
  rw [List.getD_eq_getElem?_getD, List.getElem?_replicate]
  split <;> rfl
theorem math__law_low : ∀ xs M P PX, sp__law_low xs M P PX → td__law_low (startS N__law_low xs M) (endE M.length P) (endX M.length PX) := by
  rintro xs M P PX ⟨m, k, a, b, rfl, rfl, hg, m1, m2, k1, k2, hp⟩
  have z1 : 1 ≤ sizeLine := by decide
  have z2 : 2 ≤ sizeLine := by decide
  have z8 : 8 ≤ sizeLine := by decide
  unfold td__law_low
  refine dSeq_mid (fun s => ∃ (S : List Int) (a b : Int), (S.length : Int) = m + k ∧ (∀ v ∈ S, 0 ≤ v ∧ v ≤ 100) ∧ Good a b ∧ s = ⟨[.cell 0, .dat (.int m), .dat (.int k), .dat (tupI S), .no, .no, .no, .no, .no, .no], [src a b]⟩) (fun K hK => ?_) ?_
  · simp
    refine ⟨z1, ⟨by omega, by omega, by omega⟩, by constructor <;> omega, ?_⟩
    refine lc_draws (fun a b => [src a b]) (fun v => 0 ≤ v ∧ v < 4) _ (by simp; omega) hg (fun a b hg d hd K2 hK2 => ?_) (fun L a b hL hv hg => ?_)
    · simp
      exact useTake rfl hg (by decide) (by decide) fun v a b v0 v1 hg => ⟨_, rfl, hK2 v a b ⟨v0, v1⟩ hg⟩
    · rw [length_rangeD] at hL
      simp
      refine ⟨le_sl (by omega), hK _ ⟨List.replicate m.toNat 0 ++ L, a, b, by simp; omega, fun v hv' => ?_, hg, by simp⟩⟩
      rcases List.mem_append.mp hv' with h | h
      · rw [List.eq_of_mem_replicate h]; decide
      · have := hv v h; omega
  rintro s ⟨S, a, b, hS, hs, hg, rfl⟩
  refine dSeq_mid (fun s => ∃ (G : List Int) (a b : Int), (G.length : Int) = m + k ∧ (∀ v ∈ G, -1 ≤ v ∧ v ≤ 100) ∧ Good a b ∧ s = ⟨[.cell 0, .dat (.int m), .dat (.int k), .dat (tupI S), .no, .dat (tupI G), .no, .no, .no, .no], [src a b]⟩) (fun K hK => ?_) ?_
  · simp
    refine ⟨by constructor <;> omega, ?_⟩
    refine lc_draws (fun a b => [src a b]) (fun v => 0 ≤ v ∧ v < 2) _ (by simp; omega) hg (fun a b hg d hd K2 hK2 => ?_) (fun L a b hL hv hg => ?_)
    · simp
      exact useTake rfl hg (by decide) (by decide) fun v a b v0 v1 hg => ⟨_, rfl, hK2 v a b ⟨v0, v1⟩ hg⟩
    · rw [length_rangeD] at hL
      simp
      refine ⟨z1, ⟨by omega, by omega, by omega⟩, le_sl (by omega), hK _ ⟨L ++ List.replicate k.toNat 9, a, b, by simp; omega, fun v hv' => ?_, hg, by simp⟩⟩
      rcases List.mem_append.mp hv' with h | h
      · have := hv v h; omega
      · rw [List.eq_of_mem_replicate h]; decide
  rintro s ⟨G, a, b, hG, hgv, hg, rfl⟩
  refine dSeq_mid (fun s => s = ⟨[.cell 0, .dat (.int m), .dat (.int k), .dat (tupI S), .no, .dat (tupI G), .no, .cell 1, .cell 2, .no], [src a b, some (.lst ((List.replicate S.length ((0 : Int), (-1 : Int))).map pairD)), some (.lst (((rangeI k.toNat).map (m + ·)).map .int))]⟩) (fun K hK => ?_) ?_
  · simp
    refine ⟨z2, z1, ⟨by omega, by omega, by omega⟩, by constructor <;> omega, by constructor <;> omega, ?_⟩
    have er : rangeD m (m + k - m).toNat = ((rangeI k.toNat).map (m + ·)).map D.int := by
      rw [show (m + k - m).toNat = k.toNat by omega]
      unfold rangeD rangeI
      rw [List.map_map, List.map_map]
      rfl
    rw [er]
    refine lc_each D.int D.int ((rangeI k.toNat).map (m + ·)) rfl (by rw [List.length_map, rangeI_len]; exact le_sl (by omega)) (fun x _ K hK => by simpa using hK) ?_
    refine hK _ ?_
    have es : (m + k).toNat = S.length := by omega
    rw [es]
    simp
  rintro s rfl
  refine dSeq_mid (fun s => ∃ (ps : List (Int × Int)) (a b : Int) (c8 : CC) (x4 x6 x9 : Sl), Cp S G ps ∧ Good a b ∧ s = ⟨[.cell 0, .dat (.int m), .dat (.int k), .dat (tupI S), x4, .dat (tupI G), x6, .cell 1, .cell 2, x9], [src a b, some (.lst (ps.map pairD)), some c8]⟩) (fun K hK => ?_) ?_
  · simp
    refine ⟨z2, by constructor <;> omega, ?_⟩
    rw [show rangeD 0 m.toNat = (rangeI m.toNat).map D.int from rangeD_I _]
    refine lc_each D.int D.int (rangeI m.toNat) rfl (by rw [rangeI_len]; exact le_sl (by omega)) (fun x _ K hK => by simpa using hK) ?_
    refine ⟨S, G, rangeI m.toNat, rfl, rfl, by rw [rangeI_len]; omega, fun x hx => by have := rangeI_mem.mp hx; omega, _, rfl, ?_⟩
    have hsp := stairOf_perm G (rangeI m.toNat)
    refine loop_rec D.int (fun rest s => ∃ (ps : List (Int × Int)) (seats : List Int) (a b : Int) (x4 x6 x9 : Sl), (∀ x ∈ rest, 0 ≤ x ∧ x < m) ∧ seats.Nodup ∧ (∀ y ∈ seats, m ≤ y ∧ y < S.length) ∧ ps.length = S.length ∧ seats.length ≤ 8 ∧
      (∀ x : Int, 0 ≤ x → x < S.length → cg ps x = (0, -1) ∨ (x < m ∧ (cg ps x).1 = 1 ∧ m ≤ (cg ps x).2 ∧ (cg ps x).2 < S.length ∧ atG G x ≤ atG S (cg ps x).2 ∧ (cg ps x).2 ∉ seats)) ∧
      (∀ x z : Int, 0 ≤ x → x < S.length → 0 ≤ z → z < S.length → cg ps x = cg ps z → 1 ≤ (cg ps x).1 → x = z) ∧ Good a b ∧ s = ⟨[.cell 0, .dat (.int m), .dat (.int k), .dat (tupI S), x4, .dat (tupI G), x6, .cell 1, .cell 2, x9], [src a b, some (.lst (ps.map pairD)), some (.lst (seats.map .int))]⟩) ?_ ?_ (stairOf G (rangeI m.toNat)) _ rfl ⟨List.replicate S.length (0, -1), (rangeI k.toNat).map (m + ·), a, b, .no, .no, .no, ?_, ?_, ?_, ?_, ?_, ?_, ?_, hg, ?_⟩
    · rintro x rest s K2 ⟨ps, seats, a, b, x4, x6, x9, hrest, sn, sm, hpl, sl, hform, hone, hg, rfl⟩ hK2
      have hx := hrest x List.mem_cons_self
      refine dSeq_mid (fun s => ∃ x4 : Sl, s = ⟨[.cell 0, .dat (.int m), .dat (.int k), .dat (tupI S), x4, .dat (tupI G), .dat (.int x), .cell 1, .cell 2, .dat (.lst ((seats.filter fun y => decide (atG G x ≤ atG S y)).map .int))], [src a b, some (.lst (ps.map pairD)), some (.lst (seats.map .int))]⟩) (fun K3 hK3 => ?_) ?_
      · simp
        refine lc_some D.int (fun y => if decide (atG G x ≤ atG S y) = true then some (.int y) else none) seats rfl (le_sl (by omega)) (fun y hy K hK => ?_) ?_
        · have hy2 := sm y hy
          simp [atG_at (show 0 ≤ y by omega) hy2.2, atG_at hx.1 (show x < (G.length : Int) by omega)]
          by_cases c : atG G x ≤ atG S y <;> simp [c] at hK ⊢ <;> exact hK
        · rw [filterMap_if]
          simp [noL_pairs]
          exact hK3 _ ⟨_, rfl⟩
      · rintro s ⟨x4, rfl⟩
        generalize hC : (seats.filter fun y => decide (atG G x ≤ atG S y)) = C
        cases C with
        | nil =>
          simp
          exact hK2 _ ⟨ps, seats, a, b, _, _, _, fun z hz => hrest z (List.mem_cons_of_mem _ hz), sn, sm, hpl, sl, hform, hone, hg, rfl⟩
        | cons c0 C0 =>
          simp
          refine useOne rfl rfl hg (by simp) (by
            have e := congrArg List.length hC
            have := List.length_filter_le (fun y => decide (atG G x ≤ atG S y)) seats
            simp at e ⊢
            omega) fun d a b hd hg => ⟨_, rfl, ?_⟩
          have hd' : ∃ y, y ∈ seats ∧ atG G x ≤ atG S y ∧ d = .int y := by
            have : d ∈ (c0 :: C0).map D.int := by simpa using hd
            rw [← hC] at this
            obtain ⟨y, hy, rfl⟩ := List.mem_map.mp this
            obtain ⟨h1, h2⟩ := List.mem_filter.mp hy
            exact ⟨y, h1, by simpa using h2, rfl⟩
          obtain ⟨y, hy, hmay, rfl⟩ := hd'
          have hy2 := sm y hy
          obtain ⟨j, j1, j2, j3, j4, j5⟩ := rem_at sn hy
          have x0 := hx.1
          have x1 : x < (ps.length : Int) := by omega
          refine ⟨seats, rfl, y, rfl, j, j1, j2, z2, x.toNat, ixN_pos x0 x1, hK2 _ ⟨ps.set x.toNat (1, y), seats.eraseIdx j, a, b, .dat (.int y), .dat (.int x), .dat (.lst (.int c0 :: C0.map .int)), fun z hz => hrest z (List.mem_cons_of_mem _ hz), j3, fun z hz => sm z ((j4 z).mp hz).1, by simp [hpl], by omega, fun z z0 z1 => ?_, fun u v u0 u1 v0 v1 he hu => ?_, hg, by simp⟩⟩
          · rw [cg_set x0 x1 z0]
            by_cases c : z = x
            · rw [if_pos c]
              subst c
              exact .inr ⟨hx.2, rfl, hy2.1, hy2.2, hmay, fun h => ((j4 y).mp h).2 rfl⟩
            · rw [if_neg c]
              rcases hform z z0 z1 with h | ⟨q1, q2, q3, q4, q5, q6⟩
              · exact .inl h
              · exact .inr ⟨q1, q2, q3, q4, q5, fun h => q6 ((j4 _).mp h).1⟩
          · rw [cg_set x0 x1 u0, cg_set x0 x1 v0] at he
            rw [cg_set x0 x1 u0] at hu
            have other : ∀ w : Int, 0 ≤ w → w < S.length → cg ps w = (1, y) → False := fun w w0 w1 h => by
              rcases hform w w0 w1 with h2 | ⟨q1, q2, q3, q4, q5, q6⟩
              · rw [h2] at h; cases h
              · rw [h] at q6; exact q6 hy
            by_cases c : u = x
            · by_cases c' : v = x
              · omega
              · rw [if_pos c, if_neg c'] at he
                exact (other v v0 v1 he.symm).elim
            · by_cases c' : v = x
              · rw [if_neg c, if_pos c'] at he
                exact (other u u0 u1 he).elim
              · rw [if_neg c, if_neg c'] at he
                rw [if_neg c] at hu
                exact hone u v u0 u1 v0 v1 he hu
    · rintro s ⟨ps, seats, a, b, x4, x6, x9, hrest, sn, sm, hpl, sl, hform, hone, hg, rfl⟩
      refine hK _ ⟨ps, a, b, _, _, _, _, one_Cp (m := m) hpl (by omega) (by omega) (by omega) (by omega) (fun x x0 x1 => ?_) hone, hg, rfl⟩
      rcases hform x x0 x1 with c | ⟨q1, q2, q3, q4, q5, _⟩
      · exact .inl c
      · exact .inr ⟨q1, q2, q3, q4, q5⟩
    · intro x hx
      have := rangeI_mem.mp (hsp.mem_iff.mp hx)
      omega
    · refine List.Pairwise.map _ (fun u v h => ?_) (rangeI_asc k.toNat)
      omega
    · intro y hy
      obtain ⟨j, hj, rfl⟩ := List.mem_map.mp hy
      have := rangeI_mem.mp hj
      omega
    · simp
    · rw [List.length_map, rangeI_len]; omega
    · intro x x0 x1
      exact .inl (cg_rep _ _)
    · intro x z x0 x1 z0 z1 he hx
      rw [cg_rep] at hx
      exact absurd hx (by decide)
    · simp
  rintro s ⟨ps, a, b, c8, x4, x6, x9, hc, hg, rfl⟩
  have := hc.len
  have := hc.n2
  simp
  exact ⟨z2, by simpa using hp S G ps a b hc ⟨by omega, hs, hgv⟩ hg⟩
def gd (S G : List Int) (ps : List (Int × Int)) (L : List Int) (q : Dd) : Prop := q.form = true ∧ q.sides S.length = true ∧ letB S G ps L q = true
theorem letB_ex {S G : List Int} {ps : List (Int × Int)} {L : List Int} {x y : Int} : letB S G ps L ⟨true, x, y⟩ = true ↔ 0 < (cg ps x).1 ∧ (cg ps y).1 = (cg ps x).1 ∧ mayB S G (cg ps y).2 x = true ∧ mayB S G (cg ps x).2 y = true := by
  unfold letB
  simp
theorem letB_sh {S G : List Int} {ps : List (Int × Int)} {L : List Int} {x y : Int} : letB S G ps L ⟨false, x, y⟩ = true ↔ (cg ps x).1 ∈ L ∧ (thruB ps y (cg ps x).1 = true ∧ ((cg ps x).1, y) ∉ ps) ∧ mayB S G y x = true := by
  unfold letB
  simp
theorem looseBad_app {v : Int} {t : List Int} : ∀ {k : Nat} {last : Int} {L : List Int}, looseBad k last L = none → (v ≤ last ∨ v ∈ L) → looseBad k last (L ++ v :: t) = some (k + L.length)
  | k, last, [], _, h => by
    have h : v ≤ last := by
      rcases h with h | h
      · exact h
      · cases h
    show looseBad k last (v :: t) = _
    rw [looseBad, if_pos h]
    rfl
  | k, last, r :: L, h, hv => by
    rw [looseBad] at h
    by_cases c : r ≤ last
    · rw [if_pos c] at h; cases h
    · rw [if_neg c] at h
      show looseBad k last (r :: (L ++ v :: t)) = _
      rw [looseBad, if_neg c, looseBad_app h]
      · simp; omega
      · rcases hv with hv | hv
        · left; omega
        · rcases List.mem_cons.mp hv with rfl | hv
          · left; omega
          · exact .inr hv
theorem Dd.ok (q : Dd) : OkN 1 q.d := OkN.tup fun d hd => by
  simp only [List.mem_cons, List.not_mem_nil, or_false] at hd
  rcases hd with rfl | rfl | rfl
  · refine OkN.str _ ?_
    have h1 : PyData.strOk "exchange" = true := by decide +kernel
    have h2 : PyData.strOk "shift" = true := by decide +kernel
    cases q.e <;> simp [h1, h2]
  · exact OkN.int _ _
  · exact OkN.int _ _
theorem Dd.eq (q q' : Dd) : eqD q.d q'.d = decide (q = q') := by
  obtain ⟨e, x, y⟩ := q
  obtain ⟨e', x', y'⟩ := q'
  have h1 : eqD (.str "shift") (.str "exchange") = false := by decide +kernel
  unfold Dd.d
  rw [eqD_tup]
  by_cases c : x = x' ∧ y = y'
  · obtain ⟨rfl, rfl⟩ := c
    cases e <;> cases e' <;> simp [eqDs, h1, sh_ex, sh_sh, ex_ex]
  · have c2 : x = x' → ¬ y = y' := fun a b => c ⟨a, b⟩
    cases e <;> cases e' <;> simp [eqDs, h1, sh_ex, sh_sh, ex_ex] <;> exact c2
theorem inD_dd (q : Dd) (F : List Dd) : inD q.d (F.map Dd.d) = true ↔ q ∈ F := by
  unfold inD
  rw [List.any_map, List.any_eq_true]
  constructor
  · rintro ⟨p, hp, h⟩
    have h : eqD p.d q.d = true := h
    rw [Dd.eq] at h
    rw [← of_decide_eq_true h]; exact hp
  · intro h
    refine ⟨q, h, ?_⟩
    show eqD q.d q.d = true
    rw [Dd.eq]; simp
theorem okF (F : List Dd) : okD (.lst (F.map Dd.d)) = true := by
  have : OkN 2 (.lst (F.map Dd.d)) := OkN.lst fun d hd => by
    obtain ⟨q, _, rfl⟩ := List.mem_map.mp hd
    exact q.ok
  exact this.ok
theorem rangeI_lt (n : Nat) (x : Int) (x0 : 0 ≤ x) : ((rangeI n).filter fun y => decide (x < y)).map D.int = rangeD (x + 1) ((n : Int) - (x + 1)).toNat := by
  have key : ∀ k : Nat, (rangeI k).filter (fun y => decide (x < y)) = (List.range ((k : Int) - (x + 1)).toNat).map fun (i : Nat) => x + 1 + (i : Int) := by
    intro k
    induction k with
    | zero =>
      rw [show (((0 : Nat) : Int) - (x + 1)).toNat = 0 by omega]
      rfl
    | succ k ih =>
      have e : rangeI (k + 1) = rangeI k ++ [(k : Int)] := by unfold rangeI; rw [List.range_succ, List.map_append]; rfl
      rw [e, List.filter_append, ih]
      by_cases c : x < (k : Int)
      · have e2 : (((k + 1 : Nat) : Int) - (x + 1)).toNat = ((k : Int) - (x + 1)).toNat + 1 := by omega
        rw [e2, List.range_succ, List.map_append]
        simp [c]
        omega
      · have e2 : (((k + 1 : Nat) : Int) - (x + 1)).toNat = ((k : Int) - (x + 1)).toNat := by omega
        rw [e2]
        simp [c]
  rw [key n]
  unfold rangeD
  rw [List.map_map]
  rfl
theorem exL_len (n : Nat) (x : Int) : (exL n x).length ≤ n := by
  unfold exL
  rw [List.length_map]
  have := List.length_filter_le (fun y => decide (x < y)) (rangeI n)
  rw [rangeI_len] at this
  exact this
theorem shL_len (n : Nat) (x : Int) : (shL n x).length = n := by
  unfold shL
  rw [List.length_map, rangeI_len]
theorem flat_len (f : Int → List Dd) (n : Nat) (h : ∀ x, (f x).length ≤ n) : ∀ l : List Int, (l.flatMap f).length ≤ l.length * n
  | [] => by simp
  | x :: l => by
    rw [List.flatMap_cons, List.length_append, List.length_cons, Nat.succ_mul]
    have := h x
    have := flat_len f n h l
    omega
theorem lc2_each {gt : TGd} {tt : TDB} {wd1 : TDI} {gt1 : TGd} {tt1 : TDB} {te : TD} {vs vs1 : List Nat} {P : List D → S → Prop} {r : List Sl} {M : Mem} (ys : Int → List D) : ∀ (xs : List Int) (acc : List D)
    (_ : ∀ x ∈ xs, ∀ (acc : List D) (K : List D → Mem → Prop), K (acc ++ ys x) M → acc.length + (ys x).length ≤ sizeLine → gt (.int x) ⟨wipeS r vs, M⟩ fun s2 => tt s2 (fun b s3 => if b = true then wd1 s3 (fun ds1 s4 => lcD gt1 tt1 te vs1 (fun acc' s5 => K acc' s5.M) ds1 acc s4) noX else K acc s3.M) noX)
    (_ : acc.length + (xs.flatMap ys).length ≤ sizeLine) (_ : P (acc ++ xs.flatMap ys) ⟨r, M⟩), lc2D gt tt wd1 gt1 tt1 te vs vs1 P (xs.map D.int) acc ⟨r, M⟩
  | [], acc, _, _, h => by simpa [lc2D] using h
  | x :: xs, acc, step, hl, h => by
    rw [List.map_cons]
    unfold lc2D
    rw [List.flatMap_cons] at hl h
    rw [List.length_append] at hl
    refine step x List.mem_cons_self acc (fun acc' M' => lc2D gt tt wd1 gt1 tt1 te vs vs1 P (xs.map D.int) acc' ⟨r, M'⟩) ?_ (by omega)
    exact lc2_each ys xs _ (fun z hz => step z (List.mem_cons_of_mem _ hz)) (by rw [List.length_append]; omega) (by rw [List.append_assoc]; exact h)
theorem lc_ints {gt : TGd} {tt : TDB} {te : TD} {vs : List Nat} {P : List D → S → Prop} {s : S} (f : Int → D) (ys : List Int) (acc : List D)
    (step : ∀ y ∈ ys, ∀ (K : Option D → Mem → Prop), K (some (f y)) s.M → gt (.int y) ⟨wipeS s.r vs, s.M⟩ fun s2 => tt s2 (fun b s3 => if b = true then te s3 (fun z s4 => K (some z) s4.M) noX else K none s3.M) noX)
    (hl : acc.length + ys.length ≤ sizeLine) (h : P (acc ++ ys.map f) s) : lcD gt tt te vs P (ys.map D.int) acc s := by
  refine lc_pure (fun d => match d with
    | .int y => some (f y)
    | _ => none) _ acc (fun d hd K hK => ?_) (by simpa using hl) ?_
  · obtain ⟨y, hy, rfl⟩ := List.mem_map.mp hd
    exact step y hy K hK
  · have e : (ys.map D.int).filterMap (fun d => match d with
        | .int y => some (f y)
        | _ => none) = ys.map f := by
      clear step hl h
      induction ys with
      | nil => rfl
      | cons y ys ih => exact congrArg (f y :: ·) ih
    rw [e]; exact h
theorem filterMap_ifD (c : Dd → Bool) (l : List Dd) : l.filterMap (fun q => if c q = true then some q.d else none) = (l.filter c).map Dd.d := by
  induction l with
  | nil => rfl
  | cons q l ih =>
    by_cases h : c q = true
    · rw [List.filterMap_cons_some (b := q.d) (by rw [if_pos h]), ih, List.filter_cons_of_pos h, List.map_cons]
    · rw [List.filterMap_cons_none (by rw [if_neg h]), ih, List.filter_cons_of_neg h]
theorem math_offers : ∀ xs M P PX, sp_offers xs M P PX → td_offers (startS N_offers xs M) (endE M.length P) (endX M.length PX) := by
  rintro xs M P PX ⟨S, G, ps, l, L, rfl, rfl, hc, hl, hll, hp⟩
  have z3 : 3 ≤ sizeLine := by decide
  unfold td_offers
  refine dSeq_k fun K hK => ?_
  simp
  refine hc.made (fun hcp => hK _ ?_) (fun c => ?_)
  case refine_2 =>
    unfold offR at hp
    rw [if_neg c] at hp
    exact hp
  clear hK K
  have hlen := hcp.len
  have hn2 := hcp.n2
  unfold offR at hp
  rw [if_pos hlen] at hp
  refine dSeq_k fun K hK => ?_
  simp
  refine ⟨l, L, rfl, rfl, hl, hll, ?_⟩
  cases el : looseBad 0 0 L with
  | some k => rw [el] at hp; exact hp
  | none =>
    rw [el] at hp
    simp only at hp ⊢
    refine hK _ ?_
    clear hK K
    have ln : ∀ (f : Int → List Dd), (∀ x, (f x).length ≤ S.length) → ((rangeI S.length).flatMap f).length ≤ 10000 := fun f hf => by
      have h1 := flat_len f S.length hf (rangeI S.length)
      rw [rangeI_len] at h1
      have h2 : S.length * S.length ≤ 100 * 100 := Nat.mul_le_mul hn2 hn2
      omega
    have l1 := ln (exL S.length) (exL_len S.length)
    have l2 := ln (shL S.length) fun x => Nat.le_of_eq (shL_len S.length x)
    refine dSeq_mid (fun s => s = ⟨[.dat (fldD S G), .dat (pairsT ps), .dat l, .cell 0, .no, .no, .no], [some (.lst (((rangeI S.length).flatMap (exL S.length)).map Dd.d))]⟩) (fun K hK => ?_) ?_
    · simp [fldD]
      refine ⟨by constructor <;> omega, ?_⟩
      rw [show rangeD 0 S.length = (rangeI S.length).map D.int from rangeD_I _]
      refine lc2_each (fun x => (exL S.length x).map Dd.d) (rangeI S.length) [] (fun x hx acc K2 hK2 hl2 => ?_) ?_ ?_
      · have := rangeI_mem.mp hx
        simp
        refine ⟨by constructor <;> omega, by constructor <;> omega, ?_⟩
        rw [← rangeI_lt _ _ this.1]
        refine lc_ints (fun y => Dd.d ⟨true, x, y⟩) ((rangeI S.length).filter fun y => decide (x < y)) acc (fun y _ K hK => by simp [z3]; simpa [Dd.d] using hK) ?_ ?_
        · simp [exL] at hl2; exact hl2
        · simp [exL, Function.comp_def] at hK2
          simpa using hK2
      · rw [← List.map_flatMap, List.length_nil, List.length_map]
        exact le_sl (by omega)
      · rw [← List.map_flatMap]
        exact hK _ (by simp [fldD])
    rintro s rfl
    refine dSeq_k fun K hK => ?_
    simp [fldD]
    refine ⟨by constructor <;> omega, ?_⟩
    rw [show rangeD 0 S.length = (rangeI S.length).map D.int from rangeD_I _]
    refine lc2_each (fun x => (shL S.length x).map Dd.d) (rangeI S.length) [] (fun x hx acc K2 hK2 hl2 => ?_) ?_ ?_
    · have := rangeI_mem.mp hx
      simp
      refine ⟨by constructor <;> omega, ?_⟩
      rw [show rangeD 0 S.length = (rangeI S.length).map D.int from rangeD_I _]
      refine lc_ints (fun y => Dd.d ⟨false, x, y⟩) (rangeI S.length) acc (fun y _ K hK => by simp [z3]; simpa [Dd.d] using hK) ?_ ?_
      · simp [shL] at hl2; exact hl2
      · simp [shL, Function.comp_def] at hK2
        simpa using hK2
    · rw [← List.map_flatMap, List.length_nil, List.length_map]
      exact le_sl (by omega)
    refine ⟨_, rfl, by rw [← List.map_flatMap, List.nil_append, List.length_map, List.length_map]; exact le_sl (by omega), ?_⟩
    rw [← List.map_flatMap, List.nil_append, ← List.map_append]
    refine hK _ ?_
    clear hK K
    simp
    rw [← List.map_append]
    have hsd : ∀ q ∈ (rangeI S.length).flatMap (exL S.length) ++ (rangeI S.length).flatMap (shL S.length), q.sides S.length = true := fun q hq => by
      rcases List.mem_append.mp hq with hq | hq
      · obtain ⟨x, hx, hq⟩ := List.mem_flatMap.mp hq
        unfold exL at hq
        obtain ⟨y, hy, rfl⟩ := List.mem_map.mp hq
        have hx := rangeI_mem.mp hx
        have hy := rangeI_mem.mp (List.mem_filter.mp hy).1
        exact sides_iff.mpr ⟨hx, hy⟩
      · obtain ⟨x, hx, hq⟩ := List.mem_flatMap.mp hq
        unfold shL at hq
        obtain ⟨y, hy, rfl⟩ := List.mem_map.mp hq
        exact sides_iff.mpr ⟨rangeI_mem.mp hx, rangeI_mem.mp hy⟩
    refine lc_some Dd.d (fun q => if letB S G ps L q = true then some q.d else none) ((rangeI S.length).flatMap (exL S.length) ++ (rangeI S.length).flatMap (shL S.length)) rfl (by rw [List.length_append]; exact le_sl (by omega)) (fun q hq K hK => ?_) ?_
    · simp
      refine ⟨S, G, ps, q, l, L, by simp [fldD], rfl, hcp, hl, hsd q hq, ?_⟩
      cases e : letB S G ps L q <;> simp [e] at hK ⊢ <;> exact hK
    · rw [filterMap_ifD]
      unfold offE at hp
      rw [List.filter_append]
      exact hp
theorem math__law_told : ∀ xs M P PX, sp__law_told xs M P PX → td__law_told (startS N__law_told xs M) (endE M.length P) (endX M.length PX) := by
  rintro xs M P PX ⟨S, G, ps, L, rfl, rfl, hc, hl, hp⟩
  have z2 : 2 ≤ sizeLine := by decide
  unfold td__law_told
  simp
  refine ⟨S, G, ps, tupI L, L, rfl, rfl, hc, .inl rfl, hl, ?_⟩
  unfold offR at hp ⊢
  by_cases c : ps.length = S.length
  · rw [if_pos c] at hp ⊢
    cases e : looseBad 0 0 L with
    | none => rw [e] at hp; exact hp
    | some k =>
      rw [e] at hp
      have hp : P (.tup [.str "loose", .int k]) [] := hp
      simp [errN, LC_, ofString_inj, z2]
      exact hp
  · rw [if_neg c] at hp ⊢
    have hp : P (.tup [.str "unlike", .int ps.length]) [] := hp
    simp [errN, LC_, ofString_inj, z2]
    exact hp
theorem filt_cons (c : Dd → Bool) (q : Dd) (l : List Dd) : (q :: l).filter c = (if c q = true then [q] else []) ++ l.filter c := by
  by_cases h : c q = true
  · rw [List.filter_cons_of_pos h, if_pos h]; rfl
  · rw [List.filter_cons_of_neg h, if_neg h]; rfl
theorem shL_let {S G : List Int} {ps : List (Int × Int)} {L : List Int} (hlen : ps.length = S.length) (x : Int) : (shL S.length x).filter (letB S G ps L) = if (cg ps x).1 ∈ L then ((restL ps (cg ps x).1).filter fun y => mayB S G y x).map (fun y => ⟨false, x, y⟩) else [] := by
  unfold shL restL
  rw [List.filter_map, hlen]
  by_cases c : (cg ps x).1 ∈ L
  · rw [if_pos c, List.filter_filter]
    congr 1
    refine List.filter_congr fun y _ => ?_
    simp only [Function.comp]
    unfold letB
    simp [c]
    rw [Bool.and_comm]
  · rw [if_neg c]
    have : (rangeI S.length).filter (letB S G ps L ∘ fun y => (⟨false, x, y⟩ : Dd)) = [] := by
      rw [List.filter_eq_nil_iff]
      intro y _ h
      have h : letB S G ps L ⟨false, x, y⟩ = true := h
      exact c (letB_sh.mp h).1
    rw [this]; rfl
theorem math__law_offered : ∀ xs M P PX, sp__law_offered xs M P PX → td__law_offered (startS N__law_offered xs M) (endE M.length P) (endX M.length PX) := by
  rintro xs M P PX ⟨S, G, ps, L, rfl, rfl, hc, hll, hp⟩
  have z3 : 3 ≤ sizeLine := by decide
  have hlen := hc.len
  have hn2 := hc.n2
  have hgl := hc.g
  have ln : ∀ (f : Int → List Dd), (∀ x, (f x).length ≤ S.length) → ((rangeI S.length).flatMap f).length ≤ 10000 := fun f hf => by
    have h1 := flat_len f S.length hf (rangeI S.length)
    rw [rangeI_len] at h1
    have h2 : S.length * S.length ≤ 100 * 100 := Nat.mul_le_mul hn2 hn2
    omega
  have l1 := ln (exL S.length) (exL_len S.length)
  have l2 := ln (shL S.length) fun x => Nat.le_of_eq (shL_len S.length x)
  generalize hA : ((rangeI S.length).flatMap (exL S.length)).filter (letB S G ps L) = A
  have hAl : A.length ≤ 10000 := by
    rw [← hA]
    exact Nat.le_trans (List.length_filter_le _ _) l1
  unfold td__law_offered
  refine dSeq_k fun K hK => ?_
  simp
  refine hK _ ?_
  clear hK K
  refine dSeq_mid (fun s => ∃ (x5 x6 : Sl), s = ⟨[.dat (figD S G), .dat (pairsT ps), .dat (tupI L), .cell 0, .dat (.int ps.length), x5, x6], [some (.lst (A.map Dd.d))]⟩) (fun K hK => ?_) ?_
  · simp
    refine ⟨by constructor <;> omega, ?_⟩
    rw [show rangeD 0 ps.length = (rangeI ps.length).map D.int from rangeD_I _, hlen]
    refine loop_rec D.int (fun xs s => ∃ (F : List Dd) (x5 x6 : Sl), F ++ (xs.flatMap (exL S.length)).filter (letB S G ps L) = A ∧ (∀ x ∈ xs, 0 ≤ x ∧ x < S.length) ∧ s = ⟨[.dat (figD S G), .dat (pairsT ps), .dat (tupI L), .cell 0, .dat (.int S.length), x5, x6], [some (.lst (F.map Dd.d))]⟩) ?_ ?_ (rangeI S.length) _ rfl ⟨[], .no, .no, by rw [List.nil_append]; exact hA, fun x hx => rangeI_mem.mp hx, rfl⟩
    · rintro x xs s K2 ⟨F, x5, x6, hF, hxs, rfl⟩ hK2
      have hx := hxs x List.mem_cons_self
      have x0 := hx.1
      have x1 : x < (ps.length : Int) := by omega
      simp
      refine ⟨by constructor <;> omega, by constructor <;> omega, ?_⟩
      rw [← rangeI_lt _ _ hx.1]
      rw [List.flatMap_cons, List.filter_append] at hF
      refine loop_rec D.int (fun ys s => ∃ (F : List Dd) (x6 : Sl), F ++ ((ys.map fun y => (⟨true, x, y⟩ : Dd)).filter (letB S G ps L) ++ (xs.flatMap (exL S.length)).filter (letB S G ps L)) = A ∧ (∀ y ∈ ys, 0 ≤ y ∧ y < S.length) ∧ s = ⟨[.dat (figD S G), .dat (pairsT ps), .dat (tupI L), .cell 0, .dat (.int S.length), .dat (.int x), x6], [some (.lst (F.map Dd.d))]⟩) ?_ ?_ ((rangeI S.length).filter fun y => decide (x < y)) _ rfl ⟨F, x6, hF, fun y hy => rangeI_mem.mp (List.mem_filter.mp hy).1, rfl⟩
      · rintro y ys s K3 ⟨F, x6, hF, hys, rfl⟩ hK3
        have hy' := hys y List.mem_cons_self
        have y0 := hy'.1
        have hy : y < (ps.length : Int) := by omega
        rw [List.map_cons, filt_cons] at hF
        have hFl : F.length ≤ 10000 := by
          have := congrArg List.length hF
          rw [List.length_append] at this
          omega
        have hno : letB S G ps L ⟨true, x, y⟩ ≠ true → K3 ⟨[.dat (figD S G), .dat (pairsT ps), .dat (tupI L), .cell 0, .dat (.int S.length), .dat (.int x), .dat (.int y)], [some (.lst (F.map Dd.d))]⟩ := fun h => hK3 _ ⟨F, _, by rw [if_neg h, List.nil_append] at hF; exact hF, fun z hz => hys z (List.mem_cons_of_mem _ hz), rfl⟩
        have hyes : letB S G ps L ⟨true, x, y⟩ = true → K3 ⟨[.dat (figD S G), .dat (pairsT ps), .dat (tupI L), .cell 0, .dat (.int S.length), .dat (.int x), .dat (.int y)], [some (.lst (F.map Dd.d ++ [Dd.d ⟨true, x, y⟩]))]⟩ := fun h => hK3 _ ⟨F ++ [⟨true, x, y⟩], .dat (.int y), by rw [if_pos h, List.append_assoc] at hF; rw [List.append_assoc]; exact hF, fun z hz => hys z (List.mem_cons_of_mem _ hz), by simp⟩
        rw [Ne, letB_ex] at hno
        rw [letB_ex] at hyes
        simp [cg_at x0 x1, cg_at y0 hy, z3]
        by_cases c1 : 0 < (cg ps x).1
        case neg => simp [c1]; exact hno fun h => c1 h.1
        have bx := hc.cgF x0 (by omega) c1
        by_cases c2 : (cg ps x).1 = (cg ps y).1
        case neg => simp [c1, c2]; exact hno fun h => c2 h.2.1.symm
        have by' := hc.cgF y0 (by omega) (by omega)
        have c1' : 0 < (cg ps y).1 := by omega
        simp [c1', c2]
        refine ⟨S, G, (cg ps y).2, x, rfl, rfl, by'.1, by'.2, x0, by omega, ?_⟩
        cases e1 : mayB S G (cg ps y).2 x with
        | false => left; exact ⟨rfl, hno fun h => by rw [e1] at h; exact absurd h.2.2.1 (by decide)⟩
        | true =>
          right
          refine ⟨rfl, S, G, (cg ps x).2, y, rfl, rfl, bx.1, bx.2, y0, by omega, ?_⟩
          cases e2 : mayB S G (cg ps x).2 y with
          | false => left; exact ⟨rfl, hno fun h => by rw [e2] at h; exact absurd h.2.2.2 (by decide)⟩
          | true =>
            right
            refine ⟨rfl, lt_sl (by omega), ?_⟩
            exact hyes ⟨c1, c2.symm, e1, e2⟩
      · rintro s ⟨F, x6, hF, _, rfl⟩
        exact hK2 _ ⟨F, _, _, hF, fun z hz => hxs z (List.mem_cons_of_mem _ hz), rfl⟩
    · rintro s ⟨F, x5, x6, hF, _, rfl⟩
      have hF : F ++ [] = A := hF
      rw [List.append_nil] at hF
      subst hF
      exact hK _ ⟨_, _, by rw [hlen]⟩
  rintro s ⟨x5, x6, rfl⟩
  generalize hB : ((rangeI S.length).flatMap (shL S.length)).filter (letB S G ps L) = B
  have hBl : B.length ≤ 10000 := by
    rw [← hB]
    exact Nat.le_trans (List.length_filter_le _ _) l2
  refine dSeq_mid (fun s => ∃ (x5 x6 : Sl), s = ⟨[.dat (figD S G), .dat (pairsT ps), .dat (tupI L), .cell 0, .dat (.int ps.length), x5, x6], [some (.lst ((A ++ B).map Dd.d))]⟩) (fun K hK => ?_) ?_
  · simp
    refine ⟨by constructor <;> omega, ?_⟩
    rw [show rangeD 0 ps.length = (rangeI ps.length).map D.int from rangeD_I _, hlen]
    refine loop_rec D.int (fun xs s => ∃ (F : List Dd) (x5 x6 : Sl), F ++ (xs.flatMap (shL S.length)).filter (letB S G ps L) = A ++ B ∧ (∀ x ∈ xs, 0 ≤ x ∧ x < S.length) ∧ s = ⟨[.dat (figD S G), .dat (pairsT ps), .dat (tupI L), .cell 0, .dat (.int S.length), x5, x6], [some (.lst (F.map Dd.d))]⟩) ?_ ?_ (rangeI S.length) _ rfl ⟨A, x5, x6, by rw [hB], fun x hx => rangeI_mem.mp hx, by simp⟩
    · rintro x xs s K2 ⟨F, x5, x6, hF, hxs, rfl⟩ hK2
      have hx := hxs x List.mem_cons_self
      have x0 := hx.1
      have x1 : x < (ps.length : Int) := by omega
      have hxs2 : ∀ z ∈ xs, 0 ≤ z ∧ z < (S.length : Int) := fun z hz => hxs z (List.mem_cons_of_mem _ hz)
      rw [List.flatMap_cons, List.filter_append, shL_let hlen] at hF
      simp [cg_at x0 x1]
      rw [inD_ints _ L]
      by_cases c : (cg ps x).1 ∈ L
      case neg =>
        rw [if_neg c, List.nil_append] at hF
        simp [c]
        exact hK2 _ ⟨F, _, _, hF, hxs2, rfl⟩
      rw [if_pos c] at hF
      simp [c]
      refine ⟨ps, (cg ps x).1, rfl, rfl, by omega, _, rfl, ?_⟩
      refine loop_rec D.int (fun ys s => ∃ (F : List Dd) (x6 : Sl), F ++ ((ys.filter fun y => mayB S G y x).map (fun y => (⟨false, x, y⟩ : Dd)) ++ (xs.flatMap (shL S.length)).filter (letB S G ps L)) = A ++ B ∧ (∀ y ∈ ys, 0 ≤ y ∧ y < S.length) ∧ s = ⟨[.dat (figD S G), .dat (pairsT ps), .dat (tupI L), .cell 0, .dat (.int S.length), .dat (.int x), x6], [some (.lst (F.map Dd.d))]⟩) ?_ ?_ (restL ps (cg ps x).1) _ rfl ⟨F, x6, hF, fun y hy => by
        unfold restL at hy
        have := rangeI_mem.mp (List.mem_filter.mp hy).1
        omega, rfl⟩
      · rintro y ys s K3 ⟨F, x6, hF, hys, rfl⟩ hK3
        have hy := hys y List.mem_cons_self
        have hys2 : ∀ z ∈ ys, 0 ≤ z ∧ z < (S.length : Int) := fun z hz => hys z (List.mem_cons_of_mem _ hz)
        have hFl : F.length ≤ 20000 := by
          have := congrArg List.length hF
          simp only [List.length_append] at this
          omega
        simp
        refine ⟨S, G, y, x, rfl, rfl, hy.1, by omega, x0, by omega, ?_⟩
        cases e1 : mayB S G y x with
        | false =>
          left
          rw [List.filter_cons_of_neg (by rw [e1]; decide)] at hF
          exact ⟨rfl, hK3 _ ⟨F, _, hF, hys2, rfl⟩⟩
        | true =>
          right
          rw [List.filter_cons_of_pos (by rw [e1]), List.map_cons] at hF
          exact ⟨rfl, z3, lt_sl (by omega), hK3 _ ⟨F ++ [⟨false, x, y⟩], .dat (.int y), by rw [List.append_assoc]; exact hF, hys2, by simp [Dd.d]⟩⟩
      · rintro s ⟨F, x6, hF, _, rfl⟩
        exact hK2 _ ⟨F, _, _, hF, hxs2, rfl⟩
    · rintro s ⟨F, x5, x6, hF, _, rfl⟩
      have hF : F ++ [] = A ++ B := hF
      rw [List.append_nil] at hF
      subst hF
      exact hK _ ⟨_, _, by rw [hlen]⟩
  rintro s ⟨x5, x6, rfl⟩
  unfold offE at hp
  rw [hA, hB] at hp
  simp
  simpa using hp
theorem Cp.of {S G : List Int} {ps p2 : List (Int × Int)} (h : Cp S G ps) (hl : p2.length = ps.length) (fst : ∀ z : Int, 0 ≤ z → z < S.length → (cg p2 z).1 = (cg ps z).1) (stay : ∀ z : Int, 0 ≤ z → z < S.length → cg ps z = (0, -1) → cg p2 z = (0, -1))
    (form : ∀ z : Int, 0 ≤ z → z < S.length → cg p2 z = (0, -1) ∨ (1 ≤ (cg p2 z).1 ∧ 0 ≤ (cg p2 z).2 ∧ (cg p2 z).2 < S.length ∧ mayB S G (cg p2 z).2 z = true ∧ (cg ps (cg p2 z).2 = (0, -1) ∨ (cg p2 z).1 < (cg ps (cg p2 z).2).1)))
    (one : ∀ u v : Int, 0 ≤ u → u < S.length → 0 ≤ v → v < S.length → cg p2 u = cg p2 v → 1 ≤ (cg p2 u).1 → u = v) : Cp S G p2 where
  n1 := h.n1
  n2 := h.n2
  g := h.g
  c := {
    len := by rw [hl]; exact h.len
    form := fun z z0 z1 => by
      rcases form z z0 z1 with c | ⟨a, b, c, d, e⟩
      · exact .inl c
      · refine .inr ⟨a, b, c, d, ?_⟩
        rcases e with e | e
        · exact .inl (stay _ b c e)
        · exact .inr (by rw [fst _ b c]; exact e)
    one := one
    gap := fun x r x0 x1 r1 r2 => by
      rw [fst x x0 x1] at r2
      obtain ⟨z, z0, z1, e⟩ := h.c.gap x r x0 x1 r1 r2
      exact ⟨z, z0, z1, by rw [fst z z0 z1]; exact e⟩
    top := fun x x0 x1 => by rw [fst x x0 x1]; exact h.c.top x x0 x1 }
theorem Cp.newP {S G : List Int} {ps : List (Int × Int)} (h : Cp S G ps) {L : List Int} (hL : ∀ r ∈ L, 1 ≤ r) {q : Dd} (hs : q.sides S.length = true) (hq : q.form = true) (hl : letB S G ps L q = true) : Cp S G (newP ps q) := by
  have hlen := h.len
  obtain ⟨e, x, y⟩ := q
  obtain ⟨⟨x0, x1⟩, ⟨y0, y1⟩⟩ := sides_iff.mp hs
  simp only at x0 x1 y0 y1
  cases e with
  | true =>
    obtain ⟨r0, er, m1, m2⟩ := letB_ex.mp hl
    have hxy : x ≠ y := by
      simp [Dd.form] at hq
      omega
    have hcg : ∀ z : Int, 0 ≤ z → cg (_root_.LawP.newP ps ⟨true, x, y⟩) z = if z = y then cg ps x else if z = x then cg ps y else cg ps z := fun z z0 => by
      unfold _root_.LawP.newP
      simp only [if_true]
      rw [cg_set y0 (by simp; omega) z0, cg_set x0 (by omega) z0]
    have fx := h.c.form x x0 x1
    have fy := h.c.form y y0 y1
    refine h.of (newP_len _ _) (fun z z0 z1 => ?_) (fun z z0 z1 hz => ?_) (fun z z0 z1 => ?_) (fun u v u0 u1 v0 v1 he hu => ?_)
    · rw [hcg z z0]
      by_cases c : z = y
      · rw [if_pos c, c]; exact er.symm
      · rw [if_neg c]
        by_cases c' : z = x
        · rw [if_pos c', c']; exact er
        · rw [if_neg c']
    · rw [hcg z z0]
      by_cases c : z = y
      · rw [← c] at er; rw [hz] at er; have er : (0 : Int) = (cg ps x).1 := er; omega
      · rw [if_neg c]
        by_cases c' : z = x
        · rw [← c'] at r0; rw [hz] at r0; exact absurd r0 (by decide)
        · rw [if_neg c']; exact hz
    · rw [hcg z z0]
      by_cases c : z = y
      · rw [if_pos c, c]
        rcases fx with fx | ⟨a, b, c', d, e⟩
        · rw [fx] at r0; exact absurd r0 (by decide)
        · exact .inr ⟨a, b, c', m2, e⟩
      · rw [if_neg c]
        by_cases c' : z = x
        · rw [if_pos c', c']
          rcases fy with fy | ⟨a, b, c', d, e⟩
          · rw [fy] at er; have er : (0 : Int) = (cg ps x).1 := er; omega
          · exact .inr ⟨a, b, c', m1, e⟩
        · rw [if_neg c']
          exact h.c.form z z0 z1
    · rw [hcg u u0, hcg v v0] at he
      rw [hcg u u0] at hu
      have key := h.c.one
      by_cases a1 : u = y
      · rw [if_pos a1] at he hu
        by_cases b1 : v = y
        · omega
        · rw [if_neg b1] at he
          by_cases b2 : v = x
          · rw [if_pos b2] at he; exact absurd (key x y x0 x1 y0 y1 he hu) hxy
          · rw [if_neg b2] at he; exact absurd (key x v x0 x1 v0 v1 he hu).symm b2
      · rw [if_neg a1] at he hu
        by_cases a2 : u = x
        · rw [if_pos a2] at he hu
          by_cases b1 : v = y
          · rw [if_pos b1] at he; exact absurd (key y x y0 y1 x0 x1 he hu).symm hxy
          · rw [if_neg b1] at he
            by_cases b2 : v = x
            · omega
            · rw [if_neg b2] at he; exact absurd (key y v y0 y1 v0 v1 he hu).symm b1
        · rw [if_neg a2] at he hu
          by_cases b1 : v = y
          · rw [if_pos b1] at he; exact absurd (key u x u0 u1 x0 x1 he hu) a2
          · rw [if_neg b1] at he
            by_cases b2 : v = x
            · rw [if_pos b2] at he; exact absurd (key u y u0 u1 y0 y1 he hu) a1
            · rw [if_neg b2] at he; exact key u v u0 u1 v0 v1 he hu
  | false =>
    obtain ⟨hr, ⟨ht, hn⟩, m⟩ := letB_sh.mp hl
    have r1 := hL _ hr
    have hcg : ∀ z : Int, 0 ≤ z → cg (_root_.LawP.newP ps ⟨false, x, y⟩) z = if z = x then ((cg ps x).1, y) else cg ps z := fun z z0 => by
      unfold _root_.LawP.newP
      simp only [Bool.false_eq_true, if_false]
      rw [cg_set x0 (by omega) z0]
    have other : ∀ w : Int, 0 ≤ w → w < S.length → cg ps w = ((cg ps x).1, y) → False := fun w w0 w1 hw => by
      have := cg_mem (ps := ps) w0 (by omega)
      rw [hw] at this
      exact hn this
    refine h.of (newP_len _ _) (fun z z0 z1 => ?_) (fun z z0 z1 hz => ?_) (fun z z0 z1 => ?_) (fun u v u0 u1 v0 v1 he hu => ?_)
    · rw [hcg z z0]
      by_cases c : z = x
      · rw [if_pos c, c]
      · rw [if_neg c]
    · rw [hcg z z0]
      by_cases c : z = x
      · rw [← c] at r1; rw [hz] at r1; exact absurd r1 (by decide)
      · rw [if_neg c]; exact hz
    · rw [hcg z z0]
      by_cases c : z = x
      · rw [if_pos c, c]
        refine .inr ⟨r1, y0, y1, m, ?_⟩
        unfold thruB at ht
        simp at ht
        rcases ht with ht | ht
        · left
          rcases h.c.form y y0 y1 with f | ⟨a, _⟩
          · exact f
          · omega
        · exact .inr ht
      · rw [if_neg c]
        exact h.c.form z z0 z1
    · rw [hcg u u0, hcg v v0] at he
      rw [hcg u u0] at hu
      by_cases a1 : u = x
      · rw [if_pos a1] at he
        by_cases b1 : v = x
        · omega
        · rw [if_neg b1] at he
          exact (other v v0 v1 he.symm).elim
      · rw [if_neg a1] at he hu
        by_cases b1 : v = x
        · rw [if_pos b1] at he
          exact (other u u0 u1 he).elim
        · rw [if_neg b1] at he
          exact h.c.one u v u0 u1 v0 v1 he hu
theorem looseBad_pos : ∀ {k : Nat} {last : Int} {L : List Int}, looseBad k last L = none → ∀ r ∈ L, last < r
  | _, _, [], _, _, h => by cases h
  | k, last, x :: L, h, r, hr => by
    rw [looseBad] at h
    by_cases c : x ≤ last
    · rw [if_pos c] at h; cases h
    · rw [if_neg c] at h
      rcases List.mem_cons.mp hr with rfl | hr
      · omega
      · have := looseBad_pos h r hr
        omega
theorem offE_mem {S G : List Int} {ps : List (Int × Int)} {L : List Int} {q : Dd} (h : q ∈ offE S G ps L) : q.form = true ∧ q.sides S.length = true ∧ letB S G ps L q = true := by
  unfold offE at h
  rcases List.mem_append.mp h with h | h
  · obtain ⟨h1, h2⟩ := List.mem_filter.mp h
    obtain ⟨x, hx, hq⟩ := List.mem_flatMap.mp h1
    unfold exL at hq
    obtain ⟨y, hy, rfl⟩ := List.mem_map.mp hq
    obtain ⟨hy, hy2⟩ := List.mem_filter.mp hy
    exact ⟨by simpa [Dd.form] using hy2, sides_iff.mpr ⟨rangeI_mem.mp hx, rangeI_mem.mp hy⟩, h2⟩
  · obtain ⟨h1, h2⟩ := List.mem_filter.mp h
    obtain ⟨x, hx, hq⟩ := List.mem_flatMap.mp h1
    unfold shL at hq
    obtain ⟨y, hy, rfl⟩ := List.mem_map.mp hq
    exact ⟨by simp [Dd.form], sides_iff.mpr ⟨rangeI_mem.mp hx, rangeI_mem.mp hy⟩, h2⟩
theorem offE_len {S G : List Int} {ps : List (Int × Int)} {L : List Int} (hn : S.length ≤ 100) : (offE S G ps L).length ≤ 20000 := by
  have ln : ∀ (f : Int → List Dd), (∀ x, (f x).length ≤ S.length) → ((rangeI S.length).flatMap f).length ≤ 10000 := fun f hf => by
    have h1 := flat_len f S.length hf (rangeI S.length)
    rw [rangeI_len] at h1
    have h2 : S.length * S.length ≤ 100 * 100 := Nat.mul_le_mul hn hn
    omega
  have l1 := ln (exL S.length) (exL_len S.length)
  have l2 := ln (shL S.length) fun x => Nat.le_of_eq (shL_len S.length x)
  unfold offE
  rw [List.length_append]
  have m1 := List.length_filter_le (letB S G ps L) ((rangeI S.length).flatMap (exL S.length))
  have m2 := List.length_filter_le (letB S G ps L) ((rangeI S.length).flatMap (shL S.length))
  omega
theorem okFt (F : List Dd) : okD (.tup (F.map Dd.d)) = true := by
  have : OkN 2 (.tup (F.map Dd.d)) := OkN.tup fun d hd => by
    obtain ⟨q, _, rfl⟩ := List.mem_map.mp hd
    exact q.ok
  exact this.ok
def evL (n : Nat) : List Int := (List.range n).map fun (i : Nat) => 1 + (i : Int)
theorem evL_len (n : Nat) : (evL n).length = n := by simp [evL]
theorem evL_ok (n : Nat) : looseBad 0 0 (evL n) = none := by
  induction n with
  | zero => rfl
  | succ n ih =>
    have e : evL (n + 1) = evL n ++ [1 + (n : Int)] := by unfold evL; rw [List.range_succ, List.map_append]; rfl
    rw [e]
    refine looseBad_snoc ih (by omega) fun u hu => ?_
    unfold evL at hu
    obtain ⟨i, hi, rfl⟩ := List.mem_map.mp hu
    have := List.mem_range.mp hi
    omega
theorem math_law : ∀ xs M P PX, sp_law xs M P PX → td_law (startS N_law xs M) (endE M.length P) (endX M.length PX) := by
  rintro xs M P PX ⟨ns, rfl, rfl, hp⟩
  have z1 : 1 ≤ sizeLine := by decide
  have z2 : 2 ≤ sizeLine := by decide
  have lo : PyData.strOk "loose" = true := by decide +kernel
  have uo : PyData.strOk "unlike" = true := by decide +kernel
  unfold td_law
  refine dSeq_k fun K hK => ?_
  simp
  refine ⟨by constructor <;> decide, ?_⟩
  refine loop_inv _ (fun i s => ∃ (x1 x2 x3 x4 x5 x6 x7 x8 x9 x10 x11 x12 : Sl) (M0 : Mem), s = ⟨[.dat (.fl (ns.map .int)), x1, x2, x3, x4, x5, x6, x7, x8, x9, x10, x11, x12], M0⟩) ?_ ?_ _ ⟨_, _, _, _, _, _, _, _, _, _, _, _, _, rfl⟩
  · rintro i d s K2 hd ⟨x1, x2, x3, x4, x5, x6, x7, x8, x9, x10, x11, x12, M0, rfl⟩ hK2
    obtain ⟨hi, rfl⟩ := rangeD_get hd
    refine dSeq_k fun K3 hK3 => ?_
    simp
    refine ⟨ns, i, rfl, by omega, by omega, fun a b hg => ?_⟩
    simp
    refine hK3 _ ?_
    clear hK3 K3
    refine dSeq_mid (fun s => ∃ (S G : List Int) (ps : List (Int × Int)) (a b : Int), Cp S G ps ∧ wide S G ∧ Good a b ∧ s = ⟨[.dat (.fl (ns.map .int)), .dat (.int i), .cell M0.length, .dat (figD S G), .dat (pairsT ps), x5, x6, x7, x8, x9, x10, x11, x12], M0 ++ [src a b]⟩) (fun K3 hK3 => ?_) ?_
    · simp
      refine ⟨a, b, rfl, rfl, hg, fun S G ps a b hc hw hg => ?_⟩
      simp
      exact hK3 _ ⟨S, G, ps, a, b, hc, hw, hg, rfl⟩
    rintro s ⟨S, G, ps, a, b, hc, hw, hg, rfl⟩
    have hlen := hc.len
    have hn1 := hc.n1
    have hn2 := hc.n2
    have hw1 := hw.1
    refine dSeq_k fun K3 hK3 => ?_
    simp [figD]
    refine ⟨S, G, rfl, rfl, ?_⟩
    rw [badF_none hn1 hw.1 hc.g hw.2.1 hw.2.2]
    simp
    refine hK3 _ ?_
    clear hK3 K3
    simp
    refine ⟨.inl (.inl (by decide)), by constructor <;> (split <;> omega), ?_⟩
    rw [hlen]
    generalize (3 - 2 * if (S.length : Int) = 32 then (1 : Int) else 0).toNat = T
    have hpL : ∀ {L : List Int}, looseBad 0 0 L = none → ∀ r ∈ L, 1 ≤ r := fun h r hr => by
      have := looseBad_pos h r hr
      omega
    refine loop_inv _ (fun j s => ∃ (ps : List (Int × Int)) (x7 x8 x9 x10 x11 x12 : Sl) (a b : Int), Cp S G ps ∧ Good a b ∧ s = ⟨[.dat (.fl (ns.map .int)), .dat (.int i), .cell M0.length, .dat (figD S G), .dat (pairsT ps), .dat (fldD S G), .dat (.int S.length), x7, x8, x9, x10, x11, x12], M0 ++ [src a b]⟩) ?_ ?_ _ ⟨ps, x7, x8, x9, x10, x11, x12, a, b, hc, hg, rfl⟩
    · rintro j d s K4 hd ⟨ps, x7, x8, x9, x10, x11, x12, a, b, hc, hg, rfl⟩ hK4
      obtain ⟨hj, rfl⟩ := rangeD_get hd
      have hlen := hc.len
      have hco : CupOr S G ps := ⟨fun _ => hc.c, hn1, hn2, hc.g, by omega⟩
      have hco1 : CupOr S G (ps ++ [(0, -1)]) := ⟨fun h => by simp at h; omega, hn1, hn2, hc.g, by simp; omega⟩
      have hco2 : CupOr S G (ps.drop 1) := ⟨fun h => by simp at h; omega, hn1, hn2, hc.g, by simp; omega⟩
      refine dSeq_k fun K5 hK5 => ?_
      simp
      refine ⟨S, G, ps, a, b, rfl, rfl, hg, hc, fun L a b hL hLl hg => ?_⟩
      simp
      refine hK5 _ ?_
      clear hK5 K5
      refine dSeq_k fun K5 hK5 => ?_
      simp
      refine ⟨S, G, ps, L, rfl, rfl, hc, by omega, hK5 _ ?_⟩
      clear hK5 K5
      have hFm : ∀ q ∈ offE S G ps L, q.form = true ∧ q.sides S.length = true ∧ letB S G ps L q = true := fun q hq => offE_mem hq
      have hFl : (offE S G ps L).length ≤ 20000 := offE_len hn2
      have offL : ∀ {L : List Int}, looseBad 0 0 L = none → offR S G ps L = .inr (offE S G ps L) := fun h => by
        unfold offR
        rw [if_pos hlen, h]
      refine dSeq_k fun K5 hK5 => ?_
      simp
      refine ⟨S, G, ps, L, rfl, rfl, hco, by omega, ?_⟩
      rw [offL hL]
      simp [toldO, okFt, eqD_refl _ (okFt _)]
      refine hK5 _ ?_
      clear hK5 K5
      refine dSeq_k fun K5 hK5 => ?_
      simp
      refine ⟨S, G, ps, .ct [], [], rfl, rfl, hco, .inr rfl, by simp, ?_⟩
      rw [offL rfl]
      simp
      refine ⟨S, G, ps, [], rfl, rfl, hc, by simp, ?_⟩
      simp [okFt, eqD_refl _ (okFt _)]
      refine hK5 _ ?_
      clear hK5 K5
      refine dSeq_mid (fun s => ∃ x11 : Sl, s = ⟨[.dat (.fl (ns.map .int)), .dat (.int i), .cell M0.length, .dat (figD S G), .dat (pairsT ps), .dat (fldD S G), .dat (.int S.length), .dat (.int (0 + (j : Nat))), .dat (tupI L), .dat (.lst ((offE S G ps L).map Dd.d)), .dat (tupI (evL S.length)), x11, x12], M0 ++ [src a b]⟩) (fun K5 hK5 => ?_) ?_
      · simp
        refine ⟨by constructor <;> omega, by constructor <;> omega, ?_⟩
        have er : rangeD 1 S.length = (evL S.length).map D.int := by
          unfold rangeD evL
          rw [List.map_map]
          rfl
        rw [er]
        refine lc_each D.int D.int (evL S.length) rfl (by rw [evL_len]; exact le_sl (by omega)) (fun x _ K hK => by simpa using hK) ?_
        exact hK5 _ ⟨x11, by simp⟩
      rintro s ⟨x11, rfl⟩
      refine dSeq_mid (fun s => s = ⟨[.dat (.fl (ns.map .int)), .dat (.int i), .cell M0.length, .dat (figD S G), .dat (pairsT ps), .dat (fldD S G), .dat (.int S.length), .dat (.int (0 + (j : Nat))), .dat (tupI L), .dat (.lst ((offE S G ps L).map Dd.d)), .dat (tupI (evL S.length)), x11, x12], M0 ++ [src a b]⟩) (fun K5 hK5 => ?_) ?_
      · simp
        by_cases c : (S.length : Int) < 32
        · rw [if_pos c]
          refine ⟨S, G, ps, evL S.length, rfl, rfl, hco, by rw [evL_len]; omega, ?_⟩
          rw [offL (evL_ok _)]
          refine ⟨S, G, ps, evL S.length, rfl, rfl, hc, by rw [evL_len]; omega, ?_⟩
          simp [toldO, okFt, eqD_refl _ (okFt _)]
          exact hK5 _ (by simp)
        · rw [if_neg c]
          exact hK5 _ (by simp)
      rintro s rfl
      refine dSeq_mid (fun s => ∃ (v a b : Int), (v ≤ 0 ∨ v ∈ L) ∧ Good a b ∧ s = ⟨[.dat (.fl (ns.map .int)), .dat (.int i), .cell M0.length, .dat (figD S G), .dat (pairsT ps), .dat (fldD S G), .dat (.int S.length), .dat (.int (0 + (j : Nat))), .dat (tupI L), .dat (.lst ((offE S G ps L).map Dd.d)), .dat (tupI (evL S.length)), x11, .dat (tupI (L ++ [v]))], M0 ++ [src a b]⟩) (fun K5 hK5 => ?_) ?_
      · simp
        refine ⟨z2, le_sl (by omega), useOne (d0 := .tup (D.int 0 :: D.int (-1) :: L.map .int)) rfl rfl hg (by simp) (by simp; omega) fun d a b hd hg => ?_⟩
        have key : ∃ v : Int, d = .int v ∧ (v ≤ 0 ∨ v ∈ L) := by
          rcases List.mem_cons.mp hd with rfl | hd
          · exact ⟨0, rfl, .inl (by decide)⟩
          rcases List.mem_cons.mp hd with rfl | hd
          · exact ⟨-1, rfl, .inl (by decide)⟩
          obtain ⟨v, hv, rfl⟩ := List.mem_map.mp hd
          exact ⟨v, rfl, .inr hv⟩
        obtain ⟨v, rfl, hv⟩ := key
        simp
        exact ⟨z1, le_sl (by omega), hK5 _ ⟨v, a, b, hv, hg, by simp⟩⟩
      rintro s ⟨v, a, b, hv, hg, rfl⟩
      refine dSeq_mid (fun s => s = ⟨[.dat (.fl (ns.map .int)), .dat (.int i), .cell M0.length, .dat (figD S G), .dat (pairsT ps), .dat (fldD S G), .dat (.int S.length), .dat (.int (0 + (j : Nat))), .dat (tupI L), .dat (.lst ((offE S G ps L).map Dd.d)), .dat (tupI (evL S.length)), x11, .dat (tupI (L ++ [v]))], M0 ++ [src a b]⟩) (fun K5 hK5 => ?_) ?_
      · simp
        refine ⟨z1, le_sl (by omega), S, G, ps, L ++ [v, 0], by simp, rfl, hco, by simp; omega, ?_⟩
        have e : offR S G ps (L ++ [v, 0]) = .inl (1, (L.length : Int)) := by
          unfold offR
          rw [if_pos hlen, looseBad_app hL hv]
          simp
        rw [e]
        simp [toldO, wordN, z2, okT _ _ lo, eqD_refl _ (okT _ _ lo)]
        exact hK5 _ (by simp)
      rintro s rfl
      refine dSeq_mid (fun s => s = ⟨[.dat (.fl (ns.map .int)), .dat (.int i), .cell M0.length, .dat (figD S G), .dat (pairsT ps), .dat (fldD S G), .dat (.int S.length), .dat (.int (0 + (j : Nat))), .dat (tupI L), .dat (.lst ((offE S G ps L).map Dd.d)), .dat (tupI (evL S.length)), x11, .dat (tupI (L ++ [v]))], M0 ++ [src a b]⟩) (fun K5 hK5 => ?_) ?_
      · simp
        refine ⟨z2, z1, le_sl (by omega), S, G, ps ++ [(0, -1)], L ++ [v], by simp, rfl, hco1, by simp; omega, ?_⟩
        have e : offR S G (ps ++ [(0, -1)]) (L ++ [v]) = .inl (2, (S.length : Int) + 1) := by
          unfold offR
          rw [if_neg (by simp; omega)]
          simp [hlen]
        rw [e]
        simp [toldO, wordN, z2, okT _ _ uo, eqD_refl _ (okT _ _ uo)]
        exact hK5 _ (by simp)
      rintro s rfl
      refine dSeq_mid (fun s => s = ⟨[.dat (.fl (ns.map .int)), .dat (.int i), .cell M0.length, .dat (figD S G), .dat (pairsT ps), .dat (fldD S G), .dat (.int S.length), .dat (.int (0 + (j : Nat))), .dat (tupI L), .dat (.lst ((offE S G ps L).map Dd.d)), .dat (tupI (evL S.length)), x11, .dat (tupI (L ++ [v]))], M0 ++ [src a b]⟩) (fun K5 hK5 => ?_) ?_
      · simp
        rw [cutD_from (by decide)]
        refine ⟨S, G, ps.drop 1, L ++ [v], by simp, rfl, hco2, by simp; omega, ?_⟩
        have e : offR S G (ps.drop 1) (L ++ [v]) = .inl (2, (S.length : Int) - 1) := by
          unfold offR
          rw [if_neg (by simp; omega)]
          have e9 : (((ps.drop 1).length : Nat) : Int) = (S.length : Int) - 1 := by
            rw [List.length_drop]
            omega
          rw [e9]
        rw [e]
        simp [toldO, wordN, z2, okT _ _ uo, eqD_refl _ (okT _ _ uo)]
        exact hK5 _ (by simp)
      rintro s rfl
      simp
      by_cases c : offE S G ps L = []
      · left
        exact ⟨c, hK4 _ ⟨ps, _, _, _, _, _, _, a, b, hc, hg, rfl⟩⟩
      · right
        refine ⟨c, useOne rfl rfl hg (by simpa using c) (by simp; omega) fun d a b hd hg => ?_⟩
        obtain ⟨q, hq, rfl⟩ := List.mem_map.mp hd
        have hq2 := hFm q hq
        simp
        refine ⟨ps, q, rfl, rfl, by omega, by rw [hlen]; exact hq2.2.1, ?_⟩
        exact hK4 _ ⟨newP ps q, _, _, _, _, _, _, a, b, hc.newP (hpL hL) hq2.2.1 hq2.1 hq2.2.2, hg, rfl⟩
    · rintro s ⟨ps, x7, x8, x9, x10, x11, x12, a, b, hc, hg, rfl⟩
      exact hK2 _ ⟨_, _, _, _, _, _, _, _, _, _, _, _, _, rfl⟩
  · rintro s ⟨x1, x2, x3, x4, x5, x6, x7, x8, x9, x10, x11, x12, M0, rfl⟩
    refine hK _ ?_
    simp
    exact hp

theorem ok_check_loose {P : Program} {w : World} {K : PySem.W.Frag} {mg : Str → Option Value} {base : Heap} {CA : Str → Addr} (T : Txt K mg CA) (G_INI : FnOk P w K mg base (L2.CX P w) 1 T.f_ini T.fd_ini ["self", "what"] (spIni K)) : FnOk P w K mg base (L2.CX P w) 3 T.f_check_loose T.fd_check_loose ["loose"] (lSp ⟨K, CA⟩ sp_check_loose) :=
  fn_ok (td := td_check_loose) T.F_check_loose sc_check_loose ⟨K, CA⟩ len_check_loose (by decide) (fun cdv A outer s H E hr => (dss_cons (ds_set (ps_set (i := 1) sc_check_loose.nd rfl (by first | exact Or.inl rfl | exact Or.inr rfl) de_int))
  (dss_one (ds_for (ps_for (passes_of rfl) rfl (di_enumC rfl (by rfl) T.z_enumerate (da_cons (de_var 0 (pv 0)) da_nil)) (dg_tup (by rfl) (dgs_cons (dg_name (pg_name (i := 2) sc_check_loose.nd rfl (by first | exact Or.inl rfl | exact Or.inr rfl))) (dgs_cons (dg_name (pg_name (i := 3) sc_check_loose.nd rfl (by first | exact Or.inl rfl | exact Or.inr rfl))) (dgs_nil (ix := []))))) (dss_cons (ds_if (dt_cmp op_le (fun _ _ _ _ h => lI2b h) (de_var 3 (pv 3)) (de_var 1 (pv 1)) (nomark _)) (dss_one (ds_raise rfl (T.e_er "BadLoose" (by decide)) T.ti_ini G_INI (hr.mono (by decide)) T.b_ini rfl (takes_of rfl rfl rfl rfl) (by rfl) T.gC_BadLoose (de_var 2 (pv 2)) passL)) dss_nil)
  (dss_one (ds_set (ps_set (i := 1) sc_check_loose.nd rfl (by first | exact Or.inl rfl | exact Or.inr rfl) (de_var 3 (pv 3))))))))))) math_check_loose

theorem ok_can_beat {P : Program} {w : World} {K : PySem.W.Frag} {mg : Str → Option Value} {base : Heap} {CA : Str → Addr} (T : Txt K mg CA) : FnOk P w K mg base (L2.CX P w) 1 T.f_can_beat T.fd_can_beat ["field", "y", "x"] (lSp ⟨K, CA⟩ sp_can_beat) :=
  fn_ok (td := td_can_beat) T.F_can_beat sc_can_beat ⟨K, CA⟩ len_can_beat (by decide) (fun cdv A outer s H E hr => (dss_one (ds_ret (de_and (de_cmp (op_neD hr.units) (l_ne rfl) (de_var 1 (pv 1)) (de_var 2 (pv 2)) (nomark _)) (de_one (de_cmp op_ge (fun _ _ _ _ h => lI2b h) (de_ix rfl (de_fld T.fc_Field.cl (T.fc_Field.na _ (by simp)) (de_var 0 (pv 0))) (de_var 1 (pv 1)) (fun _ _ => rfl)) (de_ix rfl (de_fld T.fc_Field.cl (T.fc_Field.na _ (by simp)) (de_var 0 (pv 0))) (de_var 2 (pv 2)) (fun _ _ => rfl)) (nomark _))))))) math_can_beat

theorem ok_check_form {P : Program} {w : World} {K : PySem.W.Frag} {mg : Str → Option Value} {base : Heap} {CA : Str → Addr} (T : Txt K mg CA) (G_INI : FnOk P w K mg base (L2.CX P w) 1 T.f_ini T.fd_ini ["self", "what"] (spIni K)) : FnOk P w K mg base (L2.CX P w) 3 T.f_check_form T.fd_check_form ["n", "pairs"] (lSp ⟨K, CA⟩ sp_check_form) :=
  fn_ok (td := td_check_form) T.F_check_form sc_check_form ⟨K, CA⟩ len_check_form (by decide) (fun cdv A outer s H E hr => (dss_cons (ds_if (dt_cmp (op_neD hr.units) (l_ne rfl) (de_len rfl (by rfl) T.z_len (da_cons (de_var 1 (pv 1)) da_nil)) (de_var 0 (pv 0)) (nomark _)) (dss_one (ds_raise rfl (T.e_er "Unlike" (by decide)) T.ti_ini G_INI (hr.mono (by decide)) T.b_ini rfl (takes_of rfl rfl rfl rfl) (by rfl) T.gC_Unlike (de_len rfl (by rfl) T.z_len (da_cons (de_var 1 (pv 1)) da_nil)) passL)) dss_nil)
  (dss_one (ds_for (ps_for (passes_of rfl) rfl (di_enum (by rfl) T.z_enumerate (da_cons (de_var 1 (pv 1)) da_nil)) (dg_tup (by rfl) (dgs_cons (dg_name (pg_name (i := 2) sc_check_form.nd rfl (by first | exact Or.inl rfl | exact Or.inr rfl))) (dgs_cons (dg_tup (by rfl) (dgs_cons (dg_name (pg_name (i := 3) sc_check_form.nd rfl (by first | exact Or.inl rfl | exact Or.inr rfl))) (dgs_cons (dg_name (pg_name (i := 4) sc_check_form.nd rfl (by first | exact Or.inl rfl | exact Or.inr rfl))) (dgs_nil (ix := []))))) (dgs_nil (ix := []))))) (dss_cons (ds_set (ps_set (i := 5) sc_check_form.nd rfl (by first | exact Or.inl rfl | exact Or.inr rfl) (de_and (de_cmp op_ge (fun _ _ _ _ h => lI2b h) (de_var 3 (pv 3)) de_int (nomark _)) (de_and (de_chain (pe_chain op_le op_lt de_int (de_var 4 (pv 4)) (de_var 0 (pv 0))) (fun _ _ _ _ h => lI2b h) (fun _ _ _ _ h => lI2b h)) (de_one (de_cmp (op_neD hr.units) (l_ne rfl) (de_var 4 (pv 4)) (de_var 2 (pv 2)) (nomark _)))))))
  (dss_one (ds_if (PW.pt (dw_and (dt_not (dt_tru rfl (de_var 5 (pv 5)))) (dw_and1 (dt_cmp (op_neD hr.units) (l_ne rfl) (de_tup (da_cons (de_var 3 (pv 3)) (da_cons (de_var 4 (pv 4)) da_nil))) (de_ct rfl (by rfl) T.c_STAYS T.k_STAYS) (nomark _))))) (dss_one (ds_raise rfl (T.e_er "BadGame" (by decide)) T.ti_ini G_INI (hr.mono (by decide)) T.b_ini rfl (takes_of rfl rfl rfl rfl) (by rfl) T.gC_BadGame (de_tup (da_cons (de_var 2 (pv 2)) (da_cons de_int da_nil))) passL)) dss_nil)))))))) math_check_form

theorem ok_check_no_gap {P : Program} {w : World} {K : PySem.W.Frag} {mg : Str → Option Value} {base : Heap} {CA : Str → Addr} (T : Txt K mg CA) (G_INI : FnOk P w K mg base (L2.CX P w) 1 T.f_ini T.fd_ini ["self", "what"] (spIni K)) : FnOk P w K mg base (L2.CX P w) 3 T.f_check_no_gap T.fd_check_no_gap ["n", "pairs"] (lSp ⟨K, CA⟩ sp_check_no_gap) :=
  fn_ok (td := td_check_no_gap) T.F_check_no_gap sc_check_no_gap ⟨K, CA⟩ len_check_no_gap (by decide) (fun cdv A outer s H E hr => (dss_cons (ds_newK (ps_set (i := 2) sc_check_no_gap.nd rfl (by first | exact Or.inl rfl | exact Or.inr rfl) pe_dnewK))
  (dss_cons (ds_for (ps_for (passes_of rfl) rfl (di_seq (de_var 1 (pv 1))) (dg_tup (by rfl) (dgs_cons (dg_name (pg_name (i := 3) sc_check_no_gap.nd rfl (by first | exact Or.inl rfl | exact Or.inr rfl))) (dgs_cons (dg_name (pg_name (i := 4) sc_check_no_gap.nd rfl (by first | exact Or.inl rfl | exact Or.inr rfl))) (dgs_nil (ix := []))))) (dss_one (ds_putK (hu1 hr) 2 (pv 2) (de_var 3 (pv 3)) de_bl (by rfl)))))
  (dss_one (ds_for (ps_for (passes_of rfl) rfl (di_range2 (by rfl) T.z_range (da_cons de_int (da_cons (de_min2 rfl (by rfl) T.z_min (da_cons (de_maxK rfl (by rfl) T.z_max (da_consC 2 (pv 2) da_nil)) (da_cons (de_add (de_var 0 (pv 0)) de_int) da_nil))) da_nil))) (dg_name (pg_name (i := 3) sc_check_no_gap.nd rfl (by first | exact Or.inl rfl | exact Or.inr rfl))) (dss_one (ds_if (dt_notInK (hu1 hr) 2 (pv 2) (de_var 3 (pv 3))) (dss_one (ds_raise rfl (T.e_er "BadRounds" (by decide)) T.ti_ini G_INI (hr.mono (by decide)) T.b_ini rfl (takes_of rfl rfl rfl rfl) (by rfl) T.gC_BadRounds (de_var 3 (pv 3)) passL)) dss_nil)))))))) math_check_no_gap

theorem ok_check_games {P : Program} {w : World} {K : PySem.W.Frag} {mg : Str → Option Value} {base : Heap} {CA : Str → Addr} (T : Txt K mg CA) (G_INI : FnOk P w K mg base (L2.CX P w) 1 T.f_ini T.fd_ini ["self", "what"] (spIni K)) (G_can_beat : FnOk P w K mg base (L2.CX P w) 1 T.f_can_beat T.fd_can_beat ["field", "y", "x"] (lSp ⟨K, CA⟩ sp_can_beat)) : FnOk P w K mg base (L2.CX P w) 3 T.f_check_games T.fd_check_games ["field", "pairs"] (lSp ⟨K, CA⟩ sp_check_games) :=
  fn_ok (td := td_check_games) T.F_check_games sc_check_games ⟨K, CA⟩ len_check_games (by decide) (fun cdv A outer s H E hr => (dss_cons (ds_newT (ps_set (i := 2) sc_check_games.nd rfl (by first | exact Or.inl rfl | exact Or.inr rfl) pe_dnewT))
  (dss_one (ds_for (ps_for (passes_of rfl) rfl (di_enum (by rfl) T.z_enumerate (da_cons (de_var 1 (pv 1)) da_nil)) (dg_tup (by rfl) (dgs_cons (dg_name (pg_name (i := 3) sc_check_games.nd rfl (by first | exact Or.inl rfl | exact Or.inr rfl))) (dgs_cons (dg_tup (by rfl) (dgs_cons (dg_name (pg_name (i := 4) sc_check_games.nd rfl (by first | exact Or.inl rfl | exact Or.inr rfl))) (dgs_cons (dg_name (pg_name (i := 5) sc_check_games.nd rfl (by first | exact Or.inl rfl | exact Or.inr rfl))) (dgs_nil (ix := []))))) (dgs_nil (ix := []))))) (dss_one (ds_if (dt_cmp op_gt (fun _ _ _ _ h => lI2b h) (de_var 4 (pv 4)) de_int (nomark _)) (dss_cons (ds_if (dt_chain (pt_chain op_lt op_le de_int (de_ix rfl (de_ix rfl (de_var 1 (pv 1)) (de_var 5 (pv 5)) (fun _ _ => rfl)) de_int (fun _ _ => rfl)) (de_var 4 (pv 4))) (fun _ _ _ _ h => lI2b h) (fun _ _ _ _ h => lI2b h)) (dss_one (ds_raise rfl (T.e_er "BadGame" (by decide)) T.ti_ini G_INI (hr.mono (by decide)) T.b_ini rfl (takes_of rfl rfl rfl rfl) (by rfl) T.gC_BadGame (de_tup (da_cons (de_var 3 (pv 3)) (da_cons de_int da_nil))) passL)) dss_nil)
  (dss_cons (ds_if (dt_inK (hu1 hr) 2 (pv 2) (de_tup (da_cons (de_var 4 (pv 4)) (da_cons (de_var 5 (pv 5)) da_nil)))) (dss_one (ds_raise rfl (T.e_er "BadGame" (by decide)) T.ti_ini G_INI (hr.mono (by decide)) T.b_ini rfl (takes_of rfl rfl rfl rfl) (by rfl) T.gC_BadGame (de_tup (da_cons (de_var 3 (pv 3)) (da_cons de_int da_nil))) passL)) dss_nil)
  (dss_cons (ds_if (dt_not (dt_tru rfl (de_call (takes_of rfl rfl rfl rfl) G_can_beat (hr.mono (by decide)) (by rfl) T.g_can_beat T.F_can_beat.kp T.b_can_beat (da_cons (de_var 0 (pv 0)) (da_cons (de_var 5 (pv 5)) (da_cons (de_var 3 (pv 3)) da_nil)))))) (dss_one (ds_raise rfl (T.e_er "BadGame" (by decide)) T.ti_ini G_INI (hr.mono (by decide)) T.b_ini rfl (takes_of rfl rfl rfl rfl) (by rfl) T.gC_BadGame (de_tup (da_cons (de_var 3 (pv 3)) (da_cons de_int da_nil))) passL)) dss_nil)
  (dss_one (ds_putK (hu1 hr) 2 (pv 2) (de_tup (da_cons (de_var 4 (pv 4)) (da_cons (de_var 5 (pv 5)) da_nil))) de_bl (by rfl)))))) dss_nil))))))) math_check_games

theorem ok_made_cup {P : Program} {w : World} {K : PySem.W.Frag} {mg : Str → Option Value} {base : Heap} {CA : Str → Addr} (T : Txt K mg CA) (G_check_form : FnOk P w K mg base (L2.CX P w) 3 T.f_check_form T.fd_check_form ["n", "pairs"] (lSp ⟨K, CA⟩ sp_check_form)) (G_check_no_gap : FnOk P w K mg base (L2.CX P w) 3 T.f_check_no_gap T.fd_check_no_gap ["n", "pairs"] (lSp ⟨K, CA⟩ sp_check_no_gap)) (G_check_games : FnOk P w K mg base (L2.CX P w) 3 T.f_check_games T.fd_check_games ["field", "pairs"] (lSp ⟨K, CA⟩ sp_check_games)) : FnOk P w K mg base (L2.CX P w) 4 T.f_made_cup T.fd_made_cup ["field", "pairs"] (lSp ⟨K, CA⟩ sp_made_cup) :=
  fn_ok (td := td_made_cup) T.F_made_cup sc_made_cup ⟨K, CA⟩ len_made_cup (by decide) (fun cdv A outer s H E hr => (dss_cons (ds_expr (de_call (takes_of rfl rfl rfl rfl) G_check_form (hr.mono (by decide)) (by rfl) T.g_check_form T.F_check_form.kp T.b_check_form (da_cons (de_fld T.fc_Field.cl (T.fc_Field.na _ (by simp)) (de_var 0 (pv 0))) (da_cons (de_var 1 (pv 1)) da_nil))))
  (dss_cons (ds_expr (de_call (takes_of rfl rfl rfl rfl) G_check_no_gap (hr.mono (by decide)) (by rfl) T.g_check_no_gap T.F_check_no_gap.kp T.b_check_no_gap (da_cons (de_fld T.fc_Field.cl (T.fc_Field.na _ (by simp)) (de_var 0 (pv 0))) (da_cons (de_var 1 (pv 1)) da_nil))))
  (dss_cons (ds_expr (de_call (takes_of rfl rfl rfl rfl) G_check_games (hr.mono (by decide)) (by rfl) T.g_check_games T.F_check_games.kp T.b_check_games (da_cons (de_var 0 (pv 0)) (da_cons (de_var 1 (pv 1)) da_nil))))
  (dss_one (ds_ret (de_var 1 (pv 1)))))))) math_made_cup

theorem ok_comes_through {P : Program} {w : World} {K : PySem.W.Frag} {mg : Str → Option Value} {base : Heap} {CA : Str → Addr} (T : Txt K mg CA) : FnOk P w K mg base (L2.CX P w) 1 T.f_comes_through T.fd_comes_through ["cup", "x", "r"] (lSp ⟨K, CA⟩ sp_comes_through) :=
  fn_ok (td := td_comes_through) T.F_comes_through sc_comes_through ⟨K, CA⟩ len_comes_through (by decide) (fun cdv A outer s H E hr => (dss_one (ds_ret (de_or (de_cmp (op_eqD hr.units) (l_eq rfl) (de_ix rfl (de_ix rfl (de_var 0 (pv 0)) (de_var 1 (pv 1)) (fun _ _ => rfl)) de_int (fun _ _ => rfl)) de_int (nomark _)) (de_one (de_cmp op_gt (fun _ _ _ _ h => lI2b h) (de_ix rfl (de_ix rfl (de_var 0 (pv 0)) (de_var 1 (pv 1)) (fun _ _ => rfl)) de_int (fun _ _ => rfl)) (de_var 2 (pv 2)) (nomark _))))))) math_comes_through

theorem ok_rests {P : Program} {w : World} {K : PySem.W.Frag} {mg : Str → Option Value} {base : Heap} {CA : Str → Addr} (T : Txt K mg CA) (G_comes_through : FnOk P w K mg base (L2.CX P w) 1 T.f_comes_through T.fd_comes_through ["cup", "x", "r"] (lSp ⟨K, CA⟩ sp_comes_through)) : FnOk P w K mg base (L2.CX P w) 2 T.f_rests T.fd_rests ["cup", "x", "r"] (lSp ⟨K, CA⟩ sp_rests) :=
  fn_ok (td := td_rests) T.F_rests sc_rests ⟨K, CA⟩ len_rests (by decide) (fun cdv A outer s H E hr => (dss_one (ds_ret (de_and (de_call (takes_of rfl rfl rfl rfl) G_comes_through (hr.mono (by decide)) (by rfl) T.g_comes_through T.F_comes_through.kp T.b_comes_through (da_cons (de_var 0 (pv 0)) (da_cons (de_var 1 (pv 1)) (da_cons (de_var 2 (pv 2)) da_nil)))) (de_one (de_cmp (op_notInT (hu65 hr)) (l_notInT rfl) (de_tup (da_cons (de_var 2 (pv 2)) (da_cons (de_var 1 (pv 1)) da_nil))) (de_var 0 (pv 0)) (by rfl))))))) math_rests

theorem ok_is_let {P : Program} {w : World} {K : PySem.W.Frag} {mg : Str → Option Value} {base : Heap} {CA : Str → Addr} (T : Txt K mg CA) (G_rests : FnOk P w K mg base (L2.CX P w) 2 T.f_rests T.fd_rests ["cup", "x", "r"] (lSp ⟨K, CA⟩ sp_rests)) (G_can_beat : FnOk P w K mg base (L2.CX P w) 1 T.f_can_beat T.fd_can_beat ["field", "y", "x"] (lSp ⟨K, CA⟩ sp_can_beat)) : FnOk P w K mg base (L2.CX P w) 3 T.f_is_let T.fd_is_let ["field", "cup", "deed", "loose"] (lSp ⟨K, CA⟩ sp_is_let) :=
  fn_ok (td := td_is_let) T.F_is_let sc_is_let ⟨K, CA⟩ len_is_let (by decide) (fun cdv A outer s H E hr => (dss_cons (ds_asg (ps_asg (de_var 2 (pv 2)) (dg_tup (by rfl) (dgs_cons (dg_name (pg_name (i := 4) sc_is_let.nd rfl (by first | exact Or.inl rfl | exact Or.inr rfl))) (dgs_cons (dg_name (pg_name (i := 5) sc_is_let.nd rfl (by first | exact Or.inl rfl | exact Or.inr rfl))) (dgs_cons (dg_name (pg_name (i := 6) sc_is_let.nd rfl (by first | exact Or.inl rfl | exact Or.inr rfl))) (dgs_nil (ix := []))))))))
  (dss_cons (ds_asg (ps_asg (de_ix rfl (de_var 1 (pv 1)) (de_var 5 (pv 5)) (fun _ _ => rfl)) (dg_tup (by rfl) (dgs_cons (dg_name (pg_name (i := 7) sc_is_let.nd rfl (by first | exact Or.inl rfl | exact Or.inr rfl))) (dgs_cons (dg_name (pg_name (i := 8) sc_is_let.nd rfl (by first | exact Or.inl rfl | exact Or.inr rfl))) (dgs_nil (ix := [])))))))
  (dss_cons (ds_if (dt_cmp (op_eqD hr.units) (l_eq rfl) (de_var 4 (pv 4)) de_str (nomark _)) (dss_one (ds_ret (de_and (de_cmp op_in_seq (l_inX rfl) (de_var 7 (pv 7)) (de_var 3 (pv 3)) (by rfl)) (de_and (de_call (takes_of rfl rfl rfl rfl) G_rests (hr.mono (by decide)) (by rfl) T.g_rests T.F_rests.kp T.b_rests (da_cons (de_var 1 (pv 1)) (da_cons (de_var 6 (pv 6)) (da_cons (de_var 7 (pv 7)) da_nil)))) (de_one (de_call (takes_of rfl rfl rfl rfl) G_can_beat (hr.mono (by decide)) (by rfl) T.g_can_beat T.F_can_beat.kp T.b_can_beat (da_cons (de_var 0 (pv 0)) (da_cons (de_var 6 (pv 6)) (da_cons (de_var 5 (pv 5)) da_nil))))))))) dss_nil)
  (dss_cons (ds_asg (ps_asg (de_ix rfl (de_var 1 (pv 1)) (de_var 6 (pv 6)) (fun _ _ => rfl)) (dg_tup (by rfl) (dgs_cons (dg_name (pg_name (i := 9) sc_is_let.nd rfl (by first | exact Or.inl rfl | exact Or.inr rfl))) (dgs_cons (dg_name (pg_name (i := 10) sc_is_let.nd rfl (by first | exact Or.inl rfl | exact Or.inr rfl))) (dgs_nil (ix := [])))))))
  (dss_one (ds_ret (de_and (de_cmp op_gt (fun _ _ _ _ h => lI2b h) (de_var 7 (pv 7)) de_int (nomark _)) (de_and (de_cmp (op_eqD hr.units) (l_eq rfl) (de_var 9 (pv 9)) (de_var 7 (pv 7)) (nomark _)) (de_and (de_call (takes_of rfl rfl rfl rfl) G_can_beat (hr.mono (by decide)) (by rfl) T.g_can_beat T.F_can_beat.kp T.b_can_beat (da_cons (de_var 0 (pv 0)) (da_cons (de_var 10 (pv 10)) (da_cons (de_var 5 (pv 5)) da_nil)))) (de_one (de_call (takes_of rfl rfl rfl rfl) G_can_beat (hr.mono (by decide)) (by rfl) T.g_can_beat T.F_can_beat.kp T.b_can_beat (da_cons (de_var 0 (pv 0)) (da_cons (de_var 8 (pv 8)) (da_cons (de_var 6 (pv 6)) da_nil))))))))))))))) math_is_let

theorem ok_offers {P : Program} {w : World} {K : PySem.W.Frag} {mg : Str → Option Value} {base : Heap} {CA : Str → Addr} (T : Txt K mg CA) (G_made_cup : FnOk P w K mg base (L2.CX P w) 4 T.f_made_cup T.fd_made_cup ["field", "pairs"] (lSp ⟨K, CA⟩ sp_made_cup)) (G_check_loose : FnOk P w K mg base (L2.CX P w) 3 T.f_check_loose T.fd_check_loose ["loose"] (lSp ⟨K, CA⟩ sp_check_loose)) (G_is_let : FnOk P w K mg base (L2.CX P w) 3 T.f_is_let T.fd_is_let ["field", "cup", "deed", "loose"] (lSp ⟨K, CA⟩ sp_is_let)) : FnOk P w K mg base (L2.CX P w) 5 T.f_offers T.fd_offers ["field", "cup", "loose"] (lSp ⟨K, CA⟩ sp_offers) :=
  fn_ok (td := td_offers) T.F_offers sc_offers ⟨K, CA⟩ len_offers (by decide) (fun cdv A outer s H E hr => (dss_cons (ds_expr (de_call (takes_of rfl rfl rfl rfl) G_made_cup (hr.mono (by decide)) (by rfl) T.g_made_cup T.F_made_cup.kp T.b_made_cup (da_cons (de_var 0 (pv 0)) (da_cons (de_var 1 (pv 1)) da_nil))))
  (dss_cons (ds_expr (de_call (takes_of rfl rfl rfl rfl) G_check_loose (hr.mono (by decide)) (by rfl) T.g_check_loose T.F_check_loose.kp T.b_check_loose (da_cons (de_var 2 (pv 2)) da_nil)))
  (dss_cons (ds_setF (ds_lc2 (ps_setLc2 (i := 3) (own := [("x", 4), ("y", 5)]) (vs1 := [5]) (by rfl) sc_offers.nd rfl rfl (sw_true rfl rfl rfl (by decide +kernel)) (di_range1 (by rfl) T.z_range (da_cons (de_fld T.fc_Field.cl (T.fc_Field.na _ (by simp)) (de_var 0 (pv 0))) da_nil)) (blkOk_by (N := ["field", "cup", "loose", "found", "x", "y", "deed"]) (sc := defScope st_offers) (by decide +kernel)) (by decide) (fun _ _ _ _ _ => (dg_name (pg_name (i := 4) sc_offers.nd rfl (by first | exact Or.inl rfl | exact Or.inr rfl)))) (fun _ _ _ _ _ => dts_nil) (fun _ _ _ _ _ => (dit_range2 (by rfl) T.z_range (da_cons (de_add (de_var 4 (pv 4)) de_int) (da_cons (de_fld T.fc_Field.cl (T.fc_Field.na _ (by simp)) (de_var 0 (pv 0))) da_nil)))) (fun _ _ _ _ _ => (dg_name (pg_name (i := 5) sc_offers.nd rfl (by first | exact Or.inl rfl | exact Or.inr rfl)))) (fun _ _ _ _ _ => dts_nil) (fun _ _ _ _ _ => (de_tup (da_cons de_str (da_cons (de_var 4 (pv 4)) (da_cons (de_var 5 (pv 5)) da_nil))))))))
  (dss_cons (ds_expr (de_extend 3 (pe_bm PySem.F.plainAttrs_list PySem.F.slot_list_extend PySem.F.type_list_extend mt_extend (pv 3) (pa_cons (de_f (df_lc2 (pe_lc2 (own := [("x", 4), ("y", 5)]) (vs1 := [5]) (by rfl) sc_offers.nd (di_range1 (by rfl) T.z_range (da_cons (de_fld T.fc_Field.cl (T.fc_Field.na _ (by simp)) (de_var 0 (pv 0))) da_nil)) (blkOk_by (N := ["field", "cup", "loose", "found", "x", "y", "deed"]) (sc := defScope st_offers) (by decide +kernel)) (by decide) (fun _ _ _ _ _ => (dg_name (pg_name (i := 4) sc_offers.nd rfl (by first | exact Or.inl rfl | exact Or.inr rfl)))) (fun _ _ _ _ _ => dts_nil) (fun _ _ _ _ _ => (dit_range1 (by rfl) T.z_range (da_cons (de_fld T.fc_Field.cl (T.fc_Field.na _ (by simp)) (de_var 0 (pv 0))) da_nil))) (fun _ _ _ _ _ => (dg_name (pg_name (i := 5) sc_offers.nd rfl (by first | exact Or.inl rfl | exact Or.inr rfl)))) (fun _ _ _ _ _ => dts_nil) (fun _ _ _ _ _ => (de_tup (da_cons de_str (da_cons (de_var 4 (pv 4)) (da_cons (de_var 5 (pv 5)) da_nil)))))))) pa_nil))))
  (dss_freeze 3 (dss_one (ds_ret (de_tuple (by rfl) T.z_tuple (da_cons (de_f (df_lc (pe_lc (own := [("deed", 6)]) (by rfl) sc_offers.nd (di_seq (de_var 3 (pv 3))) (blkOk_by (N := ["field", "cup", "loose", "found", "x", "y", "deed"]) (sc := defScope st_offers) (by decide +kernel)) (fun _ _ _ _ _ => (dg_name (pg_name (i := 6) sc_offers.nd rfl (by first | exact Or.inl rfl | exact Or.inr rfl)))) (fun _ _ _ _ _ => (dts_one (dt_tru rfl (de_call takes0 G_is_let (hr.mono (by decide)) (by rfl) T.g_is_let T.F_is_let.kp T.b_is_let (da_cons (de_var 0 (pv 0)) (da_cons (de_var 1 (pv 1)) (da_cons (de_var 6 (pv 6)) (da_cons (de_var 2 (pv 2)) da_nil)))))))) (fun _ _ _ _ _ => (de_var 6 (pv 6)))))) da_nil)))))))))) math_offers

theorem ok_made_field {P : Program} {w : World} {K : PySem.W.Frag} {mg : Str → Option Value} {base : Heap} {CA : Str → Addr} (T : Txt K mg CA) (G_INI : FnOk P w K mg base (L2.CX P w) 1 T.f_ini T.fd_ini ["self", "what"] (spIni K)) (G_FINI : FnOk P w K mg base (L2.CX P w) 1 T.f_fini T.fd_fini ["self", "strengths", "guards"] (spFI K)) : FnOk P w K mg base (L2.CX P w) 3 T.f_made_field T.fd_made_field ["strengths", "guards"] (lSp ⟨K, CA⟩ sp_made_field) :=
  fn_ok (td := td_made_field) T.F_made_field sc_made_field ⟨K, CA⟩ len_made_field (by decide) (fun cdv A outer s H E hr => (dss_cons (ds_if (dt_not (dt_chain (pt_chain op_le op_le de_int (de_len rfl (by rfl) T.z_len (da_cons (de_var 0 (pv 0)) da_nil)) (de_c (v := .int (32)) (pe_glob (by rfl) T.c_MOST_SIDES ⟨_, rfl⟩) (fun _ _ => by simp only [Rep]))) (fun _ _ _ _ h => lI2b h) (fun _ _ _ _ h => lI2b h))) (dss_one (ds_raise rfl (T.e_er "BadSize" (by decide)) T.ti_ini G_INI (hr.mono (by decide)) T.b_ini rfl (takes_of rfl rfl rfl rfl) (by rfl) T.gC_BadSize (de_len rfl (by rfl) T.z_len (da_cons (de_var 0 (pv 0)) da_nil)) passL)) dss_nil)
  (dss_cons (ds_for (ps_for (passes_of rfl) rfl (di_enum (by rfl) T.z_enumerate (da_cons (de_var 0 (pv 0)) da_nil)) (dg_tup (by rfl) (dgs_cons (dg_name (pg_name (i := 2) sc_made_field.nd rfl (by first | exact Or.inl rfl | exact Or.inr rfl))) (dgs_cons (dg_name (pg_name (i := 3) sc_made_field.nd rfl (by first | exact Or.inl rfl | exact Or.inr rfl))) (dgs_nil (ix := []))))) (dss_one (ds_if (dt_not (dt_chain (pt_chain op_le op_le (de_neg (de_c (v := .int (1000000000)) (pe_glob (by rfl) T.c_MOST ⟨_, rfl⟩) (fun _ _ => by simp only [Rep]))) (de_var 3 (pv 3)) (de_c (v := .int (1000000000)) (pe_glob (by rfl) T.c_MOST ⟨_, rfl⟩) (fun _ _ => by simp only [Rep]))) (fun _ _ _ _ h => lI2b h) (fun _ _ _ _ h => lI2b h))) (dss_one (ds_raise rfl (T.e_er "BadStrength" (by decide)) T.ti_ini G_INI (hr.mono (by decide)) T.b_ini rfl (takes_of rfl rfl rfl rfl) (by rfl) T.gC_BadStrength (de_var 2 (pv 2)) passL)) dss_nil))))
  (dss_cons (ds_if (dt_cmp (op_neD hr.units) (l_ne rfl) (de_len rfl (by rfl) T.z_len (da_cons (de_var 1 (pv 1)) da_nil)) (de_len rfl (by rfl) T.z_len (da_cons (de_var 0 (pv 0)) da_nil)) (nomark _)) (dss_one (ds_raise rfl (T.e_er "Unlike" (by decide)) T.ti_ini G_INI (hr.mono (by decide)) T.b_ini rfl (takes_of rfl rfl rfl rfl) (by rfl) T.gC_Unlike (de_len rfl (by rfl) T.z_len (da_cons (de_var 1 (pv 1)) da_nil)) passL)) dss_nil)
  (dss_cons (ds_for (ps_for (passes_of rfl) rfl (di_enum (by rfl) T.z_enumerate (da_cons (de_var 1 (pv 1)) da_nil)) (dg_tup (by rfl) (dgs_cons (dg_name (pg_name (i := 2) sc_made_field.nd rfl (by first | exact Or.inl rfl | exact Or.inr rfl))) (dgs_cons (dg_name (pg_name (i := 4) sc_made_field.nd rfl (by first | exact Or.inl rfl | exact Or.inr rfl))) (dgs_nil (ix := []))))) (dss_one (ds_if (dt_not (dt_chain (pt_chain op_le op_le (de_neg (de_c (v := .int (1000000000)) (pe_glob (by rfl) T.c_MOST ⟨_, rfl⟩) (fun _ _ => by simp only [Rep]))) (de_var 4 (pv 4)) (de_c (v := .int (1000000000)) (pe_glob (by rfl) T.c_MOST ⟨_, rfl⟩) (fun _ _ => by simp only [Rep]))) (fun _ _ _ _ h => lI2b h) (fun _ _ _ _ h => lI2b h))) (dss_one (ds_raise rfl (T.e_er "BadGuard" (by decide)) T.ti_ini G_INI (hr.mono (by decide)) T.b_ini rfl (takes_of rfl rfl rfl rfl) (by rfl) T.gC_BadGuard (de_var 2 (pv 2)) passL)) dss_nil))))
  (dss_one (ds_ret (de_mkF T.fc_Field G_FINI (hr.mono (by decide)) (by rfl) T.gC_Field T.b_fini passL (da_cons (de_var 0 (pv 0)) (da_cons (de_var 1 (pv 1)) da_nil)))))))))) math_made_field

theorem ok__law_pool {P : Program} {w : World} {K : PySem.W.Frag} {mg : Str → Option Value} {base : Heap} {CA : Str → Addr} (T : Txt K mg CA) : FnOk P w K mg base (L2.CX P w) 1 T.f__law_pool T.fd__law_pool ["_law_script", "_law_k"] (lSpF ⟨K, CA⟩ sp__law_pool) :=
  fn_okF (td := td__law_pool) T.F__law_pool sc__law_pool ⟨K, CA⟩ len__law_pool (by decide) (fun cdv A outer s H E hr => ⟨_, (pss_cons (ds_set (ps_set (i := 2) sc__law_pool.nd rfl (by first | exact Or.inl rfl | exact Or.inr rfl) de_int))
  (pss_cons (ds_if (dt_cmp op_lt (fun _ _ _ _ h => lI2b h) (de_var 1 (pv 1)) (de_len rfl (by rfl) T.z_len (da_cons (de_var 0 (pv 0)) da_nil)) (nomark _)) (dss_one (ds_set (ps_set (i := 2) sc__law_pool.nd rfl (by first | exact Or.inl rfl | exact Or.inr rfl) (de_ix rfl (de_var 0 (pv 0)) (de_var 1 (pv 1)) (fun _ _ => rfl))))) (dss_one (ds_if (dt_tru rfl (de_var 0 (pv 0))) (dss_one (ds_set (ps_set (i := 2) sc__law_pool.nd rfl (by first | exact Or.inl rfl | exact Or.inr rfl) (de_ix rfl (de_var 0 (pv 0)) de_int (fun _ _ => rfl))))) dss_nil)))
  (pss_cons (ds_set (ps_set (i := 3) sc__law_pool.nd rfl (by first | exact Or.inl rfl | exact Or.inr rfl) (de_max2 rfl (by rfl) T.z_max (da_cons (de_intc (by rfl) T.z_int (da_cons (de_var 2 (pv 2)) da_nil)) (da_cons (de_intc (by rfl) T.z_int (da_cons (de_sub (de_neg de_int) (de_var 2 (pv 2))) da_nil)) da_nil)))))
  (pss_cons (ds_set (ps_set (i := 4) sc__law_pool.nd rfl (by first | exact Or.inl rfl | exact Or.inr rfl) (de_mod (de_intc (by rfl) T.z_int (da_cons (de_mul (de_add (de_add (de_add (de_mod (de_intc (by rfl) T.z_int (da_cons (de_var 3 (pv 3)) da_nil)) de_int) (de_mul (de_mul de_int (de_var 1 (pv 1))) (de_var 1 (pv 1)))) (de_mul de_int (de_var 1 (pv 1)))) de_int) de_int) da_nil)) de_int)))
  (pss_one (ps_ret (df_lst (da_cons (de_mul (de_var 3 (pv 3)) (de_intc (by rfl) T.z_int (da_cons (de_cmp op_ge (fun _ _ _ _ h => lI2b h) (de_var 3 (pv 3)) (de_pow de_int de_int) (nomark _)) da_nil))) (da_cons (de_var 4 (pv 4)) da_nil))))))))), (rf_cons (rf_cons (rf_cons (rf_cons rf_ret))))⟩) math__law_pool

theorem ok__law_take {P : Program} {w : World} {K : PySem.W.Frag} {mg : Str → Option Value} {base : Heap} {CA : Str → Addr} (T : Txt K mg CA) : FnOk P w K mg base (L2.CX P w) 1 T.f__law_take T.fd__law_take ["_law_source", "_law_top"] (lSp ⟨K, CA⟩ sp__law_take) :=
  fn_ok (td := td__law_take) T.F__law_take sc__law_take ⟨K, CA⟩ len__law_take (by decide) (fun cdv A outer s H E hr => (dss_cons (ds_if (dt_cmp op_gt (fun _ _ _ _ h => lI2b h) (de_ixC 0 (pv 0) de_int (fun _ _ => rfl)) de_int (nomark _)) (dss_cons (ds_set (ps_set (i := 2) sc__law_take.nd rfl (by first | exact Or.inl rfl | exact Or.inr rfl) (de_mod (de_intc (by rfl) T.z_int (da_cons (de_ixC 0 (pv 0) de_int (fun _ _ => rfl)) da_nil)) (de_var 1 (pv 1)))))
  (dss_cons (ds_setIx 0 (ps_asg (de_div (de_ixC 0 (pv 0) de_int (fun _ _ => rfl)) (de_var 1 (pv 1))) (pg_sub (pv 0) de_int set_list)))
  (dss_one (ds_ret (de_var 2 (pv 2)))))) dss_nil)
  (dss_cons (ds_setIx 0 (ps_asg (de_mod (de_intc (by rfl) T.z_int (da_cons (de_add (de_mul (de_ixC 0 (pv 0) de_int (fun _ _ => rfl)) de_int) de_int) da_nil)) de_int) (pg_sub (pv 0) de_int set_list)))
  (dss_one (ds_ret (de_mod (de_intc (by rfl) T.z_int (da_cons (de_div (de_mod (de_intc (by rfl) T.z_int (da_cons (de_mul (de_ixC 0 (pv 0) de_int (fun _ _ => rfl)) (de_ixC 0 (pv 0) de_int (fun _ _ => rfl))) da_nil)) de_int) de_int) da_nil)) (de_var 1 (pv 1)))))))) math__law_take

theorem ok__law_one {P : Program} {w : World} {K : PySem.W.Frag} {mg : Str → Option Value} {base : Heap} {CA : Str → Addr} (T : Txt K mg CA) (G__law_take : FnOk P w K mg base (L2.CX P w) 1 T.f__law_take T.fd__law_take ["_law_source", "_law_top"] (lSp ⟨K, CA⟩ sp__law_take)) : FnOk P w K mg base (L2.CX P w) 2 T.f__law_one T.fd__law_one ["_law_source", "_law_things"] (lSp ⟨K, CA⟩ sp__law_one) :=
  fn_ok (td := td__law_one) T.F__law_one sc__law_one ⟨K, CA⟩ len__law_one (by decide) (fun cdv A outer s H E hr => (dss_one (ds_ret (de_ix rfl (de_var 1 (pv 1)) (de_call (takes_of rfl rfl rfl rfl) G__law_take (hr.mono (by decide)) (by rfl) T.g__law_take T.F__law_take.kp T.b__law_take (da_consC 0 (pv 0) (da_cons (de_len rfl (by rfl) T.z_len (da_cons (de_var 1 (pv 1)) da_nil)) da_nil))) (fun _ _ => rfl))))) math__law_one

theorem ok__law_shuffled {P : Program} {w : World} {K : PySem.W.Frag} {mg : Str → Option Value} {base : Heap} {CA : Str → Addr} (T : Txt K mg CA) (G__law_take : FnOk P w K mg base (L2.CX P w) 1 T.f__law_take T.fd__law_take ["_law_source", "_law_top"] (lSp ⟨K, CA⟩ sp__law_take)) : FnOk P w K mg base (L2.CX P w) 2 T.f__law_shuffled T.fd__law_shuffled ["_law_source", "_law_count"] (lSp ⟨K, CA⟩ sp__law_shuffled) :=
  fn_ok (td := td__law_shuffled) T.F__law_shuffled sc__law_shuffled ⟨K, CA⟩ len__law_shuffled (by decide) (fun cdv A outer s H E hr => (dss_cons (ds_parG (ps_par (i := 2) (j := 3) (by rfl) sc__law_shuffled.nd rfl rfl (by decide) rfl rfl (dag_consF (df_lc (pe_lc (own := [("_law_x", 4)]) (by rfl) sc__law_shuffled.nd (di_range1 (by rfl) T.z_range (da_cons (de_var 1 (pv 1)) da_nil)) (blkOk_by (N := ["_law_source", "_law_count", "_law_left", "_law_found", "_law_x", "_law_turn"]) (sc := defScope st__law_shuffled) (by decide +kernel)) (fun _ _ _ _ _ => (dg_name (pg_name (i := 4) sc__law_shuffled.nd rfl (by first | exact Or.inl rfl | exact Or.inr rfl)))) (fun _ _ _ _ _ => dts_nil) (fun _ _ _ _ _ => (de_var 4 (pv 4))))) (dag_consF (df_lst da_nil) dag_nil)) (by rfl)))
  (dss_cons (ds_for (ps_for (passes_of rfl) rfl (di_range1 (by rfl) T.z_range (da_cons (de_var 1 (pv 1)) da_nil)) (dg_name (pg_name (i := 5) sc__law_shuffled.nd rfl (by first | exact Or.inl rfl | exact Or.inr rfl))) (dss_one (ds_expr (de_append 3 (pe_bm PySem.F.plainAttrs_list PySem.F.slot_list_append PySem.F.type_list_append mt_append (pv 3) (pa_cons (de_popAt 2 (pe_bm PySem.F.plainAttrs_list PySem.F.slot_list_pop PySem.F.type_list_pop mt_popAt (pv 2) (pa_cons (de_call (takes_of rfl rfl rfl rfl) G__law_take (hr.mono (by decide)) (by rfl) T.g__law_take T.F__law_take.kp T.b__law_take (da_consC 0 (pv 0) (da_cons (de_len rfl (by rfl) T.z_len (da_consC 2 (pv 2) da_nil)) da_nil))) pa_nil))) pa_nil)))))))
  (dss_freeze 3 (dss_one (ds_ret (de_var 3 (pv 3)))))))) math__law_shuffled

theorem ok__law_figures {P : Program} {w : World} {K : PySem.W.Frag} {mg : Str → Option Value} {base : Heap} {CA : Str → Addr} (T : Txt K mg CA) (G__law_take : FnOk P w K mg base (L2.CX P w) 1 T.f__law_take T.fd__law_take ["_law_source", "_law_top"] (lSp ⟨K, CA⟩ sp__law_take)) (G__law_shuffled : FnOk P w K mg base (L2.CX P w) 2 T.f__law_shuffled T.fd__law_shuffled ["_law_source", "_law_count"] (lSp ⟨K, CA⟩ sp__law_shuffled)) : FnOk P w K mg base (L2.CX P w) 3 T.f__law_figures T.fd__law_figures ["_law_source", "_law_n"] (lSp ⟨K, CA⟩ sp__law_figures) :=
  fn_ok (td := td__law_figures) T.F__law_figures sc__law_figures ⟨K, CA⟩ len__law_figures (by decide) (fun cdv A outer s H E hr => (dss_cons (ds_set (ps_set (i := 2) sc__law_figures.nd rfl (by first | exact Or.inl rfl | exact Or.inr rfl) (de_call (takes_of rfl rfl rfl rfl) G__law_take (hr.mono (by decide)) (by rfl) T.g__law_take T.F__law_take.kp T.b__law_take (da_consC 0 (pv 0) (da_cons de_int da_nil)))))
  (dss_cons (ds_if (dt_cmp (op_eqD hr.units) (l_eq rfl) (de_var 2 (pv 2)) de_int (nomark _)) (dss_cons (ds_set (ps_set (i := 3) sc__law_figures.nd rfl (by first | exact Or.inl rfl | exact Or.inr rfl) (de_tuple (by rfl) T.z_tuple (da_cons (de_call (takes_of rfl rfl rfl rfl) G__law_shuffled (hr.mono (by decide)) (by rfl) T.g__law_shuffled T.F__law_shuffled.kp T.b__law_shuffled (da_consC 0 (pv 0) (da_cons (de_var 1 (pv 1)) da_nil))) da_nil))))
  (dss_one (ds_ret (de_tup (da_cons (de_var 3 (pv 3)) (da_cons (de_var 3 (pv 3)) da_nil)))))) dss_nil)
  (dss_cons (ds_set (ps_set (i := 4) sc__law_figures.nd rfl (by first | exact Or.inl rfl | exact Or.inr rfl) (de_tuple (by rfl) T.z_tuple (da_cons (de_f (df_lc (pe_lc (own := [("_law_x", 5)]) (by rfl) sc__law_figures.nd (di_range1 (by rfl) T.z_range (da_cons (de_var 1 (pv 1)) da_nil)) (blkOk_by (N := ["_law_source", "_law_n", "_law_kind", "_law_row", "_law_ranks", "_law_x"]) (sc := defScope st__law_figures) (by decide +kernel)) (fun _ _ _ _ _ => (dg_name (pg_name (i := 5) sc__law_figures.nd rfl (by first | exact Or.inl rfl | exact Or.inr rfl)))) (fun _ _ _ _ _ => dts_nil) (fun _ _ _ _ _ => (de_call takes0 G__law_take (hr.mono (by decide)) (by rfl) T.g__law_take T.F__law_take.kp T.b__law_take (da_consC 0 (pv 0) (da_cons de_int da_nil))))))) da_nil))))
  (dss_cons (ds_if (dt_cmp (op_eqD hr.units) (l_eq rfl) (de_var 2 (pv 2)) de_int (nomark _)) (dss_one (ds_ret (de_tup (da_cons (de_var 4 (pv 4)) (da_cons (de_var 4 (pv 4)) da_nil))))) dss_nil)
  (dss_one (ds_ret (de_tup (da_cons (de_var 4 (pv 4)) (da_cons (de_tuple (by rfl) T.z_tuple (da_cons (de_f (df_lc (pe_lc (own := [("_law_x", 5)]) (by rfl) sc__law_figures.nd (di_range1 (by rfl) T.z_range (da_cons (de_var 1 (pv 1)) da_nil)) (blkOk_by (N := ["_law_source", "_law_n", "_law_kind", "_law_row", "_law_ranks", "_law_x"]) (sc := defScope st__law_figures) (by decide +kernel)) (fun _ _ _ _ _ => (dg_name (pg_name (i := 5) sc__law_figures.nd rfl (by first | exact Or.inl rfl | exact Or.inr rfl)))) (fun _ _ _ _ _ => dts_nil) (fun _ _ _ _ _ => (de_sub (de_call takes0 G__law_take (hr.mono (by decide)) (by rfl) T.g__law_take T.F__law_take.kp T.b__law_take (da_consC 0 (pv 0) (da_cons de_int da_nil))) de_int))))) da_nil)) da_nil)))))))))) math__law_figures

theorem ok__law_may {P : Program} {w : World} {K : PySem.W.Frag} {mg : Str → Option Value} {base : Heap} {CA : Str → Addr} (T : Txt K mg CA) : FnOk P w K mg base (L2.CX P w) 1 T.f__law_may T.fd__law_may ["_law_figures_here", "_law_y", "_law_x"] (lSp ⟨K, CA⟩ sp__law_may) :=
  fn_ok (td := td__law_may) T.F__law_may sc__law_may ⟨K, CA⟩ len__law_may (by decide) (fun cdv A outer s H E hr => (dss_one (ds_ret (de_and (de_cmp (op_neD hr.units) (l_ne rfl) (de_var 1 (pv 1)) (de_var 2 (pv 2)) (nomark _)) (de_one (de_cmp op_ge (fun _ _ _ _ h => lI2b h) (de_ix rfl (de_ix rfl (de_var 0 (pv 0)) de_int (fun _ _ => rfl)) (de_var 1 (pv 1)) (fun _ _ => rfl)) (de_ix rfl (de_ix rfl (de_var 0 (pv 0)) de_int (fun _ _ => rfl)) (de_var 2 (pv 2)) (fun _ _ => rfl)) (nomark _))))))) math__law_may

theorem ok__law_stair {P : Program} {w : World} {K : PySem.W.Frag} {mg : Str → Option Value} {base : Heap} {CA : Str → Addr} (T : Txt K mg CA) : FnOk P w K mg base (L2.CX P w) 1 T.f__law_stair T.fd__law_stair ["_law_figures_here", "_law_sides"] (lSp ⟨K, CA⟩ sp__law_stair) :=
  fn_ok (td := td__law_stair) T.F__law_stair sc__law_stair ⟨K, CA⟩ len__law_stair (by decide) (fun cdv A outer s H E hr => (dss_one (ds_ret (de_f (df_lc (pe_lc (own := [("_law_guard", 2), ("_law_x", 3)]) (by rfl) sc__law_stair.nd (di_seq (de_sorted (by rfl) T.z_sorted (da_cons (de_f (df_lc (pe_lc (own := [("_law_x", 3)]) (by rfl) sc__law_stair.nd (di_seq (de_var 1 (pv 1))) (blkOk_by (N := ["_law_figures_here", "_law_sides", "_law_guard", "_law_x"]) (sc := defScope st__law_stair) (by decide +kernel)) (fun _ _ _ _ _ => (dg_name (pg_name (i := 3) sc__law_stair.nd rfl (by first | exact Or.inl rfl | exact Or.inr rfl)))) (fun _ _ _ _ _ => dts_nil) (fun _ _ _ _ _ => (de_tup (da_cons (de_neg (de_ix rfl (de_ix rfl (de_var 0 (pv 0)) de_int (fun _ _ => rfl)) (de_var 3 (pv 3)) (fun _ _ => rfl))) (da_cons (de_var 3 (pv 3)) da_nil))))))) da_nil))) (blkOk_by (N := ["_law_figures_here", "_law_sides", "_law_guard", "_law_x"]) (sc := defScope st__law_stair) (by decide +kernel)) (fun _ _ _ _ _ => (dg_tup (by rfl) (dgs_cons (dg_name (pg_name (i := 2) sc__law_stair.nd rfl (by first | exact Or.inl rfl | exact Or.inr rfl))) (dgs_cons (dg_name (pg_name (i := 3) sc__law_stair.nd rfl (by first | exact Or.inl rfl | exact Or.inr rfl))) (dgs_nil (ix := [])))))) (fun _ _ _ _ _ => dts_nil) (fun _ _ _ _ _ => (de_var 3 (pv 3))))))))) math__law_stair

theorem ok__law_drawn_round {P : Program} {w : World} {K : PySem.W.Frag} {mg : Str → Option Value} {base : Heap} {CA : Str → Addr} (T : Txt K mg CA) (G__law_shuffled : FnOk P w K mg base (L2.CX P w) 2 T.f__law_shuffled T.fd__law_shuffled ["_law_source", "_law_count"] (lSp ⟨K, CA⟩ sp__law_shuffled)) (G__law_take : FnOk P w K mg base (L2.CX P w) 1 T.f__law_take T.fd__law_take ["_law_source", "_law_top"] (lSp ⟨K, CA⟩ sp__law_take)) (G__law_stair : FnOk P w K mg base (L2.CX P w) 1 T.f__law_stair T.fd__law_stair ["_law_figures_here", "_law_sides"] (lSp ⟨K, CA⟩ sp__law_stair)) (G__law_may : FnOk P w K mg base (L2.CX P w) 1 T.f__law_may T.fd__law_may ["_law_figures_here", "_law_y", "_law_x"] (lSp ⟨K, CA⟩ sp__law_may)) (G__law_one : FnOk P w K mg base (L2.CX P w) 2 T.f__law_one T.fd__law_one ["_law_source", "_law_things"] (lSp ⟨K, CA⟩ sp__law_one)) : FnOk P w K mg base (L2.CX P w) 3 T.f__law_drawn_round T.fd__law_drawn_round ["_law_source", "_law_figures_here", "_law_left", "_law_is_full"] (lSp ⟨K, CA⟩ sp__law_drawn_round) :=
  fn_ok (td := td__law_drawn_round) T.F__law_drawn_round sc__law_drawn_round ⟨K, CA⟩ len__law_drawn_round (by decide) (fun cdv A outer s H E hr => (dss_cons (ds_set (ds_fe (ds_lc (ps_setLc (i := 4) (own := [("_law_k", 5)]) (by rfl) sc__law_drawn_round.nd rfl rfl (sw_true rfl rfl rfl (by decide +kernel)) (di_seq (de_call (takes_of rfl rfl rfl rfl) G__law_shuffled (hr.mono (by decide)) (by rfl) T.g__law_shuffled T.F__law_shuffled.kp T.b__law_shuffled (da_consC 0 (pv 0) (da_cons (de_len rfl (by rfl) T.z_len (da_consC 2 (pv 2) da_nil)) da_nil)))) (blkOk_by (N := ["_law_source", "_law_figures_here", "_law_left", "_law_is_full", "_law_names", "_law_k", "_law_many", "_law_seats", "_law_found", "_law_x", "_law_may_here", "_law_y"]) (sc := defScope st__law_drawn_round) (by decide +kernel)) (fun _ _ _ _ _ => (dg_name (pg_name (i := 5) sc__law_drawn_round.nd rfl (by first | exact Or.inl rfl | exact Or.inr rfl)))) (fun _ _ _ _ _ => dts_nil) (fun _ _ _ _ _ => (de_ixC 2 (pv 2) (de_var 5 (pv 5)) (fun _ _ => rfl)))))))
  (dss_cons (ds_set (ps_set (i := 6) sc__law_drawn_round.nd rfl (by first | exact Or.inl rfl | exact Or.inr rfl) (de_div (de_len rfl (by rfl) T.z_len (da_consC 2 (pv 2) da_nil)) de_int)))
  (dss_cons (ds_if (dt_not (dt_tru rfl (de_var 3 (pv 3)))) (dss_one (ds_set (ps_set (i := 6) sc__law_drawn_round.nd rfl (by first | exact Or.inl rfl | exact Or.inr rfl) (de_call (takes_of rfl rfl rfl rfl) G__law_take (hr.mono (by decide)) (by rfl) T.g__law_take T.F__law_take.kp T.b__law_take (da_consC 0 (pv 0) (da_cons (de_add (de_var 6 (pv 6)) de_int) da_nil)))))) dss_nil)
  (dss_cons (ds_parG (ps_par (i := 7) (j := 8) (by rfl) sc__law_drawn_round.nd rfl rfl (by decide) rfl rfl (dag_consF (df_slice (de_var 4 (pv 4)) (do_some (de_var 6 (pv 6))) do_none) (dag_consF (df_lst da_nil) dag_nil)) (by rfl)))
  (dss_cons (ds_for (ps_for (passes_of rfl) rfl (di_seq (de_call (takes_of rfl rfl rfl rfl) G__law_stair (hr.mono (by decide)) (by rfl) T.g__law_stair T.F__law_stair.kp T.b__law_stair (da_cons (de_var 1 (pv 1)) (da_cons (de_slice (de_var 4 (pv 4)) do_none (do_some (de_var 6 (pv 6)))) da_nil)))) (dg_name (pg_name (i := 9) sc__law_drawn_round.nd rfl (by first | exact Or.inl rfl | exact Or.inr rfl))) (dss_cons (ds_set (ds_fe (ds_lend 7 (ds_lc (ps_setLc (i := 10) (own := [("_law_y", 11)]) (by rfl) sc__law_drawn_round.nd rfl rfl (sw_true rfl rfl rfl (by decide +kernel)) (di_seq (de_var 7 (pv 7))) (blkOk_by (N := ["_law_source", "_law_figures_here", "_law_left", "_law_is_full", "_law_names", "_law_k", "_law_many", "_law_seats", "_law_found", "_law_x", "_law_may_here", "_law_y"]) (sc := defScope st__law_drawn_round) (by decide +kernel)) (fun _ _ _ _ _ => (dg_name (pg_name (i := 11) sc__law_drawn_round.nd rfl (by first | exact Or.inl rfl | exact Or.inr rfl)))) (fun _ _ _ _ _ => (dts_one (dt_tru rfl (de_call takes0 G__law_may (hr.mono (by decide)) (by rfl) T.g__law_may T.F__law_may.kp T.b__law_may (da_cons (de_var 1 (pv 1)) (da_cons (de_var 11 (pv 11)) (da_cons (de_var 9 (pv 9)) da_nil))))))) (fun _ _ _ _ _ => (de_var 11 (pv 11))))))))
  (dss_one (ds_if (dt_tru rfl (de_var 10 (pv 10))) (dss_cons (ds_set (ps_set (i := 11) sc__law_drawn_round.nd rfl (by first | exact Or.inl rfl | exact Or.inr rfl) (de_call (takes_of rfl rfl rfl rfl) G__law_one (hr.mono (by decide)) (by rfl) T.g__law_one T.F__law_one.kp T.b__law_one (da_consC 0 (pv 0) (da_cons (de_var 10 (pv 10)) da_nil)))))
  (dss_cons (ds_expr (de_remove 7 (pe_bm PySem.F.plainAttrs_list PySem.F.slot_list_remove PySem.F.type_list_remove mt_remove (pv 7) (pa_cons (de_var 11 (pv 11)) pa_nil))))
  (dss_one (ds_expr (de_append 8 (pe_bm PySem.F.plainAttrs_list PySem.F.slot_list_append PySem.F.type_list_append mt_append (pv 8) (pa_cons (de_tup (da_cons (de_var 9 (pv 9)) (da_cons (de_var 11 (pv 11)) da_nil))) pa_nil))))))) dss_nil)))))
  (dss_freeze 8 (dss_one (ds_ret (de_var 8 (pv 8))))))))))) math__law_drawn_round

theorem ok__law_cup {P : Program} {w : World} {K : PySem.W.Frag} {mg : Str → Option Value} {base : Heap} {CA : Str → Addr} (T : Txt K mg CA) (G__law_take : FnOk P w K mg base (L2.CX P w) 1 T.f__law_take T.fd__law_take ["_law_source", "_law_top"] (lSp ⟨K, CA⟩ sp__law_take)) (G__law_drawn_round : FnOk P w K mg base (L2.CX P w) 3 T.f__law_drawn_round T.fd__law_drawn_round ["_law_source", "_law_figures_here", "_law_left", "_law_is_full"] (lSp ⟨K, CA⟩ sp__law_drawn_round)) : FnOk P w K mg base (L2.CX P w) 4 T.f__law_cup T.fd__law_cup ["_law_source", "_law_figures_here"] (lSp ⟨K, CA⟩ sp__law_cup) :=
  fn_ok (td := td__law_cup) T.F__law_cup sc__law_cup ⟨K, CA⟩ len__law_cup (by decide) (fun cdv A outer s H E hr => (dss_cons (ds_set (ps_set (i := 2) sc__law_cup.nd rfl (by first | exact Or.inl rfl | exact Or.inr rfl) (de_len rfl (by rfl) T.z_len (da_cons (de_ix rfl (de_var 1 (pv 1)) de_int (fun _ _ => rfl)) da_nil))))
  (dss_cons (ds_parG3 (ps_par3 (i := 3) (j := 4) (l := 5) (by rfl) sc__law_cup.nd rfl rfl rfl (by decide) (by decide) (by decide) rfl rfl rfl (dag_consF (df_mul (de_f (df_lst (da_cons (de_tup (da_cons de_int (da_cons (de_neg de_int) da_nil))) da_nil))) (de_var 2 (pv 2))) (dag_consF (df_lc (pe_lc (own := [("_law_x", 6)]) (by rfl) sc__law_cup.nd (di_range1 (by rfl) T.z_range (da_cons (de_var 2 (pv 2)) da_nil)) (blkOk_by (N := ["_law_source", "_law_figures_here", "_law_n", "_law_row", "_law_left", "_law_is_full", "_law_x", "_law_r", "_law_found", "_law_y"]) (sc := defScope st__law_cup) (by decide +kernel)) (fun _ _ _ _ _ => (dg_name (pg_name (i := 6) sc__law_cup.nd rfl (by first | exact Or.inl rfl | exact Or.inr rfl)))) (fun _ _ _ _ _ => dts_nil) (fun _ _ _ _ _ => (de_var 6 (pv 6))))) (dag_cons (de_cmp (op_eqD hr.units) (l_eq rfl) (de_call (takes_of rfl rfl rfl rfl) G__law_take (hr.mono (by decide)) (by rfl) T.g__law_take T.F__law_take.kp T.b__law_take (da_consC 0 (pv 0) (da_cons de_int da_nil))) de_int (nomark _)) dag_nil))) (by rfl)))
  (dss_cons (ds_for (ps_for (passes_of rfl) rfl (di_range2 (by rfl) T.z_range (da_cons de_int (da_cons (de_var 2 (pv 2)) da_nil))) (dg_name (pg_name (i := 7) sc__law_cup.nd rfl (by first | exact Or.inl rfl | exact Or.inr rfl))) (dss_cons (ds_set (ps_set (i := 8) sc__law_cup.nd rfl (by first | exact Or.inl rfl | exact Or.inr rfl) (de_call2 (takes_of rfl rfl rfl rfl) G__law_drawn_round (hr.mono (by decide)) (by rfl) T.g__law_drawn_round T.F__law_drawn_round.kp T.b__law_drawn_round (da_consC 0 (pv 0) (da_cons (de_var 1 (pv 1)) (da_consC 4 (pv 4) (da_cons (de_or (de_var 5 (pv 5)) (de_one (de_cmp op_gt (fun _ _ _ _ h => lI2b h) (de_call (takes_of rfl rfl rfl rfl) G__law_take (hr.mono (by decide)) (by rfl) T.g__law_take T.F__law_take.kp T.b__law_take (da_consC 0 (pv 0) (da_cons de_int da_nil))) de_int (nomark _)))) da_nil)))))))
  (dss_cons (ds_if (dt_not (dt_tru rfl (de_var 8 (pv 8)))) (dss_one ds_break) dss_nil)
  (dss_one (ds_for (ps_for (passes_of rfl) rfl (di_seq (de_var 8 (pv 8))) (dg_tup (by rfl) (dgs_cons (dg_name (pg_name (i := 6) sc__law_cup.nd rfl (by first | exact Or.inl rfl | exact Or.inr rfl))) (dgs_cons (dg_name (pg_name (i := 9) sc__law_cup.nd rfl (by first | exact Or.inl rfl | exact Or.inr rfl))) (dgs_nil (ix := []))))) (dss_cons (ds_setIx 3 (ps_asg (de_tup (da_cons (de_var 7 (pv 7)) (da_cons (de_var 9 (pv 9)) da_nil))) (pg_sub (pv 3) (de_var 6 (pv 6)) set_list)))
  (dss_one (ds_expr (de_remove 4 (pe_bm PySem.F.plainAttrs_list PySem.F.slot_list_remove PySem.F.type_list_remove mt_remove (pv 4) (pa_cons (de_var 6 (pv 6)) pa_nil)))))))))))))
  (dss_freeze 3 (dss_one (ds_ret (de_tuple (by rfl) T.z_tuple (da_cons (de_var 3 (pv 3)) da_nil))))))))) math__law_cup

theorem ok__law_rounds {P : Program} {w : World} {K : PySem.W.Frag} {mg : Str → Option Value} {base : Heap} {CA : Str → Addr} (T : Txt K mg CA) : FnOk P w K mg base (L2.CX P w) 1 T.f__law_rounds T.fd__law_rounds ["_law_cup_here"] (lSp ⟨K, CA⟩ sp__law_rounds) :=
  fn_ok (td := td__law_rounds) T.F__law_rounds sc__law_rounds ⟨K, CA⟩ len__law_rounds (by decide) (fun cdv A outer s H E hr => (dss_one (ds_ret (de_max1 rfl (by rfl) T.z_max (da_cons (de_f (df_lc (pe_lc (own := [("_law_pair", 1)]) (by rfl) sc__law_rounds.nd (di_seq (de_var 0 (pv 0))) (blkOk_by (N := ["_law_cup_here", "_law_pair"]) (sc := defScope st__law_rounds) (by decide +kernel)) (fun _ _ _ _ _ => (dg_name (pg_name (i := 1) sc__law_rounds.nd rfl (by first | exact Or.inl rfl | exact Or.inr rfl)))) (fun _ _ _ _ _ => dts_nil) (fun _ _ _ _ _ => (de_ix rfl (de_var 1 (pv 1)) de_int (fun _ _ => rfl)))))) da_nil))))) math__law_rounds

theorem ok__law_through {P : Program} {w : World} {K : PySem.W.Frag} {mg : Str → Option Value} {base : Heap} {CA : Str → Addr} (T : Txt K mg CA) : FnOk P w K mg base (L2.CX P w) 1 T.f__law_through T.fd__law_through ["_law_cup_here", "_law_r"] (lSp ⟨K, CA⟩ sp__law_through) :=
  fn_ok (td := td__law_through) T.F__law_through sc__law_through ⟨K, CA⟩ len__law_through (by decide) (fun cdv A outer s H E hr => (dss_one (ds_ret (de_f (df_lc (pe_lc (own := [("_law_x", 2)]) (by rfl) sc__law_through.nd (di_range1 (by rfl) T.z_range (da_cons (de_len rfl (by rfl) T.z_len (da_cons (de_var 0 (pv 0)) da_nil)) da_nil)) (blkOk_by (N := ["_law_cup_here", "_law_r", "_law_x"]) (sc := defScope st__law_through) (by decide +kernel)) (fun _ _ _ _ _ => (dg_name (pg_name (i := 2) sc__law_through.nd rfl (by first | exact Or.inl rfl | exact Or.inr rfl)))) (fun _ _ _ _ _ => (dts_one (PW.pt (dw_or (dt_cmp (op_eqD hr.units) (l_eq rfl) (de_ix rfl (de_ix rfl (de_var 0 (pv 0)) (de_var 2 (pv 2)) (fun _ _ => rfl)) de_int (fun _ _ => rfl)) de_int (nomark _)) (dw_or1 (dt_cmp op_gt (fun _ _ _ _ h => lI2b h) (de_ix rfl (de_ix rfl (de_var 0 (pv 0)) (de_var 2 (pv 2)) (fun _ _ => rfl)) de_int (fun _ _ => rfl)) (de_var 1 (pv 1)) (nomark _))))))) (fun _ _ _ _ _ => (de_var 2 (pv 2))))))))) math__law_through

theorem ok__law_out {P : Program} {w : World} {K : PySem.W.Frag} {mg : Str → Option Value} {base : Heap} {CA : Str → Addr} (T : Txt K mg CA) : FnOk P w K mg base (L2.CX P w) 1 T.f__law_out T.fd__law_out ["_law_cup_here", "_law_r"] (lSp ⟨K, CA⟩ sp__law_out) :=
  fn_ok (td := td__law_out) T.F__law_out sc__law_out ⟨K, CA⟩ len__law_out (by decide) (fun cdv A outer s H E hr => (dss_one (ds_ret (de_f (df_lc (pe_lc (own := [("_law_x", 2)]) (by rfl) sc__law_out.nd (di_range1 (by rfl) T.z_range (da_cons (de_len rfl (by rfl) T.z_len (da_cons (de_var 0 (pv 0)) da_nil)) da_nil)) (blkOk_by (N := ["_law_cup_here", "_law_r", "_law_x"]) (sc := defScope st__law_out) (by decide +kernel)) (fun _ _ _ _ _ => (dg_name (pg_name (i := 2) sc__law_out.nd rfl (by first | exact Or.inl rfl | exact Or.inr rfl)))) (fun _ _ _ _ _ => (dts_one (dt_cmp (op_eqD hr.units) (l_eq rfl) (de_ix rfl (de_ix rfl (de_var 0 (pv 0)) (de_var 2 (pv 2)) (fun _ _ => rfl)) de_int (fun _ _ => rfl)) (de_var 1 (pv 1)) (nomark _)))) (fun _ _ _ _ _ => (de_var 2 (pv 2))))))))) math__law_out

theorem ok__law_resting {P : Program} {w : World} {K : PySem.W.Frag} {mg : Str → Option Value} {base : Heap} {CA : Str → Addr} (T : Txt K mg CA) (G__law_out : FnOk P w K mg base (L2.CX P w) 1 T.f__law_out T.fd__law_out ["_law_cup_here", "_law_r"] (lSp ⟨K, CA⟩ sp__law_out)) (G__law_through : FnOk P w K mg base (L2.CX P w) 1 T.f__law_through T.fd__law_through ["_law_cup_here", "_law_r"] (lSp ⟨K, CA⟩ sp__law_through)) : FnOk P w K mg base (L2.CX P w) 2 T.f__law_resting T.fd__law_resting ["_law_cup_here", "_law_r"] (lSp ⟨K, CA⟩ sp__law_resting) :=
  fn_ok (td := td__law_resting) T.F__law_resting sc__law_resting ⟨K, CA⟩ len__law_resting (by decide) (fun cdv A outer s H E hr => (dss_cons (ds_set (ps_set (i := 2) sc__law_resting.nd rfl (by first | exact Or.inl rfl | exact Or.inr rfl) (de_f (df_lc (pe_lc (own := [("_law_x", 3)]) (by rfl) sc__law_resting.nd (di_seq (de_call (takes_of rfl rfl rfl rfl) G__law_out (hr.mono (by decide)) (by rfl) T.g__law_out T.F__law_out.kp T.b__law_out (da_cons (de_var 0 (pv 0)) (da_cons (de_var 1 (pv 1)) da_nil)))) (blkOk_by (N := ["_law_cup_here", "_law_r", "_law_busy", "_law_x", "_law_y"]) (sc := defScope st__law_resting) (by decide +kernel)) (fun _ _ _ _ _ => (dg_name (pg_name (i := 3) sc__law_resting.nd rfl (by first | exact Or.inl rfl | exact Or.inr rfl)))) (fun _ _ _ _ _ => dts_nil) (fun _ _ _ _ _ => (de_ix rfl (de_ix rfl (de_var 0 (pv 0)) (de_var 3 (pv 3)) (fun _ _ => rfl)) de_int (fun _ _ => rfl))))))))
  (dss_one (ds_ret (de_f (df_lc (pe_lc (own := [("_law_y", 4)]) (by rfl) sc__law_resting.nd (di_seq (de_call (takes_of rfl rfl rfl rfl) G__law_through (hr.mono (by decide)) (by rfl) T.g__law_through T.F__law_through.kp T.b__law_through (da_cons (de_var 0 (pv 0)) (da_cons (de_var 1 (pv 1)) da_nil)))) (blkOk_by (N := ["_law_cup_here", "_law_r", "_law_busy", "_law_x", "_law_y"]) (sc := defScope st__law_resting) (by decide +kernel)) (fun _ _ _ _ _ => (dg_name (pg_name (i := 4) sc__law_resting.nd rfl (by first | exact Or.inl rfl | exact Or.inr rfl)))) (fun _ _ _ _ _ => (dts_one (dt_cmp (op_notInA (hu65 hr)) (l_notIn rfl) (de_var 4 (pv 4)) (de_var 2 (pv 2)) (by rfl)))) (fun _ _ _ _ _ => (de_var 4 (pv 4)))))))))) math__law_resting

theorem ok__law_loose {P : Program} {w : World} {K : PySem.W.Frag} {mg : Str → Option Value} {base : Heap} {CA : Str → Addr} (T : Txt K mg CA) (G__law_rounds : FnOk P w K mg base (L2.CX P w) 1 T.f__law_rounds T.fd__law_rounds ["_law_cup_here"] (lSp ⟨K, CA⟩ sp__law_rounds)) (G__law_take : FnOk P w K mg base (L2.CX P w) 1 T.f__law_take T.fd__law_take ["_law_source", "_law_top"] (lSp ⟨K, CA⟩ sp__law_take)) : FnOk P w K mg base (L2.CX P w) 2 T.f__law_loose T.fd__law_loose ["_law_source", "_law_cup_here"] (lSp ⟨K, CA⟩ sp__law_loose) :=
  fn_ok (td := td__law_loose) T.F__law_loose sc__law_loose ⟨K, CA⟩ len__law_loose (by decide) (fun cdv A outer s H E hr => (dss_one (ds_ret (de_tuple (by rfl) T.z_tuple (da_cons (de_f (df_lc (pe_lc (own := [("_law_r", 2)]) (by rfl) sc__law_loose.nd (di_range2 (by rfl) T.z_range (da_cons de_int (da_cons (de_add (de_call (takes_of rfl rfl rfl rfl) G__law_rounds (hr.mono (by decide)) (by rfl) T.g__law_rounds T.F__law_rounds.kp T.b__law_rounds (da_cons (de_var 1 (pv 1)) da_nil)) de_int) da_nil))) (blkOk_by (N := ["_law_source", "_law_cup_here", "_law_r"]) (sc := defScope st__law_loose) (by decide +kernel)) (fun _ _ _ _ _ => (dg_name (pg_name (i := 2) sc__law_loose.nd rfl (by first | exact Or.inl rfl | exact Or.inr rfl)))) (fun _ _ _ _ _ => (dts_one (dt_cmp (op_eqD hr.units) (l_eq rfl) (de_call takes0 G__law_take (hr.mono (by decide)) (by rfl) T.g__law_take T.F__law_take.kp T.b__law_take (da_consC 0 (pv 0) (da_cons de_int da_nil))) de_int (nomark _)))) (fun _ _ _ _ _ => (de_var 2 (pv 2)))))) da_nil))))) math__law_loose

theorem ok__law_offered {P : Program} {w : World} {K : PySem.W.Frag} {mg : Str → Option Value} {base : Heap} {CA : Str → Addr} (T : Txt K mg CA) (G__law_may : FnOk P w K mg base (L2.CX P w) 1 T.f__law_may T.fd__law_may ["_law_figures_here", "_law_y", "_law_x"] (lSp ⟨K, CA⟩ sp__law_may)) (G__law_resting : FnOk P w K mg base (L2.CX P w) 2 T.f__law_resting T.fd__law_resting ["_law_cup_here", "_law_r"] (lSp ⟨K, CA⟩ sp__law_resting)) : FnOk P w K mg base (L2.CX P w) 3 T.f__law_offered T.fd__law_offered ["_law_figures_here", "_law_cup_here", "_law_loose_here"] (lSp ⟨K, CA⟩ sp__law_offered) :=
  fn_ok (td := td__law_offered) T.F__law_offered sc__law_offered ⟨K, CA⟩ len__law_offered (by decide) (fun cdv A outer s H E hr => (dss_cons (ds_parG (ps_par (i := 3) (j := 4) (by rfl) sc__law_offered.nd rfl rfl (by decide) rfl rfl (dag_consF (df_lst da_nil) (dag_cons (de_len rfl (by rfl) T.z_len (da_cons (de_var 1 (pv 1)) da_nil)) dag_nil)) (by rfl)))
  (dss_cons (ds_for (ps_for (passes_of rfl) rfl (di_range1 (by rfl) T.z_range (da_cons (de_var 4 (pv 4)) da_nil)) (dg_name (pg_name (i := 5) sc__law_offered.nd rfl (by first | exact Or.inl rfl | exact Or.inr rfl))) (dss_one (ds_for (ps_for (passes_of rfl) rfl (di_range2 (by rfl) T.z_range (da_cons (de_add (de_var 5 (pv 5)) de_int) (da_cons (de_var 4 (pv 4)) da_nil))) (dg_name (pg_name (i := 6) sc__law_offered.nd rfl (by first | exact Or.inl rfl | exact Or.inr rfl))) (dss_one (ds_if (PW.pt (dw_and (dt_cmp op_gt (fun _ _ _ _ h => lI2b h) (de_ix rfl (de_ix rfl (de_var 1 (pv 1)) (de_var 5 (pv 5)) (fun _ _ => rfl)) de_int (fun _ _ => rfl)) de_int (nomark _)) (dw_and1 (dt_cmp (op_eqD hr.units) (l_eq rfl) (de_ix rfl (de_ix rfl (de_var 1 (pv 1)) (de_var 5 (pv 5)) (fun _ _ => rfl)) de_int (fun _ _ => rfl)) (de_ix rfl (de_ix rfl (de_var 1 (pv 1)) (de_var 6 (pv 6)) (fun _ _ => rfl)) de_int (fun _ _ => rfl)) (nomark _))))) (dss_one (ds_if (PW.pt (dw_and (dt_tru rfl (de_call (takes_of rfl rfl rfl rfl) G__law_may (hr.mono (by decide)) (by rfl) T.g__law_may T.F__law_may.kp T.b__law_may (da_cons (de_var 0 (pv 0)) (da_cons (de_ix rfl (de_ix rfl (de_var 1 (pv 1)) (de_var 6 (pv 6)) (fun _ _ => rfl)) de_int (fun _ _ => rfl)) (da_cons (de_var 5 (pv 5)) da_nil))))) (dw_and1 (dt_tru rfl (de_call (takes_of rfl rfl rfl rfl) G__law_may (hr.mono (by decide)) (by rfl) T.g__law_may T.F__law_may.kp T.b__law_may (da_cons (de_var 0 (pv 0)) (da_cons (de_ix rfl (de_ix rfl (de_var 1 (pv 1)) (de_var 5 (pv 5)) (fun _ _ => rfl)) de_int (fun _ _ => rfl)) (da_cons (de_var 6 (pv 6)) da_nil)))))))) (dss_one (ds_expr (de_append 3 (pe_bm PySem.F.plainAttrs_list PySem.F.slot_list_append PySem.F.type_list_append mt_append (pv 3) (pa_cons (de_tup (da_cons de_str (da_cons (de_var 5 (pv 5)) (da_cons (de_var 6 (pv 6)) da_nil)))) pa_nil))))) dss_nil)) dss_nil)))))))
  (dss_cons (ds_for (ps_for (passes_of rfl) rfl (di_range1 (by rfl) T.z_range (da_cons (de_var 4 (pv 4)) da_nil)) (dg_name (pg_name (i := 5) sc__law_offered.nd rfl (by first | exact Or.inl rfl | exact Or.inr rfl))) (dss_one (ds_if (dt_cmp (op_inA (hu65 hr)) (l_in rfl) (de_ix rfl (de_ix rfl (de_var 1 (pv 1)) (de_var 5 (pv 5)) (fun _ _ => rfl)) de_int (fun _ _ => rfl)) (de_var 2 (pv 2)) (by rfl)) (dss_one (ds_for (ps_for (passes_of rfl) rfl (di_seq (de_call (takes_of rfl rfl rfl rfl) G__law_resting (hr.mono (by decide)) (by rfl) T.g__law_resting T.F__law_resting.kp T.b__law_resting (da_cons (de_var 1 (pv 1)) (da_cons (de_ix rfl (de_ix rfl (de_var 1 (pv 1)) (de_var 5 (pv 5)) (fun _ _ => rfl)) de_int (fun _ _ => rfl)) da_nil)))) (dg_name (pg_name (i := 6) sc__law_offered.nd rfl (by first | exact Or.inl rfl | exact Or.inr rfl))) (dss_one (ds_if (dt_tru rfl (de_call (takes_of rfl rfl rfl rfl) G__law_may (hr.mono (by decide)) (by rfl) T.g__law_may T.F__law_may.kp T.b__law_may (da_cons (de_var 0 (pv 0)) (da_cons (de_var 6 (pv 6)) (da_cons (de_var 5 (pv 5)) da_nil))))) (dss_one (ds_expr (de_append 3 (pe_bm PySem.F.plainAttrs_list PySem.F.slot_list_append PySem.F.type_list_append mt_append (pv 3) (pa_cons (de_tup (da_cons de_str (da_cons (de_var 5 (pv 5)) (da_cons (de_var 6 (pv 6)) da_nil)))) pa_nil))))) dss_nil))))) dss_nil))))
  (dss_freeze 3 (dss_one (ds_ret (de_var 3 (pv 3))))))))) math__law_offered

theorem ok__law_changed {P : Program} {w : World} {K : PySem.W.Frag} {mg : Str → Option Value} {base : Heap} {CA : Str → Addr} (T : Txt K mg CA) : FnOk P w K mg base (L2.CX P w) 1 T.f__law_changed T.fd__law_changed ["_law_cup_here", "_law_deed"] (lSp ⟨K, CA⟩ sp__law_changed) :=
  fn_ok (td := td__law_changed) T.F__law_changed sc__law_changed ⟨K, CA⟩ len__law_changed (by decide) (fun cdv A outer s H E hr => (dss_cons (ds_parG3 (ps_par3 (i := 2) (j := 3) (l := 4) (by rfl) sc__law_changed.nd rfl rfl rfl (by decide) (by decide) (by decide) rfl rfl rfl (dag_consF (df_lc (pe_lc (own := [("_law_pair", 5)]) (by rfl) sc__law_changed.nd (di_seq (de_var 0 (pv 0))) (blkOk_by (N := ["_law_cup_here", "_law_deed", "_law_row", "_law_x", "_law_y", "_law_pair"]) (sc := defScope st__law_changed) (by decide +kernel)) (fun _ _ _ _ _ => (dg_name (pg_name (i := 5) sc__law_changed.nd rfl (by first | exact Or.inl rfl | exact Or.inr rfl)))) (fun _ _ _ _ _ => dts_nil) (fun _ _ _ _ _ => (de_var 5 (pv 5))))) (dag_cons (de_ix rfl (de_var 1 (pv 1)) de_int (fun _ _ => rfl)) (dag_cons (de_ix rfl (de_var 1 (pv 1)) de_int (fun _ _ => rfl)) dag_nil))) (by rfl)))
  (dss_cons (ds_if (dt_cmp (op_eqD hr.units) (l_eq rfl) (de_ix rfl (de_var 1 (pv 1)) de_int (fun _ _ => rfl)) de_str (nomark _)) (dss_one (ds_setIx 2 (ps_asg (de_tup (da_cons (de_ix rfl (de_ix rfl (de_var 0 (pv 0)) (de_var 3 (pv 3)) (fun _ _ => rfl)) de_int (fun _ _ => rfl)) (da_cons (de_var 4 (pv 4)) da_nil))) (pg_sub (pv 2) (de_var 3 (pv 3)) set_list)))) (dss_one (ds_asgM (ps_asg (de_tup (da_cons (de_ix rfl (de_var 0 (pv 0)) (de_var 4 (pv 4)) (fun _ _ => rfl)) (da_cons (de_ix rfl (de_var 0 (pv 0)) (de_var 3 (pv 3)) (fun _ _ => rfl)) da_nil))) (dm_tup (by rfl) (dms_cons (dm_sub 2 (pg_sub (pv 2) (de_var 3 (pv 3)) set_list)) (dms_cons (dm_sub 2 (pg_sub (pv 2) (de_var 4 (pv 4)) set_list)) dms_nil)))))))
  (dss_freeze 2 (dss_one (ds_ret (de_tuple (by rfl) T.z_tuple (da_cons (de_var 2 (pv 2)) da_nil)))))))) math__law_changed

theorem ok__law_low {P : Program} {w : World} {K : PySem.W.Frag} {mg : Str → Option Value} {base : Heap} {CA : Str → Addr} (T : Txt K mg CA) (G__law_take : FnOk P w K mg base (L2.CX P w) 1 T.f__law_take T.fd__law_take ["_law_source", "_law_top"] (lSp ⟨K, CA⟩ sp__law_take)) (G__law_stair : FnOk P w K mg base (L2.CX P w) 1 T.f__law_stair T.fd__law_stair ["_law_figures_here", "_law_sides"] (lSp ⟨K, CA⟩ sp__law_stair)) (G__law_one : FnOk P w K mg base (L2.CX P w) 2 T.f__law_one T.fd__law_one ["_law_source", "_law_things"] (lSp ⟨K, CA⟩ sp__law_one)) : FnOk P w K mg base (L2.CX P w) 3 T.f__law_low T.fd__law_low ["_law_source", "_law_many", "_law_others"] (lSp ⟨K, CA⟩ sp__law_low) :=
  fn_ok (td := td__law_low) T.F__law_low sc__law_low ⟨K, CA⟩ len__law_low (by decide) (fun cdv A outer s H E hr => (dss_cons (ds_set (ps_set (i := 3) sc__law_low.nd rfl (by first | exact Or.inl rfl | exact Or.inr rfl) (de_tuple (by rfl) T.z_tuple (da_cons (de_add (de_mul (de_f (df_lst (da_cons de_int da_nil))) (de_var 1 (pv 1))) (de_f (df_lc (pe_lc (own := [("_law_y", 4)]) (by rfl) sc__law_low.nd (di_range1 (by rfl) T.z_range (da_cons (de_var 2 (pv 2)) da_nil)) (blkOk_by (N := ["_law_source", "_law_many", "_law_others", "_law_strengths", "_law_y", "_law_guards", "_law_x", "_law_row", "_law_seats", "_law_may_here"]) (sc := defScope st__law_low) (by decide +kernel)) (fun _ _ _ _ _ => (dg_name (pg_name (i := 4) sc__law_low.nd rfl (by first | exact Or.inl rfl | exact Or.inr rfl)))) (fun _ _ _ _ _ => dts_nil) (fun _ _ _ _ _ => (de_call takes0 G__law_take (hr.mono (by decide)) (by rfl) T.g__law_take T.F__law_take.kp T.b__law_take (da_consC 0 (pv 0) (da_cons de_int da_nil)))))))) da_nil))))
  (dss_cons (ds_set (ps_set (i := 5) sc__law_low.nd rfl (by first | exact Or.inl rfl | exact Or.inr rfl) (de_tuple (by rfl) T.z_tuple (da_cons (de_add (de_f (df_lc (pe_lc (own := [("_law_x", 6)]) (by rfl) sc__law_low.nd (di_range1 (by rfl) T.z_range (da_cons (de_var 1 (pv 1)) da_nil)) (blkOk_by (N := ["_law_source", "_law_many", "_law_others", "_law_strengths", "_law_y", "_law_guards", "_law_x", "_law_row", "_law_seats", "_law_may_here"]) (sc := defScope st__law_low) (by decide +kernel)) (fun _ _ _ _ _ => (dg_name (pg_name (i := 6) sc__law_low.nd rfl (by first | exact Or.inl rfl | exact Or.inr rfl)))) (fun _ _ _ _ _ => dts_nil) (fun _ _ _ _ _ => (de_call takes0 G__law_take (hr.mono (by decide)) (by rfl) T.g__law_take T.F__law_take.kp T.b__law_take (da_consC 0 (pv 0) (da_cons de_int da_nil))))))) (de_mul (de_f (df_lst (da_cons de_int da_nil))) (de_var 2 (pv 2)))) da_nil))))
  (dss_cons (ds_parG (ps_par (i := 7) (j := 8) (by rfl) sc__law_low.nd rfl rfl (by decide) rfl rfl (dag_consF (df_mul (de_f (df_lst (da_cons (de_tup (da_cons de_int (da_cons (de_neg de_int) da_nil))) da_nil))) (de_add (de_var 1 (pv 1)) (de_var 2 (pv 2)))) (dag_consF (df_lc (pe_lc (own := [("_law_y", 4)]) (by rfl) sc__law_low.nd (di_range2 (by rfl) T.z_range (da_cons (de_var 1 (pv 1)) (da_cons (de_add (de_var 1 (pv 1)) (de_var 2 (pv 2))) da_nil))) (blkOk_by (N := ["_law_source", "_law_many", "_law_others", "_law_strengths", "_law_y", "_law_guards", "_law_x", "_law_row", "_law_seats", "_law_may_here"]) (sc := defScope st__law_low) (by decide +kernel)) (fun _ _ _ _ _ => (dg_name (pg_name (i := 4) sc__law_low.nd rfl (by first | exact Or.inl rfl | exact Or.inr rfl)))) (fun _ _ _ _ _ => dts_nil) (fun _ _ _ _ _ => (de_var 4 (pv 4))))) dag_nil)) (by rfl)))
  (dss_cons (ds_for (ps_for (passes_of rfl) rfl (di_seq (de_call (takes_of rfl rfl rfl rfl) G__law_stair (hr.mono (by decide)) (by rfl) T.g__law_stair T.F__law_stair.kp T.b__law_stair (da_cons (de_tup (da_cons (de_var 3 (pv 3)) (da_cons (de_var 5 (pv 5)) da_nil))) (da_cons (de_f (df_lc (pe_lc (own := [("_law_x", 6)]) (by rfl) sc__law_low.nd (di_range1 (by rfl) T.z_range (da_cons (de_var 1 (pv 1)) da_nil)) (blkOk_by (N := ["_law_source", "_law_many", "_law_others", "_law_strengths", "_law_y", "_law_guards", "_law_x", "_law_row", "_law_seats", "_law_may_here"]) (sc := defScope st__law_low) (by decide +kernel)) (fun _ _ _ _ _ => (dg_name (pg_name (i := 6) sc__law_low.nd rfl (by first | exact Or.inl rfl | exact Or.inr rfl)))) (fun _ _ _ _ _ => dts_nil) (fun _ _ _ _ _ => (de_var 6 (pv 6)))))) da_nil)))) (dg_name (pg_name (i := 6) sc__law_low.nd rfl (by first | exact Or.inl rfl | exact Or.inr rfl))) (dss_cons (ds_set (ds_fe (ds_lend 8 (ds_lc (ps_setLc (i := 9) (own := [("_law_y", 4)]) (by rfl) sc__law_low.nd rfl rfl (sw_true rfl rfl rfl (by decide +kernel)) (di_seq (de_var 8 (pv 8))) (blkOk_by (N := ["_law_source", "_law_many", "_law_others", "_law_strengths", "_law_y", "_law_guards", "_law_x", "_law_row", "_law_seats", "_law_may_here"]) (sc := defScope st__law_low) (by decide +kernel)) (fun _ _ _ _ _ => (dg_name (pg_name (i := 4) sc__law_low.nd rfl (by first | exact Or.inl rfl | exact Or.inr rfl)))) (fun _ _ _ _ _ => (dts_one (dt_cmp op_ge (fun _ _ _ _ h => lI2b h) (de_ix rfl (de_var 3 (pv 3)) (de_var 4 (pv 4)) (fun _ _ => rfl)) (de_ix rfl (de_var 5 (pv 5)) (de_var 6 (pv 6)) (fun _ _ => rfl)) (nomark _)))) (fun _ _ _ _ _ => (de_var 4 (pv 4))))))))
  (dss_one (ds_if (dt_tru rfl (de_var 9 (pv 9))) (dss_cons (ds_set (ps_set (i := 4) sc__law_low.nd rfl (by first | exact Or.inl rfl | exact Or.inr rfl) (de_call (takes_of rfl rfl rfl rfl) G__law_one (hr.mono (by decide)) (by rfl) T.g__law_one T.F__law_one.kp T.b__law_one (da_consC 0 (pv 0) (da_cons (de_var 9 (pv 9)) da_nil)))))
  (dss_cons (ds_expr (de_remove 8 (pe_bm PySem.F.plainAttrs_list PySem.F.slot_list_remove PySem.F.type_list_remove mt_remove (pv 8) (pa_cons (de_var 4 (pv 4)) pa_nil))))
  (dss_one (ds_setIx 7 (ps_asg (de_tup (da_cons de_int (da_cons (de_var 4 (pv 4)) da_nil))) (pg_sub (pv 7) (de_var 6 (pv 6)) set_list)))))) dss_nil)))))
  (dss_freeze 7 (dss_one (ds_ret (de_tup (da_cons (de_tup (da_cons (de_var 3 (pv 3)) (da_cons (de_var 5 (pv 5)) da_nil))) (da_cons (de_tuple (by rfl) T.z_tuple (da_cons (de_var 7 (pv 7)) da_nil)) da_nil))))))))))) math__law_low

theorem ok__law_world {P : Program} {w : World} {K : PySem.W.Frag} {mg : Str → Option Value} {base : Heap} {CA : Str → Addr} (T : Txt K mg CA) (G__law_take : FnOk P w K mg base (L2.CX P w) 1 T.f__law_take T.fd__law_take ["_law_source", "_law_top"] (lSp ⟨K, CA⟩ sp__law_take)) (G__law_low : FnOk P w K mg base (L2.CX P w) 3 T.f__law_low T.fd__law_low ["_law_source", "_law_many", "_law_others"] (lSp ⟨K, CA⟩ sp__law_low)) (G__law_one : FnOk P w K mg base (L2.CX P w) 2 T.f__law_one T.fd__law_one ["_law_source", "_law_things"] (lSp ⟨K, CA⟩ sp__law_one)) (G__law_figures : FnOk P w K mg base (L2.CX P w) 3 T.f__law_figures T.fd__law_figures ["_law_source", "_law_n"] (lSp ⟨K, CA⟩ sp__law_figures)) (G__law_cup : FnOk P w K mg base (L2.CX P w) 4 T.f__law_cup T.fd__law_cup ["_law_source", "_law_figures_here"] (lSp ⟨K, CA⟩ sp__law_cup)) : FnOk P w K mg base (L2.CX P w) 5 T.f__law_world T.fd__law_world ["_law_source"] (lSp ⟨K, CA⟩ sp__law_world) :=
  fn_ok (td := td__law_world) T.F__law_world sc__law_world ⟨K, CA⟩ len__law_world (by decide) (fun cdv A outer s H E hr => (dss_cons (ds_if (dt_cmp (op_eqD hr.units) (l_eq rfl) (de_call (takes_of rfl rfl rfl rfl) G__law_take (hr.mono (by decide)) (by rfl) T.g__law_take T.F__law_take.kp T.b__law_take (da_consC 0 (pv 0) (da_cons de_int da_nil))) de_int (nomark _)) (dss_one (ds_ret (de_call (takes_of rfl rfl rfl rfl) G__law_low (hr.mono (by decide)) (by rfl) T.g__law_low T.F__law_low.kp T.b__law_low (da_consC 0 (pv 0) (da_cons (de_add de_int (de_call (takes_of rfl rfl rfl rfl) G__law_take (hr.mono (by decide)) (by rfl) T.g__law_take T.F__law_take.kp T.b__law_take (da_consC 0 (pv 0) (da_cons de_int da_nil)))) (da_cons (de_add de_int (de_call (takes_of rfl rfl rfl rfl) G__law_take (hr.mono (by decide)) (by rfl) T.g__law_take T.F__law_take.kp T.b__law_take (da_consC 0 (pv 0) (da_cons de_int da_nil)))) da_nil)))))) dss_nil)
  (dss_cons (ds_set (ps_set (i := 1) sc__law_world.nd rfl (by first | exact Or.inl rfl | exact Or.inr rfl) (de_call (takes_of rfl rfl rfl rfl) G__law_one (hr.mono (by decide)) (by rfl) T.g__law_one T.F__law_one.kp T.b__law_one (da_consC 0 (pv 0) (da_cons (de_f (df_lst (da_cons de_int (da_cons de_int (da_cons de_int (da_cons de_int (da_cons de_int (da_cons de_int (da_cons de_int (da_cons de_int (da_cons de_int (da_cons de_int da_nil)))))))))))) da_nil)))))
  (dss_cons (ds_if (dt_cmp (op_eqD hr.units) (l_eq rfl) (de_call (takes_of rfl rfl rfl rfl) G__law_take (hr.mono (by decide)) (by rfl) T.g__law_take T.F__law_take.kp T.b__law_take (da_consC 0 (pv 0) (da_cons de_int da_nil))) de_int (nomark _)) (dss_one (ds_set (ps_set (i := 1) sc__law_world.nd rfl (by first | exact Or.inl rfl | exact Or.inr rfl) de_int))) dss_nil)
  (dss_cons (ds_set (ps_set (i := 2) sc__law_world.nd rfl (by first | exact Or.inl rfl | exact Or.inr rfl) (de_call (takes_of rfl rfl rfl rfl) G__law_figures (hr.mono (by decide)) (by rfl) T.g__law_figures T.F__law_figures.kp T.b__law_figures (da_consC 0 (pv 0) (da_cons (de_var 1 (pv 1)) da_nil)))))
  (dss_one (ds_ret (de_tup (da_cons (de_var 2 (pv 2)) (da_cons (de_call (takes_of rfl rfl rfl rfl) G__law_cup (hr.mono (by decide)) (by rfl) T.g__law_cup T.F__law_cup.kp T.b__law_cup (da_consC 0 (pv 0) (da_cons (de_var 2 (pv 2)) da_nil))) da_nil)))))))))) math__law_world

theorem ok__law_told {P : Program} {w : World} {K : PySem.W.Frag} {mg : Str → Option Value} {base : Heap} {CA : Str → Addr} (T : Txt K mg CA) (G_offers : FnOk P w K mg base (L2.CX P w) 5 T.f_offers T.fd_offers ["field", "cup", "loose"] (lSp ⟨K, CA⟩ sp_offers)) : FnOk P w K mg base (L2.CX P w) 6 T.f__law_told T.fd__law_told ["_law_field", "_law_cup_here", "_law_loose_here"] (lSp ⟨K, CA⟩ sp__law_told) :=
  fn_ok (td := td__law_told) T.F__law_told sc__law_told ⟨K, CA⟩ len__law_told (by decide) (fun cdv A outer s H E hr => (dss_one (ds_try rfl rfl (takes_of rfl rfl rfl rfl) (fun W pn xe tk _ => (dss_one (ds_ret (de_callK [0, 1, 2] tk G_offers (hr.mono (by decide)) (by rfl) T.g_offers T.F_offers.kp (fun_kb T.F_offers (pm := [0, 1, 2]) (ks := ["loose"]) (ps := ["field", "cup", "loose"]) (fun _ _ _ _ _ _ us ws hl hl2 => match us, hl, ws, hl2 with | [_, _], _, [_], _ => rfl)) (da_cons (de_var 0 (pv 0)) (da_cons (de_var 1 (pv 1)) da_nil)) (dk_cons (de_var 2 (pv 2)) dk_nil))))) (fun c hc q hq => T.em_er c hc q.2.1 (by simp only [List.mem_cons, List.not_mem_nil, or_false] at hq; rcases hq with rfl | rfl | rfl <;> simp [HC_])) (.nm ⟨by rfl, by decide, .inl T.gC_BadLoose⟩ sc__law_told.nd (by rfl) (by rfl) (fun a oe cls d pn hz hf => suite_ok fun dd c hc ec ed => (dss_one (ds_ret (de_tup (da_cons de_str (da_cons (de_what 3 (T.e_er c hc) hz hf ec ed (pv 3)) da_nil)))))) (.nm ⟨by rfl, by decide, .inl T.gC_Unlike⟩ sc__law_told.nd (by rfl) (by rfl) (fun a oe cls d pn hz hf => suite_ok fun dd c hc ec ed => (dss_one (ds_ret (de_tup (da_cons de_str (da_cons (de_what 3 (T.e_er c hc) hz hf ec ed (pv 3)) da_nil)))))) (.nm ⟨by rfl, by decide, .inl T.gC_Refused⟩ sc__law_told.nd (by rfl) (by rfl) (fun a oe cls d pn hz hf => suite_ok fun dd c hc ec ed => (dss_one (ds_ret (de_tup (da_cons de_str (da_cons (de_what 3 (T.e_er c hc) hz hf ec ed (pv 3)) da_nil)))))) .nil)))))) math__law_told

theorem ok_law {P : Program} {w : World} {K : PySem.W.Frag} {mg : Str → Option Value} {base : Heap} {CA : Str → Addr} (T : Txt K mg CA) (G__law_pool : FnOk P w K mg base (L2.CX P w) 1 T.f__law_pool T.fd__law_pool ["_law_script", "_law_k"] (lSpF ⟨K, CA⟩ sp__law_pool)) (G__law_world : FnOk P w K mg base (L2.CX P w) 5 T.f__law_world T.fd__law_world ["_law_source"] (lSp ⟨K, CA⟩ sp__law_world)) (G_made_field : FnOk P w K mg base (L2.CX P w) 3 T.f_made_field T.fd_made_field ["strengths", "guards"] (lSp ⟨K, CA⟩ sp_made_field)) (G__law_loose : FnOk P w K mg base (L2.CX P w) 2 T.f__law_loose T.fd__law_loose ["_law_source", "_law_cup_here"] (lSp ⟨K, CA⟩ sp__law_loose)) (G__law_offered : FnOk P w K mg base (L2.CX P w) 3 T.f__law_offered T.fd__law_offered ["_law_figures_here", "_law_cup_here", "_law_loose_here"] (lSp ⟨K, CA⟩ sp__law_offered)) (G__law_told : FnOk P w K mg base (L2.CX P w) 6 T.f__law_told T.fd__law_told ["_law_field", "_law_cup_here", "_law_loose_here"] (lSp ⟨K, CA⟩ sp__law_told)) (G_offers : FnOk P w K mg base (L2.CX P w) 5 T.f_offers T.fd_offers ["field", "cup", "loose"] (lSp ⟨K, CA⟩ sp_offers)) (G__law_one : FnOk P w K mg base (L2.CX P w) 2 T.f__law_one T.fd__law_one ["_law_source", "_law_things"] (lSp ⟨K, CA⟩ sp__law_one)) (G__law_changed : FnOk P w K mg base (L2.CX P w) 1 T.f__law_changed T.fd__law_changed ["_law_cup_here", "_law_deed"] (lSp ⟨K, CA⟩ sp__law_changed)) : FnOk P w K mg base (L2.CX P w) 7 T.f_law T.fd_law ["_law_script"] (lSp ⟨K, CA⟩ sp_law) :=
  fn_ok (td := td_law) T.F_law sc_law ⟨K, CA⟩ len_law (by decide) (fun cdv A outer s H E hr => (dss_cons (ds_for (ps_for (passes_of rfl) rfl (di_range1 (by rfl) T.z_range (da_cons de_int da_nil)) (dg_name (pg_name (i := 1) sc_law.nd rfl (by first | exact Or.inl rfl | exact Or.inr rfl))) (dss_cons (ds_setF (ps_set (i := 2) sc_law.nd rfl (by first | exact Or.inl rfl | exact Or.inr rfl) (df_call (takes_of rfl rfl rfl rfl) G__law_pool (hr.mono (by decide)) (by rfl) T.g__law_pool T.F__law_pool.kp T.b__law_pool (da_cons (de_var 0 (pv 0)) (da_cons (de_var 1 (pv 1)) da_nil)))))
  (dss_cons (ds_asg (ps_asg (de_call (takes_of rfl rfl rfl rfl) G__law_world (hr.mono (by decide)) (by rfl) T.g__law_world T.F__law_world.kp T.b__law_world (da_consC 2 (pv 2) da_nil)) (dg_tup (by rfl) (dgs_cons (dg_name (pg_name (i := 3) sc_law.nd rfl (by first | exact Or.inl rfl | exact Or.inr rfl))) (dgs_cons (dg_name (pg_name (i := 4) sc_law.nd rfl (by first | exact Or.inl rfl | exact Or.inr rfl))) (dgs_nil (ix := [])))))))
  (dss_cons (ds_parG (ps_par (i := 5) (j := 6) (by rfl) sc_law.nd rfl rfl (by decide) rfl rfl (dag_cons (de_call (takes_of rfl rfl rfl rfl) G_made_field (hr.mono (by decide)) (by rfl) T.g_made_field T.F_made_field.kp T.b_made_field (da_cons (de_ix rfl (de_var 3 (pv 3)) de_int (fun _ _ => rfl)) (da_cons (de_ix rfl (de_var 3 (pv 3)) de_int (fun _ _ => rfl)) da_nil))) (dag_cons (de_len rfl (by rfl) T.z_len (da_cons (de_var 4 (pv 4)) da_nil)) dag_nil)) (by rfl)))
  (dss_one (ds_for (ps_for (passes_of rfl) rfl (di_range1 (by rfl) T.z_range (da_cons (de_sub de_int (de_mul de_int (de_intc (by rfl) T.z_int (da_cons (de_cmp (op_eqD hr.units) (l_eq rfl) (de_var 6 (pv 6)) de_int (nomark _)) da_nil)))) da_nil)) (dg_name (pg_name (i := 7) sc_law.nd rfl (by first | exact Or.inl rfl | exact Or.inr rfl))) (dss_cons (ds_set (ps_set (i := 8) sc_law.nd rfl (by first | exact Or.inl rfl | exact Or.inr rfl) (de_call (takes_of rfl rfl rfl rfl) G__law_loose (hr.mono (by decide)) (by rfl) T.g__law_loose T.F__law_loose.kp T.b__law_loose (da_consC 2 (pv 2) (da_cons (de_var 4 (pv 4)) da_nil)))))
  (dss_cons (ds_set (ps_set (i := 9) sc_law.nd rfl (by first | exact Or.inl rfl | exact Or.inr rfl) (de_call (takes_of rfl rfl rfl rfl) G__law_offered (hr.mono (by decide)) (by rfl) T.g__law_offered T.F__law_offered.kp T.b__law_offered (da_cons (de_var 3 (pv 3)) (da_cons (de_var 4 (pv 4)) (da_cons (de_var 8 (pv 8)) da_nil))))))
  (dss_cons (ds_if (dt_cmp (op_neD hr.units) (l_ne rfl) (de_call (takes_of rfl rfl rfl rfl) G__law_told (hr.mono (by decide)) (by rfl) T.g__law_told T.F__law_told.kp T.b__law_told (da_cons (de_var 5 (pv 5)) (da_cons (de_var 4 (pv 4)) (da_cons (de_var 8 (pv 8)) da_nil)))) (de_tuple (by rfl) T.z_tuple (da_cons (de_var 9 (pv 9)) da_nil)) (nomark _)) (dss_one (ds_ret de_bl)) dss_nil)
  (dss_cons (ds_if (dt_cmp (op_neD hr.units) (l_ne rfl) (de_call0d rfl (takes_of rfl rfl rfl rfl) G_offers (hr.mono (by decide)) (by rfl) T.g_offers T.F_offers.kp T.d_offers (da_cons (de_var 5 (pv 5)) (da_cons (de_var 4 (pv 4)) da_nil))) (de_tuple (by rfl) T.z_tuple (da_cons (de_call (takes_of rfl rfl rfl rfl) G__law_offered (hr.mono (by decide)) (by rfl) T.g__law_offered T.F__law_offered.kp T.b__law_offered (da_cons (de_var 3 (pv 3)) (da_cons (de_var 4 (pv 4)) (da_cons (de_tup da_nil) da_nil)))) da_nil)) (nomark _)) (dss_one (ds_ret de_bl)) dss_nil)
  (dss_cons (ds_set (ps_set (i := 10) sc_law.nd rfl (by first | exact Or.inl rfl | exact Or.inr rfl) (de_tuple (by rfl) T.z_tuple (da_cons (de_f (df_lc (pe_lc (own := [("_law_r", 11)]) (by rfl) sc_law.nd (di_range2 (by rfl) T.z_range (da_cons de_int (da_cons (de_add (de_var 6 (pv 6)) de_int) da_nil))) (blkOk_by (N := ["_law_script", "_law_turn", "_law_source", "_law_figures_here", "_law_cup_here", "_law_field", "_law_n", "_law_time", "_law_loose_here", "_law_may_here", "_law_every", "_law_r", "_law_spoilt"]) (sc := defScope st_law) (by decide +kernel)) (fun _ _ _ _ _ => (dg_name (pg_name (i := 11) sc_law.nd rfl (by first | exact Or.inl rfl | exact Or.inr rfl)))) (fun _ _ _ _ _ => dts_nil) (fun _ _ _ _ _ => (de_var 11 (pv 11)))))) da_nil))))
  (dss_cons (ds_if (PW.pt (dw_and (dt_cmp op_lt (fun _ _ _ _ h => lI2b h) (de_var 6 (pv 6)) de_int (nomark _)) (dw_and1 (dt_cmp (op_neD hr.units) (l_ne rfl) (de_call (takes_of rfl rfl rfl rfl) G__law_told (hr.mono (by decide)) (by rfl) T.g__law_told T.F__law_told.kp T.b__law_told (da_cons (de_var 5 (pv 5)) (da_cons (de_var 4 (pv 4)) (da_cons (de_var 10 (pv 10)) da_nil)))) (de_tuple (by rfl) T.z_tuple (da_cons (de_call (takes_of rfl rfl rfl rfl) G__law_offered (hr.mono (by decide)) (by rfl) T.g__law_offered T.F__law_offered.kp T.b__law_offered (da_cons (de_var 3 (pv 3)) (da_cons (de_var 4 (pv 4)) (da_cons (de_var 10 (pv 10)) da_nil)))) da_nil)) (nomark _))))) (dss_one (ds_ret de_bl)) dss_nil)
  (dss_cons (ds_set (ps_set (i := 12) sc_law.nd rfl (by first | exact Or.inl rfl | exact Or.inr rfl) (de_add (de_var 8 (pv 8)) (de_tup (da_cons (de_call (takes_of rfl rfl rfl rfl) G__law_one (hr.mono (by decide)) (by rfl) T.g__law_one T.F__law_one.kp T.b__law_one (da_consC 2 (pv 2) (da_cons (de_add (de_tup (da_cons de_int (da_cons (de_neg de_int) da_nil))) (de_var 8 (pv 8))) da_nil))) da_nil)))))
  (dss_cons (ds_if (dt_cmp (op_neD hr.units) (l_ne rfl) (de_call (takes_of rfl rfl rfl rfl) G__law_told (hr.mono (by decide)) (by rfl) T.g__law_told T.F__law_told.kp T.b__law_told (da_cons (de_var 5 (pv 5)) (da_cons (de_var 4 (pv 4)) (da_cons (de_add (de_var 12 (pv 12)) (de_tup (da_cons de_int da_nil))) da_nil)))) (de_tup (da_cons de_str (da_cons (de_len rfl (by rfl) T.z_len (da_cons (de_var 8 (pv 8)) da_nil)) da_nil))) (nomark _)) (dss_one (ds_ret de_bl)) dss_nil)
  (dss_cons (ds_if (dt_cmp (op_neD hr.units) (l_ne rfl) (de_call (takes_of rfl rfl rfl rfl) G__law_told (hr.mono (by decide)) (by rfl) T.g__law_told T.F__law_told.kp T.b__law_told (da_cons (de_var 5 (pv 5)) (da_cons (de_add (de_var 4 (pv 4)) (de_tup (da_cons (de_tup (da_cons de_int (da_cons (de_neg de_int) da_nil))) da_nil))) (da_cons (de_var 12 (pv 12)) da_nil)))) (de_tup (da_cons de_str (da_cons (de_add (de_var 6 (pv 6)) de_int) da_nil))) (nomark _)) (dss_one (ds_ret de_bl)) dss_nil)
  (dss_cons (ds_if (dt_cmp (op_neD hr.units) (l_ne rfl) (de_call (takes_of rfl rfl rfl rfl) G__law_told (hr.mono (by decide)) (by rfl) T.g__law_told T.F__law_told.kp T.b__law_told (da_cons (de_var 5 (pv 5)) (da_cons (de_slice (de_var 4 (pv 4)) (do_some de_int) do_none) (da_cons (de_var 12 (pv 12)) da_nil)))) (de_tup (da_cons de_str (da_cons (de_sub (de_var 6 (pv 6)) de_int) da_nil))) (nomark _)) (dss_one (ds_ret de_bl)) dss_nil)
  (dss_one (ds_if (dt_tru rfl (de_var 9 (pv 9))) (dss_one (ds_set (ps_set (i := 4) sc_law.nd rfl (by first | exact Or.inl rfl | exact Or.inr rfl) (de_call (takes_of rfl rfl rfl rfl) G__law_changed (hr.mono (by decide)) (by rfl) T.g__law_changed T.F__law_changed.kp T.b__law_changed (da_cons (de_var 4 (pv 4)) (da_cons (de_call (takes_of rfl rfl rfl rfl) G__law_one (hr.mono (by decide)) (by rfl) T.g__law_one T.F__law_one.kp T.b__law_one (da_consC 2 (pv 2) (da_cons (de_var 9 (pv 9)) da_nil))) da_nil)))))) dss_nil))))))))))))))))))))
  (dss_one (ds_ret de_bl)))) math_law


/-! ### what the top has written; the head -/
theorem all_mk {l : PySem.W.OpenLaw} {w : World} {K : PySem.W.Frag} {h : Heap} {mg : Str → Option Value} {fa : Addr} {f_check_loose f_can_beat f_check_form f_check_no_gap f_check_games f_made_cup f_comes_through f_rests f_is_let f_offers f_made_field f__law_pool f__law_take f__law_one f__law_shuffled f__law_figures f__law_may f__law_stair f__law_drawn_round f__law_cup f__law_rounds f__law_through f__law_out f__law_resting f__law_loose f__law_offered f__law_changed f__law_low f__law_world f__law_told f_law : Addr} (X : K.In h) (G : h.Ns mainGlobals mg) (hfa : mg "law" = some (.ref fa))
    {od_check_loose an_check_loose od_can_beat an_can_beat od_check_form an_check_form od_check_no_gap an_check_no_gap od_check_games an_check_games od_made_cup an_made_cup od_comes_through an_comes_through od_rests an_rests od_is_let an_is_let od_offers an_offers od_made_field an_made_field od__law_pool an__law_pool od__law_take an__law_take od__law_one an__law_one od__law_shuffled an__law_shuffled od__law_figures an__law_figures od__law_may an__law_may od__law_stair an__law_stair od__law_drawn_round an__law_drawn_round od__law_cup an__law_cup od__law_rounds an__law_rounds od__law_through an__law_through od__law_out an__law_out od__law_resting an__law_resting od__law_loose an__law_loose od__law_offered an__law_offered od__law_changed an__law_changed od__law_low an__law_low od__law_world an__law_world od__law_told an__law_told od_law an_law : Option Addr} {sl_check_loose sl_can_beat sl_check_form sl_check_no_gap sl_check_games sl_made_cup sl_comes_through sl_rests sl_is_let sl_offers sl_made_field sl__law_pool sl__law_take sl__law_one sl__law_shuffled sl__law_figures sl__law_may sl__law_stair sl__law_drawn_round sl__law_cup sl__law_rounds sl__law_through sl__law_out sl__law_resting sl__law_loose sl__law_offered sl__law_changed sl__law_low sl__law_world sl__law_told sl_law : Array (Option Value)} {oc_check_loose kV_check_loose dc_check_loose pm_check_loose cd_check_loose ct_check_loose oc_can_beat kV_can_beat dc_can_beat pm_can_beat cd_can_beat ct_can_beat oc_check_form kV_check_form dc_check_form pm_check_form cd_check_form ct_check_form oc_check_no_gap kV_check_no_gap dc_check_no_gap pm_check_no_gap cd_check_no_gap ct_check_no_gap oc_check_games kV_check_games dc_check_games pm_check_games cd_check_games ct_check_games oc_made_cup kV_made_cup dc_made_cup pm_made_cup cd_made_cup ct_made_cup oc_comes_through kV_comes_through dc_comes_through pm_comes_through cd_comes_through ct_comes_through oc_rests kV_rests dc_rests pm_rests cd_rests ct_rests oc_is_let kV_is_let dc_is_let pm_is_let cd_is_let ct_is_let oc_offers dc_offers pm_offers cd_offers ct_offers oc_made_field kV_made_field dc_made_field pm_made_field cd_made_field ct_made_field oc__law_pool kV__law_pool dc__law_pool pm__law_pool cd__law_pool ct__law_pool oc__law_take kV__law_take dc__law_take pm__law_take cd__law_take ct__law_take oc__law_one kV__law_one dc__law_one pm__law_one cd__law_one ct__law_one oc__law_shuffled kV__law_shuffled dc__law_shuffled pm__law_shuffled cd__law_shuffled ct__law_shuffled oc__law_figures kV__law_figures dc__law_figures pm__law_figures cd__law_figures ct__law_figures oc__law_may kV__law_may dc__law_may pm__law_may cd__law_may ct__law_may oc__law_stair kV__law_stair dc__law_stair pm__law_stair cd__law_stair ct__law_stair oc__law_drawn_round kV__law_drawn_round dc__law_drawn_round pm__law_drawn_round cd__law_drawn_round ct__law_drawn_round oc__law_cup kV__law_cup dc__law_cup pm__law_cup cd__law_cup ct__law_cup oc__law_rounds kV__law_rounds dc__law_rounds pm__law_rounds cd__law_rounds ct__law_rounds oc__law_through kV__law_through dc__law_through pm__law_through cd__law_through ct__law_through oc__law_out kV__law_out dc__law_out pm__law_out cd__law_out ct__law_out oc__law_resting kV__law_resting dc__law_resting pm__law_resting cd__law_resting ct__law_resting oc__law_loose kV__law_loose dc__law_loose pm__law_loose cd__law_loose ct__law_loose oc__law_offered kV__law_offered dc__law_offered pm__law_offered cd__law_offered ct__law_offered oc__law_changed kV__law_changed dc__law_changed pm__law_changed cd__law_changed ct__law_changed oc__law_low kV__law_low dc__law_low pm__law_low cd__law_low ct__law_low oc__law_world kV__law_world dc__law_world pm__law_world cd__law_world ct__law_world oc__law_told kV__law_told dc__law_told pm__law_told cd__law_told ct__law_told oc_law kV_law dc_law pm_law cd_law ct_law : Value}
    {kd_offers ed_offers : Addr} {oe_offers : Option Addr} {ne_offers : Nat} {se_offers : Array (Option Value)}
    {t_MOST t_MOST_SIDES : Tok}
    {ad_STAYS : Addr} {od_STAYS : Option Addr} {n_STAYS : Nat} {sl_STAYS : Array (Option Value)} {t0_STAYS t1_STAYS : Tok}
    {f_ini C_Refused C_BadSize C_BadStrength C_BadGuard C_Unlike C_BadGame C_BadRounds C_BadLoose : Addr} {od_ini an_ini : Option Addr} {sl_ini : Array (Option Value)} {oc_ini kV_ini dc_ini pm_ini cd_ini ct_ini : Value}
    {nm_BadLoose qn_BadLoose : Str} {N_BadLoose : Addr} {bs_BadLoose bm_BadLoose : List Value} {sn_BadLoose : List Str} {sub_BadLoose : List Value} {ab_BadLoose : Bool} {col_BadLoose : Option Bool} {dd_BadLoose : Option Addr} {m0_BadLoose m1_BadLoose m2_BadLoose m3_BadLoose m5_BadLoose : Option Value}
    {nm_Unlike qn_Unlike : Str} {N_Unlike : Addr} {bs_Unlike bm_Unlike : List Value} {sn_Unlike : List Str} {sub_Unlike : List Value} {ab_Unlike : Bool} {col_Unlike : Option Bool} {dd_Unlike : Option Addr} {m0_Unlike m1_Unlike m2_Unlike m3_Unlike m5_Unlike : Option Value}
    {nm_BadGame qn_BadGame : Str} {N_BadGame : Addr} {bs_BadGame bm_BadGame : List Value} {sn_BadGame : List Str} {sub_BadGame : List Value} {ab_BadGame : Bool} {col_BadGame : Option Bool} {dd_BadGame : Option Addr} {m0_BadGame m1_BadGame m2_BadGame m3_BadGame m5_BadGame : Option Value}
    {nm_BadRounds qn_BadRounds : Str} {N_BadRounds : Addr} {bs_BadRounds bm_BadRounds : List Value} {sn_BadRounds : List Str} {sub_BadRounds : List Value} {ab_BadRounds : Bool} {col_BadRounds : Option Bool} {dd_BadRounds : Option Addr} {m0_BadRounds m1_BadRounds m2_BadRounds m3_BadRounds m5_BadRounds : Option Value}
    {nm_BadSize qn_BadSize : Str} {N_BadSize : Addr} {bs_BadSize bm_BadSize : List Value} {sn_BadSize : List Str} {sub_BadSize : List Value} {ab_BadSize : Bool} {col_BadSize : Option Bool} {dd_BadSize : Option Addr} {m0_BadSize m1_BadSize m2_BadSize m3_BadSize m5_BadSize : Option Value}
    {nm_BadStrength qn_BadStrength : Str} {N_BadStrength : Addr} {bs_BadStrength bm_BadStrength : List Value} {sn_BadStrength : List Str} {sub_BadStrength : List Value} {ab_BadStrength : Bool} {col_BadStrength : Option Bool} {dd_BadStrength : Option Addr} {m0_BadStrength m1_BadStrength m2_BadStrength m3_BadStrength m5_BadStrength : Option Value}
    {nm_BadGuard qn_BadGuard : Str} {N_BadGuard : Addr} {bs_BadGuard bm_BadGuard : List Value} {sn_BadGuard : List Str} {sub_BadGuard : List Value} {ab_BadGuard : Bool} {col_BadGuard : Option Bool} {dd_BadGuard : Option Addr} {m0_BadGuard m1_BadGuard m2_BadGuard m3_BadGuard m5_BadGuard : Option Value}
    (l_ini : K.lookup f_ini = some ⟨oc_ini, od_ini, .func (PySem.W.fnOf "__init__" "Refused.__init__" (defArgs st_ini) (defBody st_ini) (defScope st_ini) .none kV_ini dc_ini pm_ini an_ini cd_ini ct_ini), sl_ini⟩) (c_ini : PySem.W.codeIn K cd_ini "Refused.__init__" = true) (k_ini : PySem.W.keepIn K (.ref f_ini) = true) (t_ini : PySem.W.typeIn K (.ref f_ini) = some (.type "function"))
    (aC_Refused : PySem.W.nsIn K mainGlobals "Refused" = some (some (.ref C_Refused)))
    (aC_BadSize : PySem.W.nsIn K mainGlobals "BadSize" = some (some (.ref C_BadSize)))
    (aC_BadStrength : PySem.W.nsIn K mainGlobals "BadStrength" = some (some (.ref C_BadStrength)))
    (aC_BadGuard : PySem.W.nsIn K mainGlobals "BadGuard" = some (some (.ref C_BadGuard)))
    (aC_Unlike : PySem.W.nsIn K mainGlobals "Unlike" = some (some (.ref C_Unlike)))
    (aC_BadGame : PySem.W.nsIn K mainGlobals "BadGame" = some (some (.ref C_BadGame)))
    (aC_BadRounds : PySem.W.nsIn K mainGlobals "BadRounds" = some (some (.ref C_BadRounds)))
    (aC_BadLoose : PySem.W.nsIn K mainGlobals "BadLoose" = some (some (.ref C_BadLoose)))
    (xL_BadLoose : K.lookup C_BadLoose = some (excClassObj nm_BadLoose qn_BadLoose C_BadLoose N_BadLoose bs_BadLoose bm_BadLoose true sn_BadLoose sub_BadLoose ab_BadLoose col_BadLoose dd_BadLoose m0_BadLoose m1_BadLoose m2_BadLoose m3_BadLoose m5_BadLoose "ValueError.__new__")) (rv_BadLoose : PySem.HandSPX.refsVE bm_BadLoose = true)
    (sa_BadLoose : PySem.W.findIn K (.ref C_BadLoose) "__setattr__" = some (some (.builtin "object.__setattr__"))) (kC_BadLoose : PySem.W.keepIn K (.ref C_BadLoose) = true)
    (nw_BadLoose : PySem.W.findIn K (.ref C_BadLoose) "what" = some none) (iC_BadLoose : PySem.W.findIn K (.ref C_BadLoose) "__init__" = some (some (.ref f_ini))) (ga_BadLoose : PySem.W.findIn K (.ref C_BadLoose) "__getattribute__" = some (some (.builtin "BaseException.__getattribute__"))) (gg_BadLoose : PySem.W.findIn K (.ref C_BadLoose) "__getattr__" = some none) (hC_BadLoose : PySem.W.hasDictIn K C_BadLoose = true)
    (su_BadLoose_BadLoose : PySem.W.subIn K (.ref C_BadLoose) (.ref C_BadLoose) = some true)
    (su_BadLoose_Unlike : PySem.W.subIn K (.ref C_BadLoose) (.ref C_Unlike) = some false)
    (su_BadLoose_Refused : PySem.W.subIn K (.ref C_BadLoose) (.ref C_Refused) = some true)
    (xL_Unlike : K.lookup C_Unlike = some (excClassObj nm_Unlike qn_Unlike C_Unlike N_Unlike bs_Unlike bm_Unlike true sn_Unlike sub_Unlike ab_Unlike col_Unlike dd_Unlike m0_Unlike m1_Unlike m2_Unlike m3_Unlike m5_Unlike "ValueError.__new__")) (rv_Unlike : PySem.HandSPX.refsVE bm_Unlike = true)
    (sa_Unlike : PySem.W.findIn K (.ref C_Unlike) "__setattr__" = some (some (.builtin "object.__setattr__"))) (kC_Unlike : PySem.W.keepIn K (.ref C_Unlike) = true)
    (nw_Unlike : PySem.W.findIn K (.ref C_Unlike) "what" = some none) (iC_Unlike : PySem.W.findIn K (.ref C_Unlike) "__init__" = some (some (.ref f_ini))) (ga_Unlike : PySem.W.findIn K (.ref C_Unlike) "__getattribute__" = some (some (.builtin "BaseException.__getattribute__"))) (gg_Unlike : PySem.W.findIn K (.ref C_Unlike) "__getattr__" = some none) (hC_Unlike : PySem.W.hasDictIn K C_Unlike = true)
    (su_Unlike_BadLoose : PySem.W.subIn K (.ref C_Unlike) (.ref C_BadLoose) = some false)
    (su_Unlike_Unlike : PySem.W.subIn K (.ref C_Unlike) (.ref C_Unlike) = some true)
    (su_Unlike_Refused : PySem.W.subIn K (.ref C_Unlike) (.ref C_Refused) = some true)
    (xL_BadGame : K.lookup C_BadGame = some (excClassObj nm_BadGame qn_BadGame C_BadGame N_BadGame bs_BadGame bm_BadGame true sn_BadGame sub_BadGame ab_BadGame col_BadGame dd_BadGame m0_BadGame m1_BadGame m2_BadGame m3_BadGame m5_BadGame "ValueError.__new__")) (rv_BadGame : PySem.HandSPX.refsVE bm_BadGame = true)
    (sa_BadGame : PySem.W.findIn K (.ref C_BadGame) "__setattr__" = some (some (.builtin "object.__setattr__"))) (kC_BadGame : PySem.W.keepIn K (.ref C_BadGame) = true)
    (nw_BadGame : PySem.W.findIn K (.ref C_BadGame) "what" = some none) (iC_BadGame : PySem.W.findIn K (.ref C_BadGame) "__init__" = some (some (.ref f_ini))) (ga_BadGame : PySem.W.findIn K (.ref C_BadGame) "__getattribute__" = some (some (.builtin "BaseException.__getattribute__"))) (gg_BadGame : PySem.W.findIn K (.ref C_BadGame) "__getattr__" = some none) (hC_BadGame : PySem.W.hasDictIn K C_BadGame = true)
    (su_BadGame_BadLoose : PySem.W.subIn K (.ref C_BadGame) (.ref C_BadLoose) = some false)
    (su_BadGame_Unlike : PySem.W.subIn K (.ref C_BadGame) (.ref C_Unlike) = some false)
    (su_BadGame_Refused : PySem.W.subIn K (.ref C_BadGame) (.ref C_Refused) = some true)
    (xL_BadRounds : K.lookup C_BadRounds = some (excClassObj nm_BadRounds qn_BadRounds C_BadRounds N_BadRounds bs_BadRounds bm_BadRounds true sn_BadRounds sub_BadRounds ab_BadRounds col_BadRounds dd_BadRounds m0_BadRounds m1_BadRounds m2_BadRounds m3_BadRounds m5_BadRounds "ValueError.__new__")) (rv_BadRounds : PySem.HandSPX.refsVE bm_BadRounds = true)
    (sa_BadRounds : PySem.W.findIn K (.ref C_BadRounds) "__setattr__" = some (some (.builtin "object.__setattr__"))) (kC_BadRounds : PySem.W.keepIn K (.ref C_BadRounds) = true)
    (nw_BadRounds : PySem.W.findIn K (.ref C_BadRounds) "what" = some none) (iC_BadRounds : PySem.W.findIn K (.ref C_BadRounds) "__init__" = some (some (.ref f_ini))) (ga_BadRounds : PySem.W.findIn K (.ref C_BadRounds) "__getattribute__" = some (some (.builtin "BaseException.__getattribute__"))) (gg_BadRounds : PySem.W.findIn K (.ref C_BadRounds) "__getattr__" = some none) (hC_BadRounds : PySem.W.hasDictIn K C_BadRounds = true)
    (su_BadRounds_BadLoose : PySem.W.subIn K (.ref C_BadRounds) (.ref C_BadLoose) = some false)
    (su_BadRounds_Unlike : PySem.W.subIn K (.ref C_BadRounds) (.ref C_Unlike) = some false)
    (su_BadRounds_Refused : PySem.W.subIn K (.ref C_BadRounds) (.ref C_Refused) = some true)
    (xL_BadSize : K.lookup C_BadSize = some (excClassObj nm_BadSize qn_BadSize C_BadSize N_BadSize bs_BadSize bm_BadSize true sn_BadSize sub_BadSize ab_BadSize col_BadSize dd_BadSize m0_BadSize m1_BadSize m2_BadSize m3_BadSize m5_BadSize "ValueError.__new__")) (rv_BadSize : PySem.HandSPX.refsVE bm_BadSize = true)
    (sa_BadSize : PySem.W.findIn K (.ref C_BadSize) "__setattr__" = some (some (.builtin "object.__setattr__"))) (kC_BadSize : PySem.W.keepIn K (.ref C_BadSize) = true)
    (nw_BadSize : PySem.W.findIn K (.ref C_BadSize) "what" = some none) (iC_BadSize : PySem.W.findIn K (.ref C_BadSize) "__init__" = some (some (.ref f_ini))) (ga_BadSize : PySem.W.findIn K (.ref C_BadSize) "__getattribute__" = some (some (.builtin "BaseException.__getattribute__"))) (gg_BadSize : PySem.W.findIn K (.ref C_BadSize) "__getattr__" = some none) (hC_BadSize : PySem.W.hasDictIn K C_BadSize = true)
    (su_BadSize_BadLoose : PySem.W.subIn K (.ref C_BadSize) (.ref C_BadLoose) = some false)
    (su_BadSize_Unlike : PySem.W.subIn K (.ref C_BadSize) (.ref C_Unlike) = some false)
    (su_BadSize_Refused : PySem.W.subIn K (.ref C_BadSize) (.ref C_Refused) = some true)
    (xL_BadStrength : K.lookup C_BadStrength = some (excClassObj nm_BadStrength qn_BadStrength C_BadStrength N_BadStrength bs_BadStrength bm_BadStrength true sn_BadStrength sub_BadStrength ab_BadStrength col_BadStrength dd_BadStrength m0_BadStrength m1_BadStrength m2_BadStrength m3_BadStrength m5_BadStrength "ValueError.__new__")) (rv_BadStrength : PySem.HandSPX.refsVE bm_BadStrength = true)
    (sa_BadStrength : PySem.W.findIn K (.ref C_BadStrength) "__setattr__" = some (some (.builtin "object.__setattr__"))) (kC_BadStrength : PySem.W.keepIn K (.ref C_BadStrength) = true)
    (nw_BadStrength : PySem.W.findIn K (.ref C_BadStrength) "what" = some none) (iC_BadStrength : PySem.W.findIn K (.ref C_BadStrength) "__init__" = some (some (.ref f_ini))) (ga_BadStrength : PySem.W.findIn K (.ref C_BadStrength) "__getattribute__" = some (some (.builtin "BaseException.__getattribute__"))) (gg_BadStrength : PySem.W.findIn K (.ref C_BadStrength) "__getattr__" = some none) (hC_BadStrength : PySem.W.hasDictIn K C_BadStrength = true)
    (su_BadStrength_BadLoose : PySem.W.subIn K (.ref C_BadStrength) (.ref C_BadLoose) = some false)
    (su_BadStrength_Unlike : PySem.W.subIn K (.ref C_BadStrength) (.ref C_Unlike) = some false)
    (su_BadStrength_Refused : PySem.W.subIn K (.ref C_BadStrength) (.ref C_Refused) = some true)
    (xL_BadGuard : K.lookup C_BadGuard = some (excClassObj nm_BadGuard qn_BadGuard C_BadGuard N_BadGuard bs_BadGuard bm_BadGuard true sn_BadGuard sub_BadGuard ab_BadGuard col_BadGuard dd_BadGuard m0_BadGuard m1_BadGuard m2_BadGuard m3_BadGuard m5_BadGuard "ValueError.__new__")) (rv_BadGuard : PySem.HandSPX.refsVE bm_BadGuard = true)
    (sa_BadGuard : PySem.W.findIn K (.ref C_BadGuard) "__setattr__" = some (some (.builtin "object.__setattr__"))) (kC_BadGuard : PySem.W.keepIn K (.ref C_BadGuard) = true)
    (nw_BadGuard : PySem.W.findIn K (.ref C_BadGuard) "what" = some none) (iC_BadGuard : PySem.W.findIn K (.ref C_BadGuard) "__init__" = some (some (.ref f_ini))) (ga_BadGuard : PySem.W.findIn K (.ref C_BadGuard) "__getattribute__" = some (some (.builtin "BaseException.__getattribute__"))) (gg_BadGuard : PySem.W.findIn K (.ref C_BadGuard) "__getattr__" = some none) (hC_BadGuard : PySem.W.hasDictIn K C_BadGuard = true)
    (su_BadGuard_BadLoose : PySem.W.subIn K (.ref C_BadGuard) (.ref C_BadLoose) = some false)
    (su_BadGuard_Unlike : PySem.W.subIn K (.ref C_BadGuard) (.ref C_Unlike) = some false)
    (su_BadGuard_Refused : PySem.W.subIn K (.ref C_BadGuard) (.ref C_Refused) = some true)
    (eC_Refused : PySem.W.subIn K (.ref C_Refused) (.type "BaseException") = some true) (tC_Refused : PySem.W.typeIn K (.ref C_Refused) = some (.type "type")) (oC_Refused : PySem.W.isClsIn K C_Refused = true)
    (eC_BadSize : PySem.W.subIn K (.ref C_BadSize) (.type "BaseException") = some true) (tC_BadSize : PySem.W.typeIn K (.ref C_BadSize) = some (.type "type")) (oC_BadSize : PySem.W.isClsIn K C_BadSize = true)
    (eC_BadStrength : PySem.W.subIn K (.ref C_BadStrength) (.type "BaseException") = some true) (tC_BadStrength : PySem.W.typeIn K (.ref C_BadStrength) = some (.type "type")) (oC_BadStrength : PySem.W.isClsIn K C_BadStrength = true)
    (eC_BadGuard : PySem.W.subIn K (.ref C_BadGuard) (.type "BaseException") = some true) (tC_BadGuard : PySem.W.typeIn K (.ref C_BadGuard) = some (.type "type")) (oC_BadGuard : PySem.W.isClsIn K C_BadGuard = true)
    (eC_Unlike : PySem.W.subIn K (.ref C_Unlike) (.type "BaseException") = some true) (tC_Unlike : PySem.W.typeIn K (.ref C_Unlike) = some (.type "type")) (oC_Unlike : PySem.W.isClsIn K C_Unlike = true)
    (eC_BadGame : PySem.W.subIn K (.ref C_BadGame) (.type "BaseException") = some true) (tC_BadGame : PySem.W.typeIn K (.ref C_BadGame) = some (.type "type")) (oC_BadGame : PySem.W.isClsIn K C_BadGame = true)
    (eC_BadRounds : PySem.W.subIn K (.ref C_BadRounds) (.type "BaseException") = some true) (tC_BadRounds : PySem.W.typeIn K (.ref C_BadRounds) = some (.type "type")) (oC_BadRounds : PySem.W.isClsIn K C_BadRounds = true)
    (eC_BadLoose : PySem.W.subIn K (.ref C_BadLoose) (.type "BaseException") = some true) (tC_BadLoose : PySem.W.typeIn K (.ref C_BadLoose) = some (.type "type")) (oC_BadLoose : PySem.W.isClsIn K C_BadLoose = true)
    {f_fini C_Field : Addr} {od_fini an_fini : Option Addr} {sl_fini : Array (Option Value)} {oc_fini kV_fini dc_fini pm_fini cd_fini ct_fini : Value}
    (l_fini : K.lookup f_fini = some ⟨oc_fini, od_fini, .func (PySem.W.fnOf "__init__" "Field.__init__" (defArgs st_fini) (defBody st_fini) (defScope st_fini) .none kV_fini dc_fini pm_fini an_fini cd_fini ct_fini), sl_fini⟩) (c_fini : PySem.W.codeIn K cd_fini "Field.__init__" = true) (k_fini : PySem.W.keepIn K (.ref f_fini) = true)
    (aC_Field : PySem.W.nsIn K mainGlobals "Field" = some (some (.ref C_Field))) (pg_Field : PySem.W.plainGet K C_Field Str.empty = true) (hd_Field : PySem.W.hasDictIn K C_Field = true) (po_Field : PySem.W.plainOver K C_Field = true) (sa_Field : PySem.W.findIn K (.ref C_Field) "__setattr__" = some (some (.builtin "object.__setattr__")))
    (n0_Field : PySem.W.findIn K (.ref C_Field) "n" = some none) (n1_Field : PySem.W.findIn K (.ref C_Field) "strengths" = some none) (n2_Field : PySem.W.findIn K (.ref C_Field) "guards" = some none) (mk_Field : PySem.W.makesIn K C_Field = true) (iC_Field : PySem.W.findIn K (.ref C_Field) "__init__" = some (some (.ref f_fini))) (fn_fini : PySem.W.isFn K (.ref f_fini) = true) (kC_Field : PySem.W.keepIn K (.ref C_Field) = true)
    (a_check_loose : PySem.W.nsIn K mainGlobals "check_loose" = some (some (.ref f_check_loose))) (l_check_loose : K.lookup f_check_loose = some ⟨oc_check_loose, od_check_loose, .func (PySem.W.fnOf "check_loose" "check_loose" (defArgs st_check_loose) (defBody st_check_loose) (defScope st_check_loose) .none kV_check_loose dc_check_loose pm_check_loose an_check_loose cd_check_loose ct_check_loose), sl_check_loose⟩) (c_check_loose : PySem.W.codeIn K cd_check_loose "check_loose" = true) (k_check_loose : PySem.W.keepIn K (.ref f_check_loose) = true)
    (a_can_beat : PySem.W.nsIn K mainGlobals "can_beat" = some (some (.ref f_can_beat))) (l_can_beat : K.lookup f_can_beat = some ⟨oc_can_beat, od_can_beat, .func (PySem.W.fnOf "can_beat" "can_beat" (defArgs st_can_beat) (defBody st_can_beat) (defScope st_can_beat) .none kV_can_beat dc_can_beat pm_can_beat an_can_beat cd_can_beat ct_can_beat), sl_can_beat⟩) (c_can_beat : PySem.W.codeIn K cd_can_beat "can_beat" = true) (k_can_beat : PySem.W.keepIn K (.ref f_can_beat) = true)
    (a_check_form : PySem.W.nsIn K mainGlobals "check_form" = some (some (.ref f_check_form))) (l_check_form : K.lookup f_check_form = some ⟨oc_check_form, od_check_form, .func (PySem.W.fnOf "check_form" "check_form" (defArgs st_check_form) (defBody st_check_form) (defScope st_check_form) .none kV_check_form dc_check_form pm_check_form an_check_form cd_check_form ct_check_form), sl_check_form⟩) (c_check_form : PySem.W.codeIn K cd_check_form "check_form" = true) (k_check_form : PySem.W.keepIn K (.ref f_check_form) = true)
    (a_check_no_gap : PySem.W.nsIn K mainGlobals "check_no_gap" = some (some (.ref f_check_no_gap))) (l_check_no_gap : K.lookup f_check_no_gap = some ⟨oc_check_no_gap, od_check_no_gap, .func (PySem.W.fnOf "check_no_gap" "check_no_gap" (defArgs st_check_no_gap) (defBody st_check_no_gap) (defScope st_check_no_gap) .none kV_check_no_gap dc_check_no_gap pm_check_no_gap an_check_no_gap cd_check_no_gap ct_check_no_gap), sl_check_no_gap⟩) (c_check_no_gap : PySem.W.codeIn K cd_check_no_gap "check_no_gap" = true) (k_check_no_gap : PySem.W.keepIn K (.ref f_check_no_gap) = true)
    (a_check_games : PySem.W.nsIn K mainGlobals "check_games" = some (some (.ref f_check_games))) (l_check_games : K.lookup f_check_games = some ⟨oc_check_games, od_check_games, .func (PySem.W.fnOf "check_games" "check_games" (defArgs st_check_games) (defBody st_check_games) (defScope st_check_games) .none kV_check_games dc_check_games pm_check_games an_check_games cd_check_games ct_check_games), sl_check_games⟩) (c_check_games : PySem.W.codeIn K cd_check_games "check_games" = true) (k_check_games : PySem.W.keepIn K (.ref f_check_games) = true)
    (a_made_cup : PySem.W.nsIn K mainGlobals "made_cup" = some (some (.ref f_made_cup))) (l_made_cup : K.lookup f_made_cup = some ⟨oc_made_cup, od_made_cup, .func (PySem.W.fnOf "made_cup" "made_cup" (defArgs st_made_cup) (defBody st_made_cup) (defScope st_made_cup) .none kV_made_cup dc_made_cup pm_made_cup an_made_cup cd_made_cup ct_made_cup), sl_made_cup⟩) (c_made_cup : PySem.W.codeIn K cd_made_cup "made_cup" = true) (k_made_cup : PySem.W.keepIn K (.ref f_made_cup) = true)
    (a_comes_through : PySem.W.nsIn K mainGlobals "comes_through" = some (some (.ref f_comes_through))) (l_comes_through : K.lookup f_comes_through = some ⟨oc_comes_through, od_comes_through, .func (PySem.W.fnOf "comes_through" "comes_through" (defArgs st_comes_through) (defBody st_comes_through) (defScope st_comes_through) .none kV_comes_through dc_comes_through pm_comes_through an_comes_through cd_comes_through ct_comes_through), sl_comes_through⟩) (c_comes_through : PySem.W.codeIn K cd_comes_through "comes_through" = true) (k_comes_through : PySem.W.keepIn K (.ref f_comes_through) = true)
    (a_rests : PySem.W.nsIn K mainGlobals "rests" = some (some (.ref f_rests))) (l_rests : K.lookup f_rests = some ⟨oc_rests, od_rests, .func (PySem.W.fnOf "rests" "rests" (defArgs st_rests) (defBody st_rests) (defScope st_rests) .none kV_rests dc_rests pm_rests an_rests cd_rests ct_rests), sl_rests⟩) (c_rests : PySem.W.codeIn K cd_rests "rests" = true) (k_rests : PySem.W.keepIn K (.ref f_rests) = true)
    (a_is_let : PySem.W.nsIn K mainGlobals "is_let" = some (some (.ref f_is_let))) (l_is_let : K.lookup f_is_let = some ⟨oc_is_let, od_is_let, .func (PySem.W.fnOf "is_let" "is_let" (defArgs st_is_let) (defBody st_is_let) (defScope st_is_let) .none kV_is_let dc_is_let pm_is_let an_is_let cd_is_let ct_is_let), sl_is_let⟩) (c_is_let : PySem.W.codeIn K cd_is_let "is_let" = true) (k_is_let : PySem.W.keepIn K (.ref f_is_let) = true)
    (a_offers : PySem.W.nsIn K mainGlobals "offers" = some (some (.ref f_offers))) (l_offers : K.lookup f_offers = some ⟨oc_offers, od_offers, .func (PySem.W.fnOf "offers" "offers" (defArgs st_offers) (defBody st_offers) (defScope st_offers) .none (.ref kd_offers) dc_offers pm_offers an_offers cd_offers ct_offers), sl_offers⟩) (c_offers : PySem.W.codeIn K cd_offers "offers" = true) (k_offers : PySem.W.keepIn K (.ref f_offers) = true)
    (nd_offers : PySem.W.nsIn K kd_offers "loose" = some (some (.ref ed_offers))) (ld_offers : K.lookup ed_offers = some ⟨.type "tuple", oe_offers, .seq #[] ne_offers, se_offers⟩)
    (a_made_field : PySem.W.nsIn K mainGlobals "made_field" = some (some (.ref f_made_field))) (l_made_field : K.lookup f_made_field = some ⟨oc_made_field, od_made_field, .func (PySem.W.fnOf "made_field" "made_field" (defArgs st_made_field) (defBody st_made_field) (defScope st_made_field) .none kV_made_field dc_made_field pm_made_field an_made_field cd_made_field ct_made_field), sl_made_field⟩) (c_made_field : PySem.W.codeIn K cd_made_field "made_field" = true) (k_made_field : PySem.W.keepIn K (.ref f_made_field) = true)
    (a__law_pool : PySem.W.nsIn K mainGlobals "_law_pool" = some (some (.ref f__law_pool))) (l__law_pool : K.lookup f__law_pool = some ⟨oc__law_pool, od__law_pool, .func (PySem.W.fnOf "_law_pool" "_law_pool" (defArgs st__law_pool) (defBody st__law_pool) (defScope st__law_pool) .none kV__law_pool dc__law_pool pm__law_pool an__law_pool cd__law_pool ct__law_pool), sl__law_pool⟩) (c__law_pool : PySem.W.codeIn K cd__law_pool "_law_pool" = true) (k__law_pool : PySem.W.keepIn K (.ref f__law_pool) = true)
    (a__law_take : PySem.W.nsIn K mainGlobals "_law_take" = some (some (.ref f__law_take))) (l__law_take : K.lookup f__law_take = some ⟨oc__law_take, od__law_take, .func (PySem.W.fnOf "_law_take" "_law_take" (defArgs st__law_take) (defBody st__law_take) (defScope st__law_take) .none kV__law_take dc__law_take pm__law_take an__law_take cd__law_take ct__law_take), sl__law_take⟩) (c__law_take : PySem.W.codeIn K cd__law_take "_law_take" = true) (k__law_take : PySem.W.keepIn K (.ref f__law_take) = true)
    (a__law_one : PySem.W.nsIn K mainGlobals "_law_one" = some (some (.ref f__law_one))) (l__law_one : K.lookup f__law_one = some ⟨oc__law_one, od__law_one, .func (PySem.W.fnOf "_law_one" "_law_one" (defArgs st__law_one) (defBody st__law_one) (defScope st__law_one) .none kV__law_one dc__law_one pm__law_one an__law_one cd__law_one ct__law_one), sl__law_one⟩) (c__law_one : PySem.W.codeIn K cd__law_one "_law_one" = true) (k__law_one : PySem.W.keepIn K (.ref f__law_one) = true)
    (a__law_shuffled : PySem.W.nsIn K mainGlobals "_law_shuffled" = some (some (.ref f__law_shuffled))) (l__law_shuffled : K.lookup f__law_shuffled = some ⟨oc__law_shuffled, od__law_shuffled, .func (PySem.W.fnOf "_law_shuffled" "_law_shuffled" (defArgs st__law_shuffled) (defBody st__law_shuffled) (defScope st__law_shuffled) .none kV__law_shuffled dc__law_shuffled pm__law_shuffled an__law_shuffled cd__law_shuffled ct__law_shuffled), sl__law_shuffled⟩) (c__law_shuffled : PySem.W.codeIn K cd__law_shuffled "_law_shuffled" = true) (k__law_shuffled : PySem.W.keepIn K (.ref f__law_shuffled) = true)
    (a__law_figures : PySem.W.nsIn K mainGlobals "_law_figures" = some (some (.ref f__law_figures))) (l__law_figures : K.lookup f__law_figures = some ⟨oc__law_figures, od__law_figures, .func (PySem.W.fnOf "_law_figures" "_law_figures" (defArgs st__law_figures) (defBody st__law_figures) (defScope st__law_figures) .none kV__law_figures dc__law_figures pm__law_figures an__law_figures cd__law_figures ct__law_figures), sl__law_figures⟩) (c__law_figures : PySem.W.codeIn K cd__law_figures "_law_figures" = true) (k__law_figures : PySem.W.keepIn K (.ref f__law_figures) = true)
    (a__law_may : PySem.W.nsIn K mainGlobals "_law_may" = some (some (.ref f__law_may))) (l__law_may : K.lookup f__law_may = some ⟨oc__law_may, od__law_may, .func (PySem.W.fnOf "_law_may" "_law_may" (defArgs st__law_may) (defBody st__law_may) (defScope st__law_may) .none kV__law_may dc__law_may pm__law_may an__law_may cd__law_may ct__law_may), sl__law_may⟩) (c__law_may : PySem.W.codeIn K cd__law_may "_law_may" = true) (k__law_may : PySem.W.keepIn K (.ref f__law_may) = true)
    (a__law_stair : PySem.W.nsIn K mainGlobals "_law_stair" = some (some (.ref f__law_stair))) (l__law_stair : K.lookup f__law_stair = some ⟨oc__law_stair, od__law_stair, .func (PySem.W.fnOf "_law_stair" "_law_stair" (defArgs st__law_stair) (defBody st__law_stair) (defScope st__law_stair) .none kV__law_stair dc__law_stair pm__law_stair an__law_stair cd__law_stair ct__law_stair), sl__law_stair⟩) (c__law_stair : PySem.W.codeIn K cd__law_stair "_law_stair" = true) (k__law_stair : PySem.W.keepIn K (.ref f__law_stair) = true)
    (a__law_drawn_round : PySem.W.nsIn K mainGlobals "_law_drawn_round" = some (some (.ref f__law_drawn_round))) (l__law_drawn_round : K.lookup f__law_drawn_round = some ⟨oc__law_drawn_round, od__law_drawn_round, .func (PySem.W.fnOf "_law_drawn_round" "_law_drawn_round" (defArgs st__law_drawn_round) (defBody st__law_drawn_round) (defScope st__law_drawn_round) .none kV__law_drawn_round dc__law_drawn_round pm__law_drawn_round an__law_drawn_round cd__law_drawn_round ct__law_drawn_round), sl__law_drawn_round⟩) (c__law_drawn_round : PySem.W.codeIn K cd__law_drawn_round "_law_drawn_round" = true) (k__law_drawn_round : PySem.W.keepIn K (.ref f__law_drawn_round) = true)
    (a__law_cup : PySem.W.nsIn K mainGlobals "_law_cup" = some (some (.ref f__law_cup))) (l__law_cup : K.lookup f__law_cup = some ⟨oc__law_cup, od__law_cup, .func (PySem.W.fnOf "_law_cup" "_law_cup" (defArgs st__law_cup) (defBody st__law_cup) (defScope st__law_cup) .none kV__law_cup dc__law_cup pm__law_cup an__law_cup cd__law_cup ct__law_cup), sl__law_cup⟩) (c__law_cup : PySem.W.codeIn K cd__law_cup "_law_cup" = true) (k__law_cup : PySem.W.keepIn K (.ref f__law_cup) = true)
    (a__law_rounds : PySem.W.nsIn K mainGlobals "_law_rounds" = some (some (.ref f__law_rounds))) (l__law_rounds : K.lookup f__law_rounds = some ⟨oc__law_rounds, od__law_rounds, .func (PySem.W.fnOf "_law_rounds" "_law_rounds" (defArgs st__law_rounds) (defBody st__law_rounds) (defScope st__law_rounds) .none kV__law_rounds dc__law_rounds pm__law_rounds an__law_rounds cd__law_rounds ct__law_rounds), sl__law_rounds⟩) (c__law_rounds : PySem.W.codeIn K cd__law_rounds "_law_rounds" = true) (k__law_rounds : PySem.W.keepIn K (.ref f__law_rounds) = true)
    (a__law_through : PySem.W.nsIn K mainGlobals "_law_through" = some (some (.ref f__law_through))) (l__law_through : K.lookup f__law_through = some ⟨oc__law_through, od__law_through, .func (PySem.W.fnOf "_law_through" "_law_through" (defArgs st__law_through) (defBody st__law_through) (defScope st__law_through) .none kV__law_through dc__law_through pm__law_through an__law_through cd__law_through ct__law_through), sl__law_through⟩) (c__law_through : PySem.W.codeIn K cd__law_through "_law_through" = true) (k__law_through : PySem.W.keepIn K (.ref f__law_through) = true)
    (a__law_out : PySem.W.nsIn K mainGlobals "_law_out" = some (some (.ref f__law_out))) (l__law_out : K.lookup f__law_out = some ⟨oc__law_out, od__law_out, .func (PySem.W.fnOf "_law_out" "_law_out" (defArgs st__law_out) (defBody st__law_out) (defScope st__law_out) .none kV__law_out dc__law_out pm__law_out an__law_out cd__law_out ct__law_out), sl__law_out⟩) (c__law_out : PySem.W.codeIn K cd__law_out "_law_out" = true) (k__law_out : PySem.W.keepIn K (.ref f__law_out) = true)
    (a__law_resting : PySem.W.nsIn K mainGlobals "_law_resting" = some (some (.ref f__law_resting))) (l__law_resting : K.lookup f__law_resting = some ⟨oc__law_resting, od__law_resting, .func (PySem.W.fnOf "_law_resting" "_law_resting" (defArgs st__law_resting) (defBody st__law_resting) (defScope st__law_resting) .none kV__law_resting dc__law_resting pm__law_resting an__law_resting cd__law_resting ct__law_resting), sl__law_resting⟩) (c__law_resting : PySem.W.codeIn K cd__law_resting "_law_resting" = true) (k__law_resting : PySem.W.keepIn K (.ref f__law_resting) = true)
    (a__law_loose : PySem.W.nsIn K mainGlobals "_law_loose" = some (some (.ref f__law_loose))) (l__law_loose : K.lookup f__law_loose = some ⟨oc__law_loose, od__law_loose, .func (PySem.W.fnOf "_law_loose" "_law_loose" (defArgs st__law_loose) (defBody st__law_loose) (defScope st__law_loose) .none kV__law_loose dc__law_loose pm__law_loose an__law_loose cd__law_loose ct__law_loose), sl__law_loose⟩) (c__law_loose : PySem.W.codeIn K cd__law_loose "_law_loose" = true) (k__law_loose : PySem.W.keepIn K (.ref f__law_loose) = true)
    (a__law_offered : PySem.W.nsIn K mainGlobals "_law_offered" = some (some (.ref f__law_offered))) (l__law_offered : K.lookup f__law_offered = some ⟨oc__law_offered, od__law_offered, .func (PySem.W.fnOf "_law_offered" "_law_offered" (defArgs st__law_offered) (defBody st__law_offered) (defScope st__law_offered) .none kV__law_offered dc__law_offered pm__law_offered an__law_offered cd__law_offered ct__law_offered), sl__law_offered⟩) (c__law_offered : PySem.W.codeIn K cd__law_offered "_law_offered" = true) (k__law_offered : PySem.W.keepIn K (.ref f__law_offered) = true)
    (a__law_changed : PySem.W.nsIn K mainGlobals "_law_changed" = some (some (.ref f__law_changed))) (l__law_changed : K.lookup f__law_changed = some ⟨oc__law_changed, od__law_changed, .func (PySem.W.fnOf "_law_changed" "_law_changed" (defArgs st__law_changed) (defBody st__law_changed) (defScope st__law_changed) .none kV__law_changed dc__law_changed pm__law_changed an__law_changed cd__law_changed ct__law_changed), sl__law_changed⟩) (c__law_changed : PySem.W.codeIn K cd__law_changed "_law_changed" = true) (k__law_changed : PySem.W.keepIn K (.ref f__law_changed) = true)
    (a__law_low : PySem.W.nsIn K mainGlobals "_law_low" = some (some (.ref f__law_low))) (l__law_low : K.lookup f__law_low = some ⟨oc__law_low, od__law_low, .func (PySem.W.fnOf "_law_low" "_law_low" (defArgs st__law_low) (defBody st__law_low) (defScope st__law_low) .none kV__law_low dc__law_low pm__law_low an__law_low cd__law_low ct__law_low), sl__law_low⟩) (c__law_low : PySem.W.codeIn K cd__law_low "_law_low" = true) (k__law_low : PySem.W.keepIn K (.ref f__law_low) = true)
    (a__law_world : PySem.W.nsIn K mainGlobals "_law_world" = some (some (.ref f__law_world))) (l__law_world : K.lookup f__law_world = some ⟨oc__law_world, od__law_world, .func (PySem.W.fnOf "_law_world" "_law_world" (defArgs st__law_world) (defBody st__law_world) (defScope st__law_world) .none kV__law_world dc__law_world pm__law_world an__law_world cd__law_world ct__law_world), sl__law_world⟩) (c__law_world : PySem.W.codeIn K cd__law_world "_law_world" = true) (k__law_world : PySem.W.keepIn K (.ref f__law_world) = true)
    (a__law_told : PySem.W.nsIn K mainGlobals "_law_told" = some (some (.ref f__law_told))) (l__law_told : K.lookup f__law_told = some ⟨oc__law_told, od__law_told, .func (PySem.W.fnOf "_law_told" "_law_told" (defArgs st__law_told) (defBody st__law_told) (defScope st__law_told) .none kV__law_told dc__law_told pm__law_told an__law_told cd__law_told ct__law_told), sl__law_told⟩) (c__law_told : PySem.W.codeIn K cd__law_told "_law_told" = true) (k__law_told : PySem.W.keepIn K (.ref f__law_told) = true)
    (a_law : PySem.W.nsIn K mainGlobals "law" = some (some (.ref f_law))) (l_law : K.lookup f_law = some ⟨oc_law, od_law, .func (PySem.W.fnOf "law" "law" (defArgs st_law) (defBody st_law) (defScope st_law) .none kV_law dc_law pm_law an_law cd_law ct_law), sl_law⟩) (c_law : PySem.W.codeIn K cd_law "law" = true) (k_law : PySem.W.keepIn K (.ref f_law) = true)
    (z_enumerate : PySem.W.nsIn K mainGlobals "enumerate" = some none)
    (z_int : PySem.W.nsIn K mainGlobals "int" = some none)
    (z_len : PySem.W.nsIn K mainGlobals "len" = some none)
    (z_max : PySem.W.nsIn K mainGlobals "max" = some none)
    (z_min : PySem.W.nsIn K mainGlobals "min" = some none)
    (z_range : PySem.W.nsIn K mainGlobals "range" = some none)
    (z_sorted : PySem.W.nsIn K mainGlobals "sorted" = some none)
    (z_tuple : PySem.W.nsIn K mainGlobals "tuple" = some none)
    (v_STAYS : PySem.W.nsIn K mainGlobals "STAYS" = some (some (.ref ad_STAYS))) (l_STAYS : K.lookup ad_STAYS = some ⟨.type "tuple", od_STAYS, .seq #[.int (0) t0_STAYS, .int (-1) t1_STAYS] n_STAYS, sl_STAYS⟩)
    (v_MOST : PySem.W.nsIn K mainGlobals "MOST" = some (some (.int 1000000000 t_MOST)))
    (v_MOST_SIDES : PySem.W.nsIn K mainGlobals "MOST_SIDES" = some (some (.int 32 t_MOST_SIDES)))
    : ∃ fd : FuncData, (∀ (s : Shared) (v : Value), BindsTo s fd ⟨[v], []⟩ [("_law_script", v)]) ∧ ∀ base : Heap, K.In base → base.Ns mainGlobals mg → FnOk l.prog w K mg base (L2.CX l.prog w) 7 fa fd ["_law_script"] (lSp ⟨K, caOf K⟩ sp_law) := by
  have e := hfa.symm.trans (PySem.W.mg_of X G a_law)
  cases e
  have ca_Refused : caOf K "Refused" = C_Refused := by simp only [caOf, aC_Refused]
  have ca_BadSize : caOf K "BadSize" = C_BadSize := by simp only [caOf, aC_BadSize]
  have ca_BadStrength : caOf K "BadStrength" = C_BadStrength := by simp only [caOf, aC_BadStrength]
  have ca_BadGuard : caOf K "BadGuard" = C_BadGuard := by simp only [caOf, aC_BadGuard]
  have ca_Unlike : caOf K "Unlike" = C_Unlike := by simp only [caOf, aC_Unlike]
  have ca_BadGame : caOf K "BadGame" = C_BadGame := by simp only [caOf, aC_BadGame]
  have ca_BadRounds : caOf K "BadRounds" = C_BadRounds := by simp only [caOf, aC_BadRounds]
  have ca_BadLoose : caOf K "BadLoose" = C_BadLoose := by simp only [caOf, aC_BadLoose]
  have eer : ∀ c ∈ LC_, ErrC K (caOf K c) f_ini := by
    intro c hc
    simp only [LC_, List.mem_cons, List.not_mem_nil, or_false] at hc
    rcases hc with rfl | rfl | rfl | rfl | rfl | rfl | rfl
    · rw [ca_BadLoose]; exact ⟨⟨⟨nm_BadLoose, qn_BadLoose, N_BadLoose, bs_BadLoose, bm_BadLoose, sn_BadLoose, sub_BadLoose, ab_BadLoose, col_BadLoose, dd_BadLoose, m0_BadLoose, m1_BadLoose, m2_BadLoose, m3_BadLoose, m5_BadLoose, xL_BadLoose, rv_BadLoose⟩, sa_BadLoose, eC_BadLoose, tC_BadLoose, kC_BadLoose⟩, nw_BadLoose, iC_BadLoose, ⟨ga_BadLoose, gg_BadLoose, eC_BadLoose, hC_BadLoose⟩⟩
    · rw [ca_Unlike]; exact ⟨⟨⟨nm_Unlike, qn_Unlike, N_Unlike, bs_Unlike, bm_Unlike, sn_Unlike, sub_Unlike, ab_Unlike, col_Unlike, dd_Unlike, m0_Unlike, m1_Unlike, m2_Unlike, m3_Unlike, m5_Unlike, xL_Unlike, rv_Unlike⟩, sa_Unlike, eC_Unlike, tC_Unlike, kC_Unlike⟩, nw_Unlike, iC_Unlike, ⟨ga_Unlike, gg_Unlike, eC_Unlike, hC_Unlike⟩⟩
    · rw [ca_BadGame]; exact ⟨⟨⟨nm_BadGame, qn_BadGame, N_BadGame, bs_BadGame, bm_BadGame, sn_BadGame, sub_BadGame, ab_BadGame, col_BadGame, dd_BadGame, m0_BadGame, m1_BadGame, m2_BadGame, m3_BadGame, m5_BadGame, xL_BadGame, rv_BadGame⟩, sa_BadGame, eC_BadGame, tC_BadGame, kC_BadGame⟩, nw_BadGame, iC_BadGame, ⟨ga_BadGame, gg_BadGame, eC_BadGame, hC_BadGame⟩⟩
    · rw [ca_BadRounds]; exact ⟨⟨⟨nm_BadRounds, qn_BadRounds, N_BadRounds, bs_BadRounds, bm_BadRounds, sn_BadRounds, sub_BadRounds, ab_BadRounds, col_BadRounds, dd_BadRounds, m0_BadRounds, m1_BadRounds, m2_BadRounds, m3_BadRounds, m5_BadRounds, xL_BadRounds, rv_BadRounds⟩, sa_BadRounds, eC_BadRounds, tC_BadRounds, kC_BadRounds⟩, nw_BadRounds, iC_BadRounds, ⟨ga_BadRounds, gg_BadRounds, eC_BadRounds, hC_BadRounds⟩⟩
    · rw [ca_BadSize]; exact ⟨⟨⟨nm_BadSize, qn_BadSize, N_BadSize, bs_BadSize, bm_BadSize, sn_BadSize, sub_BadSize, ab_BadSize, col_BadSize, dd_BadSize, m0_BadSize, m1_BadSize, m2_BadSize, m3_BadSize, m5_BadSize, xL_BadSize, rv_BadSize⟩, sa_BadSize, eC_BadSize, tC_BadSize, kC_BadSize⟩, nw_BadSize, iC_BadSize, ⟨ga_BadSize, gg_BadSize, eC_BadSize, hC_BadSize⟩⟩
    · rw [ca_BadStrength]; exact ⟨⟨⟨nm_BadStrength, qn_BadStrength, N_BadStrength, bs_BadStrength, bm_BadStrength, sn_BadStrength, sub_BadStrength, ab_BadStrength, col_BadStrength, dd_BadStrength, m0_BadStrength, m1_BadStrength, m2_BadStrength, m3_BadStrength, m5_BadStrength, xL_BadStrength, rv_BadStrength⟩, sa_BadStrength, eC_BadStrength, tC_BadStrength, kC_BadStrength⟩, nw_BadStrength, iC_BadStrength, ⟨ga_BadStrength, gg_BadStrength, eC_BadStrength, hC_BadStrength⟩⟩
    · rw [ca_BadGuard]; exact ⟨⟨⟨nm_BadGuard, qn_BadGuard, N_BadGuard, bs_BadGuard, bm_BadGuard, sn_BadGuard, sub_BadGuard, ab_BadGuard, col_BadGuard, dd_BadGuard, m0_BadGuard, m1_BadGuard, m2_BadGuard, m3_BadGuard, m5_BadGuard, xL_BadGuard, rv_BadGuard⟩, sa_BadGuard, eC_BadGuard, tC_BadGuard, kC_BadGuard⟩, nw_BadGuard, iC_BadGuard, ⟨ga_BadGuard, gg_BadGuard, eC_BadGuard, hC_BadGuard⟩⟩
  have emer : ∀ c ∈ LC_, ∀ C ∈ HC_, PySem.W.exmOne K (.ref (caOf K c)) (.ref (caOf K C)) = some (subE c C) := by
    intro c hc C hC
    simp only [LC_, HC_, List.mem_cons, List.not_mem_nil, or_false] at hc hC
    rcases hc with rfl | rfl | rfl | rfl | rfl | rfl | rfl <;> rcases hC with rfl | rfl | rfl
    · rw [ca_BadLoose]; exact (exm_mk eC_BadLoose oC_BadLoose tC_BadLoose su_BadLoose_BadLoose).trans (by decide)
    · rw [ca_BadLoose, ca_Unlike]; exact (exm_mk eC_Unlike oC_Unlike tC_Unlike su_BadLoose_Unlike).trans (by decide)
    · rw [ca_BadLoose, ca_Refused]; exact (exm_mk eC_Refused oC_Refused tC_Refused su_BadLoose_Refused).trans (by decide)
    · rw [ca_Unlike, ca_BadLoose]; exact (exm_mk eC_BadLoose oC_BadLoose tC_BadLoose su_Unlike_BadLoose).trans (by decide)
    · rw [ca_Unlike]; exact (exm_mk eC_Unlike oC_Unlike tC_Unlike su_Unlike_Unlike).trans (by decide)
    · rw [ca_Unlike, ca_Refused]; exact (exm_mk eC_Refused oC_Refused tC_Refused su_Unlike_Refused).trans (by decide)
    · rw [ca_BadGame, ca_BadLoose]; exact (exm_mk eC_BadLoose oC_BadLoose tC_BadLoose su_BadGame_BadLoose).trans (by decide)
    · rw [ca_BadGame, ca_Unlike]; exact (exm_mk eC_Unlike oC_Unlike tC_Unlike su_BadGame_Unlike).trans (by decide)
    · rw [ca_BadGame, ca_Refused]; exact (exm_mk eC_Refused oC_Refused tC_Refused su_BadGame_Refused).trans (by decide)
    · rw [ca_BadRounds, ca_BadLoose]; exact (exm_mk eC_BadLoose oC_BadLoose tC_BadLoose su_BadRounds_BadLoose).trans (by decide)
    · rw [ca_BadRounds, ca_Unlike]; exact (exm_mk eC_Unlike oC_Unlike tC_Unlike su_BadRounds_Unlike).trans (by decide)
    · rw [ca_BadRounds, ca_Refused]; exact (exm_mk eC_Refused oC_Refused tC_Refused su_BadRounds_Refused).trans (by decide)
    · rw [ca_BadSize, ca_BadLoose]; exact (exm_mk eC_BadLoose oC_BadLoose tC_BadLoose su_BadSize_BadLoose).trans (by decide)
    · rw [ca_BadSize, ca_Unlike]; exact (exm_mk eC_Unlike oC_Unlike tC_Unlike su_BadSize_Unlike).trans (by decide)
    · rw [ca_BadSize, ca_Refused]; exact (exm_mk eC_Refused oC_Refused tC_Refused su_BadSize_Refused).trans (by decide)
    · rw [ca_BadStrength, ca_BadLoose]; exact (exm_mk eC_BadLoose oC_BadLoose tC_BadLoose su_BadStrength_BadLoose).trans (by decide)
    · rw [ca_BadStrength, ca_Unlike]; exact (exm_mk eC_Unlike oC_Unlike tC_Unlike su_BadStrength_Unlike).trans (by decide)
    · rw [ca_BadStrength, ca_Refused]; exact (exm_mk eC_Refused oC_Refused tC_Refused su_BadStrength_Refused).trans (by decide)
    · rw [ca_BadGuard, ca_BadLoose]; exact (exm_mk eC_BadLoose oC_BadLoose tC_BadLoose su_BadGuard_BadLoose).trans (by decide)
    · rw [ca_BadGuard, ca_Unlike]; exact (exm_mk eC_Unlike oC_Unlike tC_Unlike su_BadGuard_Unlike).trans (by decide)
    · rw [ca_BadGuard, ca_Refused]; exact (exm_mk eC_Refused oC_Refused tC_Refused su_BadGuard_Refused).trans (by decide)
  have ca_Field : caOf K "Field" = C_Field := by simp only [caOf, aC_Field]
  have efc : FldC K (caOf K "Field") f_fini := by
    rw [ca_Field]
    refine ⟨⟨pg_Field, hd_Field, po_Field, sa_Field⟩, fun f hf => ?_, ⟨mk_Field, iC_Field, fn_fini, kC_Field⟩⟩
    simp only [List.mem_cons, List.not_mem_nil, or_false] at hf
    rcases hf with rfl | rfl | rfl
    · exact n0_Field
    · exact n1_Field
    · exact n2_Field
  let T : Txt K mg (caOf K) := { f_ini := f_ini, fd_ini := _, F_ini := fun_mk (st := st_ini) l_ini c_ini k_ini, b_ini := (fun_mk (st := st_ini) l_ini c_ini k_ini).binds (ps := ["self", "what"]) (fun _ _ _ _ _ _ us hl => match us, hl with | [_, _], _ => rfl), ti_ini := t_ini, e_er := eer, em_er := emer, gC_Refused := by rw [ca_Refused]; exact PySem.W.mg_of X G aC_Refused, gC_BadSize := by rw [ca_BadSize]; exact PySem.W.mg_of X G aC_BadSize, gC_BadStrength := by rw [ca_BadStrength]; exact PySem.W.mg_of X G aC_BadStrength, gC_BadGuard := by rw [ca_BadGuard]; exact PySem.W.mg_of X G aC_BadGuard, gC_Unlike := by rw [ca_Unlike]; exact PySem.W.mg_of X G aC_Unlike, gC_BadGame := by rw [ca_BadGame]; exact PySem.W.mg_of X G aC_BadGame, gC_BadRounds := by rw [ca_BadRounds]; exact PySem.W.mg_of X G aC_BadRounds, gC_BadLoose := by rw [ca_BadLoose]; exact PySem.W.mg_of X G aC_BadLoose, f_fini := f_fini, fd_fini := _, F_fini := fun_mk (st := st_fini) l_fini c_fini k_fini, b_fini := (fun_mk (st := st_fini) l_fini c_fini k_fini).binds (ps := ["self", "strengths", "guards"]) (fun _ _ _ _ _ _ us hl => match us, hl with | [_, _, _], _ => rfl), fc_Field := efc, gC_Field := by rw [ca_Field]; exact PySem.W.mg_of X G aC_Field, f_check_loose := f_check_loose, fd_check_loose := _, F_check_loose := fun_mk (st := st_check_loose) l_check_loose c_check_loose k_check_loose, b_check_loose := (fun_mk (st := st_check_loose) l_check_loose c_check_loose k_check_loose).binds (ps := ["loose"]) (fun _ _ _ _ _ _ us hl => match us, hl with | [_], _ => rfl), g_check_loose := PySem.W.mg_of X G a_check_loose, f_can_beat := f_can_beat, fd_can_beat := _, F_can_beat := fun_mk (st := st_can_beat) l_can_beat c_can_beat k_can_beat, b_can_beat := (fun_mk (st := st_can_beat) l_can_beat c_can_beat k_can_beat).binds (ps := ["field", "y", "x"]) (fun _ _ _ _ _ _ us hl => match us, hl with | [_, _, _], _ => rfl), g_can_beat := PySem.W.mg_of X G a_can_beat, f_check_form := f_check_form, fd_check_form := _, F_check_form := fun_mk (st := st_check_form) l_check_form c_check_form k_check_form, b_check_form := (fun_mk (st := st_check_form) l_check_form c_check_form k_check_form).binds (ps := ["n", "pairs"]) (fun _ _ _ _ _ _ us hl => match us, hl with | [_, _], _ => rfl), g_check_form := PySem.W.mg_of X G a_check_form, f_check_no_gap := f_check_no_gap, fd_check_no_gap := _, F_check_no_gap := fun_mk (st := st_check_no_gap) l_check_no_gap c_check_no_gap k_check_no_gap, b_check_no_gap := (fun_mk (st := st_check_no_gap) l_check_no_gap c_check_no_gap k_check_no_gap).binds (ps := ["n", "pairs"]) (fun _ _ _ _ _ _ us hl => match us, hl with | [_, _], _ => rfl), g_check_no_gap := PySem.W.mg_of X G a_check_no_gap, f_check_games := f_check_games, fd_check_games := _, F_check_games := fun_mk (st := st_check_games) l_check_games c_check_games k_check_games, b_check_games := (fun_mk (st := st_check_games) l_check_games c_check_games k_check_games).binds (ps := ["field", "pairs"]) (fun _ _ _ _ _ _ us hl => match us, hl with | [_, _], _ => rfl), g_check_games := PySem.W.mg_of X G a_check_games, f_made_cup := f_made_cup, fd_made_cup := _, F_made_cup := fun_mk (st := st_made_cup) l_made_cup c_made_cup k_made_cup, b_made_cup := (fun_mk (st := st_made_cup) l_made_cup c_made_cup k_made_cup).binds (ps := ["field", "pairs"]) (fun _ _ _ _ _ _ us hl => match us, hl with | [_, _], _ => rfl), g_made_cup := PySem.W.mg_of X G a_made_cup, f_comes_through := f_comes_through, fd_comes_through := _, F_comes_through := fun_mk (st := st_comes_through) l_comes_through c_comes_through k_comes_through, b_comes_through := (fun_mk (st := st_comes_through) l_comes_through c_comes_through k_comes_through).binds (ps := ["cup", "x", "r"]) (fun _ _ _ _ _ _ us hl => match us, hl with | [_, _, _], _ => rfl), g_comes_through := PySem.W.mg_of X G a_comes_through, f_rests := f_rests, fd_rests := _, F_rests := fun_mk (st := st_rests) l_rests c_rests k_rests, b_rests := (fun_mk (st := st_rests) l_rests c_rests k_rests).binds (ps := ["cup", "x", "r"]) (fun _ _ _ _ _ _ us hl => match us, hl with | [_, _, _], _ => rfl), g_rests := PySem.W.mg_of X G a_rests, f_is_let := f_is_let, fd_is_let := _, F_is_let := fun_mk (st := st_is_let) l_is_let c_is_let k_is_let, b_is_let := (fun_mk (st := st_is_let) l_is_let c_is_let k_is_let).binds (ps := ["field", "cup", "deed", "loose"]) (fun _ _ _ _ _ _ us hl => match us, hl with | [_, _, _, _], _ => rfl), g_is_let := PySem.W.mg_of X G a_is_let, f_offers := f_offers, fd_offers := _, F_offers := fun_mk (st := st_offers) l_offers c_offers k_offers, g_offers := PySem.W.mg_of X G a_offers, d_offers := dfl0_mk (st := st_offers) 2 rfl l_offers c_offers k_offers nd_offers ld_offers rfl (fun D doc pm an cdv ct us ks hl hk => match us, hl, ks, hk with | [_, _], _, [_], _ => ⟨_, _, _, _, _, _, rfl, rfl, rfl⟩), f_made_field := f_made_field, fd_made_field := _, F_made_field := fun_mk (st := st_made_field) l_made_field c_made_field k_made_field, b_made_field := (fun_mk (st := st_made_field) l_made_field c_made_field k_made_field).binds (ps := ["strengths", "guards"]) (fun _ _ _ _ _ _ us hl => match us, hl with | [_, _], _ => rfl), g_made_field := PySem.W.mg_of X G a_made_field, f__law_pool := f__law_pool, fd__law_pool := _, F__law_pool := fun_mk (st := st__law_pool) l__law_pool c__law_pool k__law_pool, b__law_pool := (fun_mk (st := st__law_pool) l__law_pool c__law_pool k__law_pool).binds (ps := ["_law_script", "_law_k"]) (fun _ _ _ _ _ _ us hl => match us, hl with | [_, _], _ => rfl), g__law_pool := PySem.W.mg_of X G a__law_pool, f__law_take := f__law_take, fd__law_take := _, F__law_take := fun_mk (st := st__law_take) l__law_take c__law_take k__law_take, b__law_take := (fun_mk (st := st__law_take) l__law_take c__law_take k__law_take).binds (ps := ["_law_source", "_law_top"]) (fun _ _ _ _ _ _ us hl => match us, hl with | [_, _], _ => rfl), g__law_take := PySem.W.mg_of X G a__law_take, f__law_one := f__law_one, fd__law_one := _, F__law_one := fun_mk (st := st__law_one) l__law_one c__law_one k__law_one, b__law_one := (fun_mk (st := st__law_one) l__law_one c__law_one k__law_one).binds (ps := ["_law_source", "_law_things"]) (fun _ _ _ _ _ _ us hl => match us, hl with | [_, _], _ => rfl), g__law_one := PySem.W.mg_of X G a__law_one, f__law_shuffled := f__law_shuffled, fd__law_shuffled := _, F__law_shuffled := fun_mk (st := st__law_shuffled) l__law_shuffled c__law_shuffled k__law_shuffled, b__law_shuffled := (fun_mk (st := st__law_shuffled) l__law_shuffled c__law_shuffled k__law_shuffled).binds (ps := ["_law_source", "_law_count"]) (fun _ _ _ _ _ _ us hl => match us, hl with | [_, _], _ => rfl), g__law_shuffled := PySem.W.mg_of X G a__law_shuffled, f__law_figures := f__law_figures, fd__law_figures := _, F__law_figures := fun_mk (st := st__law_figures) l__law_figures c__law_figures k__law_figures, b__law_figures := (fun_mk (st := st__law_figures) l__law_figures c__law_figures k__law_figures).binds (ps := ["_law_source", "_law_n"]) (fun _ _ _ _ _ _ us hl => match us, hl with | [_, _], _ => rfl), g__law_figures := PySem.W.mg_of X G a__law_figures, f__law_may := f__law_may, fd__law_may := _, F__law_may := fun_mk (st := st__law_may) l__law_may c__law_may k__law_may, b__law_may := (fun_mk (st := st__law_may) l__law_may c__law_may k__law_may).binds (ps := ["_law_figures_here", "_law_y", "_law_x"]) (fun _ _ _ _ _ _ us hl => match us, hl with | [_, _, _], _ => rfl), g__law_may := PySem.W.mg_of X G a__law_may, f__law_stair := f__law_stair, fd__law_stair := _, F__law_stair := fun_mk (st := st__law_stair) l__law_stair c__law_stair k__law_stair, b__law_stair := (fun_mk (st := st__law_stair) l__law_stair c__law_stair k__law_stair).binds (ps := ["_law_figures_here", "_law_sides"]) (fun _ _ _ _ _ _ us hl => match us, hl with | [_, _], _ => rfl), g__law_stair := PySem.W.mg_of X G a__law_stair, f__law_drawn_round := f__law_drawn_round, fd__law_drawn_round := _, F__law_drawn_round := fun_mk (st := st__law_drawn_round) l__law_drawn_round c__law_drawn_round k__law_drawn_round, b__law_drawn_round := (fun_mk (st := st__law_drawn_round) l__law_drawn_round c__law_drawn_round k__law_drawn_round).binds (ps := ["_law_source", "_law_figures_here", "_law_left", "_law_is_full"]) (fun _ _ _ _ _ _ us hl => match us, hl with | [_, _, _, _], _ => rfl), g__law_drawn_round := PySem.W.mg_of X G a__law_drawn_round, f__law_cup := f__law_cup, fd__law_cup := _, F__law_cup := fun_mk (st := st__law_cup) l__law_cup c__law_cup k__law_cup, b__law_cup := (fun_mk (st := st__law_cup) l__law_cup c__law_cup k__law_cup).binds (ps := ["_law_source", "_law_figures_here"]) (fun _ _ _ _ _ _ us hl => match us, hl with | [_, _], _ => rfl), g__law_cup := PySem.W.mg_of X G a__law_cup, f__law_rounds := f__law_rounds, fd__law_rounds := _, F__law_rounds := fun_mk (st := st__law_rounds) l__law_rounds c__law_rounds k__law_rounds, b__law_rounds := (fun_mk (st := st__law_rounds) l__law_rounds c__law_rounds k__law_rounds).binds (ps := ["_law_cup_here"]) (fun _ _ _ _ _ _ us hl => match us, hl with | [_], _ => rfl), g__law_rounds := PySem.W.mg_of X G a__law_rounds, f__law_through := f__law_through, fd__law_through := _, F__law_through := fun_mk (st := st__law_through) l__law_through c__law_through k__law_through, b__law_through := (fun_mk (st := st__law_through) l__law_through c__law_through k__law_through).binds (ps := ["_law_cup_here", "_law_r"]) (fun _ _ _ _ _ _ us hl => match us, hl with | [_, _], _ => rfl), g__law_through := PySem.W.mg_of X G a__law_through, f__law_out := f__law_out, fd__law_out := _, F__law_out := fun_mk (st := st__law_out) l__law_out c__law_out k__law_out, b__law_out := (fun_mk (st := st__law_out) l__law_out c__law_out k__law_out).binds (ps := ["_law_cup_here", "_law_r"]) (fun _ _ _ _ _ _ us hl => match us, hl with | [_, _], _ => rfl), g__law_out := PySem.W.mg_of X G a__law_out, f__law_resting := f__law_resting, fd__law_resting := _, F__law_resting := fun_mk (st := st__law_resting) l__law_resting c__law_resting k__law_resting, b__law_resting := (fun_mk (st := st__law_resting) l__law_resting c__law_resting k__law_resting).binds (ps := ["_law_cup_here", "_law_r"]) (fun _ _ _ _ _ _ us hl => match us, hl with | [_, _], _ => rfl), g__law_resting := PySem.W.mg_of X G a__law_resting, f__law_loose := f__law_loose, fd__law_loose := _, F__law_loose := fun_mk (st := st__law_loose) l__law_loose c__law_loose k__law_loose, b__law_loose := (fun_mk (st := st__law_loose) l__law_loose c__law_loose k__law_loose).binds (ps := ["_law_source", "_law_cup_here"]) (fun _ _ _ _ _ _ us hl => match us, hl with | [_, _], _ => rfl), g__law_loose := PySem.W.mg_of X G a__law_loose, f__law_offered := f__law_offered, fd__law_offered := _, F__law_offered := fun_mk (st := st__law_offered) l__law_offered c__law_offered k__law_offered, b__law_offered := (fun_mk (st := st__law_offered) l__law_offered c__law_offered k__law_offered).binds (ps := ["_law_figures_here", "_law_cup_here", "_law_loose_here"]) (fun _ _ _ _ _ _ us hl => match us, hl with | [_, _, _], _ => rfl), g__law_offered := PySem.W.mg_of X G a__law_offered, f__law_changed := f__law_changed, fd__law_changed := _, F__law_changed := fun_mk (st := st__law_changed) l__law_changed c__law_changed k__law_changed, b__law_changed := (fun_mk (st := st__law_changed) l__law_changed c__law_changed k__law_changed).binds (ps := ["_law_cup_here", "_law_deed"]) (fun _ _ _ _ _ _ us hl => match us, hl with | [_, _], _ => rfl), g__law_changed := PySem.W.mg_of X G a__law_changed, f__law_low := f__law_low, fd__law_low := _, F__law_low := fun_mk (st := st__law_low) l__law_low c__law_low k__law_low, b__law_low := (fun_mk (st := st__law_low) l__law_low c__law_low k__law_low).binds (ps := ["_law_source", "_law_many", "_law_others"]) (fun _ _ _ _ _ _ us hl => match us, hl with | [_, _, _], _ => rfl), g__law_low := PySem.W.mg_of X G a__law_low, f__law_world := f__law_world, fd__law_world := _, F__law_world := fun_mk (st := st__law_world) l__law_world c__law_world k__law_world, b__law_world := (fun_mk (st := st__law_world) l__law_world c__law_world k__law_world).binds (ps := ["_law_source"]) (fun _ _ _ _ _ _ us hl => match us, hl with | [_], _ => rfl), g__law_world := PySem.W.mg_of X G a__law_world, f__law_told := f__law_told, fd__law_told := _, F__law_told := fun_mk (st := st__law_told) l__law_told c__law_told k__law_told, b__law_told := (fun_mk (st := st__law_told) l__law_told c__law_told k__law_told).binds (ps := ["_law_field", "_law_cup_here", "_law_loose_here"]) (fun _ _ _ _ _ _ us hl => match us, hl with | [_, _, _], _ => rfl), g__law_told := PySem.W.mg_of X G a__law_told, f_law := fa, fd_law := _, F_law := fun_mk (st := st_law) l_law c_law k_law, b_law := (fun_mk (st := st_law) l_law c_law k_law).binds (ps := ["_law_script"]) (fun _ _ _ _ _ _ us hl => match us, hl with | [_], _ => rfl), g_law := PySem.W.mg_of X G a_law, z_enumerate := PySem.W.mg_none_of X G z_enumerate, z_int := PySem.W.mg_none_of X G z_int, z_len := PySem.W.mg_none_of X G z_len, z_max := PySem.W.mg_none_of X G z_max, z_min := PySem.W.mg_none_of X G z_min, z_range := PySem.W.mg_none_of X G z_range, z_sorted := PySem.W.mg_none_of X G z_sorted, z_tuple := PySem.W.mg_none_of X G z_tuple, ad_STAYS := ad_STAYS, c_STAYS := PySem.W.mg_of X G v_STAYS, k_STAYS := ⟨_, _, _, l_STAYS, rfl, rfl, le_sl (n := 2) (by decide), (.cons ⟨_, rfl⟩ (.cons ⟨_, rfl⟩ .nil))⟩, t_MOST := t_MOST, c_MOST := PySem.W.mg_of X G v_MOST, t_MOST_SIDES := t_MOST_SIDES, c_MOST_SIDES := PySem.W.mg_of X G v_MOST_SIDES }
  refine ⟨PySem.W.fnOf "law" "law" (defArgs st_law) (defBody st_law) (defScope st_law) .none kV_law dc_law pm_law an_law cd_law ct_law, fun s v => .of_eq rfl, fun base _ _ => ?_⟩
  have G_INI := ok_INI (P := l.prog) (w := w) (base := base) (CA := caOf K) T
  have G_FINI := ok_FINI (P := l.prog) (w := w) (base := base) (CA := caOf K) T
  have G_can_beat := ok_can_beat (P := l.prog) (w := w) (base := base) (CA := caOf K) T
  have G_comes_through := ok_comes_through (P := l.prog) (w := w) (base := base) (CA := caOf K) T
  have G__law_pool := ok__law_pool (P := l.prog) (w := w) (base := base) (CA := caOf K) T
  have G__law_take := ok__law_take (P := l.prog) (w := w) (base := base) (CA := caOf K) T
  have G__law_may := ok__law_may (P := l.prog) (w := w) (base := base) (CA := caOf K) T
  have G__law_stair := ok__law_stair (P := l.prog) (w := w) (base := base) (CA := caOf K) T
  have G__law_rounds := ok__law_rounds (P := l.prog) (w := w) (base := base) (CA := caOf K) T
  have G__law_through := ok__law_through (P := l.prog) (w := w) (base := base) (CA := caOf K) T
  have G__law_out := ok__law_out (P := l.prog) (w := w) (base := base) (CA := caOf K) T
  have G__law_changed := ok__law_changed (P := l.prog) (w := w) (base := base) (CA := caOf K) T
  have G_rests := ok_rests (P := l.prog) (w := w) (base := base) (CA := caOf K) T G_comes_through
  have G__law_one := ok__law_one (P := l.prog) (w := w) (base := base) (CA := caOf K) T G__law_take
  have G__law_shuffled := ok__law_shuffled (P := l.prog) (w := w) (base := base) (CA := caOf K) T G__law_take
  have G__law_resting := ok__law_resting (P := l.prog) (w := w) (base := base) (CA := caOf K) T G__law_out G__law_through
  have G__law_loose := ok__law_loose (P := l.prog) (w := w) (base := base) (CA := caOf K) T G__law_rounds G__law_take
  have G_check_loose := ok_check_loose (P := l.prog) (w := w) (base := base) (CA := caOf K) T G_INI
  have G_check_form := ok_check_form (P := l.prog) (w := w) (base := base) (CA := caOf K) T G_INI
  have G_check_no_gap := ok_check_no_gap (P := l.prog) (w := w) (base := base) (CA := caOf K) T G_INI
  have G_check_games := ok_check_games (P := l.prog) (w := w) (base := base) (CA := caOf K) T G_INI G_can_beat
  have G_is_let := ok_is_let (P := l.prog) (w := w) (base := base) (CA := caOf K) T G_rests G_can_beat
  have G_made_field := ok_made_field (P := l.prog) (w := w) (base := base) (CA := caOf K) T G_INI G_FINI
  have G__law_figures := ok__law_figures (P := l.prog) (w := w) (base := base) (CA := caOf K) T G__law_take G__law_shuffled
  have G__law_drawn_round := ok__law_drawn_round (P := l.prog) (w := w) (base := base) (CA := caOf K) T G__law_shuffled G__law_take G__law_stair G__law_may G__law_one
  have G__law_offered := ok__law_offered (P := l.prog) (w := w) (base := base) (CA := caOf K) T G__law_may G__law_resting
  have G__law_low := ok__law_low (P := l.prog) (w := w) (base := base) (CA := caOf K) T G__law_take G__law_stair G__law_one
  have G_made_cup := ok_made_cup (P := l.prog) (w := w) (base := base) (CA := caOf K) T G_check_form G_check_no_gap G_check_games
  have G__law_cup := ok__law_cup (P := l.prog) (w := w) (base := base) (CA := caOf K) T G__law_take G__law_drawn_round
  have G_offers := ok_offers (P := l.prog) (w := w) (base := base) (CA := caOf K) T G_made_cup G_check_loose G_is_let
  have G__law_world := ok__law_world (P := l.prog) (w := w) (base := base) (CA := caOf K) T G__law_take G__law_low G__law_one G__law_figures G__law_cup
  have G__law_told := ok__law_told (P := l.prog) (w := w) (base := base) (CA := caOf K) T G_offers
  exact ok_law (P := l.prog) (w := w) (base := base) (CA := caOf K) T G__law_pool G__law_world G_made_field G__law_loose G__law_offered G__law_told G_offers G__law_one G__law_changed
end LawP
open PySem PySem.W PyProof.Rows
set_option maxHeartbeats 0 in
theorem PySem.Challenge.cw_boutstairs_k26_deeds_that_are_offered_holds : PySem.Challenge.rw_boutstairs_k26_deeds_that_are_offered.Holds := by
  w_on; o_law; k_head; (case hw => w_witness2)
  k_fill
  refine L2.walk_of (l := PySem.Challenge.rw_boutstairs_k26_deeds_that_are_offered) (n := 63) (k := 7) (x := "_law_script") (CX := fun w => L2.CX PySem.Challenge.rw_boutstairs_k26_deeds_that_are_offered.prog w) (sp := fun w => DL.lSp (DL.gOf _) LawP.sp_law) rfl (by decide) rfl ⟨rfl, by decide, by decide⟩ (fun w h Y => PySem.W.kIn_of Y) ?F (fun _ _ a ns hl _ hS => DL.sp_start hS fun P hP => LawP.start_law hl hP) (fun _ _ _ _ _ h => ?C)
  case C =>
    obtain ⟨_, _, _, _, _, _, _, _, _, _, _, _, z⟩ := h
    exact z.elim
  case F =>
    intro w mg fa h KX G hmg
    refine' LawP.all_mk KX G hmg ?l_ini ?c_ini ?k_ini ?t_ini ?aC_Refused ?aC_BadSize ?aC_BadStrength ?aC_BadGuard ?aC_Unlike ?aC_BadGame ?aC_BadRounds ?aC_BadLoose ?xL_BadLoose ?rv_BadLoose ?sa_BadLoose ?kC_BadLoose ?nw_BadLoose ?iC_BadLoose ?ga_BadLoose ?gg_BadLoose ?hC_BadLoose ?su_BadLoose_BadLoose ?su_BadLoose_Unlike ?su_BadLoose_Refused ?xL_Unlike ?rv_Unlike ?sa_Unlike ?kC_Unlike ?nw_Unlike ?iC_Unlike ?ga_Unlike ?gg_Unlike ?hC_Unlike ?su_Unlike_BadLoose ?su_Unlike_Unlike ?su_Unlike_Refused ?xL_BadGame ?rv_BadGame ?sa_BadGame ?kC_BadGame ?nw_BadGame ?iC_BadGame ?ga_BadGame ?gg_BadGame ?hC_BadGame ?su_BadGame_BadLoose ?su_BadGame_Unlike ?su_BadGame_Refused ?xL_BadRounds ?rv_BadRounds ?sa_BadRounds ?kC_BadRounds ?nw_BadRounds ?iC_BadRounds ?ga_BadRounds ?gg_BadRounds ?hC_BadRounds ?su_BadRounds_BadLoose ?su_BadRounds_Unlike ?su_BadRounds_Refused ?xL_BadSize ?rv_BadSize ?sa_BadSize ?kC_BadSize ?nw_BadSize ?iC_BadSize ?ga_BadSize ?gg_BadSize ?hC_BadSize ?su_BadSize_BadLoose ?su_BadSize_Unlike ?su_BadSize_Refused ?xL_BadStrength ?rv_BadStrength ?sa_BadStrength ?kC_BadStrength ?nw_BadStrength ?iC_BadStrength ?ga_BadStrength ?gg_BadStrength ?hC_BadStrength ?su_BadStrength_BadLoose ?su_BadStrength_Unlike ?su_BadStrength_Refused ?xL_BadGuard ?rv_BadGuard ?sa_BadGuard ?kC_BadGuard ?nw_BadGuard ?iC_BadGuard ?ga_BadGuard ?gg_BadGuard ?hC_BadGuard ?su_BadGuard_BadLoose ?su_BadGuard_Unlike ?su_BadGuard_Refused ?eC_Refused ?tC_Refused ?oC_Refused ?eC_BadSize ?tC_BadSize ?oC_BadSize ?eC_BadStrength ?tC_BadStrength ?oC_BadStrength ?eC_BadGuard ?tC_BadGuard ?oC_BadGuard ?eC_Unlike ?tC_Unlike ?oC_Unlike ?eC_BadGame ?tC_BadGame ?oC_BadGame ?eC_BadRounds ?tC_BadRounds ?oC_BadRounds ?eC_BadLoose ?tC_BadLoose ?oC_BadLoose ?l_fini ?c_fini ?k_fini ?aC_Field ?pg_Field ?hd_Field ?po_Field ?sa_Field ?n0_Field ?n1_Field ?n2_Field ?mk_Field ?iC_Field ?fn_fini ?kC_Field ?a_check_loose ?l_check_loose ?c_check_loose ?k_check_loose ?a_can_beat ?l_can_beat ?c_can_beat ?k_can_beat ?a_check_form ?l_check_form ?c_check_form ?k_check_form ?a_check_no_gap ?l_check_no_gap ?c_check_no_gap ?k_check_no_gap ?a_check_games ?l_check_games ?c_check_games ?k_check_games ?a_made_cup ?l_made_cup ?c_made_cup ?k_made_cup ?a_comes_through ?l_comes_through ?c_comes_through ?k_comes_through ?a_rests ?l_rests ?c_rests ?k_rests ?a_is_let ?l_is_let ?c_is_let ?k_is_let ?a_offers ?l_offers ?c_offers ?k_offers ?nd_offers ?ld_offers ?a_made_field ?l_made_field ?c_made_field ?k_made_field ?a__law_pool ?l__law_pool ?c__law_pool ?k__law_pool ?a__law_take ?l__law_take ?c__law_take ?k__law_take ?a__law_one ?l__law_one ?c__law_one ?k__law_one ?a__law_shuffled ?l__law_shuffled ?c__law_shuffled ?k__law_shuffled ?a__law_figures ?l__law_figures ?c__law_figures ?k__law_figures ?a__law_may ?l__law_may ?c__law_may ?k__law_may ?a__law_stair ?l__law_stair ?c__law_stair ?k__law_stair ?a__law_drawn_round ?l__law_drawn_round ?c__law_drawn_round ?k__law_drawn_round ?a__law_cup ?l__law_cup ?c__law_cup ?k__law_cup ?a__law_rounds ?l__law_rounds ?c__law_rounds ?k__law_rounds ?a__law_through ?l__law_through ?c__law_through ?k__law_through ?a__law_out ?l__law_out ?c__law_out ?k__law_out ?a__law_resting ?l__law_resting ?c__law_resting ?k__law_resting ?a__law_loose ?l__law_loose ?c__law_loose ?k__law_loose ?a__law_offered ?l__law_offered ?c__law_offered ?k__law_offered ?a__law_changed ?l__law_changed ?c__law_changed ?k__law_changed ?a__law_low ?l__law_low ?c__law_low ?k__law_low ?a__law_world ?l__law_world ?c__law_world ?k__law_world ?a__law_told ?l__law_told ?c__law_told ?k__law_told ?a_law ?l_law ?c_law ?k_law ?z_enumerate ?z_int ?z_len ?z_max ?z_min ?z_range ?z_sorted ?z_tuple ?v_STAYS ?l_STAYS ?v_MOST ?v_MOST_SIDES
    (case aC_Refused => k_is); (case aC_BadSize => k_is); (case aC_BadStrength => k_is); (case aC_BadGuard => k_is); (case aC_Unlike => k_is); (case aC_BadGame => k_is); (case aC_BadRounds => k_is); (case aC_BadLoose => k_is); (case iC_BadLoose => k_is); (case iC_Unlike => k_is); (case iC_BadGame => k_is); (case iC_BadRounds => k_is); (case iC_BadSize => k_is); (case iC_BadStrength => k_is); (case iC_BadGuard => k_is); (case l_ini => k_is); (case c_ini => k_is); (case k_ini => k_is); (case t_ini => k_is); (case xL_BadLoose => k_is); (case rv_BadLoose => decide +kernel); (case sa_BadLoose => k_is); (case kC_BadLoose => k_is); (case nw_BadLoose => k_is); (case ga_BadLoose => k_is); (case gg_BadLoose => k_is); (case hC_BadLoose => k_is); (case su_BadLoose_BadLoose => k_is); (case su_BadLoose_Unlike => k_is); (case su_BadLoose_Refused => k_is); (case xL_Unlike => k_is); (case rv_Unlike => decide +kernel); (case sa_Unlike => k_is); (case kC_Unlike => k_is); (case nw_Unlike => k_is); (case ga_Unlike => k_is); (case gg_Unlike => k_is); (case hC_Unlike => k_is); (case su_Unlike_BadLoose => k_is); (case su_Unlike_Unlike => k_is); (case su_Unlike_Refused => k_is); (case xL_BadGame => k_is); (case rv_BadGame => decide +kernel); (case sa_BadGame => k_is); (case kC_BadGame => k_is); (case nw_BadGame => k_is); (case ga_BadGame => k_is); (case gg_BadGame => k_is); (case hC_BadGame => k_is); (case su_BadGame_BadLoose => k_is); (case su_BadGame_Unlike => k_is); (case su_BadGame_Refused => k_is); (case xL_BadRounds => k_is); (case rv_BadRounds => decide +kernel); (case sa_BadRounds => k_is); (case kC_BadRounds => k_is); (case nw_BadRounds => k_is); (case ga_BadRounds => k_is); (case gg_BadRounds => k_is); (case hC_BadRounds => k_is); (case su_BadRounds_BadLoose => k_is); (case su_BadRounds_Unlike => k_is); (case su_BadRounds_Refused => k_is); (case xL_BadSize => k_is); (case rv_BadSize => decide +kernel); (case sa_BadSize => k_is); (case kC_BadSize => k_is); (case nw_BadSize => k_is); (case ga_BadSize => k_is); (case gg_BadSize => k_is); (case hC_BadSize => k_is); (case su_BadSize_BadLoose => k_is); (case su_BadSize_Unlike => k_is); (case su_BadSize_Refused => k_is); (case xL_BadStrength => k_is); (case rv_BadStrength => decide +kernel); (case sa_BadStrength => k_is); (case kC_BadStrength => k_is); (case nw_BadStrength => k_is); (case ga_BadStrength => k_is); (case gg_BadStrength => k_is); (case hC_BadStrength => k_is); (case su_BadStrength_BadLoose => k_is); (case su_BadStrength_Unlike => k_is); (case su_BadStrength_Refused => k_is); (case xL_BadGuard => k_is); (case rv_BadGuard => decide +kernel); (case sa_BadGuard => k_is); (case kC_BadGuard => k_is); (case nw_BadGuard => k_is); (case ga_BadGuard => k_is); (case gg_BadGuard => k_is); (case hC_BadGuard => k_is); (case su_BadGuard_BadLoose => k_is); (case su_BadGuard_Unlike => k_is); (case su_BadGuard_Refused => k_is); (case eC_Refused => k_is); (case tC_Refused => k_is); (case oC_Refused => k_is); (case eC_BadSize => k_is); (case tC_BadSize => k_is); (case oC_BadSize => k_is); (case eC_BadStrength => k_is); (case tC_BadStrength => k_is); (case oC_BadStrength => k_is); (case eC_BadGuard => k_is); (case tC_BadGuard => k_is); (case oC_BadGuard => k_is); (case eC_Unlike => k_is); (case tC_Unlike => k_is); (case oC_Unlike => k_is); (case eC_BadGame => k_is); (case tC_BadGame => k_is); (case oC_BadGame => k_is); (case eC_BadRounds => k_is); (case tC_BadRounds => k_is); (case oC_BadRounds => k_is); (case eC_BadLoose => k_is); (case tC_BadLoose => k_is); (case oC_BadLoose => k_is); (case aC_Field => k_is); (case iC_Field => k_is); (case l_fini => k_is); (case c_fini => k_is); (case k_fini => k_is); (case pg_Field => k_is); (case hd_Field => k_is); (case po_Field => k_is); (case sa_Field => k_is); (case n0_Field => k_is); (case n1_Field => k_is); (case n2_Field => k_is); (case mk_Field => k_is); (case fn_fini => k_is); (case kC_Field => k_is); (case a_check_loose => k_is); (case l_check_loose => k_is); (case c_check_loose => k_is); (case k_check_loose => k_is); (case a_can_beat => k_is); (case l_can_beat => k_is); (case c_can_beat => k_is); (case k_can_beat => k_is); (case a_check_form => k_is); (case l_check_form => k_is); (case c_check_form => k_is); (case k_check_form => k_is); (case a_check_no_gap => k_is); (case l_check_no_gap => k_is); (case c_check_no_gap => k_is); (case k_check_no_gap => k_is); (case a_check_games => k_is); (case l_check_games => k_is); (case c_check_games => k_is); (case k_check_games => k_is); (case a_made_cup => k_is); (case l_made_cup => k_is); (case c_made_cup => k_is); (case k_made_cup => k_is); (case a_comes_through => k_is); (case l_comes_through => k_is); (case c_comes_through => k_is); (case k_comes_through => k_is); (case a_rests => k_is); (case l_rests => k_is); (case c_rests => k_is); (case k_rests => k_is); (case a_is_let => k_is); (case l_is_let => k_is); (case c_is_let => k_is); (case k_is_let => k_is); (case a_offers => k_is); (case l_offers => k_is); (case c_offers => k_is); (case k_offers => k_is); (case nd_offers => k_is); (case ld_offers => k_is); (case a_made_field => k_is); (case l_made_field => k_is); (case c_made_field => k_is); (case k_made_field => k_is); (case a__law_pool => k_is); (case l__law_pool => k_is); (case c__law_pool => k_is); (case k__law_pool => k_is); (case a__law_take => k_is); (case l__law_take => k_is); (case c__law_take => k_is); (case k__law_take => k_is); (case a__law_one => k_is); (case l__law_one => k_is); (case c__law_one => k_is); (case k__law_one => k_is); (case a__law_shuffled => k_is); (case l__law_shuffled => k_is); (case c__law_shuffled => k_is); (case k__law_shuffled => k_is); (case a__law_figures => k_is); (case l__law_figures => k_is); (case c__law_figures => k_is); (case k__law_figures => k_is); (case a__law_may => k_is); (case l__law_may => k_is); (case c__law_may => k_is); (case k__law_may => k_is); (case a__law_stair => k_is); (case l__law_stair => k_is); (case c__law_stair => k_is); (case k__law_stair => k_is); (case a__law_drawn_round => k_is); (case l__law_drawn_round => k_is); (case c__law_drawn_round => k_is); (case k__law_drawn_round => k_is); (case a__law_cup => k_is); (case l__law_cup => k_is); (case c__law_cup => k_is); (case k__law_cup => k_is); (case a__law_rounds => k_is); (case l__law_rounds => k_is); (case c__law_rounds => k_is); (case k__law_rounds => k_is); (case a__law_through => k_is); (case l__law_through => k_is); (case c__law_through => k_is); (case k__law_through => k_is); (case a__law_out => k_is); (case l__law_out => k_is); (case c__law_out => k_is); (case k__law_out => k_is); (case a__law_resting => k_is); (case l__law_resting => k_is); (case c__law_resting => k_is); (case k__law_resting => k_is); (case a__law_loose => k_is); (case l__law_loose => k_is); (case c__law_loose => k_is); (case k__law_loose => k_is); (case a__law_offered => k_is); (case l__law_offered => k_is); (case c__law_offered => k_is); (case k__law_offered => k_is); (case a__law_changed => k_is); (case l__law_changed => k_is); (case c__law_changed => k_is); (case k__law_changed => k_is); (case a__law_low => k_is); (case l__law_low => k_is); (case c__law_low => k_is); (case k__law_low => k_is); (case a__law_world => k_is); (case l__law_world => k_is); (case c__law_world => k_is); (case k__law_world => k_is); (case a__law_told => k_is); (case l__law_told => k_is); (case c__law_told => k_is); (case k__law_told => k_is); (case a_law => k_is); (case l_law => k_is); (case c_law => k_is); (case k_law => k_is); (case z_enumerate => k_is); (case z_int => k_is); (case z_len => k_is); (case z_max => k_is); (case z_min => k_is); (case z_range => k_is); (case z_sorted => k_is); (case z_tuple => k_is); (case v_STAYS => k_is); (case l_STAYS => k_is); (case v_MOST => k_is); (case v_MOST_SIDES => k_is)


