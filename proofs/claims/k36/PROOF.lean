import PyProof.Rows.All
import Wide.All
import OpenK.AllK
import Wide.FinOn
import PySem.Challenge.RW_onelate_k36_bounds_of_stages
import HandS.ForMost
import HandS.Walk
import HandS.Zip
import HandS.Gcd
import HandS.Wide
import HandS.Flow
import HandS.TupAny
import HandS.TupMul
import HandS.Lambda
import HandS.GenList
import HandS.AnyAll
import PyProof.GenQ
import PyProof.TupleOfGen
import KE.GoesNew
import HandS.Style
import HandS.More
import HandS.Exc
import HandS.Ends
import HandS.SortInts
import HandS.Conv
import PyProof.ReprRoads
import PyProof.SumAny
import HandS.Words
import HandS.WordsExc
import HandS.Defaults
import HandS.HeadHook4
import HandS.TryMany
import HandS.ExcInit
import HandS.ExcField
import HandS.EndTab
import HandS.HeadWalk
import KE.KStateDown
import HandS.Base
import HandS.Call
import HandS.Head0
import HandS.Head1
import HandS.Head2
import HandS.Head3
import HandS.HeadEnd
import HandS.HeadHook1
import HandS.HeadHook2
import HandS.HeadHook3
set_option Elab.async false
set_option linter.all false
set_option maxRecDepth 100000
/-! Values without addresses, over the hand layer: what stands in a tuple is told by content, a list by its place in a store. -/
namespace Za
open PySem PySem.Spec PyProof.Rows L2

/-- a value: tuples by content, lists by their place in the store; ro: a list that nobody writes; fn: a def of the module -/
inductive D where
  | non | bl (b : Bool) | int (i : Int) | str (x : Str) | tup (l : List D) | ro (l : List D) | loc (n : Nat) | fn (x : Str)
/-- what stands at a place of the store -/
inductive Cell where
  | lst (l : List D)
abbrev Sto := List Cell
abbrev Vars := List (Option D)
abbrev Post := D → Sto → Prop

/-- a list that is never written: frozen or of the module -/
def SqRo (K : PySem.W.Frag) (H : Hp) (a : Addr) (xs : List V) : Prop := (∃ o, H a = some (.frz o (.lst xs))) ∨
  ∃ (o : Obj) (its : Array Value) (n : Nat), K.lookup a = some o ∧ o.cls = .type "list" ∧ o.dict = none ∧ o.data = .seq its n ∧ its.size ≤ sizeLine ∧ Vals xs its.toList
theorem SqRo.sq {K : PySem.W.Frag} {H : Hp} {a : Addr} {xs : List V} (h : SqRo K H a xs) : SqL K H a xs := by
  rcases h with h | h
  · exact .inl (.inr h)
  · exact .inr h

mutual
inductive Rp (K : PySem.W.Frag) (mg : Str → Option Value) (μ : List Addr) (H : Hp) : V → D → Prop
  | non : Rp K mg μ H .non .non
  | bl (b : Bool) : Rp K mg μ H (.bl b) (.bl b)
  | int (i : Int) : Rp K mg μ H (.int i) (.int i)
  | str (x : Str) : Rp K mg μ H (.str x) (.str x)
  | tup {a : Addr} {vs : List V} {ds : List D} : SqT K H a vs → Rps K mg μ H vs ds → Rp K mg μ H (.ref a) (.tup ds)
  | ro {a : Addr} {vs : List V} {ds : List D} : SqRo K H a vs → Rps K mg μ H vs ds → Rp K mg μ H (.ref a) (.ro ds)
  | loc {a : Addr} {l : Nat} : μ[l]? = some a → Rp K mg μ H (.ref a) (.loc l)
  | fn {a : Addr} {x : Str} : mg x = some (.ref a) → Rp K mg μ H (.ref a) (.fn x)
inductive Rps (K : PySem.W.Frag) (mg : Str → Option Value) (μ : List Addr) (H : Hp) : List V → List D → Prop
  | nil : Rps K mg μ H [] []
  | cons {v : V} {d : D} {vs : List V} {ds : List D} : Rp K mg μ H v d → Rps K mg μ H vs ds → Rps K mg μ H (v :: vs) (d :: ds)
end

/-- tuples and what is frozen stand for ever -/
structure Ext (H H' : Hp) : Prop where
  tup : ∀ a xs, H a = some (.tup xs) → H' a = some (.tup xs)
  frz : ∀ a o u, H a = some (.frz o u) → H' a = some (.frz o u)
theorem Ext.refl (H : Hp) : Ext H H := ⟨fun _ _ h => h, fun _ _ _ h => h⟩
theorem Ext.trans {A B C : Hp} (x : Ext A B) (y : Ext B C) : Ext A C := ⟨fun a xs h => y.tup a xs (x.tup a xs h), fun a o u h => y.frz a o u (x.frz a o u h)⟩
theorem Ext.new {H : Hp} {p : Addr} {o : HO} (h : H p = none) : Ext H (upd H p o) :=
  ⟨fun a xs e => by rw [upd_ne (ne_of_none e h)]; exact e, fun a o' u e => by rw [upd_ne (ne_of_none e h)]; exact e⟩
theorem Ext.wr {H : Hp} {p : Addr} {xs : List V} {o : HO} (h : H p = some (.lst xs)) : Ext H (upd H p o) :=
  ⟨fun a ys e => by rw [upd_ne (ne_of e h (fun z => nomatch z))]; exact e, fun a o' u e => by rw [upd_ne (ne_of e h (fun z => nomatch z))]; exact e⟩
theorem SqT.ext {K : PySem.W.Frag} {H H' : Hp} {a : Addr} {xs : List V} (x : Ext H H') (h : SqT K H a xs) : SqT K H' a xs := by
  rcases h with (h | ⟨o, h⟩) | h
  · exact .inl (.inl (x.tup _ _ h))
  · exact .inl (.inr ⟨o, x.frz _ _ _ h⟩)
  · exact .inr h
theorem SqRo.ext {K : PySem.W.Frag} {H H' : Hp} {a : Addr} {xs : List V} (x : Ext H H') (h : SqRo K H a xs) : SqRo K H' a xs := by
  rcases h with ⟨o, h⟩ | h
  · exact .inl ⟨o, x.frz _ _ _ h⟩
  · exact .inr h

section
variable {K : PySem.W.Frag} {mg : Str → Option Value} {μ μ' : List Addr} {H H' : Hp}
theorem pre_get {l : Nat} {a : Addr} (m : μ <+: μ') (h : μ[l]? = some a) : μ'[l]? = some a := by
  obtain ⟨ν, rfl⟩ := m
  rw [List.getElem?_append_left (List.getElem?_eq_some_iff.mp h).1]
  exact h
mutual
theorem Rp.mono (m : μ <+: μ') (x : Ext H H') : ∀ {v : V} {d : D}, Rp K mg μ H v d → Rp K mg μ' H' v d
  | _, _, .non => .non
  | _, _, .bl b => .bl b
  | _, _, .int i => .int i
  | _, _, .str s => .str s
  | _, _, .tup h r => .tup (SqT.ext x h) (Rps.mono m x r)
  | _, _, .ro h r => .ro (SqRo.ext x h) (Rps.mono m x r)
  | _, _, .loc h => .loc (pre_get m h)
  | _, _, .fn h => .fn h
theorem Rps.mono (m : μ <+: μ') (x : Ext H H') : ∀ {vs : List V} {ds : List D}, Rps K mg μ H vs ds → Rps K mg μ' H' vs ds
  | _, _, .nil => .nil
  | _, _, .cons a b => .cons (Rp.mono m x a) (Rps.mono m x b)
end
theorem Rps.length : ∀ {vs : List V} {ds : List D}, Rps K mg μ H vs ds → vs.length = ds.length
  | _, _, .nil => rfl
  | _, _, .cons _ b => by rw [List.length_cons, List.length_cons, Rps.length b]
theorem Rps.get : ∀ {vs : List V} {ds : List D} {i : Nat} {d : D}, Rps K mg μ H vs ds → ds[i]? = some d → ∃ v, vs[i]? = some v ∧ Rp K mg μ H v d
  | _, _, i, _, .nil, e => by simp at e
  | _, _, 0, _, .cons r _, e => by simp at e; subst e; exact ⟨_, rfl, r⟩
  | _, _, i + 1, d, .cons _ t, e => by
    obtain ⟨v, h1, h2⟩ := Rps.get (i := i) (d := d) t (by simpa using e)
    exact ⟨v, by simpa using h1, h2⟩
theorem Rps.getV : ∀ {vs : List V} {ds : List D} {i : Nat} {v : V}, Rps K mg μ H vs ds → vs[i]? = some v → ∃ d, ds[i]? = some d ∧ Rp K mg μ H v d
  | _, _, i, _, .nil, e => by simp at e
  | _, _, 0, _, .cons r _, e => by simp at e; subst e; exact ⟨_, rfl, r⟩
  | _, _, i + 1, d, .cons _ t, e => by
    obtain ⟨v, h1, h2⟩ := Rps.getV (i := i) t (by simpa using e)
    exact ⟨v, by simpa using h1, h2⟩
theorem Rps.append : ∀ {vs ws : List V} {ds es : List D}, Rps K mg μ H vs ds → Rps K mg μ H ws es → Rps K mg μ H (vs ++ ws) (ds ++ es)
  | _, _, _, _, .nil, s => s
  | _, _, _, _, .cons r t, s => .cons r (Rps.append t s)
theorem Rps.one {v : V} {d : D} (r : Rp K mg μ H v d) : Rps K mg μ H [v] [d] := .cons r .nil
theorem Rps.take : ∀ {vs : List V} {ds : List D} (n : Nat), Rps K mg μ H vs ds → Rps K mg μ H (vs.take n) (ds.take n)
  | _, _, 0, _ => .nil
  | _, _, _ + 1, .nil => .nil
  | _, _, n + 1, .cons r t => .cons r (Rps.take n t)
theorem Rps.drop : ∀ {vs : List V} {ds : List D} (n : Nat), Rps K mg μ H vs ds → Rps K mg μ H (vs.drop n) (ds.drop n)
  | _, _, 0, r => r
  | _, _, _ + 1, .nil => .nil
  | _, _, n + 1, .cons _ t => Rps.drop n t
theorem Rps.set : ∀ {vs : List V} {ds : List D} {v : V} {d : D} (i : Nat), Rps K mg μ H vs ds → Rp K mg μ H v d → Rps K mg μ H (vs.set i v) (ds.set i d)
  | _, _, _, _, _, .nil, _ => .nil
  | _, _, _, _, 0, .cons _ t, r => .cons r t
  | _, _, _, _, i + 1, .cons q t, r => .cons q (Rps.set i t r)
theorem Rps.ints {ns : List Int} : Rps K mg μ H (ns.map V.int) (ns.map D.int) := by
  induction ns with
  | nil => exact .nil
  | cons n r ih => exact .cons (.int n) ih
end

/-- a cell of the store, in the heap -/
def CellR (K : PySem.W.Frag) (mg : Str → Option Value) (μ : List Addr) (H : Hp) (a : Addr) : Cell → Prop
  | .lst ds => ∃ vs, H a = some (.lst vs) ∧ Rps K mg μ H vs ds
/-- the tables of code objects, which may grow: of generator expressions; of lambdas, all of one name -/
structure TabSet where
  gen : List Addr
  lam : List (Addr × Str)
  dis : ∀ p ∈ lam, p.1 ∉ gen
  one : ∀ p ∈ lam, ∀ q ∈ lam, p.1 = q.1 → p.2 = q.2
/-- the store, in the heap; T: the tables -/
structure RSt (K : PySem.W.Frag) (mg : Str → Option Value) (T : TabSet) (μ : List Addr) (H : Hp) (S : Sto) : Prop where
  len : μ.length = S.length
  nd : μ.Nodup
  at_ : ∀ (l : Nat) (a : Addr) (c : Cell), μ[l]? = some a → S[l]? = some c → CellR K mg μ H a c
  tab : ∀ P ∈ T.gen, ∃ ps : Array Value, H P = some (.tbl ps) ∧ TriplesOk ps.toList
  lam : LamX.Tabs T.lam H
/-- from (μ₀, H₀) on -/
structure Ok (K : PySem.W.Frag) (mg : Str → Option Value) (T : TabSet) (μ₀ : List Addr) (H₀ : Hp) (μ : List Addr) (H : Hp) (S : Sto) : Prop where
  le : μ₀ <+: μ
  ext : Ext H₀ H
  st : RSt K mg T μ H S
/-- the names -/
structure RV (K : PySem.W.Frag) (mg : Str → Option Value) (μ : List Addr) (H : Hp) (σ : L2.St) (ρ : Vars) : Prop where
  len : σ.length = ρ.length
  at_ : ∀ (i : Nat) (d : D), ρ[i]? = some (some d) → ∃ v, σ[i]? = some (some v) ∧ Rp K mg μ H v d

/-- tables and code objects stay, whatever becomes of a list -/
theorem _root_.LamX.Tabs.stay {T : List (Addr × Str)} {H H' : Hp} (t : LamX.Tabs T H) (e : ∀ b o, H b = some o → (∀ xs, o ≠ .lst xs) → H' b = some o) : LamX.Tabs T H' := fun p hp => by
  obtain ⟨ps, h1, h2, h3⟩ := t p hp
  refine ⟨ps, e _ _ h1 (fun xs z => nomatch z), h2, fun pos cv hc => ?_⟩
  obtain ⟨c, e1, e2⟩ := h3 pos cv hc
  exact ⟨c, e1, e _ _ e2 fun xs z => by unfold LamX.CodeO at z; cases z⟩
section
variable {K : PySem.W.Frag} {mg : Str → Option Value} {T : TabSet} {μ₀ μ μ' : List Addr} {H₀ H H' : Hp} {S S' : Sto} {σ : L2.St} {ρ : Vars}
theorem Ok.trans (a : Ok K mg T μ₀ H₀ μ H S) (b : Ok K mg T μ H μ' H' S') : Ok K mg T μ₀ H₀ μ' H' S' := ⟨a.le.trans b.le, a.ext.trans b.ext, b.st⟩
theorem Ok.here (a : Ok K mg T μ₀ H₀ μ H S) : Ok K mg T μ H μ H S := ⟨List.prefix_refl _, Ext.refl _, a.st⟩
theorem Ok.rp (a : Ok K mg T μ H μ' H' S') {v : V} {d : D} (r : Rp K mg μ H v d) : Rp K mg μ' H' v d := r.mono a.le a.ext
theorem Ok.rps (a : Ok K mg T μ H μ' H' S') {v : List V} {d : List D} (r : Rps K mg μ H v d) : Rps K mg μ' H' v d := r.mono a.le a.ext
theorem Ok.rv (a : Ok K mg T μ H μ' H' S') (r : RV K mg μ H σ ρ) : RV K mg μ' H' σ ρ := ⟨r.len, fun i d e => by
  obtain ⟨v, h1, h2⟩ := r.at_ i d e
  exact ⟨v, h1, a.rp h2⟩⟩
theorem CellR.mono {a : Addr} {c : Cell} (m : μ <+: μ') (x : Ext H H') (h : H' a = H a) (r : CellR K mg μ H a c) : CellR K mg μ' H' a c := by
  cases c with
  | lst ds =>
    obtain ⟨vs, e, r⟩ := r
    exact ⟨vs, h.trans e, r.mono m x⟩
theorem RSt.there (s : RSt K mg T μ H S) {l : Nat} {a : Addr} (h : μ[l]? = some a) : ∃ c, S[l]? = some c ∧ CellR K mg μ H a c := by
  have hl := (List.getElem?_eq_some_iff.mp h).1
  rw [s.len] at hl
  exact ⟨S[l], List.getElem?_eq_getElem hl, s.at_ l a _ h (List.getElem?_eq_getElem hl)⟩
/-- the list at a place -/
theorem RSt.lst (s : RSt K mg T μ H S) {l : Nat} {a : Addr} {ds : List D} (h : μ[l]? = some a) (e : S[l]? = some (.lst ds)) : ∃ vs, H a = some (.lst vs) ∧ Rps K mg μ H vs ds := s.at_ l a _ h e
/-- an object that the store does not tell is laid -/
theorem Ok.new (a : Ok K mg T μ₀ H₀ μ H S) {p : Addr} {o : HO} (h : H p = none) : Ok K mg T μ H μ (upd H p o) S := by
  refine ⟨List.prefix_refl _, Ext.new h, a.st.len, a.st.nd, fun l b c h1 h2 => ?_, fun P hP => ?_, a.st.lam.ext fun b o' e => by rw [upd_ne (ne_of_none e h)]; exact e⟩
  · have q := a.st.at_ l b c h1 h2
    refine q.mono (List.prefix_refl _) (Ext.new h) ?_
    cases c with
    | lst ds =>
      obtain ⟨vs, e, _⟩ := q
      exact upd_ne (ne_of_none e h)
  · obtain ⟨ps, e, t⟩ := a.st.tab P hP
    exact ⟨ps, by rw [upd_ne (ne_of_none e h)]; exact e, t⟩
/-- a new list of the store -/
theorem Ok.newLst (a : Ok K mg T μ₀ H₀ μ H S) {p : Addr} {vs : List V} {ds : List D} (h : H p = none) (r : Rps K mg μ H vs ds) : Ok K mg T μ H (μ ++ [p]) (upd H p (.lst vs)) (S ++ [.lst ds]) := by
  have x : Ext H (upd H p (.lst vs)) := Ext.new h
  have m : μ <+: μ ++ [p] := List.prefix_append _ _
  have notIn : p ∉ μ := fun hp => by
    obtain ⟨l, e⟩ := List.getElem?_of_mem hp
    obtain ⟨c, _, q⟩ := a.st.there e
    cases c with
    | lst ds =>
      obtain ⟨vs, e2, _⟩ := q
      rw [h] at e2; cases e2
  refine ⟨m, x, by rw [List.length_append, List.length_append, a.st.len]; rfl, ?_, fun l b c h1 h2 => ?_, fun P hP => ?_, a.st.lam.ext fun b o' e => by rw [upd_ne (ne_of_none e h)]; exact e⟩
  · rw [List.nodup_append]
    refine ⟨a.st.nd, by simp, fun b hb c hc e => ?_⟩
    rw [List.mem_singleton] at hc
    subst hc; subst e
    exact notIn hb
  · by_cases hl : l < μ.length
    · rw [List.getElem?_append_left hl] at h1
      rw [List.getElem?_append_left (by rw [← a.st.len]; exact hl)] at h2
      have q := a.st.at_ l b c h1 h2
      refine q.mono m x ?_
      cases c with
      | lst ds =>
        obtain ⟨vs, e, _⟩ := q
        exact upd_ne (ne_of_none e h)
    · have hl' := (List.getElem?_eq_some_iff.mp h1).1
      rw [List.length_append, List.length_singleton] at hl'
      have e : l = μ.length := by omega
      rw [e, List.getElem?_append_right (Nat.le_refl _), Nat.sub_self] at h1
      rw [e, a.st.len, List.getElem?_append_right (Nat.le_refl _), Nat.sub_self] at h2
      have e1 : p = b := Option.some.inj h1
      have e2 : Cell.lst ds = c := Option.some.inj h2
      subst e1; subst e2
      exact ⟨vs, upd_same, r.mono m x⟩
  · obtain ⟨ps, e, t⟩ := a.st.tab P hP
    exact ⟨ps, by rw [upd_ne (ne_of_none e h)]; exact e, t⟩
theorem nd_inj {l j : Nat} {b : Addr} (hN : μ.Nodup) (h1 : μ[l]? = some b) (h2 : μ[j]? = some b) : l = j := nd_ix hN h1 h2
/-- a list of the store is written -/
theorem Ok.wrLst (a : Ok K mg T μ₀ H₀ μ H S) {l : Nat} {p : Addr} {vs : List V} {ds ds' : List D} (h : μ[l]? = some p) (e : S[l]? = some (.lst ds')) (r : Rps K mg μ H vs ds) : Ok K mg T μ H μ (upd H p (.lst vs)) (S.set l (.lst ds)) := by
  obtain ⟨ws, ew, _⟩ := a.st.lst h e
  have x : Ext H (upd H p (.lst vs)) := Ext.wr ew
  refine ⟨List.prefix_refl _, x, by rw [List.length_set]; exact a.st.len, a.st.nd, fun j b c h1 h2 => ?_, fun P hP => ?_, a.st.lam.stay fun b o e n => by rw [upd_ne (ne_of e ew (n ws))]; exact e⟩
  · by_cases hj : l = j
    · subst hj
      rw [h] at h1
      have e1 : p = b := Option.some.inj h1
      subst e1
      rw [List.getElem?_set_self (List.getElem?_eq_some_iff.mp e).1] at h2
      have e2 : Cell.lst ds = c := Option.some.inj h2
      subst e2
      exact ⟨vs, upd_same, r.mono (List.prefix_refl _) x⟩
    · rw [List.getElem?_set_ne hj] at h2
      have q := a.st.at_ j b c h1 h2
      refine q.mono (List.prefix_refl _) x (upd_ne fun z => ?_)
      subst z
      exact hj (nd_ix a.st.nd h h1)
  · obtain ⟨ps, e, t⟩ := a.st.tab P hP
    exact ⟨ps, by rw [upd_ne (ne_of e ew (fun z => nomatch z))]; exact e, t⟩
theorem RV.set {i : Nat} {v : V} {d : D} (r : RV K mg μ H σ ρ) (q : Rp K mg μ H v d) : RV K mg μ H (σ.set i (some v)) (ρ.set i (some d)) := by
  refine ⟨by rw [List.length_set, List.length_set]; exact r.len, fun j e h => ?_⟩
  by_cases hj : i = j
  · subst hj
    have hi : i < ρ.length := by
      have := (List.getElem?_eq_some_iff.mp h).1
      rwa [List.length_set] at this
    rw [List.getElem?_set_self hi] at h
    have e2 : d = e := Option.some.inj (Option.some.inj h)
    subst e2
    exact ⟨v, List.getElem?_set_self (by rw [r.len]; exact hi), q⟩
  · rw [List.getElem?_set_ne hj] at h
    obtain ⟨w, h1, h2⟩ := r.at_ j e h
    exact ⟨w, by rw [List.getElem?_set_ne hj]; exact h1, h2⟩
end

/-! ### readings -/
abbrev PTE := Vars → Sto → Post → Prop
abbrev PTA := Vars → Sto → (List D → Sto → Prop) → Prop
abbrev PTT := Vars → Sto → (Bool → Sto → Prop) → Prop
structure PEnds where
  nx : Vars → Sto → Prop
  rt : Post
  bk : Vars → Sto → Prop := fun _ _ => False
  ct : Vars → Sto → Prop := fun _ _ => False
abbrev PTS := PEnds → Vars → Sto → Prop

section
variable (K : PySem.W.Frag) (mg : Str → Option Value) (T : TabSet) (μ₀ : List Addr) (H₀ : Hp)
def Emb (t : PTE) : TE := fun σ H Q => ∃ ρ S μ R, Ok K mg T μ₀ H₀ μ H S ∧ RV K mg μ H σ ρ ∧ t ρ S R ∧ ∀ d S', R d S' → ∀ v H' μ', Ok K mg T μ H μ' H' S' → Rp K mg μ' H' v d → Q v H'
def EmbA (t : PTA) : TA := fun σ H Q => ∃ ρ S μ R, Ok K mg T μ₀ H₀ μ H S ∧ RV K mg μ H σ ρ ∧ t ρ S R ∧ ∀ ds S', R ds S' → ∀ vs H' μ', Ok K mg T μ H μ' H' S' → Rps K mg μ' H' vs ds → Q vs H'
def EmbT (t : PTT) : TT := fun σ H Q => ∃ ρ S μ R, Ok K mg T μ₀ H₀ μ H S ∧ RV K mg μ H σ ρ ∧ t ρ S R ∧ ∀ b S', R b S' → ∀ H' μ', Ok K mg T μ H μ' H' S' → Q b H'
def EmbS (t : PTS) : TS := fun D σ H => ∃ ρ S μ Dp, Ok K mg T μ₀ H₀ μ H S ∧ RV K mg μ H σ ρ ∧ t Dp ρ S ∧
  (∀ ρ' S', Dp.nx ρ' S' → ∀ σ' H' μ', Ok K mg T μ H μ' H' S' → RV K mg μ' H' σ' ρ' → D.nx σ' H') ∧
  (∀ d S', Dp.rt d S' → ∀ v H' μ', Ok K mg T μ H μ' H' S' → Rp K mg μ' H' v d → D.rt v H') ∧
  (∀ ρ' S', Dp.bk ρ' S' → ∀ σ' H' μ', Ok K mg T μ H μ' H' S' → RV K mg μ' H' σ' ρ' → D.bk σ' H') ∧
  (∀ ρ' S', Dp.ct ρ' S' → ∀ σ' H' μ', Ok K mg T μ H μ' H' S' → RV K mg μ' H' σ' ρ' → D.ct σ' H')
end
abbrev PPE (T : TabSet) (μ₀ : List Addr) (H₀ : Hp) (X : Cx) (e : Expr) (t : PTE) : Prop := PE X e (Emb X.K X.mg T μ₀ H₀ t)
abbrev PPA (T : TabSet) (μ₀ : List Addr) (H₀ : Hp) (X : Cx) (e : List Expr) (t : PTA) : Prop := PA X e (EmbA X.K X.mg T μ₀ H₀ t)
abbrev PPT (T : TabSet) (μ₀ : List Addr) (H₀ : Hp) (X : Cx) (e : Expr) (t : PTT) : Prop := PT X e (EmbT X.K X.mg T μ₀ H₀ t)
abbrev PPW (T : TabSet) (μ₀ : List Addr) (H₀ : Hp) (X : Cx) (e : Expr) (t : PTT) : Prop := PW X e (EmbT X.K X.mg T μ₀ H₀ t)
abbrev PPS (T : TabSet) (μ₀ : List Addr) (H₀ : Hp) (X : Cx) (e : Stmt) (t : PTS) : Prop := PS X e (EmbS X.K X.mg T μ₀ H₀ t)
abbrev PPSs (T : TabSet) (μ₀ : List Addr) (H₀ : Hp) (X : Cx) (e : List Stmt) (t : PTS) : Prop := PSs X e (EmbS X.K X.mg T μ₀ H₀ t)
theorem PE.imp {X : Cx} {e : Expr} {t t' : TE} (h : PE X e t) (i : ∀ σ H Q, t' σ H Q → t σ H Q) : PE X e t' := ⟨fun pins s σ H Q I q => h.run pins s σ H Q I (i σ H Q q)⟩
theorem PA.imp {X : Cx} {e : List Expr} {t t' : TA} (h : PA X e t) (i : ∀ σ H Q, t' σ H Q → t σ H Q) : PA X e t' := ⟨fun pos pins s σ H Q I q => h.run pos pins s σ H Q I (i σ H Q q)⟩
theorem PT.imp {X : Cx} {e : Expr} {t t' : TT} (h : PT X e t) (i : ∀ σ H Q, t' σ H Q → t σ H Q) : PT X e t' := ⟨fun pins s σ H Q I q => h.run pins s σ H Q I (i σ H Q q)⟩
theorem PW.imp {X : Cx} {e : Expr} {t t' : TT} (h : PW X e t) (i : ∀ σ H Q, t' σ H Q → t σ H Q) : PW X e t' := ⟨fun w pins s σ H Q I q => h.run w pins s σ H Q I (i σ H Q q)⟩
theorem PS.imp {X : Cx} {e : Stmt} {t t' : TS} (h : PS X e t) (i : ∀ D σ H, t' D σ H → t D σ H) : PS X e t' := ⟨fun pins s σ H D I q => h.run pins s σ H D I (i D σ H q)⟩
theorem PSs.imp {X : Cx} {e : List Stmt} {t t' : TS} (h : PSs X e t) (i : ∀ D σ H, t' D σ H → t D σ H) : PSs X e t' := ⟨fun pins s σ H D I q => h.run pins s σ H D I (i D σ H q)⟩
end Za

set_option Elab.async false
set_option linter.all false
set_option maxRecDepth 100000
namespace Za
open PySem PySem.Spec PyProof.Rows L2

/-! ### what a value holds, as data -/
mutual
inductive Py (S : Sto) : D → PyData → Prop
  | non : Py S .non .none
  | bl (b : Bool) : Py S (.bl b) (.bool b)
  | int (i : Int) : Py S (.int i) (.int i)
  | str (x : Str) : Py S (.str x) (.str x)
  | tup {ds : List D} {ps : List PyData} : PyAll S ds ps → Py S (.tup ds) (.tuple ps)
  | ro {ds : List D} {ps : List PyData} : PyAll S ds ps → Py S (.ro ds) (.list ps)
  | loc {l : Nat} {ds : List D} {ps : List PyData} : S[l]? = some (.lst ds) → PyAll S ds ps → Py S (.loc l) (.list ps)
inductive PyAll (S : Sto) : List D → List PyData → Prop
  | nil : PyAll S [] []
  | cons {d : D} {p : PyData} {ds : List D} {ps : List PyData} : Py S d p → PyAll S ds ps → PyAll S (d :: ds) (p :: ps)
end
section
variable {K : PySem.W.Frag} {mg : Str → Option Value} {T : TabSet} {μ : List Addr} {H : Hp} {S : Sto}
mutual
theorem Py.dp (st : RSt K mg T μ H S) : ∀ {d : D} {p : PyData} {v : V}, Py S d p → Rp K mg μ H v d → Dp K H v p
  | _, _, _, .non, r => by cases r; exact .non
  | _, _, _, .bl b, r => by cases r; exact .bl b
  | _, _, _, .int i, r => by cases r; exact .int i
  | _, _, _, .str x, r => by cases r; exact .str x
  | _, _, _, .tup h, r => by
    cases r with
    | tup q rs => exact .tup q (PyAll.dp st h rs)
  | _, _, _, .ro h, r => by
    cases r with
    | ro q rs => exact .lst q.sq (PyAll.dp st h rs)
  | _, _, _, .loc e h, r => by
    cases r with
    | loc q =>
      obtain ⟨vs, e1, rs⟩ := st.lst q e
      exact .lst (.inl (.inl e1)) (PyAll.dp st h rs)
theorem PyAll.dp (st : RSt K mg T μ H S) : ∀ {ds : List D} {ps : List PyData} {vs : List V}, PyAll S ds ps → Rps K mg μ H vs ds → DpAll K H vs ps
  | _, _, _, .nil, r => by cases r; exact .nil
  | _, _, _, .cons a b, r => by
    cases r with
    | cons r1 r2 => exact .cons (Py.dp st a r1) (PyAll.dp st b r2)
end
end

/-! ### expressions -/
section
variable {X : Cx} {T : TabSet} {μ₀ : List Addr} {H₀ : Hp} {a b c e : Expr} {es : List Expr} {ta tb tc te : PTE} {t : PTA} {pos : Pos}

def pVar (i : Nat) : PTE := fun ρ S R => ∃ d, ρ[i]? = some (some d) ∧ R d S
def pC (d : D) : PTE := fun _ S R => R d S
theorem c_var (i : Nat) {x : Str} (hN : X.N[i]? = some x := by rfl) (hv : Vis X.env.scope x := by first | exact Or.inl rfl | exact Or.inr (Or.inl rfl) | exact Or.inr (Or.inr rfl)) (hd : (x == ("__debug__" : Str)) = false := by decide)
    (hcd : (x == ("__classdict__" : Str)) = false := by decide) : PPE T μ₀ H₀ X (.Name x pos) (pVar i) :=
  PE.imp (pe_var hN hv hd hcd) fun σ H Q ⟨ρ, S, μ, R, ok, rv, ⟨d, e, q⟩, k⟩ => by
    obtain ⟨v, h1, h2⟩ := rv.at_ i d e
    exact ⟨v, h1, k d S q v H μ ok.here h2⟩
theorem c_int {i j} : PPE T μ₀ H₀ X (.Constant (.int i) j pos) (pC (.int i)) := PE.imp pe_int fun σ H Q ⟨ρ, S, μ, R, ok, rv, q, k⟩ => k _ S q _ H μ ok.here (.int i)
theorem c_bl {i j} : PPE T μ₀ H₀ X (.Constant (.bool i) j pos) (pC (.bl i)) := PE.imp pe_bl fun σ H Q ⟨ρ, S, μ, R, ok, rv, q, k⟩ => k _ S q _ H μ ok.here (.bl i)
theorem c_non {j} : PPE T μ₀ H₀ X (.Constant .none j pos) (pC .non) := PE.imp pe_non fun σ H Q ⟨ρ, S, μ, R, ok, rv, q, k⟩ => k _ S q _ H μ ok.here .non
theorem c_str {i j} : PPE T μ₀ H₀ X (.Constant (.str i) j pos) (pC (.str i)) := PE.imp pe_str fun σ H Q ⟨ρ, S, μ, R, ok, rv, q, k⟩ => k _ S q _ H μ ok.here (.str i)
/-- a def of the module as a value -/
theorem c_fn {x : Str} {f : Addr} (hg : Gl X x) (hm : X.mg x = some (.ref f)) (hd : (x == ("__debug__" : Str)) = false := by decide) : PPE T μ₀ H₀ X (.Name x pos) (pC (.fn x)) :=
  PE.imp (pe_glob hg hm (r := rfl) (v := .ref f) hd) fun σ H Q ⟨ρ, S, μ, R, ok, rv, q, k⟩ => k _ S q _ H μ ok.here (.fn hm)

/-! arguments -/
def pNil : PTA := fun _ S R => R [] S
def pCons (te : PTE) (t : PTA) : PTA := fun ρ S R => te ρ S fun d S1 => t ρ S1 fun ds S2 => R (d :: ds) S2
theorem ca_nil : PPA T μ₀ H₀ X [] pNil := PA.imp pa_nil fun σ H Q ⟨ρ, S, μ, R, ok, rv, q, k⟩ => k _ S q _ H μ ok.here .nil
theorem ca_cons (he : PPE T μ₀ H₀ X e te) (ha : PPA T μ₀ H₀ X es t) (hs : starEach (e :: es) X.env = (false, eval e X.env) :: starEach es X.env := by rfl) : PPA T μ₀ H₀ X (e :: es) (pCons te t) :=
  PA.imp (pa_cons he ha hs) fun σ H Q ⟨ρ, S, μ, R, ok, rv, q, k⟩ =>
    ⟨ρ, S, μ, _, ok, rv, q, fun d S1 q1 v H1 μ1 ok1 r1 => ⟨ρ, S1, μ1, _, ok.trans ok1, ok1.rv rv, q1, fun ds S2 q2 vs H2 μ2 ok2 r2 => k _ S2 q2 _ H2 μ2 (ok1.trans ok2) (.cons (ok2.rp r1) r2)⟩⟩

/-! operators by values -/
abbrev POp := D → D → Sto → Post → Prop
def Fits (K : PySem.W.Frag) (mg : Str → Option Value) (T : TabSet) (r : R2) (p : POp) : Prop := ∀ (μ : List Addr) (H : Hp) (S : Sto) (x y : D) (v u : V) (R : Post) (Q : VK), RSt K mg T μ H S → Rp K mg μ H v x → Rp K mg μ H u y → p x y S R →
  (∀ d S', R d S' → ∀ v' H' μ', Ok K mg T μ H μ' H' S' → Rp K mg μ' H' v' d → Q v' H') → r v u H Q
theorem RSt.ok {K : PySem.W.Frag} {mg : Str → Option Value} {T : TabSet} {μ : List Addr} {H : Hp} {S : Sto} (s : RSt K mg T μ H S) : Ok K mg T μ H μ H S := ⟨List.prefix_refl _, Ext.refl _, s⟩
def pBin (p : POp) (ta tb : PTE) : PTE := fun ρ S R => ta ρ S fun x S1 => tb ρ S1 fun y S2 => p x y S2 R
theorem bin_imp {r : R2} {p : POp} (hp : Fits X.K X.mg T r p) : ∀ σ H Q, Emb X.K X.mg T μ₀ H₀ (pBin p ta tb) σ H Q → tOp r (Emb X.K X.mg T μ₀ H₀ ta) (Emb X.K X.mg T μ₀ H₀ tb) σ H Q := fun σ H Q ⟨ρ, S, μ, R, ok, rv, q, k⟩ =>
  ⟨ρ, S, μ, _, ok, rv, q, fun x S1 q1 v H1 μ1 ok1 r1 => ⟨ρ, S1, μ1, _, ok.trans ok1, ok1.rv rv, q1, fun y S2 q2 u H2 μ2 ok2 r2 => hp μ2 H2 S2 x y v u R Q ok2.st (ok2.rp r1) r2 q2 fun d S' hd v' H' μ' ok' rp => k d S' hd v' H' μ' ((ok1.trans ok2).trans ok') rp⟩⟩
theorem c_op {op : Operator} {r : R2} {p : POp} (ho : OpR X (binaryOp op) r) (hp : Fits X.K X.mg T r p) (ha : PPE T μ₀ H₀ X a ta) (hb : PPE T μ₀ H₀ X b tb) : PPE T μ₀ H₀ X (.BinOp a op b pos) (pBin p ta tb) :=
  PE.imp (pe_op ho ha hb) (bin_imp hp)
theorem c_cmp {op : CmpOp} {r : R2} {p : POp} (ho : OpR X (compareOp op) r) (hp : Fits X.K X.mg T r p) (ha : PPE T μ₀ H₀ X a ta) (hb : PPE T μ₀ H₀ X b tb) (hm : behindInMarks op b = false) : PPE T μ₀ H₀ X (.Compare a [op] [b] pos) (pBin p ta tb) :=
  PE.imp (pe_cmpR ho ha hb hm) (bin_imp hp)
def pTest (te : PTE) : PTT := fun ρ S R => te ρ S fun x S1 => ∃ k, x = .bl k ∧ R k S1
theorem test_of {te : PTE} {t' : TE} (hi : ∀ σ H Q, Emb X.K X.mg T μ₀ H₀ te σ H Q → t' σ H Q) : ∀ σ H Q, EmbT X.K X.mg T μ₀ H₀ (pTest te) σ H Q → tTest t' σ H Q := fun σ H Q ⟨ρ, S, μ, R, ok, rv, q, k⟩ =>
  hi σ H _ ⟨ρ, S, μ, _, ok, rv, q, fun d S1 ⟨b, eb, q1⟩ v H1 μ1 ok1 r1 => by subst eb; cases r1; exact ⟨b, rfl, k b S1 q1 H1 μ1 ok1⟩⟩
theorem ct_cmp {op : CmpOp} {r : R2} {p : POp} (ho : OpR X (compareOp op) r) (hp : Fits X.K X.mg T r p) (ha : PPE T μ₀ H₀ X a ta) (hb : PPE T μ₀ H₀ X b tb) (hm : behindInMarks op b = false) : PPT T μ₀ H₀ X (.Compare a [op] [b] pos) (pTest (pBin p ta tb)) :=
  PT.imp (pt_cmpR ho ha hb hm) (test_of (bin_imp hp))

/-! + -/
def pAdd : POp := fun x y S R => match x, y with
  | .int i, .int j => R (.int (i + j)) S
  | .tup a, .tup b => a.length + b.length ≤ sizeLine ∧ R (.tup (a ++ b)) S
  | .loc l, .loc m => ∃ a b, S[l]? = some (.lst a) ∧ S[m]? = some (.lst b) ∧ a.length + b.length ≤ sizeLine ∧ R (.loc S.length) (S ++ [.lst (a ++ b)])
  | .str a, .str b => a.length + b.length ≤ sizeLine ∧ R (.str (a ++ b)) S
  | _, _ => False
theorem op_addZ : OpR X (binaryOp .Add) (fun x y H Q => (∃ i j, x = V.int i ∧ y = V.int j ∧ Q (.int (i + j)) H) ∨ rCatA X.K x y H Q ∨ rCat x y H Q ∨ ∃ i j, x = V.str i ∧ y = V.str j ∧ i.length + j.length ≤ sizeLine ∧ Q (.str (i ++ j)) H) :=
  OpR.or op_add (OpR.or op_catA (OpR.or op_cat op_add_str))

theorem fit_add : Fits X.K X.mg T (fun x y H Q => (∃ i j, x = V.int i ∧ y = V.int j ∧ Q (.int (i + j)) H) ∨ rCatA X.K x y H Q ∨ rCat x y H Q ∨ ∃ i j, x = V.str i ∧ y = V.str j ∧ i.length + j.length ≤ sizeLine ∧ Q (.str (i ++ j)) H) pAdd := by
  intro μ H S x y v u R Q st rx ry h k
  cases x with
  | int i =>
    cases y with
    | int j => cases rx; cases ry; exact .inl ⟨i, j, rfl, rfl, k _ S h _ H μ st.ok (.int _)⟩
    | _ => exact h.elim
  | str i =>
    cases y with
    | str j => cases rx; cases ry; exact .inr (.inr (.inr ⟨i, j, rfl, rfl, h.1, k _ S h.2 _ H μ st.ok (.str _)⟩))
    | _ => exact h.elim
  | tup xs =>
    cases y with
    | tup ys =>
      obtain ⟨hz, h⟩ := h
      cases rx with
      | tup q1 r1 =>
        cases ry with
        | tup q2 r2 =>
          refine .inr (.inl ⟨_, _, _, _, rfl, rfl, q1, q2, by rw [r1.length, r2.length]; exact hz, fun e => ?_, fun _ e => ?_, fun _ _ p hp => ?_⟩)
          · subst e
            cases r1
            exact k _ S h _ H μ st.ok (.tup q2 r2)
          · subst e
            cases r2
            rw [List.append_nil] at h
            exact k _ S h _ H μ st.ok (.tup q1 r1)
          · exact k _ S h _ _ μ (st.ok.new hp) (.tup (.inl (.inl upd_same)) ((st.ok.new hp).rps (r1.append r2)))
    | _ => exact h.elim
  | loc l =>
    cases y with
    | loc m =>
      obtain ⟨a, b, ea, eb, hz, h⟩ := h
      cases rx with
      | loc h1 =>
        cases ry with
        | loc h2 =>
          obtain ⟨vs, e1, r1⟩ := st.lst h1 ea
          obtain ⟨ws, e2, r2⟩ := st.lst h2 eb
          refine .inr (.inr (.inl ⟨_, _, vs, ws, rfl, rfl, e1, e2, by rw [r1.length, r2.length]; exact hz, fun p hp => ?_⟩))
          refine k _ _ h _ _ _ (st.ok.newLst hp (r1.append r2)) (.loc ?_)
          rw [← st.len, List.getElem?_append_right (Nat.le_refl _), Nat.sub_self]
          rfl
    | _ => exact h.elim
  | _ => exact h.elim
theorem c_add (ha : PPE T μ₀ H₀ X a ta) (hb : PPE T μ₀ H₀ X b tb) : PPE T μ₀ H₀ X (.BinOp a .Add b pos) (pBin pAdd ta tb) := c_op op_addZ fit_add ha hb

/-! ints -/
def pI2 (C : Int → Int → Prop) (g : Int → Int → D) : POp := fun x y S R => match x, y with
  | .int i, .int j => C i j ∧ R (g i j) S
  | _, _ => False
theorem fit_int {C : Int → Int → Prop} {g : Int → Int → Int} : Fits X.K X.mg T (rI C fun i j => .int (g i j)) (pI2 C fun i j => .int (g i j)) := by
  intro μ H S x y v u R Q st rx ry h k
  cases x with
  | int i =>
    cases y with
    | int j => cases rx; cases ry; exact ⟨i, j, rfl, rfl, h.1, k _ S h.2 _ H μ st.ok (.int _)⟩
    | _ => exact h.elim
  | _ => exact h.elim
theorem fit_intB {g : Int → Int → Bool} : Fits X.K X.mg T (rI0 fun i j => .bl (g i j)) (pI2 (fun _ _ => True) fun i j => .bl (g i j)) := by
  intro μ H S x y v u R Q st rx ry h k
  cases x with
  | int i =>
    cases y with
    | int j => cases rx; cases ry; exact ⟨i, j, rfl, rfl, k _ S h.2 _ H μ st.ok (.bl _)⟩
    | _ => exact h.elim
  | _ => exact h.elim
def rSubZ : R2 := rI (fun _ _ => True) fun i j => .int (i - j)
theorem op_subZ : OpR X (binaryOp .Sub) rSubZ := fun pins s σ H x y v u Q I rx ry ⟨i, j, e1, e2, _, q⟩ => op_sub pins s σ H x y v u Q I rx ry ⟨i, j, e1, e2, q⟩
theorem c_sub (ha : PPE T μ₀ H₀ X a ta) (hb : PPE T μ₀ H₀ X b tb) : PPE T μ₀ H₀ X (.BinOp a .Sub b pos) (pBin (pI2 (fun _ _ => True) fun i j => .int (i - j)) ta tb) := c_op op_subZ fit_int ha hb
def CDivZ (_ j : Int) : Prop := j ≠ 0 ∧ j.natAbs.log2 < 9000
theorem op_fdivZ : OpR X (binaryOp .FloorDiv) (rI CDivZ fun i j => .int (i.fdiv j)) := opI fun _ _ _ _ _ _ _ hc q => floordiv_int hc.1 q (.inl (PyProof.noPylong_of_log2 hc.2))
theorem c_fdiv (ha : PPE T μ₀ H₀ X a ta) (hb : PPE T μ₀ H₀ X b tb) : PPE T μ₀ H₀ X (.BinOp a .FloorDiv b pos) (pBin (pI2 CDivZ fun i j => .int (i.fdiv j)) ta tb) := c_op op_fdivZ fit_int ha hb
theorem c_mod (ha : PPE T μ₀ H₀ X a ta) (hb : PPE T μ₀ H₀ X b tb) : PPE T μ₀ H₀ X (.BinOp a .Mod b pos) (pBin (pI2 (fun _ j => j ≠ 0) fun i j => .int (i.fmod j)) ta tb) := c_op op_modN fit_int ha hb
theorem c_pow (ha : PPE T μ₀ H₀ X a ta) (hb : PPE T μ₀ H₀ X b tb) : PPE T μ₀ H₀ X (.BinOp a .Pow b pos) (pBin (pI2 CPow fun i j => .int (i ^ j.toNat)) ta tb) := c_op op_pow fit_int ha hb
/-- * : ints; a list, a tuple times an int -/
def pMul : POp := fun x y S R => match x, y with
  | .int i, .int j => CMulW i j ∧ R (.int (i * j)) S
  | .loc l, .int k => ∃ a, S[l]? = some (.lst a) ∧ 0 ≤ k ∧ k ≤ 1000000 ∧ a.length * k.toNat ≤ sizeLine ∧ R (.loc S.length) (S ++ [.lst (List.replicate k.toNat a).flatten])
  | .tup a, .int k => a ≠ [] ∧ 1 ≤ k ∧ k ≤ 1000 ∧ a.length ≤ 1000 ∧ R (.tup (List.replicate k.toNat a).flatten) S
  | _, _ => False
/-- a tuple once: itself -/
def rRepO (K : PySem.W.Frag) : R2 := fun x y H Q => ∃ l xs, x = .ref l ∧ y = .int 1 ∧ SqT K H l xs ∧ xs ≠ [] ∧ xs.length ≤ 1000 ∧ Q (.ref l) H
theorem once_tuple (l : Addr) (items : Array Value) (n : Nat) (dd : Option Addr) (sl : Array (Option Value)) (u : Tok) (c0 : (decide ((1 : Int) < -(2 ^ 63)) || decide ((1 : Int) ≥ 2 ^ 63)) = false) (c1 : (items.isEmpty || (1 : Int) == 1) = true) :
    Meets (Builtin.«tuple.__mul__» ⟨[.ref l, .int 1 u], []⟩) (fun _ R s => s.heap.get? l = some { cls := .type "tuple", dict := dd, data := .seq items n, slots := sl } ∧ R (.ok (.ret (Value.ref l))) s) :=
  .of_wp fun prog w A R s h => by
    obtain ⟨hp, g, d, tk, os⟩ := s
    obtain ⟨hl, h⟩ := h
    have f1 := AutoSeq1.idx_int
    wp_walk using wpAny_loadPart' hl
    exact ⟨_, rfl, h⟩
theorem op_repO : OpR X (binaryOp .Mult) (rRepO X.K) := by
  intro pins s σ H x y v u Q I rx ry h
  obtain ⟨l, xs, rfl, rfl, hT, hne, hz, q⟩ := h
  cases rx
  obtain ⟨t, rfl⟩ := ry
  obtain ⟨its, r, ⟨⟨cls, dd, data, sl⟩, ho, hc, n, hd⟩, hs⟩ := I.tuple hT
  simp only at hc hd
  subst hc hd
  refine wpAny_binaryOp_repeat_ref (T := "tuple") (U := "int") (by decide) ⟨_, ho, rfl⟩ (fun s' => typeIs_int s' 1 t) noFill_tuple_mul F.fills_int_mul F.slot_int_rmul repeat_tuple F.slot_int_index.lookup
    (call_meets F.slot_int_rmul (typeIs_int s 1 t) F.entry_int_rmul (F.args_int_rmul_2 _ _) (int_rmul_tuple 1 t l its.toArray n dd sl)
      ⟨ho, rfl, ⟨_, ho, rfl⟩, call_meets F.slot_tuple_mul ⟨_, ho, rfl⟩ F.entry_tuple_mul (F.args_tuple_mul_2 _ _) (once_tuple l its.toArray n dd sl t (by decide) (by rw [Bool.or_eq_true]; exact .inr rfl)) ⟨ho, ?_⟩⟩)
  exact ⟨.ref l, H, I, rfl, q⟩
def rMulZ (K : PySem.W.Frag) : R2 := fun x y H Q => rI CMulW (fun i j => .int (i * j)) x y H Q ∨ rRep x y H Q ∨ rRepT K x y H Q ∨ rRepO K x y H Q
theorem op_mulZ : OpR X (binaryOp .Mult) (rMulZ X.K) := OpR.or op_mulW (OpR.or op_rep (OpR.or op_repT op_repO))
theorem rps_rep {K : PySem.W.Frag} {mg : Str → Option Value} {μ : List Addr} {H : Hp} {vs : List V} {ds : List D} (r : Rps K mg μ H vs ds) : ∀ n : Nat, Rps K mg μ H (List.replicate n vs).flatten (List.replicate n ds).flatten
  | 0 => .nil
  | n + 1 => by
    rw [List.replicate_succ, List.replicate_succ, List.flatten_cons, List.flatten_cons]
    exact r.append (rps_rep r n)
theorem fit_mul : Fits X.K X.mg T (rMulZ X.K) pMul := by
  intro μ H S x y v u R Q st rx ry h k
  cases x with
  | int i =>
    cases y with
    | int j => cases rx; cases ry; exact .inl ⟨i, j, rfl, rfl, h.1, k _ S h.2 _ H μ st.ok (.int _)⟩
    | _ => exact h.elim
  | loc l =>
    cases y with
    | int j =>
      obtain ⟨a, ea, h1, h2, hz, h⟩ := h
      cases ry
      cases rx with
      | loc hl =>
        obtain ⟨vs, e1, r1⟩ := st.lst hl ea
        refine .inr (.inl ⟨_, j, vs, rfl, rfl, e1, by omega, by omega, by rw [r1.length]; exact hz, fun p hp => ?_⟩)
        refine k _ _ h _ _ _ (st.ok.newLst hp (rps_rep r1 _)) (.loc ?_)
        rw [← st.len, List.getElem?_append_right (Nat.le_refl _), Nat.sub_self]
        rfl
    | _ => exact h.elim
  | tup a =>
    cases y with
    | int j =>
      obtain ⟨h0, h1, h2, hz, h⟩ := h
      cases ry
      cases rx with
      | tup q r =>
        have nn : ∀ {vs : List V}, Rps X.K X.mg μ H vs a → vs ≠ [] := fun r e => by
          subst e
          cases r
          exact h0 rfl
        by_cases h3 : j = 1
        · subst h3
          refine .inr (.inr (.inr ⟨_, _, rfl, rfl, q, nn r, by rw [r.length]; exact hz, ?_⟩))
          have e1 : (List.replicate (1 : Int).toNat a).flatten = a := by simp
          rw [e1] at h
          exact k _ S h _ _ μ st.ok (.tup q r)
        · refine .inr (.inr (.inl ⟨_, j, _, rfl, rfl, q, nn r, by omega, h2, by rw [r.length]; exact hz, fun p hp => ?_⟩))
          exact k _ S h _ _ μ (st.ok.new hp) (.tup (.inl (.inl upd_same)) ((st.ok.new hp).rps (rps_rep r _)))
    | _ => exact h.elim
  | _ => exact h.elim
theorem c_mul (ha : PPE T μ₀ H₀ X a ta) (hb : PPE T μ₀ H₀ X b tb) : PPE T μ₀ H₀ X (.BinOp a .Mult b pos) (pBin pMul ta tb) := c_op op_mulZ fit_mul ha hb

/-! comparisons -/
theorem c_lt (ha : PPE T μ₀ H₀ X a ta) (hb : PPE T μ₀ H₀ X b tb) : PPE T μ₀ H₀ X (.Compare a [.Lt] [b] pos) (pBin (pI2 (fun _ _ => True) fun i j => .bl (decide (i < j))) ta tb) := c_cmp op_lt fit_intB ha hb (nomark _)
theorem c_le (ha : PPE T μ₀ H₀ X a ta) (hb : PPE T μ₀ H₀ X b tb) : PPE T μ₀ H₀ X (.Compare a [.LtE] [b] pos) (pBin (pI2 (fun _ _ => True) fun i j => .bl (decide (i ≤ j))) ta tb) := c_cmp op_le fit_intB ha hb (nomark _)
theorem c_gt (ha : PPE T μ₀ H₀ X a ta) (hb : PPE T μ₀ H₀ X b tb) : PPE T μ₀ H₀ X (.Compare a [.Gt] [b] pos) (pBin (pI2 (fun _ _ => True) fun i j => .bl (decide (j < i))) ta tb) := c_cmp op_gt fit_intB ha hb (nomark _)
theorem c_ge (ha : PPE T μ₀ H₀ X a ta) (hb : PPE T μ₀ H₀ X b tb) : PPE T μ₀ H₀ X (.Compare a [.GtE] [b] pos) (pBin (pI2 (fun _ _ => True) fun i j => .bl (decide (j ≤ i))) ta tb) := c_cmp op_ge fit_intB ha hb (nomark _)
def pEq : POp := fun x y S R => ∃ p q, Py S x p ∧ Py S y q ∧ SeqAt.shaped p = true ∧ SeqAt.shaped q = true ∧ R (.bl (PyData.eqv p q)) S
def pNe : POp := fun x y S R => ∃ p q, Py S x p ∧ Py S y q ∧ SeqAt.shaped p = true ∧ SeqAt.shaped q = true ∧ R (.bl (!PyData.eqv p q)) S
theorem fit_eq : Fits X.K X.mg T (rEqD X.K) pEq := fun μ H S x y v u R Q st rx ry ⟨p, q, hp, hq, s1, s2, h⟩ k => ⟨p, q, hp.dp st rx, hq.dp st ry, s1, s2, k _ S h _ H μ st.ok (.bl _)⟩
theorem fit_ne : Fits X.K X.mg T (rNeD X.K) pNe := fun μ H S x y v u R Q st rx ry ⟨p, q, hp, hq, s1, s2, h⟩ k => ⟨p, q, hp.dp st rx, hq.dp st ry, s1, s2, k _ S h _ H μ st.ok (.bl _)⟩
theorem c_eq (hu : X.A.units + 64 < cLine) (ha : PPE T μ₀ H₀ X a ta) (hb : PPE T μ₀ H₀ X b tb) : PPE T μ₀ H₀ X (.Compare a [.Eq] [b] pos) (pBin pEq ta tb) := c_cmp (op_eqD hu) fit_eq ha hb (nomark _)
theorem c_ne (hu : X.A.units + 64 < cLine) (ha : PPE T μ₀ H₀ X a ta) (hb : PPE T μ₀ H₀ X b tb) : PPE T μ₀ H₀ X (.Compare a [.NotEq] [b] pos) (pBin pNe ta tb) := c_cmp (op_neD hu) fit_ne ha hb (nomark _)
/-- is None -/
def D.isNon : D → Bool
  | .non => true
  | _ => false
theorem rp_non {K : PySem.W.Frag} {mg : Str → Option Value} {μ : List Addr} {H : Hp} {v : V} {d : D} (r : Rp K mg μ H v d) : decide (v = .non) = d.isNon := by
  cases r <;> rfl
def pIsN : POp := fun x y S R => y = .non ∧ R (.bl x.isNon) S
def pNotN : POp := fun x y S R => y = .non ∧ R (.bl (!x.isNon)) S
theorem fit_isN : Fits X.K X.mg T (fun x y H Q => y = .non ∧ Q (.bl (decide (x = .non))) H) pIsN := fun μ H S x y v u R Q st rx ry ⟨e, h⟩ k => by
  subst e
  cases ry
  exact ⟨rfl, by rw [rp_non rx]; exact k _ S h _ H μ st.ok (.bl _)⟩
theorem fit_notN : Fits X.K X.mg T (fun x y H Q => y = .non ∧ Q (.bl (!decide (x = .non))) H) pNotN := fun μ H S x y v u R Q st rx ry ⟨e, h⟩ k => by
  subst e
  cases ry
  exact ⟨rfl, by rw [rp_non rx]; exact k _ S h _ H μ st.ok (.bl _)⟩
theorem c_isN {j p2} (ha : PPE T μ₀ H₀ X a ta) : PPE T μ₀ H₀ X (.Compare a [.Is] [.Constant .none j p2] pos) (pBin pIsN ta (pC .non)) := c_cmp op_isN fit_isN ha c_non (nomark _)
theorem c_notN {j p2} (ha : PPE T μ₀ H₀ X a ta) : PPE T μ₀ H₀ X (.Compare a [.IsNot] [.Constant .none j p2] pos) (pBin pNotN ta (pC .non)) := c_cmp op_notN fit_notN ha c_non (nomark _)
/-- in, not in: ints among ints -/
def pIn (neg : Bool) : POp := fun x y S R => ∃ (i : Int) (ns : List Int), x = .int i ∧ (y = .tup (ns.map D.int) ∨ y = .ro (ns.map D.int) ∨ ∃ l, y = .loc l ∧ S[l]? = some (.lst (ns.map D.int))) ∧ R (.bl (if neg then !decide (i ∈ ns) else decide (i ∈ ns))) S
theorem rps_intsV {K : PySem.W.Frag} {mg : Str → Option Value} {μ : List Addr} {H : Hp} : ∀ {ns : List Int} {vs : List V}, Rps K mg μ H vs (ns.map D.int) → vs = ns.map V.int
  | [], _, r => by cases r; rfl
  | n :: ns, _, r => by
    cases r with
    | cons r1 r2 =>
      cases r1
      rw [rps_intsV r2]
      rfl
theorem inV_int (i : Int) : ∀ ns : List Int, inV (.int i) (ns.map V.int) = decide (i ∈ ns)
  | [] => (decide_eq_false (List.not_mem_nil)).symm
  | n :: ns => by
    have ih := inV_int i ns
    unfold inV at ih ⊢
    rw [List.map_cons, List.any_cons, ih]
    show ((n == i) || decide (i ∈ ns)) = decide (i ∈ n :: ns)
    by_cases e : n = i
    · subst e
      rw [beq_self_eq_true, Bool.true_or]
      exact (decide_eq_true List.mem_cons_self).symm
    · rw [beq_eq_false_iff_ne.mpr e, Bool.false_or]
      by_cases h : i ∈ ns
      · rw [decide_eq_true h, decide_eq_true (List.mem_cons_of_mem _ h)]
      · rw [decide_eq_false h, decide_eq_false fun z => (List.mem_cons.mp z).elim (fun q => e q.symm) h]
theorem flat_ints : ∀ ns : List Int, (ns.map V.int).all flatV = true
  | [] => rfl
  | n :: ns => by rw [List.map_cons, List.all_cons, flat_ints ns]; rfl
theorem fit_in {neg : Bool} : Fits X.K X.mg T (rIn X.K neg) (pIn neg) := by
  intro μ H S x y v u R Q st rx ry ⟨i, ns, ex, hy, h⟩ k
  subst ex
  cases rx
  have fin : ∀ p, (SqL X.K H p (ns.map V.int) ∨ SqT X.K H p (ns.map V.int)) → rIn X.K neg (.int i) (.ref p) H Q := fun p hq =>
    ⟨p, _, rfl, hq, rfl, flat_ints ns, by rw [inV_int]; exact k _ S h _ H μ st.ok (.bl _)⟩
  rcases hy with rfl | rfl | ⟨l, rfl, el⟩
  · cases ry with
    | tup q r => exact fin _ (.inr (by rw [← rps_intsV r]; exact q))
  · cases ry with
    | ro q r => exact fin _ (.inl (by rw [← rps_intsV r]; exact q.sq))
  · cases ry with
    | loc q =>
      obtain ⟨vs, e1, r⟩ := st.lst q el
      exact fin _ (.inl (.inl (.inl (by rw [← rps_intsV r]; exact e1))))
theorem c_in (ha : PPE T μ₀ H₀ X a ta) (hb : PPE T μ₀ H₀ X b tb) (hm : behindInMarks .In b = false := by rfl) : PPE T μ₀ H₀ X (.Compare a [.In] [b] pos) (pBin (pIn false) ta tb) := c_cmp op_in_seq fit_in ha hb hm
theorem c_notIn (ha : PPE T μ₀ H₀ X a ta) (hb : PPE T μ₀ H₀ X b tb) (hm : behindInMarks .NotIn b = false := by rfl) : PPE T μ₀ H₀ X (.Compare a [.NotIn] [b] pos) (pBin (pIn true) ta tb) := c_cmp op_notIn_seq fit_in ha hb hm
end
end Za

set_option Elab.async false
set_option linter.all false
set_option maxRecDepth 100000
namespace Za
open PySem PySem.Spec PyProof.Rows L2
section
variable {X : Cx} {T : TabSet} {μ₀ : List Addr} {H₀ : Hp} {a b c e : Expr} {es : List Expr} {ta tb tc te : PTE} {tt tu : PTT} {t : PTA} {pos : Pos}

/-! ### items and slices -/
theorem rps_at {K : PySem.W.Frag} {mg : Str → Option Value} {μ : List Addr} {H : Hp} {vs : List V} {ds : List D} {i : Int} {d : D} (r : Rps K mg μ H vs ds) (h : atI ds i = some d) : ∃ v, atI vs i = some v ∧ Rp K mg μ H v d := by
  unfold atI at h ⊢
  rw [r.length]
  cases e : ixN ds.length i with
  | none => rw [e] at h; cases h
  | some j =>
    rw [e] at h
    exact r.get h
/-- the list at a place -/
def lstAt (S : Sto) (l : Nat) : Option (List D) := match S[l]? with
  | some (.lst ds) => some ds
  | none => none
/-- the items of a value that may be read by place -/
def seqOf (S : Sto) : D → Option (List D)
  | .tup ds => some ds
  | .ro ds => some ds
  | .loc l => lstAt S l
  | _ => none
theorem seqOf_loc {S : Sto} {l : Nat} {ds : List D} (h : seqOf S (.loc l) = some ds) : S[l]? = some (.lst ds) := by
  have h : lstAt S l = some ds := h
  unfold lstAt at h
  split at h
  · rename_i q
    rw [q]
    cases h
    rfl
  · cases h
theorem seqOf_of {S : Sto} {l : Nat} {ds : List D} (h : S[l]? = some (.lst ds)) : seqOf S (.loc l) = some ds := by
  show lstAt S l = some ds
  unfold lstAt
  rw [h]
theorem rp_seq {K : PySem.W.Frag} {mg : Str → Option Value} {T : TabSet} {μ : List Addr} {H : Hp} {S : Sto} {d : D} {ds : List D} {v : V} (st : RSt K mg T μ H S) (r : Rp K mg μ H v d) (h : seqOf S d = some ds) :
    ∃ p vs, v = .ref p ∧ Rps K mg μ H vs ds ∧ ((∃ es, d = .tup es) ∧ SqT K H p vs ∨ (∀ es, d ≠ .tup es) ∧ SqL K H p vs) := by
  cases r with
  | tup q r =>
    cases h
    exact ⟨_, _, rfl, r, .inl ⟨⟨_, rfl⟩, q⟩⟩
  | ro q r =>
    cases h
    exact ⟨_, _, rfl, r, .inr ⟨fun es z => (nomatch z), q.sq⟩⟩
  | loc q =>
    obtain ⟨vs, e, r⟩ := st.lst q (seqOf_loc h)
    exact ⟨_, vs, rfl, r, .inr ⟨fun es z => (nomatch z), .inl (.inl e)⟩⟩
  | _ => cases h
def pIx : POp := fun x y S R => ∃ ds i d, seqOf S x = some ds ∧ y = .int i ∧ atI ds i = some d ∧ R d S
theorem fit_ix : Fits X.K X.mg T (fun x y H Q => rIxL X.K x y H Q ∨ rIxT X.K x y H Q) pIx := by
  intro μ H S x y v u R Q st rx ry ⟨ds, i, d, hs, ey, hi, h⟩ k
  subst ey
  cases ry
  obtain ⟨p, vs, rfl, r, q⟩ := rp_seq st rx hs
  obtain ⟨w, hw, rw'⟩ := rps_at r hi
  rcases q with ⟨_, q⟩ | ⟨_, q⟩
  · exact .inr ⟨p, vs, i, w, rfl, rfl, q, hw, k d S h w H μ st.ok rw'⟩
  · exact .inl ⟨p, vs, i, w, rfl, rfl, q, hw, k d S h w H μ st.ok rw'⟩
theorem c_ix (ha : PPE T μ₀ H₀ X a ta) (hb : PPE T μ₀ H₀ X b tb) (hs : PlainIx b := by exact fun _ _ => rfl) : PPE T μ₀ H₀ X (.Subscript a b pos) (pBin pIx ta tb) :=
  PE.imp (pe_ix (ix_list.or ix_tup) ha hb hs) (bin_imp fit_ix)

/-- a slice's part -/
abbrev PTO := Vars → Sto → (Option Int → Sto → Prop) → Prop
def EmbO (K : PySem.W.Frag) (mg : Str → Option Value) (T : TabSet) (μ₀ : List Addr) (H₀ : Hp) (t : PTO) : TO := fun σ H Q => ∃ ρ S μ R, Ok K mg T μ₀ H₀ μ H S ∧ RV K mg μ H σ ρ ∧ t ρ S R ∧ ∀ o S', R o S' → ∀ H' μ', Ok K mg T μ H μ' H' S' → Q o H'
theorem PO.imp {X : Cx} {e : Option Expr} {t t' : TO} (h : PO X e t) (i : ∀ σ H Q, t' σ H Q → t σ H Q) : PO X e t' := ⟨fun pins s σ H Q I q => h.run pins s σ H Q I (i σ H Q q)⟩
abbrev PPO (T : TabSet) (μ₀ : List Addr) (H₀ : Hp) (X : Cx) (e : Option Expr) (t : PTO) : Prop := PO X e (EmbO X.K X.mg T μ₀ H₀ t)
def pNoPart : PTO := fun _ S R => R none S
def pPart (te : PTE) : PTO := fun ρ S R => te ρ S fun x S1 => ∃ i, x = .int i ∧ R (some i) S1
theorem co_none : PPO T μ₀ H₀ X none pNoPart := PO.imp po_none fun σ H Q ⟨ρ, S, μ, R, ok, rv, q, k⟩ => k _ S q H μ ok.here
theorem co_some (he : PPE T μ₀ H₀ X e te) : PPO T μ₀ H₀ X (some e) (pPart te) := PO.imp (po_some he) fun σ H Q ⟨ρ, S, μ, R, ok, rv, q, k⟩ =>
  ⟨ρ, S, μ, _, ok, rv, q, fun d S1 ⟨i, ei, q1⟩ v H1 μ1 ok1 r1 => by subst ei; cases r1; exact ⟨i, rfl, k _ S1 q1 H1 μ1 ok1⟩⟩
def cutD (xs : List D) (lo hi : Option Int) : List D := (xs.drop (HT.sIx xs.length 0 lo)).take (HT.sIx xs.length xs.length hi - HT.sIx xs.length 0 lo)
theorem rps_cut {K : PySem.W.Frag} {mg : Str → Option Value} {μ : List Addr} {H : Hp} {vs : List V} {ds : List D} (r : Rps K mg μ H vs ds) (lo hi : Option Int) : Rps K mg μ H (cutV vs lo hi) (cutD ds lo hi) := by
  unfold cutV cutD
  rw [r.length]
  exact (r.drop _).take _
/-- the whole of a tuple is the tuple itself -/
theorem cutD_whole {xs : List D} {lo hi : Option Int} (h1 : HT.sIx xs.length 0 lo = 0) (h2 : HT.sIx xs.length xs.length hi = xs.length) : cutD xs lo hi = xs := by
  unfold cutD
  rw [h1, h2, List.drop_zero, Nat.sub_zero, List.take_length]
def pCut (te : PTE) (tl th : PTO) : PTE := fun ρ S R => te ρ S fun x S1 => tl ρ S1 fun lo S2 => th ρ S2 fun hi S3 => match x with
  | .tup ds => R (.tup (cutD ds lo hi)) S3
  | d => ∃ ds, seqOf S3 d = some ds ∧ R (.loc S3.length) (S3 ++ [.lst (cutD ds lo hi)])
theorem c_cut {lo hi : Option Expr} {tl th : PTO} {p2 : Pos} (he : PPE T μ₀ H₀ X e te) (hl : PPO T μ₀ H₀ X lo tl) (hh : PPO T μ₀ H₀ X hi th) : PPE T μ₀ H₀ X (.Subscript e (.Slice lo hi none p2) pos) (pCut te tl th) := by
  refine PE.imp (pe_slice (SlR.or sl_list sl_tupA) he hl hh) fun σ H Q ⟨ρ, S, μ, R, ok, rv, q, k⟩ => ?_
  refine ⟨ρ, S, μ, _, ok, rv, q, fun x S1 q1 v H1 μ1 ok1 r1 => ⟨ρ, S1, μ1, _, ok.trans ok1, ok1.rv rv, q1, fun l S2 q2 H2 μ2 ok2 => ⟨ρ, S2, μ2, _, (ok.trans ok1).trans ok2, ok2.rv (ok1.rv rv), q2, fun u S3 q3 H3 μ3 ok3 => ?_⟩⟩⟩
  have r3 := ok3.rp (ok2.rp r1)
  have okA := (ok1.trans ok2).trans ok3
  have other : ∀ d ds, Rp X.K X.mg μ3 H3 v d → seqOf S3 d = some ds → (∀ es, d ≠ .tup es) → R (.loc S3.length) (S3 ++ [.lst (cutD ds l u)]) → rSlL X.K v l u H3 Q := fun d ds rd hs hn hR => by
    obtain ⟨p, vs, rfl, r, z⟩ := rp_seq ok3.st rd hs
    rcases z with ⟨⟨es, e⟩, _⟩ | ⟨_, z⟩
    · exact (hn es e).elim
    · refine ⟨p, vs, rfl, z, fun o ho => k _ _ hR _ _ _ (okA.trans (ok3.newLst ho (rps_cut r l u))) (.loc ?_)⟩
      rw [← ok3.st.len, List.getElem?_append_right (Nat.le_refl _), Nat.sub_self]
      rfl
  cases x with
  | tup ds =>
    cases r3 with
    | tup z r =>
      refine .inr ⟨_, _, rfl, z, fun ⟨h1, h2⟩ => ?_, fun _ p hp => k _ _ q3 _ _ _ (okA.trans (ok3.new hp)) (.tup (.inl (.inl upd_same)) ((ok3.new hp).rps (rps_cut r l u)))⟩
      rw [r.length] at h1 h2
      have q3' : R (.tup (cutD ds l u)) S3 := q3
      rw [cutD_whole h1 h2] at q3'
      exact k _ _ q3' _ H3 μ3 okA (.tup z r)
  | ro ds => obtain ⟨es, hs, hR⟩ := q3; exact .inl (other _ es r3 hs (fun es z => nomatch z) hR)
  | loc l => obtain ⟨es, hs, hR⟩ := q3; exact .inl (other _ es r3 hs (fun es z => nomatch z) hR)
  | _ => obtain ⟨es, hs, hR⟩ := q3; cases hs

/-! ### displays -/
def pTup (t : PTA) : PTE := fun ρ S R => t ρ S fun ds S1 => ds.length ≤ sizeLine ∧ R (.tup ds) S1
def pLst (t : PTA) : PTE := fun ρ S R => t ρ S fun ds S1 => ds.length ≤ sizeLine ∧ R (.loc S1.length) (S1 ++ [.lst ds])
theorem c_tup {x1} (h : PPA T μ₀ H₀ X es t) : PPE T μ₀ H₀ X (.Tuple es x1 pos) (pTup t) := PE.imp (pe_tup h) fun σ H Q ⟨ρ, S, μ, R, ok, rv, q, k⟩ =>
  ⟨ρ, S, μ, _, ok, rv, q, fun ds S1 ⟨hz, q1⟩ vs H1 μ1 ok1 r1 => ⟨by rw [r1.length]; exact hz, fun p hp => k _ S1 q1 _ _ μ1 (ok1.trans (ok1.new hp)) (.tup (.inl (.inl upd_same)) ((ok1.new hp).rps r1))⟩⟩
theorem c_lst (h : PPA T μ₀ H₀ X es t) : PPE T μ₀ H₀ X (.List es pos) (pLst t) := PE.imp (pe_lst h) fun σ H Q ⟨ρ, S, μ, R, ok, rv, q, k⟩ =>
  ⟨ρ, S, μ, _, ok, rv, q, fun ds S1 ⟨hz, q1⟩ vs H1 μ1 ok1 r1 => ⟨by rw [r1.length]; exact hz, fun p hp => k _ _ q1 _ _ _ (ok1.trans (ok1.newLst hp r1)) (.loc (by
    rw [← ok1.st.len, List.getElem?_append_right (Nat.le_refl _), Nat.sub_self]
    rfl))⟩⟩

/-! ### tests, and, or, not -/
def pAndV (ta tb : PTE) : PTE := fun ρ S R => ta ρ S fun x S1 => ∃ k, x = .bl k ∧ if k = true then tb ρ S1 R else R (.bl false) S1
def pOrV (ta tb : PTE) : PTE := fun ρ S R => ta ρ S fun x S1 => ∃ k, x = .bl k ∧ if k = true then R (.bl true) S1 else tb ρ S1 R
def pNotV (ta : PTE) : PTE := fun ρ S R => ta ρ S fun x S1 => ∃ k, x = .bl k ∧ R (.bl (!k)) S1
theorem c_one {op} (ha : PPE T μ₀ H₀ X a ta) : PPE T μ₀ H₀ X (.BoolOp op [a] pos) ta := pe_one ha
theorem c_and {rest : List Expr} (ha : PPE T μ₀ H₀ X a ta) (hb : PPE T μ₀ H₀ X (.BoolOp .And (b :: rest) pos) tb) : PPE T μ₀ H₀ X (.BoolOp .And (a :: b :: rest) pos) (pAndV ta tb) := PE.imp (pe_and ha hb) fun σ H Q ⟨ρ, S, μ, R, ok, rv, q, k⟩ =>
  ⟨ρ, S, μ, _, ok, rv, q, fun d S1 ⟨c, ec, q1⟩ v H1 μ1 ok1 r1 => by
    subst ec; cases r1
    refine ⟨c, rfl, ?_⟩
    cases c with
    | true => exact ⟨ρ, S1, μ1, R, ok.trans ok1, ok1.rv rv, q1, fun d S' hd v H' μ' ok' rp => k d S' hd v H' μ' (ok1.trans ok') rp⟩
    | false => exact k _ S1 q1 _ H1 μ1 ok1 (.bl false)⟩
theorem c_or {rest : List Expr} (ha : PPE T μ₀ H₀ X a ta) (hb : PPE T μ₀ H₀ X (.BoolOp .Or (b :: rest) pos) tb) : PPE T μ₀ H₀ X (.BoolOp .Or (a :: b :: rest) pos) (pOrV ta tb) := PE.imp (pe_or ha hb) fun σ H Q ⟨ρ, S, μ, R, ok, rv, q, k⟩ =>
  ⟨ρ, S, μ, _, ok, rv, q, fun d S1 ⟨c, ec, q1⟩ v H1 μ1 ok1 r1 => by
    subst ec; cases r1
    refine ⟨c, rfl, ?_⟩
    cases c with
    | true => exact k _ S1 q1 _ H1 μ1 ok1 (.bl true)
    | false => exact ⟨ρ, S1, μ1, R, ok.trans ok1, ok1.rv rv, q1, fun d S' hd v H' μ' ok' rp => k d S' hd v H' μ' (ok1.trans ok') rp⟩⟩
theorem c_not (ha : PPE T μ₀ H₀ X a ta) : PPE T μ₀ H₀ X (.UnaryOp .Not a pos) (pNotV ta) := PE.imp (pe_not ha) fun σ H Q ⟨ρ, S, μ, R, ok, rv, q, k⟩ =>
  ⟨ρ, S, μ, _, ok, rv, q, fun d S1 ⟨c, ec, q1⟩ v H1 μ1 ok1 r1 => by subst ec; cases r1; exact ⟨c, rfl, k _ S1 q1 _ H1 μ1 ok1 (.bl _)⟩⟩
def pNeg (ta : PTE) : PTE := fun ρ S R => ta ρ S fun x S1 => ∃ i, x = .int i ∧ R (.int (-i)) S1
theorem c_neg (ha : PPE T μ₀ H₀ X a ta) : PPE T μ₀ H₀ X (.UnaryOp .USub a pos) (pNeg ta) := PE.imp (pe_un un_neg ha) fun σ H Q ⟨ρ, S, μ, R, ok, rv, q, k⟩ =>
  ⟨ρ, S, μ, _, ok, rv, q, fun d S1 ⟨c, ec, q1⟩ v H1 μ1 ok1 r1 => by subst ec; cases r1; exact ⟨c, rfl, k _ S1 q1 _ H1 μ1 ok1 (.int _)⟩⟩
/-- an expression that gives a truth, as a test -/
theorem ct_val (he : PPE T μ₀ H₀ X e te) (hw : ∀ whole, isTrue e X.env whole = (do let v ← whole; standAt e.pos; holding [v] (truthy v)) := by intro _; rfl) : PPT T μ₀ H₀ X e (pTest te) := PT.imp (pt_val he hw) (test_of fun _ _ _ h => h)
def pAndT (t u : PTT) : PTT := fun ρ S R => t ρ S fun k S1 => if k = true then u ρ S1 R else R false S1
def pOrT (t u : PTT) : PTT := fun ρ S R => t ρ S fun k S1 => if k = true then R true S1 else u ρ S1 R
def pNotT (t : PTT) : PTT := fun ρ S R => t ρ S fun k S1 => R (!k) S1
theorem cw_and1 (ha : PPT T μ₀ H₀ X a tt) : PPW T μ₀ H₀ X (.BoolOp .And [a] pos) tt := pw_and1 ha
theorem cw_or1 (ha : PPT T μ₀ H₀ X a tt) : PPW T μ₀ H₀ X (.BoolOp .Or [a] pos) tt := pw_or1 ha
theorem and_imp : ∀ σ H Q, EmbT X.K X.mg T μ₀ H₀ (pAndT tt tu) σ H Q → tAnd (EmbT X.K X.mg T μ₀ H₀ tt) (EmbT X.K X.mg T μ₀ H₀ tu) σ H Q := fun σ H Q ⟨ρ, S, μ, R, ok, rv, q, k⟩ =>
  ⟨ρ, S, μ, _, ok, rv, q, fun c S1 q1 H1 μ1 ok1 => by
    cases c with
    | true => exact ⟨ρ, S1, μ1, R, ok.trans ok1, ok1.rv rv, q1, fun d S' hd H' μ' ok' => k d S' hd H' μ' (ok1.trans ok')⟩
    | false => exact k _ S1 q1 H1 μ1 ok1⟩
theorem or_imp : ∀ σ H Q, EmbT X.K X.mg T μ₀ H₀ (pOrT tt tu) σ H Q → tOr (EmbT X.K X.mg T μ₀ H₀ tt) (EmbT X.K X.mg T μ₀ H₀ tu) σ H Q := fun σ H Q ⟨ρ, S, μ, R, ok, rv, q, k⟩ =>
  ⟨ρ, S, μ, _, ok, rv, q, fun c S1 q1 H1 μ1 ok1 => by
    cases c with
    | true => exact k _ S1 q1 H1 μ1 ok1
    | false => exact ⟨ρ, S1, μ1, R, ok.trans ok1, ok1.rv rv, q1, fun d S' hd H' μ' ok' => k d S' hd H' μ' (ok1.trans ok')⟩⟩
theorem cw_and {rest : List Expr} (ha : PPT T μ₀ H₀ X a tt) (hb : PPW T μ₀ H₀ X (.BoolOp .And (b :: rest) pos) tu) : PPW T μ₀ H₀ X (.BoolOp .And (a :: b :: rest) pos) (pAndT tt tu) := PW.imp (pw_and ha hb) and_imp
theorem cw_or {rest : List Expr} (ha : PPT T μ₀ H₀ X a tt) (hb : PPW T μ₀ H₀ X (.BoolOp .Or (b :: rest) pos) tu) : PPW T μ₀ H₀ X (.BoolOp .Or (a :: b :: rest) pos) (pOrT tt tu) := PW.imp (pw_or ha hb) or_imp
theorem ct_w (h : PPW T μ₀ H₀ X e tt) : PPT T μ₀ H₀ X e tt := PW.pt h
theorem ct_not (ha : PPT T μ₀ H₀ X a tt) : PPT T μ₀ H₀ X (.UnaryOp .Not a pos) (pNotT tt) := PT.imp (pt_not ha) fun σ H Q ⟨ρ, S, μ, R, ok, rv, q, k⟩ =>
  ⟨ρ, S, μ, _, ok, rv, q, fun c S1 q1 H1 μ1 ok1 => k _ S1 q1 H1 μ1 ok1⟩
def pIf (t : PTT) (ta tb : PTE) : PTE := fun ρ S R => t ρ S fun k S1 => if k = true then ta ρ S1 R else tb ρ S1 R
theorem c_if (hc : PPT T μ₀ H₀ X c tt) (ha : PPE T μ₀ H₀ X a ta) (hb : PPE T μ₀ H₀ X b tb) : PPE T μ₀ H₀ X (.IfExp c a b pos) (pIf tt ta tb) := PE.imp (pe_ifExp hc ha hb) fun σ H Q ⟨ρ, S, μ, R, ok, rv, q, k⟩ =>
  ⟨ρ, S, μ, _, ok, rv, q, fun c S1 q1 H1 μ1 ok1 => by
    cases c with
    | true => exact ⟨ρ, S1, μ1, R, ok.trans ok1, ok1.rv rv, q1, fun d S' hd v H' μ' ok' rp => k d S' hd v H' μ' (ok1.trans ok') rp⟩
    | false => exact ⟨ρ, S1, μ1, R, ok.trans ok1, ok1.rv rv, q1, fun d S' hd v H' μ' ok' rp => k d S' hd v H' μ' (ok1.trans ok') rp⟩⟩

/-! ### built-ins by name -/
abbrev PCl := List D → Sto → Post → Prop
def FitsC (K : PySem.W.Frag) (mg : Str → Option Value) (T : TabSet) (r : List V → Hp → VK → Prop) (p : PCl) : Prop := ∀ (μ : List Addr) (H : Hp) (S : Sto) (xs : List D) (vs : List V) (R : Post) (Q : VK), RSt K mg T μ H S → Rps K mg μ H vs xs → p xs S R →
  (∀ d S', R d S' → ∀ v' H' μ', Ok K mg T μ H μ' H' S' → Rp K mg μ' H' v' d → Q v' H') → r vs H Q
def pCall (p : PCl) (t : PTA) : PTE := fun ρ S R => t ρ S fun ds S1 => p ds S1 R
theorem call_imp {r : List V → Hp → VK → Prop} {p : PCl} (hp : FitsC X.K X.mg T r p) : ∀ σ H Q, Emb X.K X.mg T μ₀ H₀ (pCall p t) σ H Q → tCB r (EmbA X.K X.mg T μ₀ H₀ t) σ H Q := fun σ H Q ⟨ρ, S, μ, R, ok, rv, q, k⟩ =>
  ⟨ρ, S, μ, _, ok, rv, q, fun ds S1 q1 vs H1 μ1 ok1 r1 => hp μ1 H1 S1 ds vs R Q ok1.st r1 q1 fun d S' hd v' H' μ' ok' rp => k d S' hd v' H' μ' (ok1.trans ok') rp⟩
theorem c_callB {x : Str} {p : Pos} {id : String} {r : List V → Hp → VK → Prop} {pc : PCl} (hc : CallR X (.builtin id) r) (hp : FitsC X.K X.mg T r pc) (hg : Gl X x) (hm : X.mg x = none) (hv : bootBuiltins x = some (.builtin id)) (ha : PPA T μ₀ H₀ X (e :: es) t)
    (hn : x ≠ "__name__" := by decide) (hdb : (x == ("__debug__" : Str)) = false := by decide)
    (he : starEach (e :: es) X.env = (false, eval e X.env) :: starEach es X.env := by rfl) (hpl : (backTo pos (starEach es X.env)).any (·.1) = false := by rfl) : PPE T μ₀ H₀ X (.Call (.Name x p) (e :: es) [] pos) (pCall pc t) :=
  PE.imp (pe_callB hc hg hm hv ha hn hdb he hpl) (call_imp hp)
theorem c_callTy {x : Str} {p : Pos} {id : String} {r : List V → Hp → VK → Prop} {pc : PCl} (hc : CallR X (.type id) r) (hp : FitsC X.K X.mg T r pc) (hg : Gl X x) (hm : X.mg x = none) (hv : bootBuiltins x = some (.type id)) (ha : PPA T μ₀ H₀ X (e :: es) t)
    (hn : x ≠ "__name__" := by decide) (hdb : (x == ("__debug__" : Str)) = false := by decide)
    (he : starEach (e :: es) X.env = (false, eval e X.env) :: starEach es X.env := by rfl) (hpl : (backTo pos (starEach es X.env)).any (·.1) = false := by rfl) : PPE T μ₀ H₀ X (.Call (.Name x p) (e :: es) [] pos) (pCall pc t) :=
  PE.imp (pe_callTy hc hg hm hv ha hn hdb he hpl) (call_imp hp)
/-- a built-in of a module, by the module's own name -/
theorem c_callF {x : Str} {p : Pos} {id : String} {r : List V → Hp → VK → Prop} {pc : PCl} (hc : CallR X (.builtin id) r) (hp : FitsC X.K X.mg T r pc) (hg : Gl X x) (hm : X.mg x = some (.builtin id)) (ha : PPA T μ₀ H₀ X (e :: es) t)
    (hdb : (x == ("__debug__" : Str)) = false := by decide)
    (he : starEach (e :: es) X.env = (false, eval e X.env) :: starEach es X.env := by rfl) (hpl : (backTo pos (starEach es X.env)).any (·.1) = false := by rfl) : PPE T μ₀ H₀ X (.Call (.Name x p) (e :: es) [] pos) (pCall pc t) :=
  PE.imp (pe_callBfun hc hg hm ha hdb he hpl) (call_imp hp)
def pLen : PCl := fun ds S R => ∃ d xs, ds = [d] ∧ seqOf S d = some xs ∧ R (.int xs.length) S
theorem fit_len : FitsC X.K X.mg T (fun xs H Q => ∃ p ys, xs = [V.ref p] ∧ (SqL X.K H p ys ∨ SqT X.K H p ys) ∧ Q (.int ys.length) H) pLen := by
  intro μ H S xs vs R Q st rs ⟨d, ys, e, hs, h⟩ k
  subst e
  cases rs with
  | cons r1 r2 =>
    cases r2
    obtain ⟨p, ws, rfl, r, q⟩ := rp_seq st r1 hs
    refine ⟨p, ws, rfl, ?_, by rw [r.length]; exact k _ S h _ H μ st.ok (.int _)⟩
    rcases q with ⟨_, q⟩ | ⟨_, q⟩
    · exact .inr q
    · exact .inl q
/-- one int in, a value out -/
def pI1 (g : Int → D) : PCl := fun ds S R => ∃ i, ds = [.int i] ∧ R (g i) S
theorem fit_abs : FitsC X.K X.mg T (fun xs H Q => ∃ i, xs = [V.int i] ∧ Q (.int (if i < 0 then -i else i)) H) (pI1 fun i => .int (if i < 0 then -i else i)) := by
  intro μ H S xs vs R Q st rs ⟨i, e, h⟩ k
  subst e
  cases rs with
  | cons r1 r2 => cases r1; cases r2; exact ⟨i, rfl, k _ S h _ H μ st.ok (.int _)⟩
def pInt : PCl := fun ds S R => (∃ i, ds = [.int i] ∧ R (.int i) S) ∨ ∃ b, ds = [.bl b] ∧ R (.int (if b then 1 else 0)) S
theorem fit_int1 : FitsC X.K X.mg T (fun xs H Q => (∃ i, xs = [V.int i] ∧ Q (.int i) H) ∨ ∃ k, xs = [V.bl k] ∧ Q (.int (if k then 1 else 0)) H) pInt := by
  intro μ H S xs vs R Q st rs h k
  rcases h with ⟨i, e, h⟩ | ⟨i, e, h⟩
  · subst e
    cases rs with
    | cons r1 r2 => cases r1; cases r2; exact .inl ⟨i, rfl, k _ S h _ H μ st.ok (.int _)⟩
  · subst e
    cases rs with
    | cons r1 r2 => cases r1; cases r2; exact .inr ⟨i, rfl, k _ S h _ H μ st.ok (.int _)⟩
def pI2c (g : Int → Int → Int) : PCl := fun ds S R => ∃ i j, ds = [.int i, .int j] ∧ R (.int (g i j)) S
theorem fit_2c {g : Int → Int → Int} : FitsC X.K X.mg T (fun xs H Q => ∃ i j, xs = [V.int i, V.int j] ∧ Q (.int (g i j)) H) (pI2c g) := by
  intro μ H S xs vs R Q st rs ⟨i, j, e, h⟩ k
  subst e
  cases rs with
  | cons r1 r2 =>
    cases r2 with
    | cons r2 r3 => cases r1; cases r2; cases r3; exact ⟨i, j, rfl, k _ S h _ H μ st.ok (.int _)⟩
theorem fit_gcd : FitsC X.K X.mg T rGcd (pI2c fun a b => ((Nat.gcd a.natAbs b.natAbs : Nat) : Int)) := fit_2c
/-- list(..), tuple(..) -/
def pList : PCl := fun ds S R => ∃ d xs, ds = [d] ∧ seqOf S d = some xs ∧ R (.loc S.length) (S ++ [.lst xs])
theorem fit_list : FitsC X.K X.mg T (fun xs H Q => ∃ p ys, xs = [V.ref p] ∧ (SqL X.K H p ys ∨ SqT X.K H p ys) ∧ ∀ l, H l = none → Q (.ref l) (upd H l (.lst ys))) pList := by
  intro μ H S xs vs R Q st rs ⟨d, ys, e, hs, h⟩ k
  subst e
  cases rs with
  | cons r1 r2 =>
    cases r2
    obtain ⟨p, ws, rfl, r, q⟩ := rp_seq st r1 hs
    refine ⟨p, ws, rfl, ?_, fun l hl => k _ _ h _ _ _ (st.ok.newLst hl r) (.loc ?_)⟩
    · rcases q with ⟨_, q⟩ | ⟨_, q⟩
      · exact .inr q
      · exact .inl q
    · rw [← st.len, List.getElem?_append_right (Nat.le_refl _), Nat.sub_self]
      rfl
def pTuple : PCl := fun ds S R => ∃ d xs, ds = [d] ∧ seqOf S d = some xs ∧ R (.tup xs) S
theorem fit_tuple : FitsC X.K X.mg T (fun xs H Q => ∃ p ys, xs = [V.ref p] ∧ ((SqL X.K H p ys ∧ ∀ l, H l = none → Q (.ref l) (upd H l (.tup ys))) ∨ (SqT X.K H p ys ∧ Q (.ref p) H))) pTuple := by
  intro μ H S xs vs R Q st rs ⟨d, ys, e, hs, h⟩ k
  subst e
  cases rs with
  | cons r1 r2 =>
    cases r2
    obtain ⟨p, ws, rfl, r, q⟩ := rp_seq st r1 hs
    refine ⟨p, ws, rfl, ?_⟩
    rcases q with ⟨_, q⟩ | ⟨_, q⟩
    · exact .inr ⟨q, k _ S h _ H μ st.ok (.tup q r)⟩
    · exact .inl ⟨q, fun l hl => k _ S h _ _ _ (st.ok.new hl) (.tup (.inl (.inl upd_same)) ((st.ok.new hl).rps r))⟩
end
end Za

set_option Elab.async false
set_option linter.all false
set_option maxRecDepth 100000
set_option maxHeartbeats 1000000
/-! A generator expression that a built-in eats up: its element may do anything that an expression may (calls, changes of lists). -/
namespace Zg
open PySem PySem.Spec PyProof.Rows L2 GenW

/-- who eats: its own objects, what they say of all that was handed out; which item ends the meal, which items are taken -/
structure Eater where
  SS : List Addr
  CR : List V → Heap → Prop
  stop : V → Bool
  take : V → Prop
structure Eater.Good (e : Eater) : Prop where
  keep : ∀ ys h h', e.CR ys h → (∀ S ∈ e.SS, ∀ o, h.get? S = some o → h'.get? S = some o) → e.CR ys h'
  obj : ∀ ys h, e.CR ys h → ∀ S ∈ e.SS, ∃ o, h.get? S = some o ∧ ∀ v, o.data ≠ .cell v

/-- the expression's own frame -/
abbrev gEnv (X : Cx) (scope : Scope) (C : Addr) (code : Value) (bi : Addr) : Env := genEnv scope (cloFrom X.env.cells scope.names []) C code bi X.env
def gCx (X : Cx) (A : Around) (s : Shared) (H : Hp) (env : Env) (fp : List Addr) (pn : List (Addr × Obj)) : Cx :=
  { X with A := A, s_0 := s, H_0 := H, env := env, outer := X.stack, stack := env :: X.stack, ex := fp, fn := fun _ => false, calm := true, pn := pn, xe := fun _ _ => False }

section
variable {X : Cx} {pins : List (Addr × Obj)} {σ : L2.St} {H : Hp} {s : Shared}
theorem gen_start {A : Around} {s4 : Shared} {scope : Scope} {own : List (Str × Nat)} {fp : List Addr} {C bi : Addr} {code : Value} (I : Inv X pins σ H s) (ok : BlkOk X.N X.env.scope scope own) (hcell : ∀ y ∈ scope.names, y.2 ≠ .cell) (hN : X.N.Nodup)
    (hfp : ∀ b ∈ fp, FpOk X pins H b ∧ b < s.heap.objs.size) (hA : A.handled = none) (hF : A.frames = some (gEnv X scope C code bi :: X.stack)) (hC : C = s.heap.objs.size) (hbi : bi = builtinsNs) (hos : s4.os = s.os) (hb4 : AllBare s4.gens)
    (hk : ∀ b o, s.heap.get? b = some o → s4.heap.get? b = some o) (hn4 : ∃ m, s4.heap.Ns C m) : Inv (gCx X A s H (gEnv X scope C code bi) fp []) [] (wipe σ (own.map (·.2))) H s4 := by
  have hfree : ∀ y ∈ scope.names, y.2 = .free → ∃ c, X.env.cells.lookup y.1 = some c := fun y hy e => by
    rcases ok.free y hy e with z | z
    · exact I.ok.has _ (.inl z)
    · exact I.ok.has _ (.inr z)
  have cm : ∀ {y : Str} {c : Addr}, (y, c) ∈ cloFrom X.env.cells scope.names [] → X.env.cells.lookup y = some c ∧ c < s.heap.objs.size := fun {y c} hm => by
    rcases cloFrom_mem hm with z | ⟨z1, rfl⟩
    · cases z
    · obtain ⟨c', hc'⟩ := hfree _ z1 rfl
      rw [hc']
      obtain ⟨u, z⟩ := I.cell _ _ hc'
      exact ⟨rfl, z.lt⟩
  have cl : ∀ {y : Str} {c : Addr}, (gEnv X scope C code bi).cells.lookup y = some c → X.env.cells.lookup y = some c ∧ c < s.heap.objs.size := fun {y c} e => cm (PySem.mem_of_lookup e)
  have look : ∀ {y : Str}, scope.names.lookup y = some .free → ∃ c, (gEnv X scope C code bi).cells.lookup y = some c ∧ X.env.cells.lookup y = some c := fun {y} e => by
    obtain ⟨c', e'⟩ := mem_lookup (cloFrom_has (cells := X.env.cells) (acc := []) (PySem.mem_of_lookup e))
    exact ⟨c', e', (cm (PySem.mem_of_lookup e')).1⟩
  have okG : (gCx X A s H (gEnv X scope C code bi) fp []).Ok := by
    refine ⟨I.ok.mod, ok.kind, I.ok.glob, hbi, Nat.le_of_eq hC.symm, fun y z c e1 e2 => I.ok.inj y z c (cl e1).1 (cl e2).1, fun y hy => ?_, fun y c z e => ?_, fun _ => hA, hF, .inr ⟨rfl, rfl⟩, fun b hb => ⟨?_, fun y c e z => ?_⟩, I.bs, Nat.le_trans I.ok.bsz I.sz, fun b o e hb => ?_, fun b hb z => ?_, I.stack, I.stkFree⟩
    · rcases hy with hy | hy
      · exact absurd rfl (hcell _ (PySem.mem_of_lookup hy))
      · obtain ⟨c, e, _⟩ := look hy
        exact ⟨c, e⟩
    · cases z
    · show b ≠ C
      rw [hC]; exact Nat.ne_of_lt (hfp b hb).2
    · exact (hfp b hb).1.2.2.2.2.1 y c (cl e).1 z
    · rcases (hfp b hb).1.2.2.2.1 with z | z
      · exact I.ok.noex b o e z
      · exact absurd (Nat.lt_of_lt_of_le (Heap.lt_size e) (Nat.le_trans I.ok.bsz z)) (Nat.lt_irrefl _)
    · rcases List.mem_cons.mp (I.stkSub b z) with z | z
      · exact (hfp b hb).1.2.1 z
      · exact (hfp b hb).1.2.2.1 z
  refine ⟨okG, hos, hb4, Un.kept hk, ?_, fun y c e => ?_, ?_, fun y c e => ?_, fun p hp => ?_, I.hok.kept hk, by rw [wipe_length]; exact I.len⟩
  · obtain ⟨m4, hm4⟩ := hn4
    refine ⟨m4, hm4, fun i y av e1 e2 e3 => ?_⟩
    obtain ⟨e2, hne⟩ := wipe_some e2
    have notOwn : ∀ k, scope.names.lookup y = some k → k = .local ∨ k = .cell → False := fun k e hh => by
      rcases ok.own _ (PySem.mem_of_lookup e) hh with e' | e'
      · obtain ⟨p, hp, hpy⟩ := List.mem_map.mp e'
        have e4 := ok.ix p hp
        have hpy : p.1 = y := hpy
        rw [hpy] at e4
        exact hne (List.mem_map.mpr ⟨p, hp, nodup_ix hN e4 e1⟩)
      · exact e' (List.mem_of_getElem? e1)
    have hfr : scope.names.lookup y = some .free := by
      have e3 : Vis scope y := e3
      rcases e3 with e3 | e3 | e3
      · exact (notOwn _ e3 (.inl rfl)).elim
      · exact (notOwn _ e3 (.inr rfl)).elim
      · exact e3
    obtain ⟨m, hn, hl⟩ := I.loc
    have hvis : Vis X.env.scope y := (ok.free _ (PySem.mem_of_lookup hfr) rfl).elim (fun k => .inr (.inl k)) (fun k => .inr (.inr k))
    obtain ⟨w, r, q⟩ := hl i y av e1 e2 hvis
    refine ⟨w, r, .inr ⟨.inr hfr, ?_⟩⟩
    obtain ⟨c, h1, h2⟩ := look hfr
    rcases q with ⟨k, _⟩ | ⟨_, c', e', z⟩
    · have k : X.env.scope.names.lookup y = some .local := k
      rcases ok.free _ (PySem.mem_of_lookup hfr) rfl with k' | k' <;> rw [show X.env.scope.names.lookup y = _ from k'] at k <;> cases k
    · rw [h2] at e'; cases e'
      exact ⟨c, h1, z.keeps hk⟩
  · obtain ⟨u, z⟩ := I.cell y c (cl e).1
    exact ⟨u, z.keeps hk⟩
  · show H C = none
    rw [hC]; exact I.hok.fresh (Nat.le_refl _)
  · exact I.freeC y c (cl e).1
  · exact absurd (show p ∈ ([] : List (Addr × Obj)) ++ [] from hp) (by simp)
end

/-- running: ys is out -/
structure Meal (X0 : Cx) (e : Eater) (a : Addr) (go : Obj) (cp : List (Addr × Obj)) (ys : List V) (σ : L2.St) (H : Hp) (s : Shared) : Prop where
  inv : Inv X0 ((a, go) :: cp) σ H s
  cr : e.CR ys s.heap
  has : ∀ S ∈ e.SS, ∃ o, (S, o) ∈ cp
  only : ∀ p ∈ cp, p.1 ∈ e.SS
structure Ate (e : Eater) (ys : List V) (x : V) (s s' : Shared) : Prop where
  os : s'.os = s.os
  bare : AllBare s'.gens
  keep : ∀ b o, b ∉ e.SS → s.heap.get? b = some o → s'.heap.get? b = some o
  cr : e.CR (ys ++ [x]) s'.heap
/-- the eater's objects stand apart -/
structure GApart (X0 : Cx) (e : Eater) (a : Addr) (fp : List Addr) : Prop where
  good : e.Good
  ss : ∀ S ∈ e.SS, X0.s_0.heap.objs.size ≤ S ∧ S ≠ X0.env.locals ∧ (∀ x c, X0.env.cells.lookup x = some c → c ≠ S) ∧ S ≠ a
  aa : X0.s_0.heap.objs.size ≤ a
  fpb : ∀ b ∈ fp, b < X0.s_0.heap.objs.size
  ex : X0.ex = fp
  pn : X0.pn = []
section
variable {X0 : Cx} {e : Eater} {a : Addr} {go : Obj} {cp : List (Addr × Obj)} {ys : List V} {σ : L2.St} {H : Hp} {s s' : Shared} {fp : List Addr}
theorem Meal.free (M : Meal X0 e a go cp ys σ H s) {S : Addr} (h : S ∈ e.SS) : H S = none ∧ S ∉ X0.fs := by
  obtain ⟨o, ho⟩ := M.has S h
  obtain ⟨_, h2, _, h4, _⟩ := M.inv.pin (S, o) (List.mem_append_right _ (List.mem_cons_of_mem _ ho))
  exact ⟨h2, h4⟩
theorem Meal.woken (hA : GApart X0 e a fp) (M : Meal X0 e a go cp ys σ H s) {x : V} (z : Ate e ys x s s') : ∃ cp', Meal X0 e a go cp' (ys ++ [x]) σ H s' := by
  have I0 : Inv X0 [(a, go)] σ H s := M.inv.pins_of fun p hp => M.inv.pin p (List.mem_append_right _ (by rw [List.mem_singleton.mp hp]; exact List.mem_cons_self))
  obtain ⟨z1, z2, z3, z4⟩ := z
  obtain ⟨hh, g, d, t, o⟩ := s'
  have ho : o = s.os := z1
  subst ho
  have nS : ∀ b u, H b = some u → b ∉ e.SS := fun b u q hb => by
    rw [(M.free hb).1] at q; cases q
  have hpn : ∀ S ∈ e.SS, ∀ p ∈ X0.pn ++ [(a, go)], p.1 ≠ S := fun S hS p hp => by
    rw [hA.pn, List.nil_append, List.mem_singleton] at hp
    rw [hp]
    exact Ne.symm (hA.ss S hS).2.2.2
  have nL : X0.env.locals ∉ e.SS := fun h => (hA.ss _ h).2.1 rfl
  have J : Inv X0 [(a, go)] σ H { s with heap := hh, gens := g, drawn := d, toks := t } := by
    refine I0.step (g' := g) (t' := t) (d' := d) (ch := e.SS) (fun b hb => ⟨.inr (hA.ss b hb).1, (hA.ss b hb).2.1, (hA.ss b hb).2.2.1, hpn b hb⟩)
      (fun b ob _ _ hc q _ => z3 b ob hc q) (fun b ob _ _ hc q _ => ⟨ob.slots, z3 b ob hc q⟩) (fun _ _ _ _ n => n) (fun b ob hc q => ⟨ob, z3 b ob hc q⟩)
      (fun _ _ q => q) (fun _ _ _ q => q) (fun b ps q => ⟨#[], by rw [q]; simp⟩) (fun m hm => ?_) (fun b u q => ?_) z2
    · obtain ⟨ob, es, ep, ho, r⟩ := hm
      exact ⟨ob, es, ep, z3 _ ob nL ho, r⟩
    · refine (I0.hok b u q).stay (fun c v hc y => z3 c v ?_ y) (fun _ y => y) fun _ _ y => y
      rcases hc with y | y
      · rw [y]; exact nS b u q
      · exact nS c _ y
  have J2 := J.pinned (fp := e.SS) (fun S hS => ⟨(M.free hS).1, (hA.ss S hS).2.1, (M.free hS).2, .inr (hA.ss S hS).1, (hA.ss S hS).2.2.1, hpn S hS⟩) (hA.good.obj _ _ z4)
  refine ⟨pinsAt e.SS hh, J2, z4, fun S hS => ?_, fun p hp => (of_pinsAt hp).1⟩
  obtain ⟨ob, h1, _⟩ := hA.good.obj _ _ z4 S hS
  exact ⟨ob, mem_pinsAt hS h1⟩
/-- the generator runs on: what the eater has stays -/
theorem Meal.run (hA : GApart X0 e a fp) (M : Meal X0 e a go cp ys σ H s) {pl : List (Addr × Obj)} {σ' : L2.St} {H' : Hp} (I : Inv X0 (((a, go) :: cp) ++ pl) σ' H' s') : Meal X0 e a go cp ys σ' H' s' := by
  refine ⟨I.unpinned, hA.good.keep ys _ _ M.cr fun S hS o q => ?_, M.has, M.only⟩
  obtain ⟨o', ho⟩ := M.has S hS
  have h1 := (M.inv.pin (S, o') (List.mem_append_right _ (List.mem_cons_of_mem _ ho))).1
  have h2 := (I.pin (S, o') (List.mem_append_right _ (List.mem_append_left _ (List.mem_cons_of_mem _ ho)))).1
  rw [q] at h1
  cases h1
  exact h2

theorem Meal.stays (hA : GApart X0 e a fp) (M : Meal X0 e a go cp ys σ H s) {pl : List (Addr × Obj)} {σ' : L2.St} {H' : Hp} (I : Inv X0 (((a, go) :: cp) ++ pl) σ' H' s') : ∀ S ∈ e.SS, ∀ o, s.heap.get? S = some o → s'.heap.get? S = some o := fun S hS o q => by
  obtain ⟨o', ho⟩ := M.has S hS
  have h1 := (M.inv.pin (S, o') (List.mem_append_right _ (List.mem_cons_of_mem _ ho))).1
  have h2 := (I.pin (S, o') (List.mem_append_right _ (List.mem_append_left _ (List.mem_cons_of_mem _ ho)))).1
  rw [q] at h1
  cases h1
  exact h2
/-- all that was handed out, at the end of the meal -/
def Fin (X0 : Cx) (e : Eater) (Q : List V → Hp → Prop) (ys : List V) (s : Shared) : Prop := ∃ pins σ H, Inv X0 pins σ H s ∧ (∀ S ∈ e.SS, H S = none) ∧ Q ys H
/-- the eater's objects stand -/
def Stays (e : Eater) (s s1 : Shared) : Prop := ∀ S ∈ e.SS, ∀ o, s.heap.get? S = some o → s1.heap.get? S = some o
def RZ (X0 : Cx) (e : Eater) (a : Addr) (go : Obj) (Q : List V → Hp → Prop) (n : Nat) (s₀ s1 : Shared) : Prop := ∃ ys, n + ys.length = sizeLine ∧ e.CR ys s1.heap ∧ Fin X0 e Q ys s1 ∧ s1.heap.get? a = some go ∧ Stays e s₀ s1
def YZ (X0 : Cx) (e : Eater) (a : Addr) (go : Obj) (Q : List V → Hp → Prop) : Protocol := fun n s₀ v s1 kap => Stays e s₀ s1 ∧ ∃ ys x, n + 1 + ys.length = sizeLine ∧ RelV x v ∧ e.take x ∧ e.CR ys s1.heap ∧ s1.heap.get? a = some go ∧ AllBare s1.gens ∧ s1.heap.NoLimit ∧ s1.os = X0.s_0.os ∧
  (e.stop x = true → Fin X0 e Q (ys ++ [x]) s1) ∧ (e.stop x = false → ∀ s', Ate e ys x s1 s' → kap (.send .none) s')

/-- a turn's reading -/
def GTurn (e : Eater) (J : It) (g : TG) (tt : TT) (te : TE) (vs : List Nat) (σ0 : L2.St) (Q : List V → Hp → Prop) (W : Nat → Nat → List V → Hp → Prop) : Prop := ∀ i m ys H, W i m ys H →
  (J.stop i H ∧ Q ys H) ∨ (J.go i H ∧ ∃ Nx : List V → Hp → Prop, (∀ zs H', Nx zs H' → ∃ m', m' < m ∧ W (i + 1) m' zs H') ∧ ∀ x H', J.yld i H x H' → g x σ0 H' fun σ2 H2 => wipe σ2 vs = σ0 ∧ tt σ2 H2 fun b H3 =>
    if b = true then te σ2 H3 fun y H4 => ys.length < sizeLine ∧ e.take y ∧ (if e.stop y = true then Q (ys ++ [y]) H4 else Nx (ys ++ [y]) H4) else Nx ys H3)
theorem seg_eat {A : Around} {elt tg iter : Expr} {ifs : List Expr} {scope : Scope} {gpos : Pos} {J : It} {it : Addr} {tn : Nat → Heap → Prop} {g : TG} {tt : TT} {te : TE} {vs : List Nat} {σ0 : L2.St} {Q : List V → Hp → Prop} {W : Nat → Nat → List V → Hp → Prop}
    (hA : GApart X0 e a fp) (hc : X0.calm = true) (hxe : X0.xe = fun _ _ => False) (T : Turn X0.prog X0.w X0.K tg J fp it tn) (pg : PG X0 tg g) (pt : PTs X0 ifs tt) (pe : PE X0 elt te) (hco : X0.env.scope.isCoroutine = false)
    (hov : A.over (.compLoop (.GeneratorExp elt [⟨tg, iter, ifs, 0⟩] scope gpos) 0 (.ref it) .none X0.env) [] = X0.A) (turn : GTurn e J g tt te vs σ0 Q W) :
    ∀ (m i n : Nat) (ys : List V) (cp : List (Addr × Obj)) (s₀ s : Shared) (H : Hp), W i m ys H → Meal X0 e a go cp ys σ0 H s → tn i s.heap → (∀ b ∈ fp, H b = none) → n + ys.length = sizeLine → Stays e s₀ s →
      Seg (model X0.prog X0.w) A (fun n s₀ r s1 => r = .ok .next ∧ RZ X0 e a go Q n s₀ s1) (YZ X0 e a go Q) n s₀ (.compLoop (.GeneratorExp elt [⟨tg, iter, ifs, 0⟩] scope gpos) 0 (.ref it) .none X0.env)
        ((model X0.prog X0.w).den (.compLoop (.GeneratorExp elt [⟨tg, iter, ifs, 0⟩] scope gpos) 0 (.ref it) .none X0.env)) [] s := by
  have noE : ∀ {α : Type} {t : Sem α} {Q' Q2 : α → Shared → Prop} {E : Value → Shared → Prop} {s : Shared}, wpAny (model X0.prog X0.w) X0.A t Q' X0.xe s → (∀ v s', Q' v s' → Q2 v s') → wpAny (model X0.prog X0.w) X0.A t Q2 E s := fun h q =>
    wpAny_mono h q fun _ _ z => by rw [hxe] at z; exact z.elim
  intro m
  induction m using Nat.strongRecOn with
  | ind m ih =>
    intro i n ys cp s₀ s H w M st nf hn hz
    have stat : ∀ {pl : List (Addr × Obj)} {σ' : L2.St} {H' : Hp} {s' : Shared}, Inv X0 ((a, go) :: cp) σ' H' s' → (∀ b ∈ fp, H' b = none) → ∀ b ∈ fp, FpOk X0 ((a, go) :: cp) H' b := fun {pl σ' H' s'} I' hnb b hb =>
      ⟨hnb b hb, (I'.ok.exf b (by rw [hA.ex]; exact hb)).1, I'.ok.exfs b (by rw [hA.ex]; exact hb), .inl (by rw [hA.ex]; exact hb), fun x c q => (I'.ok.exf b (by rw [hA.ex]; exact hb)).2 x c q, fun p hp => by
        have hlt := hA.fpb b hb
        rw [hA.pn, List.nil_append] at hp
        rcases List.mem_cons.mp hp with z | z
        · rw [z]
          intro q
          have q : a = b := q
          rw [← q] at hlt
          exact absurd (Nat.lt_of_lt_of_le hlt hA.aa) (Nat.lt_irrefl _)
        · intro q
          have h2 := (hA.ss p.1 (M.only p z)).1
          rw [q] at h2
          exact absurd (Nat.lt_of_lt_of_le hlt h2) (Nat.lt_irrefl _)⟩
    show Seg _ A _ _ _ s₀ _ ((compTurn (.GeneratorExp elt [⟨tg, iter, ifs, 0⟩] scope gpos) 0 (.ref it) .none X0.env).onRaise (leaving X0.env)) [] s
    rw [compTurn_gen, Sem.onRaise_eq_wrap]
    refine seg_bind_wrap (wpAny_standAt ?_)
    rcases turn i m ys H w with ⟨stop, qq⟩ | ⟨gogo, Nx, hNx, step⟩
    · refine seg_bind_wrap ?_
      rw [hov]
      refine wpAny_mono (T.done X0 rfl rfl rfl hc i _ s _ H (fun _ _ => False) M.inv (stat (pl := []) M.inv nf) st stop) (fun r s6 ⟨hr, I6⟩ => ?_) fun _ _ z => z.elim
      subst hr
      have M6 : Meal X0 e a go cp ys σ0 H s6 := M.run hA (pl := []) (by rw [List.append_nil]; exact I6)
      exact seg_end (.ok .next) ⟨rfl, ys, hn, M6.cr, ⟨_, _, H, I6, fun S hS => (M6.free hS).1, qq⟩, (I6.pin (a, go) (List.mem_append_right _ List.mem_cons_self)).1, fun S hS o q => M.stays hA (pl := []) (by rw [List.append_nil]; exact I6) S hS o (hz S hS o q)⟩
    · refine seg_bind_wrap ?_
      rw [hov]
      refine wpAny_mono (T.item X0 rfl rfl rfl hc i _ s _ H (fun _ _ => False) M.inv (stat (pl := []) M.inv nf) st gogo) (fun r s6 ⟨u, hr, h6⟩ => ?_) fun _ _ z => z.elim
      subst hr
      refine seg_bind_wrap ?_
      rw [hov]
      refine wpAny_mono h6 (fun _ s7 ⟨x, H7, I7, r7, y7, st7, n7⟩ => ?_) fun _ _ z => z.elim
      have I7' := I7.pinned (stat (pl := []) I7 n7) (T.obj _ _ st7)
      refine seg_bind_wrap ?_
      rw [hov]
      refine noE (pg.run _ s7 _ H7 x u _ I7' r7 (step x H7 y7)) fun _ s8 ⟨σ8, H8, I8, hw8, q8⟩ => ?_
      refine seg_bind_wrap ?_
      rw [hov]
      refine noE (pt.run _ s8 σ8 H8 _ I8 q8) fun b s9 ⟨H9, I9, q9⟩ => ?_
      -- the turn's end: again the loop
      have pinF : ∀ {s' : Shared} {σ' : L2.St} {H' : Hp}, Inv X0 (((a, go) :: cp) ++ pinsAt fp s7.heap) σ' H' s' → (∀ b ∈ fp, ∀ o, s7.heap.get? b = some o → s'.heap.get? b = some o) ∧ ∀ b ∈ fp, H' b = none := fun {s' σ' H'} I' =>
        ⟨fun b hb o q => (I'.pin (b, o) (List.mem_append_right _ (List.mem_append_right _ (mem_pinsAt hb q)))).1, fun b hb => by
          obtain ⟨o, q, _⟩ := T.obj _ _ st7 b hb
          exact (I'.pin (b, o) (List.mem_append_right _ (List.mem_append_right _ (mem_pinsAt hb q)))).2.1⟩
      have lw : σ0.length = σ8.length := by rw [← hw8, wipe_length]
      have wk : ∀ (j : Nat) v, σ0[j]? = some (some v) → σ8[j]? = some (some v) := fun j v q => by
        rw [← hw8] at q
        exact (wipe_some q).1
      cases b with
      | false =>
        have q9 : Nx ys H9 := q9
        obtain ⟨m', hm, w'⟩ := hNx _ _ q9
        obtain ⟨f1, f2⟩ := pinF I9
        simp only [Bool.false_eq_true, if_false]
        exact seg_again rfl (ih m' hm (i + 1) n ys cp s₀ s9 H9 w' (M.run hA (I9.weak lw wk)) (T.keep _ _ _ st7 f1) f2 hn fun S hS o q => M.stays hA I9 S hS o (hz S hS o q))
      | true =>
        have q9 : te σ8 H9 fun y H4 => ys.length < sizeLine ∧ e.take y ∧ (if e.stop y = true then Q (ys ++ [y]) H4 else Nx (ys ++ [y]) H4) := q9
        simp only [if_true]
        have hy : ∀ v, yieldOut X0.env v = yieldValue v := fun v => by simp only [yieldOut, hco, Bool.false_eq_true, if_false]
        simp only [hy]
        rw [Sem.bind_eq_wrap', Sem.bind_eq_wrap', Sem.wrap_wrap, Sem.wrap_wrap]
        refine seg_wrap ?_
        rw [hov]
        refine noE (pe.run _ s9 σ8 H9 _ I9 q9) fun v s10 ⟨y, H10, I10, r10, hlt, tk, q10⟩ => ?_
        obtain ⟨n, rfl⟩ : ∃ k, n = k + 1 := ⟨n - 1, by omega⟩
        obtain ⟨f1, f2⟩ := pinF I10
        have M10 := M.run hA I10
        refine seg_at (seg_yield rfl rfl rfl ⟨fun S hS o q => M.stays hA I10 S hS o (hz S hS o q), ys, y, hn, r10, tk, M10.cr, (I10.pin (a, go) (List.mem_append_right _ List.mem_cons_self)).1, I10.bare, I10.nolimit, I10.os, fun hs => ?_, fun hs s' z => ?_⟩)
        · rw [if_pos hs] at q10
          exact ⟨_, _, H10, I10, fun S hS => (M10.free hS).1, q10⟩
        · rw [if_neg (by rw [hs]; exact Bool.false_ne_true)] at q10
          obtain ⟨m', hm, w'⟩ := hNx _ _ q10
          obtain ⟨cp', M'⟩ := (M.run hA (I10.weak lw wk)).woken hA z
          refine seg_again rfl (ih m' hm (i + 1) n (ys ++ [y]) cp' s' s' H10 w' M' (T.keep _ _ _ st7 fun b hb o q => z.keep b o (fun hS => ?_) (f1 b hb o q)) f2 (by rw [List.length_append, List.length_singleton]; omega) fun _ _ _ q => q)
          exact absurd (Nat.lt_of_lt_of_le (hA.fpb b hb) (hA.ss b hS).1) (Nat.lt_irrefl _)
end

/-! ### the generator laid -/
theorem over_hd {B : Around} {c : Code} : (B.over c []).handled = B.handled := rfl
theorem over_fr {B : Around} {elt tg iter : Expr} {ifs : List Expr} {scope : Scope} {gpos : Pos} {it : Addr} {env : Env} {l : List Env} (h : B.frames = some l) :
    (B.over (.compLoop (.GeneratorExp elt [⟨tg, iter, ifs, 0⟩] scope gpos) 0 (.ref it) .none env) []).frames = some (env :: l) := by
  show pushEnvs [env] (pushEnvs [] B.frames) = _
  rw [h]
  rfl
theorem over_room {k : Nat} {B : Around} {elt tg iter : Expr} {ifs : List Expr} {scope : Scope} {gpos : Pos} {it : Addr} {env : Env} (h : Room (k + 1) B) :
    Room k (B.over (.compLoop (.GeneratorExp elt [⟨tg, iter, ifs, 0⟩] scope gpos) 0 (.ref it) .none env) []) := by
  refine ⟨h.hd, ?_, ?_⟩
  · have := h.dp
    show B.depth + 0 + 1 + 3 * k + 5 < _
    omega
  · have := h.un
    show B.units + 0 + 3 + 16 * k + 200 < _
    omega

theorem over_gd {B : Around} {elt tg iter : Expr} {ifs : List Expr} {scope : Scope} {gpos : Pos} {it : Addr} {env : Env} :
    (B.over (.compLoop (.GeneratorExp elt [⟨tg, iter, ifs, 0⟩] scope gpos) 0 (.ref it) .none env) []).guards = B.guards := by
  show pushGuards [] (pushGuards [] B.guards) = B.guards
  simp only [pushGuards_eq]
  cases B.guards <;> rfl

theorem seg_begin {P : Program} {w : World} {A : Around} {R : GenEnd} {Y : Protocol} {n : Nat} {s₀ s : Shared} {elt tg iter : Expr} {ifs : List Expr} {scope : Scope} {gpos : Pos} {it : Addr} {cenv : Env}
    (self : ∀ (A' : Around) (Q : Value → Shared → Prop) (E : Value → Shared → Prop), Q (.ref it) s → wpAny (model P w) A' (pyIter (.ref it)) Q E s)
    (loop : Seg (model P w) A R Y n s₀ (.compLoop (.GeneratorExp elt [⟨tg, iter, ifs, 0⟩] scope gpos) 0 (.ref it) .none cenv) ((model P w).den (.compLoop (.GeneratorExp elt [⟨tg, iter, ifs, 0⟩] scope gpos) 0 (.ref it) .none cenv)) [] s) :
    Seg (model P w) A R Y n s₀ (.compStart (.GeneratorExp elt [⟨tg, iter, ifs, 0⟩] scope gpos) 0 (.ref it) .none cenv) ((model P w).den (.compStart (.GeneratorExp elt [⟨tg, iter, ifs, 0⟩] scope gpos) 0 (.ref it) .none cenv)) [] s := by
  show Seg _ A _ _ _ s₀ _ ((compStart (.GeneratorExp elt [⟨tg, iter, ifs, 0⟩] scope gpos) 0 (.ref it) .none cenv).onRaise (leaving cenv)) [] s
  unfold compStart
  rw [Sem.onRaise_eq_wrap]
  show Seg _ A _ _ _ s₀ _ ((ask >>= _).wrap _ _ _ _) [] s
  refine seg_bind_wrap (wpAny_askSetting ?_)
  split
  · exact seg_again rfl loop
  · refine seg_bind_wrap (wpAny_rule ?_)
    show Seg _ A _ _ _ s₀ _ ((standAt iter.pos >>= _).wrap _ _ _ _) [] s
    exact seg_bind_wrap (wpAny_standAt (seg_bind_wrap (self _ _ _ (seg_again rfl loop))))

abbrev bC (X : Cx) (scope : Scope) (C : Addr) (code : Value) := gEnv X scope C code builtinsNs
structure Laid (X : Cx) (pins : List (Addr × Obj)) (σ : L2.St) (H : Hp) (elt tg iter : Expr) (ifs : List Expr) (scope : Scope) (gpos : Pos) (J : It) (it : Addr) (fp : List Addr) (tn : Nat → Heap → Prop) (C : Addr) (code : Value) (go : Obj) (a g : Nat) (s4 s : Shared) : Prop where
  inv : Inv X pins σ H s4
  trn : Turn X.prog X.w X.K tg J fp it tn
  st : tn 0 s4.heap
  fpo : ∀ b ∈ fp, FpOk X pins H b ∧ b < s4.heap.objs.size
  cc : C = s4.heap.objs.size
  ca : C < a
  sz : s.heap.objs.size = a + 1
  kp : ∀ b o, s4.heap.get? b = some o → s.heap.get? b = some o
  ns : ∃ m, s.heap.Ns C m
  gobj : s.heap.get? a = some go
  gen : ∃ nm qn, go.cls = .type "generator" ∧ go.data = .fields #[.int g 0, nm, qn] ∧ go.slots = #[]
  gens : s.gens = s4.gens.push (.fresh (.compStart (.GeneratorExp elt [⟨tg, iter, ifs, 0⟩] scope gpos) 0 (.ref it) .none (bC X scope C code)))
  gg : g = s4.gens.size
  os : s.os = s4.os

section
variable {X : Cx} {pins : List (Addr × Obj)} {σ : L2.St} {H : Hp} {s : Shared} {elt tg iter : Expr} {ifs : List Expr} {scope : Scope} {gpos : Pos} {own : List (Str × Nat)}
theorem gen_laid {c P : Addr} {k : Nat} {wi : TI} {R : It → Hp → Prop} {Q' : Value → Shared → Prop} (hr : Room k X.A) (TB : GxR.TabB X.base X.mg c P) (hcode : X.env.code = .ref c) (ok : BlkOk X.N X.env.scope scope own) (hcell : ∀ y ∈ scope.names, y.2 ≠ .cell)
    (h0 : scope.names.lookup (".0" : Str) = some NameKind.local) (hco : scope.isCoroutine = false) (hi : PI X tg iter wi) (hs : ∀ v, genFold iter X.env v = pure v) (I : Inv X pins σ H s)
    (h : wi σ H fun J H1 => GxR.TabG H1 P ∧ ∀ H2, GxR.Tabbed P H1 H2 → R J H2)
    (hQ : ∀ J H2 it fp tn C code go a g s4 s5, Laid X pins σ H2 elt tg iter ifs scope gpos J it fp tn C code go a g s4 s5 → R J H2 → Q' (.ref a) s5) :
    wpAny (model X.prog X.w) X.A (eval (.GeneratorExp elt [⟨tg, iter, ifs, 0⟩] scope gpos) X.env) Q' X.xe s := by
  have hfree : ∀ y ∈ scope.names, y.2 = .free → ∃ c, X.env.cells.lookup y.1 = some c := fun y hy e => by
    rcases ok.free y hy e with z | z
    · exact I.ok.has _ (.inl z)
    · exact I.ok.has _ (.inr z)
  refine wpAny_GeneratorExp_make hco (closure_ok hfree) hcell h0 ok.kind (by have := hr.dp; omega) ?_ hs
  refine wpAny_mono (hi.run pins s σ H _ I h) (fun xv s1 h1 => wpAny_mono h1 (fun itv s2 h2 => ?_) fun _ _ z => z) fun _ _ z => z
  obtain ⟨it, fp, tn, J, H1, rfl, I2, T, st, hf, ⟨ps, hP, ht⟩, hR⟩ := h2
  have hPs : s2.heap.get? P = some { cls := .none, data := .fields ps } := I2.hok P _ hP
  have cd : PySem.W.CodeHd s2.heap c P := TB.code.keeps fun b u e => I2.bk b u e
  have cont : ∀ (code : Value) (h3 : Heap) (tk : Nat) (ps' : Array Value), Heap.ExtBut P s2.heap h3 → h3.get? P = some { cls := .none, data := .fields ps' } → (∃ more, ps' = ps ++ more) → TriplesOk ps'.toList →
      wpAny (model X.prog X.w) X.A (builtinsFor X.env.globals X.env.builtins) (fun bi s₄ => ∀ h', h'.Ns s₄.heap.objs.size (fun y => if y = ".0" then some (.ref it) else none) →
          Heap.SameBut s₄.heap.objs.size (s₄.heap.push { cls := .type "frame", data := .dict #[] }) h' →
          Q' (.ref h'.objs.size) { s₄ with
            gens := s₄.gens.push (.fresh (.compStart (.GeneratorExp elt [⟨tg, iter, ifs, 0⟩] scope gpos) 0 (.ref it) .none (genEnv scope (cloFrom X.env.cells scope.names []) s₄.heap.objs.size code bi X.env))),
            toks := s₄.toks + 1 + 1 + 1,
            heap := h'.push { cls := .type "generator", data := .fields #[.int s₄.gens.size 0, .str "<genexpr>" (s₄.toks + 1), .str (X.env.qual ++ "<genexpr>") (s₄.toks + 1 + 1)] } }) X.xe { s2 with heap := h3, toks := tk } := by
    intro code h3 tk ps' hx hP3 hmore ht3
    obtain ⟨bm, ob, e1, e2, e3, e4, e5, e6, e7, e8⟩ := TB.bm
    obtain ⟨more, em⟩ := hmore
    have J4 : Inv X pins σ (upd H1 P (.tbl (ps ++ more))) { s2 with heap := h3, gens := s2.gens, drawn := s2.drawn, toks := tk } := GxR.inv_tab I2 hP (fun b u hb e => hx b u hb e) (by rw [← em]; exact hP3) I2.bare
    refine wpAny_builtinsFor (m := X.mg) (by rw [I2.ok.glob]; exact (I2.mod.glob.keeps I2.bk).extBut hx TB.gP) e1 e2 (hx _ _ e4 (I2.bk _ _ e5)) e6 e7 e8 ?_
    intro h' hn' hs'
    have keep' : ∀ b o, h3.get? b = some o → h'.get? b = some o := fun b o e => hs'.extBut b o (Nat.ne_of_lt (Heap.lt_size e)) (Heap.get?_push_of_some _ e)
    have hsz : h'.objs.size = h3.objs.size + 1 := by rw [hs'.1, Heap.size_push]
    have nP : ∀ b ∈ fp, b ≠ P := fun b hb z => by
      have q := (hf b hb).1
      rw [z, hP] at q
      cases q
    refine hQ J (upd H1 P (.tbl (ps ++ more))) it fp tn _ code { cls := .type "generator", data := .fields #[.int s2.gens.size 0, .str "<genexpr>" (tk + 1), .str (X.env.qual ++ "<genexpr>") (tk + 1 + 1)] } h'.objs.size s2.gens.size
      { s2 with heap := h3, toks := tk } _ ⟨J4, T, T.keep _ _ _ st fun b hb o e => hx b o (nP b hb) e, fun b hb => ?_, rfl, by rw [hsz]; exact Nat.lt_succ_self _, by rw [Heap.size_push], fun b o e => Heap.get?_push_of_some _ (keep' b o e), ⟨_, hn'.push _⟩,
        Heap.get?_push_size _ rfl, ⟨_, _, rfl, rfl, rfl⟩, rfl, rfl, rfl⟩ (hR _ ⟨⟨ps ++ more, upd_same, by rw [← em]; exact ht3⟩, fun b hb => upd_ne hb⟩)
    obtain ⟨f0, f1, f2, f3, f4, f5⟩ := hf b hb
    obtain ⟨o, e, _⟩ := T.obj _ _ st b hb
    exact ⟨⟨by rw [upd_ne (nP b hb)]; exact f0, f1, f2, f3, f4, f5⟩, Heap.lt_size (hx b o (nP b hb) e)⟩
  refine ⟨I2.nolimit, ?_⟩
  cases hfc : codeAmong gpos ps.toList with
  | none =>
    refine wpAny_genexprCodeX hcode (cd.code hPs ht) (cd.tab hPs) hfc fun c' h' tk hx hge hlt hco' _ htab' _ => ?_
    obtain ⟨o1, vs, f1, tf, fl, tg, inF, tx, tt, op, _, _, _, _, _, _, _, _, _, htr, _⟩ := hco'
    exact cont _ h' tk _ hx htab'.2 ⟨_, rfl⟩ htr
  | some cv =>
    refine wpAny_genexprCode_hit hcode (cd.code hPs ht) hfc ?_
    exact cont cv s2.heap s2.toks ps (Heap.ExtBut.refl _ _) hPs ⟨#[], by simp⟩ ht
end
end Zg

set_option Elab.async false
set_option linter.all false
set_option maxRecDepth 100000
set_option maxHeartbeats 1000000
/-! The meal itself: tuple(..), all(..), any(..), sum(..) of a generator expression. -/
namespace Zg
open PySem PySem.Spec PyProof.Rows L2 GenW

/-- it waits for its next item -/
def Going (B : Around) (X0 : Cx) (e : Eater) (a : Addr) (g : Nat) (go : Obj) (Q : List V → Hp → Prop) (n : Nat) (s : Shared) : Prop :=
  s.heap.IsGen a g ∧ s.heap.get? a = some go ∧ s.heap.NoLimit ∧ ∃ gs, s.gens[g]? = some gs ∧
    gs.Goes (model X0.prog X0.w) B (fun n s₀ r s₁ => r = .ok .next ∧ RZ X0 e a go Q n s₀ s₁) (YZ X0 e a go Q) n (.send .none) (s.setGen g .running)

section
variable {X0 : Cx} {e : Eater} {a : Addr} {g : Nat} {go : Obj} {Q : List V → Hp → Prop} {n : Nat} {s : Shared} {A : Around} {fp : List Addr}
theorem Inv.same {X : Cx} {pins : List (Addr × Obj)} {σ : L2.St} {H : Hp} {s s' : Shared} (I : Inv X pins σ H s) (k : ∀ b o, s.heap.get? b = some o → s'.heap.get? b = some o) (os : s'.os = s.os) (hb : AllBare s'.gens) : Inv X pins σ H s' :=
  I.call' (ch := []) os (Un.kept k) (I.hok.kept k) hb fun b z => by simp at z
theorem Fin.same {ys : List V} {s s' : Shared} (h : Fin X0 e Q ys s) (k : ∀ b o, s.heap.get? b = some o → s'.heap.get? b = some o) (os : s'.os = s.os) (hb : AllBare s.gens → AllBare s'.gens) : Fin X0 e Q ys s' := by
  obtain ⟨pins, σ, H, I, q⟩ := h
  exact ⟨pins, σ, H, Inv.same I k os (hb I.bare), q⟩
theorem Fin.bare {ys : List V} {s : Shared} (h : Fin X0 e Q ys s) : AllBare s.gens := by
  obtain ⟨pins, σ, H, I, q⟩ := h
  exact I.bare

/-- what an item brings -/
structure Item (A : Around) (X0 : Cx) (e : Eater) (a : Addr) (g : Nat) (go : Obj) (Q : List V → Hp → Prop) (n : Nat) (ys : List V) (x : V) (s' : Shared) : Prop where
  room : ys.length < sizeLine
  cr : e.CR ys s'.heap
  take : e.take x
  bare : AllBare s'.gens
  nol : s'.heap.NoLimit
  os : s'.os = X0.s_0.os
  stop : e.stop x = true → Fin X0 e Q (ys ++ [x]) s'
  more : e.stop x = false → ∀ s'', s''.gens = s'.gens → s''.os = s'.os → (∀ b o, b ∉ e.SS → s'.heap.get? b = some o → s''.heap.get? b = some o) → e.CR (ys ++ [x]) s''.heap → ∃ m, n = m + 1 ∧ Going A.in1 X0 e a g go Q m s''
theorem next_eat (hA : GApart X0 e a fp) (hh : A.handled = none) (hroom : A.depth < recursionLimit) (hcs : cStatics ∉ e.SS) (G : Going A.in1 X0 e a g go Q n s) {Qp : Option Value → Shared → Prop} {E : Value → Shared → Prop}
    (hI : ∀ ys x v s', RelV x v → Item A X0 e a g go Q n ys x s' → Stays e s s' → Qp (some v) s') (hD : ∀ ys s', ys.length ≤ sizeLine → e.CR ys s'.heap → Fin X0 e Q ys s' → Stays e s s' → Qp none s') :
    wpAny (model X0.prog X0.w) A (pyNext (.ref a)) Qp E s := by
  obtain ⟨hg, hgo', hl, gs, hgs, hgo⟩ := G
  have haS : a ∉ e.SS := fun h => (hA.ss a h).2.2.2 rfl
  have hgl : g < s.gens.size := (Array.getElem?_eq_some_iff.mp hgs).1
  refine wpAny_gsz (n := g + 1) hgl (wpAny_pyNext_genexpQ (P := RZ X0 e a go Q) hh hl hroom hg hgs hgo (fun v s₁ gs' hb hv => ?_) fun s₁ hp h' hk => ?_)
  · intro hsz
    obtain ⟨hsy, ys, x, hn, r, tk, cr, hga, hb1, hl1, os1, hst, hmr⟩ := hv
    have hn' : (n - 1) + 1 + ys.length = sizeLine := hn
    refine hI ys x v _ r ⟨by omega, cr, tk, allBare_setGen hb1 hb, hl1, os1, fun hs => (hst hs).same (fun _ _ z => z) rfl fun hb1 => allBare_setGen hb1 hb, fun hs s'' hg'' os'' kp cr' => ?_⟩ hsy
    have hsz1 : g < s₁.gens.size := by
      have q : (s₁.setGen g gs').gens.size = s₁.gens.size := setGen_size _ _ _
      have hsz' : g + 1 ≤ (s₁.setGen g gs').gens.size := hsz
      omega
    have bare'' : AllBare s''.gens := by rw [hg'']; exact allBare_setGen hb1 hb
    have kap := hmr hs (s''.setGen g .running) ⟨os'', allBare_setGen bare'' rfl, kp, cr'⟩
    cases n with
    | zero => exact False.elim kap
    | succ m =>
      refine ⟨m, rfl, ?_, kp a go haS hga, ?_, gs', by rw [hg'']; exact setGen_at hsz1, kap⟩
      · obtain ⟨o, nm, qn, ho, r⟩ := hg
        rw [hgo'] at ho
        cases ho
        exact ⟨go, nm, qn, kp a go haS hga, r⟩
      · obtain ⟨mc, hns, hnn⟩ := hl1
        exact ⟨mc, hns.at' fun o z => kp _ o hcs z, hnn⟩
  · intro _
    obtain ⟨ys, hn, cr, fin, _, hsy⟩ := hp
    have hn' : n + ys.length = sizeLine := hn
    refine hD ys _ (by omega) (hA.good.keep ys _ _ cr fun S _ o z => hk S o z) (fin.same hk rfl fun hb1 => allBare_setGen hb1 rfl) fun S hS o q => hk S o (hsy S hS o q)

theorem going_start {X : Cx} {pins : List (Addr × Obj)} {σ : L2.St} {H : Hp} {elt tg iter : Expr} {ifs : List Expr} {scope : Scope} {gpos : Pos} {J : It} {it : Addr} {tn : Nat → Heap → Prop} {C : Addr} {code : Value} {s4 s5 : Shared} {B : Around} {own : List (Str × Nat)}
    {gt : TG} {tt : TT} {te : TE} {W : Nat → Nat → List V → Hp → Prop} {m : Nat}
    (L : Laid X pins σ H elt tg iter ifs scope gpos J it fp tn C code go a g s4 s5) (ok : BlkOk X.N X.env.scope scope own) (hcell : ∀ y ∈ scope.names, y.2 ≠ .cell) (hN : X.N.Nodup) (hco : scope.isCoroutine = false)
    (hh : B.handled = none) (hf : B.frames = some X.stack) (he : e.Good) (hSS : ∀ S ∈ e.SS, s5.heap.objs.size ≤ S) (hk : ∀ b o, s5.heap.get? b = some o → s.heap.get? b = some o) (hgens : s.gens = s5.gens) (hos : s.os = s5.os) (hcr : e.CR [] s.heap)
    (hX0 : X0 = gCx X (B.over (.compLoop (.GeneratorExp elt [⟨tg, iter, ifs, 0⟩] scope gpos) 0 (.ref it) .none (bC X scope C code)) []) s4 H (bC X scope C code) fp [])
    (pg : PG X0 tg gt) (pt : PTs X0 ifs tt) (pe : PE X0 elt te) (turn : GTurn e J gt tt te (own.map (·.2)) (wipe σ (own.map (·.2))) Q W) (w0 : W 0 m [] H) :
    GApart X0 e a fp ∧ Going B X0 e a g go Q sizeLine s := by
  have I := L.inv
  have lt5 : a < s5.heap.objs.size := by rw [L.sz]; exact Nat.lt_succ_self _
  have lt4 : s4.heap.objs.size < a := by rw [← L.cc]; exact L.ca
  have sS : ∀ S ∈ e.SS, a < S := fun S hS => Nat.lt_of_lt_of_le lt5 (hSS S hS)
  have cel : ∀ x c, X0.env.cells.lookup x = some c → c < s4.heap.objs.size := fun x c q => by
    subst hX0
    have hm := PySem.mem_of_lookup q
    rcases cloFrom_mem hm with z | ⟨z1, z2⟩
    · cases z
    · have hx : ∃ c, X.env.cells.lookup x = some c := by
        rcases ok.free _ z1 rfl with z | z
        · exact I.ok.has _ (.inl z)
        · exact I.ok.has _ (.inr z)
      obtain ⟨c', hc'⟩ := hx
      rw [hc'] at z2
      obtain ⟨u, z⟩ := I.cell _ _ hc'
      rw [z2]
      exact z.lt
  have hAp : GApart X0 e a fp := by
    refine ⟨he, fun S hS => ⟨?_, ?_, fun x c q z => ?_, Nat.ne_of_gt (sS S hS)⟩, ?_, fun b hb => ?_, ?_, ?_⟩
    · subst hX0
      exact Nat.le_of_lt (Nat.lt_trans lt4 (sS S hS))
    · subst hX0
      show S ≠ C
      rw [L.cc]
      exact Nat.ne_of_gt (Nat.lt_trans lt4 (sS S hS))
    · have h1 := cel x c q
      rw [z] at h1
      exact absurd (Nat.lt_trans h1 (Nat.lt_trans lt4 (sS S hS))) (Nat.lt_irrefl _)
    · subst hX0
      exact Nat.le_of_lt lt4
    · subst hX0
      exact (L.fpo b hb).2
    · subst hX0; rfl
    · subst hX0; rfl
  refine ⟨hAp, ?_⟩
  obtain ⟨nm, qn, gc, gd, gsl⟩ := L.gen
  have kp4 : ∀ b o, s4.heap.get? b = some o → s.heap.get? b = some o := fun b o q => hk b o (L.kp b o q)
  have isg : s.heap.IsGen a g := ⟨go, nm, qn, hk a go L.gobj, gc, gd, gsl⟩
  have bare5 : AllBare s.gens := by
    rw [hgens, L.gens]
    exact AllBare.push I.bare rfl
  refine ⟨isg, hk a go L.gobj, I.nolimit.keeps kp4, .fresh (.compStart (.GeneratorExp elt [⟨tg, iter, ifs, 0⟩] scope gpos) 0 (.ref it) .none (bC X scope C code)), by rw [hgens, L.gens, L.gg]; exact Array.getElem?_push_size .., ?_⟩
  refine ⟨rfl, ?_⟩
  obtain ⟨mC, hmC⟩ := L.ns
  have I0 : Inv X0 [] (wipe σ (own.map (·.2))) H (s.setGen g .running) := by
    rw [hX0]
    exact gen_start (code := code) I ok hcell hN L.fpo (show B.handled = none from hh) (over_fr hf) L.cc rfl (hos.trans L.os) (allBare_setGen bare5 rfl) kp4 ⟨mC, hmC.at' fun o q => hk _ o q⟩
  have young : ∀ b, s4.heap.objs.size < b → (∃ o, s.heap.get? b = some o ∧ ∀ v, o.data ≠ .cell v) → FpOk X0 [] H b := fun b hb _ => by
    refine ⟨I.hok.fresh (Nat.le_of_lt hb), ?_, fun z => ?_, .inr ?_, fun x c q z => ?_, fun p hp => ?_⟩
    · subst hX0
      show b ≠ C
      rw [L.cc]; exact Nat.ne_of_gt hb
    · subst hX0
      rcases List.mem_cons.mp (I.stkSub b z) with z | z
      · have h1 := I.lt
        rw [← z] at h1
        exact absurd (Nat.lt_trans h1 hb) (Nat.lt_irrefl _)
      · exact I.nofs (Nat.le_of_lt hb) z
    · subst hX0
      exact Nat.le_of_lt hb
    · have h1 := cel x c q
      rw [z] at h1
      exact absurd (Nat.lt_trans h1 hb) (Nat.lt_irrefl _)
    · rw [hAp.pn] at hp
      exact absurd hp (by simp)
  have oa : ∃ o, s.heap.get? a = some o ∧ ∀ v, o.data ≠ .cell v := ⟨go, hk a go L.gobj, fun v z => by rw [gd] at z; cases z⟩
  have I1 := I0.pinned (fp := a :: e.SS) (fun b hb => by
    rcases List.mem_cons.mp hb with z | z
    · rw [z]; exact young a lt4 oa
    · exact young b (Nat.lt_trans lt4 (sS b z)) (he.obj _ _ hcr b z)) (fun b hb => by
    rcases List.mem_cons.mp hb with z | z
    · rw [z]; exact oa
    · exact he.obj _ _ hcr b z)
  have epin : pinsAt (a :: e.SS) (s.setGen g .running).heap = (a, go) :: pinsAt e.SS s.heap := by
    show List.filterMap _ _ = _
    have q : (s.setGen g .running).heap.get? a = some go := hk a go L.gobj
    rw [List.filterMap_cons, q]
    rfl
  rw [epin, List.nil_append] at I1
  have M : Meal X0 e a go (pinsAt e.SS s.heap) [] (wipe σ (own.map (·.2))) H (s.setGen g .running) := ⟨I1, hcr, fun S hS => by
    obtain ⟨o, q, _⟩ := he.obj _ _ hcr S hS
    exact ⟨o, mem_pinsAt hS q⟩, fun p hp => (of_pinsAt hp).1⟩
  have stt : tn 0 (s.setGen g .running).heap := L.trn.keep _ _ _ L.st fun b hb o q => kp4 b o q
  have T : Turn X0.prog X0.w X0.K tg J fp it tn := by
    rw [hX0]
    exact L.trn
  refine seg_begin (fun A' Q' E' hq => T.self A' 0 _ Q' E' stt hq) ?_
  have he0 : bC X scope C code = X0.env := by rw [hX0]; rfl
  rw [he0]
  refine seg_eat (A := B) hAp (by rw [hX0]; rfl) (by rw [hX0]; rfl) T pg pt pe (by rw [hX0]; exact hco) ?_ turn m 0 sizeLine [] _ _ _ H w0 M stt (fun b hb => (L.fpo b hb).1.1) rfl (fun _ _ _ q => q)
  rw [hX0]
  rfl
end
end Zg

set_option Elab.async false
set_option linter.all false
set_option maxRecDepth 100000
set_option maxHeartbeats 1000000
/-! tuple(..) of a generator expression. -/
namespace Zg
open PySem PySem.Spec PyProof.Rows L2 GenW
open AutoSeq1 (wpAny_loadPart')

def lstE (S : Addr) : Eater := ⟨[S], fun ys h => ∃ acc c, h.get? S = some (lstObj acc c) ∧ Vals ys acc.toList, fun _ => false, fun _ => True⟩
theorem lstE_good (S : Addr) : (lstE S).Good := by
  refine ⟨fun ys h h' ⟨acc, c, e, r⟩ k => ⟨acc, c, k S List.mem_cons_self _ e, r⟩, fun ys h ⟨acc, c, e, r⟩ S' hS => ?_⟩
  have e' : S' = S := by simpa [lstE] using hS
  subst e'
  exact ⟨_, e, fun v z => nomatch z⟩

section
variable {X0 : Cx} {a S : Addr} {g : Nat} {go : Obj} {Q : List V → Hp → Prop} {A : Around} {fp : List Addr} {R : Result → Shared → Prop} {res : Value}
theorem drainL (hA : GApart X0 (lstE S) a fp) (hh : A.handled = none) (hroom : A.depth < recursionLimit) (hSc : S ≠ cStatics)
    (hend : ∀ s' acc c ys, s'.heap.get? S = some (lstObj acc c) → Vals ys acc.toList → ys.length ≤ sizeLine → Fin X0 (lstE S) Q ys s' → R (.ok (.ret res)) s') :
    ∀ (n : Nat) (s : Shared), Going A.in1.in1 X0 (lstE S) a g go Q n s → codeAny (model X0.prog X0.w) A (.builtin "list.extend.loop" ⟨[.ref S, .ref a, res], []⟩) R s := by
  have hcs : cStatics ∉ (lstE S).SS := fun h => by
    have z : cStatics = S := by simpa [lstE] using h
    exact hSc z.symm
  intro n
  induction n with
  | zero =>
    intro s G
    refine codeAny_builtin F.entry_extend_loop ?_
    rw [Around.under_plainId F.plain_extend_loop _]
    show wpAny _ A.in1 (pyNext (.ref a) >>= _) _ _ s
    refine wpAny_bind (next_eat (A := A.in1) hA hh hroom hcs G (fun ys x v s1 r it _ => ?_) fun ys s1 hle cr fin _ => ?_)
    · obtain ⟨acc, c, hS, hv⟩ := it.cr
      have hsz : acc.size = ys.length := by have := hv.length; simpa using this.symm
      have hroom := it.room
      show wpAny _ A.in1 (updateSeq S (·.push v) >>= _) _ _ _
      refine wpAny_bind (wpAny_updateSeq hS rfl ?_ (by omega) (by show (acc.push v).size ≤ sizeLine + 1; rw [Array.size_push]; omega))
      have hS2 := Heap.get?_update_self (Obj.mapSeq (·.push v)) hS rfl
      obtain ⟨m, hm, _⟩ := it.more rfl { s1 with heap := s1.heap.update S (Obj.mapSeq (·.push v)) } rfl rfl (fun b o hb q => (Heap.get?_update_other _ _ (fun z : S = b => hb (by rw [← z]; exact List.mem_cons_self))).trans q) ⟨acc.push v, _, hS2, by rw [Array.toList_push]; exact hv.append (.cons r .nil)⟩
      omega
    · obtain ⟨acc, c, hS, hv⟩ := cr
      exact wpAny_pure (hend s1 acc c ys hS hv hle fin)
  | succ n ih =>
    intro s G
    refine codeAny_builtin F.entry_extend_loop ?_
    rw [Around.under_plainId F.plain_extend_loop _]
    show wpAny _ A.in1 (pyNext (.ref a) >>= _) _ _ s
    refine wpAny_bind (next_eat (A := A.in1) hA hh hroom hcs G (fun ys x v s1 r it _ => ?_) fun ys s1 hle cr fin _ => ?_)
    · obtain ⟨acc, c, hS, hv⟩ := it.cr
      have hsz : acc.size = ys.length := by have := hv.length; simpa using this.symm
      have hroom := it.room
      show wpAny _ A.in1 (updateSeq S (·.push v) >>= _) _ _ _
      refine wpAny_bind (wpAny_updateSeq hS rfl (wpAny_pure ⟨plainId_quiet F.plain_extend_loop _, ?_⟩) (by omega) (by show (acc.push v).size ≤ sizeLine + 1; rw [Array.size_push]; omega))
      have hS2 := Heap.get?_update_self (Obj.mapSeq (·.push v)) hS rfl
      obtain ⟨m, hm, G'⟩ := it.more rfl { s1 with heap := s1.heap.update S (Obj.mapSeq (·.push v)) } rfl rfl (fun b o hb q => (Heap.get?_update_other _ _ (fun z : S = b => hb (by rw [← z]; exact List.mem_cons_self))).trans q) ⟨acc.push v, _, hS2, by rw [Array.toList_push]; exact hv.append (.cons r .nil)⟩
      obtain rfl : n = m := by omega
      exact ih _ G'
    · obtain ⟨acc, c, hS, hv⟩ := cr
      exact wpAny_pure (hend s1 acc c ys hS hv hle fin)
end

section
variable {X : Cx} {A : Around} {E : Value → Shared → Prop} {s : Shared} {a : Addr} {g : Nat}
theorem collect_meal {Q : List Value → Shared → Prop} {P : Program} {w : World} (hg : s.heap.IsGen a g)
    (h : ∀ (S : Addr) (s' : Shared) (c : Nat), S = s.heap.objs.size → (∀ b o, s.heap.get? b = some o → s'.heap.get? b = some o) → s'.gens = s.gens → s'.os = s.os → s'.heap.get? S = some (lstObj #[] c) →
      codeAny (model P w) A (.builtin "list.extend.loop" ⟨[.ref S, .ref a, .ref S], []⟩) (fun r s2 => ∃ acc c, r = .ok (.ret (.ref S)) ∧ s2.heap.get? S = some (lstObj acc c) ∧ Q acc.toList s2) s') :
    wpAny (model P w) A (collect (.ref a)) Q E s := by
  have hal : a < s.heap.objs.size := by
    obtain ⟨o, nm, qn, ho, _⟩ := hg
    exact Heap.lt_size ho
  have hSa : s.heap.objs.size ≠ a := Nat.ne_of_gt hal
  unfold collect
  refine wpAny_bind (wpAny_runValue (codeAny_builtin F.entry_proto_collect ?_))
  rw [Around.under_plainId F.plain_proto_collect _]
  show wpAny _ A.in1 (newList [] >>= fun l => again (.builtin "list.__iadd__" ⟨[l, .ref a], []⟩)) _ _ s
  refine wpAny_bind (wpAny_newObj_type ?_)
  refine wpAny_pure ⟨plainId_quiet F.plain_list_iadd _, codeAny_builtin F.entry_list_iadd ?_⟩
  rw [Around.under_plainId F.plain_list_iadd _]
  have up : ∀ (h : Heap) (f : Obj → Obj), (∀ b o, s.heap.get? b = some o → h.get? b = some o) → ∀ b o, s.heap.get? b = some o → (h.update s.heap.objs.size f).get? b = some o := fun h f q b o e =>
    (Heap.get?_update_other _ _ (Ne.symm (Nat.ne_of_lt (Heap.lt_size e)))).trans (q b o e)
  have k1 : ∀ b o, s.heap.get? b = some o → (s.heap.push { cls := .type "list", data := .seq ([] : List Value).toArray }).get? b = some o := fun b o e => Heap.get?_push_of_some _ e
  have gty : ∀ {h : Heap}, (∀ b o, s.heap.get? b = some o → h.get? b = some o) → h.IsGen a g := fun {h} q => hg.keeps q
  show wpAny _ A.in1 (Builtin.List.listExtendWith (.ref s.heap.objs.size) (.ref a) (.ref s.heap.objs.size)) _ _ _
  unfold Builtin.List.listExtendWith
  refine wpAny_bind (wpAny_typeOf (Heap.IsGen.typeIs (s := { s with heap := _ }) (gty k1)) ?_)
  have h1 : Builtin.List.listSameRef (.ref s.heap.objs.size) (.ref a) = false := by simp [Builtin.List.listSameRef, hSa]
  have h2 : (Value.type "generator" == Value.type "list") = false := by decide
  have h3 : (Value.type "generator" == Value.type "tuple") = false := by decide
  simp only [h1, h2, h3, Bool.or_false, Bool.false_eq_true, if_false]
  refine wpAny_bind (wpAny_pyIter_gen (s := { s with heap := _ }) (gty k1) ?_)
  refine wpAny_bind (wpAny_holding ?_)
  unfold Builtin.List.listLengthHint
  refine wpAny_bind (wpAny_specialOf (Heap.IsGen.typeIs (s := { s with heap := _ }) (gty k1)) F.gen_no_len ?_)
  show wpAny _ A.in1 (specialOf (Value.ref a) (Str.ofString "__length_hint__") >>= _) _ _ _
  refine wpAny_bind (wpAny_specialOf (Heap.IsGen.typeIs (s := { s with heap := _ }) (gty k1)) F.gen_no_hint ?_)
  refine wpAny_pure ?_
  show wpAny _ A.in1 (rule "list.extend.makes-room" >>= fun _ => Builtin.List.listTouch (.ref s.heap.objs.size) >>= fun _ =>
    again (.builtin "list.extend.loop" ⟨[.ref s.heap.objs.size, .ref a, .ref s.heap.objs.size], []⟩)) _ _ _
  refine wpAny_bind (wpAny_rule ?_)
  have hS₁ : (s.heap.push { cls := .type "list", data := .seq ([] : List Value).toArray }).get? s.heap.objs.size = some { cls := .type "list", data := .seq ([] : List Value).toArray } := Heap.get?_push_size _ rfl
  refine wpAny_bind ?_
  show wpAny _ A.in1 (updateSeq s.heap.objs.size (·.push .none) >>= fun _ => updateSeq s.heap.objs.size (·.pop)) _ _ _
  refine wpAny_bind (wpAny_updateSeq hS₁ rfl ?_)
  have hS₂ := Heap.get?_update_self (Obj.mapSeq (·.push Value.none)) hS₁ rfl
  refine wpAny_updateSeq (hz := by seq_fits) hS₂ rfl ?_
  have hS₃ := Heap.get?_update_self (Obj.mapSeq (·.pop)) hS₂ rfl
  have k4 := up _ (Obj.mapSeq (·.pop)) (up _ (Obj.mapSeq (·.push Value.none)) k1)
  refine wpAny_pure ⟨plainId_quiet F.plain_extend_loop _, codeAny_mono (h _ { s with heap := _ } _ rfl k4 rfl rfl hS₃) fun r s2 hq => ?_⟩
  obtain ⟨acc, c, rfl, hS, q⟩ := hq
  show wpAny _ A (load s.heap.objs.size >>= _) _ _ s2
  refine wpAny_bind (wpAny_load hS ?_)
  exact wpAny_pure q

theorem tuple_meal {Q : Value → Shared → Prop} {P : Program} {w : World} (hg : s.heap.IsGen a g)
    (h : ∀ (S : Addr) (s' : Shared) (c : Nat), S = s.heap.objs.size → (∀ b o, s.heap.get? b = some o → s'.heap.get? b = some o) → s'.gens = s.gens → s'.os = s.os → s'.heap.get? S = some (lstObj #[] c) →
      codeAny (model P w) A.in1.in1 (.builtin "list.extend.loop" ⟨[.ref S, .ref a, .ref S], []⟩) (fun r s2 => ∃ acc c, r = .ok (.ret (.ref S)) ∧ s2.heap.get? S = some (lstObj acc c) ∧ acc.size ≤ sizeLine ∧
        Q (.ref s2.heap.objs.size) { s2 with heap := s2.heap.push { cls := .type "tuple", data := .seq acc } }) s') :
    wpAny (model P w) A (call (.type "tuple") [.ref a]) Q E s := by
  refine callType_codes (Q₁ := fun obj s₁ => s₁.TypeIs obj "tuple" ∧ Q obj s₁) F.called_tuple (F.typeCall_tuple_1 _) F.entry_object_init ?_ fun obj s₁ h₁ => ?_
  · refine codeAny_of_tree ?_
    show wpAny _ A.in1.in1 (do checkBuiltinCall "tuple.__new__" ⟨[.type "tuple", .ref a], []⟩; again (.builtin "tuple.__new__" ⟨[.type "tuple", .ref a], []⟩)) _ _ s
    refine wpAny_bind (wpAny_of_eq (F.newCall_tuple_1 _) (wpAny_pure ⟨plainId_quiet F.plain_tuple_new _, codeAny_builtin F.entry_tuple_new ?_⟩))
    rw [Around.under_plainId F.plain_tuple_new _]
    have hsub := sub_tuple_self
    have hinit := init_tuple_lookup
    have hmh := madeHere_tuple
    have hTI : s.TypeIs (.ref a) "generator" := hg.typeIs
    have hcol : ∀ {Q1 : List Value → Shared → Prop} {E' : Value → Shared → Prop}, (∀ l s2, (l.length ≤ sizeLine ∧ Q (.ref s2.heap.objs.size) { s2 with heap := s2.heap.push { cls := .type "tuple", data := .seq l.toArray } }) → Q1 l s2) →
        wpAny (model P w) A.in1.in1 (collect (.ref a)) Q1 E' s := fun {Q1 E'} hq1 =>
      collect_meal hg fun S s' c e1 e2 e3 e4 e5 => codeAny_mono (h S s' c e1 e2 e3 e4 e5) fun r s2 hq => by
        obtain ⟨acc, c, e6, e7, e8, e9⟩ := hq
        exact ⟨acc, c, e6, e7, hq1 _ _ ⟨by simpa using e8, by simpa using e9⟩⟩
    wp_walk using wpAny_typeOf hTI, hcol
    intro l s2 hq
    show wpAny _ _ (Builtin.Tuple.tupleExact l.toArray >>= fun v => ret v) _ _ _
    unfold Builtin.Tuple.tupleExact
    refine wpAny_bind (wpAny_newObj_type ?_ (by show l.toArray.size ≤ sizeLine; simpa using hq.1))
    exact wpAny_pure ⟨⟨_, Heap.get?_push_size _ rfl, rfl⟩, hq.2⟩
  · exact ⟨h₁.1, F.args_object_init_2 obj _, object_init_meets F.called_tuple.init.lookup F.called_tuple.made (by decide) P w A.in1 _ s₁ ⟨h₁.1, rfl, h₁.2⟩⟩
end
end Zg

set_option Elab.async false
set_option linter.all false
set_option maxRecDepth 100000
set_option maxHeartbeats 1000000
/-! tuple(..) of a generator expression, as an expression. -/
namespace Zg
open PySem PySem.Spec PyProof.Rows L2 GenW

/-- what stands in a generator expression's scope -/
structure GScp (X : Cx) (c P : Addr) (scope : Scope) (own : List (Str × Nat)) : Prop where
  tab : GxR.TabB X.base X.mg c P
  code : X.env.code = .ref c
  blk : BlkOk X.N X.env.scope scope own
  cell : ∀ y ∈ scope.names, y.2 ≠ .cell
  dot : scope.names.lookup (".0" : Str) = some NameKind.local
  co : scope.isCoroutine = false
  nd : X.N.Nodup
/-- the contexts in which its element is asked -/
def GIn {X : Cx} {k : Nat} {scope : Scope} (Pr : Cx → Prop) : Prop := ∀ (A : Around) (s : Shared) (H : Hp) (C : Addr) (code : Value) (fp : List Addr), Room k A → A.guards = X.A.guards → Pr (gCx X A s H (bC X scope C code) fp [])

section
variable {X : Cx} {pins : List (Addr × Obj)} {σ : L2.St} {H : Hp} {elt tg iter : Expr} {ifs : List Expr} {scope : Scope} {gpos : Pos} {own : List (Str × Nat)} {c P : Addr} {k : Nat} {gt : TG} {tt : TT} {te : TE}
  {J : It} {it : Addr} {tn : Nat → Heap → Prop} {C : Addr} {code : Value} {s4 s5 s : Shared} {B : Around} {a : Addr} {g : Nat} {go : Obj} {fp : List Addr} {e : Eater} {Q : List V → Hp → Prop} {W : Nat → Nat → List V → Hp → Prop} {m : Nat}
/-- back in the frame that ate -/
theorem fin_back {X0 : Cx} {ys : List V} (L : Laid X pins σ H elt tg iter ifs scope gpos J it fp tn C code go a g s4 s5) {A0 : Around} {env0 : Env} (hX0 : X0 = gCx X A0 s4 H env0 fp []) (h : Fin X0 e Q ys s) :
    ∃ H', Inv X pins σ H' s ∧ (∀ S ∈ e.SS, H' S = none) ∧ Q ys H' := by
  obtain ⟨pins', σ', H', I', hn, q⟩ := h
  refine ⟨H', ?_, hn, q⟩
  have os := I'.os
  have base := I'.base
  subst hX0
  exact L.inv.call' (ch := fp) os base I'.hok I'.bare fun b hb => by
    obtain ⟨f0, f1, f2, f3, f4, f5⟩ := (L.fpo b hb).1
    exact ⟨f3, f1, f4, f5⟩
end

def tTupG (P : Addr) (wi : TI) (gt : TG) (tt : TT) (te : TE) (vs : List Nat) : TE := fun σ H Q =>
  wi σ H fun J H1 => GxR.TabG H1 P ∧ ∀ H2, GxR.Tabbed P H1 H2 → ∃ W m, W 0 m [] H2 ∧ GTurn (lstE 0) J gt tt te vs (wipe σ vs) (fun ys H3 => ∀ l, H3 l = none → Q (.ref l) (upd H3 l (.tup ys))) W
section
variable {X : Cx} {elt tg iter : Expr} {ifs : List Expr} {scope : Scope} {gpos p pos : Pos} {own : List (Str × Nat)} {c P : Addr} {k : Nat} {gt : TG} {tt : TT} {te : TE} {wi : TI}
theorem pe_tupG (hr : Room (k + 2) X.A) (hg : Gl X "tuple") (hm : X.mg "tuple" = none) (S : GScp X c P scope own) (hi : PI X tg iter wi)
    (hpg : GIn (X := X) (k := k) (scope := scope) fun X0 => PG X0 tg gt) (hpt : GIn (X := X) (k := k) (scope := scope) fun X0 => PTs X0 ifs tt) (hpe : GIn (X := X) (k := k) (scope := scope) fun X0 => PE X0 elt te)
    (hs : ∀ v, genFold iter X.env v = pure v := by intro _; rfl)
    (he : starEach [.GeneratorExp elt [⟨tg, iter, ifs, 0⟩] scope gpos] X.env = (false, eval (.GeneratorExp elt [⟨tg, iter, ifs, 0⟩] scope gpos) X.env) :: starEach [] X.env := by rfl) :
    PE X (.Call (.Name "tuple" p) [.GeneratorExp elt [⟨tg, iter, ifs, 0⟩] scope gpos] [] pos) (tTupG P wi gt tt te (own.map (·.2))) := by
  refine ⟨fun pins s σ H Q I h => ?_⟩
  refine wpAny_Call_Name_kw (ld_blt I hg hm boot_tuple ?_)
  refine PyProof.Rows.callWith_type1 ?_ he rfl
  rw [he]
  show wpAny _ _ (spliced ((false, eval (.GeneratorExp elt [⟨tg, iter, ifs, 0⟩] scope gpos) X.env) :: backTo pos (starEach [] X.env))) _ _ s
  refine Calls.spliced_cons (gen_laid hr S.tab S.code S.blk S.cell S.dot S.co hi hs I h fun J H2 it fp tn C code go a g s4 s5 L hR => ?_)
  refine Calls.spliced_nil ?_
  obtain ⟨W, m, w0, turn⟩ := hR
  obtain ⟨nm, qn, gc, gd, gsl⟩ := L.gen
  have hrB : Room (k + 1) X.A.in1.in1.in1.in1 := by
    refine ⟨hr.hd, ?_, ?_⟩
    · have := hr.dp
      show X.A.depth + 3 * (k + 1) + 5 < _
      omega
    · have := hr.un
      show X.A.units + 1 + 1 + 1 + 1 + 16 * (k + 1) + 200 < _
      omega
  refine tuple_meal ⟨go, nm, qn, L.gobj, gc, gd, gsl⟩ fun Sx s6 cc eS kp6 hg6 os6 hS6 => ?_
  obtain ⟨hAp, G⟩ := going_start (B := X.A.in1.in1.in1.in1) (e := lstE Sx) (X0 := _) (s := s6) L S.blk S.cell S.nd S.co hr.hd L.inv.ok.frames (lstE_good Sx) (fun S' hS' => by
      have e' : S' = Sx := by simpa [lstE] using hS'
      rw [e', eS]; exact Nat.le_refl _) kp6 hg6 os6 ⟨#[], cc, hS6, .nil⟩ rfl (hpg _ _ _ _ _ _ (over_room hrB) over_gd) (hpt _ _ _ _ _ _ (over_room hrB) over_gd) (hpe _ _ _ _ _ _ (over_room hrB) over_gd) turn w0
  have hcl : cStatics < s5.heap.objs.size := by
    obtain ⟨_, hn, _⟩ := L.inv.nolimit.keeps L.kp
    exact hn.lt
  refine drainL (A := X.A.in1.in1) hAp hr.hd (by have := hr.dp; show X.A.depth < _; omega) (by rw [eS]; exact Nat.ne_of_gt hcl) (fun s' acc c' ys hS' hv hle fin => ?_) sizeLine s6 G
  have hsz : acc.size = ys.length := by have := hv.length; simpa using this.symm
  refine ⟨acc, c', rfl, hS', by omega, ?_⟩
  obtain ⟨H', I', hn, q⟩ := fin_back L rfl fin
  have I2 : Inv X pins σ (upd H' s'.heap.objs.size (.tup ys)) { s' with heap := s'.heap.push { cls := .type "tuple", data := .seq acc } } := by
    have e1 : acc = acc.toList.toArray := by simp
    rw [e1]
    exact I'.laid (t' := s'.toks) (fun b o z => Heap.get?_push_of_some _ z) (Nat.le_refl _) (show ObjOk X.prog X.w _ _ _ (.tup ys) from ⟨hle, acc.toList, hv, IsTup.new _ _⟩)
  exact ⟨.ref s'.heap.objs.size, _, I2, rfl, q _ (I'.hok.fresh (Nat.le_refl _))⟩
end
end Zg

set_option Elab.async false
set_option linter.all false
set_option maxRecDepth 100000
set_option maxHeartbeats 1000000
/-! What is walked: enumerate of a list or a tuple; zip of two, each a list or a tuple. -/
namespace Zk
open PySem PySem.Spec PyProof.Rows L2

inductive Knd where
  | l | t
def Sq (K : PySem.W.Frag) : Knd → Hp → Addr → List V → Prop
  | .l, H, a, xs => SqL K H a xs
  | .t, H, a, xs => SqT K H a xs
def ItAt : Knd → Heap → Addr → Addr → Nat → Prop
  | .l, h, it, a, i => h.IsListIter it a i
  | .t, h, it, a, i => h.IsTupleIter it a i
def IsAt : Knd → Heap → Addr → Array Value → Prop
  | .l, h, a, xs => h.IsList a xs
  | .t, h, a, xs => h.IsTuple a xs
def itO : Knd → Addr → Obj
  | .l, a => { cls := .type "list_iterator", data := .fields #[.ref a, .int 0 0] }
  | .t, a => { cls := .type "tuple_iterator", data := .fields #[.ref a, .int 0 0] }
theorem drw {P : Program} {w : World} {A : Around} (k : Knd) (hh : A.handled = none) (it a : Addr) (hne : a ≠ it) (items : Array Value) :
    Draws P w A it [it, a] items.size (fun i v => items[i]? = some v) (fun i h => ItAt k h it a i ∧ IsAt k h a items) := by
  cases k
  · exact Draws.list hh it a hne items
  · exact Draws.tuple hh it a hne items
theorem beg (k : Knd) (a : Addr) (items : Array Value) : Begins (.ref a) (itO k a) fun h => IsAt k h a items := by
  cases k
  · exact begins_list a items
  · exact begins_tuple a items
theorem itO_at (k : Knd) {h : Heap} {it a : Addr} (e : h.get? it = some (itO k a)) : ItAt k h it a 0 := by
  cases k <;> exact ⟨_, e, rfl, rfl⟩
theorem ItAt.obj {k : Knd} {h : Heap} {it a : Addr} {i : Nat} (x : ItAt k h it a i) : ∃ o, h.get? it = some o ∧ (∀ v, o.data ≠ .cell v) ∧ (o.cls = .type "list_iterator" ∨ o.cls = .type "tuple_iterator") := by
  cases k
  · obtain ⟨o, e, c, d⟩ := x
    exact ⟨o, e, (fun v z => by rw [d] at z; cases z), .inl c⟩
  · obtain ⟨o, e, c, d⟩ := x
    exact ⟨o, e, (fun v z => by rw [d] at z; cases z), .inr c⟩
theorem ItAt.keep {k : Knd} {h h' : Heap} {it a : Addr} {i : Nat} (x : ItAt k h it a i) (q : ∀ o, h.get? it = some o → h'.get? it = some o) : ItAt k h' it a i := by
  cases k
  · exact Heap.IsListIter.at x q
  · exact Heap.IsTupleIter.at x q
theorem IsAt.cls {k : Knd} {h : Heap} {a : Addr} {xs : Array Value} (x : IsAt k h a xs) : ∃ o, h.get? a = some o ∧ (o.cls = .type "list" ∨ o.cls = .type "tuple") := by
  cases k
  · obtain ⟨o, e, c, _⟩ := x
    exact ⟨o, e, .inl c⟩
  · obtain ⟨o, e, c, _⟩ := x
    exact ⟨o, e, .inr c⟩
theorem IsAt.ne {k : Knd} {h : Heap} {a b : Addr} {xs : Array Value} {o : Obj} (x : IsAt k h a xs) (e : h.get? b = some o) (c1 : o.cls ≠ .type "list") (c2 : o.cls ≠ .type "tuple") : a ≠ b := fun z => by
  obtain ⟨o', e', c⟩ := IsAt.cls x
  rw [z, e] at e'
  cases e'
  rcases c with c | c
  · exact c1 c
  · exact c2 c
theorem ItAt.apart {k k' : Knd} {h : Heap} {it a b : Addr} {i : Nat} {xs : Array Value} (y : ItAt k' h it b i) (x : IsAt k h a xs) : a ≠ it := by
  obtain ⟨o, e, _, c⟩ := ItAt.obj y
  refine IsAt.ne x e (fun q => ?_) fun q => ?_ <;> rcases c with c | c <;> rw [c] at q <;> exact absurd (Value.type.inj q) (by decide)
section
variable {X : Cx} {pins : List (Addr × Obj)} {σ : L2.St} {H : Hp} {s : Shared}
theorem inv_sq (I : Inv X pins σ H s) {k : Knd} {a : Addr} {xs : List V} (h : Sq X.K k H a xs) : ∃ its : List Value, Vals xs its ∧ IsAt k s.heap a its.toArray := by
  cases k
  · obtain ⟨its, r, p, _⟩ := I.list h
    exact ⟨its, r, p.isList⟩
  · obtain ⟨its, r, p, _⟩ := I.tuple h
    exact ⟨its, r, p⟩
theorem inv_sq_inj (I : Inv X pins σ H s) {k : Knd} {a : Addr} {xs ys : List V} (h : Sq X.K k H a xs) (h' : Sq X.K k H a ys) : xs = ys := by
  cases k
  · exact I.list_inj h h'
  · exact I.tuple_inj h h'
end

theorem enl : Value.type "enumerate" ≠ Value.type "list" := by decide
theorem ent : Value.type "enumerate" ≠ Value.type "tuple" := by decide
theorem znl : Value.type "zip" ≠ Value.type "list" := by decide
theorem znt : Value.type "zip" ≠ Value.type "tuple" := by decide
/-- enumerate of the sequence at a -/
def IteB (K : PySem.W.Frag) (k : Knd) (a : Addr) : It :=
  ⟨fun i H => ∃ (xs : List V) (x : V), Sq K k H a xs ∧ xs[i]? = some x, fun i H v H' => ∃ T x, v = .ref T ∧ H T = none ∧ H' = upd H T (.tup [.int (i : Nat), x]) ∧ ∀ xs, Sq K k H a xs → xs[i]? = some x, fun i H => ∃ xs : List V, Sq K k H a xs ∧ xs.length = i⟩
theorem turn_enumB {P : Program} {w : World} {K : PySem.W.Frag} {elts : List Expr} {kk : Nat} {tpos : Pos} (k : Knd) (a e it : Addr) :
    Turn P w K (.Tuple elts kk tpos) (IteB K k a) [e, it] e (fun i h => (∃ old, IsEnum h e it ((i : Nat) : Int) old) ∧ ItAt k h it a i ∧ e ≠ it) where
  mem := by simp
  obj := fun i h st b hb => by
    obtain ⟨⟨old, he⟩, hi, _⟩ := st
    obtain ⟨o, ho, hd, _⟩ := ItAt.obj hi
    have e' : b = e ∨ b = it := by simpa using hb
    rcases e' with z | z
    · rw [z]; exact ⟨_, he, fun v q => nomatch q⟩
    · rw [z]; exact ⟨o, ho, hd⟩
  keep := fun i h h' st q => by
    obtain ⟨⟨old, he⟩, hi, hne⟩ := st
    exact ⟨⟨old, q e (by simp) _ he⟩, ItAt.keep hi fun o z => q it (by simp) o z, hne⟩
  item := by
    intro X hP hw hK hc i pins s σ H E I hf st hg
    subst hP hw hK
    obtain ⟨⟨old, he⟩, hit, hne⟩ := st
    obtain ⟨xs, x, hq, hx⟩ := hg
    obtain ⟨its, rv, p⟩ := inv_sq I hq
    obtain ⟨u, hu, ru⟩ := rv.get hx
    have hel : e < s.heap.objs.size := Heap.lt_size he
    have hil : it < s.heap.objs.size := by obtain ⟨_, q, _⟩ := ItAt.obj hit; exact Heap.lt_size q
    have hea : a ≠ e := IsAt.ne p he enl ent
    refine wpAny_pyNext_enum_itemD (D := drw (A := X.A.in1) k (I.ok.hd hc) it a (ItAt.apart hit p) its.toArray) he ⟨hit, p⟩ (by have := (List.getElem?_eq_some_iff.mp hu).1; simpa using this) hne (by simp [hne, Ne.symm hea]) fun x' h' tk hx' ho hst' hT hsz hk => ?_
    have ex : x' = u := by
      have h1 : its.toArray[i]? = some x' := hx'
      have h2 : its.toArray[i]? = some u := by simpa using hu
      rw [h1] at h2
      exact Option.some.inj h2
    subst ex
    refine ⟨_, rfl, wpAny_letOwnedTupleGo_enum (s := { s with heap := h', toks := tk + 1 }) ho fun h'' he' sb => ?_⟩
    have hT2 : h''.get? s.heap.objs.size = some { cls := .type "tuple", data := .seq #[.int i tk, x'] } := (sb.2 _ (Nat.ne_of_gt hel)).trans hT
    have new : ObjOk X.prog X.w (upd H s.heap.objs.size (.tup [.int (i : Nat), x])) h'' s.heap.objs.size (.tup [.int (i : Nat), x]) :=
      ⟨by show 2 ≤ sizeLine; decide, [.int i tk, x'], .cons ⟨_, rfl⟩ (.cons ru .nil), ⟨_, hT2, rfl, _, rfl⟩⟩
    have I1 : Inv X pins σ (upd H s.heap.objs.size (.tup [.int (i : Nat), x])) { s with heap := h'', toks := tk + 1 } :=
      I.turnedNew (ch := [e, it]) (fun b ob hb q => (sb.2 b (fun z => hb (by simp [z]))).trans (hk b ob (fun z => hb (by simp [z])) (fun z => hb (by simp [z])) q)) hf (Nat.le_refl _) new
    refine ⟨.ref s.heap.objs.size, _, I1, rfl, ⟨_, x, rfl, I.hok.fresh (Nat.le_refl _), rfl, fun ys hy => by rw [inv_sq_inj I hy hq]; exact hx⟩, ⟨⟨x', ?_⟩, ItAt.keep hst'.1 fun o q => (sb.2 it (Ne.symm hne)).trans q, hne⟩, fun b hb => ?_⟩
    · have e1 : ((i + 1 : Nat) : Int) = (i : Int) + 1 := by omega
      rw [e1]; exact he'
    · have hb' : b < s.heap.objs.size := by
        have e' : b = e ∨ b = it := by simpa using hb
        rcases e' with z | z
        · rw [z]; exact hel
        · rw [z]; exact hil
      rw [upd_ne (Nat.ne_of_lt hb')]
      exact (hf b hb).1
  done := by
    intro X hP hw hK hc i pins s σ H E I hf st hg
    subst hP hw hK
    obtain ⟨⟨old, he⟩, hit, hne⟩ := st
    obtain ⟨xs, hq, hx⟩ := hg
    obtain ⟨its, rv, p⟩ := inv_sq I hq
    have hl := rv.length
    have hi : i = its.toArray.size := by simp; omega
    subst hi
    exact wpAny_pyNext_enum_endD (D := drw (A := X.A.in1) k (I.ok.hd hc) it a (ItAt.apart hit p) its.toArray) he ⟨hit, p⟩ fun h' eb => ⟨rfl, I.turnedL (t' := s.toks) (ch := [e, it]) (fun b o hb q => eb b o (fun z => hb (by simp [z])) q) hf⟩
  self := fun A i s Q E st h => let ⟨⟨_, he⟩, _⟩ := st; wpAny_pyIter_enum he h

theorem meets_enum1 {v : Value} {o : Obj} {HH : Heap → Prop} (B : Begins v o HH) :
    Meets (Builtin.«enumerate.__new__» ⟨[.type "enumerate", v], []⟩) (fun _ R s => HH s.heap ∧
      R (.ok (.ret (.ref (s.heap.push o).objs.size))) { s with heap := (s.heap.push o).push { cls := .type "enumerate", data := .fields #[.none, .bool false, .ref s.heap.objs.size, rawInt 0, .none, .none] } }) :=
  .of_wp fun prog w A R s h => by
    obtain ⟨hp, g, d, tk, os⟩ := s; obtain ⟨h1, h⟩ := h
    have hsub := sub_enumerate
    have q1 : ∀ {A' : Around} {E : Value → Shared → Prop} {Q : Value → Shared → Prop}, Q (.ref hp.objs.size) ⟨hp.push o, g, d, tk, os⟩ → wpAny (model prog w) A' (pyIter v) Q E ⟨hp, g, d, tk, os⟩ :=
      fun q => B.iter prog w _ _ ⟨hp, g, d, tk, os⟩ _ h1 q
    wp_walk using q1
    refine wpAny_stack_any fun st => wpAny_pure ?_
    split
    · rename_i c _ _ _ _ _
      cases (c == Value.type "enumerate")
      · wp_walk using q1
        exact ⟨_, rfl, h⟩
      · wp_walk using q1
        exact ⟨_, rfl, h⟩
    · wp_walk using q1
      exact ⟨_, rfl, h⟩
theorem call_enum1 {P : Program} {w : World} {A : Around} {E : Value → Shared → Prop} {s : Shared} {v : Value} {o : Obj} {HH : Heap → Prop} {Q : Value → Shared → Prop} (B : Begins v o HH) (h1 : HH s.heap)
    (h : ∀ h', IsEnum h' (s.heap.objs.size + 1) s.heap.objs.size 0 .none → h'.get? s.heap.objs.size = some o → h'.objs.size = s.heap.objs.size + 2 →
      (∀ b o, s.heap.get? b = some o → h'.get? b = some o) → Q (.ref (s.heap.objs.size + 1)) { s with heap := h' }) :
    wpAny (model P w) A (call (.type "enumerate") [v]) Q E s := by
  refine callType_new F.called_enumerate (by decide) (F.typeCall_enumerate_1 _) (F.newCall_enumerate_1 _) (fun obj => F.args_object_init_2 obj _) F.entry_enumerate_new
    (meets_enum1 B) ⟨h1, ?_⟩
  have hz : (s.heap.push o).objs.size = s.heap.objs.size + 1 := Heap.size_push ..
  show _ ∧ _
  rw [hz]
  have he : IsEnum ((s.heap.push o).push { cls := .type "enumerate", data := .fields #[.none, .bool false, .ref s.heap.objs.size, rawInt 0, .none, .none] }) (s.heap.objs.size + 1) s.heap.objs.size 0 .none := by
    have := Heap.get?_push_size (s.heap.push o) (o := { cls := .type "enumerate", data := .fields #[.none, .bool false, .ref s.heap.objs.size, rawInt 0, .none, .none] }) rfl
    rw [hz] at this; exact this
  refine ⟨⟨_, he, rfl⟩, h _ he (Heap.get?_push_of_some _ (Heap.get?_push_size _ B.free)) (by rw [Heap.size_push, hz]) fun b o x => Heap.get?_push_of_some _ (Heap.get?_push_of_some _ x)⟩
def iEnB (K : PySem.W.Frag) (ta : TA) : TI := fun σ H R => ta σ H fun vs H1 => ∃ k a xs, vs = [.ref a] ∧ Sq K k H1 a xs ∧ R (IteB K k a) H1
theorem pi_enumB {X : Cx} {e : Expr} {ta : TA} {p pos tpos : Pos} {elts : List Expr} {kk : Nat} (hg : Gl X "enumerate") (hm : X.mg "enumerate" = none) (ha : PA X [e] ta) (hs : starEach [e] X.env = [(false, eval e X.env)] := by rfl) :
    PI X (.Tuple elts kk tpos) (.Call (.Name "enumerate" p) [e] [] pos) (iEnB X.K ta) := by
  refine ⟨fun pins s σ H R I h => ?_⟩
  refine Call_ (ld_blt I hg hm boot_enumerate (PyProof.Rows.callWith_type1 (thn (ha.run pos pins s σ H _ I h) fun us s1 ⟨vs, H1, I1, r1, q1⟩ => ?_) hs rfl))
  obtain ⟨k, a, xs, ex, hq, q⟩ := q1
  subst ex
  cases r1 with
  | cons r rr =>
    cases rr
    cases r
    obtain ⟨its, rv, p'⟩ := inv_sq I1 hq
    refine call_enum1 (beg k a its.toArray) p' fun h' he hit hsz hk => wpAny_pyIter_enum he ?_
    have I2 : Inv X pins σ H1 { s1 with heap := h' } := I1.kept (t' := s1.toks) hk
    refine ⟨s1.heap.objs.size + 1, [s1.heap.objs.size + 1, s1.heap.objs.size], _, _, H1, rfl, I2, turn_enumB k a (s1.heap.objs.size + 1) s1.heap.objs.size, ⟨⟨.none, he⟩, itO_at k hit, Nat.succ_ne_self _⟩, fun b hb => ?_, q⟩
    have e' : b = s1.heap.objs.size + 1 ∨ b = s1.heap.objs.size := by simpa using hb
    have hle : s1.heap.objs.size ≤ b := by
      rcases e' with z | z
      · rw [z]; exact Nat.le_add_right _ _
      · rw [z]; exact Nat.le_refl _
    exact I1.fpOk hle (I1.hok.fresh hle)

/-! ### zip -/
def ItzB (K : PySem.W.Frag) (k k' : Knd) (a b : Addr) : It :=
  ⟨fun i H => ∃ (xs ys : List V) (x y : V), Sq K k H a xs ∧ Sq K k' H b ys ∧ xs[i]? = some x ∧ ys[i]? = some y,
    fun i H v H' => ∃ T x y, v = .ref T ∧ H T = none ∧ H' = upd H T (.tup [x, y]) ∧ (∀ xs, Sq K k H a xs → xs[i]? = some x) ∧ ∀ ys, Sq K k' H b ys → ys[i]? = some y,
    fun i H => ∃ xs ys : List V, Sq K k H a xs ∧ Sq K k' H b ys ∧ i = min xs.length ys.length⟩
theorem turn_zipB {P : Program} {w : World} {K : PySem.W.Frag} {elts : List Expr} {kk : Nat} {tpos : Pos} (k k' : Knd) {a b z TI TO i1 i2 : Addr} (d1 : TI ≠ z) (d2 : TO ≠ z) (d3 : TI ≠ TO) (d4 : TI ≠ i1) (d5 : TI ≠ i2) (d6 : z ≠ i1) (d7 : z ≠ i2) (d8 : TO ≠ i1) (d9 : TO ≠ i2) (d10 : i1 ≠ i2)
    (e1 : TO ≠ a) (e2 : TO ≠ b) :
    Turn P w K (.Tuple elts kk tpos) (ItzB K k k' a b) [z, TI, TO, i1, i2] z (fun i h => IsZip h z TI TO .none ∧ IsTupOf2 h TI (.ref i1) (.ref i2) ∧ (∃ x y, IsTupOf2 h TO x y) ∧ ItAt k h i1 a i ∧ ItAt k' h i2 b i) where
  mem := by simp
  obj := fun i h st c hc => by
    obtain ⟨hz, hTI, ⟨x, y, hTO⟩, h1, h2⟩ := st
    obtain ⟨o1, e1, d1, _⟩ := ItAt.obj h1
    obtain ⟨o2, e2, d2, _⟩ := ItAt.obj h2
    have e' : c = z ∨ c = TI ∨ c = TO ∨ c = i1 ∨ c = i2 := by simpa using hc
    rcases e' with q | q | q | q | q
    · rw [q]; exact ⟨_, hz, fun v q => nomatch q⟩
    · rw [q]; exact ⟨_, hTI, fun v q => nomatch q⟩
    · rw [q]; exact ⟨_, hTO, fun v q => nomatch q⟩
    · rw [q]; exact ⟨o1, e1, d1⟩
    · rw [q]; exact ⟨o2, e2, d2⟩
  keep := fun i h h' st q => by
    obtain ⟨hz, hTI, ⟨x, y, hTO⟩, h1, h2⟩ := st
    exact ⟨q z (by simp) _ hz, q TI (by simp) _ hTI, ⟨x, y, q TO (by simp) _ hTO⟩, ItAt.keep h1 fun o r => q i1 (by simp) o r, ItAt.keep h2 fun o r => q i2 (by simp) o r⟩
  item := by
    intro X hP hw hK hc i pins s σ H E I hf st hg
    subst hP hw hK
    obtain ⟨hz, hTI, ⟨x0, y0, hTO⟩, h1, h2⟩ := st
    obtain ⟨xs, ys, x, y, hqx, hqy, hx, hy⟩ := hg
    obtain ⟨its, rv, p⟩ := inv_sq I hqx
    obtain ⟨its2, rv2, p2⟩ := inv_sq I hqy
    obtain ⟨u, hu, ru⟩ := rv.get hx
    obtain ⟨u2, hu2, ru2⟩ := rv2.get hy
    have hzl : z < s.heap.objs.size := Heap.lt_size hz
    have za : a ≠ z := IsAt.ne p hz znl znt
    have zb : b ≠ z := IsAt.ne p2 hz znl znt
    have S : ZipSep2 z TI TO i1 i2 [i1, a] [i2, b] := ⟨d1, d2, d3, d4, by simp, by simp [d6, Ne.symm za], by simp [d8, e1], d5, by simp, by simp [d7, Ne.symm zb], by simp [d9, e2], by simp [d10, Ne.symm (ItAt.apart h1 p2)], by simp [Ne.symm d10, Ne.symm (ItAt.apart h2 p)]⟩
    refine wpAny_pyNext_zipD2_item S (drw (A := X.A.in1) k (I.ok.hd hc) i1 a (ItAt.apart h1 p) its.toArray) (drw (A := X.A.in1) k' (I.ok.hd hc) i2 b (ItAt.apart h2 p2) its2.toArray) hz hTI hTO ⟨h1, p⟩ ⟨h2, p2⟩ (by have := (List.getElem?_eq_some_iff.mp hu).1; simpa using this) (by have := (List.getElem?_eq_some_iff.mp hu2).1; simpa using this) fun x' y' h' tk hx' hy' z' TO' h1' h2' hT hsz hk => ?_
    have ex : x' = u := by
      have q1 : its.toArray[i]? = some x' := hx'
      have q2 : its.toArray[i]? = some u := by simpa using hu
      rw [q1] at q2
      exact Option.some.inj q2
    have ey : y' = u2 := by
      have q1 : its2.toArray[i]? = some y' := hy'
      have q2 : its2.toArray[i]? = some u2 := by simpa using hu2
      rw [q1] at q2
      exact Option.some.inj q2
    subst ex ey
    refine ⟨_, rfl, wpAny_letOwnedTupleGo_zip (s := { s with heap := h', toks := tk }) z' fun h'' z'' sb => ?_⟩
    have hT2 : h''.get? s.heap.objs.size = some { cls := .type "tuple", data := .seq #[x', y'] } := (sb.2 _ (Nat.ne_of_gt hzl)).trans hT
    have new : ObjOk X.prog X.w (upd H s.heap.objs.size (.tup [x, y])) h'' s.heap.objs.size (.tup [x, y]) :=
      ⟨by show 2 ≤ sizeLine; decide, [x', y'], .cons ru (.cons ru2 .nil), ⟨_, hT2, rfl, _, rfl⟩⟩
    have I1 : Inv X pins σ (upd H s.heap.objs.size (.tup [x, y])) { s with heap := h'', toks := tk } :=
      I.turnedNew (t' := tk) (ch := [z, TI, TO, i1, i2]) (fun c o hb q => (sb.2 c (fun q' => hb (by simp [q']))).trans (hk c o (fun q' => hb (by simp [q'])) (fun q' => hb (by simp [q'])) (fun q' => hb (by simp [q'])) (fun q' => hb (by simp [q'])) q)) hf (Nat.le_refl _) new
    refine ⟨.ref s.heap.objs.size, _, I1, rfl, ⟨_, x, y, rfl, I.hok.fresh (Nat.le_refl _), rfl, fun l hl => by rw [inv_sq_inj I hl hqx]; exact hx, fun l hl => by rw [inv_sq_inj I hl hqy]; exact hy⟩, ⟨z'', ?_, ⟨x', y', ?_⟩, ?_, ?_⟩, fun c hcm => ?_⟩
    · exact (sb.2 _ d1).trans (hk _ _ d1 d3 d4 d5 hTI)
    · exact (sb.2 _ d2).trans TO'
    · exact ItAt.keep h1'.1 fun o q => (sb.2 _ (Ne.symm d6)).trans q
    · exact ItAt.keep h2'.1 fun o q => (sb.2 _ (Ne.symm d7)).trans q
    · have hlt : c < s.heap.objs.size := by
        have e' : c = z ∨ c = TI ∨ c = TO ∨ c = i1 ∨ c = i2 := by simpa using hcm
        rcases e' with q | q | q | q | q
        · rw [q]; exact hzl
        · rw [q]; exact Heap.lt_size hTI
        · rw [q]; exact Heap.lt_size hTO
        · rw [q]; obtain ⟨_, e1, _⟩ := ItAt.obj h1; exact Heap.lt_size e1
        · rw [q]; obtain ⟨_, e2, _⟩ := ItAt.obj h2; exact Heap.lt_size e2
      rw [upd_ne (Nat.ne_of_lt hlt)]
      exact (hf c hcm).1
  done := by
    intro X hP hw hK hc i pins s σ H E I hf st hg
    subst hP hw hK
    obtain ⟨hz, hTI, ⟨x0, y0, hTO⟩, h1, h2⟩ := st
    obtain ⟨xs, ys, hqx, hqy, hend⟩ := hg
    obtain ⟨its, rv, p⟩ := inv_sq I hqx
    obtain ⟨its2, rv2, p2⟩ := inv_sq I hqy
    have l1 := rv.length
    have l2 := rv2.length
    have za : a ≠ z := IsAt.ne p hz znl znt
    have zb : b ≠ z := IsAt.ne p2 hz znl znt
    have S : ZipSep2 z TI TO i1 i2 [i1, a] [i2, b] := ⟨d1, d2, d3, d4, by simp, by simp [d6, Ne.symm za], by simp [d8, e1], d5, by simp, by simp [d7, Ne.symm zb], by simp [d9, e2], by simp [d10, Ne.symm (ItAt.apart h1 p2)], by simp [Ne.symm d10, Ne.symm (ItAt.apart h2 p)]⟩
    exact wpAny_pyNext_zipD2_end S (drw (A := X.A.in1) k (I.ok.hd hc) i1 a (ItAt.apart h1 p) its.toArray) (drw (A := X.A.in1) k' (I.ok.hd hc) i2 b (ItAt.apart h2 p2) its2.toArray) hz hTI hTO ⟨h1, p⟩ ⟨h2, p2⟩ (by simp; omega) (by simp; omega) (by simp; omega) fun h' tk hk => ⟨rfl, I.turnedL (t' := tk) (ch := [z, TI, TO, i1, i2]) (fun c o hb q =>
      hk c o (fun q' => hb (by simp [q'])) (fun q' => hb (by simp [q'])) (fun q' => hb (by simp [q'])) (fun q' => hb (by simp [q'])) q) hf⟩
  self := fun A i s Q E st h => wpAny_pyIter_zip st.1 h
def iZpB (K : PySem.W.Frag) (ta : TA) : TI := fun σ H R => ta σ H fun vs H1 => ∃ k k' a b xs ys, vs = [.ref a, .ref b] ∧ Sq K k H1 a xs ∧ Sq K k' H1 b ys ∧ R (ItzB K k k' a b) H1
theorem pi_zipB {X : Cx} {e e2 : Expr} {ta : TA} {p pos tpos : Pos} {elts : List Expr} {kk : Nat} (hg : Gl X "zip") (hm : X.mg "zip" = none) (ha : PA X [e, e2] ta)
    (hs : starEach [e, e2] X.env = (false, eval e X.env) :: starEach [e2] X.env := by rfl) (hpl : (backTo pos (starEach [e2] X.env)).any (·.1) = false := by rfl) :
    PI X (.Tuple elts kk tpos) (.Call (.Name "zip" p) [e, e2] [] pos) (iZpB X.K ta) := by
  refine ⟨fun pins s σ H R I h => ?_⟩
  refine Call_ (ld_blt I hg hm PyProof.Rows.boot_zip (PyProof.Rows.callWith_type1 (thn (ha.run pos pins s σ H _ I h) fun us s1 ⟨vs, H1, I1, r1, q1⟩ => ?_) hs hpl))
  obtain ⟨k, k', a, b, xs, ys, ex, hqx, hqy, q⟩ := q1
  subst ex
  cases r1 with
  | cons r rr =>
    cases rr with
    | cons r' rr =>
      cases rr
      cases r
      cases r'
      obtain ⟨its, rv, p1⟩ := inv_sq I1 hqx
      obtain ⟨its2, rv2, p2⟩ := inv_sq I1 hqy
      have la : a < s1.heap.objs.size := by obtain ⟨_, e, _⟩ := IsAt.cls p1; exact Heap.lt_size e
      have lb : b < s1.heap.objs.size := by obtain ⟨_, e, _⟩ := IsAt.cls p2; exact Heap.lt_size e
      have D := PySem.W.ktu_apart s1.heap.objs.size a b la lb
      refine zip_begins2 (beg k a its.toArray) (beg k' b its2.toArray) p1 p2 fun h' hz hTI hTO h1 h2 hsz hk => wpAny_pyIter_zip hz ?_
      have I2 : Inv X pins σ H1 { s1 with heap := h' } := I1.kept (t' := s1.toks) hk
      refine ⟨s1.heap.objs.size + 4, [s1.heap.objs.size + 4, s1.heap.objs.size + 2, s1.heap.objs.size + 3, s1.heap.objs.size, s1.heap.objs.size + 1], _, _, H1, rfl, I2,
        turn_zipB k k' D.TIz D.TOz D.TITO D.TIi1 D.TIi2 (Ne.symm D.i1z) (Ne.symm D.i2z) D.TOi1 D.TOi2 D.i12 (Ne.symm D.l1TO) (Ne.symm D.l2TO), ⟨hz, hTI, ⟨_, _, hTO⟩, itO_at k h1, itO_at k' h2⟩, fun c hcm => ?_, q⟩
      have e' : c = s1.heap.objs.size + 4 ∨ c = s1.heap.objs.size + 2 ∨ c = s1.heap.objs.size + 3 ∨ c = s1.heap.objs.size ∨ c = s1.heap.objs.size + 1 := by simpa using hcm
      have hle : s1.heap.objs.size ≤ c := by
        rcases e' with z | z | z | z | z
        · rw [z]; exact Nat.le_add_right _ _
        · rw [z]; exact Nat.le_add_right _ _
        · rw [z]; exact Nat.le_add_right _ _
        · rw [z]; exact Nat.le_refl _
        · rw [z]; exact Nat.le_add_right _ _
      exact I1.fpOk hle (I1.hok.fresh hle)
end Zk

set_option Elab.async false
set_option linter.all false
set_option maxRecDepth 100000
set_option maxHeartbeats 1000000
/-! Sources, targets, loops, comprehensions and generator expressions without addresses. -/
namespace Za
open PySem PySem.Spec PyProof.Rows L2 Zk Zg

/-! ### places that nobody names any more -/
mutual
def D.bel (n : Nat) : D → Prop
  | .tup l => bels n l
  | .ro l => bels n l
  | .loc k => k < n
  | _ => True
def bels (n : Nat) : List D → Prop
  | [] => True
  | d :: r => d.bel n ∧ bels n r
end
def Cell.bel (n : Nat) : Cell → Prop
  | .lst l => bels n l
def Closed (n : Nat) (S : Sto) : Prop := ∀ c ∈ S, c.bel n
section
variable {K : PySem.W.Frag} {mg : Str → Option Value} {T : TabSet} {μ₀ μ μ' ν : List Addr} {H₀ H H' : Hp} {S S' G : Sto} {σ σ' : L2.St} {ρ : Vars}
mutual
theorem Rp.drop : ∀ {v : V} {d : D}, Rp K mg (μ ++ ν) H v d → d.bel μ.length → Rp K mg μ H v d
  | _, _, .non, _ => .non
  | _, _, .bl b, _ => .bl b
  | _, _, .int i, _ => .int i
  | _, _, .str s, _ => .str s
  | _, _, .tup h r, b => .tup h (Rps.drop' r (by simpa only [D.bel] using b))
  | _, _, .ro h r, b => .ro h (Rps.drop' r (by simpa only [D.bel] using b))
  | _, _, .loc h, b => .loc (by rw [List.getElem?_append_left (by simpa only [D.bel] using b)] at h; exact h)
  | _, _, .fn h, _ => .fn h
theorem Rps.drop' : ∀ {vs : List V} {ds : List D}, Rps K mg (μ ++ ν) H vs ds → bels μ.length ds → Rps K mg μ H vs ds
  | _, _, .nil, _ => .nil
  | _, _, .cons a r, b => .cons (Rp.drop a (by simp only [bels] at b; exact b.1)) (Rps.drop' r (by simp only [bels] at b; exact b.2))
end
theorem Ok.drop (a : Ok K mg T μ₀ H₀ (μ ++ ν) H (S ++ G)) (le : μ₀ <+: μ) (hl : μ.length = S.length) (c : Closed S.length S) : Ok K mg T μ₀ H₀ μ H S := by
  refine ⟨le, a.ext, hl, (List.nodup_append.mp a.st.nd).1, fun l b c' h1 h2 => ?_, a.st.tab, a.st.lam⟩
  have hlt := (List.getElem?_eq_some_iff.mp h1).1
  have q := a.st.at_ l b c' (by rw [List.getElem?_append_left hlt]; exact h1) (by rw [List.getElem?_append_left (by rw [← hl]; exact hlt)]; exact h2)
  have hc := c c' (List.mem_of_getElem? h2)
  cases c' with
  | lst ds =>
    obtain ⟨vs, e, r⟩ := q
    exact ⟨vs, e, r.drop' (by rw [hl]; exact hc)⟩

/-! ### the block's own names -/
def wipeD (ρ : Vars) : List Nat → Vars
  | [] => ρ
  | v :: vs => (wipeD ρ vs).set v none
theorem wipeD_length (ρ : Vars) : ∀ vs : List Nat, (wipeD ρ vs).length = ρ.length
  | [] => rfl
  | v :: vs => by unfold wipeD; rw [List.length_set, wipeD_length ρ vs]
theorem wipeD_some {ρ : Vars} {i : Nat} {x : D} : ∀ {vs : List Nat}, (wipeD ρ vs)[i]? = some (some x) → ρ[i]? = some (some x) ∧ i ∉ vs
  | [], h => ⟨h, by simp⟩
  | v :: vs, h => by
    unfold wipeD at h
    by_cases hi : v = i
    · subst hi
      by_cases hv : v < (wipeD ρ vs).length
      · rw [List.getElem?_set_self hv] at h; cases h
      · rw [List.getElem?_eq_none (by simpa using hv)] at h; cases h
    · rw [List.getElem?_set_ne hi] at h
      obtain ⟨h1, h2⟩ := wipeD_some h
      exact ⟨h1, by simp only [List.mem_cons, not_or]; exact ⟨fun e => hi e.symm, h2⟩⟩
theorem wipe_keep {i : Nat} {x : V} : ∀ {vs : List Nat}, σ[i]? = some (some x) → i ∉ vs → (wipe σ vs)[i]? = some (some x)
  | [], h, _ => h
  | v :: vs, h, hn => by
    simp only [List.mem_cons, not_or] at hn
    unfold wipe
    rw [List.getElem?_set_ne (Ne.symm hn.1)]
    exact wipe_keep h hn.2
theorem RV.wipe (r : RV K mg μ H σ ρ) (vs : List Nat) : RV K mg μ H (L2.wipe σ vs) (wipeD ρ vs) := by
  refine ⟨by rw [wipe_length, wipeD_length]; exact r.len, fun i d h => ?_⟩
  obtain ⟨h1, h2⟩ := wipeD_some h
  obtain ⟨v, h3, h4⟩ := r.at_ i d h1
  exact ⟨v, wipe_keep h3 h2, h4⟩
theorem wipe_set_out {i : Nat} {x : Option V} : ∀ {vs : List Nat}, i ∉ vs → wipe (σ.set i x) vs = (wipe σ vs).set i x
  | [], _ => rfl
  | v :: vs, hn => by
    simp only [List.mem_cons, not_or] at hn
    unfold wipe
    rw [wipe_set_out hn.2, List.set_comm _ _ hn.1]
theorem wipe_set {i : Nat} {x : Option V} : ∀ {vs : List Nat}, i ∈ vs → wipe (σ.set i x) vs = wipe σ vs
  | v :: vs, h => by
    unfold wipe
    by_cases hi : i ∈ vs
    · rw [wipe_set hi]
    · have e : i = v := by
        rcases List.mem_cons.mp h with z | z
        · exact z
        · exact absurd z hi
      subst e
      rw [wipe_set_out hi, List.set_set]
theorem wipe_sub : ∀ {vs ws : List Nat}, (∀ v ∈ vs, v ∈ ws) → wipe (wipe σ vs) ws = wipe σ ws
  | [], ws, _ => rfl
  | v :: vs, ws, h => by
    show wipe ((wipe σ vs).set v none) ws = _
    rw [wipe_set (h v List.mem_cons_self), wipe_sub fun u hu => h u (List.mem_cons_of_mem _ hu)]
theorem wipe_idem (vs : List Nat) : wipe (wipe σ vs) vs = wipe σ vs := wipe_sub fun _ h => h
end

/-! ### sources -/
/-- what is walked hands out these, as long as the store stays so -/
structure PIt (K : PySem.W.Frag) (mg : Str → Option Value) (T : TabSet) (μ₁ : List Addr) (H₁ : Hp) (J : It) (items : List D) (still : Sto → Prop) : Prop where
  step : ∀ μ H S i d, Ok K mg T μ₁ H₁ μ H S → still S → items[i]? = some d → J.go i H ∧ ∀ x H', J.yld i H x H' → Ok K mg T μ H μ H' S ∧ Rp K mg μ H' x d
  stop : ∀ μ H S, Ok K mg T μ₁ H₁ μ H S → still S → J.stop items.length H
abbrev PTI := Vars → Sto → (List D → (Sto → Prop) → Sto → Prop) → Prop
abbrev PTG := D → Vars → Sto → (Vars → Sto → Prop) → Prop
abbrev PTGs := List D → Vars → Sto → (Vars → Sto → Prop) → Prop
section
variable (K : PySem.W.Frag) (mg : Str → Option Value) (T : TabSet) (μ₀ : List Addr) (H₀ : Hp)
def EmbI (t : PTI) : TI := fun σ H R => ∃ ρ S μ Rq, Ok K mg T μ₀ H₀ μ H S ∧ RV K mg μ H σ ρ ∧ t ρ S Rq ∧ ∀ items still S', Rq items still S' → ∀ J H' μ', Ok K mg T μ H μ' H' S' → PIt K mg T μ' H' J items still → R J H'
def EmbG (vs : List Nat) (t : PTG) : TG := fun v σ H Q => ∃ d ρ S μ R, Ok K mg T μ₀ H₀ μ H S ∧ RV K mg μ H σ ρ ∧ Rp K mg μ H v d ∧ t d ρ S R ∧
  ∀ ρ' S', R ρ' S' → ∀ σ' H' μ', wipe σ' vs = wipe σ vs → Ok K mg T μ H μ' H' S' → RV K mg μ' H' σ' ρ' → Q σ' H'
def EmbGs (vs : List Nat) (t : PTGs) : TGs := fun v σ H Q => ∃ d ρ S μ R, Ok K mg T μ₀ H₀ μ H S ∧ RV K mg μ H σ ρ ∧ Rps K mg μ H v d ∧ t d ρ S R ∧
  ∀ ρ' S', R ρ' S' → ∀ σ' H' μ', wipe σ' vs = wipe σ vs → Ok K mg T μ H μ' H' S' → RV K mg μ' H' σ' ρ' → Q σ' H'
end
abbrev PPI (T : TabSet) (μ₀ : List Addr) (H₀ : Hp) (X : Cx) (tg e : Expr) (t : PTI) : Prop := PI X tg e (EmbI X.K X.mg T μ₀ H₀ t)
abbrev PPG (T : TabSet) (μ₀ : List Addr) (H₀ : Hp) (vs : List Nat) (X : Cx) (tg : Expr) (t : PTG) : Prop := PG X tg (EmbG X.K X.mg T μ₀ H₀ vs t)
abbrev PPGs (T : TabSet) (μ₀ : List Addr) (H₀ : Hp) (vs : List Nat) (X : Cx) (tg : List Expr) (t : PTGs) : Prop := PGs X tg (EmbGs X.K X.mg T μ₀ H₀ vs t)
abbrev PPTs (T : TabSet) (μ₀ : List Addr) (H₀ : Hp) (X : Cx) (e : List Expr) (t : PTT) : Prop := PTs X e (EmbT X.K X.mg T μ₀ H₀ t)
theorem PI.imp {X : Cx} {tg e : Expr} {t t' : TI} (h : PI X tg e t) (i : ∀ σ H Q, t' σ H Q → t σ H Q) : PI X tg e t' := ⟨fun pins s σ H Q I q => h.run pins s σ H Q I (i σ H Q q)⟩
theorem PG.imp {X : Cx} {e : Expr} {t t' : TG} (h : PG X e t) (i : ∀ v σ H Q, t' v σ H Q → t v σ H Q) : PG X e t' := ⟨fun pins s σ H v u Q I r q => h.run pins s σ H v u Q I r (i v σ H Q q)⟩
theorem PGs.imp {X : Cx} {e : List Expr} {t t' : TGs} (h : PGs X e t) (i : ∀ v σ H Q, t' v σ H Q → t v σ H Q) : PGs X e t' := ⟨fun pins s σ H v u Q I r q => h.run pins s σ H v u Q I r (i v σ H Q q)⟩
theorem PTs.imp {X : Cx} {e : List Expr} {t t' : TT} (h : PTs X e t) (i : ∀ σ H Q, t' σ H Q → t σ H Q) : PTs X e t' := ⟨fun pins s σ H Q I q => h.run pins s σ H Q I (i σ H Q q)⟩

section
variable {X : Cx} {T : TabSet} {μ₀ : List Addr} {H₀ : Hp} {a b e tg : Expr} {es : List Expr} {te ta : PTE} {t : PTA} {pos p tpos : Pos} {elts : List Expr} {kk : Nat} {vs : List Nat}
/-- a list or a tuple -/
def Its (K : PySem.W.Frag) : Knd → Addr → It
  | .l, a => Itl K a
  | .t, a => Itt K a
def iAny (K : PySem.W.Frag) (tl : TE) : TI := fun σ H R => tl σ H fun x H1 => ∃ k a xs, x = .ref a ∧ Sq K k H1 a xs ∧ R (Its K k a) H1
theorem pi_any {l : Expr} {tl : TE} (hl : PE X l tl) : PI X tg l (iAny X.K tl) := by
  refine ⟨fun pins s σ H R I h => ?_⟩
  refine thn (hl.run pins s σ H _ I h) fun v s1 ⟨x, H1, I1, r1, q1⟩ => ?_
  obtain ⟨k, a, xs, e, hq, q⟩ := q1
  subst e
  cases r1
  obtain ⟨its, rv, p⟩ := inv_sq I1 hq
  refine (beg k a its.toArray).iter _ _ _ _ _ _ p ?_
  cases k
  · exact pi_one (tk := s1.toks) I1 _ (turn_list a _) ⟨_, Heap.get?_push_size _ rfl, rfl, rfl⟩ q
  · exact pi_one (tk := s1.toks) I1 _ (turn_tuple a _) ⟨_, Heap.get?_push_size _ rfl, rfl, rfl⟩ q
def D.knd : D → Knd
  | .tup _ => .t
  | _ => .l
theorem rp_sq {K : PySem.W.Frag} {mg : Str → Option Value} {μ : List Addr} {H : Hp} {S : Sto} {d : D} {ds : List D} {v : V} {T : TabSet} (st : RSt K mg T μ H S) (r : Rp K mg μ H v d) (h : seqOf S d = some ds) :
    ∃ p ws, v = .ref p ∧ Rps K mg μ H ws ds ∧ Sq K d.knd H p ws := by
  obtain ⟨p, ws, e, r', q⟩ := rp_seq st r h
  refine ⟨p, ws, e, r', ?_⟩
  rcases q with ⟨⟨es, rfl⟩, q⟩ | ⟨hn, q⟩
  · exact q
  · cases d with
    | tup l => exact absurd rfl (hn l)
    | _ => exact q
theorem rps_some {K : PySem.W.Frag} {mg : Str → Option Value} {μ : List Addr} {H : Hp} {ws : List V} {ds : List D} {i : Nat} {d : D} (r : Rps K mg μ H ws ds) (h : ds[i]? = some d) : ∃ w, ws[i]? = some w ∧ Rp K mg μ H w d := Rps.get r h
def pSq (te : PTE) : PTI := fun ρ S R => te ρ S fun d S1 => ∃ xs, seqOf S1 d = some xs ∧ R xs (fun S' => seqOf S' d = some xs) S1
theorem its_pit {K : PySem.W.Frag} {mg : Str → Option Value} {T : TabSet} {μ : List Addr} {H : Hp} {d : D} {a : Addr} {xs : List D} (r : Rp K mg μ H (.ref a) d) : PIt K mg T μ H (Its K d.knd a) xs (fun S' => seqOf S' d = some xs) := by
  refine ⟨fun μ' H' S i x ok hs hx => ?_, fun μ' H' S ok hs => ?_⟩
  · obtain ⟨p, ws, ev, rs, q⟩ := rp_sq ok.st (ok.rp r) hs
    cases ev
    obtain ⟨w, hw, rw'⟩ := rs.get hx
    have h1 : (Its K d.knd a).go i H' := by
      cases hk : d.knd <;> rw [hk] at q <;> exact ⟨ws, w, q, hw⟩
    refine ⟨h1, fun y H2 hy => ?_⟩
    have h2 : H2 = H' ∧ y = w := by
      cases hk : d.knd <;> rw [hk] at q hy
      · obtain ⟨e1, e2⟩ := hy
        exact ⟨e1, Option.some.inj ((e2 ws q).symm.trans hw)⟩
      · obtain ⟨e1, e2⟩ := hy
        exact ⟨e1, Option.some.inj ((e2 ws q).symm.trans hw)⟩
    obtain ⟨rfl, rfl⟩ := h2
    exact ⟨ok.here, rw'⟩
  · obtain ⟨p, ws, ev, rs, q⟩ := rp_sq ok.st (ok.rp r) hs
    cases ev
    cases hk : d.knd <;> rw [hk] at q <;> exact ⟨ws, q, Nat.le_of_eq rs.length⟩
theorem ci_seq (he : PPE T μ₀ H₀ X e te) : PPI T μ₀ H₀ X tg e (pSq te) := PI.imp (pi_any he) fun σ H R ⟨ρ, S, μ, Rq, ok, rv, q, k⟩ =>
  ⟨ρ, S, μ, _, ok, rv, q, fun d S1 ⟨xs, hs, q1⟩ v H1 μ1 ok1 r1 => by
    obtain ⟨p, ws, ev, rs, q2⟩ := rp_sq ok1.st r1 hs
    subst ev
    exact ⟨_, p, ws, rfl, q2, k xs _ S1 q1 _ H1 μ1 ok1 (its_pit r1)⟩⟩
def rngD (lo : Int) (n : Nat) : List D := (List.range n).map fun i => .int (lo + (i : Nat))
theorem rngD_get {lo : Int} {n i : Nat} {d : D} (h : (rngD lo n)[i]? = some d) : i < n ∧ d = .int (lo + (i : Nat)) := by
  unfold rngD at h
  rw [List.getElem?_map] at h
  by_cases hi : i < n
  · rw [List.getElem?_range hi] at h
    exact ⟨hi, (Option.some.inj h).symm⟩
  · rw [List.getElem?_eq_none (by simpa using hi)] at h
    cases h
theorem rng_pit {K : PySem.W.Frag} {mg : Str → Option Value} {T : TabSet} {μ : List Addr} {H : Hp} {lo : Int} {n : Nat} : PIt K mg T μ H (Itr lo n) (rngD lo n) (fun _ => True) := by
  refine ⟨fun μ' H' S i x ok _ hx => ?_, fun μ' H' S ok _ => ?_⟩
  · obtain ⟨hi, rfl⟩ := rngD_get hx
    refine ⟨hi, fun y H2 ⟨e1, e2⟩ => ?_⟩
    subst e1; subst e2
    exact ⟨ok.here, .int _⟩
  · show n ≤ (rngD lo n).length
    simp [rngD]
def pRng1 (t : PTA) : PTI := fun ρ S R => t ρ S fun ds S1 => ∃ j : Int, ds = [.int j] ∧ -(2 ^ 62) ≤ j ∧ j < 2 ^ 62 ∧ R (rngD 0 j.toNat) (fun _ => True) S1
theorem ci_rng1 (hg : Gl X "range") (hm : X.mg "range" = none) (ha : PPA T μ₀ H₀ X [a] t) (hs : starEach [a] X.env = [(false, eval a X.env)] := by rfl) : PPI T μ₀ H₀ X tg (.Call (.Name "range" p) [a] [] pos) (pRng1 t) :=
  PI.imp (pi_range1 hg hm ha hs) fun σ H R ⟨ρ, S, μ, Rq, ok, rv, q, k⟩ => ⟨ρ, S, μ, _, ok, rv, q, fun ds S1 ⟨j, e, h1, h2, q1⟩ ws H1 μ1 ok1 r1 => by
    subst e
    cases r1 with
    | cons r1 r2 =>
      cases r2
      cases r1
      exact ⟨j, rfl, h1, h2, k _ _ S1 q1 _ H1 μ1 ok1 rng_pit⟩⟩
def enumD (xs : List D) : List D := xs.zipIdx.map fun x => .tup [.int (x.2 : Nat), x.1]
theorem enumD_get {xs : List D} {i : Nat} {d : D} (h : (enumD xs)[i]? = some d) : ∃ x, xs[i]? = some x ∧ d = .tup [.int (i : Nat), x] := by
  unfold enumD at h
  rw [List.getElem?_map, List.getElem?_zipIdx] at h
  cases hx : xs[i]? with
  | none => rw [hx] at h; cases h
  | some x =>
    rw [hx] at h
    refine ⟨x, rfl, ?_⟩
    have h := (Option.some.inj h).symm
    simpa using h
theorem enum_pit {K : PySem.W.Frag} {mg : Str → Option Value} {T : TabSet} {μ : List Addr} {H : Hp} {d : D} {a : Addr} {xs : List D} (r : Rp K mg μ H (.ref a) d) : PIt K mg T μ H (IteB K d.knd a) (enumD xs) (fun S' => seqOf S' d = some xs) := by
  refine ⟨fun μ' H' S i y ok hs hy => ?_, fun μ' H' S ok hs => ?_⟩
  · obtain ⟨x, hx, rfl⟩ := enumD_get hy
    obtain ⟨p, ws, ev, rs, q⟩ := rp_sq ok.st (ok.rp r) hs
    cases ev
    obtain ⟨w, hw, rw'⟩ := rs.get hx
    refine ⟨⟨ws, w, q, hw⟩, fun v H2 ⟨B, w', e1, hn, e2, e3⟩ => ?_⟩
    have ew : w' = w := Option.some.inj ((e3 ws q).symm.trans hw)
    subst e1; subst e2; subst ew
    have n := ok.new (o := .tup [.int (i : Nat), w']) hn
    exact ⟨n, .tup (.inl (.inl upd_same)) (.cons (.int _) (.cons (n.rp rw') .nil))⟩
  · obtain ⟨p, ws, ev, rs, q⟩ := rp_sq ok.st (ok.rp r) hs
    cases ev
    exact ⟨ws, q, by rw [rs.length]; simp [enumD]⟩
def pEn (t : PTA) : PTI := fun ρ S R => t ρ S fun ds S1 => ∃ d xs, ds = [d] ∧ seqOf S1 d = some xs ∧ R (enumD xs) (fun S' => seqOf S' d = some xs) S1
theorem ci_enum (hg : Gl X "enumerate") (hm : X.mg "enumerate" = none) (ha : PPA T μ₀ H₀ X [e] t) (hs : starEach [e] X.env = [(false, eval e X.env)] := by rfl) : PPI T μ₀ H₀ X (.Tuple elts kk tpos) (.Call (.Name "enumerate" p) [e] [] pos) (pEn t) :=
  PI.imp (pi_enumB hg hm ha hs) fun σ H R ⟨ρ, S, μ, Rq, ok, rv, q, k⟩ => ⟨ρ, S, μ, _, ok, rv, q, fun ds S1 ⟨d, xs, e, hq, q1⟩ ws H1 μ1 ok1 r1 => by
    subst e
    cases r1 with
    | cons r1 r2 =>
      cases r2
      obtain ⟨p, zs, ev, rs, q2⟩ := rp_sq ok1.st r1 hq
      subst ev
      exact ⟨_, p, zs, rfl, q2, k _ _ S1 q1 _ H1 μ1 ok1 (enum_pit r1)⟩⟩
def zipD (xs ys : List D) : List D := List.zipWith (fun x y => .tup [x, y]) xs ys
theorem zip_pit {K : PySem.W.Frag} {mg : Str → Option Value} {T : TabSet} {μ : List Addr} {H : Hp} {d d' : D} {a b : Addr} {xs ys : List D} (r : Rp K mg μ H (.ref a) d) (r' : Rp K mg μ H (.ref b) d') :
    PIt K mg T μ H (ItzB K d.knd d'.knd a b) (zipD xs ys) (fun S' => seqOf S' d = some xs ∧ seqOf S' d' = some ys) := by
  refine ⟨fun μ' H' S i y ok hs hy => ?_, fun μ' H' S ok hs => ?_⟩
  · have hy : (List.zipWith (fun x y => D.tup [x, y]) xs ys)[i]? = some y := hy
    rw [List.getElem?_zipWith] at hy
    cases hx : xs[i]? with
    | none => rw [hx] at hy; cases hy
    | some x =>
      cases hz : ys[i]? with
      | none => rw [hx, hz] at hy; cases hy
      | some z =>
        rw [hx, hz] at hy
        have ey : D.tup [x, z] = y := Option.some.inj hy
        subst ey
        obtain ⟨p, ws, ev, rs, q⟩ := rp_sq ok.st (ok.rp r) hs.1
        cases ev
        obtain ⟨p2, ws2, ev, rs2, q2⟩ := rp_sq ok.st (ok.rp r') hs.2
        cases ev
        obtain ⟨w, hw, rw'⟩ := rs.get hx
        obtain ⟨w2, hw2, rw2⟩ := rs2.get hz
        refine ⟨⟨ws, ws2, w, w2, q, q2, hw, hw2⟩, fun v H2 ⟨B, u, u2, e1, hn, e2, e3, e4⟩ => ?_⟩
        have ew : u = w := Option.some.inj ((e3 ws q).symm.trans hw)
        have ew2 : u2 = w2 := Option.some.inj ((e4 ws2 q2).symm.trans hw2)
        subst e1; subst e2; subst ew; subst ew2
        have n := ok.new (o := .tup [u, u2]) hn
        exact ⟨n, .tup (.inl (.inl upd_same)) (.cons (n.rp rw') (.cons (n.rp rw2) .nil))⟩
  · obtain ⟨p, ws, ev, rs, q⟩ := rp_sq ok.st (ok.rp r) hs.1
    cases ev
    obtain ⟨p2, ws2, ev, rs2, q2⟩ := rp_sq ok.st (ok.rp r') hs.2
    cases ev
    exact ⟨ws, ws2, q, q2, by rw [rs.length, rs2.length]; simp [zipD]⟩
def pZp (t : PTA) : PTI := fun ρ S R => t ρ S fun ds S1 => ∃ d d' xs ys, ds = [d, d'] ∧ seqOf S1 d = some xs ∧ seqOf S1 d' = some ys ∧ R (zipD xs ys) (fun S' => seqOf S' d = some xs ∧ seqOf S' d' = some ys) S1
theorem ci_zip (hg : Gl X "zip") (hm : X.mg "zip" = none) (ha : PPA T μ₀ H₀ X [a, b] t) (hs : starEach [a, b] X.env = (false, eval a X.env) :: starEach [b] X.env := by rfl) (hpl : (backTo pos (starEach [b] X.env)).any (·.1) = false := by rfl) :
    PPI T μ₀ H₀ X (.Tuple elts kk tpos) (.Call (.Name "zip" p) [a, b] [] pos) (pZp t) :=
  PI.imp (pi_zipB hg hm ha hs hpl) fun σ H R ⟨ρ, S, μ, Rq, ok, rv, q, k⟩ => ⟨ρ, S, μ, _, ok, rv, q, fun ds S1 ⟨d, d', xs, ys, e, hq, hq', q1⟩ ws H1 μ1 ok1 r1 => by
    subst e
    cases r1 with
    | cons r1 r2 =>
      cases r2 with
      | cons r2 r3 =>
        cases r3
        obtain ⟨p, zs, ev, rs, q2⟩ := rp_sq ok1.st r1 hq
        subst ev
        obtain ⟨p2, zs2, ev, rs2, q3⟩ := rp_sq ok1.st r2 hq'
        subst ev
        exact ⟨_, _, p, p2, zs, zs2, rfl, q2, q3, k _ _ S1 q1 _ H1 μ1 ok1 (zip_pit r1 r2)⟩⟩

/-! ### targets -/
def pgName (i : Nat) : PTG := fun d ρ S R => R (ρ.set i (some d)) S
theorem cg_name (i : Nat) {x : Str} (hN : X.N.Nodup) (hi : X.N[i]? = some x) (hx : Loc X.env.scope x) (hv : i ∈ vs) (hf : X.fn x = true ∨ X.env.scope.names.lookup x = some .local := by first | exact .inl rfl | exact .inr rfl | assumption) :
    PPG T μ₀ H₀ vs X (.Name x pos) (pgName i) := PG.imp (pg_name hN hi hx hf) fun v σ H Q ⟨d, ρ, S, μ, R, ok, rv, r, q, k⟩ => k _ S q _ H μ (wipe_set hv) ok.here (rv.set r)
def pgNil : PTGs := fun ds ρ S R => ds = [] ∧ R ρ S
def pgCons (t : PTG) (u : PTGs) : PTGs := fun ds ρ S R => ∃ d r, ds = d :: r ∧ t d ρ S fun ρ' S' => u r ρ' S' R
theorem cgs_nil : PPGs T μ₀ H₀ vs X [] pgNil := PGs.imp pgs_nil fun v σ H Q ⟨d, ρ, S, μ, R, ok, rv, r, ⟨e, q⟩, k⟩ => by
  subst e
  cases r
  exact ⟨rfl, k _ S q _ H μ rfl ok.here rv⟩
theorem cgs_cons {g : PTG} {gs : PTGs} (h : PPG T μ₀ H₀ vs X e g) (hs : PPGs T μ₀ H₀ vs X es gs) (ha : (assignEach (e :: es) X.env).map (·.2) = assign e X.env :: (assignEach es X.env).map (·.2) := by rfl) : PPGs T μ₀ H₀ vs X (e :: es) (pgCons g gs) :=
  PGs.imp (pgs_cons h hs ha) fun v σ H Q ⟨ds, ρ, S, μ, R, ok, rv, r, ⟨d, dr, e1, q⟩, k⟩ => by
    subst e1
    cases r with
    | cons r1 r2 =>
      refine ⟨_, _, rfl, d, ρ, S, μ, _, ok, rv, r1, q, fun ρ' S' q' σ' H' μ' w1 ok' rv' => ?_⟩
      exact ⟨dr, ρ', S', μ', R, ok.trans ok', rv', ok'.rps r2, q', fun ρ2 S2 q2 σ2 H2 μ2 w2 ok2 rv2 => k ρ2 S2 q2 σ2 H2 μ2 (w2.trans w1) (ok'.trans ok2) rv2⟩
def pgTup (n : Nat) (t : PTGs) : PTG := fun d ρ S R => ∃ ds, d = .tup ds ∧ ds.length = n ∧ t ds ρ S R
theorem cg_tup {gs : PTGs} {n : Nat} {k : Nat} (hc : X.calm = true) (h : PPGs T μ₀ H₀ vs X es gs) (hn : (assignEach es X.env).length = n := by rfl) (hst : (assignEach es X.env).findIdx? (·.1) = none := by rfl) : PPG T μ₀ H₀ vs X (.Tuple es k pos) (pgTup n gs) :=
  PG.imp (pg_tup hc h hn hst) fun v σ H Q ⟨d, ρ, S, μ, R, ok, rv, r, ⟨ds, e1, hl, q⟩, kk⟩ => by
    subst e1
    cases r with
    | tup hq rs => exact ⟨_, _, rfl, hq, rs.length.trans hl, ds, ρ, S, μ, R, ok, rv, rs, q, kk⟩
end
end Za

set_option Elab.async false
set_option linter.all false
set_option maxRecDepth 100000
set_option maxHeartbeats 1000000
/-! Loops, comprehensions and generator expressions without addresses. -/
namespace Za
open PySem PySem.Spec PyProof.Rows L2 Zk Zg

section
variable {X : Cx} {T : TabSet} {μ₀ : List Addr} {H₀ : Hp} {tg iter elt c : Expr} {body : List Stmt} {ifs : List Expr} {src : PTI} {g : PTG} {tb : PTS} {tt : PTT} {te : PTE} {pos p gpos : Pos} {vs : List Nat} {scope : Scope} {own : List (Str × Nat)}

/-! ### for -/
def pFor (src : PTI) (g : PTG) (tb : PTS) : PTS := fun Dp ρ S => src ρ S fun items still S1 => ∃ W : Nat → Vars → Sto → Prop, W 0 ρ S1 ∧ (∀ i ρ' S', W i ρ' S' → still S') ∧
  (∀ i d ρ' S', items[i]? = some d → W i ρ' S' → g d ρ' S' fun ρ2 S2 => tb { Dp with nx := W (i + 1), ct := W (i + 1), bk := Dp.nx } ρ2 S2) ∧ ∀ ρ' S', W items.length ρ' S' → Dp.nx ρ' S'
theorem for_imp : ∀ D σ H, EmbS X.K X.mg T μ₀ H₀ (pFor src g tb) D σ H → tFor (EmbI X.K X.mg T μ₀ H₀ src) (EmbG X.K X.mg T μ₀ H₀ vs g) (EmbS X.K X.mg T μ₀ H₀ tb) D σ H := by
  intro D σ H ⟨ρ, S, μ, Dp, ok, rv, q, k1, k2, k3, k4⟩
  refine ⟨ρ, S, μ, _, ok, rv, q, fun items still S1 ⟨W, w0, ws, wt, we⟩ J H1 μ1 ok1 pit => ?_⟩
  refine ⟨fun i m σ' H' => i + m = items.length ∧ ∃ ρ' S' μ', Ok X.K X.mg T μ1 H1 μ' H' S' ∧ RV X.K X.mg μ' H' σ' ρ' ∧ W i ρ' S', ⟨items.length, by omega, ρ, S1, μ1, ok1.here, ok1.rv rv, w0⟩, fun i m σ' H' ⟨him, ρ', S', μ', ok', rv', w⟩ => ?_⟩
  by_cases hi : i < items.length
  · refine .inr ?_
    have hd : items[i]? = some items[i] := List.getElem?_eq_getElem hi
    obtain ⟨go, yld⟩ := pit.step μ' H' S' i _ ok' (ws _ _ _ w) hd
    refine ⟨go, fun σ2 H2 => ∃ ρ2 S2 μ2, Ok X.K X.mg T μ1 H1 μ2 H2 S2 ∧ RV X.K X.mg μ2 H2 σ2 ρ2 ∧ W (i + 1) ρ2 S2, fun σ2 H2 ⟨ρ2, S2, μ2, o2, r2, w2⟩ => ⟨m - 1, by omega, by omega, ρ2, S2, μ2, o2, r2, w2⟩, fun x H2 hy => ?_⟩
    obtain ⟨oky, rx⟩ := yld x H2 hy
    refine ⟨_, ρ', S', μ', _, ok.trans (ok1.trans (ok'.trans oky)), oky.rv rv', rx, wt i _ ρ' S' hd w, fun ρ2 S2 q2 σ2 H3 μ2 _ ok2 rv2 => ?_⟩
    have o2 := (ok'.trans oky).trans ok2
    refine ⟨ρ2, S2, μ2, _, ok.trans (ok1.trans o2), rv2, q2, fun ρ3 S3 q3 σ3 H4 μ3 ok3 rv3 => ⟨ρ3, S3, μ3, o2.trans ok3, rv3, q3⟩, fun d S3 q3 v H4 μ3 ok3 r3 => k2 d S3 q3 v H4 μ3 (ok1.trans (o2.trans ok3)) r3,
      fun ρ3 S3 q3 σ3 H4 μ3 ok3 rv3 => k1 ρ3 S3 q3 σ3 H4 μ3 (ok1.trans (o2.trans ok3)) rv3, fun ρ3 S3 q3 σ3 H4 μ3 ok3 rv3 => ⟨ρ3, S3, μ3, o2.trans ok3, rv3, q3⟩⟩
  · have e : i = items.length := by omega
    subst e
    exact .inl ⟨pit.stop μ' H' S' ok' (ws _ _ _ w), k1 _ _ (we _ _ w) _ _ μ' (ok1.trans ok') rv'⟩
theorem cs_for (vs : List Nat) (hp : PassesOwn (model X.prog X.w) X.A X.env X.xe) (hc : X.calm = true) (hi : PPI T μ₀ H₀ X tg iter src) (hg : PPG T μ₀ H₀ vs X tg g) (hb : PPSs T μ₀ H₀ X body tb)
    (hs : ∀ x, foldedSetIterable iter X.env x = pure x := by intro _; rfl) : PPS T μ₀ H₀ X (.For tg iter body [] pos) (pFor src g tb) := PS.imp (ps_for hp hc hi hg hb hs) for_imp

/-! ### a list comprehension -/
def pLc (src : PTI) (g : PTG) (tt : PTT) (te : PTE) (vs : List Nat) : PTE := fun ρ S R => src ρ S fun items still S1 => ∃ W : Nat → Sto → Prop, W 0 (S1 ++ [.lst []]) ∧ (∀ i S', W i S' → still S') ∧
  (∀ i d S', items[i]? = some d → W i S' → g d (wipeD ρ vs) S' fun ρ2 S2 => tt ρ2 S2 fun b S3 => if b = true then te ρ2 S3 fun y S4 => ∃ acc, S4[S1.length]? = some (.lst acc) ∧ acc.length < sizeLine ∧ W (i + 1) (S4.set S1.length (.lst (acc ++ [y]))) else W (i + 1) S3) ∧
  ∀ S', W items.length S' → R (.loc S1.length) S'
theorem lc_imp : ∀ σ H Q, Emb X.K X.mg T μ₀ H₀ (pLc src g tt te vs) σ H Q → tLc (EmbI X.K X.mg T μ₀ H₀ src) (EmbG X.K X.mg T μ₀ H₀ vs g) (EmbT X.K X.mg T μ₀ H₀ tt) (Emb X.K X.mg T μ₀ H₀ te) vs σ H Q := by
  intro σ H Q ⟨ρ, S, μ, R, ok, rv, q, k⟩
  refine ⟨ρ, S, μ, _, ok, rv, q, fun items still S1 ⟨W, w0, ws, wt, we⟩ J H1 μ1 ok1 pit D hD => ?_⟩
  have n1 := ok1.newLst (vs := []) (ds := []) hD .nil
  refine ⟨fun i m H' => i + m = items.length ∧ ∃ S' μ', Ok X.K X.mg T (μ1 ++ [D]) (upd H1 D (.lst [])) μ' H' S' ∧ W i S', ⟨items.length, by omega, _, _, n1.here, w0⟩, fun i m H' ⟨him, S', μ', ok', w⟩ => ?_⟩
  have hl1 : μ1.length = S1.length := ok1.st.len
  have hD1 : (μ1 ++ [D])[S1.length]? = some D := by rw [← hl1]; simp
  by_cases hi : i < items.length
  · refine .inr ?_
    have hd : items[i]? = some items[i] := List.getElem?_eq_getElem hi
    obtain ⟨go, yld⟩ := pit.step μ' H' S' i _ (n1.trans ok') (ws _ _ w) hd
    refine ⟨go, fun H2 => ∃ S2 μ2, Ok X.K X.mg T (μ1 ++ [D]) (upd H1 D (.lst [])) μ2 H2 S2 ∧ W (i + 1) S2, fun H2 ⟨S2, μ2, o2, w2⟩ => ⟨m - 1, by omega, by omega, S2, μ2, o2, w2⟩, fun x H2 hy => ?_⟩
    obtain ⟨oky, rx⟩ := yld x H2 hy
    have oA := (ok1.trans (n1.trans (ok'.trans oky)))
    refine ⟨_, wipeD ρ vs, S', μ', _, ok.trans oA, (oA.rv rv).wipe vs, rx, wt i _ S' hd w, fun ρ2 S2 q2 σ2 H3 μ2 hw ok2 rv2 => ⟨hw.trans (wipe_idem vs), ?_⟩⟩
    refine ⟨ρ2, S2, μ2, _, ok.trans (oA.trans ok2), rv2, q2, fun b S3 q3 H4 μ3 ok3 => ?_⟩
    cases b with
    | false => exact ⟨S3, μ3, (ok'.trans oky).trans (ok2.trans ok3), q3⟩
    | true =>
      refine ⟨ρ2, S3, μ3, _, ok.trans (oA.trans (ok2.trans ok3)), ok3.rv rv2, q3, fun y S4 ⟨acc, ha, hz, q4⟩ u H5 μ4 ok4 r4 => ?_⟩
      have oB := (ok'.trans oky).trans (ok2.trans (ok3.trans ok4))
      have hD4 : μ4[S1.length]? = some D := pre_get oB.le hD1
      obtain ⟨ws', e5, rs5⟩ := ok4.st.lst hD4 ha
      exact ⟨ws', e5, by rw [rs5.length]; exact hz, _, μ4, oB.trans (ok4.wrLst hD4 ha (rs5.append (.cons r4 .nil))), q4⟩
  · have e : i = items.length := by omega
    subst e
    exact .inl ⟨pit.stop μ' H' S' (n1.trans ok') (ws _ _ w), k _ _ (we _ w) _ _ μ' (ok1.trans (n1.trans ok')) (.loc (pre_get ok'.le hD1))⟩
/-- the contexts in which a comprehension's element is asked -/
abbrev BIn (X : Cx) (scope : Scope) (Pr : Cx → Prop) : Prop := ∀ (s : Shared) (H : Hp) (C : Addr) (cl : List (Str × Addr)) (fp : List Addr), Pr (X.blk s H scope (compEnvC scope cl C X.env) fp)
theorem c_lc (hc : X.calm = true) (hN : X.N.Nodup) (hi : PPI T μ₀ H₀ X tg iter src) (ok : BlkOk X.N X.env.scope scope own)
    (hg : BIn X scope fun X' => PPG T μ₀ H₀ (own.map (·.2)) X' tg g) (ht : BIn X scope fun X' => PPTs T μ₀ H₀ X' ifs tt) (he : BIn X scope fun X' => PPE T μ₀ H₀ X' elt te)
    (hs : ∀ x, foldedSetIterable iter X.env x = pure x := by intro _; rfl) : PPE T μ₀ H₀ X (.ListComp elt [⟨tg, iter, ifs, 0⟩] scope pos) (pLc src g tt te (own.map (·.2))) :=
  PE.imp (pe_lc hc hN hi ok hg ht he hs) lc_imp
/-- name = [..] on one line -/
def pAsg (te : PTE) (g : PTG) : PTS := fun Dp ρ S => te ρ S fun d S1 => g d ρ S1 Dp.nx
theorem cs_lc {i : Nat} {y : Str} {py spos : Pos} (hc : X.calm = true) (hN : X.N.Nodup) (hy : X.N[i]? = some y) (hyl : X.env.scope.names.lookup y = some .local)
    (hsw : swapsWith (.ListComp elt [⟨tg, iter, ifs, 0⟩] scope pos) (some (.Name y py)) spos.line X.env = pure true) (hi : PPI T μ₀ H₀ X tg iter src) (ok : BlkOk X.N X.env.scope scope own)
    (hg : BIn X scope fun X' => PPG T μ₀ H₀ (own.map (·.2)) X' tg g) (ht : BIn X scope fun X' => PPTs T μ₀ H₀ X' ifs tt) (he : BIn X scope fun X' => PPE T μ₀ H₀ X' elt te)
    (hs : ∀ x, foldedSetIterable iter X.env x = pure x := by intro _; rfl) :
    PPS T μ₀ H₀ X (.Assign [.Name y py] (.ListComp elt [⟨tg, iter, ifs, 0⟩] scope pos) spos) (pAsg (pLc src g tt te (own.map (·.2))) (pgName i)) :=
  PS.imp (ps_setLc hc hN hy hyl hsw hi ok hg ht he hs) fun D σ H ⟨ρ, S, μ, Dp, ok, rv, q, k1, _⟩ => lc_imp σ H _ ⟨ρ, S, μ, _, ok, rv, q, fun d S1 q1 v H1 μ1 ok1 r1 => k1 _ _ q1 _ H1 μ1 ok1 ((ok1.rv rv).set r1)⟩

/-! ### tests -/
def pYes : PTT := fun _ S R => R true S
theorem cts_nil : PPTs T μ₀ H₀ X [] pYes := PTs.imp pts_nil fun σ H Q ⟨ρ, S, μ, R, ok, rv, q, k⟩ => k _ S q H μ ok.here
theorem cts_one (h : PPT T μ₀ H₀ X c tt) : PPTs T μ₀ H₀ X [c] tt := pts_one h

/-! ### tuple(.. for ..) -/
theorem tabbed_ok {K : PySem.W.Frag} {mg : Str → Option Value} {μ : List Addr} {H H2 : Hp} {S : Sto} {P : Addr} (ok : Ok K mg T μ₀ H₀ μ H S) (hP : P ∈ T.gen) (t : GxR.Tabbed P H H2) : Ok K mg T μ H μ H2 S := by
  obtain ⟨ps, e, _⟩ := ok.st.tab P hP
  obtain ⟨t1, t2⟩ := t
  have same : ∀ b o, H b = some o → (∀ q, o ≠ .tbl q) → H2 b = H b := fun b o q hn => t2 b fun z => by
    rw [z, e] at q
    exact hn ps (Option.some.inj q).symm
  have x : Ext H H2 := ⟨fun a xs q => (same a _ q fun z => nofun).trans q, fun a o u q => (same a _ q fun z => nofun).trans q⟩
  refine ⟨List.prefix_refl _, x, ok.st.len, ok.st.nd, fun l b c h1 h2 => ?_, fun P' hP' => ?_, fun p hp => ?_⟩
  · have q := ok.st.at_ l b c h1 h2
    refine q.mono (List.prefix_refl _) x ?_
    cases c with
    | lst ds =>
      obtain ⟨vs, e1, _⟩ := q
      exact same b _ e1 fun z => nofun
  · by_cases hp : P' = P
    · rw [hp]; exact t1
    · obtain ⟨ps', e1, t3⟩ := ok.st.tab P' hP'
      exact ⟨ps', (t2 P' hp).trans e1, t3⟩
  · obtain ⟨ps', a1, a2, a3⟩ := ok.st.lam p hp
    refine ⟨ps', (t2 p.1 fun z => T.dis p hp (by rw [z]; exact hP)).trans a1, a2, fun pos cv hc => ?_⟩
    obtain ⟨c, e1, e2⟩ := a3 pos cv hc
    exact ⟨c, e1, (same c _ e2 LamX.codeO_ne).trans e2⟩
def pTupG (src : PTI) (g : PTG) (tt : PTT) (te : PTE) (vs : List Nat) : PTE := fun ρ S R => src ρ S fun items still S1 => ∃ W : Nat → List D → Sto → Prop, W 0 [] S1 ∧ (∀ i acc S', W i acc S' → still S') ∧
  (∀ i d acc S', items[i]? = some d → W i acc S' → g d (wipeD ρ vs) S' fun ρ2 S2 => tt ρ2 S2 fun b S3 => if b = true then te ρ2 S3 fun y S4 => acc.length < sizeLine ∧ W (i + 1) (acc ++ [y]) S4 else W (i + 1) acc S3) ∧
  ∀ acc S', W items.length acc S' → R (.tup acc) S'
theorem tupG_imp {P : Addr} (hP : P ∈ T.gen) : ∀ σ H Q, Emb X.K X.mg T μ₀ H₀ (pTupG src g tt te vs) σ H Q → tTupG P (EmbI X.K X.mg T μ₀ H₀ src) (EmbG X.K X.mg T μ₀ H₀ vs g) (EmbT X.K X.mg T μ₀ H₀ tt) (Emb X.K X.mg T μ₀ H₀ te) vs σ H Q := by
  intro σ H Q ⟨ρ, S, μ, R, ok, rv, q, k⟩
  refine ⟨ρ, S, μ, _, ok, rv, q, fun items still S1 ⟨W, w0, ws, wt, we⟩ J H1 μ1 ok1 pit => ⟨ok1.st.tab P hP, fun H2 ht => ?_⟩⟩
  have n1 := tabbed_ok ok1 hP ht
  refine ⟨fun i m ys H' => i + m = items.length ∧ ∃ acc S' μ', Ok X.K X.mg T μ1 H2 μ' H' S' ∧ Rps X.K X.mg μ' H' ys acc ∧ W i acc S', items.length, ⟨by omega, _, _, _, n1.here, .nil, w0⟩, fun i m ys H' ⟨him, acc, S', μ', ok', rys, w⟩ => ?_⟩
  by_cases hi : i < items.length
  · refine .inr ?_
    have hd : items[i]? = some items[i] := List.getElem?_eq_getElem hi
    obtain ⟨go, yld⟩ := pit.step μ' H' S' i _ (n1.trans ok') (ws _ _ _ w) hd
    refine ⟨go, fun zs H2' => ∃ acc S2 μ2, Ok X.K X.mg T μ1 H2 μ2 H2' S2 ∧ Rps X.K X.mg μ2 H2' zs acc ∧ W (i + 1) acc S2, fun zs H2' ⟨acc, S2, μ2, o2, rz, w2⟩ => ⟨m - 1, by omega, by omega, acc, S2, μ2, o2, rz, w2⟩, fun x H3 hy => ?_⟩
    obtain ⟨oky, rx⟩ := yld x H3 hy
    have oA := (ok1.trans (n1.trans (ok'.trans oky)))
    refine ⟨_, wipeD ρ vs, S', μ', _, ok.trans oA, (oA.rv rv).wipe vs, rx, wt i _ acc S' hd w, fun ρ2 S2 q2 σ2 H3 μ2 hw ok2 rv2 => ⟨hw.trans (wipe_idem vs), ?_⟩⟩
    refine ⟨ρ2, S2, μ2, _, ok.trans (oA.trans ok2), rv2, q2, fun b S3 q3 H4 μ3 ok3 => ?_⟩
    cases b with
    | false => exact ⟨acc, S3, μ3, (ok'.trans oky).trans (ok2.trans ok3), (oky.trans (ok2.trans ok3)).rps rys, q3⟩
    | true =>
      refine ⟨ρ2, S3, μ3, _, ok.trans (oA.trans (ok2.trans ok3)), ok3.rv rv2, q3, fun y S4 ⟨hz, q4⟩ u H5 μ4 ok4 r4 => ?_⟩
      have oB := oky.trans (ok2.trans (ok3.trans ok4))
      refine ⟨by rw [rys.length]; exact hz, trivial, ?_⟩
      exact ⟨acc ++ [y], S4, μ4, ok'.trans oB, (oB.rps rys).append (.cons r4 .nil), q4⟩
  · have e : i = items.length := by omega
    subst e
    refine .inl ⟨pit.stop μ' H' S' (n1.trans ok') (ws _ _ _ w), fun l hl => ?_⟩
    have n2 := ok'.new (o := .tup ys) hl
    exact k _ _ (we _ _ w) _ _ μ' (ok1.trans (n1.trans (ok'.trans n2))) (.tup (.inl (.inl upd_same)) (n2.rps rys))
theorem c_tupG {k : Nat} {cd P : Addr} (hP : P ∈ T.gen) (hr : Room (k + 2) X.A) (hgl : Gl X "tuple") (hm : X.mg "tuple" = none) (S : GScp X cd P scope own) (hi : PPI T μ₀ H₀ X tg iter src)
    (hg : GIn (X := X) (k := k) (scope := scope) fun X' => PPG T μ₀ H₀ (own.map (·.2)) X' tg g) (ht : GIn (X := X) (k := k) (scope := scope) fun X' => PPTs T μ₀ H₀ X' ifs tt) (he : GIn (X := X) (k := k) (scope := scope) fun X' => PPE T μ₀ H₀ X' elt te)
    (hs : ∀ v, genFold iter X.env v = pure v := by intro _; rfl)
    (hst : starEach [.GeneratorExp elt [⟨tg, iter, ifs, 0⟩] scope gpos] X.env = (false, eval (.GeneratorExp elt [⟨tg, iter, ifs, 0⟩] scope gpos) X.env) :: starEach [] X.env := by rfl) :
    PPE T μ₀ H₀ X (.Call (.Name "tuple" p) [.GeneratorExp elt [⟨tg, iter, ifs, 0⟩] scope gpos] [] pos) (pTupG src g tt te (own.map (·.2))) :=
  PE.imp (pe_tupG hr hgl hm S hi hg ht he hs hst) (tupG_imp hP)
end
end Za

set_option Elab.async false
set_option linter.all false
set_option maxRecDepth 100000
set_option maxHeartbeats 1000000
/-! Statements and the methods of lists without addresses. -/
namespace Za
open PySem PySem.Spec PyProof.Rows L2 Zk Zg

section
variable {X : Cx} {T : TabSet} {μ₀ : List Addr} {H₀ : Hp} {a b c e o i tg : Expr} {es : List Expr} {ta tb tc te to ti : PTE} {tt : PTT} {t : PTA} {st : Stmt} {rest body p q : List Stmt} {ts tu : PTS} {g : PTG} {pos tpos : Pos} {vs : List Nat}

def pNext : PTS := fun D ρ S => D.nx ρ S
def pSeq (t u : PTS) : PTS := fun D ρ S => t { D with nx := u D } ρ S
def pRet (te : PTE) : PTS := fun D ρ S => te ρ S D.rt
def pIfS (c : PTT) (t u : PTS) : PTS := fun D ρ S => c ρ S fun b S1 => if b = true then t D ρ S1 else u D ρ S1
def pDrop (te : PTE) : PTS := fun D ρ S => te ρ S fun _ S1 => D.nx ρ S1
def pWhile (c : PTT) (tb : PTS) : PTS := fun D ρ S => ∃ W : Nat → Vars → Sto → Prop, (∃ m, W m ρ S) ∧ ∀ m ρ S, W m ρ S →
  c ρ S fun b S1 => if b = true then ∃ N : Vars → Sto → Prop, (∀ ρ' S', N ρ' S' → ∃ m', m' < m ∧ W m' ρ' S') ∧ tb { D with nx := N, ct := N, bk := D.nx } ρ S1 else D.nx ρ S1
theorem css_nil : PPSs T μ₀ H₀ X [] pNext := PSs.imp pss_nil fun D σ H ⟨ρ, S, μ, Dp, ok, rv, q, k1, _⟩ => k1 _ _ q _ _ μ ok.here rv
theorem seq_imp : ∀ D σ H, EmbS X.K X.mg T μ₀ H₀ (pSeq ts tu) D σ H → tSeq (EmbS X.K X.mg T μ₀ H₀ ts) (EmbS X.K X.mg T μ₀ H₀ tu) D σ H := fun D σ H ⟨ρ, S, μ, Dp, ok, rv, q, k1, k2, k3, k4⟩ =>
  ⟨ρ, S, μ, _, ok, rv, q, fun ρ' S' q' σ' H' μ' ok' rv' => ⟨ρ', S', μ', Dp, ok.trans ok', rv', q', fun ρ2 S2 q2 σ2 H2 μ2 ok2 rv2 => k1 ρ2 S2 q2 σ2 H2 μ2 (ok'.trans ok2) rv2, fun d S2 q2 v H2 μ2 ok2 r2 => k2 d S2 q2 v H2 μ2 (ok'.trans ok2) r2,
    fun ρ2 S2 q2 σ2 H2 μ2 ok2 rv2 => k3 ρ2 S2 q2 σ2 H2 μ2 (ok'.trans ok2) rv2, fun ρ2 S2 q2 σ2 H2 μ2 ok2 rv2 => k4 ρ2 S2 q2 σ2 H2 μ2 (ok'.trans ok2) rv2⟩, k2, k3, k4⟩
theorem css_cons (h1 : PPS T μ₀ H₀ X st ts) (h2 : PPSs T μ₀ H₀ X rest tu) : PPSs T μ₀ H₀ X (st :: rest) (pSeq ts tu) := PSs.imp (pss_cons h1 h2) seq_imp
theorem css_one (h1 : PPS T μ₀ H₀ X st ts) : PPSs T μ₀ H₀ X [st] ts := pss_one h1
theorem cs_doc {x j pos pos'} : PPS T μ₀ H₀ X (.Expr (.Constant (.str x) j pos) pos') pNext := PS.imp ps_doc fun D σ H ⟨ρ, S, μ, Dp, ok, rv, q, k1, _⟩ => k1 _ _ q _ _ μ ok.here rv
theorem cs_pass : PPS T μ₀ H₀ X (.Pass pos) pNext := PS.imp ps_pass fun D σ H ⟨ρ, S, μ, Dp, ok, rv, q, k1, _⟩ => k1 _ _ q _ _ μ ok.here rv
theorem cs_ret (he : PPE T μ₀ H₀ X e te) : PPS T μ₀ H₀ X (.Return (some e) pos) (pRet te) := PS.imp (ps_ret he) fun D σ H ⟨ρ, S, μ, Dp, ok, rv, q, k1, k2, _⟩ => ⟨ρ, S, μ, _, ok, rv, q, k2⟩
theorem cs_expr (he : PPE T μ₀ H₀ X e te) (hs : swapsWith e none pos.line X.env = pure false := by rfl) : PPS T μ₀ H₀ X (.Expr e pos) (pDrop te) :=
  PS.imp (ps_expr he hs) fun D σ H ⟨ρ, S, μ, Dp, ok, rv, q, k1, _⟩ => ⟨ρ, S, μ, _, ok, rv, q, fun d S' q' v H' μ' ok' r' => k1 _ _ q' _ _ μ' ok' (ok'.rv rv)⟩
theorem cs_if (hc : PPT T μ₀ H₀ X c tt) (ha : PPSs T μ₀ H₀ X p ts) (hb : PPSs T μ₀ H₀ X q tu) : PPS T μ₀ H₀ X (.If c p q pos) (pIfS tt ts tu) :=
  PS.imp (ps_if hc ha hb) fun D σ H ⟨ρ, S, μ, Dp, ok, rv, q, k1, k2, k3, k4⟩ => ⟨ρ, S, μ, _, ok, rv, q, fun b S' q' H' μ' ok' => by
    cases b with
    | true => exact ⟨ρ, S', μ', Dp, ok.trans ok', ok'.rv rv, q', fun ρ2 S2 q2 σ2 H2 μ2 ok2 rv2 => k1 ρ2 S2 q2 σ2 H2 μ2 (ok'.trans ok2) rv2, fun d S2 q2 v H2 μ2 ok2 r2 => k2 d S2 q2 v H2 μ2 (ok'.trans ok2) r2,
        fun ρ2 S2 q2 σ2 H2 μ2 ok2 rv2 => k3 ρ2 S2 q2 σ2 H2 μ2 (ok'.trans ok2) rv2, fun ρ2 S2 q2 σ2 H2 μ2 ok2 rv2 => k4 ρ2 S2 q2 σ2 H2 μ2 (ok'.trans ok2) rv2⟩
    | false => exact ⟨ρ, S', μ', Dp, ok.trans ok', ok'.rv rv, q', fun ρ2 S2 q2 σ2 H2 μ2 ok2 rv2 => k1 ρ2 S2 q2 σ2 H2 μ2 (ok'.trans ok2) rv2, fun d S2 q2 v H2 μ2 ok2 r2 => k2 d S2 q2 v H2 μ2 (ok'.trans ok2) r2,
        fun ρ2 S2 q2 σ2 H2 μ2 ok2 rv2 => k3 ρ2 S2 q2 σ2 H2 μ2 (ok'.trans ok2) rv2, fun ρ2 S2 q2 σ2 H2 μ2 ok2 rv2 => k4 ρ2 S2 q2 σ2 H2 μ2 (ok'.trans ok2) rv2⟩⟩
theorem cs_while (hp : PassesOwn (model X.prog X.w) X.A X.env X.xe) (hc : PPT T μ₀ H₀ X c tt) (hb : PPSs T μ₀ H₀ X body ts) : PPS T μ₀ H₀ X (.While c body [] pos) (pWhile tt ts) :=
  PS.imp (ps_while hp hc hb) fun D σ H ⟨ρ, S, μ, Dp, ok, rv, ⟨W, ⟨m0, w0⟩, turn⟩, k1, k2, k3, k4⟩ => by
    refine ⟨fun m σ' H' => ∃ ρ' S' μ', Ok X.K X.mg T μ H μ' H' S' ∧ RV X.K X.mg μ' H' σ' ρ' ∧ W m ρ' S', ⟨m0, ρ, S, μ, ok.here, rv, w0⟩, fun m σ' H' ⟨ρ', S', μ', ok', rv', w⟩ => ?_⟩
    refine ⟨ρ', S', μ', _, ok.trans ok', rv', turn m ρ' S' w, fun b S1 q1 H1 μ1 ok1 => ?_⟩
    cases b with
    | false => exact k1 _ _ q1 _ _ μ1 (ok'.trans ok1) (ok1.rv rv')
    | true =>
      obtain ⟨N, hN, q1⟩ := q1
      have oA := ok'.trans ok1
      refine ⟨fun σ2 H2 => ∃ ρ2 S2 μ2, Ok X.K X.mg T μ H μ2 H2 S2 ∧ RV X.K X.mg μ2 H2 σ2 ρ2 ∧ N ρ2 S2, fun σ2 H2 ⟨ρ2, S2, μ2, o2, r2, n2⟩ => ?_, ?_⟩
      · obtain ⟨m', hm, w'⟩ := hN ρ2 S2 n2
        exact ⟨m', hm, ρ2, S2, μ2, o2, r2, w'⟩
      · exact ⟨ρ', S1, μ1, _, ok.trans oA, ok1.rv rv', q1, fun ρ2 S2 q2 σ2 H2 μ2 ok2 rv2 => ⟨ρ2, S2, μ2, oA.trans ok2, rv2, q2⟩, fun d S2 q2 v H2 μ2 ok2 r2 => k2 d S2 q2 v H2 μ2 (oA.trans ok2) r2,
          fun ρ2 S2 q2 σ2 H2 μ2 ok2 rv2 => k1 ρ2 S2 q2 σ2 H2 μ2 (oA.trans ok2) rv2, fun ρ2 S2 q2 σ2 H2 μ2 ok2 rv2 => ⟨ρ2, S2, μ2, oA.trans ok2, rv2, q2⟩⟩
/-- name = value -/
theorem cs_set (k : Nat) {x : Str} {pos' : Pos} (hN : X.N.Nodup) (hi : X.N[k]? = some x) (hx : Loc X.env.scope x) (he : PPE T μ₀ H₀ X e te) (hs : swapsWith e (some (.Name x pos')) pos.line X.env = pure false := by rfl)
    (hf : X.fn x = true ∨ X.env.scope.names.lookup x = some .local := by first | exact .inl rfl | exact .inr rfl | assumption) : PPS T μ₀ H₀ X (.Assign [.Name x pos'] e pos) (pAsg te (pgName k)) :=
  PS.imp (ps_set hN hi hx he hs hf) fun D σ H ⟨ρ, S, μ, Dp, ok, rv, q, k1, _⟩ => ⟨ρ, S, μ, _, ok, rv, q, fun d S' q' v H' μ' ok' r' => k1 _ _ q' _ _ μ' ok' ((ok'.rv rv).set r')⟩
/-- target = value -/
theorem cs_asg (vs : List Nat) (he : PPE T μ₀ H₀ X e te) (hg : PPG T μ₀ H₀ vs X tg g) (hs : swapsWithSole [tg] e pos.line X.env = pure false := by rfl) (hw : swappedStores [tg] e X.env = pure none := by rfl)
    (h1 : (assignEach [tg] X.env).map (·.2) = [assign tg X.env] := by rfl) : PPS T μ₀ H₀ X (.Assign [tg] e pos) (pAsg te g) :=
  PS.imp (ps_asg he hg hs hw h1) fun D σ H ⟨ρ, S, μ, Dp, ok, rv, q, k1, _⟩ => ⟨ρ, S, μ, _, ok, rv, q, fun d S' q' v H' μ' ok' r' =>
    ⟨d, ρ, S', μ', _, ok.trans ok', ok'.rv rv, r', q', fun ρ2 S2 q2 σ2 H2 μ2 _ ok2 rv2 => k1 ρ2 S2 q2 σ2 H2 μ2 (ok'.trans ok2) rv2⟩⟩
/-- a, b = x, y -/
def pPar (k j : Nat) (t : PTA) : PTS := fun D ρ S => t ρ S fun ds S1 => ∃ d d', ds = [d, d'] ∧ D.nx ((ρ.set k (some d)).set j (some d')) S1
theorem cs_par (k j : Nat) {x y : Str} {px py pt : Pos} {kt k2 pt2} (hc : X.calm = true) (hN : X.N.Nodup) (hi : X.N[k]? = some x) (hj : X.N[j]? = some y) (hij : k ≠ j)
    (hx : X.env.scope.names.lookup x = some .local) (hy : X.env.scope.names.lookup y = some .local) (ha : PPA T μ₀ H₀ X [a, b] t)
    (hw : swappedStores [.Tuple [.Name x px, .Name y py] kt pt] (.Tuple [a, b] k2 pt2) X.env = pure (some [x, y]))
    (hs : swapsWithSole [.Tuple [.Name x px, .Name y py] kt pt] (.Tuple [a, b] k2 pt2) pos.line X.env = pure false := by rfl) :
    PPS T μ₀ H₀ X (.Assign [.Tuple [.Name x px, .Name y py] kt pt] (.Tuple [a, b] k2 pt2) pos) (pPar k j t) :=
  PS.imp (ps_par hc hN hi hj hij hx hy ha hw hs) fun D σ H ⟨ρ, S, μ, Dp, ok, rv, q, k1, _⟩ => ⟨ρ, S, μ, _, ok, rv, q, fun ds S' ⟨d, d', ed, q'⟩ vs H' μ' ok' r' => by
    subst ed
    cases r' with
    | cons r1 r2 =>
      cases r2 with
      | cons r2 r3 =>
        cases r3
        exact ⟨_, _, rfl, k1 _ _ q' _ _ μ' ok' (((ok'.rv rv).set r1).set r2)⟩⟩
def pPar3 (k j l : Nat) (t : PTA) : PTS := fun D ρ S => t ρ S fun ds S1 => ∃ d d' d2, ds = [d, d', d2] ∧ D.nx (((ρ.set k (some d)).set j (some d')).set l (some d2)) S1
theorem cs_par3 (k j l : Nat) {x y z : Str} {px py pz pt : Pos} {kt k2 pt2} (hc : X.calm = true) (hN : X.N.Nodup) (hi : X.N[k]? = some x) (hj : X.N[j]? = some y) (hl : X.N[l]? = some z) (hij : k ≠ j) (hil : k ≠ l) (hjl : j ≠ l)
    (hx : X.env.scope.names.lookup x = some .local) (hy : X.env.scope.names.lookup y = some .local) (hz : X.env.scope.names.lookup z = some .local) (ha : PPA T μ₀ H₀ X [a, b, c] t)
    (hw : swappedStores [.Tuple [.Name x px, .Name y py, .Name z pz] kt pt] (.Tuple [a, b, c] k2 pt2) X.env = pure (some [x, y, z]))
    (hs : swapsWithSole [.Tuple [.Name x px, .Name y py, .Name z pz] kt pt] (.Tuple [a, b, c] k2 pt2) pos.line X.env = pure false := by rfl) :
    PPS T μ₀ H₀ X (.Assign [.Tuple [.Name x px, .Name y py, .Name z pz] kt pt] (.Tuple [a, b, c] k2 pt2) pos) (pPar3 k j l t) :=
  PS.imp (ps_par3 hc hN hi hj hl hij hil hjl hx hy hz ha hw hs) fun D σ H ⟨ρ, S, μ, Dp, ok, rv, q, k1, _⟩ => ⟨ρ, S, μ, _, ok, rv, q, fun ds S' ⟨d, d', d2, ed, q'⟩ vs H' μ' ok' r' => by
    subst ed
    cases r' with
    | cons r1 r2 =>
      cases r2 with
      | cons r2 r3 =>
        cases r3 with
        | cons r3 r4 =>
          cases r4
          exact ⟨_, _, _, rfl, k1 _ _ q' _ _ μ' ok' ((((ok'.rv rv).set r1).set r2).set r3)⟩⟩

/-! ### lists written -/
/-- o[i] = d, the list at a place of the store -/
def pPut : D → D → D → Sto → (Sto → Prop) → Prop := fun o i d S R => ∃ l ds k j, o = .loc l ∧ i = .int k ∧ S[l]? = some (.lst ds) ∧ ixN ds.length k = some j ∧ R (S.set l (.lst (ds.set j d)))
theorem put_imp {K : PySem.W.Frag} {mg : Str → Option Value} {μ : List Addr} {H : Hp} {S : Sto} {od id dd : D} {ov iv v : V} {R : Sto → Prop} {Q : Hp → Prop} (ok : Ok K mg T μ₀ H₀ μ H S) (ro : Rp K mg μ H ov od) (ri : Rp K mg μ H iv id) (r : Rp K mg μ H v dd)
    (h : pPut od id dd S R) (k : ∀ S', R S' → ∀ H' μ', Ok K mg T μ H μ' H' S' → Q H') : rSetL ov iv v H Q := by
  obtain ⟨l, ds, kk, j, rfl, rfl, hS, hj, hR⟩ := h
  cases ri
  cases ro with
  | loc hl =>
    obtain ⟨ws, e, rs⟩ := ok.st.lst hl hS
    exact ⟨_, ws, kk, j, rfl, rfl, e, by rw [rs.length]; exact hj, k _ hR _ μ (ok.wrLst hl hS (rs.set j r))⟩
def pgSub (to ti : PTE) : PTG := fun d ρ S R => to ρ S fun o S1 => ti ρ S1 fun i S2 => pPut o i d S2 fun S3 => R ρ S3
theorem cg_sub (ho : PPE T μ₀ H₀ X o to) (hi : PPE T μ₀ H₀ X i ti)
    (ha : ∀ v, assign (.Subscript o i pos) X.env v = (do
      let ov ← holding [v] (eval o X.env)
      let iv ← holding [v, ov] (eval i X.env)
      standAt pos
      holding [v, ov, iv] (setItem ov iv v)
      release [v, ov, iv] []) := by intro _; rfl) : PPG T μ₀ H₀ vs X (.Subscript o i pos) (pgSub to ti) :=
  PG.imp (pg_sub ho hi set_list ha) fun v σ H Q ⟨d, ρ, S, μ, R, ok, rv, r, q, k⟩ => ⟨ρ, S, μ, _, ok, rv, q, fun od S1 q1 ov H1 μ1 ok1 r1 =>
    ⟨ρ, S1, μ1, _, ok.trans ok1, ok1.rv rv, q1, fun id S2 q2 iv H2 μ2 ok2 r2 => put_imp (ok2.trans ok2.here) (ok2.rp r1) r2 ((ok1.trans ok2).rp r) q2 fun S3 q3 H3 μ3 ok3 =>
      k _ _ q3 _ _ μ3 rfl ((ok1.trans ok2).trans ok3) (((ok1.trans ok2).trans ok3).rv rv)⟩⟩
theorem get_list : PGet X (rIxL X.K) := by
  intro pins s σ H x y v u Q I rx ry h
  obtain ⟨p, xs, i, z, rfl, rfl, hq, he, q⟩ := h
  cases rx
  obtain ⟨t, rfl⟩ := ry
  obtain ⟨its, r, pl, hz⟩ := I.list hq
  obtain ⟨j, h1, h2, h3, h4, h5⟩ := atI_get he
  obtain ⟨w, ew, rw'⟩ := r.get h2
  have hl := r.length
  have hn := line63
  have fin : EP X pins σ Q w s := ⟨z, H, I, rw', q⟩
  by_cases h0 : 0 ≤ i
  · have hj : i.toNat = j := by
      rw [seqIndex_of h0 h5] at h1
      exact Option.some.inj h1
    exact wpAny_getItem_list pl.isList h0 (by omega) (by rw [hj]; simpa using ew) fin
  · have hj : (i + (its.toArray.size : Int)).toNat = j := by
      rw [seqIndex_neg (by omega) h4] at h1
      rw [List.size_toArray, ← hl]
      exact Option.some.inj h1
    exact wpAny_getItem_list_neg pl.isList (by omega) (by rw [List.size_toArray] <;> omega) (by omega) (by rw [hj]; simpa using ew) fin
/-- o[i] += e, whole numbers in a list of the store -/
def pAugS (to ti te : PTE) : PTS := fun D ρ S => to ρ S fun o S1 => ti ρ S1 fun i S2 => ∃ l ds k m, o = .loc l ∧ i = .int k ∧ S2[l]? = some (.lst ds) ∧ atI ds k = some (.int m) ∧ te ρ S2 fun y S3 => ∃ n, y = .int n ∧ pPut o i (.int (m + n)) S3 fun S4 => D.nx ρ S4
theorem cs_augS (ho : PPE T μ₀ H₀ X o to) (hi : PPE T μ₀ H₀ X i ti) (he : PPE T μ₀ H₀ X e te)
    (ha : ∀ ov iv new, augStore i ov iv new = (do holding [new, ov, iv] (setItem ov iv new); release [new, ov, iv] []; pure .next) := by intros; rfl) : PPS T μ₀ H₀ X (.AugAssign (.Subscript o i tpos) .Add e pos) (pAugS to ti te) :=
  PS.imp (ps_augS ho hi get_list he ip_add set_list ha) fun D σ H ⟨ρ, S, μ, Dp, ok, rv, q, k1, _⟩ => ⟨ρ, S, μ, _, ok, rv, q, fun od S1 q1 ov H1 μ1 ok1 r1 =>
    ⟨ρ, S1, μ1, _, ok.trans ok1, ok1.rv rv, q1, fun id S2 ⟨l, ds, kk, m, eo, ei, hS, hm, q2⟩ iv H2 μ2 ok2 r2 => by
      subst eo; subst ei
      have r1' := ok2.rp r1
      cases r2
      cases id r1' with
      | loc hl =>
        obtain ⟨ws, e, rs⟩ := ok2.st.lst hl hS
        obtain ⟨w, hw, rw'⟩ := rps_at rs hm
        cases rw'
        refine ⟨_, ws, kk, _, rfl, rfl, .inl (.inl e), hw, ρ, S2, μ2, _, ok.trans (ok1.trans ok2), (ok1.trans ok2).rv rv, q2, fun y S3 ⟨n, ey, q3⟩ yv H3 μ3 ok3 r3 => ?_⟩
        subst ey
        cases r3
        refine ⟨m, n, rfl, rfl, put_imp (ok3.trans ok3.here) (ok3.rp r1') (.int kk) (.int (m + n)) q3 fun S4 q4 H4 μ4 ok4 => ?_⟩
        have oA := ok1.trans (ok2.trans (ok3.trans ok4))
        exact k1 _ _ q4 _ _ μ4 oA (oA.rv rv)⟩⟩

/-- methods of lists of the store -/
abbrev PMt := D → List D → Sto → Post → Prop
def FitsM (K : PySem.W.Frag) (mg : Str → Option Value) (T : TabSet) (r : V → List V → Hp → VK → Prop) (p : PMt) : Prop :=
  ∀ (μ : List Addr) (H : Hp) (S : Sto) (x : D) (ys : List D) (v : V) (us : List V) (R : Post) (Q : VK), RSt K mg T μ H S → Rp K mg μ H v x → Rps K mg μ H us ys → p x ys S R → (∀ d S', R d S' → ∀ w H' μ', Ok K mg T μ H μ' H' S' → Rp K mg μ' H' w d → Q w H') → r v us H Q
def pMt (p : PMt) (to : PTE) (t : PTA) : PTE := fun ρ S R => to ρ S fun x S1 => ∃ l ds, x = .loc l ∧ S1[l]? = some (.lst ds) ∧ t ρ S1 fun ys S2 => p x ys S2 R
theorem c_mt {name : Str} {id : String} {r : V → List V → Hp → VK → Prop} {pm : PMt} {apos cpos : Pos} (slot : Slot "list" name id) (hty : typeOf (.builtin id) = pure (.type "method_descriptor")) (hm : MtR X id r) (hp : FitsM X.K X.mg T r pm)
    (ho : PPE T μ₀ H₀ X o to) (ha : PPA T μ₀ H₀ X (e :: es) t)
    (hbase : attributeBase o name X.env (eval o X.env) = eval o X.env := by rfl)
    (hfew : ((backTo cpos (starEach (e :: es) X.env)).all (fun x => !x.1) && (backToKw cpos (keywordEach [] X.env)).all (fun x => x.1.isSome)
      && decide ((e :: es).length + ([] : List Keyword).length + (if ([] : List Keyword).isEmpty then 0 else 1) < 30)) = true := by rfl)
    (hline : (apos.endLine == cpos.line) = true := by rfl) (hs : starEach (e :: es) X.env = (false, eval e X.env) :: starEach es X.env := by rfl) (hplain : (backTo cpos (starEach es X.env)).any (·.1) = false := by rfl) :
    PPE T μ₀ H₀ X (.Call (.Attribute o name apos) (e :: es) [] cpos) (pMt pm to t) :=
  PE.imp (pe_bm F.plainAttrs_list slot hty hm ho ha hbase hfew hline hs hplain) fun σ H Q ⟨ρ, S, μ, R, ok, rv, q, k⟩ => ⟨ρ, S, μ, _, ok, rv, q, fun x S1 ⟨l, ds, ex, hS, q1⟩ v H1 μ1 ok1 r1 => by
    subst ex
    cases r1 with
    | loc hl =>
      obtain ⟨ws, e, rs⟩ := ok1.st.lst hl hS
      refine ⟨.inl ⟨rfl, ws, .inl (.inl e)⟩, ρ, S1, μ1, _, ok.trans ok1, ok1.rv rv, q1, fun ys S2 q2 us H2 μ2 ok2 r2 => hp μ2 H2 S2 _ ys _ us R Q ok2.st (ok2.rp (.loc hl)) r2 q2 fun d S' q' w H' μ' ok' r' => k d S' q' w H' μ' ((ok1.trans ok2).trans ok') r'⟩⟩
def pmAppend : PMt := fun x ys S R => ∃ l ds y, x = .loc l ∧ ys = [y] ∧ S[l]? = some (.lst ds) ∧ ds.length < sizeLine ∧ R .non (S.set l (.lst (ds ++ [y])))
theorem fit_append : FitsM X.K X.mg T rAppend pmAppend := by
  intro μ H S x ys v us R Q st rx rs ⟨l, ds, y, e1, e2, hS, hz, hR⟩ k
  subst e1; subst e2
  cases rs with
  | cons r1 r2 =>
    cases r2
    cases rx with
    | loc hl =>
      obtain ⟨ws, e, rw'⟩ := st.lst hl hS
      exact ⟨_, ws, _, rfl, rfl, e, by rw [rw'.length]; exact hz, k _ _ hR _ _ μ (st.ok.wrLst hl hS (rw'.append (.cons r1 .nil))) .non⟩
def pmInsert : PMt := fun x ys S R => ∃ l ds n y, x = .loc l ∧ ys = [.int n, y] ∧ S[l]? = some (.lst ds) ∧ ds.length < sizeLine ∧ 0 ≤ n ∧ n < 2 ^ 63 ∧ R .non (S.set l (.lst (ds.take n.toNat ++ [y] ++ ds.drop n.toNat)))
theorem fit_insert : FitsM X.K X.mg T (fun x vs H Q => ∃ (l : Addr) (xs : List V) (i : Int) (y : V), x = .ref l ∧ vs = [.int i, y] ∧ H l = some (.lst xs) ∧ xs.length < sizeLine ∧ 0 ≤ i ∧ i < 2 ^ 63 ∧
    Q .non (upd H l (.lst (xs.take i.toNat ++ [y] ++ xs.drop i.toNat)))) pmInsert := by
  intro μ H S x ys v us R Q st rx rs ⟨l, ds, n, y, e1, e2, hS, hz, h0, h1, hR⟩ k
  subst e1; subst e2
  cases rs with
  | cons r0 r1 =>
    cases r0
    cases r1 with
    | cons r1 r2 =>
      cases r2
      cases rx with
      | loc hl =>
        obtain ⟨ws, e, rw'⟩ := st.lst hl hS
        exact ⟨_, ws, n, _, rfl, rfl, e, by rw [rw'.length]; exact hz, h0, h1, k _ _ hR _ _ μ (st.ok.wrLst hl hS (((rw'.take _).append (.cons r1 .nil)).append (rw'.drop _))) .non⟩
/-- list.index of whole numbers -/
def pmIndex : PMt := fun x ys S R => ∃ (l : Nat) (ns : List Int) (c : Int) (j : Nat), x = .loc l ∧ ys = [.int c] ∧ S[l]? = some (.lst (ns.map D.int)) ∧ ns[j]? = some c ∧ (∀ m, m < j → ns[m]? ≠ some c) ∧ R (.int (j : Nat)) S
theorem fit_index : FitsM X.K X.mg T (rIndex X.K) pmIndex := by
  intro μ H S x ys v us R Q st rx rs ⟨l, ns, c, j, e1, e2, hS, hj, hm, hR⟩ k
  subst e1; subst e2
  cases rs with
  | cons r1 r2 =>
    cases r2
    cases r1
    cases rx with
    | loc hl =>
      obtain ⟨ws, e, rw'⟩ := st.lst hl hS
      have ew := rps_intsV rw'
      subst ew
      refine ⟨_, ns.map V.int, .int c, j, .int c, rfl, rfl, .inl (.inl e), rfl, flat_ints ns, by rw [List.getElem?_map, hj]; rfl, by simp [eqV], fun m z hlt hz => ?_, k _ _ hR _ _ μ st.ok (.int _)⟩
      rw [List.getElem?_map] at hz
      cases hn : ns[m]? with
      | none => rw [hn] at hz; cases hz
      | some d =>
        rw [hn] at hz
        have e2 : V.int d = z := Option.some.inj hz
        subst e2
        have hd : d ≠ c := fun q => hm m hlt (by rw [hn, q])
        simp [eqV, hd]
end
end Za

set_option Elab.async false
set_option linter.all false
set_option maxRecDepth 100000
set_option maxHeartbeats 1000000
/-! Defs: their promises, with nothing guarded around them; without addresses. -/
namespace Za
open PySem PySem.Spec PyProof.Rows L2 Zk Zg

/-- room, and no repr under way -/
structure RoomG (k : Nat) (A : Around) : Prop where
  room : Room k A
  gd : A.guards = some []
theorem RoomG.mono {j k : Nat} {A : Around} (r : RoomG k A) (h : j ≤ k) : RoomG j A := ⟨r.room.mono h, r.gd⟩
theorem guards_deeper {A : Around} (h : A.guards = some []) (env : Env) : (A.deeper env).guards = some [] := by
  first
    | exact h
    | (obtain ⟨a, b, c, d, e⟩ := A; simpa [Around.deeper] using h)
theorem RoomG.deeper {k : Nat} {A : Around} (r : RoomG (k + 1) A) (env : Env) : RoomG k (A.deeper env) := ⟨r.room.deeper env, guards_deeper r.gd env⟩

structure FnG (P : Program) (w : World) (K : PySem.W.Frag) (mg : Str → Option Value) (base : Heap) (CX : CXT) (k : Nat) (f : Addr) (fd : FuncData) (ps : List Str) (sp : Sp) : Prop where
  len : ∀ vs H Q E, sp vs H Q E → vs.length = ps.length
  run : ∀ (A : Around) (outer : List Env) (s : Shared) (H : Hp) (args : Args) (us : List Value) (vs : List V) (Q : VK) (E : XK), RoomG k A → Env0 P w K mg base A outer s H → BindsTo s fd args (ps.zip us) → Vals vs us → sp vs H Q E →
    codeAny (model P w) A (.call (.ref f) args) (CR CX outer P w H s Q E) s
theorem FnG.mono {P : Program} {w : World} {K : PySem.W.Frag} {mg : Str → Option Value} {base : Heap} {CX : CXT} {j k : Nat} {f : Addr} {fd : FuncData} {ps : List Str} {sp : Sp} (F : FnG P w K mg base CX j f fd ps sp) (h : j ≤ k) :
    FnG P w K mg base CX k f fd ps sp := ⟨F.len, fun A outer s H args us vs Q E hr => F.run A outer s H args us vs Q E (hr.mono h)⟩
theorem FnG.imp {P : Program} {w : World} {K : PySem.W.Frag} {mg : Str → Option Value} {base : Heap} {CX : CXT} {k : Nat} {f : Addr} {fd : FuncData} {ps : List Str} {sp sp' : Sp} (F : FnG P w K mg base CX k f fd ps sp)
    (h : ∀ vs H Q E, sp' vs H Q E → sp vs H Q E) : FnG P w K mg base CX k f fd ps sp' :=
  ⟨fun vs H Q E q => F.len vs H Q E (h _ _ _ _ q), fun A outer s H args us vs Q E hr he hb hv hs => F.run A outer s H args us vs Q E hr he hb hv (h _ _ _ _ hs)⟩
/-- a def by its body -/
theorem fn_ofG {CX : CXT} {P : Program} {w : World} {K : PySem.W.Frag} {mg : Str → Option Value} {base : Heap} {k : Nat} {f : Addr} {name qual : Str} {params : Arguments} {body : List Stmt} {scope : Scope} {dV kV doc pm cdv ct oc : Value} {an od : Option Addr}
    {osl : Array (Option Value)} {N ps : List Str} {sp : Sp} (lk : K.lookup f = some ⟨oc, od, .func (PySem.W.fnOf name qual params body scope dV kV doc pm an cdv ct), osl⟩) (hcd : PySem.W.codeIn K cdv qual = true) (S : FnScope N ps scope)
    (len : ∀ vs H Q E, sp vs H Q E → vs.length = ps.length)
    (hbody : ∀ (A : Around) (outer : List Env) (s : Shared) (H : Hp) (vs : List V) (Q : VK) (E : XK), RoomG k (A.deeper (envOfC qual scope s.heap.objs.size f cdv)) → sp vs H Q E →
      ∃ t, PSs (cxOf CX P w K mg base N qual scope f cdv A outer s H E) body t ∧ t { nx := fun _ H' => Q .non H', rt := Q } (L2.start N vs) H) :
    FnG P w K mg base CX (k + 1) f (PySem.W.fnOf name qual params body scope dV kV doc pm an cdv ct) ps sp := by
  refine ⟨len, fun A outer s H args us vs Q E hr e0 hb r hsp => ?_⟩
  have hl := len _ _ _ _ hsp
  have kIn : K.In s.heap := e0.mod.kin.keeps fun b o e => (e0.bs b o e).1
  have noLim : s.heap.NoLimit := e0.mod.nolimit.keeps fun b o e => (e0.bs b o e).1
  refine codeAny_call_function hr.room.depth (kIn _ _ lk) rfl S.co S.gen rfl (PySem.W.codeRec_of kIn hcd) (hb _ _ _ _ ?_)
  refine wpAny_newFunctionEnv_cells S.kind (fun ⟨n, v⟩ hy => ?_) fun env he s1 x => ?_
  · rcases S.par n (List.of_mem_zip hy).1 with q | q
    · exact .inl q
    · exact .inr ⟨q, PySem.W.cellsFrom_some _ _ _ (.inl q)⟩
  subst he
  refine ⟨noLim.keeps x.toInCall.keep, codeAny_func ?_⟩
  obtain ⟨t, ht, hq⟩ := hbody A outer s H vs Q E (hr.deeper _) hsp
  have I : Inv (cxOf CX P w K mg base N qual scope f cdv A outer s H E) [] (L2.start N vs) H s1 := inv_start S hr.room.hd e0 hl r x
  refine wpAny_mono (ht.run [] s1 (L2.start N vs) H _ I hq) (fun fl s' hs => ?_) fun e s' hs => hs
  cases fl with
  | ret u =>
    obtain ⟨v, σ', H', J, rv, q⟩ := hs
    exact ⟨v, H', J.os, J.bare, J.base, J.hok, rv, q⟩
  | next =>
    obtain ⟨σ', H', J, q⟩ := hs
    exact ⟨V.non, H', J.os, J.bare, J.base, J.hok, rfl, q⟩
  | brk => exact hs.elim fun _ z => z.elim fun _ z => z.2.elim
  | cont => exact hs.elim fun _ z => z.elim fun _ z => z.2.elim

section
variable {X : Cx} {CX : CXT} {k : Nat} {f C : Addr} {fd : FuncData} {ps : List Str} {sp : Sp} {E : XK} {x m : Str} {p pos apos : Pos} {e o : Expr} {es : List Expr} {ta : TE} {t : TA}
theorem run_fnG {pins : List (Addr × Obj)} {σ : L2.St} {H : Hp} {s : Shared} {Q : VK} {us : List Value} {vs : List V} (F : FnG X.prog X.w X.K X.mg X.base CX k f fd ps sp) (hr : RoomG k X.A) (hb : Binds X.K fd ps []) (hx : Passes CX X E)
    (I : Inv X pins σ H s) (r : Vals vs us) (h : sp vs H Q E) : wpAny (model X.prog X.w) X.A (call (.ref f) us) (EP X pins σ Q) X.xe s := by
  have hl : (us ++ ([] : List Value)).length = ps.length := by rw [List.append_nil, ← r.length]; exact F.len _ _ _ _ h
  have hb' := hb s us I.kIn hl
  rw [List.append_nil] at hb'
  refine wpAny_call (codeAny_mono (F.run X.A X.stack s H ⟨us, []⟩ us vs Q E hr I.env0 hb' r h) fun r s' hq => ?_)
  cases r with
  | error e => exact hx pins σ H s e s' I hq
  | ok fl =>
    cases fl with
    | ret u => exact I.after hq
    | next => exact False.elim hq
    | brk => exact False.elim hq
    | cont => exact False.elim hq
theorem pe_callG (F : FnG X.prog X.w X.K X.mg X.base CX k f fd ps sp) (hr : RoomG k X.A) (hg : Gl X x) (hm : X.mg x = some (.ref f)) (hk : PySem.W.keepIn X.K (.ref f) = true) (hb : Binds X.K fd ps []) (hx : Passes CX X E)
    (ha : PA X (e :: es) t) (hdb : (x == ("__debug__" : Str)) = false := by decide) (he : starEach (e :: es) X.env = (false, eval e X.env) :: starEach es X.env := by rfl) (hpl : (backTo pos (starEach es X.env)).any (·.1) = false := by rfl) :
    PE X (.Call (.Name x p) (e :: es) [] pos) (fun σ H Q => t σ H fun vs H1 => sp vs H1 Q E) := by
  refine ⟨fun pins s σ H Q I h => ?_⟩
  refine wpAny_Call_Name_kw (ld_glob I hg hm ?_ hdb)
  refine PySem.W.callWith_K (h₀ := X.base) I.ok.mod.kin hk (thn (ha.run pos pins s σ H _ I h) fun us s1 ⟨vs, H1, I1, r, q⟩ => ⟨I1.kIn, ?_⟩) he hpl
  exact run_fnG F hr hb hx I1 r q
/-- a def handed about as a value: v(e, ..) -/
theorem pe_callV {x : Str} {i : Nat} (F : ∀ f, X.mg x = some (.ref f) → FnG X.prog X.w X.K X.mg X.base CX k f fd ps sp) : True := trivial
end

/-! ### without addresses -/
/-- the wish of exceptions: their class, the fields of their dict -/
abbrev PXK := Addr → List (Str × D) → Sto → Prop
abbrev PSp := List D → Sto → Post → PXK → Prop
def PF (K : PySem.W.Frag) (mg : Str → Option Value) (μ : List Addr) (H : Hp) (fs : List (Str × V)) (ds : List (Str × D)) : Prop := fs.map (·.1) = ds.map (·.1) ∧ Rps K mg μ H (fs.map (·.2)) (ds.map (·.2))
def EmbX (K : PySem.W.Frag) (mg : Str → Option Value) (T : TabSet) (μ₀ : List Addr) (H₀ : Hp) (px : PXK) : XK := fun cls d H' => ∃ C dx fs ds S' μ', cls = .ref C ∧ d = some dx ∧ H' dx = some (.xd fs) ∧ PF K mg μ' H' fs ds ∧ Ok K mg T μ₀ H₀ μ' H' S' ∧ px C ds S'
def EmbSp (K : PySem.W.Frag) (mg : Str → Option Value) (T : TabSet) (psp : PSp) : Sp := fun vs H Q E => ∃ ds S μ R PX, RSt K mg T μ H S ∧ Rps K mg μ H vs ds ∧ psp ds S R PX ∧
  (∀ d S', R d S' → ∀ v H' μ', Ok K mg T μ H μ' H' S' → Rp K mg μ' H' v d → Q v H') ∧ ∀ cls d H', EmbX K mg T μ H PX cls d H' → E cls d H'
def PXno : PXK := fun _ _ _ => False
/-- behind a body: what it laid for itself is forgotten -/
def Fall (n : Nat) (R : Post) : Post := fun d S => R d S ∨ ∃ S' G, S = S' ++ G ∧ n ≤ S'.length ∧ Closed S'.length S' ∧ d.bel S'.length ∧ R d S'
def startD (N : List Str) (ds : List D) : Vars := ds.map some ++ List.replicate (N.length - ds.length) none
section
variable {K : PySem.W.Frag} {mg : Str → Option Value} {T : TabSet} {μ μ' : List Addr} {H H' : Hp} {S S' : Sto}
theorem rv_start {N : List Str} {vs : List V} {ds : List D} (r : Rps K mg μ H vs ds) : RV K mg μ H (L2.start N vs) (startD N ds) := by
  refine ⟨by unfold L2.start startD; rw [List.length_append, List.length_append, List.length_map, List.length_map, List.length_replicate, List.length_replicate, r.length], fun i d h => ?_⟩
  unfold startD at h
  by_cases hi : i < ds.length
  · rw [List.getElem?_append_left (by simpa using hi), List.getElem?_map] at h
    cases e : ds[i]? with
    | none => rw [e] at h; cases h
    | some d' =>
      rw [e] at h
      have e2 : d' = d := Option.some.inj (Option.some.inj h)
      subst e2
      obtain ⟨v, h1, h2⟩ := r.get e
      refine ⟨v, ?_, h2⟩
      unfold L2.start
      rw [List.getElem?_append_left (by rw [List.length_map, r.length]; exact hi), List.getElem?_map, h1]
      rfl
  · rw [List.getElem?_append_right (by simpa using hi), List.getElem?_replicate] at h
    split at h <;> cases h
mutual
theorem Rp.bel' : ∀ {v : V} {d : D}, Rp K mg μ H v d → d.bel μ.length
  | _, _, .non => by simp only [D.bel]
  | _, _, .bl b => by simp only [D.bel]
  | _, _, .int i => by simp only [D.bel]
  | _, _, .str s => by simp only [D.bel]
  | _, _, .tup _ r => by simp only [D.bel]; exact Rps.bel' r
  | _, _, .ro _ r => by simp only [D.bel]; exact Rps.bel' r
  | _, _, .loc h => by simp only [D.bel]; exact (List.getElem?_eq_some_iff.mp h).1
  | _, _, .fn _ => by simp only [D.bel]
theorem Rps.bel' : ∀ {vs : List V} {ds : List D}, Rps K mg μ H vs ds → bels μ.length ds
  | _, _, .nil => by simp only [bels]
  | _, _, .cons a r => by simp only [bels]; exact ⟨Rp.bel' a, Rps.bel' r⟩
end
theorem RSt.closed (s : RSt K mg T μ H S) : Closed S.length S := fun c hc => by
  obtain ⟨l, hl⟩ := List.getElem?_of_mem hc
  have h1 : μ[l]? = some (μ[l]'(by rw [s.len]; exact (List.getElem?_eq_some_iff.mp hl).1)) := List.getElem?_eq_getElem _
  have q := s.at_ l _ c h1 hl
  cases c with
  | lst ds =>
    obtain ⟨vs, e, r⟩ := q
    show bels S.length ds
    rw [← s.len]
    exact r.bel'
theorem fall_out {R : Post} {d : D} {v : V} (st : RSt K mg T μ H S) (h : Fall S.length R d S') (ok : Ok K mg T μ H μ' H' S') (r : Rp K mg μ' H' v d) : ∃ S2 μ2, R d S2 ∧ Ok K mg T μ H μ2 H' S2 ∧ Rp K mg μ2 H' v d := by
  rcases h with h | ⟨S2, G, rfl, hn, hc, hb, hR⟩
  · exact ⟨S', μ', h, ok, r⟩
  have hl : μ'.length = S2.length + G.length := by rw [ok.st.len, List.length_append]
  have e : μ' = μ'.take S2.length ++ μ'.drop S2.length := (List.take_append_drop _ _).symm
  have hl2 : (μ'.take S2.length).length = S2.length := by rw [List.length_take]; omega
  have le : μ <+: μ'.take S2.length := by
    obtain ⟨ν, hν⟩ := ok.le
    refine ⟨(μ'.drop μ.length).take (S2.length - μ.length), ?_⟩
    have e1 : μ'.take μ.length = μ := by rw [← hν]; simp
    have h1 : μ.length ≤ S2.length := by rw [st.len]; exact hn
    have e2 : μ'.take S2.length = μ'.take (μ.length + (S2.length - μ.length)) := by congr 1; omega
    rw [e2, List.take_add, e1]
  rw [e] at ok r
  exact ⟨S2, _, hR, ok.drop le hl2 hc, r.drop (by rw [hl2]; exact hb)⟩
end
theorem deeper_cx {CX : CXT} {P : Program} {w : World} {K : PySem.W.Frag} {mg : Str → Option Value} {base : Heap} {N : List Str} {qual : Str} {scope : Scope} {f : Addr} {cd : Value} {A : Around} {outer : List Env} {s : Shared} {H : Hp} {E : XK} :
    (cxOf CX P w K mg base N qual scope f cd A outer s H E).A = A.deeper (envOfC qual scope s.heap.objs.size f cd) := rfl
/-- a def by its body, without addresses -/
theorem fn_pure {CX : CXT} {P : Program} {w : World} {K : PySem.W.Frag} {mg : Str → Option Value} {base : Heap} {k : Nat} {f : Addr} {name qual : Str} {params : Arguments} {body : List Stmt} {scope : Scope} {dV kV doc pm cdv ct oc : Value} {an od : Option Addr}
    {osl : Array (Option Value)} {N ps : List Str} {T : TabSet} {psp : PSp} (lk : K.lookup f = some ⟨oc, od, .func (PySem.W.fnOf name qual params body scope dV kV doc pm an cdv ct), osl⟩) (hcd : PySem.W.codeIn K cdv qual = true) (S : FnScope N ps scope)
    (len : ∀ ds S R PX, psp ds S R PX → ds.length = ps.length)
    (hbody : ∀ (A : Around) (outer : List Env) (s : Shared) (H : Hp) (E : XK) (μ : List Addr) (PX : PXK), RoomG k (cxOf CX P w K mg base N qual scope f cdv A outer s H E).A → (∀ cls d H', EmbX K mg T μ H PX cls d H' → E cls d H') →
      ∃ t, PPSs T μ H (cxOf CX P w K mg base N qual scope f cdv A outer s H E) body t ∧ ∀ ds S R, psp ds S R PX → Closed S.length S → bels S.length ds → t { nx := fun _ S' => Fall S.length R .non S', rt := Fall S.length R } (startD N ds) S) :
    FnG P w K mg base CX (k + 1) f (PySem.W.fnOf name qual params body scope dV kV doc pm an cdv ct) ps (EmbSp K mg T psp) := by
  refine fn_ofG lk hcd S (fun vs H Q E ⟨ds, S', μ, R, PX, st, r, q, _⟩ => r.length.trans (len _ _ _ _ q)) fun A outer s H vs Q E hr ⟨ds, S', μ, R, PX, st, r, q, k1, k2⟩ => ?_
  obtain ⟨t, ht, hsem⟩ := hbody A outer s H E μ PX hr k2
  refine ⟨_, ht, startD N ds, S', μ, _, st.ok, rv_start r, hsem ds S' R q st.closed (by rw [← st.len]; exact r.bel'), fun ρ2 S2 h2 σ2 H2 μ2 ok2 _ => ?_, fun d S2 h2 v H2 μ2 ok2 r2 => ?_, fun _ _ h => h.elim, fun _ _ h => h.elim⟩
  · obtain ⟨S3, μ3, hR, ok3, r3⟩ := fall_out st h2 ok2 (v := .non) .non
    exact k1 _ _ hR _ _ μ3 ok3 r3
  · obtain ⟨S3, μ3, hR, ok3, r3⟩ := fall_out st h2 ok2 r2
    exact k1 _ _ hR _ _ μ3 ok3 r3
section
variable {X : Cx} {CX : CXT} {k : Nat} {f : Addr} {fd : FuncData} {ps : List Str} {psp : PSp} {T : TabSet} {μ₀ : List Addr} {H₀ : Hp} {x : Str} {p pos : Pos} {e : Expr} {es : List Expr} {t : PTA} {px : PXK}
def pCallF (psp : PSp) (px : PXK) (t : PTA) : PTE := fun ρ S R => t ρ S fun ds S1 => psp ds S1 R px
/-- f(e, ..), f a def of the module -/
theorem c_callG (px : PXK) (F : FnG X.prog X.w X.K X.mg X.base CX k f fd ps (EmbSp X.K X.mg T psp)) (hr : RoomG k X.A) (hg : Gl X x) (hm : X.mg x = some (.ref f)) (hk : PySem.W.keepIn X.K (.ref f) = true) (hb : Binds X.K fd ps []) (hx : Passes CX X (EmbX X.K X.mg T μ₀ H₀ px))
    (ha : PPA T μ₀ H₀ X (e :: es) t) (hdb : (x == ("__debug__" : Str)) = false := by decide) (he : starEach (e :: es) X.env = (false, eval e X.env) :: starEach es X.env := by rfl) (hpl : (backTo pos (starEach es X.env)).any (·.1) = false := by rfl) :
    PPE T μ₀ H₀ X (.Call (.Name x p) (e :: es) [] pos) (pCallF psp px t) :=
  PE.imp (pe_callG F hr hg hm hk hb hx ha hdb he hpl) fun σ H Q ⟨ρ, S, μ, R, ok, rv, q, kk⟩ => ⟨ρ, S, μ, _, ok, rv, q, fun ds S1 q1 vs H1 μ1 ok1 r1 =>
    ⟨ds, S1, μ1, R, px, ok1.st, r1, q1, fun d S' q' v H' μ' ok' r' => kk d S' q' v H' μ' (ok1.trans ok') r', fun cls d H' ⟨C, dx, fs, gs, S', μ', e1, e2, e3, e4, e5, e6⟩ => ⟨C, dx, fs, gs, S', μ', e1, e2, e3, e4, (ok.trans ok1).trans e5, e6⟩⟩⟩
end
end Za

set_option Elab.async false
set_option linter.all false
set_option maxRecDepth 100000
set_option maxHeartbeats 1000000
/-! Built-ins without addresses: sum, max, sorted, list(range), repr, sum of a generator expression. -/
namespace Za
open PySem PySem.Spec PyProof.Rows L2 Zk Zg GenW

section
variable {X : Cx} {T : TabSet} {μ₀ : List Addr} {H₀ : Hp} {a e : Expr} {es : List Expr} {te : PTE} {t : PTA} {pos p p2 : Pos}

/-! ### of a list, of a tuple -/
def pSum : PCl := fun ds S R => ∃ (d : D) (ns : List Int), ds = [d] ∧ (∀ es, d ≠ .tup es) ∧ seqOf S d = some (ns.map D.int) ∧ R (.int ns.sum) S
theorem fit_sum : FitsC X.K X.mg T (rSum X.K) pSum := by
  intro μ H S xs vs R Q st rs ⟨d, ns, e, hn, hs, h⟩ k
  subst e
  cases rs with
  | cons r1 r2 =>
    cases r2
    obtain ⟨p, ws, rfl, r, q⟩ := rp_seq st r1 hs
    rcases q with ⟨⟨es, z⟩, _⟩ | ⟨_, q⟩
    · exact absurd z (hn es)
    · have e := rps_intsV r
      subst e
      exact ⟨p, ns, rfl, q, k _ S h _ H μ st.ok (.int _)⟩
def pSorted : PCl := fun ds S R => ∃ (d : D) (ns : List Int), ds = [d] ∧ (∀ es, d ≠ .tup es) ∧ seqOf S d = some (ns.map D.int) ∧ ∀ ns' : List Int, ns'.Perm ns → ns'.Pairwise (· ≤ ·) → R (.loc S.length) (S ++ [.lst (ns'.map D.int)])
theorem fit_sorted : FitsC X.K X.mg T (rSortedI X.K) pSorted := by
  intro μ H S xs vs R Q st rs ⟨d, ns, e, hn, hs, h⟩ k
  subst e
  cases rs with
  | cons r1 r2 =>
    cases r2
    obtain ⟨p, ws, rfl, r, q⟩ := rp_seq st r1 hs
    rcases q with ⟨⟨es, z⟩, _⟩ | ⟨_, q⟩
    · exact absurd z (hn es)
    · have e := rps_intsV r
      subst e
      refine ⟨p, ns, rfl, q, fun ns' l hp hs' hl => ?_⟩
      have n := st.ok.newLst (vs := ns'.map V.int) (ds := ns'.map D.int) hl Rps.ints
      refine k _ _ (h ns' hp hs') _ _ _ n (.loc ?_)
      rw [← st.len]; simp
/-- max of a tuple of whole numbers -/
def rMaxT (K : PySem.W.Frag) : List V → Hp → VK → Prop := fun vs H Q => ∃ (a : Addr) (ns : List Int), vs = [V.ref a] ∧ SqT K H a (ns.map V.int) ∧ 0 < ns.length ∧ ∀ m, m ∈ ns → (∀ y, y ∈ ns → y ≤ m) → Q (.int m) H
theorem cr_maxT (hc : X.calm = true) : CallR X (.builtin "max") (rMaxT X.K) := by
  intro pins s σ H vs us Q I r h
  obtain ⟨a, ns, rfl, hs, hne, q⟩ := h
  obtain ⟨its, rv, hl, _⟩ := I.tuple hs
  rw [Vals.ref1 r]
  have hi := rv.ints
  obtain ⟨xs, e⟩ := hi.allInts.items
  have hn : numsOf (intItems xs).toList = ns := by rw [← e]; exact hi.numsOf
  rw [nums_intItems] at hn
  subst hn
  have hT : s.heap.IsTuple a (intItems xs) := by rw [← e]; exact hl
  have hsz : 0 < xs.size := by simpa using hne
  have hal : a < s.heap.objs.size := by obtain ⟨_, z, _⟩ := hT; exact Heap.lt_size z
  refine call_max_walk (wpAny_pyIter_tuple hT ?_)
  refine ⟨_, [_, a], [_], _, _, _, _, rfl, Walks.tuple (A := X.A.in1) (I.ok.hd hc) _ a (Nat.ne_of_lt hal) (intItems xs), ⟨⟨_, Heap.get?_push_size _ rfl, rfl, rfl⟩, hT.push _⟩, fun b hb => ?_, by simpa [intItems] using hsz, CmpOf.ints_gt (numAt xs) (fun _ _ => intItems_at), fun v h' tk hP hk => ?_⟩
  · show b < (s.heap.push _).objs.size
    rw [Heap.size_push]
    rcases List.mem_cons.mp hb with z | z
    · rw [z]; exact Nat.lt_succ_self _
    · rw [List.mem_singleton.mp z]; exact Nat.lt_succ_of_lt hal
  · have hk' : ∀ b o, s.heap.get? b = some o → h'.get? b = some o := fun b o z => hk b o (fun hm => by
      have := Heap.lt_size z
      rw [List.mem_singleton.mp hm] at this
      exact Nat.lt_irrefl _ this) (Heap.get?_push_of_some _ z)
    have hP' : (intItems xs)[argBest (fun i j => decide (numAt xs i > numAt xs j)) (xs.size - 1)]? = some v := by simpa [intItems] using hP
    obtain ⟨t, rfl⟩ := intItems_at hP'
    obtain ⟨h1, h2⟩ := argBest_gt (numAt xs) (xs.size - 1)
    refine ⟨.int _, H, I.kept hk', ⟨_, rfl⟩, q _ ?_ fun y hy => ?_⟩
    · rw [numAt_eq]; exact PySem.getD_mem (by rw [List.length_map, Array.length_toList]; omega)
    · obtain ⟨j, hj, rfl⟩ := mem_getD hy
      rw [List.length_map, Array.length_toList] at hj
      rw [← numAt_eq]; exact h2 j (by omega)
def pMaxT : PCl := fun ds S R => ∃ ns : List Int, ds = [.tup (ns.map D.int)] ∧ 0 < ns.length ∧ ∀ m, m ∈ ns → (∀ y, y ∈ ns → y ≤ m) → R (.int m) S
theorem fit_maxT : FitsC X.K X.mg T (rMaxT X.K) pMaxT := by
  intro μ H S xs vs R Q st rs ⟨ns, e, hn, h⟩ k
  subst e
  cases rs with
  | cons r1 r2 =>
    cases r2
    cases r1 with
    | tup q r =>
      have e := rps_intsV r
      subst e
      exact ⟨_, ns, rfl, q, hn, fun m h1 h2 => k _ S (h m h1 h2) _ H μ st.ok (.int m)⟩

/-! ### list(range(n)) -/
def pLstRg1 (te : PTE) : PTE := fun ρ S R => te ρ S fun d S1 => ∃ j : Int, d = .int j ∧ 0 ≤ j ∧ j ≤ 16777216 ∧ R (.loc S1.length) (S1 ++ [.lst (rngD 0 j.toNat)])
theorem rps_rng {K : PySem.W.Frag} {mg : Str → Option Value} {μ : List Addr} {H : Hp} {lo : Int} {n : Nat} : Rps K mg μ H ((List.range n).map fun i => V.int (lo + (i : Nat))) (rngD lo n) := by
  unfold rngD
  induction List.range n with
  | nil => exact .nil
  | cons i r ih => exact .cons (.int _) ih
theorem c_listRg1 (hc : X.calm = true) (hg : Gl X "list") (hm : X.mg "list" = none) (hg2 : Gl X "range") (hm2 : X.mg "range" = none) (ha : PPE T μ₀ H₀ X a te) (na : starEach [.Call (.Name "range" p2) [a] [] p] X.env = (false, eval (.Call (.Name "range" p2) [a] [] p) X.env) :: starEach [] X.env := by rfl)
    (nb : starEach [a] X.env = (false, eval a X.env) :: starEach [] X.env := by rfl) {p3 : Pos} : PPE T μ₀ H₀ X (.Call (.Name "list" p3) [.Call (.Name "range" p2) [a] [] p] [] pos) (pLstRg1 te) :=
  PE.imp (pe_listRg hc hg hm (prg_1 hg2 hm2 ha nb) na) fun σ H Q ⟨ρ, S, μ, R, ok, rv, q, k⟩ => ⟨ρ, S, μ, _, ok, rv, q, fun d S1 ⟨j, ed, h0, h1, q1⟩ v H1 μ1 ok1 r1 => by
    subst ed
    cases r1
    refine ⟨j, rfl, RgOk.of_le (by omega) h1 (by omega) h0, fun l hl => ?_⟩
    have n := ok1.newLst (vs := rgV 0 j) (ds := rngD 0 j.toNat) hl (by unfold rgV; rw [Int.sub_zero]; exact rps_rng)
    refine k _ _ q1 _ _ _ (ok1.trans n) (.loc ?_)
    rw [← ok1.st.len]; simp⟩

/-! ### repr -/
def pRepr : PCl := fun ds S R => ∃ (d : D) (q : PyData), ds = [d] ∧ (d.knd = .t ∧ (∃ l, d = .tup l) ∨ ∃ n, d = .loc n) ∧ Py S d q ∧ q.showable = true ∧ q.hasDict = false ∧ q.shown.length ≤ sizeLine ∧ q.depth + 1 ≤ 60 ∧ R (.str q.shown) S
def rRepr (K : PySem.W.Frag) : List V → Hp → VK → Prop := fun vs H Q => ∃ (a : Addr) (q : PyData), vs = [V.ref a] ∧ Dp K H (.ref a) q ∧ q.showable = true ∧ q.hasDict = false ∧ q.shown.length ≤ sizeLine ∧ q.depth + 1 ≤ 60 ∧ Q (.str q.shown) H
theorem cr_repr {k : Nat} (hr : RoomG k X.A) : CallR X (.builtin "repr") (rRepr X.K) := by
  intro pins s σ H vs us Q I r h
  obtain ⟨a, q, rfl, hd, h1, h2, h3, h4, hQ⟩ := h
  rw [Vals.ref1 r]
  obtain ⟨as, hR⟩ := Dp.reads I q (.ref a) (.ref a) hd rfl
  have hu := hr.room.units
  refine repr_of_reads' hR h1 (fun z => by rw [h2] at z; cases z) hr.gd (by omega) (fun _ _ z => z) (fun h' u tk hk => ?_) h3
  exact ⟨.str _, H, I.kept hk, ⟨u, rfl⟩, hQ⟩
theorem fit_repr : FitsC X.K X.mg T (rRepr X.K) pRepr := by
  intro μ H S xs vs R Q st rs ⟨d, q, e, hk, hp, h1, h2, h3, h4, h⟩ k
  subst e
  cases rs with
  | cons r1 r2 =>
    cases r2
    have hd := hp.dp st r1
    rcases hk with ⟨_, l, rfl⟩ | ⟨n, rfl⟩
    · cases r1 with
      | tup e1 e2 => exact ⟨_, q, rfl, hd, h1, h2, h3, h4, k _ S h _ H μ st.ok (.str _)⟩
    · cases r1 with
      | loc e1 => exact ⟨_, q, rfl, hd, h1, h2, h3, h4, k _ S h _ H μ st.ok (.str _)⟩
end
end Za

namespace Zg
open PySem PySem.Spec PyProof.Rows L2 GenW
/-! ### sum(.. for ..) -/
def sumInts : List V → Option Int
  | [] => some 0
  | .int i :: r => (sumInts r).map (i + ·)
  | _ :: _ => none
def isInt : V → Prop
  | .int _ => True
  | _ => False
theorem sumInts_snoc {i : Int} : ∀ {ys : List V} {n : Int}, sumInts ys = some n → sumInts (ys ++ [.int i]) = some (n + i)
  | [], n, h => by
    cases h
    show (some (0 : Int)).map (i + ·) = _
    simp
  | .int j :: r, n, h => by
    have h : (sumInts r).map (j + ·) = some n := h
    cases hr : sumInts r with
    | none => rw [hr] at h; cases h
    | some m =>
      rw [hr] at h
      have e : j + m = n := Option.some.inj h
      show (sumInts (r ++ [.int i])).map (j + ·) = _
      rw [sumInts_snoc hr]
      show some (j + (m + i)) = _
      rw [← e, Int.add_assoc]
  | .non :: _, _, h | .bl _ :: _, _, h | .str _ :: _, _, h | .ref _ :: _, _, h => by cases h
end Zg

set_option Elab.async false
set_option linter.all false
set_option maxRecDepth 100000
set_option maxHeartbeats 1000000
/-! sum(..) of a generator expression. -/
namespace Zg
open PySem PySem.Spec PyProof.Rows L2 GenW

def sumObj (n : Int) (tA : Tok) (c : Nat) : Obj := { cls := .type "list", dict := none, data := .seq #[.int n tA] c, slots := #[] }
def sumE (S : Addr) : Eater := ⟨[S], fun ys h => ∃ n tA c, sumInts ys = some n ∧ h.get? S = some (sumObj n tA c), fun _ => false, fun x => ∃ i, x = .int i⟩
theorem sumE_good (S : Addr) : (sumE S).Good := by
  refine ⟨fun ys h h' ⟨n, tA, c, e, q⟩ k => ⟨n, tA, c, e, k S List.mem_cons_self _ q⟩, fun ys h ⟨n, tA, c, e, q⟩ S' hS => ?_⟩
  have e' : S' = S := by simpa [sumE] using hS
  subst e'
  exact ⟨_, q, fun v z => nomatch z⟩
section
variable {X0 : Cx} {a S : Addr} {g : Nat} {go : Obj} {Q : List V → Hp → Prop} {A : Around} {fp : List Addr} {R : Result → Shared → Prop}
theorem drainS (hA : GApart X0 (sumE S) a fp) (hh : A.handled = none) (hroom : A.depth < recursionLimit) (hSc : S ≠ cStatics)
    (hend : ∀ s' ys n t, sumInts ys = some n → Fin X0 (sumE S) Q ys s' → R (.ok (.ret (.int n t))) s') :
    ∀ (n : Nat) (s : Shared) (st m : Int) (tA : Tok) (c : Nat), (st = 0 ∨ st = 2) → s.heap.get? S = some (sumObj m tA c) → Going A.in1.in1 X0 (sumE S) a g go Q n s →
      codeAny (model X0.prog X0.w) A (.builtin "sum.loop" ⟨[.ref a, .ref S, rawInt st, rawInt 0], []⟩) R s := by
  have hcs : cStatics ∉ (sumE S).SS := fun h => by
    have z : cStatics = S := by simpa [sumE] using h
    exact hSc z.symm
  have memS : S ∈ (sumE S).SS := List.mem_cons_self
  intro n
  induction n using Nat.strongRecOn with
  | ind n ih =>
    intro s st m tA c hst2 hS G
    refine codeAny_builtin F.entry_sum_loop ?_
    rw [Around.under_plainId F.plain_sum_loop _]
    show wpAny _ A.in1 (seqItems? (.ref S) >>= _) _ _ s
    refine wpAny_bind (wpAny_seqItems hS rfl ?_)
    show wpAny _ A.in1 (tryCatch (pyNext (.ref a)) _ >>= _) _ _ s
    refine wpAny_bind (wpAny_tryCatch (next_eat (A := A.in1) hA hh hroom hcs G (fun ys x v s1 r it sy => ?_) fun ys s1 hle cr fin sy => ?_))
    · obtain ⟨n1, tA1, c1, hn1, hS1⟩ := it.cr
      have hS2 := sy S memS _ hS
      rw [hS1] at hS2
      have e1 : n1 = m := by
        have z := congrArg Obj.data (Option.some.inj hS2)
        have z : Data.seq #[Value.int n1 tA1] c1 = Data.seq #[Value.int m tA] c := z
        injection z with z1 z2
        injection z1 with z3
        injection z3 with z4
        injection z4
      subst e1
      obtain ⟨i, rfl⟩ := it.take
      obtain ⟨t, rfl⟩ := r
      -- behind the adding
      have fin1 : ∀ (s2 : Shared) (st' : Int) (t2 : Tok) (c2 : Nat), (st' = 0 ∨ st' = 2) → s2.gens = s1.gens → s2.os = s1.os → (∀ b o, b ∉ (sumE S).SS → s1.heap.get? b = some o → s2.heap.get? b = some o) → s2.heap.get? S = some (sumObj (n1 + i) t2 c2) →
          codeAny (model X0.prog X0.w) A (.builtin "sum.loop" ⟨[.ref a, .ref S, rawInt st', rawInt 0], []⟩) R s2 := fun s2 st' t2 c2 hst' g1 g2 g3 g4 => by
        obtain ⟨k, hk, G'⟩ := it.more rfl s2 g1 g2 g3 ⟨_, _, _, sumInts_snoc hn1, g4⟩
        exact ih k (by omega) s2 st' _ t2 c2 hst' g4 G'
      have kp1 : ∀ {h : Heap} (f : Obj → Obj), (∀ b o, b ∉ (sumE S).SS → s1.heap.get? b = some o → h.get? b = some o) → ∀ b o, b ∉ (sumE S).SS → s1.heap.get? b = some o → (h.update S f).get? b = some o := fun f q b o hb z =>
        (Heap.get?_update_other _ _ (fun e : S = b => hb (by rw [← e]; exact memS))).trans (q b o hb z)
      have kp0 : ∀ b o, b ∉ (sumE S).SS → s1.heap.get? b = some o → s1.heap.get? b = some o := fun _ _ _ z => z
      rcases hst2 with rfl | rfl
      · show wpAny _ A.in1 (if (_ : Bool) = true then (mkInt (n1 + i) >>= _) else _) _ _ _
        split
        · refine wpAny_bind (wpAny_mkInt ?_)
          show wpAny _ A.in1 (updateSeq S (fun _ => #[.int (n1 + i) s1.toks]) >>= _) _ _ _
          refine wpAny_bind (wpAny_updateSeq hS1 rfl (wpAny_pure ⟨plainId_quiet F.plain_sum_loop _, ?_⟩))
          exact fin1 _ 0 s1.toks _ (.inl rfl) rfl rfl (kp1 _ kp0) (Heap.get?_update_self _ hS1 rfl)
        · refine wpAny_bind (wpAny_rule ?_)
          refine wpAny_bind (wpAny_attempt (wpAny_holding (wpAny_add_int ?_)))
          show wpAny _ A.in1 (updateSeq S (fun _ => #[.int (n1 + i) s1.toks]) >>= _) _ _ _
          refine wpAny_bind (wpAny_updateSeq hS1 rfl ?_)
          have hU := Heap.get?_update_self (Obj.mapSeq fun _ => #[Value.int (n1 + i) s1.toks]) hS1 rfl
          refine wpAny_bind (wpAny_letGo ?_)
          refine wpAny_bind (wpAny_updateSeq hU rfl (wpAny_pure ⟨plainId_quiet F.plain_sum_loop _, ?_⟩))
          exact fin1 _ 2 _ _ (.inr rfl) rfl rfl (kp1 _ (kp1 _ kp0)) (Heap.get?_update_self _ hU rfl)
      · show wpAny _ A.in1 ((holding [Value.int i t] (binaryOp .Add (.int n1 tA) (.int i t))).attempt >>= _) _ _ _
        refine wpAny_bind (wpAny_attempt (wpAny_holding (wpAny_add_int ?_)))
        show wpAny _ A.in1 (updateSeq S (fun _ => #[.int (n1 + i) s1.toks]) >>= _) _ _ _
        refine wpAny_bind (wpAny_updateSeq hS1 rfl ?_)
        have hU := Heap.get?_update_self (Obj.mapSeq fun _ => #[Value.int (n1 + i) s1.toks]) hS1 rfl
        refine wpAny_bind (wpAny_letGo ?_)
        refine wpAny_bind (wpAny_updateSeq hU rfl (wpAny_pure ⟨plainId_quiet F.plain_sum_loop _, ?_⟩))
        exact fin1 _ 2 _ _ (.inr rfl) rfl rfl (kp1 _ (kp1 _ kp0)) (Heap.get?_update_self _ hU rfl)
    · obtain ⟨n1, tA1, c1, hn1, hS1⟩ := cr
      have hS2 := sy S memS _ hS
      rw [hS1] at hS2
      have e1 : n1 = m := by
        have z := congrArg Obj.data (Option.some.inj hS2)
        have z : Data.seq #[Value.int n1 tA1] c1 = Data.seq #[Value.int m tA] c := z
        injection z with z1 z2
        injection z1 with z3
        injection z3 with z4
        injection z4
      subst e1
      exact wpAny_pure (hend s1 ys n1 tA hn1 fin)
end

def tSumG (P : Addr) (wi : TI) (gt : TG) (tt : TT) (te : TE) (vs : List Nat) : TE := fun σ H Q =>
  wi σ H fun J H1 => GxR.TabG H1 P ∧ ∀ H2, GxR.Tabbed P H1 H2 → ∃ W m, W 0 m [] H2 ∧ GTurn (sumE 0) J gt tt te vs (wipe σ vs) (fun ys H3 => ∀ n, sumInts ys = some n → Q (.int n) H3) W
section
variable {X : Cx} {elt tg iter : Expr} {ifs : List Expr} {scope : Scope} {gpos p pos : Pos} {own : List (Str × Nat)} {c P : Addr} {k : Nat} {gt : TG} {tt : TT} {te : TE} {wi : TI}
theorem pe_sumG (hr : Room (k + 2) X.A) (hg : Gl X "sum") (hm : X.mg "sum" = none) (S : GScp X c P scope own) (hi : PI X tg iter wi)
    (hpg : GIn (X := X) (k := k) (scope := scope) fun X0 => PG X0 tg gt) (hpt : GIn (X := X) (k := k) (scope := scope) fun X0 => PTs X0 ifs tt) (hpe : GIn (X := X) (k := k) (scope := scope) fun X0 => PE X0 elt te)
    (hs : ∀ v, genFold iter X.env v = pure v := by intro _; rfl)
    (he : starEach [.GeneratorExp elt [⟨tg, iter, ifs, 0⟩] scope gpos] X.env = (false, eval (.GeneratorExp elt [⟨tg, iter, ifs, 0⟩] scope gpos) X.env) :: starEach [] X.env := by rfl) :
    PE X (.Call (.Name "sum" p) [.GeneratorExp elt [⟨tg, iter, ifs, 0⟩] scope gpos] [] pos) (tSumG P wi gt tt te (own.map (·.2))) := by
  refine ⟨fun pins s σ H Q I h => ?_⟩
  refine wpAny_Call_Name_kw (ld_blt I hg hm boot_sum ?_)
  refine PyProof.Rows.callWith_builtin1 ?_ he rfl
  rw [he]
  show wpAny _ _ (spliced ((false, eval (.GeneratorExp elt [⟨tg, iter, ifs, 0⟩] scope gpos) X.env) :: backTo pos (starEach [] X.env))) _ _ s
  refine Calls.spliced_cons (gen_laid hr S.tab S.code S.blk S.cell S.dot S.co hi hs I h fun J H2 it fp tn C code go a g s4 s5 L hR => ?_)
  refine Calls.spliced_nil ?_
  obtain ⟨W, m, w0, turn⟩ := hR
  obtain ⟨nm, qn, gc, gd, gsl⟩ := L.gen
  have hrB : Room (k + 1) X.A.in1.in1 := by
    refine ⟨hr.hd, ?_, ?_⟩
    · have := hr.dp
      show X.A.depth + 3 * (k + 1) + 5 < _
      omega
    · have := hr.un
      show X.A.units + 1 + 1 + 16 * (k + 1) + 200 < _
      omega
  refine call_function_tree F.kind_sum F.plain_sum F.entry_sum (F.args_sum1 _) ?_
  unfold Builtin.«sum»
  simp only [List.length_cons, List.length_nil]
  rw [if_neg (by decide)]
  refine wpAny_bind (wpAny_of_eq (show Builtin.Builtins.bindParams "sum" ["start"] 0 { } = pure [none] from rfl) ?_)
  refine wpAny_bind (wpAny_pyIter_gen ⟨go, nm, qn, L.gobj, gc, gd, gsl⟩ ?_)
  refine wpAny_bind (wpAny_mkInt ?_)
  refine wpAny_bind (wpAny_pure ?_)
  simp only [List.forIn_cons, List.forIn_nil]
  refine wpAny_bind (wpAny_bind (wpAny_bind (wpAny_isInstance (T := "int") (b := false) (typeIs_int _ _ _) PySem.sub_int_str ?_)))
  simp only [Bool.false_eq_true, if_false]
  refine wpAny_pure (wpAny_bind (wpAny_bind (wpAny_isInstance (T := "int") (b := false) (typeIs_int _ _ _) PySem.sub_int_bytes ?_)))
  simp only [Bool.false_eq_true, if_false]
  refine wpAny_pure (wpAny_bind (wpAny_bind (wpAny_isInstance (T := "int") (b := false) (typeIs_int _ _ _) PySem.sub_int_bytearray ?_)))
  simp only [Bool.false_eq_true, if_false]
  refine wpAny_pure (wpAny_pure ?_)
  refine wpAny_bind (wpAny_newObj_type ?_)
  refine wpAny_pure ⟨plainId_quiet F.plain_sum_loop _, ?_⟩
  have hS6 : (s5.heap.push (sumObj 0 s5.toks 0)).get? s5.heap.objs.size = some (sumObj 0 s5.toks 0) := Heap.get?_push_size _ rfl
  obtain ⟨hAp, G⟩ := going_start (B := X.A.in1.in1) (e := sumE s5.heap.objs.size) (X0 := _) (s := { s5 with heap := s5.heap.push (sumObj 0 s5.toks 0), toks := s5.toks + 1 }) L S.blk S.cell S.nd S.co hr.hd L.inv.ok.frames (sumE_good _) (fun S' hS' => by
      have e' : S' = s5.heap.objs.size := by simpa [sumE] using hS'
      rw [e']; exact Nat.le_refl _) (fun b o z => Heap.get?_push_of_some _ z) rfl rfl ⟨0, _, _, rfl, hS6⟩ rfl (hpg _ _ _ _ _ _ (over_room hrB) over_gd) (hpt _ _ _ _ _ _ (over_room hrB) over_gd) (hpe _ _ _ _ _ _ (over_room hrB) over_gd) turn w0
  have hcl : cStatics < s5.heap.objs.size := by
    obtain ⟨_, hn, _⟩ := L.inv.nolimit.keeps L.kp
    exact hn.lt
  refine drainS (A := X.A) hAp hr.hd (by have := hr.dp; show X.A.depth < _; omega) (Nat.ne_of_gt hcl) (fun s' ys n t hn fin => ?_) sizeLine _ 0 0 s5.toks 0 (.inl rfl) hS6 G
  obtain ⟨H', I', _, q⟩ := fin_back L rfl fin
  exact ⟨.int n, H', I', ⟨t, rfl⟩, q n hn⟩
end
end Zg

namespace Za
open PySem PySem.Spec PyProof.Rows L2 Zk Zg
def sumD : List D → Int
  | [] => 0
  | .int i :: r => i + sumD r
  | _ :: r => sumD r
theorem sum_rel {K : PySem.W.Frag} {mg : Str → Option Value} {μ : List Addr} {H : Hp} : ∀ {ys : List V} {acc : List D} {n : Int}, Rps K mg μ H ys acc → sumInts ys = some n → n = sumD acc
  | _, _, n, .nil, h => by cases h; rfl
  | _, _, n, .cons (v := v) (vs := vs) (d := d) (ds := ds) r rs, h => by
    cases r with
    | int i =>
      have h : (sumInts vs).map (i + ·) = some n := h
      cases e : sumInts vs with
      | none => rw [e] at h; cases h
      | some m =>
        rw [e] at h
        have e2 : i + m = n := Option.some.inj h
        rw [← e2, sum_rel rs e]
        rfl
    | _ => cases h
section
variable {X : Cx} {T : TabSet} {μ₀ : List Addr} {H₀ : Hp} {tg iter elt : Expr} {ifs : List Expr} {src : PTI} {g : PTG} {tt : PTT} {te : PTE} {pos p gpos : Pos} {vs : List Nat} {scope : Scope} {own : List (Str × Nat)}
def pSumG (src : PTI) (g : PTG) (tt : PTT) (te : PTE) (vs : List Nat) : PTE := fun ρ S R => src ρ S fun items still S1 => ∃ W : Nat → List D → Sto → Prop, W 0 [] S1 ∧ (∀ i acc S', W i acc S' → still S') ∧
  (∀ i d acc S', items[i]? = some d → W i acc S' → g d (wipeD ρ vs) S' fun ρ2 S2 => tt ρ2 S2 fun b S3 => if b = true then te ρ2 S3 fun y S4 => (∃ j, y = .int j) ∧ acc.length < sizeLine ∧ W (i + 1) (acc ++ [y]) S4 else W (i + 1) acc S3) ∧
  ∀ acc S', W items.length acc S' → R (.int (sumD acc)) S'
theorem sumG_imp {P : Addr} (hP : P ∈ T.gen) : ∀ σ H Q, Emb X.K X.mg T μ₀ H₀ (pSumG src g tt te vs) σ H Q → tSumG P (EmbI X.K X.mg T μ₀ H₀ src) (EmbG X.K X.mg T μ₀ H₀ vs g) (EmbT X.K X.mg T μ₀ H₀ tt) (Emb X.K X.mg T μ₀ H₀ te) vs σ H Q := by
  intro σ H Q ⟨ρ, S, μ, R, ok, rv, q, k⟩
  refine ⟨ρ, S, μ, _, ok, rv, q, fun items still S1 ⟨W, w0, ws, wt, we⟩ J H1 μ1 ok1 pit => ⟨ok1.st.tab P hP, fun H2 ht => ?_⟩⟩
  have n1 := tabbed_ok ok1 hP ht
  refine ⟨fun i m ys H' => i + m = items.length ∧ ∃ acc S' μ', Ok X.K X.mg T μ1 H2 μ' H' S' ∧ Rps X.K X.mg μ' H' ys acc ∧ W i acc S', items.length, ⟨by omega, _, _, _, n1.here, .nil, w0⟩, fun i m ys H' ⟨him, acc, S', μ', ok', rys, w⟩ => ?_⟩
  by_cases hi : i < items.length
  · refine .inr ?_
    have hd : items[i]? = some items[i] := List.getElem?_eq_getElem hi
    obtain ⟨go, yld⟩ := pit.step μ' H' S' i _ (n1.trans ok') (ws _ _ _ w) hd
    refine ⟨go, fun zs H2' => ∃ acc S2 μ2, Ok X.K X.mg T μ1 H2 μ2 H2' S2 ∧ Rps X.K X.mg μ2 H2' zs acc ∧ W (i + 1) acc S2, fun zs H2' ⟨acc, S2, μ2, o2, rz, w2⟩ => ⟨m - 1, by omega, by omega, acc, S2, μ2, o2, rz, w2⟩, fun x H3 hy => ?_⟩
    obtain ⟨oky, rx⟩ := yld x H3 hy
    have oA := (ok1.trans (n1.trans (ok'.trans oky)))
    refine ⟨_, wipeD ρ vs, S', μ', _, ok.trans oA, (oA.rv rv).wipe vs, rx, wt i _ acc S' hd w, fun ρ2 S2 q2 σ2 H3 μ2 hw ok2 rv2 => ⟨hw.trans (wipe_idem vs), ?_⟩⟩
    refine ⟨ρ2, S2, μ2, _, ok.trans (oA.trans ok2), rv2, q2, fun b S3 q3 H4 μ3 ok3 => ?_⟩
    cases b with
    | false => exact ⟨acc, S3, μ3, (ok'.trans oky).trans (ok2.trans ok3), (oky.trans (ok2.trans ok3)).rps rys, q3⟩
    | true =>
      refine ⟨ρ2, S3, μ3, _, ok.trans (oA.trans (ok2.trans ok3)), ok3.rv rv2, q3, fun y S4 ⟨⟨j, ej⟩, hz, q4⟩ u H5 μ4 ok4 r4 => ?_⟩
      have oB := oky.trans (ok2.trans (ok3.trans ok4))
      subst ej
      cases r4
      refine ⟨by rw [rys.length]; exact hz, ⟨j, rfl⟩, ?_⟩
      exact ⟨acc ++ [.int j], S4, μ4, ok'.trans oB, (oB.rps rys).append (.cons (.int j) .nil), q4⟩
  · have e : i = items.length := by omega
    subst e
    refine .inl ⟨pit.stop μ' H' S' (n1.trans ok') (ws _ _ _ w), fun n hn => ?_⟩
    have en := sum_rel rys hn
    subst en
    exact k _ _ (we _ _ w) _ _ μ' (ok1.trans (n1.trans ok')) (.int _)
theorem c_sumG {k : Nat} {cd P : Addr} (hP : P ∈ T.gen) (hr : Room (k + 2) X.A) (hgl : Gl X "sum") (hm : X.mg "sum" = none) (S : GScp X cd P scope own) (hi : PPI T μ₀ H₀ X tg iter src)
    (hg : GIn (X := X) (k := k) (scope := scope) fun X' => PPG T μ₀ H₀ (own.map (·.2)) X' tg g) (ht : GIn (X := X) (k := k) (scope := scope) fun X' => PPTs T μ₀ H₀ X' ifs tt) (he : GIn (X := X) (k := k) (scope := scope) fun X' => PPE T μ₀ H₀ X' elt te)
    (hs : ∀ v, genFold iter X.env v = pure v := by intro _; rfl)
    (hst : starEach [.GeneratorExp elt [⟨tg, iter, ifs, 0⟩] scope gpos] X.env = (false, eval (.GeneratorExp elt [⟨tg, iter, ifs, 0⟩] scope gpos) X.env) :: starEach [] X.env := by rfl) :
    PPE T μ₀ H₀ X (.Call (.Name "sum" p) [.GeneratorExp elt [⟨tg, iter, ifs, 0⟩] scope gpos] [] pos) (pSumG src g tt te (own.map (·.2))) :=
  PE.imp (pe_sumG hr hgl hm S hi hg ht he hs hst) (sumG_imp hP)
end
end Za

set_option Elab.async false
set_option linter.all false
set_option maxRecDepth 100000
set_option maxHeartbeats 1000000
/-! Defs of a head: the promise by the body; what calls and loops let out. -/
namespace Za
open PySem PySem.Spec PyProof.Rows L2 Zk Zg

theorem passNo {X : Cx} {T : TabSet} {μ₀ : List Addr} {H₀ : Hp} : Passes (L2.CX X.prog X.w) X (EmbX X.K X.mg T μ₀ H₀ PXno) := fun _ _ _ _ _ _ _ h => by
  obtain ⟨_, _, _, _, _, _, _, _, _, _, _, _, _, _, _, _, _, _, _, _, _, _, _, z⟩ := h
  exact z.elim
section
variable {P : Program} {w : World} {K : PySem.W.Frag} {mg : Str → Option Value} {base : Heap} {N : List Str} {qual : Str} {scope : Scope} {f : Addr} {cd : Value} {A : Around} {outer : List Env} {s : Shared} {H : Hp} {E : XK}
abbrev cxL (P : Program) (w : World) (K : PySem.W.Frag) (mg : Str → Option Value) (base : Heap) (N : List Str) (qual : Str) (scope : Scope) (f : Addr) (cd : Value) (A : Around) (outer : List Env) (s : Shared) (H : Hp) (E : XK) : Cx := cxOf (L2.CX P w) P w K mg base N qual scope f cd A outer s H E
theorem own_cx : PassesOwn (model P w) (cxL P w K mg base N qual scope f cd A outer s H E).A (cxL P w K mg base N qual scope f cd A outer s H E).env (cxL P w K mg base N qual scope f cd A outer s H E).xe :=
  passes_of (X := cxL P w K mg base N qual scope f cd A outer s H E) (K := fun e s'' => L2.CX P w outer H s E e s'') (E₁ := fun e s'' => L2.CX P w outer H s E e s'') rfl
theorem takes_cx : Takes (cxL P w K mg base N qual scope f cd A outer s H E) (fun cls d _ H' => E cls d H') :=
  takes_of (X := cxL P w K mg base N qual scope f cd A outer s H E) (E₁ := fun e s'' => L2.CX P w outer H s E e s'') rfl rfl rfl rfl
theorem pass_cx {E' : XK} (h : ∀ cls d H', E' cls d H' → E cls d H') : Passes (L2.CX P w) (cxL P w K mg base N qual scope f cd A outer s H E) E' :=
  passes_call (X := cxL P w K mg base N qual scope f cd A outer s H E) takes_cx fun cls d _ H' q => h cls d H' q
end
theorem okG {P : Program} {w : World} {K : PySem.W.Frag} {mg : Str → Option Value} {base : Heap} {x qual : Str} {params : Arguments} {body : List Stmt} {scope : Scope} {dvs : List V} {kws : List (Str × V)} {dn : He.Defn} {fd : FuncData} {N ps : List Str} {k : Nat} {T : TabSet} {psp : PSp}
    (F : FunD K x qual params body scope dvs kws (He.fAd K dn) fd) (S : FnScope N ps scope) (len : ∀ ds S R PX, psp ds S R PX → ds.length = ps.length)
    (hbody : ∀ (cdv : Value) (A : Around) (outer : List Env) (s : Shared) (H : Hp) (E : XK) (μ : List Addr) (PX : PXK), cdv = .ref (He.codeOf K dn) → RoomG k (cxL P w K mg base N qual scope (He.fAd K dn) cdv A outer s H E).A → (∀ cls d H', EmbX K mg T μ H PX cls d H' → E cls d H') →
      ∃ t, PPSs T μ H (cxL P w K mg base N qual scope (He.fAd K dn) cdv A outer s H E) body t ∧ ∀ ds S R, psp ds S R PX → Closed S.length S → bels S.length ds → t { nx := fun _ S' => Fall S.length R .non S', rt := Fall S.length R } (startD N ds) S) :
    FnG P w K mg base (L2.CX P w) (k + 1) (He.fAd K dn) fd ps (EmbSp K mg T psp) := by
  obtain ⟨oc, od, dV, kV, doc, pm, an, cdv, ct, osl, rfl, lk, hcd, _, _⟩ := F.ex
  refine fn_pure lk hcd S len fun A outer s H E μ PX hr hE => hbody cdv A outer s H E μ PX ?_ hr hE
  obtain ⟨c, hc⟩ := He.codeIn_ref hcd
  rw [hc, He.codeOf_eq lk hc]
end Za

set_option Elab.async false
set_option linter.all false
set_option maxRecDepth 100000
set_option maxHeartbeats 1000000
/-! Short words for the rules. -/
namespace Za
open PySem PySem.Spec PyProof.Rows L2 Zk Zg

/-- names that the module leaves to the built-ins -/
structure Bl (mg : Str → Option Value) : Prop where
  len : mg "len" = none
  tuple : mg "tuple" = none
  list : mg "list" = none
  range : mg "range" = none
  enumerate : mg "enumerate" = none
  zip : mg "zip" = none
  sum : mg "sum" = none
  max : mg "max" = none
  min : mg "min" = none
  abs : mg "abs" = none
  int : mg "int" = none
  sorted : mg "sorted" = none
  repr : mg "repr" = none
  gcd : mg "gcd" = some (.builtin "math.gcd")
/-- a def that may be called -/
def Cal (P : Program) (w : World) (K : PySem.W.Frag) (mg : Str → Option Value) (base : Heap) (T : TabSet) (k : Nat) (x : Str) (psp : PSp) : Prop :=
  ∃ f fd ps, mg x = some (.ref f) ∧ FnG P w K mg base (L2.CX P w) k f fd ps (EmbSp K mg T psp) ∧ Binds K fd ps [] ∧ PySem.W.keepIn K (.ref f) = true
abbrev pSubI : POp := pI2 (fun _ _ => True) fun i j => .int (i - j)
abbrev pFdivI : POp := pI2 CDivZ fun i j => .int (i.fdiv j)
abbrev pModI : POp := pI2 (fun _ j => j ≠ 0) fun i j => .int (i.fmod j)
abbrev pPowI : POp := pI2 CPow fun i j => .int (i ^ j.toNat)
abbrev pLt : POp := pI2 (fun _ _ => True) fun i j => .bl (decide (i < j))
abbrev pLe : POp := pI2 (fun _ _ => True) fun i j => .bl (decide (i ≤ j))
abbrev pGt : POp := pI2 (fun _ _ => True) fun i j => .bl (decide (j < i))
abbrev pGe : POp := pI2 (fun _ _ => True) fun i j => .bl (decide (j ≤ i))
abbrev pAbs : PCl := pI1 fun i => .int (if i < 0 then -i else i)
abbrev pMax2 : PCl := pI2c fun i j => if j > i then j else i
abbrev pMin2 : PCl := pI2c fun i j => if j < i then j else i
abbrev pGcd : PCl := pI2c fun a b => ((Nat.gcd a.natAbs b.natAbs : Nat) : Int)
section
variable {X : Cx} {T : TabSet} {μ₀ : List Addr} {H₀ : Hp} {a b e o : Expr} {es : List Expr} {ta tb te to : PTE} {t : PTA} {pos p apos : Pos}
theorem t_lt (ha : PPE T μ₀ H₀ X a ta) (hb : PPE T μ₀ H₀ X b tb) : PPT T μ₀ H₀ X (.Compare a [.Lt] [b] pos) (pTest (pBin pLt ta tb)) := ct_cmp op_lt fit_intB ha hb (nomark _)
theorem t_le (ha : PPE T μ₀ H₀ X a ta) (hb : PPE T μ₀ H₀ X b tb) : PPT T μ₀ H₀ X (.Compare a [.LtE] [b] pos) (pTest (pBin pLe ta tb)) := ct_cmp op_le fit_intB ha hb (nomark _)
theorem t_gt (ha : PPE T μ₀ H₀ X a ta) (hb : PPE T μ₀ H₀ X b tb) : PPT T μ₀ H₀ X (.Compare a [.Gt] [b] pos) (pTest (pBin pGt ta tb)) := ct_cmp op_gt fit_intB ha hb (nomark _)
theorem t_ge (ha : PPE T μ₀ H₀ X a ta) (hb : PPE T μ₀ H₀ X b tb) : PPT T μ₀ H₀ X (.Compare a [.GtE] [b] pos) (pTest (pBin pGe ta tb)) := ct_cmp op_ge fit_intB ha hb (nomark _)
theorem t_eq (hu : X.A.units + 64 < cLine) (ha : PPE T μ₀ H₀ X a ta) (hb : PPE T μ₀ H₀ X b tb) : PPT T μ₀ H₀ X (.Compare a [.Eq] [b] pos) (pTest (pBin pEq ta tb)) := ct_cmp (op_eqD hu) fit_eq ha hb (nomark _)
theorem t_ne (hu : X.A.units + 64 < cLine) (ha : PPE T μ₀ H₀ X a ta) (hb : PPE T μ₀ H₀ X b tb) : PPT T μ₀ H₀ X (.Compare a [.NotEq] [b] pos) (pTest (pBin pNe ta tb)) := ct_cmp (op_neD hu) fit_ne ha hb (nomark _)
theorem t_isN {j p2} (ha : PPE T μ₀ H₀ X a ta) : PPT T μ₀ H₀ X (.Compare a [.Is] [.Constant .none j p2] pos) (pTest (pBin pIsN ta (pC .non))) := ct_cmp op_isN fit_isN ha c_non (nomark _)
theorem t_notN {j p2} (ha : PPE T μ₀ H₀ X a ta) : PPT T μ₀ H₀ X (.Compare a [.IsNot] [.Constant .none j p2] pos) (pTest (pBin pNotN ta (pC .non))) := ct_cmp op_notN fit_notN ha c_non (nomark _)
theorem t_in (ha : PPE T μ₀ H₀ X a ta) (hb : PPE T μ₀ H₀ X b tb) (hm : behindInMarks .In b = false := by rfl) : PPT T μ₀ H₀ X (.Compare a [.In] [b] pos) (pTest (pBin (pIn false) ta tb)) := ct_cmp op_in_seq fit_in ha hb hm
theorem t_notIn (ha : PPE T μ₀ H₀ X a ta) (hb : PPE T μ₀ H₀ X b tb) (hm : behindInMarks .NotIn b = false := by rfl) : PPT T μ₀ H₀ X (.Compare a [.NotIn] [b] pos) (pTest (pBin (pIn true) ta tb)) := ct_cmp op_notIn_seq fit_in ha hb hm
/-! calls -/
theorem k_len (B : Bl X.mg) (hg : Gl X "len") (ha : PPA T μ₀ H₀ X [e] t) (he : starEach [e] X.env = (false, eval e X.env) :: starEach [] X.env := by rfl) : PPE T μ₀ H₀ X (.Call (.Name "len" p) [e] [] pos) (pCall pLen t) := c_callB call_len_seq fit_len hg B.len boot_len ha (by decide) (by decide) he rfl
theorem k_abs (B : Bl X.mg) (hg : Gl X "abs") (ha : PPA T μ₀ H₀ X [e] t) (he : starEach [e] X.env = (false, eval e X.env) :: starEach [] X.env := by rfl) : PPE T μ₀ H₀ X (.Call (.Name "abs" p) [e] [] pos) (pCall pAbs t) := c_callB call_abs fit_abs hg B.abs (by decide +kernel) ha (by decide) (by decide) he rfl
theorem k_int (B : Bl X.mg) (hg : Gl X "int") (ha : PPA T μ₀ H₀ X [e] t) (he : starEach [e] X.env = (false, eval e X.env) :: starEach [] X.env := by rfl) : PPE T μ₀ H₀ X (.Call (.Name "int" p) [e] [] pos) (pCall pInt t) := c_callTy call_int1 fit_int1 hg B.int (by decide +kernel) ha (by decide) (by decide) he rfl
theorem k_tuple (B : Bl X.mg) (hg : Gl X "tuple") (ha : PPA T μ₀ H₀ X [e] t) (he : starEach [e] X.env = (false, eval e X.env) :: starEach [] X.env := by rfl) : PPE T μ₀ H₀ X (.Call (.Name "tuple" p) [e] [] pos) (pCall pTuple t) := c_callTy call_tuple_of fit_tuple hg B.tuple boot_tuple ha (by decide) (by decide) he rfl
theorem k_list (B : Bl X.mg) (hg : Gl X "list") (ha : PPA T μ₀ H₀ X [e] t) (he : starEach [e] X.env = (false, eval e X.env) :: starEach [] X.env := by rfl) : PPE T μ₀ H₀ X (.Call (.Name "list" p) [e] [] pos) (pCall pList t) := c_callTy call_list_of fit_list hg B.list boot_list ha (by decide) (by decide) he rfl
theorem k_sum (B : Bl X.mg) (hc : X.calm = true) (hg : Gl X "sum") (ha : PPA T μ₀ H₀ X [e] t) (he : starEach [e] X.env = (false, eval e X.env) :: starEach [] X.env := by rfl) : PPE T μ₀ H₀ X (.Call (.Name "sum" p) [e] [] pos) (pCall pSum t) := c_callB (cr_sum hc) fit_sum hg B.sum boot_sum ha (by decide) (by decide) he rfl
theorem k_maxT (B : Bl X.mg) (hc : X.calm = true) (hg : Gl X "max") (ha : PPA T μ₀ H₀ X [e] t) (he : starEach [e] X.env = (false, eval e X.env) :: starEach [] X.env := by rfl) : PPE T μ₀ H₀ X (.Call (.Name "max" p) [e] [] pos) (pCall pMaxT t) := c_callB (cr_maxT hc) fit_maxT hg B.max (by decide +kernel) ha (by decide) (by decide) he rfl
theorem k_sorted (B : Bl X.mg) (hg : Gl X "sorted") (ha : PPA T μ₀ H₀ X [e] t) (he : starEach [e] X.env = (false, eval e X.env) :: starEach [] X.env := by rfl) : PPE T μ₀ H₀ X (.Call (.Name "sorted" p) [e] [] pos) (pCall pSorted t) := c_callB cr_sortedI fit_sorted hg B.sorted (by decide +kernel) ha (by decide) (by decide) he rfl
theorem k_repr {k : Nat} (B : Bl X.mg) (hr : RoomG k X.A) (hg : Gl X "repr") (ha : PPA T μ₀ H₀ X [e] t) (he : starEach [e] X.env = (false, eval e X.env) :: starEach [] X.env := by rfl) : PPE T μ₀ H₀ X (.Call (.Name "repr" p) [e] [] pos) (pCall pRepr t) := c_callB (cr_repr hr) fit_repr hg B.repr (by decide +kernel) ha (by decide) (by decide) he rfl
theorem k_max2 (B : Bl X.mg) (hc : X.calm = true) (hg : Gl X "max") (ha : PPA T μ₀ H₀ X [e, b] t) (he : starEach [e, b] X.env = (false, eval e X.env) :: starEach [b] X.env := by rfl) (hpl : (backTo pos (starEach [b] X.env)).any (·.1) = false := by rfl) : PPE T μ₀ H₀ X (.Call (.Name "max" p) [e, b] [] pos) (pCall pMax2 t) := c_callB (call_max2 hc) fit_2c hg B.max (by decide +kernel) ha (by decide) (by decide) he hpl
theorem k_min2 (B : Bl X.mg) (hc : X.calm = true) (hg : Gl X "min") (ha : PPA T μ₀ H₀ X [e, b] t) (he : starEach [e, b] X.env = (false, eval e X.env) :: starEach [b] X.env := by rfl) (hpl : (backTo pos (starEach [b] X.env)).any (·.1) = false := by rfl) : PPE T μ₀ H₀ X (.Call (.Name "min" p) [e, b] [] pos) (pCall pMin2 t) := c_callB (call_min2 hc) fit_2c hg B.min (by decide +kernel) ha (by decide) (by decide) he hpl
theorem k_gcd (B : Bl X.mg) (hg : Gl X "gcd") (ha : PPA T μ₀ H₀ X [e, b] t) (he : starEach [e, b] X.env = (false, eval e X.env) :: starEach [b] X.env := by rfl) (hpl : (backTo pos (starEach [b] X.env)).any (·.1) = false := by rfl) : PPE T μ₀ H₀ X (.Call (.Name "gcd" p) [e, b] [] pos) (pCall pGcd t) := c_callF cr_gcd fit_gcd hg B.gcd ha (by decide) he hpl
theorem k_def {k kx : Nat} {x : Str} {psp : PSp} (px : PXK) (C : Cal X.prog X.w X.K X.mg X.base T k x psp) (hr : RoomG kx X.A) (hk : k ≤ kx) (hg : Gl X x) (hx : Passes (L2.CX X.prog X.w) X (EmbX X.K X.mg T μ₀ H₀ px)) (ha : PPA T μ₀ H₀ X (e :: es) t)
    (hdb : (x == ("__debug__" : Str)) = false := by decide) (he : starEach (e :: es) X.env = (false, eval e X.env) :: starEach es X.env := by rfl) (hpl : (backTo pos (starEach es X.env)).any (·.1) = false := by rfl) :
    PPE T μ₀ H₀ X (.Call (.Name x p) (e :: es) [] pos) (pCallF psp px t) := by
  obtain ⟨f, fd, ps, hm, F, hb, hkp⟩ := C
  exact c_callG px F (hr.mono hk) hg hm hkp hb hx ha hdb he hpl
theorem k_append (ho : PPE T μ₀ H₀ X o to) (ha : PPA T μ₀ H₀ X [e] t) (hbase : attributeBase o "append" X.env (eval o X.env) = eval o X.env := by rfl)
    (hfew : ((backTo pos (starEach [e] X.env)).all (fun x => !x.1) && (backToKw pos (keywordEach [] X.env)).all (fun x => x.1.isSome) && decide (([e] : List Expr).length + ([] : List Keyword).length + (if ([] : List Keyword).isEmpty then 0 else 1) < 30)) = true := by rfl)
    (hline : (apos.endLine == pos.line) = true := by rfl) (hs : starEach [e] X.env = (false, eval e X.env) :: starEach [] X.env := by rfl) :
    PPE T μ₀ H₀ X (.Call (.Attribute o "append" apos) [e] [] pos) (pMt pmAppend to t) := c_mt PySem.F.slot_list_append PySem.F.type_list_append mt_append fit_append ho ha hbase hfew hline hs rfl
theorem k_insert (ho : PPE T μ₀ H₀ X o to) (ha : PPA T μ₀ H₀ X [e, b] t) (hbase : attributeBase o "insert" X.env (eval o X.env) = eval o X.env := by rfl)
    (hfew : ((backTo pos (starEach [e, b] X.env)).all (fun x => !x.1) && (backToKw pos (keywordEach [] X.env)).all (fun x => x.1.isSome) && decide (([e, b] : List Expr).length + ([] : List Keyword).length + (if ([] : List Keyword).isEmpty then 0 else 1) < 30)) = true := by rfl)
    (hline : (apos.endLine == pos.line) = true := by rfl) (hs : starEach [e, b] X.env = (false, eval e X.env) :: starEach [b] X.env := by rfl) (hplain : (backTo pos (starEach [b] X.env)).any (·.1) = false := by rfl) :
    PPE T μ₀ H₀ X (.Call (.Attribute o "insert" apos) [e, b] [] pos) (pMt pmInsert to t) := c_mt PySem.F.slot_list_insert PySem.F.type_list_insert mt_insert fit_insert ho ha hbase hfew hline hs hplain
theorem k_index (ho : PPE T μ₀ H₀ X o to) (ha : PPA T μ₀ H₀ X [e] t) (hbase : attributeBase o "index" X.env (eval o X.env) = eval o X.env := by rfl)
    (hfew : ((backTo pos (starEach [e] X.env)).all (fun x => !x.1) && (backToKw pos (keywordEach [] X.env)).all (fun x => x.1.isSome) && decide (([e] : List Expr).length + ([] : List Keyword).length + (if ([] : List Keyword).isEmpty then 0 else 1) < 30)) = true := by rfl)
    (hline : (apos.endLine == pos.line) = true := by rfl) (hs : starEach [e] X.env = (false, eval e X.env) :: starEach [] X.env := by rfl) :
    PPE T μ₀ H₀ X (.Call (.Attribute o "index" apos) [e] [] pos) (pMt pmIndex to t) := c_mt PySem.F.slot_list_index PySem.F.type_list_index mt_index fit_index ho ha hbase hfew hline hs rfl
end
end Za

set_option Elab.async false
set_option linter.all false
set_option maxRecDepth 100000
set_option maxHeartbeats 1000000
/-! Own exceptions: raised, caught by several clauses with and without a name; a def in a local name. -/
namespace Zt
open PySem PySem.Spec PyProof.Rows L2

/-- the suite of a clause, the caught one at a -/
abbrev TSu := Addr → Value → Option Addr → TS
/-- the clauses: what each names, the slot of its name -/
abbrev Cls1 := Value × Option Nat × TSu
def endsAs (D : Ends) (i : Nat) : Ends := { nx := fun σ H => D.nx (σ.set i none) H, rt := D.rt, bk := fun σ H => D.bk (σ.set i none) H, ct := fun σ H => D.ct (σ.set i none) H }
def wMix (K : PySem.W.Frag) (Wout : WX) (D : Ends) : List Cls1 → WX
  | [] => Wout
  | (c, o, ts) :: r => fun cls d σ H => ∃ b, PySem.W.exmOne K cls c = some b ∧
      (b = true → ∀ a, H a = none → match o with
        | none => ts a cls d D σ H
        | some i => i < σ.length → ts a cls d (endsAs D i) (σ.set i (some (.ref a))) H) ∧ (b = false → wMix K Wout D r cls d σ H)
/-- a suite under the caught one -/
def Suite (X : Cx) (b : List Stmt) (ts : TSu) : Prop := ∀ (a : Addr) (oe : Obj) (cls : Value) (d : Option Addr) (pn : List (Addr × Obj)), Zc cls d oe → (∃ vs, oe.data = .fields vs) → PSs (X.suite a ((a, oe) :: pn)) b (ts a cls d)
inductive HdsN (X : Cx) : List ExceptHandler → List Cls1 → Prop
  | nil : HdsN X [] []
  | bare {x : Str} {c : Value} {ts : TSu} {b₀ : Stmt} {su : List Stmt} {np pos' : Pos} {hds : List ExceptHandler} {l : List Cls1} : Names X x c → Suite X (b₀ :: su) ts → HdsN X hds l →
      HdsN X (.ExceptHandler (some (.Name x np)) none (b₀ :: su) pos' :: hds) ((c, none, ts) :: l)
  | named {x n : Str} {i : Nat} {c : Value} {ts : TSu} {b₀ : Stmt} {su : List Stmt} {np pos' : Pos} {hds : List ExceptHandler} {l : List Cls1} : X.N[i]? = some n → X.env.kindOf n = some .local → Names X x c → Suite X (b₀ :: su) ts → HdsN X hds l →
      HdsN X (.ExceptHandler (some (.Name x np)) (some n) (b₀ :: su) pos' :: hds) ((c, some i, ts) :: l)
section
variable {X : Cx} {body : List Stmt} {h₀ : ExceptHandler} {hds : List ExceptHandler} {l : List Cls1} {pos : Pos} {tb : WX → TS} {Wout : WX}
theorem ps_try_mix (hs : X.stack = X.env :: X.outer) (hf : X.env.frame = some X.env.locals) (hN : X.N.Nodup) (tk : Takes X Wout)
    (hb : ∀ (W : WX) (pn : List (Addr × Obj)) (xe : Value → Shared → Prop), Takes (X.tr pn xe) W → PassesOwn (model X.prog X.w) X.A X.env xe → PSs (X.tr pn xe) body (tb W))
    (hh : HdsN X (h₀ :: hds) l) : PS X (.Try body (h₀ :: hds) [] [] pos) (fun D σ H => tb (wMix X.K Wout D l) D σ H) := by
  refine ⟨fun pins s σ H D I h => ?_⟩
  have okX := I.ok
  have frX : X.A.frames = some (X.env :: X.outer) := by rw [okX.frames, hs]
  let air : Value → Shared → Prop := fun e sa => wpAny (model X.prog X.w) X.A (noteFrame e X.env) (fun _ sb => wpAny (model X.prog X.w) X.A (setFlight e none) (fun _ sc => wpAny (model X.prog X.w) X.A (handleBy e X.env (h₀ :: hds)) (SP X pins D) X.xe sc) X.xe sb) X.xe sa
  have catches : Takes (X.tr (X.pn ++ pins) air) (wMix X.K Wout D l) := by
    intro u sx xx
    obtain ⟨a, B, sI, pins', σ', H', cls, d, rfl, Jt, nb, up, sky, na, os, ag, want⟩ := xx
    have J : Inv X pins σ' H' sI := Jt.ofTry okX
    have skyX : Sky B (X.env :: X.outer) a (Zc cls d) X.env.locals sx.heap := by rw [← hs]; exact sky
    show wpAny (model X.prog X.w) X.A (noteFrame (.ref a) X.env) _ _ _
    refine Sky.land Zc.steady frX hf skyX fun h3 fl3 up3 => ?_
    have J3 : Inv X pins σ' H' { sx with heap := h3 } := J.landed nb fl3.1 (up.trans up3) os ag
    obtain ⟨oe3, vs3, at3, z3, dt3⟩ := fl3.there
    have offFrames : a ∉ frs (X.env :: X.outer) := fun hm => by
      obtain ⟨_, o', e', hnf⟩ := fl3.2.2.1.mem hm
      rw [at3] at e'
      cases e'
      exact hnf _ dt3
    have offL : a ≠ X.env.locals := fun z => offFrames (List.mem_filterMap.mpr ⟨X.env, List.mem_cons_self, by rw [hf, z]⟩)
    have offF : a ∉ X.fs := fun hm => by
      obtain ⟨e, he, q⟩ := List.mem_filterMap.mp hm
      exact offFrames (List.mem_filterMap.mpr ⟨e, List.mem_cons_of_mem _ he, q⟩)
    have S3 := J3.suite at3 dt3 na offL offF
    have typ : PySem.W.Looks (model X.prog X.w) h3 (typeOf (.ref a)) cls := fun A Q E s k q => wpAny_typeOf_ref (k _ _ at3) (by rw [z3.1]; exact q)
    -- the test of a clause
    have asked : ∀ {x : Str} {c : Value} {np : Pos}, Names X x c → ∀ {Q : Value → Shared → Prop} {E : Value → Shared → Prop}, Q c { sx with heap := h3 } → wpAny (model X.prog X.w) (X.A.mark (some (.ref a))) (eval (.Name x np) X.env) Q E { sx with heap := h3 } := fun {x c np} hc {Q E} q => by
      obtain ⟨hg, hdbg, hm | ⟨hm, hv, hnn⟩⟩ := hc
      · exact ld_glob (X := X.suite a ((a, oe3) :: (X.pn ++ pins))) S3 hg hm q hdbg
      · exact ld_blt (X := X.suite a ((a, oe3) :: (X.pn ++ pins))) S3 hg hm hv q hnn hdbg
    have go : ∀ {hs' : List ExceptHandler} {l' : List Cls1}, HdsN X hs' l' → wMix X.K Wout D l' cls d σ' H' → wpAny (model X.prog X.w) X.A (handleBy (.ref a) X.env hs') (SP X pins D) X.xe { sx with heap := h3 } := by
      intro hs' l' hk
      induction hk with
      | nil =>
        intro want
        refine wpAny_handleBy_nil ?_
        obtain ⟨_, _, _, oe, vs, T, _, _, at', _, dt', f1, _⟩ := id fl3
        unfold PySem.passOn
        refine wpAny_bind (wpAny_field at' dt' f1 ?_)
        rw [if_neg (show ¬ ((Value.ref T == Value.none) = true) from by simp)]
        have last : wpAny (model X.prog X.w) X.A (setFlight (.ref a) X.env.frame) (fun _ s4 => wpAny (model X.prog X.w) X.A (throw (.ref a) : Sem Flow) (SP X pins D) X.xe s4) X.xe { sx with heap := h3 } := by
          rw [hf]
          refine HandSPX.setFlight_upZ fl3 fun h4 hh4 up4 => wpAny_throw (tk _ _ ?_)
          exact ⟨a, B, sI, pins, σ', H', cls, d, rfl, J, nb, (up.trans up3).trans up4, .inr (.inr (by rw [hs]; exact hh4)), na, os, ag, want⟩
        first
          | exact wpAny_bind (wpAny_pure (wpAny_bind last))
          | exact wpAny_bind last
      | @bare x c ts b₀ su np pos' hds2 l2 hc hsu r ih =>
        intro ⟨b, hb1, hyes, hno⟩
        refine wpAny_handleBy_cons (codeAny_handlers_test (asked hc ((PySem.W.exm_one (M := model X.prog X.w) J3.kIn typ hb1).here ?_))) (by intro q; cases q)
        cases b with
        | false => exact ih (hno rfl)
        | true =>
          refine codeAny_handlers_suite (HandSPX.lands_againZ fl3 fun h4 fl4 up4 => ?_)
          have J4 : Inv X pins σ' H' { sx with heap := h4 } := J.landed nb fl4.1 ((up.trans up3).trans up4) os ag
          obtain ⟨oe4, vs4, at4, z4, dt4⟩ := fl4.there
          have S4 := J4.suite at4 dt4 na offL offF
          refine wpAny_mono ((hsu a oe4 cls d (X.pn ++ pins) z4 ⟨_, dt4⟩).run [] _ _ H' _ S4 (hyes rfl a na)) (fun f s6 hsp => ?_) (fun _ _ z => False.elim z)
          cases f with
          | ret u => exact let ⟨v6, σ6, H6, S6, r6, q6⟩ := hsp; ⟨v6, σ6, H6, S6.unsuite okX, r6, q6⟩
          | next => exact let ⟨σ6, H6, S6, q6⟩ := hsp; ⟨σ6, H6, S6.unsuite okX, q6⟩
          | brk => exact let ⟨σ6, H6, S6, q6⟩ := hsp; ⟨σ6, H6, S6.unsuite okX, q6⟩
          | cont => exact let ⟨σ6, H6, S6, q6⟩ := hsp; ⟨σ6, H6, S6.unsuite okX, q6⟩
      | @named x n i c ts b₀ su np pos' hds2 l2 hi hln hc hsu r ih =>
        intro ⟨b, hb1, hyes, hno⟩
        refine wpAny_handleBy_cons (codeAny_handlers_test (asked hc ((PySem.W.exm_one (M := model X.prog X.w) J3.kIn typ hb1).here ?_))) (by intro q; cases q)
        cases b with
        | false => exact ih (hno rfl)
        | true =>
          refine codeAny_handlers_suite_as (HandSPX.lands_againZ fl3 fun h4 fl4 up4 => ?_)
          have J4 : Inv X pins σ' H' { sx with heap := h4 } := J.landed nb fl4.1 ((up.trans up3).trans up4) os ag
          obtain ⟨oe4, vs4, at4, z4, dt4⟩ := fl4.there
          have S4 := J4.suite at4 dt4 na offL offF
          refine store_ok (X := X.suite a ((a, oe4) :: (X.pn ++ pins))) (v := .ref a) S4 hN hi (.inl hln) rfl (fun s5 S5 => ?_) (.inr hln)
          have hil : i < σ'.length := by rw [J.len]; exact (List.getElem?_eq_some_iff.mp hi).1
          refine wpAny_mono ((hsu a oe4 cls d (X.pn ++ pins) z4 ⟨_, dt4⟩).run [] s5 _ H' _ S5 (hyes rfl a na hil)) (fun f s6 hsp => ?_) (fun _ _ z => False.elim z)
          have nameGoes : ∀ {σ6 : L2.St} {H6 : Hp} {Q : Shared → Prop}, Inv (X.suite a ((a, oe4) :: (X.pn ++ pins))) [] σ6 H6 s6 → (∀ s7, Inv X pins (σ6.set i none) H6 s7 → Q s7) →
              wpAny (model X.prog X.w) X.A (do bindName X.env n .none; unbindBehindTheSuite X.env n pos') (fun _ s7 => Q s7) X.xe s6 := fun {σ6 H6 Q} S6 hq => gone_ok (S6.unsuite okX) hN hi hln hq
          cases f with
          | ret u =>
            obtain ⟨v6, σ6, H6, S6, r6, q6⟩ := hsp
            exact nameGoes S6 fun s7 J7 => ⟨_, _, _, J7, r6, q6⟩
          | next =>
            obtain ⟨σ6, H6, S6, q6⟩ := hsp
            exact nameGoes S6 fun s7 J7 => ⟨_, _, J7, q6⟩
          | brk =>
            obtain ⟨σ6, H6, S6, q6⟩ := hsp
            exact nameGoes S6 fun s7 J7 => ⟨_, _, J7, q6⟩
          | cont =>
            obtain ⟨σ6, H6, S6, q6⟩ := hsp
            exact nameGoes S6 fun s7 J7 => ⟨_, _, J7, q6⟩
    exact go hh want
  refine wpAny_Try_except (wpAny_mono ((hb (wMix X.K Wout D l) (X.pn ++ pins) air catches PassesOwn.looking).run [] s σ H D (I.toTry _) h) (fun f s1 hsp => ?_) (fun e s1 he => he))
  cases f with
  | next =>
    obtain ⟨σ', H', J', q⟩ := hsp
    exact wpAny_execs_nil ⟨σ', H', J'.ofTry okX, q⟩
  | brk => exact let ⟨σ', H', J', q⟩ := hsp; ⟨σ', H', J'.ofTry okX, q⟩
  | cont => exact let ⟨σ', H', J', q⟩ := hsp; ⟨σ', H', J'.ofTry okX, q⟩
  | ret u => exact let ⟨v, σ', H', J', r, q⟩ := hsp; ⟨v, σ', H', J'.ofTry okX, r, q⟩
end
end Zt

set_option Elab.async false
set_option linter.all false
set_option maxRecDepth 100000
set_option maxHeartbeats 1000000
/-! raise of an own exception with one field; a def in a local name; without addresses. -/
namespace Za
open PySem PySem.Spec PyProof.Rows L2 Zk Zg

/-- an own exception class whose __init__ lays its one argument down under the name f -/
def ExcC (P : Program) (w : World) (K : PySem.W.Frag) (mg : Str → Option Value) (base : Heap) (k : Nat) (x f : Str) (C : Addr) : Prop :=
  mg x = some (.ref C) ∧ OexC K C ∧ PySem.W.findIn K (.ref C) f = some none ∧ ∃ fI fd ps, PySem.W.findIn K (.ref C) "__init__" = some (some (.ref fI)) ∧ PySem.W.typeIn K (.ref fI) = some (.type "function") ∧
    FnOk P w K mg base (L2.CX P w) k fI fd ps (fun vs H Q _ => ∃ a v, vs = [.ref a, v] ∧ H a = some (exo a C none) ∧ ∀ dx, H dx = none → dx ≠ a → Q .non (upd (upd H dx (exd dx [(f, v)])) a (exo a C (some dx)))) ∧ Binds K fd ps []
section
variable {P : Program} {w : World} {K : PySem.W.Frag} {mg : Str → Option Value} {base : Heap} {N : List Str} {qual : Str} {scope : Scope} {fa : Addr} {cd : Value} {A : Around} {outer : List Env} {s : Shared} {H : Hp} {E : XK} {T : TabSet} {μ₀ : List Addr} {H₀ : Hp}
  {e : Expr} {te : PTE} {x f : Str} {C : Addr} {k : Nat} {p pos pos' : Pos}
def pRaise (px : PXK) (C : Addr) (f : Str) (te : PTE) : PTS := fun _ ρ S => te ρ S fun d S1 => px C [(f, d)] S1
theorem cs_raise (px : PXK) (hE : ∀ cls d H', EmbX K mg T μ₀ H₀ px cls d H' → E cls d H') (EC : ExcC P w K mg base k x f C) (hr : Room (k + 1) (cxL P w K mg base N qual scope fa cd A outer s H E).A) (hg : Gl (cxL P w K mg base N qual scope fa cd A outer s H E) x)
    (he : PPE T μ₀ H₀ (cxL P w K mg base N qual scope fa cd A outer s H E) e te) (hdb : (x == ("__debug__" : Str)) = false := by decide)
    (hst : starEach [e] (cxL P w K mg base N qual scope fa cd A outer s H E).env = (false, eval e (cxL P w K mg base N qual scope fa cd A outer s H E).env) :: starEach [] (cxL P w K mg base N qual scope fa cd A outer s H E).env := by rfl) :
    PPS T μ₀ H₀ (cxL P w K mg base N qual scope fa cd A outer s H E) (.Raise (some (.Call (.Name x p) [e] [] pos)) none pos') (pRaise px C f te) := by
  obtain ⟨hm, oc, hno, fI, fd, ps, iC, tI, F1, hb⟩ := EC
  have nx : Passes (L2.CX P w) (cxL P w K mg base N qual scope fa cd A outer s H E) (fun _ _ _ => False) := fun _ _ _ _ _ _ _ h => by
    obtain ⟨_, _, _, _, _, _, _, _, _, _, _, _, z⟩ := h
    exact z.elim
  refine PS.imp (L2.ps_raise (X := cxL P w K mg base N qual scope fa cd A outer s H E) rfl takes_cx (pmk_oex oc iC tI F1 hr hb .nil nx hg hm (ca_cons he ca_nil hst) hdb hst rfl)) ?_
  intro De σ H1 ⟨ρ, S, μ, Dp, ok, rv, q, _⟩
  refine ⟨ρ, S, μ, _, ok, rv, (show pCons te pNil ρ S fun ds S1 => ∃ d, ds = [d] ∧ px C [(f, d)] S1 from ?_), ?_⟩
  · show te ρ S _
    exact (show te ρ S fun d S1 => ∃ d', [d] = [d'] ∧ px C [(f, d')] S1 from by
      have e1 : (fun d S1 => ∃ d', [d] = [d'] ∧ px C [(f, d')] S1) = fun (d : D) (S1 : Sto) => px C [(f, d)] S1 := by
        funext d S1
        refine propext ⟨fun ⟨d', e2, h2⟩ => ?_, fun h2 => ⟨d, rfl, h2⟩⟩
        have e3 : d = d' := by injection e2
        rw [e3]; exact h2
      rw [e1]; exact q)
  · intro ds S1 ⟨d, ed, hx⟩ vs H2 μ2 ok2 r2
    subst ed
    cases r2 with
    | @cons v _ _ _ r2 r3 =>
      cases r3
      refine ⟨by show 1 ≤ 1000; decide, fun a ha => ⟨a, v, rfl, upd_same, fun dx hdx hne => ⟨rfl, dx, [(f, v)], upd_same, ?_, ?_, ?_⟩⟩⟩
      · rw [upd_ne hne, upd_same]
      · rw [upd_ne hne] at hdx
        exact hdx
      · have hd2 : H2 dx = none := by rw [upd_ne hne] at hdx; exact hdx
        have eH : upd (del (upd (upd (upd H2 a (exo a C none)) dx (exd dx [(f, v)])) a (exo a C (some dx))) a) dx (.xd [(f, v)]) = upd H2 dx (.xd [(f, v)]) := by
          funext b
          by_cases h1 : b = dx
          · rw [h1, upd_same, upd_same]
          · rw [upd_ne h1, upd_ne h1]
            by_cases h2 : b = a
            · rw [h2, del_same, ha]
            · rw [del_ne h2, upd_ne h2, upd_ne h1, upd_ne h2]
        rw [eH]
        have n3 := ok2.new (o := .xd [(f, v)]) hd2
        exact hE _ _ _ ⟨C, dx, [(f, v)], [(f, d)], S1, μ2, rfl, rfl, upd_same, ⟨rfl, .cons (n3.rp r2) .nil⟩, ok.trans (ok2.trans n3), hx⟩
end

/-! ### a def in a local name -/
section
variable {X : Cx} {CX : CXT} {k i : Nat} {f : Addr} {fd : FuncData} {ps : List Str} {E : XK} {x : Str} {p pos : Pos} {e : Expr} {es : List Expr} {T : TabSet} {μ₀ : List Addr} {H₀ : Hp}
theorem pe_callLG {sp : Sp} {t : TA} (F : FnG X.prog X.w X.K X.mg X.base CX k f fd ps sp) (hr : RoomG k X.A) (hN : X.N[i]? = some x) (hv : Vis X.env.scope x) (hk : PySem.W.keepIn X.K (.ref f) = true) (hb : Binds X.K fd ps []) (hx : Passes CX X E) (ha : PA X (e :: es) t)
    (hdb : (x == ("__debug__" : Str)) = false := by decide) (hcd : (x == ("__classdict__" : Str)) = false := by decide)
    (he : starEach (e :: es) X.env = (false, eval e X.env) :: starEach es X.env := by rfl) (hpl : (backTo pos (starEach es X.env)).any (·.1) = false := by rfl) :
    PE X (.Call (.Name x p) (e :: es) [] pos) (fun σ H Q => σ[i]? = some (some (.ref f)) ∧ t σ H fun vs H1 => sp vs H1 Q E) := by
  refine ⟨fun pins s σ H Q I ⟨hs, ht⟩ => ?_⟩
  refine wpAny_Call_Name_kw (thn ((pe_var (pos := p) hN hv hdb hcd).run pins s σ H (fun v H1 => v = .ref f ∧ H1 = H) I ⟨.ref f, hs, rfl, rfl⟩) fun u s1 ⟨v, H1, I1, r1, q1⟩ => ?_)
  obtain ⟨rfl, rfl⟩ := q1
  cases r1
  refine PySem.W.callWith_K (h₀ := X.base) I.ok.mod.kin hk (thn (ha.run pos pins s1 σ _ _ I1 ht) fun us s2 ⟨vs, H2, I2, r, q⟩ => ⟨I2.kIn, ?_⟩) he hpl
  exact run_fnG F hr hb hx I2 r q
/-- the i-th name holds the def y -/
def pCallV (i : Nat) (y : Str) (psp : PSp) (px : PXK) (t : PTA) : PTE := fun ρ S R => ρ[i]? = some (some (.fn y)) ∧ t ρ S fun ds S1 => psp ds S1 R px
theorem k_defV {kx : Nat} {y : Str} {psp : PSp} {t : PTA} (i : Nat) (px : PXK) (C : Cal X.prog X.w X.K X.mg X.base T k y psp) (hr : RoomG kx X.A) (hk : k ≤ kx) (hN : X.N[i]? = some x) (hv : Vis X.env.scope x) (hx : Passes (L2.CX X.prog X.w) X (EmbX X.K X.mg T μ₀ H₀ px)) (ha : PPA T μ₀ H₀ X (e :: es) t)
    (hdb : (x == ("__debug__" : Str)) = false := by decide) (hcd : (x == ("__classdict__" : Str)) = false := by decide)
    (he : starEach (e :: es) X.env = (false, eval e X.env) :: starEach es X.env := by rfl) (hpl : (backTo pos (starEach es X.env)).any (·.1) = false := by rfl) :
    PPE T μ₀ H₀ X (.Call (.Name x p) (e :: es) [] pos) (pCallV i y psp px t) := by
  obtain ⟨f, fd, ps, hm, F, hb, hkp⟩ := C
  refine PE.imp (pe_callLG F (hr.mono hk) hN hv hkp hb hx ha hdb hcd he hpl) fun σ H Q ⟨ρ, S, μ, R, ok, rv, ⟨hi, q⟩, kk⟩ => ?_
  obtain ⟨v, hv1, r1⟩ := rv.at_ i _ hi
  have ev : v = .ref f := by
    cases r1 with
    | fn hm' =>
      rw [hm] at hm'
      cases hm'
      rfl
  subst ev
  exact ⟨hv1, ρ, S, μ, _, ok, rv, q, fun ds S1 q1 vs H1 μ1 ok1 r1 => ⟨ds, S1, μ1, R, px, ok1.st, r1, q1, fun d S' q' v H' μ' ok' r' => kk d S' q' v H' μ' (ok1.trans ok') r',
    fun cls d H' ⟨C, dx, fs, gs, S', μ', e1, e2, e3, e4, e5, e6⟩ => ⟨C, dx, fs, gs, S', μ', e1, e2, e3, e4, (ok.trans ok1).trans e5, e6⟩⟩⟩
end
end Za

set_option Elab.async false
set_option linter.all false
set_option maxRecDepth 100000
set_option maxHeartbeats 1000000
/-! A lambda without parameters, handed to a def that calls it; nothing guarded around. -/
namespace Za
open PySem PySem.Spec PyProof.Rows L2 LamX Zk Zg

section
variable {X : Cx} {pins : List (Addr × Obj)} {σ : L2.St} {H HZ : Hp} {s : Shared}
/-- all that is told stays, but the table at P -/
def ButTab (P : Addr) (H H' : Hp) : Prop := ∀ b o, H b = some o → b ≠ P → H' b = some o
abbrev lamObj (X : Cx) (params : Arguments) (body : Expr) (scope : Scope) (pm : Value) (c' : Addr) (ctv : Value) : Obj :=
  PySem.W.kla_obj "<lambda>" (X.env.qual ++ "<lambda>") params body scope (cloFrom X.env.cells scope.names []) pm c' ctv
theorem tabs_grow {L : List (Addr × Str)} {P cN : Addr} {q : Str} {pp : Pos} {ps : Array Value} (hT : Tabs L H) (hP : H P = some (.tbl ps)) (hok : TriplesOk ps.toList) (ha : ∀ (pos : Pos) (cv : Value), codeAmong pos ps.toList = some cv → ∃ c, cv = .ref c ∧ H c = some (CodeO c q))
    (nC : H cN = none) (hu : ∀ p ∈ L, p.1 = P → p.2 = q) :
    Tabs L (upd (upd H P (.tbl (ps ++ #[rawInt pp.line, rawInt pp.col, .ref cN]))) cN (CodeO cN q)) := by
  have hne : P ≠ cN := ne_of_none hP nC
  have stays : ∀ c q', H c = some (CodeO c q') → upd (upd H P (.tbl (ps ++ #[rawInt pp.line, rawInt pp.col, .ref cN]))) cN (CodeO cN q) c = some (CodeO c q') := fun c q' e => by
    have h1 : c ≠ cN := ne_of_none e nC
    have h2 : c ≠ P := fun z => by
      rw [z, hP] at e
      exact codeO_ne ps (Option.some.inj e).symm
    rw [upd_ne h1, upd_ne h2, e]
  intro p hp
  by_cases hb : p.1 = P
  · rw [hu p hp hb, hb]
    have el : (ps ++ #[rawInt pp.line, rawInt pp.col, .ref cN]).toList = ps.toList ++ [rawInt pp.line, rawInt pp.col, .ref cN] := by simp
    refine ⟨_, by rw [upd_ne hne, upd_same], el ▸ PySem.TriplesOk_snoc _ _ _ _ hok, fun p' cv hcv => ?_⟩
    rw [el] at hcv
    cases among_app _ hok hcv with
    | inl z => exact (ha p' cv z).imp fun c0 e0 => ⟨e0.1, stays c0 q e0.2⟩
    | inr z => exact ⟨cN, z, upd_same⟩
  · obtain ⟨ps', a1, a2, a3⟩ := hT p hp
    exact ⟨ps', by rw [upd_ne (ne_of_none a1 nC), upd_ne hb, a1], a2, fun p' cv hcv => (a3 p' cv hcv).imp fun c0 e0 => ⟨e0.1, stays c0 _ e0.2⟩⟩
theorem off_frames (I : Inv X pins σ H s) {f : Addr} (hf : s.heap.objs.size ≤ f) : f ∉ frs X.stack := fun z => by
  cases List.mem_cons.mp (I.stkSub _ z) with
  | inl e =>
    have h1 := I.lt
    rw [← e] at h1
    exact absurd (Nat.lt_of_lt_of_le h1 hf) (Nat.lt_irrefl _)
  | inr e => exact I.nofs hf e
theorem lam_makeG {L : List (Addr × Str)} {c P : Addr} {params : Arguments} {body : Expr} {scope : Scope} {pos : Pos} {E Q : Value → Shared → Prop} (I : Inv X pins σ H s) (TB : TabB X.base X.mg c P) (hcode : X.env.code = .ref c)
    (hm : (P, X.env.qual ++ "<lambda>") ∈ L) (hu : ∀ p ∈ L, p.1 = P → p.2 = X.env.qual ++ "<lambda>") (hT : Tabs L H) (hdef : defaultsOf params X.env = ([], [])) (hfree : ∀ y ∈ scope.names, y.2 = .free → ∃ c, X.env.cells.lookup y.1 = some c)
    (h : ∀ (f c' : Addr) (pm ctv : Value) (H1 : Hp) (s' : Shared), Inv X pins σ H1 s' → ButTab P H H1 → Tabs L H1 → s'.heap.get? f = some (lamObj X params body scope pm c' ctv) → H1 f = none → f ∉ frs X.stack →
      H1 c' = some (CodeO c' (X.env.qual ++ "<lambda>")) → Q (.ref f) s') :
    wpAny (model X.prog X.w) X.A (eval (.Lambda params body scope pos) X.env) Q E s := by
  obtain ⟨ps, hP, ht, ha⟩ := hT _ hm
  have oP : s.heap.get? P = some { cls := .none, data := .fields ps } := I.hok P _ hP
  refine PySem.W.kla_eval hdef ?_
  rcases hc : codeAmong pos ps.toList with _ | cv
  · refine PySem.W.kla_makeFunction (mg := X.mg) (c := c) (P := P) (ps := ps) (closure_ok hfree) I.ok.glob (I.mod.glob.keeps I.bk) hcode (TB.code.keeps I.bk) oP ht hc TB.gP (TB.bm.keeps I.bk) ?_
    intro c' ctv h' tk hx hge hlt hrec htb
    obtain ⟨cN, oc, vs, t, e2, hoc, hd, hv⟩ := hrec
    cases e2
    have nC : H c' = none := I.hok.fresh hge
    have hsz := Nat.le_trans hge (Nat.le_of_lt hlt)
    have J := inv_table (t' := tk) (more := #[rawInt pos.line, rawInt pos.col, .ref c']) (h' := h'.push (lamObj X params body scope ((X.mg "__name__").getD .none) c' ctv)) I hP
      (fun b o hb e => Heap.get?_push_of_some _ (hx b o hb e)) (Heap.get?_push_of_some _ htb) hge ⟨oc, vs, t, Heap.get?_push_of_some _ hoc, hd, hv⟩
    refine h h'.objs.size c' _ ctv _ _ J (fun b o e n => ?_) (tabs_grow hT hP ht ha nC hu) (Heap.get?_push_size _ rfl) ?_ (off_frames I hsz) upd_same
    · rw [upd_ne (ne_of_none e nC), upd_ne n, e]
    · rw [upd_ne (Nat.ne_of_gt hlt), upd_ne (Nat.ne_of_gt (Nat.lt_of_lt_of_le (Heap.lt_size oP) hsz))]
      exact I.hok.fresh hsz
  · obtain ⟨c', e, hco⟩ := ha pos cv hc
    subst e
    refine PySem.W.kla_makeFunctionHit (mg := X.mg) (c := c) (P := P) (ps := ps) (closure_ok hfree) I.ok.glob (I.mod.glob.keeps I.bk) hcode (TB.code.keeps I.bk) oP ht hc (TB.bm.keeps I.bk) ?_
    intro ctv h' tk hx hsz
    have J : Inv X pins σ H { s with heap := h'.push (lamObj X params body scope ((X.mg "__name__").getD .none) c' ctv), toks := tk } := I.kept fun b o e => Heap.get?_push_of_some _ (hx b o e)
    exact h h'.objs.size c' _ ctv H _ J (fun b o e _ => e) hT (Heap.get?_push_size _ rfl) (I.hok.fresh hsz) (off_frames I hsz) hco

theorem takes_lam {A : Around} {outer : List Env} {E : XK} {scope : Scope} {f c' : Addr} : Takes (lamCx X A outer s H E scope f c') (fun cls d _ H' => E cls d H') :=
  takes_of (X := lamCx X A outer s H E scope f c') (E₁ := fun e s'' => L2.CX X.prog X.w outer H s E e s'') rfl rfl rfl rfl
theorem pass_lam {A : Around} {outer : List Env} {E E' : XK} {scope : Scope} {f c' : Addr} (h : ∀ cls d H', E' cls d H' → E cls d H') : Passes (L2.CX (lamCx X A outer s H E scope f c').prog (lamCx X A outer s H E scope f c').w) (lamCx X A outer s H E scope f c') E' :=
  passes_call (X := lamCx X A outer s H E scope f c') takes_lam fun cls d _ H' q => h cls d H' q
end

/-! ### the call of what was handed over -/
abbrev noE : XK := fun _ _ _ => False
/-- the context of the def g that got the lambda -/
abbrev cxG (X : Cx) (Ng : List Str) (x : Str) (sg : Scope) (g : Addr) (cdg : Value) (s : Shared) (H : Hp) : Cx := cxL X.prog X.w X.K X.mg X.base Ng x sg g cdg X.A X.stack s H noE
section
variable {X : Cx} {pins : List (Addr × Obj)} {σ : L2.St} {H : Hp} {s : Shared}
theorem pe_actG {Ng : List Str} {qg : Str} {sg : Scope} {g f c' : Addr} {cdg pm ctv : Value} {params : Arguments} {body : Expr} {scope : Scope} {k i : Nat} {a : Str} {pn : List (Addr × Obj)} {xe : Value → Shared → Prop} {W : WX} {E : XK} {tb : TE} {p1 p2 : Pos}
    (I : Inv X pins σ H s) (L : LamS X.env.scope scope) (hf : s.heap.get? f = some (lamObj X params body scope pm c' ctv)) (hfn : H f = none) (hfr : f ∉ frs X.stack)
    (hbind : bindArgs (PySem.W.kla_fn "<lambda>" (X.env.qual ++ "<lambda>") params body scope (cloFrom X.env.cells scope.names []) pm (.ref c') ctv) ⟨[], []⟩ = pure [])
    (tk : Takes ((cxG X Ng qg sg g cdg s H).tr pn xe) W) (hW : ∀ cls d σ' H', E cls d H' → W cls d σ' H') (hr : RoomG (k + 1) (X.A.deeper (envOfC qg sg s.heap.objs.size g cdg)))
    (hbody : ∀ (A : Around) (outer : List Env) (s : Shared) (H : Hp), RoomG k (A.deeper (lamEnv X scope s.heap.objs.size f c')) → PE (lamCx X A outer s H E scope f c') body tb)
    (hN : Ng[i]? = some a) (hv : Vis sg a) (hd : (a == ("__debug__" : Str)) = false := by decide) (hcd : (a == ("__classdict__" : Str)) = false := by decide) :
    PE ((cxG X Ng qg sg g cdg s H).tr pn xe) (.Call (.Name a p1) [] [] p2) (fun σZ HZ Q => σZ[i]? = some (some (.ref f)) ∧ HZ c' = some (CodeO c' (X.env.qual ++ "<lambda>")) ∧ tb σ HZ Q) := by
  refine ⟨fun pinsZ sZ σZ HZ Q IZ ⟨hs, hc, ht⟩ => ?_⟩
  refine wpAny_Call_Name_kw (thn ((pe_var (pos := p1) (i := i) hN hv hd hcd).run pinsZ sZ σZ HZ (fun v H1 => v = .ref f ∧ H1 = HZ) IZ ⟨.ref f, hs, rfl, rfl⟩) fun u s1 ⟨v, H1, I1, r1, ev, eH⟩ => ?_)
  subst ev
  rw [eH] at I1
  cases r1
  have at1 : s1.heap.get? f = some (lamObj X params body scope pm c' ctv) := I1.base.keep f _ hf hfn hfr (fun z => nomatch (show f ∈ ([] : List Addr) from z))
  refine PySem.W.callWith_F0 ⟨_, _, _, _, at1⟩ ?_
  have un : Un (frs X.stack) [] H HZ s.heap s1.heap := I1.base
  obtain ⟨⟨oc, vs, t, hoc, hdc, hvc⟩, _, _⟩ := I1.hok c' _ hc
  refine wpAny_call (codeAny_mono (show codeAny (model X.prog X.w) (X.A.deeper (envOfC qg sg s.heap.objs.size g cdg)) (.call (.ref f) ⟨[], []⟩) (CR (L2.CX X.prog X.w) (envOfC qg sg s.heap.objs.size g cdg :: X.stack) X.prog X.w HZ s1 Q E) _ from ?_) fun r s' hq => ?_)
  · refine PySem.W.kla_callFunE hr.room.depth at1 rfl L.co L.gen rfl ⟨c', oc, vs, t, rfl, hoc, hdc, hvc⟩ ?_
    rw [hbind]
    refine wpAny_pure (wpAny_newFunctionEnv (fun y hy => (L.own y hy).2) (fun y hy => absurd hy (by simp)) (fun h₁ hns hsb => ⟨I1.nolimit.fresh _ hsb, ?_⟩) L.kind)
    have kp : ∀ b o, s1.heap.get? b = some o → h₁.get? b = some o := fun b o e => hsb.extBut b o (Nat.ne_of_lt (Heap.lt_size e)) (Heap.get?_push_of_some _ e)
    have J := lam_start2 (E := E) (f := f) (c' := c') (tk := s1.toks + ([] : List (Str × Value)).length) I L I1.env0 hr.room.hd un hns kp
    have q1 := (hbody _ (envOfC qg sg s.heap.objs.size g cdg :: X.stack) s1 HZ (hr.deeper _)).run [] _ _ HZ Q J ht
    refine PySem.W.kla_codeExpr (wpAny_mono q1 ?_ fun e s' hq => hq)
    intro v s' ⟨w', H', J', rv, q⟩
    exact ⟨w', H', J'.os, J'.bare, J'.base, J'.hok, rv, q⟩
  · rcases r with e | fl
    · exact passes_call (X := (cxG X Ng qg sg g cdg s H).tr pn xe) tk hW pinsZ σZ HZ s1 e s' I1 hq
    · cases fl with
      | ret u => exact I1.after hq
      | next => exact False.elim hq
      | brk => exact False.elim hq
      | cont => exact False.elim hq
end
end Za

set_option Elab.async false
set_option linter.all false
set_option maxRecDepth 100000
set_option maxHeartbeats 1000000
/-! What a lambda does, told as a tuple: 'told' and the value, or a word of what was raised. -/
namespace Za
open PySem PySem.Spec PyProof.Rows L2 LamX Zk Zg Zt

/-- what the def g makes of the call of what it got -/
def GivesG (X : Cx) (Ng : List Str) (x : Str) (sg : Scope) (g : Addr) (cdg : Value) (bg : List Stmt) (a q : Str) (TT : (XK → Hp → VK → Prop) → Hp → VK → Prop) : Prop :=
  ∀ (f c' : Addr) (s : Shared) (H : Hp) (Q : VK) (tl : XK → Hp → VK → Prop),
    (∀ (W : WX) (pn : List (Addr × Obj)) (xe : Value → Shared → Prop) (E : XK) (p1 p2 : Pos), Takes ((cxG X Ng x sg g cdg s H).tr pn xe) W → (∀ cls d σ' H', E cls d H' → W cls d σ' H') →
      PE ((cxG X Ng x sg g cdg s H).tr pn xe) (.Call (.Name a p1) [] [] p2) (fun σZ HZ Q => σZ[0]? = some (some (.ref f)) ∧ HZ c' = some (CodeO c' q) ∧ tl E HZ Q)) →
    H c' = some (CodeO c' q) → TT tl H Q → ∃ t, PSs (cxG X Ng x sg g cdg s H) bg t ∧ t { nx := fun _ H' => Q .non H', rt := Q } (L2.start Ng [.ref f]) H
def tLamG (L : List (Addr × Str)) (P : Addr) (TT : (XK → Hp → VK → Prop) → Hp → VK → Prop) (t : XK → TE) : TE := fun σ H Q => Tabs L H ∧ ∀ H1, ButTab P H H1 → Tabs L H1 → TT (fun E H' Q' => t E σ H' Q') H1 Q
section
variable {X : Cx}
/-- g(lambda: body) -/
theorem pe_lamcallG {L : List (Addr × Str)} {TT : (XK → Hp → VK → Prop) → Hp → VK → Prop} {x a : Str} {g c P : Addr} {k : Nat} {pg : Arguments} {bg : List Stmt} {sg : Scope} {dV kV doc pm cdv ct oc : Value} {an od : Option Addr} {osl : Array (Option Value)} {Ng : List Str} {params : Arguments}
    {body : Expr} {scope : Scope} {t : XK → TE} {p lpos pos : Pos} (hg : Gl X x) (hm : X.mg x = some (.ref g)) (hk : PySem.W.keepIn X.K (.ref g) = true) (lk : X.K.lookup g = some ⟨oc, od, .func (PySem.W.fnOf x x pg bg sg dV kV doc pm an cdv ct), osl⟩)
    (hcg : PySem.W.codeIn X.K cdv x = true) (hb : L2.Binds X.K (PySem.W.fnOf x x pg bg sg dV kV doc pm an cdv ct) [a] []) (Sg : FnScope Ng [a] sg) (hNg : Ng[0]? = some a) (hva : Vis sg a) (hG : GivesG X Ng x sg g cdv bg a (X.env.qual ++ "<lambda>") TT)
    (TB : TabB X.base X.mg c P) (hcode : X.env.code = .ref c) (hmT : (P, X.env.qual ++ "<lambda>") ∈ L) (hu : ∀ p ∈ L, p.1 = P → p.2 = X.env.qual ++ "<lambda>") (hr : RoomG (k + 2) X.A) (LS : LamS X.env.scope scope) (hdef : defaultsOf params X.env = ([], []))
    (hbind : ∀ (q : Str) (cl : List (Str × Addr)) (pm cv ctv : Value), bindArgs (PySem.W.kla_fn "<lambda>" q params body scope cl pm cv ctv) ⟨[], []⟩ = pure [])
    (hbody : ∀ (A : Around) (outer : List Env) (s : Shared) (H : Hp) (E : XK) (f c' : Addr), RoomG k (A.deeper (lamEnv X scope s.heap.objs.size f c')) → PE (lamCx X A outer s H E scope f c') body (t E))
    (hdb : (x == ("__debug__" : Str)) = false := by decide) (hd : (a == ("__debug__" : Str)) = false := by decide) (hcd : (a == ("__classdict__" : Str)) = false := by decide) :
    PE X (.Call (.Name x p) [.Lambda params body scope lpos] [] pos) (tLamG L P TT t) := by
  refine ⟨fun pins s σ H Q I ⟨hT, h⟩ => wpAny_Call_Name_kw (ld_glob I hg hm ?_ hdb)⟩
  refine PySem.W.callWith_K (h₀ := X.base) I.ok.mod.kin hk (show wpAny _ _ (spliced ((false, eval (.Lambda params body scope lpos) X.env) :: backTo pos (starEach [] X.env))) _ _ s from ?_) (by rfl) (by rfl)
  refine Calls.spliced_cons (lam_makeG I TB hcode hmT hu hT hdef (LS.has I.ok) ?_)
  intro f c' pm' ctv H1 s' I1 eN T1 hf hfn hfr hco
  refine Calls.spliced_nil ⟨I1.kIn, wpAny_call (codeAny_mono (show codeAny (model X.prog X.w) X.A (.call (.ref g) ⟨[.ref f], []⟩) (CR (L2.CX X.prog X.w) X.stack X.prog X.w H1 s' Q noE) s' from ?_) fun r s2 hq => ?_)⟩
  · refine run_ofS (N := Ng) (ps := [a]) (us := [.ref f]) (vs := [.ref f]) lk hcg Sg hr.room I1.env0 (hb s' [.ref f] I1.kIn rfl) (.cons rfl .nil) rfl fun _ => ?_
    exact hG f c' s' H1 Q _ (fun W pn xe E p1 p2 tk hW => pe_actG (i := 0) I1 LS hf hfn hfr (hbind _ _ _ _ _) tk hW (hr.deeper _) (fun A outer s H hr2 => hbody A outer s H E f c' hr2) hNg hva hd hcd) hco (h H1 eN T1)
  · rcases r with e | fl
    · obtain ⟨_, _, _, _, _, _, _, _, _, _, _, _, z⟩ := hq
      exact z.elim
    · cases fl with
      | ret u => exact I1.after hq
      | next => exact False.elim hq
      | brk => exact False.elim hq
      | cont => exact False.elim hq
end

/-! ### the clauses -/
/-- except c as e: return (w, e.n); except c: return (w,) -/
inductive HC where
  | fld (c : Addr) (w n : Str)
  | wrd (c : Addr) (w : Str)
  | nev (c : Addr)
def HC.cls : HC → Cls1
  | .fld c w n => (.ref c, some 1, fun a cls d D σ H => σ[1]? = some (some (.ref a)) ∧ cls = .ref c ∧ ∃ (dd : Addr) (fs : List (Str × V)) (v : V), d = some dd ∧ H dd = some (.xd fs) ∧ fs.lookup n = some v ∧ ∀ l, H l = none → D.rt (.ref l) (upd H l (.tup [.str w, v])))
  | .wrd c w => (.ref c, none, fun _ _ _ D _ H => ∀ l, H l = none → D.rt (.ref l) (upd H l (.tup [.str w])))
  | .nev c => (.ref c, none, fun _ _ _ _ _ _ => False)
section
variable {X : Cx}
theorem hc_nil : HdsN X [] (([] : List HC).map HC.cls) := .nil
theorem hc_fld {l : List HC} {hds : List ExceptHandler} {x n w : Str} {c : Addr} {j x1 : Nat} {np pos' p1 p2 p3 p4 p5 : Pos} (T : XfC X.K c) (hno : PySem.W.findIn X.K (.ref c) n = some none) (hg : Gl X x) (hm : X.mg x = some (.ref c)) {e : Str} (hN : X.N[1]? = some e) (hl : X.env.kindOf e = some .local)
    (r : HdsN X hds (l.map HC.cls)) (hdx : (x == ("__debug__" : Str)) = false := by decide) (hd : (e == ("__debug__" : Str)) = false := by decide) (hcd : (e == ("__classdict__" : Str)) = false := by decide) :
    HdsN X (.ExceptHandler (some (.Name x np)) (some e) [.Return (some (.Tuple [.Constant (.str w) j p1, .Attribute (.Name e p2) n p3] x1 p4)) p5] pos' :: hds) ((HC.fld c w n :: l).map HC.cls) := by
  refine .named hN hl ⟨hg, hdx, .inl hm⟩ (fun a oe cls d pn hz hf => ?_) r
  have hx := pe_xf (X := X) (pos := p3) (pn := pn) T hno hz hf (pe_var (X := X.suite a ((a, oe) :: pn)) (pos := p2) (i := 1) hN (.inl hl) hd hcd)
  refine PSs.imp (pss_one (ps_ret (pos := p5) (pe_tup (x1 := x1) (pos := p4) (pa_cons (pe_str (j := j) (pos := p1)) (pa_cons hx pa_nil))))) fun D σ H ⟨h1, h2, dd, fs, v, e1, e2, e3, h3⟩ => ?_
  exact ⟨.ref a, h1, rfl, h2, dd, fs, v, e1, e2, e3, (by show 2 ≤ sizeLine; decide), h3⟩
theorem hc_wrd {l : List HC} {hds : List ExceptHandler} {x w : Str} {c : Addr} {j x1 : Nat} {np pos' p1 p4 p5 : Pos} (hg : Gl X x) (hm : X.mg x = some (.ref c)) (r : HdsN X hds (l.map HC.cls)) (hdx : (x == ("__debug__" : Str)) = false := by decide) :
    HdsN X (.ExceptHandler (some (.Name x np)) none [.Return (some (.Tuple [.Constant (.str w) j p1] x1 p4)) p5] pos' :: hds) ((HC.wrd c w :: l).map HC.cls) := by
  refine .bare ⟨hg, hdx, .inl hm⟩ (fun a oe cls d pn hz hf => ?_) r
  refine PSs.imp (pss_one (ps_ret (pos := p5) (pe_tup (x1 := x1) (pos := p4) (pa_cons (pe_str (j := j) (pos := p1)) pa_nil)))) fun D σ H h => ?_
  exact ⟨(by show 1 ≤ sizeLine; decide), h⟩
/-- a clause that is never come to -/
theorem hc_nev {l : List HC} {hds : List ExceptHandler} {x : Str} {c : Addr} {b₀ : Stmt} {su : List Stmt} {np pos' : Pos} (hg : Gl X x) (hm : X.mg x = some (.ref c)) (r : HdsN X hds (l.map HC.cls)) (hdx : (x == ("__debug__" : Str)) = false := by decide) :
    HdsN X (.ExceptHandler (some (.Name x np)) none (b₀ :: su) pos' :: hds) ((HC.nev c :: l).map HC.cls) :=
  .bare ⟨hg, hdx, .inl hm⟩ (fun a oe cls d pn hz hf => ⟨fun _ _ _ _ _ _ z => z.elim⟩) r
end
abbrev noW : WX := fun _ _ _ _ => False
def TTh (K : PySem.W.Frag) (w : Str) (l : List HC) : (XK → Hp → VK → Prop) → Hp → VK → Prop := fun tl H Q =>
  tl (fun cls d H' => ∀ σ', wMix K noW { nx := fun _ H' => Q .non H', rt := Q } (l.map HC.cls) cls d σ' H') H fun v H1 => ∀ p, H1 p = none → Q (.ref p) (upd H1 p (.tup [.str w, v]))
theorem takesNo {X : Cx} {Ng : List Str} {x : Str} {sg : Scope} {g : Addr} {cdg : Value} {s : Shared} {H : Hp} : Takes (cxG X Ng x sg g cdg s H) noW := fun _ _ x => by
  obtain ⟨_, _, _, _, _, _, _, _, _, _, _, _, _, _, _, _, z⟩ := x
  exact z.elim
theorem heard_gives {X : Cx} {Ng : List Str} {x a q w : Str} {sg : Scope} {g : Addr} {cdg : Value} {j x1 : Nat} {p1 p2 p3 p4 p5 p6 : Pos} {h₀ : ExceptHandler} {hds : List ExceptHandler} {l : List HC} (hN : Ng.Nodup) (h0 : ∀ f : Addr, (L2.start Ng [V.ref f])[0]? = some (some (V.ref f)))
    (hh : ∀ (s : Shared) (H : Hp), HdsN (cxG X Ng x sg g cdg s H) (h₀ :: hds) (l.map HC.cls))
    (hst : ∀ (s : Shared) (H : Hp), starEach [.Call (.Name a p1) [] [] p2] (cxG X Ng x sg g cdg s H).env = (false, eval (.Call (.Name a p1) [] [] p2) (cxG X Ng x sg g cdg s H).env) :: starEach [] (cxG X Ng x sg g cdg s H).env := by intro _ _; rfl) :
    GivesG X Ng x sg g cdg [.Try [.Return (some (.Tuple [.Constant (.str w) j p3, .Call (.Name a p1) [] [] p2] x1 p4)) p5] (h₀ :: hds) [] [] p6] a q (TTh X.K w l) := by
  intro f c' s H Q tl act hc h
  refine ⟨_, pss_one (ps_try_mix (X := cxG X Ng x sg g cdg s H)
    (tb := fun W D σ H => ∃ Ech : XK, (∀ cls d σ' H', Ech cls d H' → W cls d σ' H') ∧ σ[0]? = some (some (.ref f)) ∧ H c' = some (CodeO c' q) ∧ tl Ech H fun v H1 => ∀ p, H1 p = none → D.rt (.ref p) (upd H1 p (.tup [.str w, v])))
    rfl rfl hN takesNo (fun W pn xe tk _ => ⟨fun pins s' σ H' D I h' => ?_⟩) (hh s H)), ?_⟩
  · obtain ⟨Ech, hW, h1, h2, h3⟩ := h'
    have e1 := pa_cons (act W pn xe Ech p1 p2 tk hW) pa_nil (hst s H)
    refine (pss_one (ps_ret (pos := p5) (pe_tup (x1 := x1) (pos := p4) (pa_cons (pe_str (j := j) (pos := p3)) e1)))).run pins s' σ H' D I ⟨h1, h2, ?_⟩
    have e2 : (fun v H1 => ∀ p, H1 p = none → D.rt (.ref p) (upd H1 p (.tup [.str w, v]))) = fun v H1 => [V.str w, v].length ≤ sizeLine ∧ ∀ p, H1 p = none → D.rt (.ref p) (upd H1 p (.tup [.str w, v])) := by
      funext v H1
      exact propext ⟨fun z => ⟨by show 2 ≤ sizeLine; decide, z⟩, fun z => z.2⟩
    exact e2 ▸ h3
  · exact ⟨_, fun cls d σ' H' z => z σ', h0 f, hc, h⟩
end Za

set_option Elab.async false
set_option linter.all false
set_option maxRecDepth 100000
set_option maxHeartbeats 1000000
/-! g(lambda: body), without addresses. -/
namespace Za
open PySem PySem.Spec PyProof.Rows L2 LamX Zk Zg Zt

section
variable {K : PySem.W.Frag} {mg : Str → Option Value} {T : TabSet} {μ₀ μ : List Addr} {H₀ H H' H1 : Hp} {S : Sto}
theorem lam_ok {P : Addr} (ok : Ok K mg T μ₀ H₀ μ H S) (hP : P ∉ T.gen) {ps : Array Value} (hp : H P = some (.tbl ps)) (b : ButTab P H H1) (t : Tabs T.lam H1) : Ok K mg T μ H μ H1 S := by
  have same : ∀ c o, H c = some o → (∀ q, o ≠ .tbl q) → H1 c = H c := fun c o e n => by
    rw [e]
    refine b c o e fun z => ?_
    rw [z, hp] at e
    exact n ps (Option.some.inj e).symm
  have x : Ext H H1 := ⟨fun a xs q => (same a _ q fun z => nofun).trans q, fun a o u q => (same a _ q fun z => nofun).trans q⟩
  refine ⟨List.prefix_refl _, x, ok.st.len, ok.st.nd, fun l a c h1 h2 => ?_, fun P' hP' => ?_, t⟩
  · have q := ok.st.at_ l a c h1 h2
    refine q.mono (List.prefix_refl _) x ?_
    cases c with
    | lst ds =>
      obtain ⟨vs, e1, _⟩ := q
      exact same a _ e1 fun z => nofun
  · obtain ⟨ps', e1, t3⟩ := ok.st.tab P' hP'
    exact ⟨ps', b P' _ e1 (fun z => hP (z ▸ hP')), t3⟩
theorem pf_lookup : ∀ {fs : List (Str × V)} {ds : List (Str × D)} {n : Str} {d : D}, PF K mg μ H fs ds → ds.lookup n = some d → ∃ v, fs.lookup n = some v ∧ Rp K mg μ H v d
  | [], [], _, _, _, e => by cases e
  | [], _ :: _, _, _, h, _ => by have := h.1; simp at this
  | _ :: _, [], _, _, _, e => by cases e
  | (a, v) :: fs, (b, d') :: ds, n, d, ⟨h1, h2⟩, e => by
    simp only [List.map_cons, List.cons.injEq] at h1
    obtain ⟨h1, h3⟩ := h1
    cases h2 with
    | cons r rs =>
      have h1 : a = b := h1
      subst h1
      rw [List.lookup_cons] at e ⊢
      cases hc : (n == a) with
      | true => rw [hc] at e; exact ⟨v, rfl, Option.some.inj e ▸ r⟩
      | false => rw [hc] at e; exact pf_lookup ⟨h3, rs⟩ e
end

/-- what is told of the raised -/
def pMix (K : PySem.W.Frag) (R : Post) : List HC → PXK
  | [] => fun _ _ _ => False
  | .fld c w n :: r => fun C fs S => ∃ b, PySem.W.exmOne K (.ref C) (.ref c) = some b ∧ (b = true → C = c ∧ ∃ d, fs.lookup n = some d ∧ R (.tup [.str w, d]) S) ∧ (b = false → pMix K R r C fs S)
  | .wrd c w :: r => fun C fs S => ∃ b, PySem.W.exmOne K (.ref C) (.ref c) = some b ∧ (b = true → R (.tup [.str w]) S) ∧ (b = false → pMix K R r C fs S)
  | .nev c :: r => fun C fs S => PySem.W.exmOne K (.ref C) (.ref c) = some false ∧ pMix K R r C fs S
def pHeard (K : PySem.W.Frag) (w : Str) (l : List HC) (te : PXK → PTE) : PTE := fun ρ S R => te (pMix K R l) ρ S fun d S' => R (.tup [.str w, d]) S'
section
variable {K : PySem.W.Frag} {mg : Str → Option Value} {T : TabSet} {μ₀ : List Addr} {H₀ : Hp} {R : Post} {D : Ends}
theorem mix_emb (hk : ∀ d S', R d S' → ∀ v H' μ', Ok K mg T μ₀ H₀ μ' H' S' → Rp K mg μ' H' v d → D.rt v H') : ∀ (l : List HC) {cls : Value} {d : Option Addr} {H' : Hp}, EmbX K mg T μ₀ H₀ (pMix K R l) cls d H' → ∀ σ', wMix K noW D (l.map HC.cls) cls d σ' H'
  | [], _, _, _, ⟨_, _, _, _, _, _, _, _, _, _, _, z⟩, _ => z.elim
  | .fld c w n :: r, _, _, H', ⟨C, dx, fs, ds, S', μ', rfl, rfl, h3, h4, h5, b, hb, h6, h7⟩, σ' => by
    refine ⟨b, hb, fun e a ha => ?_, fun e => mix_emb hk r ⟨C, dx, fs, ds, S', μ', rfl, rfl, h3, h4, h5, h7 e⟩ σ'⟩
    obtain ⟨rfl, g, hg, hR⟩ := h6 e
    obtain ⟨v, hv, rv⟩ := pf_lookup h4 hg
    intro hi
    refine ⟨List.getElem?_set_self hi, rfl, dx, fs, v, rfl, h3, hv, fun p hp => ?_⟩
    have n1 := h5.new (o := .tup [.str w, v]) hp
    exact hk _ _ hR _ _ μ' (h5.trans n1) (.tup (.inl (.inl upd_same)) (.cons (.str w) (.cons (n1.rp rv) .nil)))
  | .wrd c w :: r, _, _, H', ⟨C, dx, fs, ds, S', μ', rfl, rfl, h3, h4, h5, b, hb, h6, h7⟩, σ' => by
    refine ⟨b, hb, fun e a ha => ?_, fun e => mix_emb hk r ⟨C, dx, fs, ds, S', μ', rfl, rfl, h3, h4, h5, h7 e⟩ σ'⟩
    intro p hp
    have n1 := h5.new (o := .tup [.str w]) hp
    exact hk _ _ (h6 e) _ _ μ' (h5.trans n1) (.tup (.inl (.inl upd_same)) (.cons (.str w) .nil))
  | .nev c :: r, _, _, H', ⟨C, dx, fs, ds, S', μ', rfl, rfl, h3, h4, h5, hb, h7⟩, σ' =>
    ⟨false, hb, fun e => (nomatch e), fun _ => mix_emb hk r ⟨C, dx, fs, ds, S', μ', rfl, rfl, h3, h4, h5, h7⟩ σ'⟩
end
section
variable {X : Cx} {T : TabSet} {μ₀ : List Addr} {H₀ : Hp}
theorem c_heard {x a w : Str} {g c P : Addr} {k : Nat} {pg : Arguments} {bg : List Stmt} {sg : Scope} {dV kV doc pm cdv ct oc : Value} {an od : Option Addr} {osl : Array (Option Value)} {Ng : List Str} {params : Arguments} {l : List HC}
    {body : Expr} {scope : Scope} {te : PXK → PTE} {p lpos pos : Pos} (hg : Gl X x) (hm : X.mg x = some (.ref g)) (hk : PySem.W.keepIn X.K (.ref g) = true) (lk : X.K.lookup g = some ⟨oc, od, .func (PySem.W.fnOf x x pg bg sg dV kV doc pm an cdv ct), osl⟩)
    (hcg : PySem.W.codeIn X.K cdv x = true) (hb : L2.Binds X.K (PySem.W.fnOf x x pg bg sg dV kV doc pm an cdv ct) [a] []) (Sg : FnScope Ng [a] sg) (hNg : Ng[0]? = some a) (hva : Vis sg a) (hG : GivesG X Ng x sg g cdv bg a (X.env.qual ++ "<lambda>") (TTh X.K w l))
    (TB : TabB X.base X.mg c P) (hcode : X.env.code = .ref c) (hmT : (P, X.env.qual ++ "<lambda>") ∈ T.lam) (hr : RoomG (k + 2) X.A) (LS : LamS X.env.scope scope) (hdef : defaultsOf params X.env = ([], []))
    (hbind : ∀ (q : Str) (cl : List (Str × Addr)) (pm cv ctv : Value), bindArgs (PySem.W.kla_fn "<lambda>" q params body scope cl pm cv ctv) ⟨[], []⟩ = pure [])
    (hbody : ∀ (A : Around) (outer : List Env) (s : Shared) (H : Hp) (E : XK) (f c' : Addr) (μ1 : List Addr) (H1 : Hp) (px : PXK), RoomG k (lamCx X A outer s H E scope f c').A → (∀ cls d H', EmbX X.K X.mg T μ1 H1 px cls d H' → E cls d H') → PPE T μ1 H1 (lamCx X A outer s H E scope f c') body (te px))
    (hdb : (x == ("__debug__" : Str)) = false := by decide) (hd : (a == ("__debug__" : Str)) = false := by decide) (hcd : (a == ("__classdict__" : Str)) = false := by decide) :
    PPE T μ₀ H₀ X (.Call (.Name x p) [.Lambda params body scope lpos] [] pos) (pHeard X.K w l te) := by
  refine PE.imp (pe_lamcallG (L := T.lam) (t := fun E σ H Q => ∃ μ1 H1 px, (∀ cls d H', EmbX X.K X.mg T μ1 H1 px cls d H' → E cls d H') ∧ Emb X.K X.mg T μ1 H1 (te px) σ H Q) hg hm hk lk hcg hb Sg hNg hva hG TB hcode hmT (fun q hq e => T.one q hq _ hmT e) hr LS hdef hbind
    (fun A outer s H E f c' hr2 => ⟨fun pins s' σ H2 Q I ⟨μ1, H1, px, hE, q⟩ => (hbody A outer s H E f c' μ1 H1 px hr2 hE).run pins s' σ H2 Q I q⟩) hdb hd hcd) ?_
  intro σ H Q ⟨ρ, S, μ, R, ok, rv, q, kk⟩
  refine ⟨ok.st.lam, fun H1 hbt hT1 => ?_⟩
  obtain ⟨ps, hp, _, _⟩ := ok.st.lam _ hmT
  have o1 := lam_ok ok (T.dis _ hmT) hp hbt hT1
  have k1 : ∀ d S', R d S' → ∀ v H' μ', Ok X.K X.mg T μ H1 μ' H' S' → Rp X.K X.mg μ' H' v d → Q v H' := fun d S' h v H' μ' o2 r => kk d S' h v H' μ' (o1.trans o2) r
  refine ⟨μ, H1, pMix X.K R l, fun cls d H' h => mix_emb k1 l h, ρ, S, μ, _, o1.here, o1.rv rv, q, fun d S' h v H' μ' o2 r p hp => ?_⟩
  have n1 := o2.new (o := .tup [.str w, v]) hp
  exact k1 _ _ h _ _ μ' (o2.trans n1) (.tup (.inl (.inl upd_same)) (.cons (.str w) (.cons (n1.rp r) .nil)))
end
end Za

set_option Elab.async false
set_option linter.all false
set_option maxRecDepth 100000
set_option maxHeartbeats 1000000
/-! Short words for raising, and for lambdas handed over. -/
namespace Za
open PySem PySem.Spec PyProof.Rows L2 LamX Zk Zg Zt

/-- a def that calls the lambda it gets, and tells of it -/
def HeardC (P : Program) (w : World) (K : PySem.W.Frag) (mg : Str → Option Value) (base : Heap) (x word : Str) (l : List HC) : Prop :=
  ∃ (a : Str) (g : Addr) (pg : Arguments) (bg : List Stmt) (sg : Scope) (dV kV doc pm cdv ct oc : Value) (an od : Option Addr) (osl : Array (Option Value)) (Ng : List Str),
    mg x = some (.ref g) ∧ PySem.W.keepIn K (.ref g) = true ∧ K.lookup g = some ⟨oc, od, .func (PySem.W.fnOf x x pg bg sg dV kV doc pm an cdv ct), osl⟩ ∧ PySem.W.codeIn K cdv x = true ∧ Binds K (PySem.W.fnOf x x pg bg sg dV kV doc pm an cdv ct) [a] [] ∧
    FnScope Ng [a] sg ∧ Ng[0]? = some a ∧ Vis sg a ∧ (a == ("__debug__" : Str)) = false ∧ (a == ("__classdict__" : Str)) = false ∧
    ∀ (X : Cx) (q : Str), X.prog = P → X.w = w → X.K = K → X.mg = mg → X.base = base → GivesG X Ng x sg g cdv bg a q (TTh K word l)
section
variable {X : Cx} {T : TabSet} {μ₀ : List Addr} {H₀ : Hp}
theorem k_heard {x w : Str} {c P : Addr} {kx : Nat} {params : Arguments} {l : List HC} {body : Expr} {scope : Scope} {te : PXK → PTE} {p lpos pos : Pos} (k : Nat) (Hd : HeardC X.prog X.w X.K X.mg X.base x w l) (hr : RoomG kx X.A) (hk : k + 2 ≤ kx) (hg : Gl X x)
    (TB : GxR.TabB X.base X.mg c P) (hcode : X.env.code = .ref c) (hmT : (P, X.env.qual ++ "<lambda>") ∈ T.lam) (LS : LamS X.env.scope scope) (hdef : defaultsOf params X.env = ([], []))
    (hbind : ∀ (q : Str) (cl : List (Str × Addr)) (pm cv ctv : Value), bindArgs (PySem.W.kla_fn "<lambda>" q params body scope cl pm cv ctv) ⟨[], []⟩ = pure [])
    (hbody : ∀ (A : Around) (outer : List Env) (s : Shared) (H : Hp) (E : XK) (f c' : Addr) (μ1 : List Addr) (H1 : Hp) (px : PXK), RoomG k (lamCx X A outer s H E scope f c').A → (∀ cls d H', EmbX X.K X.mg T μ1 H1 px cls d H' → E cls d H') → PPE T μ1 H1 (lamCx X A outer s H E scope f c') body (te px))
    (hdb : (x == ("__debug__" : Str)) = false := by decide) :
    PPE T μ₀ H₀ X (.Call (.Name x p) [.Lambda params body scope lpos] [] pos) (pHeard X.K w l te) := by
  obtain ⟨a, g, pg, bg, sg, dV, kV, doc, pm, cdv, ct, oc, an, od, osl, Ng, h1, h2, h3, h4, h5, h6, h7, h8, h9, h10, h11⟩ := Hd
  exact c_heard hg h1 h2 h3 h4 h5 h6 h7 h8 (h11 X _ rfl rfl rfl rfl rfl) ⟨TB.code, TB.bm, TB.gP⟩ hcode hmT (hr.mono hk) LS hdef hbind hbody hdb h9 h10
end
/-- such a def of the head -/
theorem heardC_of {P : Program} {w : World} {K : PySem.W.Frag} {mg : Str → Option Value} {base : Heap} {x word a : Str} {l : List HC} {params : Arguments} {scope : Scope} {dn : He.Defn} {fd : FuncData} {Ng : List Str} {j x1 : Nat} {p1 p2 p3 p4 p5 p6 : Pos} {h₀ : ExceptHandler} {hds : List ExceptHandler}
    (F : FunD K x x params [.Try [.Return (some (.Tuple [.Constant (.str word) j p3, .Call (.Name a p1) [] [] p2] x1 p4)) p5] (h₀ :: hds) [] [] p6] scope [] [] (He.fAd K dn) fd) (S : FnScope Ng [a] scope) (hm : mg x = some (.ref (He.fAd K dn)))
    (hNg : Ng[0]? = some a) (hva : Vis scope a) (hd1 : (a == ("__debug__" : Str)) = false) (hd2 : (a == ("__classdict__" : Str)) = false) (hN : Ng.Nodup) (h0 : ∀ f : Addr, (L2.start Ng [V.ref f])[0]? = some (some (V.ref f)))
    (hbn : ∀ (kV doc pm : Value) (an : Option Addr) (cdv ct : Value) (us : List Value), us.length = [a].length → bindArgs (PySem.W.fnOf x x params [.Try [.Return (some (.Tuple [.Constant (.str word) j p3, .Call (.Name a p1) [] [] p2] x1 p4)) p5] (h₀ :: hds) [] [] p6] scope .none kV doc pm an cdv ct) ⟨us, []⟩ = pure ([a].zip us))
    (hh : ∀ (X : Cx) (cdv : Value) (s : Shared) (H : Hp), X.prog = P → X.w = w → X.K = K → X.mg = mg → X.base = base → HdsN (cxG X Ng x scope (He.fAd K dn) cdv s H) (h₀ :: hds) (l.map HC.cls)) :
    HeardC P w K mg base x word l := by
  have hb := F.bindsN (ps := [a]) hbn
  obtain ⟨oc, od, dV, kV, doc, pm, an, cdv, ct, osl, rfl, lk, hcd, _, _⟩ := F.ex
  refine ⟨a, _, params, _, scope, dV, kV, doc, pm, cdv, ct, oc, an, od, osl, Ng, hm, F.kp, lk, hcd, hb, S, hNg, hva, hd1, hd2, fun X q e1 e2 e3 e4 e5 => ?_⟩
  subst e1; subst e2; subst e3; subst e4; subst e5
  exact heard_gives hN h0 fun s H => hh X cdv s H rfl rfl rfl rfl rfl
end Za

set_option Elab.async false
set_option linter.all false
set_option maxRecDepth 100000
set_option maxHeartbeats 1000000
/-! What is never come to; constants of the module; range from .. to; extend; calls without arguments. -/
namespace Za
open PySem PySem.Spec PyProof.Rows L2 LamX Zk Zg Zt

section
variable {X : Cx} {T : TabSet} {μ₀ : List Addr} {H₀ : Hp} {a b e o : Expr} {es : List Expr} {t : PTA} {te to : PTE} {tg : Expr} {p pos : Pos}
def pNever : PTS := fun _ _ _ => False
theorem cs_never {st : Stmt} : PPS T μ₀ H₀ X st pNever := ⟨fun _ _ _ _ _ _ ⟨_, _, _, _, _, _, z, _⟩ => z.elim⟩
/-- a whole number of the module -/
theorem c_glo {x : Str} {i : Int} (hg : Gl X x) (hm : ∃ t, X.mg x = some (.int i t)) (hd : (x == ("__debug__" : Str)) = false := by decide) : PPE T μ₀ H₀ X (.Name x pos) (pC (.int i)) := by
  obtain ⟨tk, hm⟩ := hm
  exact PE.imp (pe_glob hg hm (r := ⟨tk, rfl⟩) (v := .int i) hd) fun σ H Q ⟨ρ, S, μ, R, ok, rv, q, k⟩ => k _ S q _ H μ ok.here (.int i)
def pRng2 (t : PTA) : PTI := fun ρ S R => t ρ S fun ds S1 => ∃ i j : Int, ds = [.int i, .int j] ∧ (-(2 ^ 62) ≤ i ∧ i < 2 ^ 62 ∧ -(2 ^ 62) ≤ j ∧ j < 2 ^ 62) ∧ R (rngD i (j - i).toNat) (fun _ => True) S1
theorem ci_rng2 (hg : Gl X "range") (hm : X.mg "range" = none) (ha : PPA T μ₀ H₀ X [a, b] t) (hs : starEach [a, b] X.env = [(false, eval a X.env), (false, eval b X.env)] := by rfl) (hs2 : starEach [b] X.env = [(false, eval b X.env)] := by rfl) :
    PPI T μ₀ H₀ X tg (.Call (.Name "range" p) [a, b] [] pos) (pRng2 t) :=
  PI.imp (pi_range2 hg hm ha hs hs2) fun σ H R ⟨ρ, S, μ, Rq, ok, rv, q, k⟩ => ⟨ρ, S, μ, _, ok, rv, q, fun ds S1 ⟨i, j, e, hb, q1⟩ ws H1 μ1 ok1 r1 => by
    subst e
    cases r1 with
    | cons r1 r2 =>
      cases r2 with
      | cons r2 r3 =>
        cases r3
        cases r1
        cases r2
        exact ⟨i, j, rfl, hb, k _ _ S1 q1 _ H1 μ1 ok1 rng_pit⟩⟩
def pmExtend : PMt := fun x ys S R => ∃ l m ds es, x = .loc l ∧ ys = [.loc m] ∧ S[l]? = some (.lst ds) ∧ S[m]? = some (.lst es) ∧ ds.length + es.length ≤ sizeLine ∧ R .non (S.set l (.lst (ds ++ es)))
theorem fit_extend : FitsM X.K X.mg T rExtend pmExtend := by
  intro μ H S x ys v us R Q st rx rs ⟨l, m, ds, es, e1, e2, hS, hm, hz, hR⟩ k
  subst e1; subst e2
  cases rs with
  | cons r1 r2 =>
    cases r2
    cases rx with
    | loc hl =>
      cases r1 with
      | loc hl2 =>
        obtain ⟨ws, e, rw'⟩ := st.lst hl hS
        obtain ⟨zs, e3, rz⟩ := st.lst hl2 hm
        exact ⟨_, _, ws, zs, rfl, rfl, e, e3, by rw [rw'.length, rz.length]; exact hz, k _ _ hR _ _ μ (st.ok.wrLst hl hS (rw'.append rz)) .non⟩
theorem k_extend {apos : Pos} (ho : PPE T μ₀ H₀ X o to) (ha : PPA T μ₀ H₀ X [e] t) (hbase : attributeBase o "extend" X.env (eval o X.env) = eval o X.env := by rfl)
    (hfew : ((backTo pos (starEach [e] X.env)).all (fun x => !x.1) && (backToKw pos (keywordEach [] X.env)).all (fun x => x.1.isSome) && decide (([e] : List Expr).length + ([] : List Keyword).length + (if ([] : List Keyword).isEmpty then 0 else 1) < 30)) = true := by rfl)
    (hline : (apos.endLine == pos.line) = true := by rfl) (hs : starEach [e] X.env = (false, eval e X.env) :: starEach [] X.env := by rfl) :
    PPE T μ₀ H₀ X (.Call (.Attribute o "extend" apos) [e] [] pos) (pMt pmExtend to t) := c_mt PySem.F.slot_list_extend PySem.F.type_list_extend mt_extend fit_extend ho ha hbase hfew hline hs rfl
/-- f(), f a def of the module -/
theorem k_def0 {k kx : Nat} {x : Str} {psp : PSp} (px : PXK) (C : Cal X.prog X.w X.K X.mg X.base T k x psp) (hr : RoomG kx X.A) (hk : k ≤ kx) (hg : Gl X x) (hx : Passes (L2.CX X.prog X.w) X (EmbX X.K X.mg T μ₀ H₀ px))
    (hdb : (x == ("__debug__" : Str)) = false := by decide) : PPE T μ₀ H₀ X (.Call (.Name x p) [] [] pos) (pCallF psp px pNil) := by
  obtain ⟨f, fd, ps, hm, F, hb, hkp⟩ := C
  refine ⟨fun pins s σ H Q I ⟨ρ, S, μ, R, ok, rv, q, kk⟩ => ?_⟩
  refine wpAny_Call_Name_kw (ld_glob I hg hm ?_ hdb)
  refine PySem.W.callWith_K0 I.kIn hkp ?_
  refine run_fnG F (hr.mono hk) hb hx I .nil ?_
  exact ⟨[], S, μ, R, px, ok.st, .nil, q, fun d S' q' v H' μ' ok' r' => kk d S' q' v H' μ' ok' r', fun cls d H' ⟨C, dx, fs, gs, S', μ', e1, e2, e3, e4, e5, e6⟩ => ⟨C, dx, fs, gs, S', μ', e1, e2, e3, e4, ok.trans e5, e6⟩⟩
end
end Za

set_option Elab.async false
set_option linter.all false
set_option maxRecDepth 100000
set_option maxHeartbeats 2000000
/-! The end of a law whose defs want nothing guarded around. -/
namespace Za
open PySem PySem.Spec PyProof.Rows L2 LamX

/-- the start's abstract heap: the tables, and the script if it is not of the module -/
def H0 (ts : List Addr) (a : Addr) (own : Bool) (vs : List Value) (xs : List V) : Hp := fun b =>
  if own = true ∧ b = a then some (.frz { cls := .type "list", data := .seq vs.toArray } (.lst xs))
  else if b ∈ ts then some (.tbl #[]) else none
section
variable {P : Program} {w : World} {K : PySem.W.Frag} {mg mb : Str → Option Value} {k : Nat} {fa a : Addr} {cs : List (Addr × Addr)} {fd : FuncData} {x : Str} {sp : Sp} {s : Shared} {vs : List Value} {ns : List Int} {own : Bool}
theorem h0_list {ts : List Addr} {xs : List V} : H0 ts a true vs xs a = some (.frz { cls := .type "list", data := .seq vs.toArray } (.lst xs)) := if_pos ⟨rfl, rfl⟩
theorem h0_tab {ts : List Addr} {xs : List V} {b : Addr} (h : b ∈ ts) (n : b ≠ a) : H0 ts a own vs xs b = some (.tbl #[]) := by
  unfold H0
  rw [if_neg (fun z => n z.2), if_pos h]
theorem h0_cases {ts : List Addr} {xs : List V} {b : Addr} {u : HO} (h : H0 ts a own vs xs b = some u) : (own = true ∧ b = a ∧ u = .frz { cls := .type "list", data := .seq vs.toArray } (.lst xs)) ∨ (b ∈ ts ∧ u = .tbl #[]) := by
  unfold H0 at h
  split at h
  · rename_i c
    exact .inl ⟨c.1, c.2, (Option.some.inj h).symm⟩
  · split at h
    · rename_i c
      exact .inr ⟨c, (Option.some.inj h).symm⟩
    · cases h
theorem end_callG (KX : K.In s.heap) (hns : s.heap.Ns mainGlobals mg) (hb : s.heap.Ns builtinsNs mb) (hbb : ∀ x : Str, x ≠ "__name__" → mb x = bootBuiltins x) (hlim : s.heap.NoLimit) (hg : s.gens = #[])
    (hT : ∀ p ∈ cs, s.heap.get? p.2 = some { cls := .none, data := .fields #[] }) (nT : ∀ p ∈ cs, K.lookup p.2 = none) (C : ∀ p ∈ cs, PySem.W.CodeHd s.heap p.1 p.2)
    (hbm : ∃ (bm : Addr) (ob : Obj), mg "__builtins__" = some (.ref bm) ∧ bm ≠ builtinsNs ∧ s.heap.get? bm = some ob ∧ ob.cls = .type "module" ∧ ob.dict = some builtinsNs ∧ ob.data = .plain)
    (ha : s.heap.get? a = some { cls := .type "list", data := .seq vs.toArray }) (hi : IntsAre vs ns) (hl : ns.length ≤ sizeLine) (hr : Room k callerA)
    (F : ∀ base : Heap, K.In base → base.Ns mainGlobals mg → (∀ p ∈ cs, GxR.TabB base mg p.1 p.2) → FnG P w K mg base (L2.CX P w) k fa fd [x] sp) (hbind : ∀ (s : Shared) (u : Value), BindsTo s fd ⟨[u], []⟩ [(x, u)])
    (hsp : ∀ H : Hp, (∀ p ∈ cs, H p.2 = some (.tbl #[])) → (∀ b, H b ≠ none → b = a ∨ b ∈ cs.map (·.2)) → SqRo K H a (ns.map V.int) → sp [.ref a] H (fun v _ => v = .bl true) fun _ _ _ => False) :
    codeAny (model P w) callerA (.call (.ref fa) ⟨[.ref a], []⟩) (fun r s' => r = .ok (.ret (.bool true)) ∧ OldK s.heap s'.heap ∧ s'.os = s.os ∧ AllBare s'.gens) s := by
  have eqV := vals_ints hi
  have szV : vs.length = ns.length := hi.length
  -- the tables stand empty, and a is none of them
  have tabs : ∀ b ∈ cs.map (·.2), s.heap.get? b = some { cls := .none, data := .fields #[] } := by
    intro b hb
    rcases List.mem_map.mp hb with ⟨p, hp, rfl⟩
    exact hT p hp
  have inT : ∀ p ∈ cs, p.2 ∈ cs.map (·.2) := fun p hp => List.mem_map_of_mem hp
  have offT : ∀ b ∈ cs.map (·.2), b ≠ a := by
    rintro b hb rfl
    have h1 := tabs b hb
    rw [ha] at h1
    have h2 := congrArg Obj.data (Option.some.inj h1)
    exact nomatch h2
  -- what is tracked at first
  obtain ⟨H, hH, hTr, hRo, hOk, hFrz, hNoK⟩ : ∃ H : Hp, (∀ p ∈ cs, H p.2 = some (.tbl #[])) ∧ (∀ b, H b ≠ none → b = a ∨ b ∈ cs.map (·.2)) ∧ SqRo K H a (ns.map V.int) ∧ HOk P w H s.heap ∧
      (∀ b u, H b = some u → b ∈ cs.map (·.2) ∨ ∃ o xs, u = .frz o (.lst xs)) ∧ (H a ≠ none → K.lookup a = none) := by
    cases hk : K.lookup a with
    | some o =>
      have eo : some o = some { cls := .type "list", data := .seq vs.toArray } := (KX a o hk).symm.trans ha
      have eo := Option.some.inj eo
      subst eo
      have no : ∀ b u, H0 (cs.map (·.2)) a false vs (ns.map V.int) b = some u → b ∈ cs.map (·.2) ∧ u = .tbl #[] := fun b u h => (h0_cases h).resolve_left fun z => Bool.false_ne_true z.1
      refine ⟨H0 (cs.map (·.2)) a false vs (ns.map V.int), fun p hp => h0_tab (inT p hp) (offT _ (inT p hp)), fun b hb => ?_, .inr ⟨_, vs.toArray, _, hk, rfl, rfl, rfl, ?_, ?_⟩, fun b u hu => ?_, fun b u hu => .inl (no b u hu).1, fun hn => ?_⟩
      · cases e : H0 (cs.map (·.2)) a false vs (ns.map V.int) b with
        | none => exact absurd e hb
        | some u => exact .inr (no b u e).1
      · rw [List.size_toArray, szV]; exact hl
      · exact eqV
      · obtain ⟨h1, rfl⟩ := no b u hu
        exact tabs b h1
      · cases e : H0 (cs.map (·.2)) a false vs (ns.map V.int) a with
        | none => exact absurd e hn
        | some u => exact absurd rfl (offT a (no a u e).1)
    | none =>
      refine ⟨H0 (cs.map (·.2)) a true vs (ns.map V.int), fun p hp => h0_tab (inT p hp) (offT _ (inT p hp)), fun b hb => ?_, .inl ⟨_, h0_list⟩, fun b u hu => ?_, fun b u hu => ?_, fun _ => rfl⟩
      · cases e : H0 (cs.map (·.2)) a true vs (ns.map V.int) b with
        | none => exact absurd e hb
        | some u => exact (h0_cases e).imp (fun z => z.2.1) fun z => z.1
      · rcases h0_cases hu with ⟨_, rfl, rfl⟩ | ⟨h1, rfl⟩
        · exact ⟨ha, by rw [List.length_map]; exact hl, vs, _, eqV, ha⟩
        · exact tabs b h1
      · rcases h0_cases hu with ⟨_, _, rfl⟩ | ⟨h1, _⟩
        · exact .inr ⟨_, _, rfl⟩
        · exact .inl h1
  -- all else stands untracked
  have un : ∀ {b : Addr} {o : Obj}, s.heap.get? b = some o → (∀ xs n, o.data ≠ .seq xs n) → o.data ≠ .fields #[] → H b = none := by
    intro b o e n1 n2
    by_cases hz : H b = none
    · exact hz
    · rcases hTr b hz with rfl | hb
      · rw [ha] at e; cases e; exact absurd rfl (n1 _ _)
      · rw [tabs b hb] at e; cases e; exact absurd rfl n2
  have lift : ∀ {b : Addr} {o : Obj}, s.heap.get? b = some o → (∀ xs n, o.data ≠ .seq xs n) → o.data ≠ .fields #[] → (hidT s.heap H).get? b = some o := fun e n1 n2 => hidT_get e (un e n1 n2)
  have liftNs : ∀ {b : Addr} {m : Str → Option Value}, s.heap.Ns b m → (hidT s.heap H).Ns b m := by
    rintro b m ⟨o, es, ep, e, dd, r⟩
    refine ⟨o, es, ep, lift e ?_ ?_, dd, r⟩ <;> rw [dd]
    · exact fun _ _ z => nomatch z
    · exact fun z => nomatch z
  have kb : K.In (hidT s.heap H) := by
    intro b o e
    refine hidT_get (KX b o e) ?_
    by_cases hz : H b = none
    · exact hz
    · exfalso
      rcases hTr b hz with rfl | hb
      · rw [hNoK hz] at e; cases e
      · rcases List.mem_map.mp hb with ⟨p, hp, rfl⟩
        rw [nT p hp] at e; cases e
  have md : L2.Mod K mg (hidT s.heap H) := by
    obtain ⟨mc, h1, h2⟩ := hlim
    exact ⟨kb, liftNs hns, ⟨mb, liftNs hb, hbb⟩, mc, liftNs h1, h2⟩
  have tb : ∀ p ∈ cs, GxR.TabB (hidT s.heap H) mg p.1 p.2 := by
    intro p hp
    have h0 := hT p hp
    constructor
    · obtain ⟨o, us, file, tf, flags, tg, inF, text, tt, e1, r1, r2, r3, r4⟩ := C p hp
      refine ⟨o, us, file, tf, flags, tg, inF, text, tt, lift e1 ?_ ?_, r1, r2, r3, r4⟩ <;> rw [r2]
      · exact fun _ _ z => nomatch z
      · intro z; cases z; simp at r3
    · obtain ⟨bm, ob, b1, b2, b3, b4, b5, b6⟩ := hbm
      have notG : bm ≠ mainGlobals := by
        rintro rfl
        obtain ⟨o, es, ep, e, hd, _⟩ := hns
        rw [b3] at e; cases e; rw [b6] at hd; cases hd
      have notP : bm ≠ p.2 := by
        rintro rfl
        rw [b3] at h0; cases h0; cases b6
      refine ⟨bm, ob, b1, b2, notG, notP, lift b3 ?_ ?_, b4, b5, b6⟩ <;> rw [b6]
      · exact fun _ _ z => nomatch z
      · exact fun z => nomatch z
    · intro z
      obtain ⟨o, es, ep, e, hd, _⟩ := hns
      rw [z, h0] at e; cases e; cases hd
  have e0 : Env0 P w K mg (hidT s.heap H) callerA [] s H := ⟨rfl, md, fun _ _ e => of_hidT e, by rw [hidT_size]; exact Nat.le_refl _, trivial, (fun b hb => nomatch (show b ∈ ([] : List Addr) from hb)), hOk, .of_eq hg⟩
  have ran := (F _ kb (liftNs hns) tb).run callerA [] s H ⟨[.ref a], []⟩ [.ref a] [.ref a] _ _ ⟨hr, rfl⟩ e0 (hbind s (.ref a)) (.cons rfl .nil) (hsp H hH hTr hRo)
  refine codeAny_mono ran ?_
  rintro (e | fl) s' h
  · obtain ⟨_, _, _, _, _, _, _, _, _, _, _, _, z⟩ := h
    exact z.elim
  cases fl with
  | next => exact False.elim h
  | brk => exact False.elim h
  | cont => exact False.elim h
  | ret u =>
    obtain ⟨v, H', os, bare, u0, hok', r', q⟩ := h
    have q : v = .bl true := q
    subst q
    have eu : u = Value.bool true := r'
    subst eu
    -- the tables may have grown, nothing else was touched
    have grow : ∀ b ∈ cs.map (·.2), ∃ more : Array Value, s'.heap.get? b = some { cls := .none, data := .fields more } := by
      intro b hb
      rcases List.mem_map.mp hb with ⟨p, hp, rfl⟩
      obtain ⟨more, z⟩ := u0.tbls p.2 #[] (hH p hp)
      exact ⟨_, hok' _ _ z⟩
    have stay : ∀ b o, b ∉ cs.map (·.2) → s.heap.get? b = some o → s'.heap.get? b = some o := by
      intro b o nb e
      cases hz : H b with
      | none => exact u0.keep b o e hz (fun z => nomatch z) (fun z => nomatch z)
      | some c =>
        rcases hFrz b c hz with h1 | ⟨ob, xs, rfl⟩
        · exact absurd h1 nb
        · have e1 := (hOk b _ hz).1
          have e2 := (hok' b _ (u0.frzs b ob _ hz)).1
          rw [e] at e1
          cases e1
          exact e2
    refine ⟨rfl, ⟨fun b o e => ?_, fun b o e => ?_⟩, os, bare⟩
    · by_cases hb : b ∈ cs.map (·.2)
      · obtain ⟨more, hm⟩ := grow b hb
        rcases List.mem_map.mp hb with ⟨p, hp, rfl⟩
        rw [hT p hp] at e
        cases e
        refine .inr (.inl ⟨((C p hp).tab (hT p hp)).isCodeTable, rfl, #[], more, rfl, ?_⟩)
        rw [Array.empty_append]
        exact hm
      · exact .inl (stay b o hb e)
    · by_cases hb : b ∈ cs.map (·.2)
      · obtain ⟨more, hm⟩ := grow b hb
        exact ⟨_, hm⟩
      · exact ⟨o, stay b o hb e⟩
/-- what is known of the law at the head's heap -/
def LawG (l : PySem.W.OpenLaw) (w : World) (K : PySem.W.Frag) (k n : Nat) (x : Str) (mg : Str → Option Value) (fa : Addr) (h : Heap) : Prop :=
  ∃ (fd : FuncData) (cs : List (Addr × Addr)) (sp : Sp), (∀ p ∈ cs, h.get? p.2 = some { cls := .none, data := .fields #[] }) ∧ (∀ p ∈ cs, K.lookup p.2 = none) ∧ (∀ p ∈ cs, PySem.W.CodeHd h p.1 p.2) ∧
    (∀ (s : Shared) (u : Value), BindsTo s fd ⟨[u], []⟩ [(x, u)]) ∧
    (∀ (H : Hp) (a : Addr) (ns : List Int), ns.length ≤ n → (∀ p ∈ cs, H p.2 = some (.tbl #[])) → SqRo K H a (ns.map V.int) → sp [.ref a] H (fun v _ => v = .bl true) fun _ _ _ => False) ∧
    ∀ base : Heap, K.In base → base.Ns mainGlobals mg → (∀ p ∈ cs, GxR.TabB base mg p.1 p.2) → FnG l.prog w K mg base (L2.CX l.prog w) k fa fd [x] sp
theorem walkG {l : PySem.W.OpenLaw} {n k : Nat} {q : Program} {loose : List Str} {XP : (Str → Option Value) → Heap → Prop} {YP : World → Heap → Prop} {d : DefRec} {x : Str}
    (hn : l.most = some n) (hn2 : n ≤ sizeLine) (hdf : d.params.defaults = []) (hr : Room k callerA)
    (F : ∀ (w : World) (mg : Str → Option Value) (fa : Addr) (h : Heap), YP w h → h.Ns mainGlobals mg → mg d.name = some (.ref fa) → ∃ K : PySem.W.Frag, K.In h ∧ LawG l w K k n x mg fa h) :
    PySem.W.WalkO q loose XP YP l.row.toRowW d [] (fun f vs => PySem.call f vs) := by
  refine Att.attach_callB hn hdf ?_
  intro w s₀ s₁ mg mb fa o pm cd doc a vs ns G Y _ _ _ hmg hobj hints hlen _ hg
  obtain ⟨K, KX, fd, cs, sp, h1, h2, h3, h4, h5, h6⟩ := F w mg fa _ Y G.T.g hmg
  exact end_callG KX G.T.g G.T.b G.T.builtins G.T.nolimit hg h1 h2 h3 G.T.bmain hobj hints (Nat.le_trans hlen hn2) hr h6 h4 (fun H hH _ hS => h5 H a ns hlen hH hS)
end
end Za

set_option Elab.async false
set_option linter.all false
set_option maxRecDepth 100000
set_option maxHeartbeats 1000000
/-! Defs of a head that may be called; own exception classes. -/
namespace Za
open PySem PySem.Spec PyProof.Rows L2 LamX

theorem calOf {P : Program} {w : World} {K : PySem.W.Frag} {mg : Str → Option Value} {base : Heap} {x : Str} {params : Arguments} {body : List Stmt} {scope : Scope} {fd : FuncData} {N ps : List Str} {k : Nat} {T : TabSet} {psp : PSp}
    (F : FunD K x x params body scope [] [] (He.fAd K (x, none)) fd) (hm : mg x = some (.ref (He.fAd K (x, none)))) (S : FnScope N ps scope) (len : ∀ ds S R PX, psp ds S R PX → ds.length = ps.length)
    (hbn : ∀ (kV doc pm : Value) (an : Option Addr) (cdv ct : Value) (us : List Value), us.length = ps.length → bindArgs (PySem.W.fnOf x x params body scope .none kV doc pm an cdv ct) ⟨us, []⟩ = pure (ps.zip us))
    (hbody : ∀ (cdv : Value) (A : Around) (outer : List Env) (s : Shared) (H : Hp) (E : XK) (μ : List Addr) (PX : PXK), cdv = .ref (He.codeOf K (x, none)) → RoomG k (cxL P w K mg base N x scope (He.fAd K (x, none)) cdv A outer s H E).A → (∀ cls d H', EmbX K mg T μ H PX cls d H' → E cls d H') →
      ∃ t, PPSs T μ H (cxL P w K mg base N x scope (He.fAd K (x, none)) cdv A outer s H E) body t ∧ ∀ ds S R, psp ds S R PX → Closed S.length S → bels S.length ds → t { nx := fun _ S' => Fall S.length R .non S', rt := Fall S.length R } (startD N ds) S) :
    Cal P w K mg base T (k + 1) x psp := ⟨_, fd, ps, hm, okG F S len hbody, F.bindsN hbn, F.kp⟩
/-- a promise that nobody asks for -/
theorem cal_none {P : Program} {w : World} {K : PySem.W.Frag} {mg : Str → Option Value} {base : Heap} {x : Str} {params : Arguments} {body : List Stmt} {scope : Scope} {fd : FuncData} {ps : List Str} {k : Nat} {T : TabSet} {psp : PSp}
    (F : FunD K x x params body scope [] [] (He.fAd K (x, none)) fd) (hm : mg x = some (.ref (He.fAd K (x, none)))) (no : ∀ ds S R PX, ¬ psp ds S R PX)
    (hbn : ∀ (kV doc pm : Value) (an : Option Addr) (cdv ct : Value) (us : List Value), us.length = ps.length → bindArgs (PySem.W.fnOf x x params body scope .none kV doc pm an cdv ct) ⟨us, []⟩ = pure (ps.zip us)) :
    Cal P w K mg base T k x psp := by
  refine ⟨_, fd, ps, hm, ⟨fun vs H Q E ⟨ds, S, μ, R, PX, _, _, h, _⟩ => (no _ _ _ _ h).elim, fun A outer s H args us vs Q E _ _ _ _ ⟨ds, S, μ, R, PX, _, _, h, _⟩ => (no _ _ _ _ h).elim⟩, F.bindsN hbn, F.kp⟩
end Za

set_option Elab.async false
set_option linter.all false
set_option maxRecDepth 100000
set_option maxHeartbeats 1000000
/-! Fractions in lowest terms are the rationals; what the words of the text make of them. -/
namespace Za
open PySem PySem.Spec PyProof.Rows L2

/-- (numerator, denominator) -/
def frD (q : Rat) : D := .tup [.int q.num, .int (q.den : Int)]
/-- not too long for the operators -/
def Sz (q : Rat) : Prop := q.num.natAbs.log2 < 8000 ∧ q.den.log2 < 8000
theorem rat_ext {a b : Rat} (h1 : a.num = b.num) (h2 : a.den = b.den) : a = b := by
  cases a; cases b; simp only at h1 h2; subst h1; subst h2; rfl
theorem gcd_log {a b : Nat} (h : 0 < a) : (Nat.gcd a b).log2 ≤ a.log2 := by
  have h1 : Nat.gcd a b ≤ a := Nat.gcd_le_left b h
  have h2 : Nat.gcd a b ≠ 0 := fun z => by rw [Nat.gcd_eq_zero_iff] at z; omega
  exact (Nat.le_log2 (by omega)).mpr (Nat.le_trans (Nat.log2_self_le h2) h1)
theorem log_mono {a b : Nat} (h : a ≤ b) : a.log2 ≤ b.log2 := by
  by_cases ha : a = 0
  · subst ha; rw [Nat.log2_zero]; exact Nat.zero_le _
  · exact (Nat.le_log2 (by omega)).mpr (Nat.le_trans (Nat.log2_self_le ha) h)
theorem log_mul {a b : Nat} : (a * b).log2 ≤ a.log2 + b.log2 + 1 := by
  by_cases h : a * b = 0
  · rw [h, Nat.log2_zero]; exact Nat.zero_le _
  · have h1 : a < 2 ^ (a.log2 + 1) := Nat.lt_log2_self
    have h2 : b < 2 ^ (b.log2 + 1) := Nat.lt_log2_self
    have h3 : a * b < 2 ^ (a.log2 + b.log2 + 2) := by
      calc a * b < 2 ^ (a.log2 + 1) * 2 ^ (b.log2 + 1) := Nat.mul_lt_mul'' h1 h2
        _ = 2 ^ (a.log2 + b.log2 + 2) := by rw [← Nat.pow_add]; congr 1; omega
    have := (Nat.log2_lt h).mpr h3
    omega
theorem log_add {a b : Nat} : (a + b).log2 ≤ max a.log2 b.log2 + 1 := by
  by_cases h : a + b = 0
  · rw [h, Nat.log2_zero]; exact Nat.zero_le _
  · have h1 : a < 2 ^ (a.log2 + 1) := Nat.lt_log2_self
    have h2 : b < 2 ^ (b.log2 + 1) := Nat.lt_log2_self
    have e1 : 2 ^ (a.log2 + 1) ≤ 2 ^ (max a.log2 b.log2 + 1) := Nat.pow_le_pow_right (by decide) (by omega)
    have e2 : 2 ^ (b.log2 + 1) ≤ 2 ^ (max a.log2 b.log2 + 1) := Nat.pow_le_pow_right (by decide) (by omega)
    have h3 : a + b < 2 ^ (max a.log2 b.log2 + 2) := by
      rw [Nat.pow_succ 2 (max a.log2 b.log2 + 1)]
      omega
    have := (Nat.log2_lt h).mpr h3
    omega
theorem fdiv_nat (a b : Nat) : Int.fdiv (a : Int) (b : Int) = ((a / b : Nat) : Int) := by
  rw [Int.fdiv_eq_ediv_of_nonneg _ (Int.natCast_nonneg b)]; rfl
theorem fdiv_ediv (a : Int) (b : Nat) : Int.fdiv a (b : Int) = a / (b : Int) := Int.fdiv_eq_ediv_of_nonneg _ (Int.natCast_nonneg b)

/-- the program's sum -/
theorem add_num_den (a b : Rat) :
    (a + b).num = (a.num * ((b.den / a.den.gcd b.den : Nat) : Int) + b.num * ((a.den / a.den.gcd b.den : Nat) : Int)) / (((a.num * ((b.den / a.den.gcd b.den : Nat) : Int) + b.num * ((a.den / a.den.gcd b.den : Nat) : Int)).natAbs.gcd (a.den.gcd b.den) : Nat) : Int) ∧
    (a + b).den = a.den / a.den.gcd b.den * (b.den / (a.num * ((b.den / a.den.gcd b.den : Nat) : Int) + b.num * ((a.den / a.den.gcd b.den : Nat) : Int)).natAbs.gcd (a.den.gcd b.den)) := by
  show (Rat.add a b).num = _ ∧ (Rat.add a b).den = _
  unfold Rat.add
  by_cases hg : a.den.gcd b.den = 1
  · simp [hg]
  · have hd : ∀ n : Nat, a.den / a.den.gcd b.den * (b.den / n.gcd (a.den.gcd b.den)) = a.den / a.den.gcd b.den * b.den / n.gcd (a.den.gcd b.den) := fun n =>
      (Nat.mul_div_assoc _ (Nat.dvd_trans (Nat.gcd_dvd_right _ _) (Nat.gcd_dvd_right _ _))).symm
    simp only [hg, dite_false, hd]
    unfold Rat.maybeNormalize
    split
    · rename_i h1
      dsimp only
      rw [h1]
      exact ⟨(Int.ediv_one _).symm, (Nat.div_one _).symm⟩
    · constructor <;> simp [Int.divExact, Nat.divExact, Int.tdiv_eq_ediv_of_dvd]
theorem mul_num_den (a b : Rat) :
    (a * b).num = a.num / ((a.num.natAbs.gcd b.den : Nat) : Int) * (b.num / ((b.num.natAbs.gcd a.den : Nat) : Int)) ∧
    (a * b).den = b.den / a.num.natAbs.gcd b.den * (a.den / b.num.natAbs.gcd a.den) := by
  show (Rat.mul a b).num = _ ∧ (Rat.mul a b).den = _
  unfold Rat.mul
  constructor <;> simp [Int.divExact, Nat.divExact, Nat.mul_comm, Int.tdiv_eq_ediv_of_dvd]
end Za

set_option Elab.async false
set_option linter.all false
set_option maxRecDepth 100000
set_option maxHeartbeats 1000000
/-! Words for readings and stores, step by step. -/
namespace K4
open PySem PySem.Spec PyProof.Rows L2 Za
theorem pMul_int {i j : Int} {S : Sto} {R : Post} : pMul (.int i) (.int j) S R = (CMulW i j ∧ R (.int (i * j)) S) := rfl
theorem pAdd_int {i j : Int} {S : Sto} {R : Post} : pAdd (.int i) (.int j) S R = R (.int (i + j)) S := rfl
theorem pI2_int {C : Int → Int → Prop} {g : Int → Int → D} {i j : Int} {S : Sto} {R : Post} : pI2 C g (.int i) (.int j) S R = (C i j ∧ R (g i j) S) := rfl
theorem seqOf_tup {S : Sto} {l : List D} : seqOf S (.tup l) = some l := rfl
theorem atI_0 {α : Type} {a : α} {r : List α} : atI (a :: r) 0 = some a := by
  unfold atI ixN
  simp
theorem atI_1 {α : Type} {a b : α} {r : List α} : atI (a :: b :: r) 1 = some b := by
  have h : (1 : Int) < (r.length : Int) + 1 + 1 := by omega
  unfold atI ixN
  simp [h]
theorem fall_of {n : Nat} {R : Post} {d : D} {S : Sto} (hn : n ≤ S.length) (hc : Closed S.length S) (hb : d.bel S.length) (h : R d S) : Fall n R d S := .inl h
theorem bel_int {n : Nat} {i : Int} : (D.int i).bel n := by simp only [D.bel]
theorem bel_fr {n : Nat} {q : Rat} : (frD q).bel n := by simp only [frD, D.bel, bels]; trivial
abbrev endF (n : Nat) (R : Post) : PEnds := { nx := fun _ S' => Fall n R .non S', rt := Fall n R }
theorem cdiv_nat {x : Int} {m : Nat} (h : 0 < m) (hl : m.log2 < 9000) : CDivZ x (m : Int) := ⟨by omega, by rw [Int.natAbs_natCast]; exact hl⟩
theorem cdiv_l {x : Int} {a b : Nat} (h : 0 < a) (hl : a.log2 < 9000) : CDivZ x ((Nat.gcd a b : Nat) : Int) := cdiv_nat (Nat.gcd_pos_of_pos_left b h) (Nat.lt_of_le_of_lt (gcd_log h) hl)
theorem cdiv_r {x : Int} {a b : Nat} (h : 0 < b) (hl : b.log2 < 9000) : CDivZ x ((Nat.gcd a b : Nat) : Int) := by rw [Nat.gcd_comm]; exact cdiv_l h hl
theorem cmul_of {i j : Int} {m n : Nat} (h1 : i.natAbs.log2 ≤ m) (h2 : j.natAbs.log2 ≤ n) (h : m + n < 1000000) : CMulW i j := by show _ + _ < _; omega
theorem log_div {a b : Nat} : (a / b).log2 ≤ a.log2 := log_mono (Nat.div_le_self _ _)
theorem log_idiv {a : Int} {b : Nat} : (a / (b : Int)).natAbs.log2 ≤ a.natAbs.log2 := log_mono (by
  rcases Nat.eq_zero_or_pos b with h | h
  · subst h; simp
  · exact Int.natAbs_ediv_le_natAbs a b)
def natD (n : Nat) : D := .int (n : Int)
def cellL : Cell → List D
  | .lst ds => ds
theorem seqOf_get {S : Sto} {l : Nat} : seqOf S (.loc l) = (S[l]?).map cellL := by
  show lstAt S l = _
  unfold lstAt
  cases h : S[l]? with
  | none => rfl
  | some c => cases c; rfl
theorem cellL_lst {ds : List D} : cellL (.lst ds) = ds := rfl
theorem atI_2 {α : Type} {a b c : α} {r : List α} : atI (a :: b :: c :: r) 2 = some c := by
  have h : (2 : Int) < (r.length : Int) + 1 + 1 + 1 := by omega
  unfold atI ixN
  simp [h]
theorem atI_3 {α : Type} {a b c d : α} {r : List α} : atI (a :: b :: c :: d :: r) 3 = some d := by
  have h : (3 : Int) < (r.length : Int) + 1 + 1 + 1 + 1 := by omega
  unfold atI ixN
  simp [h]
theorem py_int {S : Sto} {i : Int} {p : PyData} : Py S (.int i) p ↔ p = .int i := ⟨fun h => by cases h; rfl, fun h => by rw [h]; exact .int i⟩
theorem pEq_int {S : Sto} {i j : Int} {R : Post} : pEq (.int i) (.int j) S R = R (.bl (decide (i = j))) S := by
  refine propext ⟨fun ⟨p, q, h1, h2, _, _, h⟩ => ?_, fun h => ⟨.int i, .int j, .int i, .int j, rfl, rfl, ?_⟩⟩
  · rw [py_int] at h1 h2
    subst h1; subst h2
    exact h
  · exact h
theorem pNe_int {S : Sto} {i j : Int} {R : Post} : pNe (.int i) (.int j) S R = R (.bl (!decide (i = j))) S := by
  refine propext ⟨fun ⟨p, q, h1, h2, _, _, h⟩ => ?_, fun h => ⟨.int i, .int j, .int i, .int j, rfl, rfl, ?_⟩⟩
  · rw [py_int] at h1 h2
    subst h1; subst h2
    exact h
  · exact h
def cutV (x : D) (lo hi : Option Int) (S : Sto) (R : Post) : Prop := match x with
  | .tup ds => R (.tup (cutD ds lo hi)) S
  | d => ∃ ds, seqOf S d = some ds ∧ R (.loc S.length) (S ++ [.lst (cutD ds lo hi)])
theorem pCut_eq {te : PTE} {tl th : PTO} {ρ : Vars} {S : Sto} {R : Post} : pCut te tl th ρ S R = te ρ S fun x S1 => tl ρ S1 fun lo S2 => th ρ S2 fun hi S3 => cutV x lo hi S3 R := rfl
theorem cutV_loc {l : Nat} {lo hi : Option Int} {S : Sto} {R : Post} : cutV (.loc l) lo hi S R = ∃ ds, seqOf S (.loc l) = some ds ∧ R (.loc S.length) (S ++ [.lst (cutD ds lo hi)]) := rfl
theorem cutV_tup {ds : List D} {lo hi : Option Int} {S : Sto} {R : Post} : cutV (.tup ds) lo hi S R = R (.tup (cutD ds lo hi)) S := rfl
theorem pAdd_loc {l m : Nat} {S : Sto} {R : Post} : pAdd (.loc l) (.loc m) S R = ∃ a b, S[l]? = some (.lst a) ∧ S[m]? = some (.lst b) ∧ a.length + b.length ≤ sizeLine ∧ R (.loc S.length) (S ++ [.lst (a ++ b)]) := rfl
theorem pAdd_tup {a b : List D} {S : Sto} {R : Post} : pAdd (.tup a) (.tup b) S R = (a.length + b.length ≤ sizeLine ∧ R (.tup (a ++ b)) S) := rfl
theorem pInt_int {i : Int} {S : Sto} {R : Post} : pInt [.int i] S R = R (.int i) S := by
  refine propext ⟨fun h => ?_, fun h => .inl ⟨i, rfl, h⟩⟩
  rcases h with ⟨j, e, h⟩ | ⟨b, e, h⟩
  · injection e with e; injection e with e; subst e; exact h
  · injection e with e; cases e
theorem pInt_bl {b : Bool} {S : Sto} {R : Post} : pInt [.bl b] S R = R (.int (if b then 1 else 0)) S := by
  refine propext ⟨fun h => ?_, fun h => .inr ⟨b, rfl, h⟩⟩
  rcases h with ⟨j, e, h⟩ | ⟨c, e, h⟩
  · injection e with e; cases e
  · injection e with e; injection e with e; subst e; exact h
theorem ix40 : ixN 4 0 = some 0 := by decide
theorem ix41 : ixN 4 1 = some 1 := by decide
theorem ix42 : ixN 4 2 = some 2 := by decide
theorem lst_inj {a b : List D} : (Cell.lst a = Cell.lst b) ↔ a = b := ⟨fun h => by injection h, fun h => by rw [h]⟩
theorem at_app {S G : Sto} {l : Nat} (h : l < S.length) : (S ++ G)[l]? = S[l]? := List.getElem?_append_left h
theorem at_new {S : Sto} {c : Cell} : (S ++ [c])[S.length]? = some c := by simp
theorem at_set {S : Sto} {c : Cell} {l : Nat} (h : l < S.length) : (S.set l c)[l]? = some c := List.getElem?_set_self h
theorem at_set_ne {S : Sto} {c : Cell} {l m : Nat} (h : l ≠ m) : (S.set l c)[m]? = S[m]? := List.getElem?_set_ne h
def tupIn (g : PTG) (tt : PTT) (te : PTE) (ρ : Vars) (R : Post) (items : List D) (still : Sto → Prop) (S1 : Sto) : Prop :=
  ∃ W : Nat → List D → Sto → Prop, W 0 [] S1 ∧ (∀ i acc S', W i acc S' → still S') ∧
      (∀ i d acc S', items[i]? = some d → W i acc S' → g d ρ S' fun ρ2 S2 => tt ρ2 S2 fun b S3 => if b = true then te ρ2 S3 fun y S4 => acc.length < sizeLine ∧ W (i + 1) (acc ++ [y]) S4 else W (i + 1) acc S3) ∧
      ∀ acc S', W items.length acc S' → R (.tup acc) S'
theorem tupG_eq {src : PTI} {g : PTG} {tt : PTT} {te : PTE} {vs : List Nat} {ρ : Vars} {S : Sto} {R : Post} : pTupG src g tt te vs ρ S R = src ρ S (tupIn g tt te (wipeD ρ vs) R) := rfl
def lcIn (g : PTG) (tt : PTT) (te : PTE) (ρ : Vars) (R : Post) (items : List D) (still : Sto → Prop) (S1 : Sto) : Prop :=
  ∃ W : Nat → Sto → Prop, W 0 (S1 ++ [.lst []]) ∧ (∀ i S', W i S' → still S') ∧
      (∀ i d S', items[i]? = some d → W i S' → g d ρ S' fun ρ2 S2 => tt ρ2 S2 fun b S3 => if b = true then te ρ2 S3 fun y S4 => ∃ acc, S4[S1.length]? = some (.lst acc) ∧ acc.length < sizeLine ∧ W (i + 1) (S4.set S1.length (.lst (acc ++ [y]))) else W (i + 1) S3) ∧
      ∀ S', W items.length S' → R (.loc S1.length) S'
theorem lc_eq {src : PTI} {g : PTG} {tt : PTT} {te : PTE} {vs : List Nat} {ρ : Vars} {S : Sto} {R : Post} : pLc src g tt te vs ρ S R = src ρ S (lcIn g tt te (wipeD ρ vs) R) := rfl
def forIn (g : PTG) (tb : PTS) (Dp : PEnds) (ρ : Vars) (items : List D) (still : Sto → Prop) (S1 : Sto) : Prop := ∃ W : Nat → Vars → Sto → Prop, W 0 ρ S1 ∧ (∀ i ρ' S', W i ρ' S' → still S') ∧
  (∀ i d ρ' S', items[i]? = some d → W i ρ' S' → g d ρ' S' fun ρ2 S2 => tb { Dp with nx := W (i + 1), ct := W (i + 1), bk := Dp.nx } ρ2 S2) ∧ ∀ ρ' S', W items.length ρ' S' → Dp.nx ρ' S'
theorem for_eq {src : PTI} {g : PTG} {tb : PTS} {Dp : PEnds} {ρ : Vars} {S : Sto} : pFor src g tb Dp ρ S = src ρ S (forIn g tb Dp ρ) := rfl
/-- the bag at place l -/
structure BagAt (S : Sto) (l l2 v s k : Nat) (ns : List Nat) : Prop where
  at1 : S[l]? = some (.lst [.int (v : Int), .int (s : Int), .int (k : Int), .loc l2])
  at2 : S[l2]? = some (.lst (ns.map natD))
  ne : l ≠ l2
  sm : s < 2147483647
  few : ns.length ≤ 63
theorem fall_r {n : Nat} {R : Post} {d : D} {S : Sto} (h : R d S) : Fall n R d S := .inl h
theorem seq_go {t u : PTS} {D : PEnds} {ρ : Vars} {S : Sto} (h : ∀ K, K = u D → t { D with nx := K } ρ S) : pSeq t u D ρ S := h _ rfl
/-- from S on, but for l, all stays -/
structure Grow (l : Nat) (S S' : Sto) : Prop where
  le : S.length ≤ S'.length
  at_ : ∀ i, i < S.length → i ≠ l → S'[i]? = S[i]?
theorem Grow.refl {l : Nat} {S : Sto} : Grow l S S := ⟨Nat.le_refl _, fun _ _ _ => rfl⟩
theorem Grow.trans {l : Nat} {A B C : Sto} (x : Grow l A B) (y : Grow l B C) : Grow l A C := ⟨Nat.le_trans x.le y.le, fun i h n => (y.at_ i (Nat.lt_of_lt_of_le h x.le) n).trans (x.at_ i h n)⟩
theorem Grow.app {l : Nat} {S G : Sto} : Grow l S (S ++ G) := ⟨by rw [List.length_append]; omega, fun i h _ => List.getElem?_append_left h⟩
theorem Grow.set {l : Nat} {S : Sto} {c : Cell} : Grow l S (S.set l c) := ⟨by rw [List.length_set]; exact Nat.le_refl _, fun i _ n => List.getElem?_set_ne (fun z => n z.symm)⟩
theorem lt_of_at {S : Sto} {l : Nat} {c : Cell} (h : S[l]? = some c) : l < S.length := (List.getElem?_eq_some_iff.mp h).1
section
variable {S S1 : Sto} {l l2 v s k v' s' k' : Nat} {ns : List Nat}
theorem BagAt.lt1 (B : BagAt S l l2 v s k ns) : l < S.length := lt_of_at B.at1
theorem BagAt.lt2 (B : BagAt S l l2 v s k ns) : l2 < S.length := lt_of_at B.at2
theorem BagAt.app (B : BagAt S l l2 v s k ns) {G : Sto} : BagAt (S ++ G) l l2 v s k ns := ⟨(at_app B.lt1).trans B.at1, (at_app B.lt2).trans B.at2, B.ne, B.sm, B.few⟩
theorem BagAt.put (B : BagAt S l l2 v s k ns) (v' s' k' : Nat) (h : s' < 2147483647) : BagAt (S.set l (.lst [.int (v' : Int), .int (s' : Int), .int (k' : Int), .loc l2])) l l2 v' s' k' ns := ⟨at_set B.lt1, (at_set_ne B.ne).trans B.at2, B.ne, h, B.few⟩
end
def Bag (S : Sto) (l l2 c : Nat) : Prop := ∃ v s k ns, BagAt S l l2 v s k ns ∧ k ≤ c
theorem fmod_nat (a b : Nat) : Int.fmod (a : Int) (b : Int) = ((a % b : Nat) : Int) := by
  rw [Int.fmod_eq_emod_of_nonneg _ (Int.natCast_nonneg b)]; rfl
theorem cut_nat (ns : List Nat) (lo hi : Option Int) : ∃ r : List Nat, Za.cutD (ns.map natD) lo hi = r.map natD ∧ r.length ≤ ns.length := by
  unfold Za.cutD
  rw [List.length_map]
  refine ⟨(ns.drop (HT.sIx ns.length 0 lo)).take (HT.sIx ns.length ns.length hi - HT.sIx ns.length 0 lo), by rw [List.map_take, List.map_drop], ?_⟩
  rw [List.length_take, List.length_drop]
  omega
theorem head_nat (r : List Nat) : ∃ c : Nat, atI (r.map natD ++ [.int 0]) 0 = some (natD c) := by
  cases r with
  | nil => exact ⟨0, atI_0⟩
  | cons a r => exact ⟨a, atI_0⟩
theorem small_log {i : Int} (h : i.natAbs < 2 ^ 41) : i.natAbs.log2 ≤ 40 := by
  by_cases z : i.natAbs = 0
  · rw [z, Nat.log2_zero]; omega
  · have := (Nat.log2_lt z).mpr h; omega
/-- a tuple of what is taken from items that stay -/
theorem tupG_pure {items : List D} {still : Sto → Prop} {S1 : Sto} {g : PTG} {tt : PTT} {te : PTE} {ρ : Vars} {R : Post} (p : D → Bool) (f : D → D) (hst : still S1) (hz : items.length ≤ sizeLine)
    (hstep : ∀ d ∈ items, ∀ (Y : D → Sto → Prop) (N : Sto → Prop), (p d = true → Y (f d) S1) → (p d = false → N S1) → g d ρ S1 fun ρ2 S2 => tt ρ2 S2 fun b S3 => if b = true then te ρ2 S3 Y else N S3)
    (h : R (.tup ((items.filter p).map f)) S1) :
    tupIn g tt te ρ R items still S1 := by
  refine ⟨fun i acc S' => S' = S1 ∧ acc = ((items.take i).filter p).map f, ⟨rfl, rfl⟩, fun i acc S' ⟨e, _⟩ => e ▸ hst, ?_, ?_⟩
  · rintro i d acc S' hi ⟨rfl, rfl⟩
    have hl := (List.getElem?_eq_some_iff.mp hi).1
    have et : items.take (i + 1) = items.take i ++ [d] := by rw [List.take_add_one, hi]; rfl
    have hlen : (((items.take i).filter p).map f).length < sizeLine := by
      rw [List.length_map]
      have h1 := List.length_filter_le p (items.take i)
      rw [List.length_take] at h1
      omega
    refine hstep d (List.mem_of_getElem? hi) _ _ (fun hp => ⟨hlen, rfl, ?_⟩) (fun hp => ⟨rfl, ?_⟩)
    · rw [et, List.filter_append, List.map_append]; simp [hp]
    · rw [et, List.filter_append, List.map_append]; simp [hp]
  · rintro acc S' ⟨rfl, rfl⟩
    rw [List.take_length]
    exact h
/-- a list of what is taken from items that stay -/
theorem lc_pure {items : List D} {still : Sto → Prop} {S1 : Sto} {g : PTG} {tt : PTT} {te : PTE} {ρ : Vars} {R : Post} (p : D → Bool) (f : D → D) (hst : ∀ c, still (S1 ++ [c])) (hz : items.length ≤ sizeLine)
    (hstep : ∀ d ∈ items, ∀ (c : Cell) (Y : D → Sto → Prop) (N : Sto → Prop), (p d = true → Y (f d) (S1 ++ [c])) → (p d = false → N (S1 ++ [c])) → g d ρ (S1 ++ [c]) fun ρ2 S2 => tt ρ2 S2 fun b S3 => if b = true then te ρ2 S3 Y else N S3)
    (h : R (.loc S1.length) (S1 ++ [.lst ((items.filter p).map f)])) :
    lcIn g tt te ρ R items still S1 := by
  refine ⟨fun i S' => S' = S1 ++ [.lst (((items.take i).filter p).map f)], rfl, fun i S' e => e ▸ hst _, ?_, ?_⟩
  · rintro i d S' hi rfl
    have hl := (List.getElem?_eq_some_iff.mp hi).1
    have et : items.take (i + 1) = items.take i ++ [d] := by rw [List.take_add_one, hi]; rfl
    have hlen : (((items.take i).filter p).map f).length < sizeLine := by
      rw [List.length_map]
      have h1 := List.length_filter_le p (items.take i)
      rw [List.length_take] at h1
      omega
    refine hstep d (List.mem_of_getElem? hi) _ _ _ (fun hp => ⟨_, at_new, hlen, ?_⟩) (fun hp => ?_)
    · show _ = _ ++ [Cell.lst (((items.take (i + 1)).filter p).map f)]
      rw [et, List.filter_append, List.map_append]; simp [hp]
    · show _ = _ ++ [Cell.lst (((items.take (i + 1)).filter p).map f)]
      rw [et, List.filter_append, List.map_append]; simp [hp]
  · rintro S' rfl
    rw [List.take_length]
    exact h
theorem mem_enum {xs : List D} {d : D} (h : d ∈ enumD xs) : ∃ (i : Nat) (x : D), xs[i]? = some x ∧ d = .tup [natD i, x] := by
  unfold enumD at h
  obtain ⟨⟨x, i⟩, h1, rfl⟩ := List.mem_map.mp h
  exact ⟨i, x, List.mem_zipIdx_iff_getElem?.mp h1, rfl⟩
theorem map_fr_at {fs : List Rat} {i : Nat} {x : D} (h : (fs.map frD)[i]? = some x) : ∃ q, fs[i]? = some q ∧ x = frD q := by
  rw [List.getElem?_map] at h
  cases e : fs[i]? with
  | none => rw [e] at h; cases h
  | some q => rw [e] at h; exact ⟨q, rfl, (Option.some.inj h).symm⟩
theorem enum_len {xs : List D} : (enumD xs).length = xs.length := by unfold enumD; rw [List.length_map, List.length_zipIdx]
/-- a list of what is taken from items that stay, place by place -/
theorem lc_pureO {items : List D} {still : Sto → Prop} {S1 : Sto} {g : PTG} {tt : PTT} {te : PTE} {ρ : Vars} {R : Post} (ys : List (Option D)) (hl : ys.length = items.length) (hst : ∀ c, still (S1 ++ [c])) (hz : items.length ≤ sizeLine)
    (hstep : ∀ (i : Nat) (d : D) (o : Option D), items[i]? = some d → ys[i]? = some o → ∀ (c : Cell) (Y : D → Sto → Prop) (N : Sto → Prop), (∀ y, o = some y → Y y (S1 ++ [c])) → (o = none → N (S1 ++ [c])) → g d ρ (S1 ++ [c]) fun ρ2 S2 => tt ρ2 S2 fun b S3 => if b = true then te ρ2 S3 Y else N S3)
    (h : R (.loc S1.length) (S1 ++ [.lst (ys.filterMap id)])) :
    lcIn g tt te ρ R items still S1 := by
  refine ⟨fun i S' => S' = S1 ++ [.lst ((ys.take i).filterMap id)], rfl, fun i S' e => e ▸ hst _, ?_, ?_⟩
  · rintro i d S' hi rfl
    have hl1 := (List.getElem?_eq_some_iff.mp hi).1
    have ho : ys[i]? = some (ys[i]'(by omega)) := List.getElem?_eq_getElem _
    generalize ys[i]'(by omega) = o at ho
    have et : ys.take (i + 1) = ys.take i ++ [o] := by rw [List.take_add_one, ho]; rfl
    have hlen : ((ys.take i).filterMap id).length < sizeLine := by
      have h1 := List.length_filterMap_le id (ys.take i)
      rw [List.length_take] at h1
      omega
    refine hstep i d o hi ho _ _ _ (fun y hy => ⟨_, at_new, hlen, ?_⟩) (fun hn => ?_)
    · subst hy
      show _ = _ ++ [Cell.lst ((ys.take (i + 1)).filterMap id)]
      rw [et, List.filterMap_append]
      simp
    · subst hn
      show _ = _ ++ [Cell.lst ((ys.take (i + 1)).filterMap id)]
      rw [et, List.filterMap_append]
      simp
  · rintro S' rfl
    rw [← hl, List.take_length]
    exact h
theorem zip_at {xs ys : List D} {i : Nat} {d : D} (h : (zipD xs ys)[i]? = some d) : ∃ x y, xs[i]? = some x ∧ ys[i]? = some y ∧ d = .tup [x, y] := by
  unfold zipD at h
  rw [List.getElem?_zipWith] at h
  cases e1 : xs[i]? with
  | none => rw [e1] at h; cases h
  | some x =>
    cases e2 : ys[i]? with
    | none => rw [e1, e2] at h; cases h
    | some y => rw [e1, e2] at h; exact ⟨x, y, rfl, rfl, (Option.some.inj h).symm⟩
theorem seqOf_app {S G : Sto} {d : D} {xs : List D} (h : seqOf S d = some xs) : seqOf (S ++ G) d = some xs := by
  cases d with
  | loc l =>
    have e := seqOf_loc h
    exact seqOf_of ((at_app (lt_of_at e)).trans e)
  | tup l => exact h
  | ro l => exact h
  | _ => cases h
theorem zipD_len {xs ys : List D} : (zipD xs ys).length = min xs.length ys.length := by unfold zipD; rw [List.length_zipWith]
theorem seqOf_grow {l : Nat} {S S' : Sto} {d : D} {xs : List D} (g : Grow l S S') (hd : d ≠ .loc l) (h : seqOf S d = some xs) : seqOf S' d = some xs := by
  cases d with
  | loc j =>
    have e := seqOf_loc h
    exact seqOf_of ((g.at_ j (lt_of_at e) (fun z => hd (by rw [z]))).trans e)
  | tup l => exact h
  | ro l => exact h
  | _ => cases h
theorem atI_nat {α : Type} {xs : List α} {i : Nat} {x : α} (h : xs[i]? = some x) : atI xs (i : Int) = some x := by
  have hl := (List.getElem?_eq_some_iff.mp h).1
  unfold atI ixN
  rw [if_pos (by omega), if_pos (by omega)]
  exact h
theorem Bag.app {S G : Sto} {l l2 c : Nat} (b : Bag S l l2 c) : Bag (S ++ G) l l2 c := by
  obtain ⟨v, s, k, ns, B, h⟩ := b
  exact ⟨v, s, k, ns, B.app, h⟩
theorem Bag.set {S : Sto} {l l2 c n : Nat} {x : Cell} (b : Bag S l l2 c) (h1 : n ≠ l) (h2 : n ≠ l2) : Bag (S.set n x) l l2 c := by
  obtain ⟨v, s, k, ns, B, h⟩ := b
  exact ⟨v, s, k, ns, ⟨(at_set_ne h1).trans B.at1, (at_set_ne h2).trans B.at2, B.ne, B.sm, B.few⟩, h⟩
theorem Bag.mono {S : Sto} {l l2 c c' : Nat} (b : Bag S l l2 c) (h : c ≤ c') : Bag S l l2 c' := by
  obtain ⟨v, s, k, ns, B, h1⟩ := b
  exact ⟨v, s, k, ns, B, Nat.le_trans h1 h⟩
theorem Bag.lt1 {S : Sto} {l l2 c : Nat} (b : Bag S l l2 c) : l < S.length := by
  obtain ⟨v, s, k, ns, B, h1⟩ := b
  exact B.lt1
theorem Bag.lt2 {S : Sto} {l l2 c : Nat} (b : Bag S l l2 c) : l2 < S.length := by
  obtain ⟨v, s, k, ns, B, h1⟩ := b
  exact B.lt2
/-- not too many were taken -/
abbrev Few (c : Nat) : Prop := c < 2 ^ 200
theorem few_log {c : Nat} (h : Few c) : c.log2 < 900000 := by
  by_cases z : c = 0
  · rw [z, Nat.log2_zero]; omega
  · have := (Nat.log2_lt z).mpr h; omega
end K4

set_option linter.all false
set_option maxRecDepth 100000
set_option exponentiation.threshold 1000
/-! Fractions: sizes, greatest ones, the least stage. -/
namespace K36
/-- fewer than n bits -/
def Sm (n : Nat) (q : Rat) : Prop := q.num.natAbs < 2 ^ n ∧ q.den < 2 ^ n
theorem Sm.mono {m n : Nat} {q : Rat} (h : Sm m q) (k : m ≤ n) : Sm n q :=
  ⟨Nat.lt_of_lt_of_le h.1 (Nat.pow_le_pow_right (by decide) k), Nat.lt_of_lt_of_le h.2 (Nat.pow_le_pow_right (by decide) k)⟩
theorem sm_norm {n : Int} {d k : Nat} (hd : d ≠ 0) (h1 : n.natAbs < 2 ^ k) (h2 : d < 2 ^ k) : Sm k (mkRat n d) := by
  rw [← Rat.normalize_eq_mkRat hd, Rat.normalize_eq hd]
  exact ⟨Nat.lt_of_le_of_lt (Int.natAbs_ediv_le_natAbs _ _) h1, Nat.lt_of_le_of_lt (Nat.div_le_self _ _) h2⟩
theorem sm_mul {m n : Nat} {a b : Rat} (x : Sm m a) (y : Sm n b) : Sm (m + n) (a * b) := by
  rw [Rat.mul_def, Rat.normalize_eq_mkRat]
  refine sm_norm (Nat.mul_ne_zero a.den_nz b.den_nz) ?_ ?_
  · rw [Int.natAbs_mul, Nat.pow_add]; exact Nat.mul_lt_mul'' x.1 y.1
  · rw [Nat.pow_add]; exact Nat.mul_lt_mul'' x.2 y.2
theorem sm_inv {n : Nat} {a : Rat} (x : Sm n a) : Sm (n + 1) a⁻¹ := by
  rw [Rat.inv_def]
  have h0 : 0 < 2 ^ n := Nat.lt_of_le_of_lt (Nat.zero_le _) x.1
  have e : 2 ^ n < 2 ^ (n + 1) := by rw [Nat.pow_succ]; omega
  by_cases hz : a.num = 0
  · rw [hz, Rat.divInt_zero]
    exact ⟨by show 0 < _; omega, by show 1 < _; rw [Nat.pow_succ]; omega⟩
  · have e2 : Rat.divInt (a.den : Int) a.num = mkRat ((a.den : Int) * a.num.sign) a.num.natAbs := by
      rcases Int.lt_or_gt_of_ne hz with h | h
      · have : a.num = -(a.num.natAbs : Int) := by omega
        conv => lhs; rw [this]
        rw [Rat.divInt_neg', Int.sign_eq_neg_one_of_neg h]
        show mkRat _ _ = mkRat _ _
        congr 1; omega
      · have : a.num = (a.num.natAbs : Int) := by omega
        conv => lhs; rw [this]
        rw [Int.sign_eq_one_of_pos h, Int.mul_one]
        rfl
    rw [e2]
    refine sm_norm (by omega) ?_ (Nat.lt_trans x.1 e)
    rw [Int.natAbs_mul, Int.natAbs_natCast]
    have h1 : a.num.sign.natAbs = 1 := by
      rw [Int.natAbs_sign]; simp [hz]
    rw [h1, Nat.mul_one]
    exact Nat.lt_trans x.2 e
theorem sm_div {m n : Nat} {a b : Rat} (x : Sm m a) (y : Sm n b) : Sm (m + n + 1) (a / b) := by
  rw [Rat.div_def]
  exact (sm_mul x (sm_inv y)).mono (by omega)
theorem sm_pow {m : Nat} {a : Rat} (x : Sm m a) : ∀ s : Nat, Sm (m * s + 1) (a ^ s)
  | 0 => by
    rw [Rat.pow_zero, Nat.mul_zero]
    exact ⟨by decide, by decide⟩
  | s + 1 => by
    rw [Rat.pow_succ]
    exact (sm_mul (sm_pow x s) x).mono (by rw [Nat.mul_succ]; omega)
/-- the size -/
def absQ (a : Rat) : Rat := ⟨(a.num.natAbs : Int), a.den, a.den_nz, by rw [Int.natAbs_natCast]; exact a.reduced⟩
theorem absQ_nn (a : Rat) : 0 ≤ absQ a := Rat.num_nonneg.mp (Int.natCast_nonneg _)
theorem sm_abs {n : Nat} {a : Rat} (h : Sm n a) : Sm n (absQ a) := ⟨by show ((a.num.natAbs : Int)).natAbs < _; rw [Int.natAbs_natCast]; exact h.1, h.2⟩
/-- the greater one -/
def mxQ (m x : Rat) : Rat := if m < x then x else m
def maxQ : List Rat → Rat
  | [] => 0
  | q :: r => r.foldl mxQ q
theorem mx_ge1 (m x : Rat) : m ≤ mxQ m x := by unfold mxQ; split <;> grind
theorem mx_ge2 (m x : Rat) : x ≤ mxQ m x := by unfold mxQ; split <;> grind
theorem mx_or (m x : Rat) : mxQ m x = m ∨ mxQ m x = x := by unfold mxQ; split <;> simp
theorem fold_ge (q : Rat) : ∀ (r : List Rat), q ≤ r.foldl mxQ q ∧ ∀ x ∈ r, x ≤ r.foldl mxQ q := by
  intro r
  induction r generalizing q with
  | nil => exact ⟨Rat.le_refl, fun x h => nomatch h⟩
  | cons a r ih =>
    obtain ⟨h1, h2⟩ := ih (mxQ q a)
    refine ⟨Rat.le_trans (mx_ge1 q a) h1, fun x hx => ?_⟩
    rcases List.mem_cons.mp hx with e | e
    · rw [e]; exact Rat.le_trans (mx_ge2 q a) h1
    · exact h2 x e
theorem fold_in (q : Rat) : ∀ (r : List Rat), r.foldl mxQ q = q ∨ r.foldl mxQ q ∈ r := by
  intro r
  induction r generalizing q with
  | nil => exact .inl rfl
  | cons a r ih =>
    rcases ih (mxQ q a) with h | h
    · rcases mx_or q a with e | e
      · left; show r.foldl mxQ (mxQ q a) = q; rw [h, e]
      · right; show r.foldl mxQ (mxQ q a) ∈ _; rw [h, e]; exact List.mem_cons_self
    · right; exact List.mem_cons_of_mem _ h
theorem max_ge {l : List Rat} {x : Rat} (h : x ∈ l) : x ≤ maxQ l := by
  cases l with
  | nil => exact nomatch h
  | cons q r =>
    rcases List.mem_cons.mp h with e | e
    · rw [e]; exact (fold_ge q r).1
    · exact (fold_ge q r).2 x e
theorem max_in {l : List Rat} (h : l ≠ []) : maxQ l ∈ l := by
  cases l with
  | nil => exact absurd rfl h
  | cons q r =>
    rcases fold_in q r with e | e
    · show r.foldl mxQ q ∈ _; rw [e]; exact List.mem_cons_self
    · exact List.mem_cons_of_mem _ e
/-- from 0 on, it is the greatest from 0 -/
theorem max_zero {l : List Rat} (h : ∀ x ∈ l, 0 ≤ x) : l.foldl mxQ 0 = maxQ l := by
  cases l with
  | nil => rfl
  | cons q r =>
    show r.foldl mxQ (mxQ 0 q) = r.foldl mxQ q
    have e : mxQ 0 q = q := by
      have h0 := h q List.mem_cons_self
      unfold mxQ
      split
      · rfl
      · grind
    rw [e]
/-- the quotients -/
def quots : List Rat → List (Rat × Rat) → List Rat
  | w :: ws, p :: ps => absQ p.1 / w :: absQ p.2 / w :: quots ws ps
  | _, _ => []
structure Fine (ws : List Rat) (ps : List (Rat × Rat)) : Prop where
  len : ws.length = ps.length
  pos : 0 < ws.length
  few : ws.length ≤ 1000
  w : ∀ w ∈ ws, 0 < w ∧ Sm 20 w
  p : ∀ p ∈ ps, Sm 20 p.1 ∧ Sm 20 p.2
theorem div_nn {a b : Rat} (h : 0 ≤ a) (k : 0 < b) : 0 ≤ a / b := by
  rw [Rat.div_def]
  exact Rat.mul_nonneg h (Rat.le_of_lt (Rat.inv_pos.mpr k))
theorem quots_all : ∀ {ws : List Rat} {ps : List (Rat × Rat)}, (∀ w ∈ ws, 0 < w ∧ Sm 20 w) → (∀ p ∈ ps, Sm 20 p.1 ∧ Sm 20 p.2) → ∀ x ∈ quots ws ps, 0 ≤ x ∧ Sm 41 x
  | [], _, _, _, _, h => by unfold quots at h; exact nomatch h
  | _ :: _, [], _, _, _, h => by unfold quots at h; exact nomatch h
  | w :: ws, p :: ps, hw, hp, x, h => by
    unfold quots at h
    have h1 := hw w List.mem_cons_self
    have h2 := hp p List.mem_cons_self
    rcases List.mem_cons.mp h with e | h
    · rw [e]; exact ⟨div_nn (absQ_nn _) h1.1, sm_div (sm_abs h2.1) h1.2⟩
    · rcases List.mem_cons.mp h with e | h
      · rw [e]; exact ⟨div_nn (absQ_nn _) h1.1, sm_div (sm_abs h2.2) h1.2⟩
      · exact quots_all (fun w h => hw w (List.mem_cons_of_mem _ h)) (fun p h => hp p (List.mem_cons_of_mem _ h)) x h
theorem quots_ne {ws : List Rat} {ps : List (Rat × Rat)} (f : Fine ws ps) : quots ws ps ≠ [] := by
  obtain ⟨h1, h2, _, _, _⟩ := f
  cases ws with
  | nil => simp at h2
  | cons w ws =>
    cases ps with
    | nil => simp at h1
    | cons p ps => unfold quots; exact List.cons_ne_nil _ _
/-- the greatest quotient -/
def gr (ws : List Rat) (ps : List (Rat × Rat)) : Rat := maxQ (quots ws ps)
theorem gr_ok {ws : List Rat} {ps : List (Rat × Rat)} (f : Fine ws ps) : 0 ≤ gr ws ps ∧ Sm 41 (gr ws ps) := quots_all f.w f.p _ (max_in (quots_ne f))
theorem ws_ne {ws : List Rat} {ps : List (Rat × Rat)} (f : Fine ws ps) : ws ≠ [] := fun e => by have := f.pos; rw [e] at this; exact absurd this (by decide)
/-- t -/
structure TOk (t : Rat) : Prop where
  pos : 0 < t
  num : t.num.natAbs ≤ 100
  den : t.den ≤ 100
theorem TOk.sm {t : Rat} (h : TOk t) : Sm 7 t := ⟨Nat.lt_of_le_of_lt h.num (by decide), Nat.lt_of_le_of_lt h.den (by decide)⟩
theorem TOk.nn {t : Rat} (h : TOk t) (s : Nat) : 0 ≤ t ^ s := by
  induction s with
  | zero => rw [Rat.pow_zero]; decide
  | succ s ih => rw [Rat.pow_succ]; exact Rat.mul_nonneg ih (Rat.le_of_lt h.pos)
/-- the stage (less 1) at which the bound is near enough first -/
def fst (M t nr : Rat) : Option Nat := (List.range 400).find? fun i => decide (M * t ^ (i + 1) ≤ nr)
theorem all_le {ws : List Rat} {x y nr : Rat} (hx : 0 ≤ x) (hne : ws ≠ []) : (∀ w ∈ ws, w * x ≤ nr) ↔ maxQ ws * x ≤ nr := by
  constructor
  · intro h; exact h _ (max_in hne)
  · intro h w hw; exact Rat.le_trans (Rat.mul_le_mul_of_nonneg_right (max_ge hw) hx) h
theorem pow_up {t : Rat} (h : 1 ≤ t) {i j : Nat} (k : i ≤ j) : t ^ i ≤ t ^ j := by
  have ht : 0 ≤ t := Rat.le_trans (by decide) h
  have h0 : ∀ s : Nat, 0 ≤ t ^ s := fun s => by
    induction s with
    | zero => rw [Rat.pow_zero]; decide
    | succ s ih => rw [Rat.pow_succ]; exact Rat.mul_nonneg ih ht
  induction k with
  | refl => exact Rat.le_refl
  | step k ih =>
    refine Rat.le_trans ih ?_
    rw [Rat.pow_succ]
    rename_i m
    have := Rat.mul_le_mul_of_nonneg_left h (h0 m)
    rwa [Rat.mul_one] at this
/-- where the bounds don't fall, one that is too great stays so -/
theorem fst_none {M t nr : Rat} (hM : 0 ≤ M) (h : 1 ≤ t) {i : Nat} (hi : ∀ j, j ≤ i → ¬ M * t ^ (j + 1) ≤ nr) : fst M t nr = none := by
  unfold fst
  rw [List.find?_eq_none]
  intro j hj
  simp only [decide_eq_true_eq]
  intro hk
  by_cases e : j ≤ i
  · exact hi j e hk
  · refine hi i (Nat.le_refl _) (Rat.le_trans (Rat.mul_le_mul_of_nonneg_left (pow_up h (by omega)) hM) hk)
theorem fst_some {M t nr : Rat} {i : Nat} (h4 : i < 400) (hi : ∀ j, j < i → ¬ M * t ^ (j + 1) ≤ nr) (h : M * t ^ (i + 1) ≤ nr) : fst M t nr = some i := by
  unfold fst
  rw [List.find?_eq_some_iff_getElem]
  refine ⟨by simpa using h, i, by simpa using h4, by simp, fun j hj => ?_⟩
  simp only [List.getElem_range, Bool.not_eq_true', decide_eq_false_iff_not]
  exact hi j hj
theorem fst_all {M t nr : Rat} (hi : ∀ j, j < 400 → ¬ M * t ^ (j + 1) ≤ nr) : fst M t nr = none := by
  unfold fst
  rw [List.find?_eq_none]
  intro j hj
  simp only [decide_eq_true_eq]
  exact hi j (List.mem_range.mp hj)
/-! the two of four hundred stages -/
theorem many1 : fst 1 (mkRat 99 100) (mkRat 9 500) = some 399 := by
  have key : ∀ j : Nat, (1 * mkRat 99 100 ^ (j + 1) ≤ mkRat 9 500) ↔ (99 ^ (j + 1) * 500 ≤ 9 * 100 ^ (j + 1)) := fun j => by
    rw [Rat.one_mul, Rat.le_iff, Rat.num_pow, Rat.den_pow]
    have e1 : (mkRat 99 100).num = 99 := by decide
    have e2 : (mkRat 99 100).den = 100 := by decide
    have e3 : (mkRat 9 500).num = 9 := by decide
    have e4 : (mkRat 9 500).den = 500 := by decide
    rw [e1, e2, e3, e4]
    norm_cast
  refine fst_some (by decide) (fun j hj => ?_) ((key 399).mpr (by decide))
  rw [key]
  have : ∀ j, j < 399 → ¬ 99 ^ (j + 1) * 500 ≤ 9 * 100 ^ (j + 1) := by decide +kernel
  exact this j hj
theorem many2 : fst 1 (mkRat 99 100) (mkRat 179 10000) = none := by
  have key : ∀ j : Nat, (1 * mkRat 99 100 ^ (j + 1) ≤ mkRat 179 10000) ↔ (99 ^ (j + 1) * 10000 ≤ 179 * 100 ^ (j + 1)) := fun j => by
    rw [Rat.one_mul, Rat.le_iff, Rat.num_pow, Rat.den_pow]
    have e1 : (mkRat 99 100).num = 99 := by decide
    have e2 : (mkRat 99 100).den = 100 := by decide
    have e3 : (mkRat 179 10000).num = 179 := by decide
    have e4 : (mkRat 179 10000).den = 10000 := by decide
    rw [e1, e2, e3, e4]
    norm_cast
  refine fst_all fun j hj => ?_
  rw [key]
  have : ∀ j, j < 400 → ¬ 99 ^ (j + 1) * 10000 ≤ 179 * 100 ^ (j + 1) := by decide +kernel
  exact this j hj
end K36

set_option Elab.async false
set_option linter.all false
set_option maxRecDepth 100000
/-! What each def of k36's row does. -/
namespace K36
open PySem PySem.Spec PyProof.Rows L2 Za K4
def Sq (q : Rat) : Prop := q.num.natAbs.log2 < 4400 ∧ q.den.log2 < 4400
def vpD (p : Rat × Rat) : D := .tup [frD p.1, frD p.2]
def sp_fraction : PSp := fun ds S R _ => ∃ (n : Int) (d : Nat), ds = [.int n, .int d] ∧ d ≠ 0 ∧ n.natAbs.log2 < 20000 ∧ d.log2 < 8999 ∧ R (frD (mkRat n d)) S
def sp_times : PSp := fun ds S R _ => ∃ a b : Rat, ds = [frD a, frD b] ∧ Sq a ∧ Sq b ∧ R (frD (a * b)) S
def sp_over : PSp := fun ds S R _ => ∃ a b : Rat, ds = [frD a, frD b] ∧ 0 < b ∧ Sq a ∧ Sq b ∧ R (frD (a / b)) S
def sp_size_of : PSp := fun ds S R _ => ∃ a : Rat, ds = [frD a] ∧ R (frD (absQ a)) S
def cmpQ (a b : Rat) : Int := if a = b then 0 else if a < b then -1 else 1
def sp_compare : PSp := fun ds S R _ => ∃ a b : Rat, ds = [frD a, frD b] ∧ Sq a ∧ Sq b ∧ R (.int (cmpQ a b)) S
def sp_greatest : PSp := fun ds S R _ => ∃ (d : D) (qs : List Rat), ds = [d] ∧ seqOf S d = some (qs.map frD) ∧ qs ≠ [] ∧ (∀ q ∈ qs, Sq q) ∧ R (frD (maxQ qs)) S
def sp_greatest_by : PSp := fun ds S R _ => ∃ (ws : List Rat) (ps : List (Rat × Rat)), ds = [.tup (ws.map frD), .tup (ps.map vpD)] ∧ Fine ws ps ∧ ∀ G, R (frD (gr ws ps)) (S ++ G)
def sp_powerN (n : Nat) : PSp := fun ds S R _ => ∃ (a : Int) (m : Nat), ds = [.int a, .int m] ∧ m < 2 ^ n ∧ a.natAbs ≤ 100 ∧ m ≤ 12 ∧ R (.int (a ^ m)) S
def sp_power : PSp := sp_powerN 4
def sp_stage_bound : PSp := fun ds S R _ => ∃ (ws : List Rat) (t : Rat) (ps : List (Rat × Rat)) (s : Nat), ds = [.tup (ws.map frD), frD t, .tup (ps.map vpD), .int s] ∧ Fine ws ps ∧ TOk t ∧ s ≤ 12 ∧
  ∀ G, R (.tup ((ws.map fun w => t ^ s * gr ws ps * w).map frD)) (S ++ G)
/-- what stages_for tells, of the first stage that is near enough -/
def sp_stages_for (c_TooMany : Addr) : PSp := fun ds S R PX => ∃ (ws : List Rat) (t : Rat) (ps : List (Rat × Rat)) (nr : Rat), ds = [.tup (ws.map frD), frD t, .tup (ps.map vpD), frD nr] ∧ Fine ws ps ∧ TOk t ∧ Sm 20 nr ∧
  (∀ i, fst (maxQ ws * gr ws ps) t nr = some i → ∀ G, R (.int ((i + 1 : Nat) : Int)) (S ++ G)) ∧ (fst (maxQ ws * gr ws ps) t nr = none → ∀ G, PX c_TooMany [("most", .int 400)] (S ++ G))
def sp_law_bag : PSp := fun ds S R _ => ∃ (d : D) (ns : List Int), ds = [d] ∧ (d = .ro (ns.map D.int) ∨ ∃ j, d = .loc j) ∧ seqOf S d = some (ns.map D.int) ∧ ns.length ≤ 2 ^ 20 ∧
  ∀ (l l2 : Nat) S', S.length ≤ l → S.length ≤ l2 → Bag S' l l2 0 → (∀ i, i < S.length → S'[i]? = S[i]?) → R (.loc l) S'
def sp_law_take : PSp := fun ds S R _ => ∃ l l2 c m : Nat, ds = [.loc l, .int m] ∧ 0 < m ∧ m.log2 < 9000 ∧ Few c ∧ Bag S l l2 c ∧ ∀ (r : Nat) S', r < m → Grow l S S' → Bag S' l l2 (c + 1) → R (.int r) S'
def sp_law_some : PSp := fun ds S R _ => ∃ (l l2 c : Nat) (d : D) (xs : List D), ds = [.loc l, d] ∧ d ≠ .loc l ∧ seqOf S d = some xs ∧ 0 < xs.length ∧ xs.length ≤ 2 ^ 24 ∧ Few c ∧ Bag S l l2 c ∧
  ∀ (i : Nat) (x : D) S', xs[i]? = some x → Grow l S S' → Bag S' l l2 (c + 1) → R x S'
def sp_law_mixed : PSp := fun ds S R _ => ∃ (l l2 c : Nat) (d : D) (xs : List D), ds = [.loc l, d] ∧ d ≠ .loc l ∧ seqOf S d = some xs ∧ xs.length ≤ 1000 ∧ Few (c + xs.length) ∧ Bag S l l2 c ∧
  ∀ (ys : List D) (j : Nat) S', ys.Perm xs → S'[j]? = some (.lst ys) → S.length ≤ j → Grow l S S' → Bag S' l l2 (c + xs.length) → R (.loc j) S'
/-- a value that is compared with itself, its text short -/
structure Plain (p : PyData) : Prop where
  sh : p.showable = true
  nd : p.hasDict = false
  len : p.shown.length ≤ sizeLine
  dp : p.depth + 1 ≤ 60
  ok : SeqAt.shaped p = true
  eq : PyData.eqv p p = true
  so : PyData.strOk p.shown = true
def Holds (d : D) : Prop := (d.knd = .t ∧ ∃ l, d = .tup l) ∨ ∃ n, d = .loc n
def sp_law_alike : PSp := fun ds S R _ => ∃ (d d' : D) (p : PyData), ds = [d, d'] ∧ Holds d ∧ Holds d' ∧ Py S d p ∧ Py S d' p ∧ Plain p ∧ R (.bl true) S
def sp_law_gcd : PSp := fun ds S R _ => ∃ a b : Int, ds = [.int a, .int b] ∧ a.natAbs.log2 < 20000 ∧ b.natAbs.log2 < 8999 ∧ R (.int (Int.gcd a b)) S
def sp_law_f : PSp := fun ds S R _ => ∃ (n : Int) (d : Nat), ds = [.int n, .int d] ∧ d ≠ 0 ∧ n.natAbs.log2 < 20000 ∧ d.log2 < 8999 ∧ R (frD (mkRat n d)) S
def sp_law_by : PSp := sp_times
def sp_law_below : PSp := fun ds S R _ => ∃ a b : Rat, ds = [frD a, frD b] ∧ Sq a ∧ Sq b ∧ R (.bl (decide (a < b))) S
def sp_law_size : PSp := sp_size_of
def Low (q : Rat) : Prop := q.num.natAbs ≤ 99 ∧ q.den ≤ 4
def sp_law_some_fraction : PSp := fun ds S R _ => ∃ l l2 c : Nat, ds = [.loc l] ∧ Few (c + 2) ∧ Bag S l l2 c ∧ ∀ (q : Rat) S', Low q → Grow l S S' → Bag S' l l2 (c + 2) → R (frD q) S'
def sp_law_over : PSp := sp_over
def sp_law_power : PSp := fun ds S R _ => ∃ (t : Rat) (m : Nat), ds = [frD t, .int m] ∧ TOk t ∧ m ≤ 12 ∧ R (frD (t ^ m)) S
def sp_law_greatest : PSp := sp_greatest_by
def sp_law_bounds : PSp := fun ds S R _ => ∃ (ws : List Rat) (t : Rat) (ps : List (Rat × Rat)) (s : Nat), ds = [.tup (ws.map frD), frD t, .tup (ps.map vpD), .int s] ∧ Fine ws ps ∧ TOk t ∧ s ≤ 12 ∧
  ∀ G, R (.tup ((ws.map fun w => w * (t ^ s * gr ws ps)).map frD)) (S ++ G)
def sp_law_least_stage : PSp := fun ds S R _ => ∃ (ws : List Rat) (t : Rat) (ps : List (Rat × Rat)) (nr : Rat), ds = [.tup (ws.map frD), frD t, .tup (ps.map vpD), frD nr] ∧ Fine ws ps ∧ TOk t ∧ Sm 20 nr ∧
  (∀ i, fst (maxQ ws * gr ws ps) t nr = some i → ∀ G, R (.int ((i + 1 : Nat) : Int)) (S ++ G)) ∧ (fst (maxQ ws * gr ws ps) t nr = none → ∀ G, R .non (S ++ G))
def sp_law_heard : PSp := fun _ _ _ _ => False
def sp_law_are_many_right : PSp := fun ds S R _ => ds = [] ∧ ∀ G, R (.bl true) (S ++ G)
def sp_law : PSp := fun ds S R _ => ∃ (d : D) (ns : List Int), ds = [d] ∧ (d = .ro (ns.map D.int) ∨ ∃ j, d = .loc j) ∧ seqOf S d = some (ns.map D.int) ∧ ns.length ≤ 63 ∧ ∀ S', R (.bl true) S'
end K36

set_option Elab.async false
set_option linter.all false
set_option maxRecDepth 100000
set_option maxHeartbeats 1000000
/-! What the bodies of the row do, step by step. -/
namespace K36
open PySem PySem.Spec PyProof.Rows L2 Zk Zg Za LamX Zt
def N_fraction : List Str := ["num", "den", "shared"]
theorem nd_fraction : N_fraction.Nodup := by decide +kernel
def t_fraction : PTS := (pSeq (pIfS (pTest (pBin pEq (pVar 1) (pC (.int 0)))) pNever pNext) (pSeq (pAsg (pCall pGcd (pCons (pVar 0) (pCons (pVar 1) pNil))) (pgName 2)) (pSeq (pIfS (pTest (pBin pLt (pVar 1) (pC (.int 0)))) (pAsg (pNeg (pVar 2)) (pgName 2)) pNext) (pRet (pTup (pCons (pBin pFdivI (pVar 0) (pVar 2)) (pCons (pBin pFdivI (pVar 1) (pVar 2)) pNil)))))))

def N_times : List Str := ["one", "other", "left", "right"]
theorem nd_times : N_times.Nodup := by decide +kernel
def t_times : PTS := (pSeq (pAsg (pCall pGcd (pCons (pBin pIx (pVar 0) (pC (.int 0))) (pCons (pBin pIx (pVar 1) (pC (.int 1))) pNil))) (pgName 2)) (pSeq (pAsg (pCall pGcd (pCons (pBin pIx (pVar 1) (pC (.int 0))) (pCons (pBin pIx (pVar 0) (pC (.int 1))) pNil))) (pgName 3)) (pRet (pTup (pCons (pBin pMul (pBin pFdivI (pBin pIx (pVar 0) (pC (.int 0))) (pVar 2)) (pBin pFdivI (pBin pIx (pVar 1) (pC (.int 0))) (pVar 3))) (pCons (pBin pMul (pBin pFdivI (pBin pIx (pVar 0) (pC (.int 1))) (pVar 3)) (pBin pFdivI (pBin pIx (pVar 1) (pC (.int 1))) (pVar 2))) pNil))))))

def N_over : List Str := ["one", "other"]
theorem nd_over : N_over.Nodup := by decide +kernel
def t_over : PTS := (pRet (pCallF sp_fraction PXno (pCons (pBin pMul (pBin pIx (pVar 0) (pC (.int 0))) (pBin pIx (pVar 1) (pC (.int 1)))) (pCons (pBin pMul (pBin pIx (pVar 0) (pC (.int 1))) (pBin pIx (pVar 1) (pC (.int 0)))) pNil))))

def N_size_of : List Str := ["one"]
theorem nd_size_of : N_size_of.Nodup := by decide +kernel
def t_size_of : PTS := (pRet (pTup (pCons (pCall pAbs (pCons (pBin pIx (pVar 0) (pC (.int 0))) pNil)) (pCons (pBin pIx (pVar 0) (pC (.int 1))) pNil))))

def N_compare : List Str := ["one", "other", "left", "right"]
theorem nd_compare : N_compare.Nodup := by decide +kernel
def t_compare : PTS := (pSeq (pAsg (pBin pMul (pBin pIx (pVar 0) (pC (.int 0))) (pBin pIx (pVar 1) (pC (.int 1)))) (pgName 2)) (pSeq (pAsg (pBin pMul (pBin pIx (pVar 1) (pC (.int 0))) (pBin pIx (pVar 0) (pC (.int 1)))) (pgName 3)) (pSeq (pIfS (pTest (pBin pEq (pVar 2) (pVar 3))) (pRet (pC (.int 0))) pNext) (pRet (pIf (pTest (pBin pLt (pVar 2) (pVar 3))) (pNeg (pC (.int 1))) (pC (.int 1)))))))

def N_greatest : List Str := ["some", "most", "one"]
theorem nd_greatest : N_greatest.Nodup := by decide +kernel
def t_greatest : PTS := (pSeq (pAsg (pBin pIx (pVar 0) (pC (.int 0))) (pgName 1)) (pSeq (pFor (pSq (pVar 0)) (pgName 2) (pIfS (pTest (pBin pGt (pCallF sp_compare PXno (pCons (pVar 2) (pCons (pVar 1) pNil))) (pC (.int 0)))) (pAsg (pVar 2) (pgName 1)) pNext)) (pRet (pVar 1))))

def N_greatest_by : List Str := ["weights", "pairs", "quotients", "weight", "pair", "value"]
theorem nd_greatest_by : N_greatest_by.Nodup := by decide +kernel
def t_greatest_by : PTS := (pSeq (pAsg (pLst pNil) (pgName 2)) (pSeq (pFor (pZp (pCons (pVar 0) (pCons (pVar 1) pNil))) (pgTup 2 (pgCons (pgName 3) (pgCons (pgName 4) pgNil))) (pDrop (pMt pmExtend (pVar 2) (pCons (pLc (pSq (pVar 4)) (pgName 5) pYes (pCallF sp_over PXno (pCons (pCallF sp_size_of PXno (pCons (pVar 5) pNil)) (pCons (pVar 3) pNil))) [5]) pNil)))) (pRet (pCallF sp_greatest PXno (pCons (pVar 2) pNil)))))

def N_stage_bound : List Str := ["weights", "t", "distances", "stage", "by", "weight"]
theorem nd_stage_bound : N_stage_bound.Nodup := by decide +kernel
def t_stage_bound : PTS := (pSeq (pAsg (pCallF sp_times PXno (pCons (pTup (pCons (pCallF sp_power PXno (pCons (pBin pIx (pVar 1) (pC (.int 0))) (pCons (pVar 3) pNil))) (pCons (pCallF sp_power PXno (pCons (pBin pIx (pVar 1) (pC (.int 1))) (pCons (pVar 3) pNil))) pNil))) (pCons (pCallF sp_greatest_by PXno (pCons (pVar 0) (pCons (pVar 2) pNil))) pNil))) (pgName 4)) (pRet (pTupG (pSq (pVar 0)) (pgName 5) pYes (pCallF sp_times PXno (pCons (pVar 4) (pCons (pVar 5) pNil))) [5])))

def N_power : List Str := ["one", "many", "half"]
theorem nd_power : N_power.Nodup := by decide +kernel
def t_power (sp_rec : PSp) : PTS := (pSeq (pIfS (pTest (pBin pEq (pVar 1) (pC (.int 0)))) (pRet (pC (.int 1))) pNext) (pSeq (pAsg (pCallF sp_rec PXno (pCons (pVar 0) (pCons (pBin pFdivI (pVar 1) (pC (.int 2))) pNil))) (pgName 2)) (pRet (pIf (pTest (pBin pEq (pBin pModI (pVar 1) (pC (.int 2))) (pC (.int 1)))) (pBin pMul (pBin pMul (pVar 2) (pVar 2)) (pVar 0)) (pBin pMul (pVar 2) (pVar 2))))))

def N_stages_for : List Str := ["weights", "t", "distances", "nearness", "bound", "stage"]
theorem nd_stages_for : N_stages_for.Nodup := by decide +kernel
def t_stages_for (px : PXK) (c_TooMany : Addr) : PTS := (pSeq (pAsg (pCallF sp_times PXno (pCons (pCallF sp_greatest PXno (pCons (pVar 0) pNil)) (pCons (pCallF sp_greatest_by PXno (pCons (pVar 0) (pCons (pVar 2) pNil))) pNil))) (pgName 4)) (pSeq (pFor (pRng2 (pCons (pC (.int 1)) (pCons (pBin pAdd (pC (.int 400)) (pC (.int 1))) pNil))) (pgName 5) (pSeq (pAsg (pCallF sp_times PXno (pCons (pVar 4) (pCons (pVar 1) pNil))) (pgName 4)) (pIfS (pTest (pBin pLe (pCallF sp_compare PXno (pCons (pVar 4) (pCons (pVar 3) pNil))) (pC (.int 0)))) (pRet (pVar 5)) pNext))) (pRaise px c_TooMany "most" (pC (.int 400)))))

def N_law_bag : List Str := ["_law_script", "_law_cell"]
theorem nd_law_bag : N_law_bag.Nodup := by decide +kernel
def t_law_bag : PTS := (pRet (pLst (pCons (pC (.int 0)) (pCons (pC (.int 1234567891)) (pCons (pC (.int 0)) (pCons (pLc (pSq (pCut (pVar 0) pNoPart (pPart (pC (.int 63))))) (pgName 1) pYes (pCall pAbs (pCons (pVar 1) pNil)) [1]) pNil))))))

def N_law_take : List Str := ["_law_bag_here", "_law_many", "_law_begin", "_law_second", "_law_cell", "_law_stirred", "_law_value"]
theorem nd_law_take : N_law_take.Nodup := by decide +kernel
def t_law_take : PTS := (pSeq (pIfS (pTest (pBin pEq (pBin pIx (pVar 0) (pC (.int 0))) (pC (.int 0)))) (pSeq (pAsg (pBin pIx (pBin pAdd (pCut (pBin pIx (pVar 0) (pC (.int 3))) (pPart (pBin pIx (pVar 0) (pC (.int 2)))) pNoPart) (pLst (pCons (pC (.int 0)) pNil))) (pC (.int 0))) (pgName 4)) (pSeq (pAugS (pVar 0) (pC (.int 2)) (pC (.int 1))) (pSeq (pIfS (pTest (pBin pGe (pVar 4) (pBin pPowI (pC (.int 10)) (pC (.int 18))))) (pAsg (pVar 4) (pgSub (pVar 0) (pC (.int 0)))) pNext) (pSeq (pAsg (pBin pAdd (pBin pAdd (pBin pMul (pBin pIx (pVar 0) (pC (.int 1))) (pC (.int 48271))) (pBin pModI (pCall pInt (pCons (pVar 4) pNil)) (pC (.int 2147483647)))) (pBin pMul (pC (.int 7919)) (pBin pIx (pVar 0) (pC (.int 2))))) (pgName 5)) (pAsg (pBin pModI (pCall pInt (pCons (pVar 5) pNil)) (pC (.int 2147483647))) (pgSub (pVar 0) (pC (.int 1)))))))) pNext) (pSeq (pIfS (pTest (pBin pGt (pBin pIx (pVar 0) (pC (.int 0))) (pC (.int 0)))) (pSeq (pAsg (pBin pModI (pCall pInt (pCons (pBin pIx (pVar 0) (pC (.int 0))) pNil)) (pVar 1)) (pgName 6)) (pSeq (pAsg (pBin pFdivI (pCall pInt (pCons (pBin pIx (pVar 0) (pC (.int 0))) pNil)) (pVar 1)) (pgSub (pVar 0) (pC (.int 0)))) (pRet (pVar 6)))) pNext) (pSeq (pAsg (pBin pModI (pCall pInt (pCons (pBin pMul (pBin pAdd (pBin pIx (pVar 0) (pC (.int 1))) (pC (.int 1))) (pC (.int 39373))) pNil)) (pC (.int 1000000007))) (pgName 2)) (pSeq (pAsg (pBin pModI (pCall pInt (pCons (pBin pMul (pBin pModI (pCall pInt (pCons (pBin pMul (pVar 2) (pVar 2)) pNil)) (pC (.int 998244353))) (pC (.int 30011))) pNil)) (pC (.int 998244353))) (pgName 3)) (pRet (pBin pModI (pCall pInt (pCons (pBin pFdivI (pVar 3) (pC (.int 7))) pNil)) (pVar 1)))))))

def N_law_some : List Str := ["_law_bag_here", "_law_things"]
theorem nd_law_some : N_law_some.Nodup := by decide +kernel
def t_law_some : PTS := (pRet (pBin pIx (pVar 1) (pCallF sp_law_take PXno (pCons (pVar 0) (pCons (pCall pLen (pCons (pVar 1) pNil)) pNil)))))

def N_law_mixed : List Str := ["_law_bag_here", "_law_things", "_law_found", "_law_thing"]
theorem nd_law_mixed : N_law_mixed.Nodup := by decide +kernel
def t_law_mixed : PTS := (pSeq (pAsg (pLst pNil) (pgName 2)) (pSeq (pFor (pSq (pVar 1)) (pgName 3) (pDrop (pMt pmInsert (pVar 2) (pCons (pCallF sp_law_take PXno (pCons (pVar 0) (pCons (pBin pAdd (pCall pLen (pCons (pVar 2) pNil)) (pC (.int 1))) pNil))) (pCons (pVar 3) pNil))))) (pRet (pVar 2))))

def N_law_alike : List Str := ["_law_found", "_law_due"]
theorem nd_law_alike : N_law_alike.Nodup := by decide +kernel
def t_law_alike : PTS := (pRet (pAndV (pBin pEq (pVar 0) (pVar 1)) (pBin pEq (pCall pRepr (pCons (pVar 0) pNil)) (pCall pRepr (pCons (pVar 1) pNil)))))

def N_law_gcd : List Str := ["_law_one", "_law_other"]
theorem nd_law_gcd : N_law_gcd.Nodup := by decide +kernel
def t_law_gcd : PTS := (pSeq (pPar 0 1 (pCons (pCall pAbs (pCons (pVar 0) pNil)) (pCons (pCall pAbs (pCons (pVar 1) pNil)) pNil))) (pSeq (pWhile (pTest (pBin pGt (pVar 1) (pC (.int 0)))) (pPar 0 1 (pCons (pVar 1) (pCons (pBin pSubI (pVar 0) (pBin pMul (pBin pFdivI (pVar 0) (pVar 1)) (pVar 1))) pNil)))) (pRet (pVar 0))))

def N_law_f : List Str := ["_law_num", "_law_den", "_law_part"]
theorem nd_law_f : N_law_f.Nodup := by decide +kernel
def t_law_f : PTS := (pSeq (pAsg (pBin pMul (pCallF sp_law_gcd PXno (pCons (pVar 0) (pCons (pVar 1) pNil))) (pIf (pTest (pBin pGt (pVar 1) (pC (.int 0)))) (pC (.int 1)) (pNeg (pC (.int 1))))) (pgName 2)) (pRet (pTup (pCons (pBin pFdivI (pVar 0) (pVar 2)) (pCons (pBin pFdivI (pVar 1) (pVar 2)) pNil)))))

def N_law_by : List Str := ["_law_one", "_law_other"]
theorem nd_law_by : N_law_by.Nodup := by decide +kernel
def t_law_by : PTS := (pRet (pCallF sp_law_f PXno (pCons (pBin pMul (pBin pIx (pVar 0) (pC (.int 0))) (pBin pIx (pVar 1) (pC (.int 0)))) (pCons (pBin pMul (pBin pIx (pVar 0) (pC (.int 1))) (pBin pIx (pVar 1) (pC (.int 1)))) pNil))))

def N_law_below : List Str := ["_law_one", "_law_other"]
theorem nd_law_below : N_law_below.Nodup := by decide +kernel
def t_law_below : PTS := (pRet (pBin pLt (pBin pMul (pBin pIx (pVar 0) (pC (.int 0))) (pBin pIx (pVar 1) (pC (.int 1)))) (pBin pMul (pBin pIx (pVar 1) (pC (.int 0))) (pBin pIx (pVar 0) (pC (.int 1))))))

def N_law_size : List Str := ["_law_one"]
theorem nd_law_size : N_law_size.Nodup := by decide +kernel
def t_law_size : PTS := (pRet (pTup (pCons (pCall pAbs (pCons (pBin pIx (pVar 0) (pC (.int 0))) pNil)) (pCons (pBin pIx (pVar 0) (pC (.int 1))) pNil))))

def N_law_some_fraction : List Str := ["_law_bag_here", "_law_menu"]
theorem nd_law_some_fraction : N_law_some_fraction.Nodup := by decide +kernel
def t_law_some_fraction : PTS := (pSeq (pAsg (pLst (pCons (pTup (pCons (pC (.int 0)) (pCons (pC (.int 1)) pNil))) (pCons (pTup (pCons (pC (.int 1)) (pCons (pC (.int 1)) pNil))) (pCons (pTup (pCons (pNeg (pC (.int 1))) (pCons (pC (.int 1)) pNil))) (pCons (pTup (pCons (pC (.int 1)) (pCons (pC (.int 2)) pNil))) (pCons (pTup (pCons (pNeg (pC (.int 3))) (pCons (pC (.int 2)) pNil))) (pCons (pTup (pCons (pC (.int 2)) (pCons (pC (.int 1)) pNil))) (pCons (pTup (pCons (pC (.int 5)) (pCons (pC (.int 3)) pNil))) (pCons (pTup (pCons (pNeg (pC (.int 7))) (pCons (pC (.int 4)) pNil))) pNil))))))))) (pgName 1)) (pRet (pCallF sp_law_some PXno (pCons (pVar 0) (pCons (pBin pAdd (pVar 1) (pLst (pCons (pTup (pCons (pBin pSubI (pCallF sp_law_take PXno (pCons (pVar 0) (pCons (pC (.int 199)) pNil))) (pC (.int 99))) (pCons (pC (.int 1)) pNil))) pNil))) pNil)))))

def N_law_over : List Str := ["_law_one", "_law_other"]
theorem nd_law_over : N_law_over.Nodup := by decide +kernel
def t_law_over : PTS := (pRet (pCallF sp_law_f PXno (pCons (pBin pMul (pBin pIx (pVar 0) (pC (.int 0))) (pBin pIx (pVar 1) (pC (.int 1)))) (pCons (pBin pMul (pBin pIx (pVar 0) (pC (.int 1))) (pBin pIx (pVar 1) (pC (.int 0)))) pNil))))

def N_law_power : List Str := ["_law_t", "_law_many", "_law_found", "_law_turn"]
theorem nd_law_power : N_law_power.Nodup := by decide +kernel
def t_law_power : PTS := (pSeq (pAsg (pTup (pCons (pC (.int 1)) (pCons (pC (.int 1)) pNil))) (pgName 2)) (pSeq (pFor (pRng1 (pCons (pVar 1) pNil)) (pgName 3) (pAsg (pCallF sp_law_by PXno (pCons (pVar 2) (pCons (pVar 0) pNil))) (pgName 2))) (pRet (pVar 2))))

def N_law_greatest : List Str := ["_law_weights", "_law_pairs", "_law_found", "_law_weight", "_law_pair", "_law_one", "_law_more"]
theorem nd_law_greatest : N_law_greatest.Nodup := by decide +kernel
def t_law_greatest : PTS := (pSeq (pAsg (pTup (pCons (pC (.int 0)) (pCons (pC (.int 1)) pNil))) (pgName 2)) (pSeq (pFor (pZp (pCons (pVar 0) (pCons (pVar 1) pNil))) (pgTup 2 (pgCons (pgName 3) (pgCons (pgName 4) pgNil))) (pFor (pSq (pVar 4)) (pgName 5) (pSeq (pAsg (pCallF sp_law_over PXno (pCons (pCallF sp_law_size PXno (pCons (pVar 5) pNil)) (pCons (pVar 3) pNil))) (pgName 6)) (pAsg (pIf (pTest (pCallF sp_law_below PXno (pCons (pVar 2) (pCons (pVar 6) pNil)))) (pVar 6) (pVar 2)) (pgName 2))))) (pRet (pVar 2))))

def N_law_bounds : List Str := ["_law_weights", "_law_t", "_law_pairs", "_law_stage", "_law_whole", "_law_weight"]
theorem nd_law_bounds : N_law_bounds.Nodup := by decide +kernel
def t_law_bounds : PTS := (pSeq (pAsg (pCallF sp_law_by PXno (pCons (pCallF sp_law_power PXno (pCons (pVar 1) (pCons (pVar 3) pNil))) (pCons (pCallF sp_law_greatest PXno (pCons (pVar 0) (pCons (pVar 2) pNil))) pNil))) (pgName 4)) (pRet (pCall pTuple (pCons (pLc (pSq (pVar 0)) (pgName 5) pYes (pCallF sp_law_by PXno (pCons (pVar 5) (pCons (pVar 4) pNil))) [5]) pNil))))

def N_law_least_stage : List Str := ["_law_weights", "_law_t", "_law_pairs", "_law_nearness", "_law_bounds_here", "_law_stage", "_law_one"]
theorem nd_law_least_stage : N_law_least_stage.Nodup := by decide +kernel
def t_law_least_stage : PTS := (pSeq (pAsg (pCallF sp_law_bounds PXno (pCons (pVar 0) (pCons (pVar 1) (pCons (pVar 2) (pCons (pC (.int 0)) pNil))))) (pgName 4)) (pSeq (pFor (pRng2 (pCons (pC (.int 1)) (pCons (pC (.int 401)) pNil))) (pgName 5) (pSeq (pAsg (pCall pTuple (pCons (pLc (pSq (pVar 4)) (pgName 6) pYes (pCallF sp_law_by PXno (pCons (pVar 6) (pCons (pVar 1) pNil))) [6]) pNil)) (pgName 4)) (pSeq (pIfS (pTest (pBin pEq (pLc (pSq (pVar 4)) (pgName 6) (pTest (pCallF sp_law_below PXno (pCons (pVar 3) (pCons (pVar 6) pNil)))) (pVar 6) [6]) (pLst pNil))) (pRet (pVar 5)) pNext) (pIfS (pAndT (pTest (pBin pGt (pVar 5) (pC (.int 60)))) (pTest (pBin pGe (pBin pIx (pVar 1) (pC (.int 0))) (pBin pIx (pVar 1) (pC (.int 1)))))) (pRet (pC .non)) pNext)))) (pRet (pC .non))))

def N_law_are_many_right : List Str := ["_law_told", "_law_weights", "_law_t", "_law_pairs"]
theorem nd_law_are_many_right : N_law_are_many_right.Nodup := by decide +kernel
def t_law_are_many_right (c_TooMany : Addr) (K : PySem.W.Frag) (l_law_heard : List HC) : PTS := (pSeq (pAsg (pTup (pCons (pTup (pCons (pTup (pCons (pC (.int 1)) (pCons (pC (.int 1)) pNil))) pNil)) (pCons (pTup (pCons (pC (.int 99)) (pCons (pC (.int 100)) pNil))) (pCons (pTup (pCons (pTup (pCons (pTup (pCons (pC (.int 1)) (pCons (pC (.int 1)) pNil))) (pCons (pTup (pCons (pC (.int 0)) (pCons (pC (.int 1)) pNil))) pNil))) pNil)) pNil)))) (pgTup 3 (pgCons (pgName 1) (pgCons (pgName 2) (pgCons (pgName 3) pgNil))))) (pSeq (pAsg (pLst (pCons (pHeard K "told" l_law_heard fun pxL => (pCallF (sp_stages_for c_TooMany) pxL (pCons (pVar 1) (pCons (pVar 2) (pCons (pVar 3) (pCons (pTup (pCons (pC (.int 9)) (pCons (pC (.int 500)) pNil))) pNil)))))) pNil)) (pgName 0)) (pSeq (pDrop (pMt pmAppend (pVar 0) (pCons (pHeard K "told" l_law_heard fun pxL => (pCallF (sp_stages_for c_TooMany) pxL (pCons (pVar 1) (pCons (pVar 2) (pCons (pVar 3) (pCons (pTup (pCons (pC (.int 179)) (pCons (pC (.int 10000)) pNil))) pNil)))))) pNil))) (pRet (pCallF sp_law_alike PXno (pCons (pVar 0) (pCons (pLst (pCons (pTup (pCons (pC (.str "told")) (pCons (pC (.int 400)) pNil))) (pCons (pTup (pCons (pC (.str "many")) (pCons (pC (.int 400)) pNil))) pNil))) pNil)))))))

def N_law : List Str := ["_law_script", "_law_bag_here", "_law_turn", "_law_many", "_law_weights", "_law_t", "_law_pairs", "_law_stage", "_law_signed", "_law_some_here", "_law_nearness", "_law_due", "_law_k"]
theorem nd_law : N_law.Nodup := by decide +kernel
def t_law (c_TooMany : Addr) (K : PySem.W.Frag) (l_law_heard : List HC) : PTS := (pSeq (pAsg (pCallF sp_law_bag PXno (pCons (pVar 0) pNil)) (pgName 1)) (pSeq (pIfS (pAndT (pTest (pBin pEq (pCallF sp_law_take PXno (pCons (pVar 1) (pCons (pC (.int 4)) pNil))) (pC (.int 0)))) (pNotT (pTest (pCallF sp_law_are_many_right PXno pNil)))) (pRet (pC (.bl false))) pNext) (pSeq (pFor (pRng1 (pCons (pC (.int 8)) pNil)) (pgName 2) (pSeq (pAsg (pBin pAdd (pC (.int 1)) (pCallF sp_law_take PXno (pCons (pVar 1) (pCons (pC (.int 5)) pNil)))) (pgName 3)) (pSeq (pAsg (pCall pTuple (pCons (pLc (pRng1 (pCons (pVar 3) pNil)) (pgName 12) pYes (pCallF sp_law_f PXno (pCons (pBin pAdd (pC (.int 1)) (pCallF sp_law_take PXno (pCons (pVar 1) (pCons (pC (.int 9)) pNil)))) (pCons (pBin pAdd (pC (.int 1)) (pCallF sp_law_take PXno (pCons (pVar 1) (pCons (pC (.int 5)) pNil)))) pNil))) [12]) pNil)) (pgName 4)) (pSeq (pAsg (pCallF sp_law_some PXno (pCons (pVar 1) (pCons (pLst (pCons (pTup (pCons (pC (.int 1)) (pCons (pC (.int 2)) pNil))) (pCons (pTup (pCons (pC (.int 2)) (pCons (pC (.int 3)) pNil))) (pCons (pTup (pCons (pC (.int 9)) (pCons (pC (.int 10)) pNil))) (pCons (pTup (pCons (pC (.int 1)) (pCons (pC (.int 1)) pNil))) (pCons (pTup (pCons (pC (.int 1)) (pCons (pC (.int 3)) pNil))) (pCons (pTup (pCons (pC (.int 4)) (pCons (pC (.int 3)) pNil))) (pCons (pTup (pCons (pC (.int 1)) (pCons (pC (.int 100)) pNil))) pNil)))))))) pNil))) (pgName 5)) (pSeq (pAsg (pCall pTuple (pCons (pLc (pRng1 (pCons (pVar 3) pNil)) (pgName 12) pYes (pTup (pCons (pCallF sp_law_size PXno (pCons (pCallF sp_law_some_fraction PXno (pCons (pVar 1) pNil)) pNil)) (pCons (pCallF sp_law_size PXno (pCons (pCallF sp_law_some_fraction PXno (pCons (pVar 1) pNil)) pNil)) pNil))) [12]) pNil)) (pgName 6)) (pSeq (pIfS (pTest (pBin pEq (pCallF sp_law_take PXno (pCons (pVar 1) (pCons (pC (.int 6)) pNil))) (pC (.int 0)))) (pAsg (pBin pMul (pTup (pCons (pTup (pCons (pTup (pCons (pC (.int 0)) (pCons (pC (.int 1)) pNil))) (pCons (pTup (pCons (pC (.int 0)) (pCons (pC (.int 1)) pNil))) pNil))) pNil)) (pVar 3)) (pgName 6)) pNext) (pSeq (pFor (pSq (pCut (pCallF sp_law_mixed PXno (pCons (pVar 1) (pCons (pLstRg1 (pC (.int 13))) pNil))) pNoPart (pPart (pC (.int 5))))) (pgName 7) (pIfS (pNotT (pTest (pCallF sp_law_alike PXno (pCons (pCallF sp_stage_bound PXno (pCons (pVar 4) (pCons (pVar 5) (pCons (pVar 6) (pCons (pVar 7) pNil))))) (pCons (pCallF sp_law_bounds PXno (pCons (pVar 4) (pCons (pVar 5) (pCons (pVar 6) (pCons (pVar 7) pNil))))) pNil))))) (pRet (pC (.bl false))) pNext)) (pSeq (pAsg (pCall pTuple (pCons (pLc (pRng1 (pCons (pVar 3) pNil)) (pgName 12) pYes (pTup (pCons (pCallF sp_law_some_fraction PXno (pCons (pVar 1) pNil)) (pCons (pCallF sp_law_some_fraction PXno (pCons (pVar 1) pNil)) pNil))) [12]) pNil)) (pgName 8)) (pSeq (pFor (pSq (pTup (pCons (pVar 6) (pCons (pVar 8) pNil)))) (pgName 9) (pIfS (pNotT (pTest (pCallF sp_law_alike PXno (pCons (pCallF sp_greatest_by PXno (pCons (pVar 4) (pCons (pVar 9) pNil))) (pCons (pCallF sp_law_greatest PXno (pCons (pVar 4) (pCons (pVar 9) pNil))) pNil))))) (pRet (pC (.bl false))) pNext)) (pSeq (pAsg (pCallF sp_law_some PXno (pCons (pVar 1) (pCons (pLst (pCons (pTup (pCons (pC (.int 1)) (pCons (pC (.int 10)) pNil))) (pCons (pTup (pCons (pC (.int 1)) (pCons (pC (.int 1000)) pNil))) (pCons (pTup (pCons (pC (.int 3)) (pCons (pC (.int 1)) pNil))) (pCons (pTup (pCons (pC (.int 1)) (pCons (pC (.int 2)) pNil))) (pCons (pTup (pCons (pC (.int 0)) (pCons (pC (.int 1)) pNil))) (pCons (pTup (pCons (pC (.int 100)) (pCons (pC (.int 1)) pNil))) pNil))))))) pNil))) (pgName 10)) (pSeq (pAsg (pCallF sp_law_least_stage PXno (pCons (pVar 4) (pCons (pVar 5) (pCons (pVar 6) (pCons (pVar 10) pNil))))) (pgName 11)) (pSeq (pAsg (pIf (pTest (pBin pIsN (pVar 11) (pC .non))) (pTup (pCons (pC (.str "many")) (pCons (pC (.int 400)) pNil))) (pTup (pCons (pC (.str "told")) (pCons (pVar 11) pNil)))) (pgName 11)) (pIfS (pNotT (pTest (pCallF sp_law_alike PXno (pCons (pHeard K "told" l_law_heard fun pxL => (pCallF (sp_stages_for c_TooMany) pxL (pCons (pVar 4) (pCons (pVar 5) (pCons (pVar 6) (pCons (pVar 10) pNil)))))) (pCons (pVar 11) pNil))))) (pRet (pC (.bl false))) pNext))))))))))))) (pRet (pC (.bl true))))))
end K36

set_option Elab.async false
set_option linter.all false
set_option maxRecDepth 100000
set_option maxHeartbeats 1000000
/-! What is compared, as data. -/
namespace K36
open PySem PySem.Spec PyProof.Rows L2 Za K4
def pyFr (q : Rat) : PyData := .tuple [.int q.num, .int (q.den : Int)]
theorem py_fr {S : Sto} {q : Rat} : Py S (frD q) (pyFr q) := .tup (.cons (.int _) (.cons (.int _) .nil))
theorem py_frs {S : Sto} : ∀ {qs : List Rat}, PyAll S (qs.map frD) (qs.map pyFr)
  | [] => .nil
  | _ :: _ => .cons py_fr py_frs
theorem lay_frs : ∀ qs : List Rat, PyData.canLayAll0 (qs.map pyFr) = true
  | [] => rfl
  | q :: qs => by
    rw [List.map_cons]
    show (PyData.canLay0 (pyFr q) && PyData.canLayAll0 (qs.map pyFr)) = true
    rw [lay_frs qs]
    rfl
theorem dep_fr (q : Rat) : (pyFr q).depth ≤ 3 := by
  unfold pyFr
  simp [PyData.depth, PyData.depthAll]
theorem dep_frs : ∀ qs : List Rat, PyData.depthAll (qs.map pyFr) ≤ 3
  | [] => by simp [PyData.depthAll]
  | q :: qs => by
    have h1 := dep_fr q
    have h2 := dep_frs qs
    simp only [List.map_cons, PyData.depthAll]
    omega
theorem shaped_list (qs : List Rat) : SeqAt.shaped (.list (qs.map pyFr)) = true := by
  have h := dep_frs qs
  show (PyData.canLayAll0 (qs.map pyFr) && decide (PyData.depthAll (qs.map pyFr) + 1 ≤ 64)) = true
  rw [lay_frs qs, Bool.true_and, decide_eq_true_eq]
  omega
theorem eqv_nil (qs : List Rat) : PyData.eqv (.list (qs.map pyFr)) (.list []) = decide (qs = []) := by
  cases qs with
  | nil => simp [PyData.eqv, PyData.eqvAll]
  | cons q qs => simp [PyData.eqv, PyData.eqvAll]
theorem tupText_le (ts : List Str) : (tupleText ts).length ≤ (ts.map (·.length)).sum + 2 * ts.length + 3 := by
  unfold tupleText
  rw [PySem.Str.length_append, PySem.Str.length_append]
  have h := StrLaws.join_length_le ", " ts
  have h1 : ("(" : Str).length = 1 := by decide
  have h2 : (", " : Str).length = 2 := by decide
  have h3 : ((if (ts.length == 1) = true then ",)" else ")" : String) : Str).length ≤ 2 := by split <;> decide
  rw [h2] at h
  rw [h1]
  omega
theorem Sm.log {q : Rat} (h : Sm 1900 q) : q.num.natAbs.log2 < 1920 ∧ q.den.log2 < 1920 := by
  have key : ∀ m : Nat, m < 2 ^ 1900 → m.log2 < 1920 := fun m hm => by
    by_cases z : m = 0
    · rw [z, Nat.log2_zero]; decide
    · have := (Nat.log2_lt z).mpr hm; omega
  exact ⟨key _ h.1, key _ h.2⟩
theorem shown_fr {q : Rat} (h : Sm 1900 q) : (pyFr q).shown.length ≤ 4000 := by
  obtain ⟨h1, h2⟩ := h.log
  have e : (pyFr q).shown = tupleText [Str.ofString (toString q.num), Str.ofString (toString (q.den : Int))] := rfl
  have g := tupText_le [Str.ofString (toString q.num), Str.ofString (toString (q.den : Int))]
  have g1 := PyProof.Rows.int_text_len_1921 h1
  have g2 := PyProof.Rows.int_text_len_1921 (i := (q.den : Int)) (by rw [Int.natAbs_natCast]; exact h2)
  rw [e]
  simp only [List.map_cons, List.map_nil, List.sum_cons, List.sum_nil, List.length_cons, List.length_nil] at g
  omega
theorem shown_frs : ∀ qs : List Rat, (∀ q ∈ qs, Sm 1900 q) → ((PyData.shownAll (qs.map pyFr)).map (·.length)).sum ≤ 4000 * qs.length ∧ (PyData.shownAll (qs.map pyFr)).length = qs.length
  | [], _ => by simp [PyData.shownAll]
  | q :: qs, h => by
    have h1 := shown_fr (h q List.mem_cons_self)
    obtain ⟨h2, h3⟩ := shown_frs qs fun q hq => h q (List.mem_cons_of_mem _ hq)
    simp only [List.map_cons, PyData.shownAll, List.sum_cons, List.length_cons]
    omega
theorem show_fr {q : Rat} (h : Sm 1900 q) : (pyFr q).showable = true := by
  obtain ⟨h1, h2⟩ := h.log
  show (decide (q.num.natAbs.log2 < 1920) && (decide ((q.den : Int).natAbs.log2 < 1920) && true)) = true
  rw [Int.natAbs_natCast, decide_eq_true h1, decide_eq_true h2]
  rfl
theorem show_frs : ∀ qs : List Rat, (∀ q ∈ qs, Sm 1900 q) → PyData.showableAll (qs.map pyFr) = true
  | [], _ => rfl
  | q :: qs, h => by
    show ((pyFr q).showable && PyData.showableAll (qs.map pyFr)) = true
    rw [show_fr (h q List.mem_cons_self), show_frs qs fun q hq => h q (List.mem_cons_of_mem _ hq)]
    rfl
theorem nodict_frs : ∀ qs : List Rat, PyData.hasDictAll (qs.map pyFr) = false
  | [] => rfl
  | q :: qs => by
    show ((pyFr q).hasDict || PyData.hasDictAll (qs.map pyFr)) = false
    rw [nodict_frs qs]
    rfl
theorem so_app {a b : Str} (h1 : PyData.strOk a = true) (h2 : PyData.strOk b = true) : PyData.strOk (a ++ b) = true := by
  unfold PyData.strOk at *
  rw [PySem.Str.cps_append, Array.all_append, h1, h2]
  rfl
theorem so_of (s : String) : PyData.strOk (Str.ofString s) = true := by
  unfold PyData.strOk Str.ofString
  rw [cpsOfBytes_string]
  simp only [List.all_toArray, List.all_map, List.all_eq_true, Function.comp_apply, decide_eq_true_eq]
  intro c _
  have h := c.valid
  simp only [UInt32.isValidChar, Nat.isValidChar] at h
  show c.val.toNat < 1114112
  omega
theorem so_join {sep : Str} (h : PyData.strOk sep = true) : ∀ ts : List Str, (∀ t ∈ ts, PyData.strOk t = true) → PyData.strOk (Str.join sep ts) = true
  | [], _ => by simp [Str.join, PyData.strOk, Str.empty]
  | [x], h1 => h1 x List.mem_cons_self
  | x :: y :: r, h1 => so_app (so_app (h1 x List.mem_cons_self) h) (so_join h (y :: r) fun t ht => h1 t (List.mem_cons_of_mem _ ht))
theorem so_tup {ts : List Str} (h : ∀ t ∈ ts, PyData.strOk t = true) : PyData.strOk (tupleText ts) = true := by
  unfold tupleText
  refine so_app (so_app (so_of _) (so_join (so_of _) ts h)) ?_
  exact so_of _
theorem so_fr (q : Rat) : PyData.strOk (pyFr q).shown = true := by
  have e : (pyFr q).shown = tupleText [Str.ofString (toString q.num), Str.ofString (toString (q.den : Int))] := rfl
  rw [e]
  refine so_tup fun t ht => ?_
  rcases List.mem_cons.mp ht with e | ht
  · rw [e]; exact so_of _
  · rw [List.mem_singleton.mp ht]; exact so_of _
theorem so_frs : ∀ qs : List Rat, ∀ t ∈ PyData.shownAll (qs.map pyFr), PyData.strOk t = true
  | [], t, h => by simp [PyData.shownAll] at h
  | q :: qs, t, h => by
    simp only [List.map_cons, PyData.shownAll] at h
    rcases List.mem_cons.mp h with e | h
    · rw [e]; exact so_fr q
    · exact so_frs qs t h
theorem plain_of {p : PyData} (h1 : p.showable = true) (h2 : p.hasDict = false) (h3 : p.shown.length ≤ sizeLine) (h4 : p.depth + 1 ≤ 60) (h5 : p.canLay0 = true) (h6 : PyData.strOk p.shown = true) : Plain p :=
  ⟨h1, h2, h3, h4, by show (p.canLay0 && decide (p.depth ≤ 64)) = true; rw [h5, Bool.true_and, decide_eq_true_eq]; omega, PySem.SeqAt.eqv_refl p h5, h6⟩
theorem plain_fr {q : Rat} (h : Sm 1900 q) : Plain (pyFr q) :=
  plain_of (show_fr h) rfl (by have := shown_fr h; show _ ≤ 2 ^ 24; omega) (by have := dep_fr q; omega) rfl (so_fr q)
theorem plain_tup {qs : List Rat} (h : ∀ q ∈ qs, Sm 1900 q) (hz : qs.length ≤ 1000) : Plain (.tuple (qs.map pyFr)) := by
  obtain ⟨h1, h2⟩ := shown_frs qs h
  refine plain_of (show_frs qs h) (nodict_frs qs) ?_ ?_ (lay_frs qs) (so_tup (so_frs qs))
  · have g := tupText_le (PyData.shownAll (qs.map pyFr))
    show (tupleText (PyData.shownAll (qs.map pyFr))).length ≤ 2 ^ 24
    omega
  · have := dep_frs qs
    show PyData.depthAll (qs.map pyFr) + 1 + 1 ≤ 60
    omega
def plainB (p : PyData) : Bool := p.showable && (!p.hasDict && (decide (p.shown.length ≤ 1000) && (decide (p.depth + 1 ≤ 60) && (p.canLay0 && PyData.strOk p.shown))))
theorem plainB_ok {p : PyData} (h : plainB p = true) : Plain p := by
  unfold plainB at h
  simp only [Bool.and_eq_true, Bool.not_eq_true', decide_eq_true_eq] at h
  obtain ⟨h1, h2, h3, h4, h5, h6⟩ := h
  exact plain_of h1 h2 (by show _ ≤ 2 ^ 24; omega) h4 h5 h6
theorem plain_told : ∀ i, i < 400 → Plain (.tuple [.str "told", .int ((i + 1 : Nat) : Int)]) := by
  have : ∀ i, i < 400 → plainB (.tuple [.str "told", .int ((i + 1 : Nat) : Int)]) = true := by decide +kernel
  exact fun i h => plainB_ok (this i h)
theorem plain_many : Plain (.tuple [.str "many", .int 400]) := plainB_ok (by decide +kernel)
theorem plain_both : Plain (.list [.tuple [.str "told", .int 400], .tuple [.str "many", .int 400]]) := plainB_ok (by decide +kernel)
theorem fst_lt {M t nr : Rat} {i : Nat} (h : fst M t nr = some i) : i < 400 := List.mem_range.mp (List.mem_of_find?_eq_some h)
end K36

set_option Elab.async false
set_option linter.all false
set_option maxRecDepth 100000
set_option maxHeartbeats 1000000
namespace K36
open PySem PySem.Spec PyProof.Rows L2 Za K4
theorem sem_law_gcd (ds : List D) (S : Sto) (R : Post) (PX : PXK) (h : sp_law_gcd ds S R PX) (hc : Closed S.length S) (hb : bels S.length ds) : t_law_gcd (endF S.length R) (startD N_law_gcd ds) S := by
  obtain ⟨a, b, rfl, h1, h2, h⟩ := h
  unfold t_law_gcd N_law_gcd
  simp only [pSeq, pAsg, pBin, pVar, pC, pgName, pgTup, pgCons, pgNil, pCall, pCons, pNil, pTest, pI2_int, pMul_int, seqOf_tup, atI_0, atI_1, pIx, pRet, pTup, pIf, pNeg, pPar, pPar3, pI1, pI2c, pCallF, pAdd_int, pDrop, pIfS, pNext, startD, List.map_cons, List.map_nil, List.length_cons, List.length_nil, List.cons_append, List.nil_append, List.replicate, List.set_cons_zero, List.set_cons_succ, List.getElem?_cons_zero, List.getElem?_cons_succ, Option.some.injEq, exists_eq_left', exists_eq_left, D.int.injEq, D.bl.injEq, D.tup.injEq, List.cons.injEq, and_true, true_and, exists_eq_right, and_assoc, exists_and_left, Nat.reduceAdd, Nat.reduceSub, List.replicate_zero, List.replicate_succ]
  have e1 : ∀ a : Int, (if a < 0 then -a else a) = (a.natAbs : Int) := fun a => by split <;> omega
  rw [e1, e1]
  refine ⟨fun m ρ' S' => ∃ x y : Nat, ρ' = [some (.int x), some (.int y)] ∧ S' = S ∧ Nat.gcd x y = Int.gcd a b ∧ x.log2 < 20000 ∧ y.log2 < 8999 ∧ m = y, ⟨b.natAbs, a.natAbs, b.natAbs, rfl, rfl, rfl, h1, h2, rfl⟩, ?_⟩
  rintro m ρ' S' ⟨x, y, rfl, rfl, hg, hx, hy, hm⟩
  simp only [pSeq, pAsg, pBin, pVar, pC, pgName, pgTup, pgCons, pgNil, pCall, pCons, pNil, pTest, pI2_int, pMul_int, seqOf_tup, atI_0, atI_1, pIx, pRet, pTup, pIf, pNeg, pPar, pPar3, pI1, pI2c, pCallF, pAdd_int, pDrop, pIfS, pNext, startD, List.map_cons, List.map_nil, List.length_cons, List.length_nil, List.cons_append, List.nil_append, List.replicate, List.set_cons_zero, List.set_cons_succ, List.getElem?_cons_zero, List.getElem?_cons_succ, Option.some.injEq, exists_eq_left', exists_eq_left, D.int.injEq, D.bl.injEq, D.tup.injEq, List.cons.injEq, and_true, true_and, exists_eq_right, and_assoc, exists_and_left, Nat.reduceAdd, Nat.reduceSub, List.replicate_zero, List.replicate_succ]
  split
  · rename_i hk
    have hy0 : 0 < y := by have := of_decide_eq_true hk; omega
    have hl : (x / y).log2 ≤ x.log2 := log_mono (Nat.div_le_self _ _)
    have em : (x : Int) - Int.fdiv (x : Int) (y : Int) * (y : Int) = ((x % y : Nat) : Int) := by
      rw [fdiv_nat]
      have := Nat.div_add_mod x y
      have e2 : (x : Int) = (y : Int) * ((x / y : Nat) : Int) + ((x % y : Nat) : Int) := by exact_mod_cast this.symm
      rw [Int.mul_comm]
      omega
    refine ⟨fun ρ2 S2 => ρ2 = [some (.int y), some (.int ((x % y : Nat) : Int))] ∧ S2 = S', fun ρ2 S2 ⟨e2, e3⟩ => ⟨x % y, by rw [hm]; exact Nat.mod_lt _ hy0, y, x % y, e2, e3, ?_, ?_, ?_, rfl⟩, ?_⟩
    · rw [← hg, Nat.gcd_comm x y, Nat.gcd_rec y x, Nat.gcd_comm]
    · omega
    · exact Nat.lt_of_le_of_lt (log_mono (Nat.le_of_lt (Nat.mod_lt _ hy0))) hy
    · simp only [pSeq, pAsg, pBin, pVar, pC, pgName, pgTup, pgCons, pgNil, pCall, pCons, pNil, pTest, pI2_int, pMul_int, seqOf_tup, atI_0, atI_1, pIx, pRet, pTup, pIf, pNeg, pPar, pPar3, pI1, pI2c, pCallF, pAdd_int, pDrop, pIfS, pNext, startD, List.map_cons, List.map_nil, List.length_cons, List.length_nil, List.cons_append, List.nil_append, List.replicate, List.set_cons_zero, List.set_cons_succ, List.getElem?_cons_zero, List.getElem?_cons_succ, Option.some.injEq, exists_eq_left', exists_eq_left, D.int.injEq, D.bl.injEq, D.tup.injEq, List.cons.injEq, and_true, true_and, exists_eq_right, and_assoc, exists_and_left, Nat.reduceAdd, Nat.reduceSub, List.replicate_zero, List.replicate_succ]
      refine ⟨⟨by omega, by show (y : Int).natAbs.log2 < 9000; rw [Int.natAbs_natCast]; omega⟩, ?_, ?_⟩
      · rw [fdiv_nat]
        show Nat.log2 _ + Nat.log2 _ < 1000000
        rw [Int.natAbs_natCast, Int.natAbs_natCast]
        omega
      · exact em
  · rename_i hk
    have hy0 : y = 0 := by
      have : ¬ (0 : Int) < (y : Int) := fun z => hk (decide_eq_true z)
      omega
    subst hy0
    rw [Nat.gcd_zero_right] at hg
    exact fall_of (Nat.le_refl _) hc bel_int (by rw [hg]; exact h)

theorem sem_times (ds : List D) (S : Sto) (R : Post) (PX : PXK) (h : sp_times ds S R PX) (hc : Closed S.length S) (hb : bels S.length ds) : t_times (endF S.length R) (startD N_times ds) S := by
  obtain ⟨a, b, rfl, ⟨h1, h2⟩, ⟨h3, h4⟩, h⟩ := h
  unfold t_times N_times frD
  simp only [pSeq, pAsg, pBin, pVar, pC, pgName, pgTup, pgCons, pgNil, pCall, pCons, pNil, pTest, pI2_int, pMul_int, seqOf_tup, atI_0, atI_1, pIx, pRet, pTup, pIf, pNeg, pPar, pPar3, pI1, pI2c, pCallF, pAdd_int, pDrop, pIfS, pNext, startD, List.map_cons, List.map_nil, List.length_cons, List.length_nil, List.cons_append, List.nil_append, List.replicate, List.set_cons_zero, List.set_cons_succ, List.getElem?_cons_zero, List.getElem?_cons_succ, Option.some.injEq, exists_eq_left', exists_eq_left, D.int.injEq, D.bl.injEq, D.tup.injEq, List.cons.injEq, and_true, true_and, exists_eq_right, and_assoc, exists_and_left, Nat.reduceAdd, Nat.reduceSub, List.replicate_zero, List.replicate_succ]
  simp only [Int.natAbs_natCast, fdiv_nat]
  simp only [fdiv_ediv]
  have pa := Nat.pos_of_ne_zero a.den_nz
  have pb := Nat.pos_of_ne_zero b.den_nz
  obtain ⟨e1, e2⟩ := mul_num_den a b
  refine ⟨cdiv_r pb (by omega), cdiv_r pa (by omega), cmul_of (m := 4400) (n := 4400) (Nat.le_trans log_idiv (by omega)) (Nat.le_trans log_idiv (by omega)) (by omega), cdiv_r pa (by omega), cdiv_r pb (by omega), cmul_of (m := 4400) (n := 4400) ?_ ?_ (by omega), (by decide), ?_⟩
  · rw [Int.natAbs_natCast]; exact Nat.le_trans log_div (by omega)
  · rw [Int.natAbs_natCast]; exact Nat.le_trans log_div (by omega)
  · have e3 : frD (a * b) = D.tup [D.int (a.num / ↑(a.num.natAbs.gcd b.den) * (b.num / ↑(b.num.natAbs.gcd a.den))), D.int (↑(a.den / b.num.natAbs.gcd a.den) * ↑(b.den / a.num.natAbs.gcd b.den))] := by
      unfold frD
      rw [e1, e2, Int.natCast_mul, Int.mul_comm ((b.den / a.num.natAbs.gcd b.den : Nat) : Int)]
    rw [← e3]
    exact fall_of (Nat.le_refl _) hc bel_fr h
theorem mk_num_den (n : Int) {d : Nat} (hd : d ≠ 0) : (mkRat n d).num = n / ((n.natAbs.gcd d : Nat) : Int) ∧ (mkRat n d).den = d / n.natAbs.gcd d := by
  rw [← Rat.normalize_eq_mkRat hd, Rat.normalize_eq hd]
  exact ⟨rfl, rfl⟩
theorem sem_law_f (ds : List D) (S : Sto) (R : Post) (PX : PXK) (h : sp_law_f ds S R PX) (hc : Closed S.length S) (hb : bels S.length ds) : t_law_f (endF S.length R) (startD N_law_f ds) S := by
  obtain ⟨n, d, rfl, hd, h1, h2, h⟩ := h
  unfold t_law_f N_law_f
  simp only [pSeq, pAsg, pBin, pVar, pC, pgName, pgTup, pgCons, pgNil, pCall, pCons, pNil, pTest, pI2_int, pMul_int, seqOf_tup, atI_0, atI_1, pIx, pRet, pTup, pIf, pNeg, pPar, pPar3, pI1, pI2c, pCallF, pAdd_int, pDrop, pIfS, pNext, startD, List.map_cons, List.map_nil, List.length_cons, List.length_nil, List.cons_append, List.nil_append, List.replicate, List.set_cons_zero, List.set_cons_succ, List.getElem?_cons_zero, List.getElem?_cons_succ, Option.some.injEq, exists_eq_left', exists_eq_left, D.int.injEq, D.bl.injEq, D.tup.injEq, List.cons.injEq, and_true, true_and, exists_eq_right, and_assoc, exists_and_left, Nat.reduceAdd, Nat.reduceSub, List.replicate_zero, List.replicate_succ]
  have hp : 0 < d := Nat.pos_of_ne_zero hd
  have hk : decide ((0 : Int) < (d : Int)) = true := decide_eq_true (by omega)
  have eg : Int.gcd n (d : Int) = n.natAbs.gcd d := by show n.natAbs.gcd (d : Int).natAbs = _; rw [Int.natAbs_natCast]
  have lg : (n.natAbs.gcd d).log2 ≤ d.log2 := by rw [Nat.gcd_comm]; exact gcd_log hp
  obtain ⟨e1, e2⟩ := mk_num_den n hd
  refine ⟨n, d, rfl, h1, by rw [Int.natAbs_natCast]; exact h2, ?_⟩
  simp only []
  rw [if_pos hk]
  simp only [pSeq, pAsg, pBin, pVar, pC, pgName, pgTup, pgCons, pgNil, pCall, pCons, pNil, pTest, pI2_int, pMul_int, seqOf_tup, atI_0, atI_1, pIx, pRet, pTup, pIf, pNeg, pPar, pPar3, pI1, pI2c, pCallF, pAdd_int, pDrop, pIfS, pNext, startD, List.map_cons, List.map_nil, List.length_cons, List.length_nil, List.cons_append, List.nil_append, List.replicate, List.set_cons_zero, List.set_cons_succ, List.getElem?_cons_zero, List.getElem?_cons_succ, Option.some.injEq, exists_eq_left', exists_eq_left, D.int.injEq, D.bl.injEq, D.tup.injEq, List.cons.injEq, and_true, true_and, exists_eq_right, and_assoc, exists_and_left, Nat.reduceAdd, Nat.reduceSub, List.replicate_zero, List.replicate_succ]
  rw [eg, Int.mul_one, fdiv_nat, fdiv_ediv]
  refine ⟨cmul_of (m := 9000) (n := 0) (by rw [Int.natAbs_natCast]; omega) (by decide) (by omega), cdiv_r hp (by omega), cdiv_r hp (by omega), (by decide), ?_⟩
  have e3 : frD (mkRat n d) = D.tup [D.int (n / ((n.natAbs.gcd d : Nat) : Int)), D.int ((d / n.natAbs.gcd d : Nat) : Int)] := by
    unfold frD
    rw [e1, e2]
  rw [← e3]
  exact fall_of (Nat.le_refl _) hc bel_fr h
theorem sem_law_by (ds : List D) (S : Sto) (R : Post) (PX : PXK) (h : sp_law_by ds S R PX) (hc : Closed S.length S) (hb : bels S.length ds) : t_law_by (endF S.length R) (startD N_law_by ds) S := by
  obtain ⟨a, b, rfl, ⟨h1, h2⟩, ⟨h3, h4⟩, h⟩ := h
  unfold t_law_by N_law_by frD
  simp only [pSeq, pAsg, pBin, pVar, pC, pgName, pgTup, pgCons, pgNil, pCall, pCons, pNil, pTest, pI2_int, pMul_int, seqOf_tup, atI_0, atI_1, pIx, pRet, pTup, pIf, pNeg, pPar, pPar3, pI1, pI2c, pCallF, pAdd_int, pDrop, pIfS, pNext, startD, List.map_cons, List.map_nil, List.length_cons, List.length_nil, List.cons_append, List.nil_append, List.replicate, List.set_cons_zero, List.set_cons_succ, List.getElem?_cons_zero, List.getElem?_cons_succ, Option.some.injEq, exists_eq_left', exists_eq_left, D.int.injEq, D.bl.injEq, D.tup.injEq, List.cons.injEq, and_true, true_and, exists_eq_right, and_assoc, exists_and_left, Nat.reduceAdd, Nat.reduceSub, List.replicate_zero, List.replicate_succ]
  refine ⟨cmul_of (m := 4400) (n := 4400) (by omega) (by omega) (by omega), cmul_of (m := 4400) (n := 4400) (by rw [Int.natAbs_natCast]; omega) (by rw [Int.natAbs_natCast]; omega) (by omega), a.num * b.num, a.den * b.den, by rw [Int.natCast_mul], Nat.mul_ne_zero a.den_nz b.den_nz, ?_, ?_, ?_⟩
  · rw [Int.natAbs_mul]; have := log_mul (a := a.num.natAbs) (b := b.num.natAbs); omega
  · have := log_mul (a := a.den) (b := b.den); omega
  · have e3 : mkRat (a.num * b.num) (a.den * b.den) = a * b := by rw [Rat.mul_def, Rat.normalize_eq_mkRat]
    rw [e3]
    exact fall_of (Nat.le_refl _) hc bel_fr h
/-- behind the bag's first half -/
theorem take_tail (l l2 c m : Nat) (hm : 0 < m) (hml : m.log2 < 9000) (S S1 : Sto) (R : Post) (n : Nat) (k4 k5 : Option D) (g : Grow l S S1) (hb : Bag S1 l l2 (c + 1)) (h : ∀ (r : Nat) S', r < m → Grow l S S' → Bag S' l l2 (c + 1) → R (.int r) S') :
    pSeq (pIfS (pTest (pBin pGt (pBin pIx (pVar 0) (pC (.int 0))) (pC (.int 0)))) (pSeq (pAsg (pBin pModI (pCall pInt (pCons (pBin pIx (pVar 0) (pC (.int 0))) pNil)) (pVar 1)) (pgName 6)) (pSeq (pAsg (pBin pFdivI (pCall pInt (pCons (pBin pIx (pVar 0) (pC (.int 0))) pNil)) (pVar 1)) (pgSub (pVar 0) (pC (.int 0)))) (pRet (pVar 6)))) pNext) (pSeq (pAsg (pBin pModI (pCall pInt (pCons (pBin pMul (pBin pAdd (pBin pIx (pVar 0) (pC (.int 1))) (pC (.int 1))) (pC (.int 39373))) pNil)) (pC (.int 1000000007))) (pgName 2)) (pSeq (pAsg (pBin pModI (pCall pInt (pCons (pBin pMul (pBin pModI (pCall pInt (pCons (pBin pMul (pVar 2) (pVar 2)) pNil)) (pC (.int 998244353))) (pC (.int 30011))) pNil)) (pC (.int 998244353))) (pgName 3)) (pRet (pBin pModI (pCall pInt (pCons (pBin pFdivI (pVar 3) (pC (.int 7))) pNil)) (pVar 1)))))
      (endF n R) [some (.loc l), some (.int m), none, none, k4, k5, none] S1 := by
  obtain ⟨v, s, k, ns, B, hk⟩ := hb
  have a1 := B.at1
  have l1 := B.lt1
  refine seq_go fun K1 hK1 => ?_
  simp (disch := (first | assumption | (simp only [List.length_append, List.length_cons, List.length_nil, List.length_set]; omega))) only [pAsg, pBin, pVar, pC, pgName, pgTup, pgCons, pgNil, pCall, pCons, pNil, pTest, pI2_int, pMul_int, seqOf_tup, atI_0, atI_1, pIx, pRet, pTup, pIf, pNeg, pPar, pPar3, pI1, pI2c, pCallF, pAdd_int, pDrop, pIfS, pNext, startD, List.map_cons, List.map_nil, List.length_cons, List.length_nil, List.cons_append, List.nil_append, List.replicate, List.set_cons_zero, List.set_cons_succ, List.getElem?_cons_zero, List.getElem?_cons_succ, Option.some.injEq, exists_eq_left', exists_eq_left, D.int.injEq, D.bl.injEq, D.tup.injEq, D.loc.injEq, List.cons.injEq, and_true, true_and, exists_eq_right, and_assoc, exists_and_left, Nat.reduceAdd, Nat.reduceSub, List.replicate_zero, List.replicate_succ, atI_2, atI_3, pEq_int, pNe_int, tupG_eq, lc_eq, for_eq, pEn, pSq, pZp, pRng1, pCut_eq, cutV_loc, cutV_tup, pAdd_loc, pAdd_tup, pInt_int, pInt_bl, pLen, pPart, pNoPart, pLst, pAugS, pPut, pgSub, ix40, ix41, ix42, lst_inj, seqOf_get, cellL_lst, Option.map_some, at_app, at_new, at_set, at_set_ne, a1]
  split
  · refine seq_go fun K2 hK2 => ?_
    simp (disch := (first | assumption | (simp only [List.length_append, List.length_cons, List.length_nil, List.length_set]; omega))) only [pAsg, pBin, pVar, pC, pgName, pgTup, pgCons, pgNil, pCall, pCons, pNil, pTest, pI2_int, pMul_int, seqOf_tup, atI_0, atI_1, pIx, pRet, pTup, pIf, pNeg, pPar, pPar3, pI1, pI2c, pCallF, pAdd_int, pDrop, pIfS, pNext, startD, List.map_cons, List.map_nil, List.length_cons, List.length_nil, List.cons_append, List.nil_append, List.replicate, List.set_cons_zero, List.set_cons_succ, List.getElem?_cons_zero, List.getElem?_cons_succ, Option.some.injEq, exists_eq_left', exists_eq_left, D.int.injEq, D.bl.injEq, D.tup.injEq, D.loc.injEq, List.cons.injEq, and_true, true_and, exists_eq_right, and_assoc, exists_and_left, Nat.reduceAdd, Nat.reduceSub, List.replicate_zero, List.replicate_succ, atI_2, atI_3, pEq_int, pNe_int, tupG_eq, lc_eq, for_eq, pEn, pSq, pZp, pRng1, pCut_eq, cutV_loc, cutV_tup, pAdd_loc, pAdd_tup, pInt_int, pInt_bl, pLen, pPart, pNoPart, pLst, pAugS, pPut, pgSub, ix40, ix41, ix42, lst_inj, seqOf_get, cellL_lst, Option.map_some, at_app, at_new, at_set, at_set_ne, a1]
    refine ⟨by omega, ?_⟩
    subst hK2
    refine seq_go fun K3 hK3 => ?_
    simp (disch := (first | assumption | (simp only [List.length_append, List.length_cons, List.length_nil, List.length_set]; omega))) only [pAsg, pBin, pVar, pC, pgName, pgTup, pgCons, pgNil, pCall, pCons, pNil, pTest, pI2_int, pMul_int, seqOf_tup, atI_0, atI_1, pIx, pRet, pTup, pIf, pNeg, pPar, pPar3, pI1, pI2c, pCallF, pAdd_int, pDrop, pIfS, pNext, startD, List.map_cons, List.map_nil, List.length_cons, List.length_nil, List.cons_append, List.nil_append, List.replicate, List.set_cons_zero, List.set_cons_succ, List.getElem?_cons_zero, List.getElem?_cons_succ, Option.some.injEq, exists_eq_left', exists_eq_left, D.int.injEq, D.bl.injEq, D.tup.injEq, D.loc.injEq, List.cons.injEq, and_true, true_and, exists_eq_right, and_assoc, exists_and_left, Nat.reduceAdd, Nat.reduceSub, List.replicate_zero, List.replicate_succ, atI_2, atI_3, pEq_int, pNe_int, tupG_eq, lc_eq, for_eq, pEn, pSq, pZp, pRng1, pCut_eq, cutV_loc, cutV_tup, pAdd_loc, pAdd_tup, pInt_int, pInt_bl, pLen, pPart, pNoPart, pLst, pAugS, pPut, pgSub, ix40, ix41, ix42, lst_inj, seqOf_get, cellL_lst, Option.map_some, at_app, at_new, at_set, at_set_ne, a1]
    refine ⟨cdiv_nat hm hml, ?_⟩
    subst hK3
    simp (disch := (first | assumption | (simp only [List.length_append, List.length_cons, List.length_nil, List.length_set]; omega))) only [pAsg, pBin, pVar, pC, pgName, pgTup, pgCons, pgNil, pCall, pCons, pNil, pTest, pI2_int, pMul_int, seqOf_tup, atI_0, atI_1, pIx, pRet, pTup, pIf, pNeg, pPar, pPar3, pI1, pI2c, pCallF, pAdd_int, pDrop, pIfS, pNext, startD, List.map_cons, List.map_nil, List.length_cons, List.length_nil, List.cons_append, List.nil_append, List.replicate, List.set_cons_zero, List.set_cons_succ, List.getElem?_cons_zero, List.getElem?_cons_succ, Option.some.injEq, exists_eq_left', exists_eq_left, D.int.injEq, D.bl.injEq, D.tup.injEq, D.loc.injEq, List.cons.injEq, and_true, true_and, exists_eq_right, and_assoc, exists_and_left, Nat.reduceAdd, Nat.reduceSub, List.replicate_zero, List.replicate_succ, atI_2, atI_3, pEq_int, pNe_int, tupG_eq, lc_eq, for_eq, pEn, pSq, pZp, pRng1, pCut_eq, cutV_loc, cutV_tup, pAdd_loc, pAdd_tup, pInt_int, pInt_bl, pLen, pPart, pNoPart, pLst, pAugS, pPut, pgSub, ix40, ix41, ix42, lst_inj, seqOf_get, cellL_lst, Option.map_some, at_app, at_new, at_set, at_set_ne]
    rw [fmod_nat, fdiv_nat]
    exact fall_r (h _ _ (Nat.mod_lt _ hm) (g.trans Grow.set) ⟨_, _, _, ns, B.put (v / m) s k B.sm, hk⟩)
  · subst hK1
    refine seq_go fun K2 hK2 => ?_
    simp (disch := (first | assumption | (simp only [List.length_append, List.length_cons, List.length_nil, List.length_set]; omega))) only [pAsg, pBin, pVar, pC, pgName, pgTup, pgCons, pgNil, pCall, pCons, pNil, pTest, pI2_int, pMul_int, seqOf_tup, atI_0, atI_1, pIx, pRet, pTup, pIf, pNeg, pPar, pPar3, pI1, pI2c, pCallF, pAdd_int, pDrop, pIfS, pNext, startD, List.map_cons, List.map_nil, List.length_cons, List.length_nil, List.cons_append, List.nil_append, List.replicate, List.set_cons_zero, List.set_cons_succ, List.getElem?_cons_zero, List.getElem?_cons_succ, Option.some.injEq, exists_eq_left', exists_eq_left, D.int.injEq, D.bl.injEq, D.tup.injEq, D.loc.injEq, List.cons.injEq, and_true, true_and, exists_eq_right, and_assoc, exists_and_left, Nat.reduceAdd, Nat.reduceSub, List.replicate_zero, List.replicate_succ, atI_2, atI_3, pEq_int, pNe_int, tupG_eq, lc_eq, for_eq, pEn, pSq, pZp, pRng1, pCut_eq, cutV_loc, cutV_tup, pAdd_loc, pAdd_tup, pInt_int, pInt_bl, pLen, pPart, pNoPart, pLst, pAugS, pPut, pgSub, ix40, ix41, ix42, lst_inj, seqOf_get, cellL_lst, Option.map_some, at_app, at_new, at_set, at_set_ne, a1]
    refine ⟨cmul_of (m := 40) (n := 40) (small_log (by have := B.sm; omega)) (by decide) (by omega), by decide, ?_⟩
    obtain ⟨x, hx, ex⟩ : ∃ x : Nat, x < 1000000007 ∧ (((s : Int) + 1) * 39373).fmod 1000000007 = (x : Int) := ⟨(s + 1) * 39373 % 1000000007, Nat.mod_lt _ (by decide), by rw [← fmod_nat]; rfl⟩
    rw [ex]
    subst hK2
    refine seq_go fun K3 hK3 => ?_
    simp (disch := (first | assumption | (simp only [List.length_append, List.length_cons, List.length_nil, List.length_set]; omega))) only [pAsg, pBin, pVar, pC, pgName, pgTup, pgCons, pgNil, pCall, pCons, pNil, pTest, pI2_int, pMul_int, seqOf_tup, atI_0, atI_1, pIx, pRet, pTup, pIf, pNeg, pPar, pPar3, pI1, pI2c, pCallF, pAdd_int, pDrop, pIfS, pNext, startD, List.map_cons, List.map_nil, List.length_cons, List.length_nil, List.cons_append, List.nil_append, List.replicate, List.set_cons_zero, List.set_cons_succ, List.getElem?_cons_zero, List.getElem?_cons_succ, Option.some.injEq, exists_eq_left', exists_eq_left, D.int.injEq, D.bl.injEq, D.tup.injEq, D.loc.injEq, List.cons.injEq, and_true, true_and, exists_eq_right, and_assoc, exists_and_left, Nat.reduceAdd, Nat.reduceSub, List.replicate_zero, List.replicate_succ, atI_2, atI_3, pEq_int, pNe_int, tupG_eq, lc_eq, for_eq, pEn, pSq, pZp, pRng1, pCut_eq, cutV_loc, cutV_tup, pAdd_loc, pAdd_tup, pInt_int, pInt_bl, pLen, pPart, pNoPart, pLst, pAugS, pPut, pgSub, ix40, ix41, ix42, lst_inj, seqOf_get, cellL_lst, Option.map_some, at_app, at_new, at_set, at_set_ne]
    obtain ⟨y, hy, ey⟩ : ∃ y : Nat, y < 998244353 ∧ ((x : Int) * (x : Int)).fmod 998244353 = (y : Int) := ⟨x * x % 998244353, Nat.mod_lt _ (by decide), by rw [← fmod_nat, Int.natCast_mul]; rfl⟩
    rw [ey]
    obtain ⟨z, hz, ez⟩ : ∃ z : Nat, z < 998244353 ∧ ((y : Int) * 30011).fmod 998244353 = (z : Int) := ⟨y * 30011 % 998244353, Nat.mod_lt _ (by decide), by rw [← fmod_nat, Int.natCast_mul]; rfl⟩
    rw [ez]
    refine ⟨cmul_of (m := 40) (n := 40) (small_log (by omega)) (small_log (by omega)) (by omega), by decide, cmul_of (m := 40) (n := 40) (small_log (by omega)) (by decide) (by omega), by decide, ?_⟩
    subst hK3
    simp (disch := (first | assumption | (simp only [List.length_append, List.length_cons, List.length_nil, List.length_set]; omega))) only [pAsg, pBin, pVar, pC, pgName, pgTup, pgCons, pgNil, pCall, pCons, pNil, pTest, pI2_int, pMul_int, seqOf_tup, atI_0, atI_1, pIx, pRet, pTup, pIf, pNeg, pPar, pPar3, pI1, pI2c, pCallF, pAdd_int, pDrop, pIfS, pNext, startD, List.map_cons, List.map_nil, List.length_cons, List.length_nil, List.cons_append, List.nil_append, List.replicate, List.set_cons_zero, List.set_cons_succ, List.getElem?_cons_zero, List.getElem?_cons_succ, Option.some.injEq, exists_eq_left', exists_eq_left, D.int.injEq, D.bl.injEq, D.tup.injEq, D.loc.injEq, List.cons.injEq, and_true, true_and, exists_eq_right, and_assoc, exists_and_left, Nat.reduceAdd, Nat.reduceSub, List.replicate_zero, List.replicate_succ, atI_2, atI_3, pEq_int, pNe_int, tupG_eq, lc_eq, for_eq, pEn, pSq, pZp, pRng1, pCut_eq, cutV_loc, cutV_tup, pAdd_loc, pAdd_tup, pInt_int, pInt_bl, pLen, pPart, pNoPart, pLst, pAugS, pPut, pgSub, ix40, ix41, ix42, lst_inj, seqOf_get, cellL_lst, Option.map_some, at_app, at_new, at_set, at_set_ne]
    refine ⟨⟨by decide, by decide⟩, by omega, ?_⟩
    have e7 : ((z : Int).fdiv 7).fmod (m : Int) = ((z / 7 % m : Nat) : Int) := by rw [← fmod_nat, ← fdiv_nat]; rfl
    rw [e7]
    exact fall_r (h _ _ (Nat.mod_lt _ hm) g ⟨v, s, k, ns, B, hk⟩)
theorem sem_law_take (ds : List D) (S : Sto) (R : Post) (PX : PXK) (h : sp_law_take ds S R PX) : t_law_take (endF S.length R) (startD N_law_take ds) S := by
  obtain ⟨l, l2, c, m, rfl, hm, hml, hcf, ⟨v, s, k, ns, B, hk⟩, h⟩ := h
  have hcl := few_log hcf
  unfold t_law_take N_law_take
  refine seq_go fun K1 hK1 => ?_
  have tail : ∀ S1 k4 k5, Grow l S S1 → Bag S1 l l2 (c + 1) → K1 [some (.loc l), some (.int m), none, none, k4, k5, none] S1 := fun S1 k4 k5 g b => by
    rw [hK1]
    exact take_tail l l2 c m hm hml S S1 R _ k4 k5 g b h
  clear hK1
  have a1 := B.at1
  have a2 := B.at2
  have l1 := B.lt1
  have l2' := B.lt2
  simp (disch := (first | assumption | (simp only [List.length_append, List.length_cons, List.length_nil, List.length_set]; omega))) only [pAsg, pBin, pVar, pC, pgName, pgTup, pgCons, pgNil, pCall, pCons, pNil, pTest, pI2_int, pMul_int, seqOf_tup, atI_0, atI_1, pIx, pRet, pTup, pIf, pNeg, pPar, pPar3, pI1, pI2c, pCallF, pAdd_int, pDrop, pIfS, pNext, startD, List.map_cons, List.map_nil, List.length_cons, List.length_nil, List.cons_append, List.nil_append, List.replicate, List.set_cons_zero, List.set_cons_succ, List.getElem?_cons_zero, List.getElem?_cons_succ, Option.some.injEq, exists_eq_left', exists_eq_left, D.int.injEq, D.bl.injEq, D.tup.injEq, D.loc.injEq, List.cons.injEq, and_true, true_and, exists_eq_right, and_assoc, exists_and_left, Nat.reduceAdd, Nat.reduceSub, List.replicate_zero, List.replicate_succ, atI_2, atI_3, pEq_int, pNe_int, tupG_eq, lc_eq, for_eq, pEn, pSq, pZp, pRng1, pCut_eq, cutV_loc, cutV_tup, pAdd_loc, pAdd_tup, pInt_int, pInt_bl, pLen, pPart, pNoPart, pLst, pAugS, pPut, pgSub, ix40, ix41, ix42, lst_inj, seqOf_get, cellL_lst, Option.map_some, at_app, at_new, at_set, at_set_ne, a1, a2]
  split
  · refine seq_go fun K2 hK2 => ?_
    simp (disch := (first | assumption | (simp only [List.length_append, List.length_cons, List.length_nil, List.length_set]; omega))) only [pAsg, pBin, pVar, pC, pgName, pgTup, pgCons, pgNil, pCall, pCons, pNil, pTest, pI2_int, pMul_int, seqOf_tup, atI_0, atI_1, pIx, pRet, pTup, pIf, pNeg, pPar, pPar3, pI1, pI2c, pCallF, pAdd_int, pDrop, pIfS, pNext, startD, List.map_cons, List.map_nil, List.length_cons, List.length_nil, List.cons_append, List.nil_append, List.replicate, List.set_cons_zero, List.set_cons_succ, List.getElem?_cons_zero, List.getElem?_cons_succ, Option.some.injEq, exists_eq_left', exists_eq_left, D.int.injEq, D.bl.injEq, D.tup.injEq, D.loc.injEq, List.cons.injEq, and_true, true_and, exists_eq_right, and_assoc, exists_and_left, Nat.reduceAdd, Nat.reduceSub, List.replicate_zero, List.replicate_succ, atI_2, atI_3, pEq_int, pNe_int, tupG_eq, lc_eq, for_eq, pEn, pSq, pZp, pRng1, pCut_eq, cutV_loc, cutV_tup, pAdd_loc, pAdd_tup, pInt_int, pInt_bl, pLen, pPart, pNoPart, pLst, pAugS, pPut, pgSub, ix40, ix41, ix42, lst_inj, seqOf_get, cellL_lst, Option.map_some, at_app, at_new, at_set, at_set_ne, a1, a2]
    obtain ⟨r, er, hr⟩ := cut_nat ns (some (k : Int)) none
    rw [er]
    obtain ⟨x, ex⟩ := head_nat r
    refine ⟨by decide, by rw [List.length_map]; have := B.few; show r.length + 1 ≤ 2 ^ 24; omega, _, ex, ?_⟩
    generalize hS1 : S ++ [Cell.lst (r.map natD)] ++ [Cell.lst [D.int 0]] ++ [Cell.lst (r.map natD ++ [D.int 0])] = S1
    have g1 : Grow l S S1 := by rw [← hS1]; exact (Grow.app.trans Grow.app).trans Grow.app
    have B1 : BagAt S1 l l2 v s k ns := by rw [← hS1]; exact B.app.app.app
    clear hS1 a1 a2 l1 l2'
    subst hK2
    refine seq_go fun K3 hK3 => ?_
    have a1 := B1.at1
    have l1 := B1.lt1
    simp (disch := (first | assumption | (simp only [List.length_append, List.length_cons, List.length_nil, List.length_set]; omega))) only [pAsg, pBin, pVar, pC, pgName, pgTup, pgCons, pgNil, pCall, pCons, pNil, pTest, pI2_int, pMul_int, seqOf_tup, atI_0, atI_1, pIx, pRet, pTup, pIf, pNeg, pPar, pPar3, pI1, pI2c, pCallF, pAdd_int, pDrop, pIfS, pNext, startD, List.map_cons, List.map_nil, List.length_cons, List.length_nil, List.cons_append, List.nil_append, List.replicate, List.set_cons_zero, List.set_cons_succ, List.getElem?_cons_zero, List.getElem?_cons_succ, Option.some.injEq, exists_eq_left', exists_eq_left, D.int.injEq, D.bl.injEq, D.tup.injEq, D.loc.injEq, List.cons.injEq, and_true, true_and, exists_eq_right, and_assoc, exists_and_left, Nat.reduceAdd, Nat.reduceSub, List.replicate_zero, List.replicate_succ, atI_2, atI_3, pEq_int, pNe_int, tupG_eq, lc_eq, for_eq, pEn, pSq, pZp, pRng1, pCut_eq, cutV_loc, cutV_tup, pAdd_loc, pAdd_tup, pInt_int, pInt_bl, pLen, pPart, pNoPart, pLst, pAugS, pPut, pgSub, ix40, ix41, ix42, lst_inj, seqOf_get, cellL_lst, Option.map_some, at_app, at_new, at_set, at_set_ne, a1]
    have B2 := B1.put v s (k + 1) B1.sm
    have g2 : Grow l S _ := g1.trans (Grow.set (c := .lst [.int (v : Int), .int (s : Int), .int ((k + 1 : Nat) : Int), .loc l2]))
    have e1 : (k : Int) + 1 = ((k + 1 : Nat) : Int) := rfl
    rw [e1]
    generalize S1.set l (.lst [.int (v : Int), .int (s : Int), .int ((k + 1 : Nat) : Int), .loc l2]) = S2 at B2 g2 ⊢
    clear B1 g1 a1 l1
    subst hK3
    refine seq_go fun K4 hK4 => ?_
    have k4 : ∀ v' S3, Grow l S S3 → BagAt S3 l l2 v' s (k + 1) ns → K4 [some (.loc l), some (.int m), none, none, some (natD x), none, none] S3 := by
      intro v' S3 g3 B3
      subst hK4
      refine seq_go fun K5 hK5 => ?_
      have a1 := B3.at1
      have l1 := B3.lt1
      unfold natD
      simp (disch := (first | assumption | (simp only [List.length_append, List.length_cons, List.length_nil, List.length_set]; omega))) only [pAsg, pBin, pVar, pC, pgName, pgTup, pgCons, pgNil, pCall, pCons, pNil, pTest, pI2_int, pMul_int, seqOf_tup, atI_0, atI_1, pIx, pRet, pTup, pIf, pNeg, pPar, pPar3, pI1, pI2c, pCallF, pAdd_int, pDrop, pIfS, pNext, startD, List.map_cons, List.map_nil, List.length_cons, List.length_nil, List.cons_append, List.nil_append, List.replicate, List.set_cons_zero, List.set_cons_succ, List.getElem?_cons_zero, List.getElem?_cons_succ, Option.some.injEq, exists_eq_left', exists_eq_left, D.int.injEq, D.bl.injEq, D.tup.injEq, D.loc.injEq, List.cons.injEq, and_true, true_and, exists_eq_right, and_assoc, exists_and_left, Nat.reduceAdd, Nat.reduceSub, List.replicate_zero, List.replicate_succ, atI_2, atI_3, pEq_int, pNe_int, tupG_eq, lc_eq, for_eq, pEn, pSq, pZp, pRng1, pCut_eq, cutV_loc, cutV_tup, pAdd_loc, pAdd_tup, pInt_int, pInt_bl, pLen, pPart, pNoPart, pLst, pAugS, pPut, pgSub, ix40, ix41, ix42, lst_inj, seqOf_get, cellL_lst, Option.map_some, at_app, at_new, at_set, at_set_ne, a1]
      obtain ⟨y, ey⟩ : ∃ y : Nat, (s : Int) * 48271 + (x : Int).fmod 2147483647 + 7919 * ((k + 1 : Nat) : Int) = (y : Int) := ⟨s * 48271 + x % 2147483647 + 7919 * (k + 1), by
        rw [show (x : Int).fmod 2147483647 = ((x % 2147483647 : Nat) : Int) from fmod_nat x 2147483647]
        omega⟩
      rw [ey]
      have hk1 := log_mono (show k + 1 ≤ c + 1 by omega)
      have hk2 := log_add (a := c) (b := 1)
      have hk3 : Nat.log2 1 = 0 := by decide
      refine ⟨cmul_of (m := 40) (n := 40) (small_log (by have := B3.sm; omega)) (by decide) (by omega), by decide, cmul_of (m := 40) (n := 900001) (by decide) (by rw [Int.natAbs_natCast]; omega) (by omega), ?_⟩
      subst hK5
      simp (disch := (first | assumption | (simp only [List.length_append, List.length_cons, List.length_nil, List.length_set]; omega))) only [pAsg, pBin, pVar, pC, pgName, pgTup, pgCons, pgNil, pCall, pCons, pNil, pTest, pI2_int, pMul_int, seqOf_tup, atI_0, atI_1, pIx, pRet, pTup, pIf, pNeg, pPar, pPar3, pI1, pI2c, pCallF, pAdd_int, pDrop, pIfS, pNext, startD, List.map_cons, List.map_nil, List.length_cons, List.length_nil, List.cons_append, List.nil_append, List.replicate, List.set_cons_zero, List.set_cons_succ, List.getElem?_cons_zero, List.getElem?_cons_succ, Option.some.injEq, exists_eq_left', exists_eq_left, D.int.injEq, D.bl.injEq, D.tup.injEq, D.loc.injEq, List.cons.injEq, and_true, true_and, exists_eq_right, and_assoc, exists_and_left, Nat.reduceAdd, Nat.reduceSub, List.replicate_zero, List.replicate_succ, atI_2, atI_3, pEq_int, pNe_int, tupG_eq, lc_eq, for_eq, pEn, pSq, pZp, pRng1, pCut_eq, cutV_loc, cutV_tup, pAdd_loc, pAdd_tup, pInt_int, pInt_bl, pLen, pPart, pNoPart, pLst, pAugS, pPut, pgSub, ix40, ix41, ix42, lst_inj, seqOf_get, cellL_lst, Option.map_some, at_app, at_new, at_set, at_set_ne, a1]
      refine ⟨by decide, ?_⟩
      rw [show (y : Int).fmod 2147483647 = ((y % 2147483647 : Nat) : Int) from fmod_nat y 2147483647]
      exact tail _ _ _ (g3.trans Grow.set) ⟨_, _, _, ns, B3.put v' (y % 2147483647) (k + 1) (Nat.mod_lt _ (by decide)), by omega⟩
    have a1 := B2.at1
    have l1 := B2.lt1
    unfold natD at *
    simp (disch := (first | assumption | (simp only [List.length_append, List.length_cons, List.length_nil, List.length_set]; omega))) only [pAsg, pBin, pVar, pC, pgName, pgTup, pgCons, pgNil, pCall, pCons, pNil, pTest, pI2_int, pMul_int, seqOf_tup, atI_0, atI_1, pIx, pRet, pTup, pIf, pNeg, pPar, pPar3, pI1, pI2c, pCallF, pAdd_int, pDrop, pIfS, pNext, startD, List.map_cons, List.map_nil, List.length_cons, List.length_nil, List.cons_append, List.nil_append, List.replicate, List.set_cons_zero, List.set_cons_succ, List.getElem?_cons_zero, List.getElem?_cons_succ, Option.some.injEq, exists_eq_left', exists_eq_left, D.int.injEq, D.bl.injEq, D.tup.injEq, D.loc.injEq, List.cons.injEq, and_true, true_and, exists_eq_right, and_assoc, exists_and_left, Nat.reduceAdd, Nat.reduceSub, List.replicate_zero, List.replicate_succ, atI_2, atI_3, pEq_int, pNe_int, tupG_eq, lc_eq, for_eq, pEn, pSq, pZp, pRng1, pCut_eq, cutV_loc, cutV_tup, pAdd_loc, pAdd_tup, pInt_int, pInt_bl, pLen, pPart, pNoPart, pLst, pAugS, pPut, pgSub, ix40, ix41, ix42, lst_inj, seqOf_get, cellL_lst, Option.map_some, at_app, at_new, at_set, at_set_ne, a1]
    refine ⟨⟨by decide, by decide, by decide⟩, ?_⟩
    split
    · exact k4 x _ (g2.trans Grow.set) (B2.put x s (k + 1) B2.sm)
    · exact k4 v _ g2 B2
  · exact tail _ _ _ Grow.refl ⟨v, s, k, ns, B, by omega⟩
theorem len_log {n : Nat} (h : n ≤ 2 ^ 24) : n.log2 < 9000 := by
  by_cases z : n = 0
  · rw [z, Nat.log2_zero]; omega
  · have := (Nat.log2_lt z).mpr (show n < 2 ^ 25 by omega); omega
theorem _root_.K4.Grow.set_new {l n : Nat} {S S2 : Sto} {x : Cell} (g : Grow l S S2) (h : S.length ≤ n) : Grow l S (S2.set n x) :=
  ⟨by rw [List.length_set]; exact g.le, fun j hj e => (List.getElem?_set_ne (by omega)).trans (g.at_ j hj e)⟩
theorem sem_law_some (ds : List D) (S : Sto) (R : Post) (PX : PXK) (h : sp_law_some ds S R PX) : t_law_some (endF S.length R) (startD N_law_some ds) S := by
  obtain ⟨l, l2, c, d, xs, rfl, hd, hs, h0, hz, hc, hb, h⟩ := h
  unfold t_law_some N_law_some
  simp (disch := (first | assumption | (simp only [List.length_append, List.length_cons, List.length_nil, List.length_set]; omega))) only [pAsg, pBin, pVar, pC, pgName, pgTup, pgCons, pgNil, pCall, pCons, pNil, pTest, pI2_int, pMul_int, seqOf_tup, atI_0, atI_1, pIx, pRet, pTup, pIf, pNeg, pPar, pPar3, pI1, pI2c, pCallF, pAdd_int, pDrop, pIfS, pNext, startD, List.map_cons, List.map_nil, List.length_cons, List.length_nil, List.cons_append, List.nil_append, List.replicate, List.set_cons_zero, List.set_cons_succ, List.getElem?_cons_zero, List.getElem?_cons_succ, Option.some.injEq, exists_eq_left', exists_eq_left, D.int.injEq, D.bl.injEq, D.tup.injEq, D.loc.injEq, List.cons.injEq, and_true, true_and, exists_eq_right, and_assoc, exists_and_left, Nat.reduceAdd, Nat.reduceSub, List.replicate_zero, List.replicate_succ, atI_2, atI_3, pEq_int, pNe_int, tupG_eq, lc_eq, for_eq, pEn, pSq, pZp, pRng1, pCut_eq, cutV_loc, cutV_tup, pAdd_loc, pAdd_tup, pInt_int, pInt_bl, pLen, pPart, pNoPart, pLst, pAugS, pPut, pgSub, ix40, ix41, ix42, lst_inj, seqOf_get, cellL_lst, Option.map_some, at_app, at_new, at_set, at_set_ne]
  refine ⟨xs, hs, l, l2, c, xs.length, rfl, h0, len_log hz, hc, hb, fun r S' hr g b => ?_⟩
  have e : xs[r]? = some xs[r] := List.getElem?_eq_getElem hr
  exact ⟨xs, seqOf_grow g hd hs, _, rfl, _, K4.atI_nat e, fall_r (h r _ S' e g b)⟩
theorem sem_law_mixed (ds : List D) (S : Sto) (R : Post) (PX : PXK) (h : sp_law_mixed ds S R PX) : t_law_mixed (endF S.length R) (startD N_law_mixed ds) S := by
  obtain ⟨l, l2, c, d, xs, rfl, hd, hs, hz, hc, hb, h⟩ := h
  have l1 := hb.lt1
  have l2' := hb.lt2
  unfold t_law_mixed N_law_mixed
  refine seq_go fun K1 hK1 => ?_
  simp (disch := (first | assumption | (simp only [List.length_append, List.length_cons, List.length_nil, List.length_set]; omega))) only [pAsg, pBin, pVar, pC, pgName, pgTup, pgCons, pgNil, pCall, pCons, pNil, pTest, pI2_int, pMul_int, seqOf_tup, atI_0, atI_1, pIx, pRet, pTup, pIf, pNeg, pPar, pPar3, pI1, pI2c, pCallF, pAdd_int, pDrop, pIfS, pNext, startD, List.map_cons, List.map_nil, List.length_cons, List.length_nil, List.cons_append, List.nil_append, List.replicate, List.set_cons_zero, List.set_cons_succ, List.getElem?_cons_zero, List.getElem?_cons_succ, Option.some.injEq, exists_eq_left', exists_eq_left, D.int.injEq, D.bl.injEq, D.tup.injEq, D.loc.injEq, List.cons.injEq, and_true, true_and, exists_eq_right, and_assoc, exists_and_left, Nat.reduceAdd, Nat.reduceSub, List.replicate_zero, List.replicate_succ, atI_2, atI_3, pEq_int, pNe_int, tupG_eq, lc_eq, for_eq, pEn, pSq, pZp, pRng1, pCut_eq, cutV_loc, cutV_tup, pAdd_loc, pAdd_tup, pInt_int, pInt_bl, pLen, pPart, pNoPart, pLst, pAugS, pPut, pgSub, ix40, ix41, ix42, lst_inj, seqOf_get, cellL_lst, Option.map_some, at_app, at_new, at_set, at_set_ne]
  refine ⟨Nat.zero_le _, ?_⟩
  subst hK1
  refine seq_go fun K2 hK2 => ?_
  simp (disch := (first | assumption | (simp only [List.length_append, List.length_cons, List.length_nil, List.length_set]; omega))) only [pAsg, pBin, pVar, pC, pgName, pgTup, pgCons, pgNil, pCall, pCons, pNil, pTest, pI2_int, pMul_int, seqOf_tup, atI_0, atI_1, pIx, pRet, pTup, pIf, pNeg, pPar, pPar3, pI1, pI2c, pCallF, pAdd_int, pDrop, pIfS, pNext, startD, List.map_cons, List.map_nil, List.length_cons, List.length_nil, List.cons_append, List.nil_append, List.replicate, List.set_cons_zero, List.set_cons_succ, List.getElem?_cons_zero, List.getElem?_cons_succ, Option.some.injEq, exists_eq_left', exists_eq_left, D.int.injEq, D.bl.injEq, D.tup.injEq, D.loc.injEq, List.cons.injEq, and_true, true_and, exists_eq_right, and_assoc, exists_and_left, Nat.reduceAdd, Nat.reduceSub, List.replicate_zero, List.replicate_succ, atI_2, atI_3, pEq_int, pNe_int, tupG_eq, lc_eq, for_eq, pEn, pSq, pZp, pRng1, pCut_eq, cutV_loc, cutV_tup, pAdd_loc, pAdd_tup, pInt_int, pInt_bl, pLen, pPart, pNoPart, pLst, pAugS, pPut, pgSub, ix40, ix41, ix42, lst_inj, seqOf_get, cellL_lst, Option.map_some, at_app, at_new, at_set, at_set_ne]
  refine ⟨xs, seqOf_app hs, fun i ρ' S' => ∃ (x : Option D) (ys : List D), ρ' = [some (.loc l), some d, some (.loc S.length), x] ∧ S'[S.length]? = some (.lst ys) ∧ ys.Perm (xs.take i) ∧ Grow l S S' ∧ Bag S' l l2 (c + i),
    ⟨none, [], rfl, at_new, .refl _, Grow.app, hb.app⟩, fun i ρ' S' ⟨x, ys, _, _, _, g, _⟩ => seqOf_grow g hd hs, ?_, ?_⟩
  · rintro i dd ρ' S' hi ⟨x, ys, rfl, h1, h2, g, b⟩
    have hil := (List.getElem?_eq_some_iff.mp hi).1
    have hyl : ys.length ≤ i := by have := h2.length_eq; rw [List.length_take] at this; omega
    simp (disch := (first | assumption | (simp only [List.length_append, List.length_cons, List.length_nil, List.length_set]; omega))) only [pAsg, pBin, pVar, pC, pgName, pgTup, pgCons, pgNil, pCall, pCons, pNil, pTest, pI2_int, pMul_int, seqOf_tup, atI_0, atI_1, pIx, pRet, pTup, pIf, pNeg, pPar, pPar3, pI1, pI2c, pCallF, pAdd_int, pDrop, pIfS, pNext, startD, List.map_cons, List.map_nil, List.length_cons, List.length_nil, List.cons_append, List.nil_append, List.replicate, List.set_cons_zero, List.set_cons_succ, List.getElem?_cons_zero, List.getElem?_cons_succ, Option.some.injEq, exists_eq_left', exists_eq_left, D.int.injEq, D.bl.injEq, D.tup.injEq, D.loc.injEq, List.cons.injEq, and_true, true_and, exists_eq_right, and_assoc, exists_and_left, Nat.reduceAdd, Nat.reduceSub, List.replicate_zero, List.replicate_succ, atI_2, atI_3, pEq_int, pNe_int, tupG_eq, lc_eq, for_eq, pEn, pSq, pZp, pRng1, pCut_eq, cutV_loc, cutV_tup, pAdd_loc, pAdd_tup, pInt_int, pInt_bl, pLen, pPart, pNoPart, pLst, pAugS, pPut, pgSub, ix40, ix41, ix42, lst_inj, seqOf_get, cellL_lst, Option.map_some, at_app, at_new, at_set, at_set_ne, h1, pMt, pmInsert]
    refine ⟨l, l2, c + i, ys.length + 1, rfl, by omega, len_log (by omega), by show c + i < 2 ^ 200; have : c + xs.length < 2 ^ 200 := hc; omega, b, fun r S2 hr g2 b2 => ?_⟩
    have h3 : S2[S.length]? = some (.lst ys) := (g2.at_ _ (lt_of_at h1) (by omega)).trans h1
    have h4 := lt_of_at h3
    simp (disch := (first | assumption | (simp only [List.length_append, List.length_cons, List.length_nil, List.length_set]; omega))) only [pAsg, pBin, pVar, pC, pgName, pgTup, pgCons, pgNil, pCall, pCons, pNil, pTest, pI2_int, pMul_int, seqOf_tup, atI_0, atI_1, pIx, pRet, pTup, pIf, pNeg, pPar, pPar3, pI1, pI2c, pCallF, pAdd_int, pDrop, pIfS, pNext, startD, List.map_cons, List.map_nil, List.length_cons, List.length_nil, List.cons_append, List.nil_append, List.replicate, List.set_cons_zero, List.set_cons_succ, List.getElem?_cons_zero, List.getElem?_cons_succ, Option.some.injEq, exists_eq_left', exists_eq_left, D.int.injEq, D.bl.injEq, D.tup.injEq, D.loc.injEq, List.cons.injEq, and_true, true_and, exists_eq_right, and_assoc, exists_and_left, Nat.reduceAdd, Nat.reduceSub, List.replicate_zero, List.replicate_succ, atI_2, atI_3, pEq_int, pNe_int, tupG_eq, lc_eq, for_eq, pEn, pSq, pZp, pRng1, pCut_eq, cutV_loc, cutV_tup, pAdd_loc, pAdd_tup, pInt_int, pInt_bl, pLen, pPart, pNoPart, pLst, pAugS, pPut, pgSub, ix40, ix41, ix42, lst_inj, seqOf_get, cellL_lst, Option.map_some, at_app, at_new, at_set, at_set_ne, h3]
    refine ⟨by show _ < 2 ^ 24; omega, by omega, by omega, ?_, ?_, ?_⟩
    · have et : xs.take (i + 1) = xs.take i ++ [dd] := by rw [List.take_add_one, hi]; rfl
      rw [et, Int.toNat_natCast]
      have e1 : (ys.take r ++ [dd] ++ ys.drop r).Perm ([dd] ++ (ys.take r ++ ys.drop r)) := by
        rw [List.append_assoc, ← List.append_assoc [dd]]
        exact List.perm_append_comm_assoc _ _ _
      rw [List.take_append_drop] at e1
      exact (e1.trans List.perm_append_comm).trans (h2.append_right _)
    · exact (g.trans g2).set_new (Nat.le_refl _)
    · exact b2.set (by omega) (by omega)
  · rintro ρ' S' ⟨x, ys, rfl, h1, h2, g, b⟩
    rw [List.take_length] at h2
    subst hK2
    simp (disch := (first | assumption | (simp only [List.length_append, List.length_cons, List.length_nil, List.length_set]; omega))) only [pAsg, pBin, pVar, pC, pgName, pgTup, pgCons, pgNil, pCall, pCons, pNil, pTest, pI2_int, pMul_int, seqOf_tup, atI_0, atI_1, pIx, pRet, pTup, pIf, pNeg, pPar, pPar3, pI1, pI2c, pCallF, pAdd_int, pDrop, pIfS, pNext, startD, List.map_cons, List.map_nil, List.length_cons, List.length_nil, List.cons_append, List.nil_append, List.replicate, List.set_cons_zero, List.set_cons_succ, List.getElem?_cons_zero, List.getElem?_cons_succ, Option.some.injEq, exists_eq_left', exists_eq_left, D.int.injEq, D.bl.injEq, D.tup.injEq, D.loc.injEq, List.cons.injEq, and_true, true_and, exists_eq_right, and_assoc, exists_and_left, Nat.reduceAdd, Nat.reduceSub, List.replicate_zero, List.replicate_succ, atI_2, atI_3, pEq_int, pNe_int, tupG_eq, lc_eq, for_eq, pEn, pSq, pZp, pRng1, pCut_eq, cutV_loc, cutV_tup, pAdd_loc, pAdd_tup, pInt_int, pInt_bl, pLen, pPart, pNoPart, pLst, pAugS, pPut, pgSub, ix40, ix41, ix42, lst_inj, seqOf_get, cellL_lst, Option.map_some, at_app, at_new, at_set, at_set_ne]
    exact fall_r (h ys _ S' h2 h1 (Nat.le_refl _) g b)
theorem frw (n : Int) (d : Nat) (hd : d ≠ 0) (hc : n.natAbs.Coprime d) : D.tup [.int n, .int (d : Int)] = frD ⟨n, d, hd, hc⟩ := rfl
theorem sem_law_some_fraction (ds : List D) (S : Sto) (R : Post) (PX : PXK) (h : sp_law_some_fraction ds S R PX) : t_law_some_fraction (endF S.length R) (startD N_law_some_fraction ds) S := by
  obtain ⟨l, l2, c, rfl, hc, hb, h⟩ := h
  have l1 := hb.lt1
  unfold t_law_some_fraction N_law_some_fraction
  refine seq_go fun K1 hK1 => ?_
  simp (disch := (first | assumption | (simp only [List.length_append, List.length_cons, List.length_nil, List.length_set]; omega))) only [pAsg, pBin, pVar, pC, pgName, pgTup, pgCons, pgNil, pCall, pCons, pNil, pTest, pI2_int, pMul_int, seqOf_tup, atI_0, atI_1, pIx, pRet, pTup, pIf, pNeg, pPar, pPar3, pI1, pI2c, pCallF, pAdd_int, pDrop, pIfS, pNext, startD, List.map_cons, List.map_nil, List.length_cons, List.length_nil, List.cons_append, List.nil_append, List.replicate, List.set_cons_zero, List.set_cons_succ, List.getElem?_cons_zero, List.getElem?_cons_succ, Option.some.injEq, exists_eq_left', exists_eq_left, D.int.injEq, D.bl.injEq, D.tup.injEq, D.loc.injEq, List.cons.injEq, and_true, true_and, exists_eq_right, and_assoc, exists_and_left, Nat.reduceAdd, Nat.reduceSub, List.replicate_zero, List.replicate_succ, atI_2, atI_3, pEq_int, pNe_int, tupG_eq, lc_eq, for_eq, pEn, pSq, pZp, pRng1, pCut_eq, cutV_loc, cutV_tup, pAdd_loc, pAdd_tup, pInt_int, pInt_bl, pLen, pPart, pNoPart, pLst, pAugS, pPut, pgSub, ix40, ix41, ix42, lst_inj, seqOf_get, cellL_lst, Option.map_some, at_app, at_new, at_set, at_set_ne]
  subst hK1
  refine ⟨by decide, by decide, by decide, by decide, by decide, by decide, by decide, by decide, by decide, ?_⟩
  simp (disch := (first | assumption | (simp only [List.length_append, List.length_cons, List.length_nil, List.length_set]; omega))) only [pAsg, pBin, pVar, pC, pgName, pgTup, pgCons, pgNil, pCall, pCons, pNil, pTest, pI2_int, pMul_int, seqOf_tup, atI_0, atI_1, pIx, pRet, pTup, pIf, pNeg, pPar, pPar3, pI1, pI2c, pCallF, pAdd_int, pDrop, pIfS, pNext, startD, List.map_cons, List.map_nil, List.length_cons, List.length_nil, List.cons_append, List.nil_append, List.replicate, List.set_cons_zero, List.set_cons_succ, List.getElem?_cons_zero, List.getElem?_cons_succ, Option.some.injEq, exists_eq_left', exists_eq_left, D.int.injEq, D.bl.injEq, D.tup.injEq, D.loc.injEq, List.cons.injEq, and_true, true_and, exists_eq_right, and_assoc, exists_and_left, Nat.reduceAdd, Nat.reduceSub, List.replicate_zero, List.replicate_succ, atI_2, atI_3, pEq_int, pNe_int, tupG_eq, lc_eq, for_eq, pEn, pSq, pZp, pRng1, pCut_eq, cutV_loc, cutV_tup, pAdd_loc, pAdd_tup, pInt_int, pInt_bl, pLen, pPart, pNoPart, pLst, pAugS, pPut, pgSub, ix40, ix41, ix42, lst_inj, seqOf_get, cellL_lst, Option.map_some, at_app, at_new, at_set, at_set_ne]
  refine ⟨l, l2, c, 199, rfl, by decide, by decide, by omega, hb.app, fun r S' hr g b => ?_⟩
  have h1 := (g.at_ S.length (by rw [List.length_append]; exact Nat.lt_succ_self _) (by omega)).trans at_new
  have h2 := lt_of_at h1
  simp (disch := (first | assumption | (simp only [List.length_append, List.length_cons, List.length_nil, List.length_set]; omega))) only [pAsg, pBin, pVar, pC, pgName, pgTup, pgCons, pgNil, pCall, pCons, pNil, pTest, pI2_int, pMul_int, seqOf_tup, atI_0, atI_1, pIx, pRet, pTup, pIf, pNeg, pPar, pPar3, pI1, pI2c, pCallF, pAdd_int, pDrop, pIfS, pNext, startD, List.map_cons, List.map_nil, List.length_cons, List.length_nil, List.cons_append, List.nil_append, List.replicate, List.set_cons_zero, List.set_cons_succ, List.getElem?_cons_zero, List.getElem?_cons_succ, Option.some.injEq, exists_eq_left', exists_eq_left, D.int.injEq, D.bl.injEq, D.tup.injEq, D.loc.injEq, List.cons.injEq, and_true, true_and, exists_eq_right, and_assoc, exists_and_left, Nat.reduceAdd, Nat.reduceSub, List.replicate_zero, List.replicate_succ, atI_2, atI_3, pEq_int, pNe_int, tupG_eq, lc_eq, for_eq, pEn, pSq, pZp, pRng1, pCut_eq, cutV_loc, cutV_tup, pAdd_loc, pAdd_tup, pInt_int, pInt_bl, pLen, pPart, pNoPart, pLst, pAugS, pPut, pgSub, ix40, ix41, ix42, lst_inj, seqOf_get, cellL_lst, Option.map_some, at_app, at_new, at_set, at_set_ne, h1]
  refine ⟨by decide, by decide, by decide, l, l2, c + 1, _, _, rfl, ?_, seqOf_of at_new, Nat.zero_lt_succ _, (by show 9 ≤ 2 ^ 24; decide), by omega, b.app.app, fun i x S2 hi g2 b2 => ?_⟩
  · intro z
    injection z with z
    have := g.le
    simp only [List.length_append, List.length_cons, List.length_nil] at z this
    omega
  · have gg : Grow l S S2 := ((Grow.app.trans g).trans (Grow.app.trans Grow.app)).trans g2
    have key : ∃ q, Low q ∧ x = frD q := by
      have hm := List.mem_of_getElem? hi
      simp only [List.mem_cons, List.not_mem_nil, or_false] at hm
      have put : ∀ (n : Int) (d : Nat) (hd : d ≠ 0) (hc : n.natAbs.Coprime d), n.natAbs ≤ 99 → d ≤ 4 → x = D.tup [.int n, .int (d : Int)] → ∃ q, Low q ∧ x = frD q := fun n d hd hc h1 h2 e => ⟨⟨n, d, hd, hc⟩, ⟨h1, h2⟩, e⟩
      rcases hm with e | e | e | e | e | e | e | e | e
      · exact put 0 1 (by decide) (by decide) (by decide) (by decide) e
      · exact put 1 1 (by decide) (by decide) (by decide) (by decide) e
      · exact put (-1) 1 (by decide) (by decide) (by decide) (by decide) e
      · exact put 1 2 (by decide) (by decide) (by decide) (by decide) e
      · exact put (-3) 2 (by decide) (by decide) (by decide) (by decide) e
      · exact put 2 1 (by decide) (by decide) (by decide) (by decide) e
      · exact put 5 3 (by decide) (by decide) (by decide) (by decide) e
      · exact put (-7) 4 (by decide) (by decide) (by decide) (by decide) e
      · exact put ((r : Int) - 99) 1 (by decide) (Nat.coprime_one_right _) (by omega) (by decide) e
    obtain ⟨q, hq, rfl⟩ := key
    exact fall_r (h q S2 hq gg b2)
theorem rng_at {n i : Nat} {d : D} (h : (rngD 0 n)[i]? = some d) : i < n ∧ d = natD i := by
  unfold rngD at h
  rw [List.getElem?_map] at h
  cases e : (List.range n)[i]? with
  | none => rw [e] at h; cases h
  | some j =>
    rw [e] at h
    obtain ⟨h1, h2⟩ := List.getElem?_eq_some_iff.mp e
    rw [List.getElem_range] at h2
    subst h2
    rw [List.length_range] at h1
    refine ⟨h1, (Option.some.inj h).symm.trans ?_⟩
    show D.int (0 + (i : Int)) = natD i
    rw [Int.zero_add]
    rfl
theorem rng_len {n : Nat} : (rngD 0 n).length = n := by unfold rngD; rw [List.length_map, List.length_range]
/-- a list, each item of which is drawn with at most k takes -/
theorem lc_bagAll {items : List D} {still : Sto → Prop} {S1 : Sto} {g : PTG} {tt : PTT} {te : PTE} {ρ : Vars} {R : Post} {l l2 c k : Nat} (P : Nat → D → Prop) (hz : items.length ≤ 1000) (hb : Bag S1 l l2 c) (hf : Few (c + k * items.length))
    (hst : ∀ S', Grow l S1 S' → still S')
    (hstep : ∀ (i : Nat) (d : D), items[i]? = some d → ∀ (S' : Sto) (c' : Nat), Grow l S1 S' → Few (c' + k) → Bag S' l l2 c' → ∀ (Y : D → Sto → Prop) (N : Sto → Prop), (∀ y S2, P i y → Grow l S' S2 → Bag S2 l l2 (c' + k) → Y y S2) →
      g d ρ S' fun ρ2 S2 => tt ρ2 S2 fun b S3 => if b = true then te ρ2 S3 Y else N S3)
    (h : ∀ (ys : List D) S', ys.length = items.length → (∀ m y, ys[m]? = some y → P m y) → S'[S1.length]? = some (.lst ys) → Grow l S1 S' → Bag S' l l2 (c + k * items.length) → R (.loc S1.length) S') :
    lcIn g tt te ρ R items still S1 := by
  have l1 := hb.lt1
  have l2' := hb.lt2
  refine ⟨fun i S' => ∃ ys : List D, S'[S1.length]? = some (.lst ys) ∧ ys.length = i ∧ (∀ m y, ys[m]? = some y → P m y) ∧ Grow l S1 S' ∧ Bag S' l l2 (c + k * i), ⟨[], at_new, rfl, (by intro m y hm; cases hm), Grow.app, hb.app⟩, fun i S' ⟨_, _, _, _, g, _⟩ => hst S' g, ?_, ?_⟩
  · rintro i d S' hi ⟨ys, h1, h2, h3, g, b⟩
    have hil := (List.getElem?_eq_some_iff.mp hi).1
    have hk : k * i + k ≤ k * items.length := by rw [← Nat.mul_succ]; exact Nat.mul_le_mul_left k hil
    refine hstep i d hi S' (c + k * i) g (by show _ < 2 ^ 200; have : c + k * items.length < 2 ^ 200 := hf; omega) b _ _ fun y S2 hy g2 b2 => ?_
    have h4 : S2[S1.length]? = some (.lst ys) := (g2.at_ _ (lt_of_at h1) (by omega)).trans h1
    refine ⟨ys, h4, by show _ < 2 ^ 24; omega, ys ++ [y], at_set (lt_of_at h4), by rw [List.length_append, h2]; rfl, fun m z hz => ?_, (g.trans g2).set_new (Nat.le_refl _), ?_⟩
    · by_cases e : m < ys.length
      · rw [List.getElem?_append_left e] at hz
        exact h3 m z hz
      · have hm2 := (List.getElem?_eq_some_iff.mp hz).1
        rw [List.length_append, List.length_singleton] at hm2
        have em : m = ys.length := by omega
        subst em
        rw [List.getElem?_append_right (Nat.le_refl _), Nat.sub_self] at hz
        have ez : y = z := Option.some.inj hz
        subst ez
        rw [h2]
        exact hy
    · have e : c + k * (i + 1) = c + k * i + k := by rw [Nat.mul_succ]; omega
      rw [e]
      exact b2.set (by omega) (by omega)
  · rintro S' ⟨ys, h1, h2, h3, g, b⟩
    exact h ys S' h2 h3 h1 g b
theorem all_map {α : Type} {f : α → D} {Q : α → Prop} : ∀ (ys : List D), (∀ y ∈ ys, ∃ a, Q a ∧ y = f a) → ∃ as : List α, ys = as.map f ∧ ∀ a ∈ as, Q a
  | [], _ => ⟨[], rfl, fun a h => nomatch h⟩
  | y :: r, h => by
    obtain ⟨a, h1, rfl⟩ := h y List.mem_cons_self
    obtain ⟨as, rfl, h2⟩ := all_map r fun y hy => h y (List.mem_cons_of_mem _ hy)
    exact ⟨a :: as, rfl, fun b hb => (List.mem_cons.mp hb).elim (fun e => e ▸ h1) (h2 b)⟩
end K36

set_option Elab.async false
set_option linter.all false
set_option maxRecDepth 100000
set_option maxHeartbeats 1000000
/-! Fractions, word by word. -/
namespace K36
open PySem PySem.Spec PyProof.Rows L2 Za K4
theorem Sm.sq {n : Nat} {q : Rat} (h : Sm n q) (k : n ≤ 4400) : Sq q := by
  have key : ∀ m : Nat, m < 2 ^ n → m.log2 < 4400 := fun m hm => by
    by_cases z : m = 0
    · rw [z, Nat.log2_zero]; decide
    · have := (Nat.log2_lt z).mpr hm; omega
  exact ⟨key _ h.1, key _ h.2⟩
theorem sem_fraction (ds : List D) (S : Sto) (R : Post) (PX : PXK) (h : sp_fraction ds S R PX) : t_fraction (endF S.length R) (startD N_fraction ds) S := by
  obtain ⟨n, d, rfl, hd, h1, h2, h⟩ := h
  have hp : 0 < d := Nat.pos_of_ne_zero hd
  unfold t_fraction N_fraction
  refine seq_go fun K1 hK1 => ?_
  simp (disch := (first | assumption | (simp only [List.length_append, List.length_cons, List.length_nil, List.length_set]; omega))) only [pAsg, pBin, pVar, pC, pgName, pgTup, pgCons, pgNil, pCall, pCons, pNil, pTest, pI2_int, pMul_int, seqOf_tup, atI_0, atI_1, pIx, pRet, pTup, pIf, pNeg, pPar, pPar3, pI1, pI2c, pCallF, pAdd_int, pDrop, pIfS, pNext, startD, List.map_cons, List.map_nil, List.length_cons, List.length_nil, List.cons_append, List.nil_append, List.replicate, List.set_cons_zero, List.set_cons_succ, List.getElem?_cons_zero, List.getElem?_cons_succ, Option.some.injEq, exists_eq_left', exists_eq_left, D.int.injEq, D.bl.injEq, D.tup.injEq, D.loc.injEq, List.cons.injEq, and_true, true_and, exists_eq_right, and_assoc, exists_and_left, Nat.reduceAdd, Nat.reduceSub, List.replicate_zero, List.replicate_succ, atI_2, atI_3, pEq_int, pNe_int, tupG_eq, lc_eq, for_eq, pEn, pSq, pZp, pRng1, pCut_eq, cutV_loc, cutV_tup, pAdd_loc, pAdd_tup, pInt_int, pInt_bl, pLen, pPart, pNoPart, pLst, pAugS, pPut, pgSub, ix40, ix41, ix42, lst_inj, seqOf_get, cellL_lst, Option.map_some, at_app, at_new, at_set, at_set_ne]
  rw [if_neg (by rw [decide_eq_true_eq]; omega)]
  subst hK1
  refine seq_go fun K2 hK2 => ?_
  simp (disch := (first | assumption | (simp only [List.length_append, List.length_cons, List.length_nil, List.length_set]; omega))) only [pAsg, pBin, pVar, pC, pgName, pgTup, pgCons, pgNil, pCall, pCons, pNil, pTest, pI2_int, pMul_int, seqOf_tup, atI_0, atI_1, pIx, pRet, pTup, pIf, pNeg, pPar, pPar3, pI1, pI2c, pCallF, pAdd_int, pDrop, pIfS, pNext, startD, List.map_cons, List.map_nil, List.length_cons, List.length_nil, List.cons_append, List.nil_append, List.replicate, List.set_cons_zero, List.set_cons_succ, List.getElem?_cons_zero, List.getElem?_cons_succ, Option.some.injEq, exists_eq_left', exists_eq_left, D.int.injEq, D.bl.injEq, D.tup.injEq, D.loc.injEq, List.cons.injEq, and_true, true_and, exists_eq_right, and_assoc, exists_and_left, Nat.reduceAdd, Nat.reduceSub, List.replicate_zero, List.replicate_succ, atI_2, atI_3, pEq_int, pNe_int, tupG_eq, lc_eq, for_eq, pEn, pSq, pZp, pRng1, pCut_eq, cutV_loc, cutV_tup, pAdd_loc, pAdd_tup, pInt_int, pInt_bl, pLen, pPart, pNoPart, pLst, pAugS, pPut, pgSub, ix40, ix41, ix42, lst_inj, seqOf_get, cellL_lst, Option.map_some, at_app, at_new, at_set, at_set_ne]
  subst hK2
  refine seq_go fun K3 hK3 => ?_
  simp (disch := (first | assumption | (simp only [List.length_append, List.length_cons, List.length_nil, List.length_set]; omega))) only [pAsg, pBin, pVar, pC, pgName, pgTup, pgCons, pgNil, pCall, pCons, pNil, pTest, pI2_int, pMul_int, seqOf_tup, atI_0, atI_1, pIx, pRet, pTup, pIf, pNeg, pPar, pPar3, pI1, pI2c, pCallF, pAdd_int, pDrop, pIfS, pNext, startD, List.map_cons, List.map_nil, List.length_cons, List.length_nil, List.cons_append, List.nil_append, List.replicate, List.set_cons_zero, List.set_cons_succ, List.getElem?_cons_zero, List.getElem?_cons_succ, Option.some.injEq, exists_eq_left', exists_eq_left, D.int.injEq, D.bl.injEq, D.tup.injEq, D.loc.injEq, List.cons.injEq, and_true, true_and, exists_eq_right, and_assoc, exists_and_left, Nat.reduceAdd, Nat.reduceSub, List.replicate_zero, List.replicate_succ, atI_2, atI_3, pEq_int, pNe_int, tupG_eq, lc_eq, for_eq, pEn, pSq, pZp, pRng1, pCut_eq, cutV_loc, cutV_tup, pAdd_loc, pAdd_tup, pInt_int, pInt_bl, pLen, pPart, pNoPart, pLst, pAugS, pPut, pgSub, ix40, ix41, ix42, lst_inj, seqOf_get, cellL_lst, Option.map_some, at_app, at_new, at_set, at_set_ne]
  rw [if_neg (by rw [decide_eq_true_eq]; omega)]
  subst hK3
  simp (disch := (first | assumption | (simp only [List.length_append, List.length_cons, List.length_nil, List.length_set]; omega))) only [pAsg, pBin, pVar, pC, pgName, pgTup, pgCons, pgNil, pCall, pCons, pNil, pTest, pI2_int, pMul_int, seqOf_tup, atI_0, atI_1, pIx, pRet, pTup, pIf, pNeg, pPar, pPar3, pI1, pI2c, pCallF, pAdd_int, pDrop, pIfS, pNext, startD, List.map_cons, List.map_nil, List.length_cons, List.length_nil, List.cons_append, List.nil_append, List.replicate, List.set_cons_zero, List.set_cons_succ, List.getElem?_cons_zero, List.getElem?_cons_succ, Option.some.injEq, exists_eq_left', exists_eq_left, D.int.injEq, D.bl.injEq, D.tup.injEq, D.loc.injEq, List.cons.injEq, and_true, true_and, exists_eq_right, and_assoc, exists_and_left, Nat.reduceAdd, Nat.reduceSub, List.replicate_zero, List.replicate_succ, atI_2, atI_3, pEq_int, pNe_int, tupG_eq, lc_eq, for_eq, pEn, pSq, pZp, pRng1, pCut_eq, cutV_loc, cutV_tup, pAdd_loc, pAdd_tup, pInt_int, pInt_bl, pLen, pPart, pNoPart, pLst, pAugS, pPut, pgSub, ix40, ix41, ix42, lst_inj, seqOf_get, cellL_lst, Option.map_some, at_app, at_new, at_set, at_set_ne]
  simp only [Int.natAbs_natCast]
  rw [fdiv_nat, fdiv_ediv]
  obtain ⟨e1, e2⟩ := mk_num_den n hd
  refine ⟨cdiv_r hp (by omega), cdiv_r hp (by omega), (by decide), ?_⟩
  have e3 : frD (mkRat n d) = D.tup [D.int (n / ((n.natAbs.gcd d : Nat) : Int)), D.int ((d / n.natAbs.gcd d : Nat) : Int)] := by
    unfold frD
    rw [e1, e2]
  rw [← e3]
  exact fall_r h
theorem num_pos' {b : Rat} (h : 0 < b) : 0 < b.num := by
  have := (Rat.lt_iff 0 b).mp h
  have e : (0 : Rat).num = 0 := rfl
  have e2 : (0 : Rat).den = 1 := rfl
  rw [e, e2] at this
  omega
theorem div_mk {a b : Rat} (h : 0 < b) : a / b = mkRat (a.num * b.den) (a.den * b.num.natAbs) := by
  have hn : 0 < b.num := num_pos' h
  rw [Rat.div_def, Rat.inv_def]
  have e : b.num = (b.num.natAbs : Int) := by omega
  have e2 : Rat.divInt (b.den : Int) b.num = mkRat (b.den : Int) b.num.natAbs := by
    conv => lhs; rw [e]
    rfl
  rw [e2]
  have hz : b.num.natAbs ≠ 0 := by omega
  conv => lhs; rw [← Rat.mkRat_self a]
  rw [Rat.mkRat_mul_mkRat]
theorem sem_over_any {sp : PSp} (hsp : ∀ ds S R, sp_fraction ds S R PXno → sp ds S R PXno) (ds : List D) (S : Sto) (R : Post) (PX : PXK) (h : sp_over ds S R PX) :
    pRet (pCallF sp PXno (pCons (pBin pMul (pBin pIx (pVar 0) (pC (.int 0))) (pBin pIx (pVar 1) (pC (.int 1)))) (pCons (pBin pMul (pBin pIx (pVar 0) (pC (.int 1))) (pBin pIx (pVar 1) (pC (.int 0)))) pNil))) (endF S.length R) (startD ["one", "other"] ds) S := by
  obtain ⟨a, b, rfl, hb, ⟨h1, h2⟩, ⟨h3, h4⟩, h⟩ := h
  have hn : 0 < b.num := num_pos' hb
  unfold frD
  simp only [pSeq, pAsg, pBin, pVar, pC, pgName, pgTup, pgCons, pgNil, pCall, pCons, pNil, pTest, pI2_int, pMul_int, seqOf_tup, atI_0, atI_1, pIx, pRet, pTup, pIf, pNeg, pPar, pPar3, pI1, pI2c, pCallF, pAdd_int, pDrop, pIfS, pNext, startD, List.map_cons, List.map_nil, List.length_cons, List.length_nil, List.cons_append, List.nil_append, List.replicate, List.set_cons_zero, List.set_cons_succ, List.getElem?_cons_zero, List.getElem?_cons_succ, Option.some.injEq, exists_eq_left', exists_eq_left, D.int.injEq, D.bl.injEq, D.tup.injEq, List.cons.injEq, and_true, true_and, exists_eq_right, and_assoc, exists_and_left, Nat.reduceAdd, Nat.reduceSub, List.replicate_zero, List.replicate_succ]
  have en : b.num = (b.num.natAbs : Int) := by omega
  refine ⟨cmul_of (m := 4400) (n := 4400) (by omega) (by rw [Int.natAbs_natCast]; omega) (by omega), cmul_of (m := 4400) (n := 4400) (by rw [Int.natAbs_natCast]; omega) (by omega) (by omega), hsp _ _ _ ⟨a.num * b.den, a.den * b.num.natAbs, ?_, ?_, ?_, ?_, ?_⟩⟩
  · rw [Int.natCast_mul, ← en]
  · exact Nat.mul_ne_zero a.den_nz (by omega)
  · rw [Int.natAbs_mul, Int.natAbs_natCast]; have := log_mul (a := a.num.natAbs) (b := b.den); omega
  · have := log_mul (a := a.den) (b := b.num.natAbs); omega
  · rw [← div_mk hb]
    exact fall_r h
theorem sem_over (ds : List D) (S : Sto) (R : Post) (PX : PXK) (h : sp_over ds S R PX) : t_over (endF S.length R) (startD N_over ds) S :=
  sem_over_any (fun _ _ _ h => h) ds S R PX h
theorem sem_law_over (ds : List D) (S : Sto) (R : Post) (PX : PXK) (h : sp_law_over ds S R PX) : t_law_over (endF S.length R) (startD N_law_over ds) S :=
  sem_over_any (sp := sp_law_f) (fun _ _ _ h => h) ds S R PX h
theorem sem_size_of (ds : List D) (S : Sto) (R : Post) (PX : PXK) (h : sp_size_of ds S R PX) : t_size_of (endF S.length R) (startD N_size_of ds) S := by
  obtain ⟨a, rfl, h⟩ := h
  unfold t_size_of N_size_of frD
  simp only [pSeq, pAsg, pBin, pVar, pC, pgName, pgTup, pgCons, pgNil, pCall, pCons, pNil, pTest, pI2_int, pMul_int, seqOf_tup, atI_0, atI_1, pIx, pRet, pTup, pIf, pNeg, pPar, pPar3, pI1, pI2c, pCallF, pAdd_int, pDrop, pIfS, pNext, startD, List.map_cons, List.map_nil, List.length_cons, List.length_nil, List.cons_append, List.nil_append, List.replicate, List.set_cons_zero, List.set_cons_succ, List.getElem?_cons_zero, List.getElem?_cons_succ, Option.some.injEq, exists_eq_left', exists_eq_left, D.int.injEq, D.bl.injEq, D.tup.injEq, List.cons.injEq, and_true, true_and, exists_eq_right, and_assoc, exists_and_left, Nat.reduceAdd, Nat.reduceSub, List.replicate_zero, List.replicate_succ]
  refine ⟨by decide, ?_⟩
  have e : (if a.num < 0 then -a.num else a.num) = (a.num.natAbs : Int) := by split <;> omega
  rw [e]
  exact fall_r h
theorem sem_law_size (ds : List D) (S : Sto) (R : Post) (PX : PXK) (h : sp_law_size ds S R PX) : t_law_size (endF S.length R) (startD N_law_size ds) S := sem_size_of ds S R PX h
theorem sem_law_below (ds : List D) (S : Sto) (R : Post) (PX : PXK) (h : sp_law_below ds S R PX) : t_law_below (endF S.length R) (startD N_law_below ds) S := by
  obtain ⟨a, b, rfl, ⟨h1, h2⟩, ⟨h3, h4⟩, h⟩ := h
  unfold t_law_below N_law_below frD
  simp only [pSeq, pAsg, pBin, pVar, pC, pgName, pgTup, pgCons, pgNil, pCall, pCons, pNil, pTest, pI2_int, pMul_int, seqOf_tup, atI_0, atI_1, pIx, pRet, pTup, pIf, pNeg, pPar, pPar3, pI1, pI2c, pCallF, pAdd_int, pDrop, pIfS, pNext, startD, List.map_cons, List.map_nil, List.length_cons, List.length_nil, List.cons_append, List.nil_append, List.replicate, List.set_cons_zero, List.set_cons_succ, List.getElem?_cons_zero, List.getElem?_cons_succ, Option.some.injEq, exists_eq_left', exists_eq_left, D.int.injEq, D.bl.injEq, D.tup.injEq, List.cons.injEq, and_true, true_and, exists_eq_right, and_assoc, exists_and_left, Nat.reduceAdd, Nat.reduceSub, List.replicate_zero, List.replicate_succ]
  refine ⟨cmul_of (m := 4400) (n := 4400) (by omega) (by rw [Int.natAbs_natCast]; omega) (by omega), cmul_of (m := 4400) (n := 4400) (by omega) (by rw [Int.natAbs_natCast]; omega) (by omega), ?_⟩
  have e : decide (a.num * (b.den : Int) < b.num * (a.den : Int)) = decide (a < b) := decide_eq_decide.mpr (Rat.lt_iff a b).symm
  rw [e]
  exact fall_r h
theorem sem_compare (ds : List D) (S : Sto) (R : Post) (PX : PXK) (h : sp_compare ds S R PX) : t_compare (endF S.length R) (startD N_compare ds) S := by
  obtain ⟨a, b, rfl, ⟨h1, h2⟩, ⟨h3, h4⟩, h⟩ := h
  unfold t_compare N_compare frD
  refine seq_go fun K1 hK1 => ?_
  simp (disch := (first | assumption | (simp only [List.length_append, List.length_cons, List.length_nil, List.length_set]; omega))) only [pAsg, pBin, pVar, pC, pgName, pgTup, pgCons, pgNil, pCall, pCons, pNil, pTest, pI2_int, pMul_int, seqOf_tup, atI_0, atI_1, pIx, pRet, pTup, pIf, pNeg, pPar, pPar3, pI1, pI2c, pCallF, pAdd_int, pDrop, pIfS, pNext, startD, List.map_cons, List.map_nil, List.length_cons, List.length_nil, List.cons_append, List.nil_append, List.replicate, List.set_cons_zero, List.set_cons_succ, List.getElem?_cons_zero, List.getElem?_cons_succ, Option.some.injEq, exists_eq_left', exists_eq_left, D.int.injEq, D.bl.injEq, D.tup.injEq, D.loc.injEq, List.cons.injEq, and_true, true_and, exists_eq_right, and_assoc, exists_and_left, Nat.reduceAdd, Nat.reduceSub, List.replicate_zero, List.replicate_succ, atI_2, atI_3, pEq_int, pNe_int, tupG_eq, lc_eq, for_eq, pEn, pSq, pZp, pRng1, pCut_eq, cutV_loc, cutV_tup, pAdd_loc, pAdd_tup, pInt_int, pInt_bl, pLen, pPart, pNoPart, pLst, pAugS, pPut, pgSub, ix40, ix41, ix42, lst_inj, seqOf_get, cellL_lst, Option.map_some, at_app, at_new, at_set, at_set_ne]
  refine ⟨cmul_of (m := 4400) (n := 4400) (by omega) (by rw [Int.natAbs_natCast]; omega) (by omega), ?_⟩
  subst hK1
  refine seq_go fun K2 hK2 => ?_
  simp (disch := (first | assumption | (simp only [List.length_append, List.length_cons, List.length_nil, List.length_set]; omega))) only [pAsg, pBin, pVar, pC, pgName, pgTup, pgCons, pgNil, pCall, pCons, pNil, pTest, pI2_int, pMul_int, seqOf_tup, atI_0, atI_1, pIx, pRet, pTup, pIf, pNeg, pPar, pPar3, pI1, pI2c, pCallF, pAdd_int, pDrop, pIfS, pNext, startD, List.map_cons, List.map_nil, List.length_cons, List.length_nil, List.cons_append, List.nil_append, List.replicate, List.set_cons_zero, List.set_cons_succ, List.getElem?_cons_zero, List.getElem?_cons_succ, Option.some.injEq, exists_eq_left', exists_eq_left, D.int.injEq, D.bl.injEq, D.tup.injEq, D.loc.injEq, List.cons.injEq, and_true, true_and, exists_eq_right, and_assoc, exists_and_left, Nat.reduceAdd, Nat.reduceSub, List.replicate_zero, List.replicate_succ, atI_2, atI_3, pEq_int, pNe_int, tupG_eq, lc_eq, for_eq, pEn, pSq, pZp, pRng1, pCut_eq, cutV_loc, cutV_tup, pAdd_loc, pAdd_tup, pInt_int, pInt_bl, pLen, pPart, pNoPart, pLst, pAugS, pPut, pgSub, ix40, ix41, ix42, lst_inj, seqOf_get, cellL_lst, Option.map_some, at_app, at_new, at_set, at_set_ne]
  refine ⟨cmul_of (m := 4400) (n := 4400) (by omega) (by rw [Int.natAbs_natCast]; omega) (by omega), ?_⟩
  subst hK2
  refine seq_go fun K3 hK3 => ?_
  simp (disch := (first | assumption | (simp only [List.length_append, List.length_cons, List.length_nil, List.length_set]; omega))) only [pAsg, pBin, pVar, pC, pgName, pgTup, pgCons, pgNil, pCall, pCons, pNil, pTest, pI2_int, pMul_int, seqOf_tup, atI_0, atI_1, pIx, pRet, pTup, pIf, pNeg, pPar, pPar3, pI1, pI2c, pCallF, pAdd_int, pDrop, pIfS, pNext, startD, List.map_cons, List.map_nil, List.length_cons, List.length_nil, List.cons_append, List.nil_append, List.replicate, List.set_cons_zero, List.set_cons_succ, List.getElem?_cons_zero, List.getElem?_cons_succ, Option.some.injEq, exists_eq_left', exists_eq_left, D.int.injEq, D.bl.injEq, D.tup.injEq, D.loc.injEq, List.cons.injEq, and_true, true_and, exists_eq_right, and_assoc, exists_and_left, Nat.reduceAdd, Nat.reduceSub, List.replicate_zero, List.replicate_succ, atI_2, atI_3, pEq_int, pNe_int, tupG_eq, lc_eq, for_eq, pEn, pSq, pZp, pRng1, pCut_eq, cutV_loc, cutV_tup, pAdd_loc, pAdd_tup, pInt_int, pInt_bl, pLen, pPart, pNoPart, pLst, pAugS, pPut, pgSub, ix40, ix41, ix42, lst_inj, seqOf_get, cellL_lst, Option.map_some, at_app, at_new, at_set, at_set_ne]
  have e1 : (a.num * (b.den : Int) = b.num * (a.den : Int)) ↔ a = b := Rat.eq_iff_mul_eq_mul.symm
  have e2 := Rat.lt_iff a b
  unfold cmpQ at h
  split
  · rename_i hk
    rw [if_pos (e1.mp (of_decide_eq_true hk))] at h
    exact fall_r h
  · rename_i hk
    rw [if_neg (fun z => hk (decide_eq_true (e1.mpr z)))] at h
    subst hK3
    simp (disch := (first | assumption | (simp only [List.length_append, List.length_cons, List.length_nil, List.length_set]; omega))) only [pAsg, pBin, pVar, pC, pgName, pgTup, pgCons, pgNil, pCall, pCons, pNil, pTest, pI2_int, pMul_int, seqOf_tup, atI_0, atI_1, pIx, pRet, pTup, pIf, pNeg, pPar, pPar3, pI1, pI2c, pCallF, pAdd_int, pDrop, pIfS, pNext, startD, List.map_cons, List.map_nil, List.length_cons, List.length_nil, List.cons_append, List.nil_append, List.replicate, List.set_cons_zero, List.set_cons_succ, List.getElem?_cons_zero, List.getElem?_cons_succ, Option.some.injEq, exists_eq_left', exists_eq_left, D.int.injEq, D.bl.injEq, D.tup.injEq, D.loc.injEq, List.cons.injEq, and_true, true_and, exists_eq_right, and_assoc, exists_and_left, Nat.reduceAdd, Nat.reduceSub, List.replicate_zero, List.replicate_succ, atI_2, atI_3, pEq_int, pNe_int, tupG_eq, lc_eq, for_eq, pEn, pSq, pZp, pRng1, pCut_eq, cutV_loc, cutV_tup, pAdd_loc, pAdd_tup, pInt_int, pInt_bl, pLen, pPart, pNoPart, pLst, pAugS, pPut, pgSub, ix40, ix41, ix42, lst_inj, seqOf_get, cellL_lst, Option.map_some, at_app, at_new, at_set, at_set_ne]
    split
    · rename_i hl
      rw [if_pos (e2.mpr (of_decide_eq_true hl))] at h
      exact fall_r h
    · rename_i hl
      rw [if_neg (fun z => hl (decide_eq_true (e2.mp z)))] at h
      exact fall_r h
theorem cmp_gt (a b : Rat) : (0 < cmpQ a b) ↔ b < a := by
  unfold cmpQ
  split
  · rename_i h; subst h; constructor <;> intro z <;> first | omega | grind
  · split
    · constructor <;> intro z <;> first | omega | grind
    · constructor <;> intro z <;> first | omega | grind
theorem cmp_le (a b : Rat) : (cmpQ a b ≤ 0) ↔ a ≤ b := by
  have := cmp_gt a b
  constructor
  · intro h
    rw [← Rat.not_lt]
    intro z
    have := (cmp_gt a b).mpr z
    omega
  · intro h
    have h2 : ¬ 0 < cmpQ a b := fun z => absurd ((cmp_gt a b).mp z) (Rat.not_lt.mpr h)
    omega
theorem sem_greatest (ds : List D) (S : Sto) (R : Post) (PX : PXK) (h : sp_greatest ds S R PX) : t_greatest (endF S.length R) (startD N_greatest ds) S := by
  obtain ⟨d, qs, rfl, hs, hne, hq, h⟩ := h
  obtain ⟨q, r, rfl⟩ : ∃ q r, qs = q :: r := by
    cases qs with
    | nil => exact absurd rfl hne
    | cons q r => exact ⟨q, r, rfl⟩
  unfold t_greatest N_greatest
  refine seq_go fun K1 hK1 => ?_
  simp (disch := (first | assumption | (simp only [List.length_append, List.length_cons, List.length_nil, List.length_set]; omega))) only [pAsg, pBin, pVar, pC, pgName, pgTup, pgCons, pgNil, pCall, pCons, pNil, pTest, pI2_int, pMul_int, seqOf_tup, atI_0, atI_1, pIx, pRet, pTup, pIf, pNeg, pPar, pPar3, pI1, pI2c, pCallF, pAdd_int, pDrop, pIfS, pNext, startD, List.map_cons, List.map_nil, List.length_cons, List.length_nil, List.cons_append, List.nil_append, List.replicate, List.set_cons_zero, List.set_cons_succ, List.getElem?_cons_zero, List.getElem?_cons_succ, Option.some.injEq, exists_eq_left', exists_eq_left, D.int.injEq, D.bl.injEq, D.tup.injEq, D.loc.injEq, List.cons.injEq, and_true, true_and, exists_eq_right, and_assoc, exists_and_left, Nat.reduceAdd, Nat.reduceSub, List.replicate_zero, List.replicate_succ, atI_2, atI_3, pEq_int, pNe_int, tupG_eq, lc_eq, for_eq, pEn, pSq, pZp, pRng1, pCut_eq, cutV_loc, cutV_tup, pAdd_loc, pAdd_tup, pInt_int, pInt_bl, pLen, pPart, pNoPart, pLst, pAugS, pPut, pgSub, ix40, ix41, ix42, lst_inj, seqOf_get, cellL_lst, Option.map_some, at_app, at_new, at_set, at_set_ne]
  refine ⟨_, hs, ?_⟩
  rw [List.map_cons, atI_0]
  refine ⟨_, rfl, ?_⟩
  subst hK1
  refine seq_go fun K2 hK2 => ?_
  simp (disch := (first | assumption | (simp only [List.length_append, List.length_cons, List.length_nil, List.length_set]; omega))) only [pAsg, pBin, pVar, pC, pgName, pgTup, pgCons, pgNil, pCall, pCons, pNil, pTest, pI2_int, pMul_int, seqOf_tup, atI_0, atI_1, pIx, pRet, pTup, pIf, pNeg, pPar, pPar3, pI1, pI2c, pCallF, pAdd_int, pDrop, pIfS, pNext, startD, List.map_cons, List.map_nil, List.length_cons, List.length_nil, List.cons_append, List.nil_append, List.replicate, List.set_cons_zero, List.set_cons_succ, List.getElem?_cons_zero, List.getElem?_cons_succ, Option.some.injEq, exists_eq_left', exists_eq_left, D.int.injEq, D.bl.injEq, D.tup.injEq, D.loc.injEq, List.cons.injEq, and_true, true_and, exists_eq_right, and_assoc, exists_and_left, Nat.reduceAdd, Nat.reduceSub, List.replicate_zero, List.replicate_succ, atI_2, atI_3, pEq_int, pNe_int, tupG_eq, lc_eq, for_eq, pEn, pSq, pZp, pRng1, pCut_eq, cutV_loc, cutV_tup, pAdd_loc, pAdd_tup, pInt_int, pInt_bl, pLen, pPart, pNoPart, pLst, pAugS, pPut, pgSub, ix40, ix41, ix42, lst_inj, seqOf_get, cellL_lst, Option.map_some, at_app, at_new, at_set, at_set_ne]
  refine ⟨_, hs, fun i ρ' S' => S' = S ∧ ∃ c m, ρ' = [some d, some (frD m), c] ∧ m ∈ q :: r ∧ ((q :: r).drop i).foldl mxQ m = maxQ (q :: r), ⟨rfl, none, q, rfl, List.mem_cons_self, ?_⟩, fun i ρ' S' ⟨e, _⟩ => by rw [e]; exact hs, ?_, ?_⟩
  · show r.foldl mxQ (mxQ q q) = r.foldl mxQ q
    have : mxQ q q = q := by unfold mxQ; split <;> rfl
    rw [this]
  · rintro i dd ρ' S' hi ⟨rfl, c, m, rfl, hm, hf⟩
    rw [List.getElem?_map] at hi
    cases hx : (q :: r)[i]? with
    | none => rw [hx] at hi; cases hi
    | some x =>
      rw [hx] at hi
      cases hi
      have hdrop : (q :: r).drop i = x :: (q :: r).drop (i + 1) := (List.drop_eq_getElem_cons (List.getElem?_eq_some_iff.mp hx).1).trans (by rw [(List.getElem?_eq_some_iff.mp hx).2])
      rw [hdrop] at hf
      have hxm := List.mem_of_getElem? hx
      have hf : ((q :: r).drop (i + 1)).foldl mxQ (mxQ m x) = maxQ (q :: r) := hf
      simp (disch := (first | assumption | (simp only [List.length_append, List.length_cons, List.length_nil, List.length_set]; omega))) only [pAsg, pBin, pVar, pC, pgName, pgTup, pgCons, pgNil, pCall, pCons, pNil, pTest, pI2_int, pMul_int, seqOf_tup, atI_0, atI_1, pIx, pRet, pTup, pIf, pNeg, pPar, pPar3, pI1, pI2c, pCallF, pAdd_int, pDrop, pIfS, pNext, startD, List.map_cons, List.map_nil, List.length_cons, List.length_nil, List.cons_append, List.nil_append, List.replicate, List.set_cons_zero, List.set_cons_succ, List.getElem?_cons_zero, List.getElem?_cons_succ, Option.some.injEq, exists_eq_left', exists_eq_left, D.int.injEq, D.bl.injEq, D.tup.injEq, D.loc.injEq, List.cons.injEq, and_true, true_and, exists_eq_right, and_assoc, exists_and_left, Nat.reduceAdd, Nat.reduceSub, List.replicate_zero, List.replicate_succ, atI_2, atI_3, pEq_int, pNe_int, tupG_eq, lc_eq, for_eq, pEn, pSq, pZp, pRng1, pCut_eq, cutV_loc, cutV_tup, pAdd_loc, pAdd_tup, pInt_int, pInt_bl, pLen, pPart, pNoPart, pLst, pAugS, pPut, pgSub, ix40, ix41, ix42, lst_inj, seqOf_get, cellL_lst, Option.map_some, at_app, at_new, at_set, at_set_ne]
      refine ⟨x, m, rfl, hq x hxm, hq m hm, ?_⟩
      simp (disch := (first | assumption | (simp only [List.length_append, List.length_cons, List.length_nil, List.length_set]; omega))) only [pAsg, pBin, pVar, pC, pgName, pgTup, pgCons, pgNil, pCall, pCons, pNil, pTest, pI2_int, pMul_int, seqOf_tup, atI_0, atI_1, pIx, pRet, pTup, pIf, pNeg, pPar, pPar3, pI1, pI2c, pCallF, pAdd_int, pDrop, pIfS, pNext, startD, List.map_cons, List.map_nil, List.length_cons, List.length_nil, List.cons_append, List.nil_append, List.replicate, List.set_cons_zero, List.set_cons_succ, List.getElem?_cons_zero, List.getElem?_cons_succ, Option.some.injEq, exists_eq_left', exists_eq_left, D.int.injEq, D.bl.injEq, D.tup.injEq, D.loc.injEq, List.cons.injEq, and_true, true_and, exists_eq_right, and_assoc, exists_and_left, Nat.reduceAdd, Nat.reduceSub, List.replicate_zero, List.replicate_succ, atI_2, atI_3, pEq_int, pNe_int, tupG_eq, lc_eq, for_eq, pEn, pSq, pZp, pRng1, pCut_eq, cutV_loc, cutV_tup, pAdd_loc, pAdd_tup, pInt_int, pInt_bl, pLen, pPart, pNoPart, pLst, pAugS, pPut, pgSub, ix40, ix41, ix42, lst_inj, seqOf_get, cellL_lst, Option.map_some, at_app, at_new, at_set, at_set_ne]
      have e : decide ((0 : Int) < cmpQ x m) = decide (m < x) := decide_eq_decide.mpr (cmp_gt x m)
      rw [e]
      unfold mxQ at hf
      split
      · rename_i hk
        rw [if_pos (of_decide_eq_true hk)] at hf
        exact ⟨some (frD x), x, rfl, rfl, hxm, hf⟩
      · rename_i hk
        rw [if_neg (fun z => hk (decide_eq_true z))] at hf
        exact ⟨some (frD x), m, rfl, rfl, hm, hf⟩
  · rintro ρ' S' ⟨rfl, c, m, rfl, hm, hf⟩
    rw [List.length_map, List.drop_length] at hf
    have hf : m = maxQ (q :: r) := hf
    subst hK2
    simp (disch := (first | assumption | (simp only [List.length_append, List.length_cons, List.length_nil, List.length_set]; omega))) only [pAsg, pBin, pVar, pC, pgName, pgTup, pgCons, pgNil, pCall, pCons, pNil, pTest, pI2_int, pMul_int, seqOf_tup, atI_0, atI_1, pIx, pRet, pTup, pIf, pNeg, pPar, pPar3, pI1, pI2c, pCallF, pAdd_int, pDrop, pIfS, pNext, startD, List.map_cons, List.map_nil, List.length_cons, List.length_nil, List.cons_append, List.nil_append, List.replicate, List.set_cons_zero, List.set_cons_succ, List.getElem?_cons_zero, List.getElem?_cons_succ, Option.some.injEq, exists_eq_left', exists_eq_left, D.int.injEq, D.bl.injEq, D.tup.injEq, D.loc.injEq, List.cons.injEq, and_true, true_and, exists_eq_right, and_assoc, exists_and_left, Nat.reduceAdd, Nat.reduceSub, List.replicate_zero, List.replicate_succ, atI_2, atI_3, pEq_int, pNe_int, tupG_eq, lc_eq, for_eq, pEn, pSq, pZp, pRng1, pCut_eq, cutV_loc, cutV_tup, pAdd_loc, pAdd_tup, pInt_int, pInt_bl, pLen, pPart, pNoPart, pLst, pAugS, pPut, pgSub, ix40, ix41, ix42, lst_inj, seqOf_get, cellL_lst, Option.map_some, at_app, at_new, at_set, at_set_ne]
    rw [hf]
    exact fall_r h
end K36

set_option Elab.async false
set_option linter.all false
set_option maxRecDepth 100000
set_option maxHeartbeats 1000000
/-! Powers; greatest quotients. -/
namespace K36
open PySem PySem.Spec PyProof.Rows L2 Za K4
theorem pow_small {a : Int} (h : a.natAbs ≤ 100) {m : Nat} (k : m ≤ 12) : (a ^ m).natAbs.log2 < 200 := by
  have h1 : (a ^ m).natAbs ≤ 100 ^ 12 := by
    rw [Int.natAbs_pow]
    exact Nat.le_trans (Nat.pow_le_pow_left h m) (Nat.pow_le_pow_right (by decide) k)
  have h2 := log_mono h1
  have h3 : (100 ^ 12 : Nat).log2 < 200 := by decide
  omega
theorem sem_power (n : Nat) (sp : PSp) (hsp : ∀ ds S R, (∃ k, n = k + 1 ∧ sp_powerN k ds S R PXno) → sp ds S R PXno) (ds : List D) (S : Sto) (R : Post) (PX : PXK) (h : sp_powerN n ds S R PX) : t_power sp (endF S.length R) (startD N_power ds) S := by
  obtain ⟨a, m, rfl, hm, ha, h12, h⟩ := h
  unfold t_power N_power
  refine seq_go fun K1 hK1 => ?_
  simp (disch := (first | assumption | (simp only [List.length_append, List.length_cons, List.length_nil, List.length_set]; omega))) only [pAsg, pBin, pVar, pC, pgName, pgTup, pgCons, pgNil, pCall, pCons, pNil, pTest, pI2_int, pMul_int, seqOf_tup, atI_0, atI_1, pIx, pRet, pTup, pIf, pNeg, pPar, pPar3, pI1, pI2c, pCallF, pAdd_int, pDrop, pIfS, pNext, startD, List.map_cons, List.map_nil, List.length_cons, List.length_nil, List.cons_append, List.nil_append, List.replicate, List.set_cons_zero, List.set_cons_succ, List.getElem?_cons_zero, List.getElem?_cons_succ, Option.some.injEq, exists_eq_left', exists_eq_left, D.int.injEq, D.bl.injEq, D.tup.injEq, D.loc.injEq, List.cons.injEq, and_true, true_and, exists_eq_right, and_assoc, exists_and_left, Nat.reduceAdd, Nat.reduceSub, List.replicate_zero, List.replicate_succ, atI_2, atI_3, pEq_int, pNe_int, tupG_eq, lc_eq, for_eq, pEn, pSq, pZp, pRng1, pCut_eq, cutV_loc, cutV_tup, pAdd_loc, pAdd_tup, pInt_int, pInt_bl, pLen, pPart, pNoPart, pLst, pAugS, pPut, pgSub, ix40, ix41, ix42, lst_inj, seqOf_get, cellL_lst, Option.map_some, at_app, at_new, at_set, at_set_ne]
  split
  · rename_i hk
    have e : m = 0 := by have := of_decide_eq_true hk; omega
    subst e
    exact fall_r (by rw [Int.pow_zero] at h; exact h)
  · rename_i hk
    have hm0 : m ≠ 0 := fun z => hk (decide_eq_true (by omega))
    subst hK1
    refine seq_go fun K2 hK2 => ?_
    simp (disch := (first | assumption | (simp only [List.length_append, List.length_cons, List.length_nil, List.length_set]; omega))) only [pAsg, pBin, pVar, pC, pgName, pgTup, pgCons, pgNil, pCall, pCons, pNil, pTest, pI2_int, pMul_int, seqOf_tup, atI_0, atI_1, pIx, pRet, pTup, pIf, pNeg, pPar, pPar3, pI1, pI2c, pCallF, pAdd_int, pDrop, pIfS, pNext, startD, List.map_cons, List.map_nil, List.length_cons, List.length_nil, List.cons_append, List.nil_append, List.replicate, List.set_cons_zero, List.set_cons_succ, List.getElem?_cons_zero, List.getElem?_cons_succ, Option.some.injEq, exists_eq_left', exists_eq_left, D.int.injEq, D.bl.injEq, D.tup.injEq, D.loc.injEq, List.cons.injEq, and_true, true_and, exists_eq_right, and_assoc, exists_and_left, Nat.reduceAdd, Nat.reduceSub, List.replicate_zero, List.replicate_succ, atI_2, atI_3, pEq_int, pNe_int, tupG_eq, lc_eq, for_eq, pEn, pSq, pZp, pRng1, pCut_eq, cutV_loc, cutV_tup, pAdd_loc, pAdd_tup, pInt_int, pInt_bl, pLen, pPart, pNoPart, pLst, pAugS, pPut, pgSub, ix40, ix41, ix42, lst_inj, seqOf_get, cellL_lst, Option.map_some, at_app, at_new, at_set, at_set_ne]
    cases n with
    | zero => rw [Nat.pow_zero] at hm; omega
    | succ n =>
      rw [Nat.pow_succ] at hm
      refine ⟨cdiv_nat (m := 2) (by decide) (by decide), hsp _ _ _ ⟨n, rfl, a, m / 2, ?_, by omega, ha, by omega, ?_⟩⟩
      · rw [show ((m : Int)).fdiv 2 = ((m / 2 : Nat) : Int) from fdiv_nat m 2]
      · subst hK2
        simp (disch := (first | assumption | (simp only [List.length_append, List.length_cons, List.length_nil, List.length_set]; omega))) only [pAsg, pBin, pVar, pC, pgName, pgTup, pgCons, pgNil, pCall, pCons, pNil, pTest, pI2_int, pMul_int, seqOf_tup, atI_0, atI_1, pIx, pRet, pTup, pIf, pNeg, pPar, pPar3, pI1, pI2c, pCallF, pAdd_int, pDrop, pIfS, pNext, startD, List.map_cons, List.map_nil, List.length_cons, List.length_nil, List.cons_append, List.nil_append, List.replicate, List.set_cons_zero, List.set_cons_succ, List.getElem?_cons_zero, List.getElem?_cons_succ, Option.some.injEq, exists_eq_left', exists_eq_left, D.int.injEq, D.bl.injEq, D.tup.injEq, D.loc.injEq, List.cons.injEq, and_true, true_and, exists_eq_right, and_assoc, exists_and_left, Nat.reduceAdd, Nat.reduceSub, List.replicate_zero, List.replicate_succ, atI_2, atI_3, pEq_int, pNe_int, tupG_eq, lc_eq, for_eq, pEn, pSq, pZp, pRng1, pCut_eq, cutV_loc, cutV_tup, pAdd_loc, pAdd_tup, pInt_int, pInt_bl, pLen, pPart, pNoPart, pLst, pAugS, pPut, pgSub, ix40, ix41, ix42, lst_inj, seqOf_get, cellL_lst, Option.map_some, at_app, at_new, at_set, at_set_ne]
        have l2 := pow_small ha (m := m / 2) (by omega)
        have em : (m : Int).fmod 2 = ((m % 2 : Nat) : Int) := by rw [show (2 : Int) = ((2 : Nat) : Int) from rfl, ← fmod_nat]
        refine ⟨by decide, ?_⟩
        rw [em]
        split
        · rename_i hk
          have e1 : m % 2 = 1 := by have := of_decide_eq_true hk; omega
          have lg : (a ^ (m / 2) * a ^ (m / 2)).natAbs.log2 ≤ 401 := by
            rw [Int.natAbs_mul]; have := log_mul (a := (a ^ (m / 2)).natAbs) (b := (a ^ (m / 2)).natAbs); omega
          have la : a.natAbs.log2 ≤ 100 := by have := log_mono ha; have e : (100 : Nat).log2 ≤ 100 := by decide
                                              omega
          refine ⟨cmul_of (m := 200) (n := 200) (by omega) (by omega) (by omega), cmul_of (m := 401) (n := 100) lg la (by omega), ?_⟩
          have e2 : a ^ (m / 2) * a ^ (m / 2) * a = a ^ m := by
            rw [← Int.pow_add, ← Int.pow_succ]; congr 1; omega
          rw [e2]
          exact fall_r h
        · rename_i hk
          have e1 : m % 2 = 0 := by
            have : ¬ m % 2 = 1 := fun z => hk (decide_eq_true (by omega))
            omega
          refine ⟨cmul_of (m := 200) (n := 200) (by omega) (by omega) (by omega), ?_⟩
          have e2 : a ^ (m / 2) * a ^ (m / 2) = a ^ m := by
            rw [← Int.pow_add]; congr 1; omega
          rw [e2]
          exact fall_r h
theorem Fine.at {ws : List Rat} {ps : List (Rat × Rat)} (f : Fine ws ps) {i : Nat} {d : D} (h : (zipD (ws.map frD) (ps.map vpD))[i]? = some d) : ∃ w p, ws[i]? = some w ∧ ps[i]? = some p ∧ d = .tup [frD w, vpD p] := by
  obtain ⟨x, y, h1, h2, rfl⟩ := zip_at h
  rw [List.getElem?_map] at h1 h2
  cases e1 : ws[i]? with
  | none => rw [e1] at h1; cases h1
  | some w =>
    cases e2 : ps[i]? with
    | none => rw [e2] at h2; cases h2
    | some p =>
      rw [e1] at h1; rw [e2] at h2
      cases h1; cases h2
      exact ⟨w, p, rfl, rfl, rfl⟩
theorem quots_take {ws : List Rat} {ps : List (Rat × Rat)} {i : Nat} {w : Rat} {p : Rat × Rat} (h1 : ws[i]? = some w) (h2 : ps[i]? = some p) : quots (ws.take (i + 1)) (ps.take (i + 1)) = quots (ws.take i) (ps.take i) ++ [absQ p.1 / w, absQ p.2 / w] := by
  induction ws generalizing i ps with
  | nil => simp at h1
  | cons x ws ih =>
    cases ps with
    | nil => simp at h2
    | cons y ps =>
      cases i with
      | zero =>
        simp at h1 h2
        subst h1; subst h2
        simp [quots]
      | succ i =>
        rw [List.getElem?_cons_succ] at h1 h2
        rw [List.take_succ_cons, List.take_succ_cons, quots, ih h1 h2]
        rfl
theorem quots_len {ws : List Rat} : ∀ {ps : List (Rat × Rat)}, (quots ws ps).length ≤ 2 * ws.length := by
  induction ws with
  | nil => intro ps; simp [quots]
  | cons x ws ih =>
    intro ps
    cases ps with
    | nil => simp [quots]
    | cons p ps =>
      have := ih (ps := ps)
      rw [quots, List.length_cons, List.length_cons, List.length_cons]
      omega
theorem zip_full {ws : List Rat} {ps : List (Rat × Rat)} (f : Fine ws ps) : (zipD (ws.map frD) (ps.map vpD)).length = ws.length := by
  rw [zipD_len, List.length_map, List.length_map, f.len, Nat.min_self]
theorem at_mid {S G : Sto} {c : Cell} : (S ++ [c] ++ G)[S.length]? = some c := by simp
theorem set_mid {S G : Sto} {c c' : Cell} : (S ++ [c] ++ G).set S.length c' = S ++ [c'] ++ G := by simp
theorem sem_greatest_by (ds : List D) (S : Sto) (R : Post) (PX : PXK) (h : sp_greatest_by ds S R PX) : t_greatest_by (endF S.length R) (startD N_greatest_by ds) S := by
  obtain ⟨ws, ps, rfl, f, h⟩ := h
  unfold t_greatest_by N_greatest_by
  refine seq_go fun K1 hK1 => ?_
  simp (disch := (first | assumption | (simp only [List.length_append, List.length_cons, List.length_nil, List.length_set]; omega))) only [pAsg, pBin, pVar, pC, pgName, pgTup, pgCons, pgNil, pCall, pCons, pNil, pTest, pI2_int, pMul_int, seqOf_tup, atI_0, atI_1, pIx, pRet, pTup, pIf, pNeg, pPar, pPar3, pI1, pI2c, pCallF, pAdd_int, pDrop, pIfS, pNext, startD, List.map_cons, List.map_nil, List.length_cons, List.length_nil, List.cons_append, List.nil_append, List.replicate, List.set_cons_zero, List.set_cons_succ, List.getElem?_cons_zero, List.getElem?_cons_succ, Option.some.injEq, exists_eq_left', exists_eq_left, D.int.injEq, D.bl.injEq, D.tup.injEq, D.loc.injEq, List.cons.injEq, and_true, true_and, exists_eq_right, and_assoc, exists_and_left, Nat.reduceAdd, Nat.reduceSub, List.replicate_zero, List.replicate_succ, atI_2, atI_3, pEq_int, pNe_int, tupG_eq, lc_eq, for_eq, pEn, pSq, pZp, pRng1, pCut_eq, cutV_loc, cutV_tup, pAdd_loc, pAdd_tup, pInt_int, pInt_bl, pLen, pPart, pNoPart, pLst, pAugS, pPut, pgSub, ix40, ix41, ix42, lst_inj, seqOf_get, cellL_lst, Option.map_some, at_app, at_new, at_set, at_set_ne]
  refine ⟨Nat.zero_le _, ?_⟩
  subst hK1
  refine seq_go fun K2 hK2 => ?_
  simp (disch := (first | assumption | (simp only [List.length_append, List.length_cons, List.length_nil, List.length_set]; omega))) only [pAsg, pBin, pVar, pC, pgName, pgTup, pgCons, pgNil, pCall, pCons, pNil, pTest, pI2_int, pMul_int, seqOf_tup, atI_0, atI_1, pIx, pRet, pTup, pIf, pNeg, pPar, pPar3, pI1, pI2c, pCallF, pAdd_int, pDrop, pIfS, pNext, startD, List.map_cons, List.map_nil, List.length_cons, List.length_nil, List.cons_append, List.nil_append, List.replicate, List.set_cons_zero, List.set_cons_succ, List.getElem?_cons_zero, List.getElem?_cons_succ, Option.some.injEq, exists_eq_left', exists_eq_left, D.int.injEq, D.bl.injEq, D.tup.injEq, D.loc.injEq, List.cons.injEq, and_true, true_and, exists_eq_right, and_assoc, exists_and_left, Nat.reduceAdd, Nat.reduceSub, List.replicate_zero, List.replicate_succ, atI_2, atI_3, pEq_int, pNe_int, tupG_eq, lc_eq, for_eq, pEn, pSq, pZp, pRng1, pCut_eq, cutV_loc, cutV_tup, pAdd_loc, pAdd_tup, pInt_int, pInt_bl, pLen, pPart, pNoPart, pLst, pAugS, pPut, pgSub, ix40, ix41, ix42, lst_inj, seqOf_get, cellL_lst, Option.map_some, at_app, at_new, at_set, at_set_ne]
  refine ⟨fun i ρ' S' => ∃ G x y z, S' = S ++ [.lst ((quots (ws.take i) (ps.take i)).map frD)] ++ G ∧ ρ' = [some (.tup (ws.map frD)), some (.tup (ps.map vpD)), some (.loc S.length), x, y, z], ⟨[], none, none, none, by simp [quots], rfl⟩, fun _ _ _ _ => trivial, ?_, ?_⟩
  · rintro i d ρ' S' hi ⟨G, x, y, z, rfl, rfl⟩
    obtain ⟨w, p, hw, hp, rfl⟩ := f.at hi
    have hw1 := f.w w (List.mem_of_getElem? hw)
    have hp1 := f.p p (List.mem_of_getElem? hp)
    simp (disch := (first | assumption | (simp only [List.length_append, List.length_cons, List.length_nil, List.length_set]; omega))) only [pAsg, pBin, pVar, pC, pgName, pgTup, pgCons, pgNil, pCall, pCons, pNil, pTest, pI2_int, pMul_int, seqOf_tup, atI_0, atI_1, pIx, pRet, pTup, pIf, pNeg, pPar, pPar3, pI1, pI2c, pCallF, pAdd_int, pDrop, pIfS, pNext, startD, List.map_cons, List.map_nil, List.length_cons, List.length_nil, List.cons_append, List.nil_append, List.replicate, List.set_cons_zero, List.set_cons_succ, List.getElem?_cons_zero, List.getElem?_cons_succ, Option.some.injEq, exists_eq_left', exists_eq_left, D.int.injEq, D.bl.injEq, D.tup.injEq, D.loc.injEq, List.cons.injEq, and_true, true_and, exists_eq_right, and_assoc, exists_and_left, Nat.reduceAdd, Nat.reduceSub, List.replicate_zero, List.replicate_succ, atI_2, atI_3, pEq_int, pNe_int, tupG_eq, lc_eq, for_eq, pEn, pSq, pZp, pRng1, pCut_eq, cutV_loc, cutV_tup, pAdd_loc, pAdd_tup, pInt_int, pInt_bl, pLen, pPart, pNoPart, pLst, pAugS, pPut, pgSub, ix40, ix41, ix42, lst_inj, seqOf_get, cellL_lst, Option.map_some, at_app, at_new, at_set, at_set_ne, pMt]
    refine ⟨[frD p.1, frD p.2], rfl, lc_pureO [some (frD (absQ p.1 / w)), some (frD (absQ p.2 / w))] rfl (fun _ => rfl) (by show 2 ≤ 2 ^ 24; decide) ?_ ?_⟩
    · intro j d o h1 h2 c Y N hy hn
      have key : ∃ q : Rat, Sm 20 q ∧ d = frD q ∧ o = some (frD (absQ q / w)) := by
        match j, h1, h2 with
        | 0, h1, h2 => cases h1; cases h2; exact ⟨p.1, hp1.1, rfl, rfl⟩
        | 1, h1, h2 => cases h1; cases h2; exact ⟨p.2, hp1.2, rfl, rfl⟩
        | j + 2, h1, h2 => simp at h1
      obtain ⟨q, hq, rfl, rfl⟩ := key
      show pgName _ _ [some (.tup (ws.map frD)), some (.tup (ps.map vpD)), some (.loc S.length), some (frD w), some (vpD p), none] _ _
      unfold pYes
      simp (disch := (first | assumption | (simp only [List.length_append, List.length_cons, List.length_nil, List.length_set]; omega))) only [pAsg, pBin, pVar, pC, pgName, pgTup, pgCons, pgNil, pCall, pCons, pNil, pTest, pI2_int, pMul_int, seqOf_tup, atI_0, atI_1, pIx, pRet, pTup, pIf, pNeg, pPar, pPar3, pI1, pI2c, pCallF, pAdd_int, pDrop, pIfS, pNext, startD, List.map_cons, List.map_nil, List.length_cons, List.length_nil, List.cons_append, List.nil_append, List.replicate, List.set_cons_zero, List.set_cons_succ, List.getElem?_cons_zero, List.getElem?_cons_succ, Option.some.injEq, exists_eq_left', exists_eq_left, D.int.injEq, D.bl.injEq, D.tup.injEq, D.loc.injEq, List.cons.injEq, and_true, true_and, exists_eq_right, and_assoc, exists_and_left, Nat.reduceAdd, Nat.reduceSub, List.replicate_zero, List.replicate_succ, atI_2, atI_3, pEq_int, pNe_int, tupG_eq, lc_eq, for_eq, pEn, pSq, pZp, pRng1, pCut_eq, cutV_loc, cutV_tup, pAdd_loc, pAdd_tup, pInt_int, pInt_bl, pLen, pPart, pNoPart, pLst, pAugS, pPut, pgSub, ix40, ix41, ix42, lst_inj, seqOf_get, cellL_lst, Option.map_some, at_app, at_new, at_set, at_set_ne, if_true]
      refine ⟨q, rfl, ?_⟩
      exact ⟨absQ q, w, rfl, hw1.1, (sm_abs hq).sq (by decide), hw1.2.sq (by decide), hy _ rfl⟩
    · have hl := quots_len (ws := ws.take i) (ps := ps.take i)
      rw [List.length_take] at hl
      have hf := f.few
      refine ⟨S.length, _, (quots (ws.take i) (ps.take i)).map frD, [frD (absQ p.1 / w), frD (absQ p.2 / w)], rfl, rfl, ?_, at_new, ?_, G ++ [.lst [frD (absQ p.1 / w), frD (absQ p.2 / w)]], ?_, z, rfl⟩
      · rw [List.append_assoc]; exact at_mid
      · rw [List.length_map]; show _ ≤ 2 ^ 24; simp only [List.length_cons, List.length_nil]; omega
      · rw [List.append_assoc, set_mid, quots_take hw hp, List.map_append]
        rfl
  · rintro ρ' S' ⟨G, x, y, z, rfl, rfl⟩
    rw [zip_full f, List.take_length, f.len, List.take_length]
    subst hK2
    simp (disch := (first | assumption | (simp only [List.length_append, List.length_cons, List.length_nil, List.length_set]; omega))) only [pAsg, pBin, pVar, pC, pgName, pgTup, pgCons, pgNil, pCall, pCons, pNil, pTest, pI2_int, pMul_int, seqOf_tup, atI_0, atI_1, pIx, pRet, pTup, pIf, pNeg, pPar, pPar3, pI1, pI2c, pCallF, pAdd_int, pDrop, pIfS, pNext, startD, List.map_cons, List.map_nil, List.length_cons, List.length_nil, List.cons_append, List.nil_append, List.replicate, List.set_cons_zero, List.set_cons_succ, List.getElem?_cons_zero, List.getElem?_cons_succ, Option.some.injEq, exists_eq_left', exists_eq_left, D.int.injEq, D.bl.injEq, D.tup.injEq, D.loc.injEq, List.cons.injEq, and_true, true_and, exists_eq_right, and_assoc, exists_and_left, Nat.reduceAdd, Nat.reduceSub, List.replicate_zero, List.replicate_succ, atI_2, atI_3, pEq_int, pNe_int, tupG_eq, lc_eq, for_eq, pEn, pSq, pZp, pRng1, pCut_eq, cutV_loc, cutV_tup, pAdd_loc, pAdd_tup, pInt_int, pInt_bl, pLen, pPart, pNoPart, pLst, pAugS, pPut, pgSub, ix40, ix41, ix42, lst_inj, seqOf_get, cellL_lst, Option.map_some, at_app, at_new, at_set, at_set_ne]
    refine ⟨.loc S.length, quots ws ps, rfl, ?_, quots_ne f, fun q hq => (quots_all f.w f.p q hq).2.sq (by decide), ?_⟩
    · exact seqOf_of at_mid
    · rw [List.append_assoc]
      exact fall_r (h _)
theorem sem_law_greatest (ds : List D) (S : Sto) (R : Post) (PX : PXK) (h : sp_law_greatest ds S R PX) : t_law_greatest (endF S.length R) (startD N_law_greatest ds) S := by
  obtain ⟨ws, ps, rfl, f, h⟩ := h
  unfold t_law_greatest N_law_greatest
  refine seq_go fun K1 hK1 => ?_
  simp (disch := (first | assumption | (simp only [List.length_append, List.length_cons, List.length_nil, List.length_set]; omega))) only [pAsg, pBin, pVar, pC, pgName, pgTup, pgCons, pgNil, pCall, pCons, pNil, pTest, pI2_int, pMul_int, seqOf_tup, atI_0, atI_1, pIx, pRet, pTup, pIf, pNeg, pPar, pPar3, pI1, pI2c, pCallF, pAdd_int, pDrop, pIfS, pNext, startD, List.map_cons, List.map_nil, List.length_cons, List.length_nil, List.cons_append, List.nil_append, List.replicate, List.set_cons_zero, List.set_cons_succ, List.getElem?_cons_zero, List.getElem?_cons_succ, Option.some.injEq, exists_eq_left', exists_eq_left, D.int.injEq, D.bl.injEq, D.tup.injEq, D.loc.injEq, List.cons.injEq, and_true, true_and, exists_eq_right, and_assoc, exists_and_left, Nat.reduceAdd, Nat.reduceSub, List.replicate_zero, List.replicate_succ, atI_2, atI_3, pEq_int, pNe_int, tupG_eq, lc_eq, for_eq, pEn, pSq, pZp, pRng1, pCut_eq, cutV_loc, cutV_tup, pAdd_loc, pAdd_tup, pInt_int, pInt_bl, pLen, pPart, pNoPart, pLst, pAugS, pPut, pgSub, ix40, ix41, ix42, lst_inj, seqOf_get, cellL_lst, Option.map_some, at_app, at_new, at_set, at_set_ne]
  refine ⟨by decide, ?_⟩
  subst hK1
  refine seq_go fun K2 hK2 => ?_
  simp (disch := (first | assumption | (simp only [List.length_append, List.length_cons, List.length_nil, List.length_set]; omega))) only [pAsg, pBin, pVar, pC, pgName, pgTup, pgCons, pgNil, pCall, pCons, pNil, pTest, pI2_int, pMul_int, seqOf_tup, atI_0, atI_1, pIx, pRet, pTup, pIf, pNeg, pPar, pPar3, pI1, pI2c, pCallF, pAdd_int, pDrop, pIfS, pNext, startD, List.map_cons, List.map_nil, List.length_cons, List.length_nil, List.cons_append, List.nil_append, List.replicate, List.set_cons_zero, List.set_cons_succ, List.getElem?_cons_zero, List.getElem?_cons_succ, Option.some.injEq, exists_eq_left', exists_eq_left, D.int.injEq, D.bl.injEq, D.tup.injEq, D.loc.injEq, List.cons.injEq, and_true, true_and, exists_eq_right, and_assoc, exists_and_left, Nat.reduceAdd, Nat.reduceSub, List.replicate_zero, List.replicate_succ, atI_2, atI_3, pEq_int, pNe_int, tupG_eq, lc_eq, for_eq, pEn, pSq, pZp, pRng1, pCut_eq, cutV_loc, cutV_tup, pAdd_loc, pAdd_tup, pInt_int, pInt_bl, pLen, pPart, pNoPart, pLst, pAugS, pPut, pgSub, ix40, ix41, ix42, lst_inj, seqOf_get, cellL_lst, Option.map_some, at_app, at_new, at_set, at_set_ne]
  have nn : ∀ i, ∀ x ∈ quots (ws.take i) (ps.take i), 0 ≤ x ∧ Sm 41 x := fun i => quots_all (fun w h => f.w w (List.mem_of_mem_take h)) (fun p h => f.p p (List.mem_of_mem_take h))
  refine ⟨fun i ρ' S' => S' = S ∧ ∃ m x y z u, ρ' = [some (.tup (ws.map frD)), some (.tup (ps.map vpD)), some (frD m), x, y, z, u] ∧ m = (quots (ws.take i) (ps.take i)).foldl mxQ 0 ∧ Sm 41 m, ⟨rfl, 0, none, none, none, none, rfl, by simp [quots], ⟨by decide, by decide⟩⟩, fun _ _ _ _ => trivial, ?_, ?_⟩
  · rintro i d ρ' S' hi ⟨rfl, m, x, y, z, u, rfl, hm, hs⟩
    obtain ⟨w, p, hw, hp, rfl⟩ := f.at hi
    have hw1 := f.w w (List.mem_of_getElem? hw)
    have hp1 := f.p p (List.mem_of_getElem? hp)
    simp (disch := (first | assumption | (simp only [List.length_append, List.length_cons, List.length_nil, List.length_set]; omega))) only [pAsg, pBin, pVar, pC, pgName, pgTup, pgCons, pgNil, pCall, pCons, pNil, pTest, pI2_int, pMul_int, seqOf_tup, atI_0, atI_1, pIx, pRet, pTup, pIf, pNeg, pPar, pPar3, pI1, pI2c, pCallF, pAdd_int, pDrop, pIfS, pNext, startD, List.map_cons, List.map_nil, List.length_cons, List.length_nil, List.cons_append, List.nil_append, List.replicate, List.set_cons_zero, List.set_cons_succ, List.getElem?_cons_zero, List.getElem?_cons_succ, Option.some.injEq, exists_eq_left', exists_eq_left, D.int.injEq, D.bl.injEq, D.tup.injEq, D.loc.injEq, List.cons.injEq, and_true, true_and, exists_eq_right, and_assoc, exists_and_left, Nat.reduceAdd, Nat.reduceSub, List.replicate_zero, List.replicate_succ, atI_2, atI_3, pEq_int, pNe_int, tupG_eq, lc_eq, for_eq, pEn, pSq, pZp, pRng1, pCut_eq, cutV_loc, cutV_tup, pAdd_loc, pAdd_tup, pInt_int, pInt_bl, pLen, pPart, pNoPart, pLst, pAugS, pPut, pgSub, ix40, ix41, ix42, lst_inj, seqOf_get, cellL_lst, Option.map_some, at_app, at_new, at_set, at_set_ne]
    refine ⟨[frD p.1, frD p.2], rfl, fun j ρ' S2 => S2 = S' ∧ ∃ m z u, ρ' = [some (.tup (ws.map frD)), some (.tup (ps.map vpD)), some (frD m), some (frD w), some (vpD p), z, u] ∧ m = ([absQ p.1 / w, absQ p.2 / w].take j).foldl mxQ ((quots (ws.take i) (ps.take i)).foldl mxQ 0) ∧ Sm 41 m, ⟨rfl, m, z, u, rfl, hm, hs⟩, fun _ _ _ _ => rfl, ?_, ?_⟩
    · rintro j d ρ' S2 hj ⟨rfl, m, z, u, rfl, hm, hs⟩
      have key : ∃ q : Rat, Sm 20 q ∧ d = frD q ∧ [absQ p.1 / w, absQ p.2 / w].take (j + 1) = [absQ p.1 / w, absQ p.2 / w].take j ++ [absQ q / w] := by
        match j, hj with
        | 0, h1 => cases h1; exact ⟨p.1, hp1.1, rfl, rfl⟩
        | 1, h1 => cases h1; exact ⟨p.2, hp1.2, rfl, rfl⟩
        | j + 2, h1 => simp at h1
      obtain ⟨q, hq, rfl, et⟩ := key
      have hd : Sm 41 (absQ q / w) := sm_div (sm_abs hq) hw1.2
      refine seq_go fun K3 hK3 => ?_
      simp (disch := (first | assumption | (simp only [List.length_append, List.length_cons, List.length_nil, List.length_set]; omega))) only [pAsg, pBin, pVar, pC, pgName, pgTup, pgCons, pgNil, pCall, pCons, pNil, pTest, pI2_int, pMul_int, seqOf_tup, atI_0, atI_1, pIx, pRet, pTup, pIf, pNeg, pPar, pPar3, pI1, pI2c, pCallF, pAdd_int, pDrop, pIfS, pNext, startD, List.map_cons, List.map_nil, List.length_cons, List.length_nil, List.cons_append, List.nil_append, List.replicate, List.set_cons_zero, List.set_cons_succ, List.getElem?_cons_zero, List.getElem?_cons_succ, Option.some.injEq, exists_eq_left', exists_eq_left, D.int.injEq, D.bl.injEq, D.tup.injEq, D.loc.injEq, List.cons.injEq, and_true, true_and, exists_eq_right, and_assoc, exists_and_left, Nat.reduceAdd, Nat.reduceSub, List.replicate_zero, List.replicate_succ, atI_2, atI_3, pEq_int, pNe_int, tupG_eq, lc_eq, for_eq, pEn, pSq, pZp, pRng1, pCut_eq, cutV_loc, cutV_tup, pAdd_loc, pAdd_tup, pInt_int, pInt_bl, pLen, pPart, pNoPart, pLst, pAugS, pPut, pgSub, ix40, ix41, ix42, lst_inj, seqOf_get, cellL_lst, Option.map_some, at_app, at_new, at_set, at_set_ne]
      refine ⟨q, rfl, absQ q, w, rfl, hw1.1, (sm_abs hq).sq (by decide), hw1.2.sq (by decide), ?_⟩
      subst hK3
      simp (disch := (first | assumption | (simp only [List.length_append, List.length_cons, List.length_nil, List.length_set]; omega))) only [pAsg, pBin, pVar, pC, pgName, pgTup, pgCons, pgNil, pCall, pCons, pNil, pTest, pI2_int, pMul_int, seqOf_tup, atI_0, atI_1, pIx, pRet, pTup, pIf, pNeg, pPar, pPar3, pI1, pI2c, pCallF, pAdd_int, pDrop, pIfS, pNext, startD, List.map_cons, List.map_nil, List.length_cons, List.length_nil, List.cons_append, List.nil_append, List.replicate, List.set_cons_zero, List.set_cons_succ, List.getElem?_cons_zero, List.getElem?_cons_succ, Option.some.injEq, exists_eq_left', exists_eq_left, D.int.injEq, D.bl.injEq, D.tup.injEq, D.loc.injEq, List.cons.injEq, and_true, true_and, exists_eq_right, and_assoc, exists_and_left, Nat.reduceAdd, Nat.reduceSub, List.replicate_zero, List.replicate_succ, atI_2, atI_3, pEq_int, pNe_int, tupG_eq, lc_eq, for_eq, pEn, pSq, pZp, pRng1, pCut_eq, cutV_loc, cutV_tup, pAdd_loc, pAdd_tup, pInt_int, pInt_bl, pLen, pPart, pNoPart, pLst, pAugS, pPut, pgSub, ix40, ix41, ix42, lst_inj, seqOf_get, cellL_lst, Option.map_some, at_app, at_new, at_set, at_set_ne]
      refine ⟨m, absQ q / w, rfl, hs.sq (by decide), hd.sq (by decide), ?_⟩
      simp (disch := (first | assumption | (simp only [List.length_append, List.length_cons, List.length_nil, List.length_set]; omega))) only [pAsg, pBin, pVar, pC, pgName, pgTup, pgCons, pgNil, pCall, pCons, pNil, pTest, pI2_int, pMul_int, seqOf_tup, atI_0, atI_1, pIx, pRet, pTup, pIf, pNeg, pPar, pPar3, pI1, pI2c, pCallF, pAdd_int, pDrop, pIfS, pNext, startD, List.map_cons, List.map_nil, List.length_cons, List.length_nil, List.cons_append, List.nil_append, List.replicate, List.set_cons_zero, List.set_cons_succ, List.getElem?_cons_zero, List.getElem?_cons_succ, Option.some.injEq, exists_eq_left', exists_eq_left, D.int.injEq, D.bl.injEq, D.tup.injEq, D.loc.injEq, List.cons.injEq, and_true, true_and, exists_eq_right, and_assoc, exists_and_left, Nat.reduceAdd, Nat.reduceSub, List.replicate_zero, List.replicate_succ, atI_2, atI_3, pEq_int, pNe_int, tupG_eq, lc_eq, for_eq, pEn, pSq, pZp, pRng1, pCut_eq, cutV_loc, cutV_tup, pAdd_loc, pAdd_tup, pInt_int, pInt_bl, pLen, pPart, pNoPart, pLst, pAugS, pPut, pgSub, ix40, ix41, ix42, lst_inj, seqOf_get, cellL_lst, Option.map_some, at_app, at_new, at_set, at_set_ne]
      rw [et, List.foldl_append, ← hm]
      show if decide (m < absQ q / w) = true then _ else _
      split
      · rename_i hk
        exact ⟨absQ q / w, rfl, (show _ = mxQ m (absQ q / w) by unfold mxQ; rw [if_pos (of_decide_eq_true hk)]), hd⟩
      · rename_i hk
        exact ⟨m, rfl, (show _ = mxQ m (absQ q / w) by unfold mxQ; rw [if_neg (fun z => hk (decide_eq_true z))]), hs⟩
    · rintro ρ' S2 ⟨rfl, m, z, u, rfl, hm, hs⟩
      refine ⟨rfl, m, some (frD w), some (vpD p), z, u, rfl, ?_, hs⟩
      rw [hm, quots_take hw hp, List.foldl_append]
      rfl
  · rintro ρ' S' ⟨rfl, m, x, y, z, u, rfl, hm, hs⟩
    rw [zip_full f, List.take_length, f.len, List.take_length] at hm
    subst hK2
    simp (disch := (first | assumption | (simp only [List.length_append, List.length_cons, List.length_nil, List.length_set]; omega))) only [pAsg, pBin, pVar, pC, pgName, pgTup, pgCons, pgNil, pCall, pCons, pNil, pTest, pI2_int, pMul_int, seqOf_tup, atI_0, atI_1, pIx, pRet, pTup, pIf, pNeg, pPar, pPar3, pI1, pI2c, pCallF, pAdd_int, pDrop, pIfS, pNext, startD, List.map_cons, List.map_nil, List.length_cons, List.length_nil, List.cons_append, List.nil_append, List.replicate, List.set_cons_zero, List.set_cons_succ, List.getElem?_cons_zero, List.getElem?_cons_succ, Option.some.injEq, exists_eq_left', exists_eq_left, D.int.injEq, D.bl.injEq, D.tup.injEq, D.loc.injEq, List.cons.injEq, and_true, true_and, exists_eq_right, and_assoc, exists_and_left, Nat.reduceAdd, Nat.reduceSub, List.replicate_zero, List.replicate_succ, atI_2, atI_3, pEq_int, pNe_int, tupG_eq, lc_eq, for_eq, pEn, pSq, pZp, pRng1, pCut_eq, cutV_loc, cutV_tup, pAdd_loc, pAdd_tup, pInt_int, pInt_bl, pLen, pPart, pNoPart, pLst, pAugS, pPut, pgSub, ix40, ix41, ix42, lst_inj, seqOf_get, cellL_lst, Option.map_some, at_app, at_new, at_set, at_set_ne]
    rw [hm, max_zero fun x hx => (quots_all f.w f.p x hx).1]
    have := h []
    rw [List.append_nil] at this
    exact fall_r this
end K36

set_option Elab.async false
set_option linter.all false
set_option maxRecDepth 100000
set_option maxHeartbeats 1000000
/-! Bounds of stages. -/
namespace K36
open PySem PySem.Spec PyProof.Rows L2 Za K4
/-- a tuple of what is taken from items that stay, place by place -/
theorem tupG_pureP {items : List D} {still : Sto → Prop} {S1 : Sto} {g : PTG} {tt : PTT} {te : PTE} {ρ : Vars} {R : Post} (ys : List D) (hl : ys.length = items.length) (hst : still S1) (hz : items.length ≤ sizeLine)
    (hstep : ∀ (i : Nat) (d y : D), items[i]? = some d → ys[i]? = some y → ∀ (Y : D → Sto → Prop) (N : Sto → Prop), Y y S1 → g d ρ S1 fun ρ2 S2 => tt ρ2 S2 fun b S3 => if b = true then te ρ2 S3 Y else N S3)
    (h : R (.tup ys) S1) : tupIn g tt te ρ R items still S1 := by
  refine ⟨fun i acc S' => S' = S1 ∧ acc = ys.take i, ⟨rfl, rfl⟩, fun i acc S' ⟨e, _⟩ => e ▸ hst, ?_, ?_⟩
  · rintro i d acc S' hi ⟨rfl, rfl⟩
    have hil := (List.getElem?_eq_some_iff.mp hi).1
    have ho : ys[i]? = some (ys[i]'(by omega)) := List.getElem?_eq_getElem _
    generalize ys[i]'(by omega) = y at ho
    refine hstep i d y hi ho _ _ ⟨by rw [List.length_take]; omega, rfl, ?_⟩
    rw [List.take_add_one, ho]; rfl
  · rintro acc S' ⟨rfl, rfl⟩
    rw [← hl, List.take_length]
    exact h
theorem pow_fr (t : Rat) (s : Nat) : D.tup [.int (t.num ^ s), .int ((t.den : Int) ^ s)] = frD (t ^ s) := by
  unfold frD
  rw [Rat.num_pow, Rat.den_pow, Int.natCast_pow]
theorem map_at {α : Type} {f : α → D} {ws : List α} {i : Nat} {d : D} (h : (ws.map f)[i]? = some d) : ∃ w, ws[i]? = some w ∧ d = f w := by
  rw [List.getElem?_map] at h
  cases e : ws[i]? with
  | none => rw [e] at h; cases h
  | some q => rw [e] at h; exact ⟨q, rfl, (Option.some.inj h).symm⟩
theorem sm_step {t g w : Rat} {s : Nat} (ht : TOk t) (hs : s ≤ 400) (hg : Sm 41 g) (hw : Sm 20 w) : Sq (t ^ s) ∧ Sq (t ^ s * g) ∧ Sq (w * g) ∧ Sq (w * g * t ^ s) ∧ Sq (w * (g * t ^ s)) := by
  have h1 := sm_pow ht.sm s
  have h2 := sm_mul h1 hg
  have h3 := sm_mul hw hg
  exact ⟨h1.sq (by omega), h2.sq (by omega), h3.sq (by omega), (sm_mul h3 h1).sq (by omega), (sm_mul hw (sm_mul hg h1)).sq (by omega)⟩
theorem sem_stage_bound (ds : List D) (S : Sto) (R : Post) (PX : PXK) (h : sp_stage_bound ds S R PX) : t_stage_bound (endF S.length R) (startD N_stage_bound ds) S := by
  obtain ⟨ws, t, ps, s, rfl, f, ht, hs, h⟩ := h
  have hg := gr_ok f
  unfold t_stage_bound N_stage_bound
  refine seq_go fun K1 hK1 => ?_
  have et : frD t = .tup [.int t.num, .int (t.den : Int)] := rfl
  rw [et]
  simp (disch := (first | assumption | (simp only [List.length_append, List.length_cons, List.length_nil, List.length_set]; omega))) only [pAsg, pBin, pVar, pC, pgName, pgTup, pgCons, pgNil, pCall, pCons, pNil, pTest, pI2_int, pMul_int, seqOf_tup, atI_0, atI_1, pIx, pRet, pTup, pIf, pNeg, pPar, pPar3, pI1, pI2c, pCallF, pAdd_int, pDrop, pIfS, pNext, startD, List.map_cons, List.map_nil, List.length_cons, List.length_nil, List.cons_append, List.nil_append, List.replicate, List.set_cons_zero, List.set_cons_succ, List.getElem?_cons_zero, List.getElem?_cons_succ, Option.some.injEq, exists_eq_left', exists_eq_left, D.int.injEq, D.bl.injEq, D.tup.injEq, D.loc.injEq, List.cons.injEq, and_true, true_and, exists_eq_right, and_assoc, exists_and_left, Nat.reduceAdd, Nat.reduceSub, List.replicate_zero, List.replicate_succ, atI_2, atI_3, pEq_int, pNe_int, tupG_eq, lc_eq, for_eq, pEn, pSq, pZp, pRng1, pCut_eq, cutV_loc, cutV_tup, pAdd_loc, pAdd_tup, pInt_int, pInt_bl, pLen, pPart, pNoPart, pLst, pAugS, pPut, pgSub, ix40, ix41, ix42, lst_inj, seqOf_get, cellL_lst, Option.map_some, at_app, at_new, at_set, at_set_ne]
  refine ⟨t.num, s, rfl, Nat.lt_of_le_of_lt hs (by decide), ht.num, hs, ?_⟩
  simp (disch := (first | assumption | (simp only [List.length_append, List.length_cons, List.length_nil, List.length_set]; omega))) only [pAsg, pBin, pVar, pC, pgName, pgTup, pgCons, pgNil, pCall, pCons, pNil, pTest, pI2_int, pMul_int, seqOf_tup, atI_0, atI_1, pIx, pRet, pTup, pIf, pNeg, pPar, pPar3, pI1, pI2c, pCallF, pAdd_int, pDrop, pIfS, pNext, startD, List.map_cons, List.map_nil, List.length_cons, List.length_nil, List.cons_append, List.nil_append, List.replicate, List.set_cons_zero, List.set_cons_succ, List.getElem?_cons_zero, List.getElem?_cons_succ, Option.some.injEq, exists_eq_left', exists_eq_left, D.int.injEq, D.bl.injEq, D.tup.injEq, D.loc.injEq, List.cons.injEq, and_true, true_and, exists_eq_right, and_assoc, exists_and_left, Nat.reduceAdd, Nat.reduceSub, List.replicate_zero, List.replicate_succ, atI_2, atI_3, pEq_int, pNe_int, tupG_eq, lc_eq, for_eq, pEn, pSq, pZp, pRng1, pCut_eq, cutV_loc, cutV_tup, pAdd_loc, pAdd_tup, pInt_int, pInt_bl, pLen, pPart, pNoPart, pLst, pAugS, pPut, pgSub, ix40, ix41, ix42, lst_inj, seqOf_get, cellL_lst, Option.map_some, at_app, at_new, at_set, at_set_ne]
  refine ⟨(t.den : Int), s, rfl, Nat.lt_of_le_of_lt hs (by decide), by rw [Int.natAbs_natCast]; exact ht.den, hs, ?_⟩
  simp (disch := (first | assumption | (simp only [List.length_append, List.length_cons, List.length_nil, List.length_set]; omega))) only [pAsg, pBin, pVar, pC, pgName, pgTup, pgCons, pgNil, pCall, pCons, pNil, pTest, pI2_int, pMul_int, seqOf_tup, atI_0, atI_1, pIx, pRet, pTup, pIf, pNeg, pPar, pPar3, pI1, pI2c, pCallF, pAdd_int, pDrop, pIfS, pNext, startD, List.map_cons, List.map_nil, List.length_cons, List.length_nil, List.cons_append, List.nil_append, List.replicate, List.set_cons_zero, List.set_cons_succ, List.getElem?_cons_zero, List.getElem?_cons_succ, Option.some.injEq, exists_eq_left', exists_eq_left, D.int.injEq, D.bl.injEq, D.tup.injEq, D.loc.injEq, List.cons.injEq, and_true, true_and, exists_eq_right, and_assoc, exists_and_left, Nat.reduceAdd, Nat.reduceSub, List.replicate_zero, List.replicate_succ, atI_2, atI_3, pEq_int, pNe_int, tupG_eq, lc_eq, for_eq, pEn, pSq, pZp, pRng1, pCut_eq, cutV_loc, cutV_tup, pAdd_loc, pAdd_tup, pInt_int, pInt_bl, pLen, pPart, pNoPart, pLst, pAugS, pPut, pgSub, ix40, ix41, ix42, lst_inj, seqOf_get, cellL_lst, Option.map_some, at_app, at_new, at_set, at_set_ne]
  refine ⟨by decide, ws, ps, rfl, f, fun G => ?_⟩
  rw [pow_fr]
  refine ⟨t ^ s, gr ws ps, rfl, (sm_pow ht.sm s).sq (by omega), hg.2.sq (by decide), ?_⟩
  subst hK1
  simp (disch := (first | assumption | (simp only [List.length_append, List.length_cons, List.length_nil, List.length_set]; omega))) only [pAsg, pBin, pVar, pC, pgName, pgTup, pgCons, pgNil, pCall, pCons, pNil, pTest, pI2_int, pMul_int, seqOf_tup, atI_0, atI_1, pIx, pRet, pTup, pIf, pNeg, pPar, pPar3, pI1, pI2c, pCallF, pAdd_int, pDrop, pIfS, pNext, startD, List.map_cons, List.map_nil, List.length_cons, List.length_nil, List.cons_append, List.nil_append, List.replicate, List.set_cons_zero, List.set_cons_succ, List.getElem?_cons_zero, List.getElem?_cons_succ, Option.some.injEq, exists_eq_left', exists_eq_left, D.int.injEq, D.bl.injEq, D.tup.injEq, D.loc.injEq, List.cons.injEq, and_true, true_and, exists_eq_right, and_assoc, exists_and_left, Nat.reduceAdd, Nat.reduceSub, List.replicate_zero, List.replicate_succ, atI_2, atI_3, pEq_int, pNe_int, tupG_eq, lc_eq, for_eq, pEn, pSq, pZp, pRng1, pCut_eq, cutV_loc, cutV_tup, pAdd_loc, pAdd_tup, pInt_int, pInt_bl, pLen, pPart, pNoPart, pLst, pAugS, pPut, pgSub, ix40, ix41, ix42, lst_inj, seqOf_get, cellL_lst, Option.map_some, at_app, at_new, at_set, at_set_ne]
  refine tupG_pureP ((ws.map fun w => t ^ s * gr ws ps * w).map frD) (by rw [List.length_map, List.length_map, List.length_map]) trivial (by rw [List.length_map]; have := f.few; show _ ≤ 2 ^ 24; omega) ?_ ?_
  · intro i d y hi hy Y N hY
    obtain ⟨w, hw, rfl⟩ := map_at hi
    rw [List.map_map, List.getElem?_map, hw] at hy
    cases hy
    show pgName _ _ [some (.tup (ws.map frD)), some (D.tup [.int t.num, .int (t.den : Int)]), some (.tup (ps.map vpD)), some (.int s), some (frD (t ^ s * gr ws ps)), none] _ _
    unfold pYes
    simp (disch := (first | assumption | (simp only [List.length_append, List.length_cons, List.length_nil, List.length_set]; omega))) only [pAsg, pBin, pVar, pC, pgName, pgTup, pgCons, pgNil, pCall, pCons, pNil, pTest, pI2_int, pMul_int, seqOf_tup, atI_0, atI_1, pIx, pRet, pTup, pIf, pNeg, pPar, pPar3, pI1, pI2c, pCallF, pAdd_int, pDrop, pIfS, pNext, startD, List.map_cons, List.map_nil, List.length_cons, List.length_nil, List.cons_append, List.nil_append, List.replicate, List.set_cons_zero, List.set_cons_succ, List.getElem?_cons_zero, List.getElem?_cons_succ, Option.some.injEq, exists_eq_left', exists_eq_left, D.int.injEq, D.bl.injEq, D.tup.injEq, D.loc.injEq, List.cons.injEq, and_true, true_and, exists_eq_right, and_assoc, exists_and_left, Nat.reduceAdd, Nat.reduceSub, List.replicate_zero, List.replicate_succ, atI_2, atI_3, pEq_int, pNe_int, tupG_eq, lc_eq, for_eq, pEn, pSq, pZp, pRng1, pCut_eq, cutV_loc, cutV_tup, pAdd_loc, pAdd_tup, pInt_int, pInt_bl, pLen, pPart, pNoPart, pLst, pAugS, pPut, pgSub, ix40, ix41, ix42, lst_inj, seqOf_get, cellL_lst, Option.map_some, at_app, at_new, at_set, at_set_ne, if_true]
    exact ⟨_, _, rfl, (sm_mul (sm_pow ht.sm s) hg.2).sq (by omega), (f.w w (List.mem_of_getElem? hw)).2.sq (by decide), hY⟩
  · exact fall_r (h G)
theorem sem_law_power (ds : List D) (S : Sto) (R : Post) (PX : PXK) (h : sp_law_power ds S R PX) : t_law_power (endF S.length R) (startD N_law_power ds) S := by
  obtain ⟨t, m, rfl, ht, hm, h⟩ := h
  unfold t_law_power N_law_power
  refine seq_go fun K1 hK1 => ?_
  simp (disch := (first | assumption | (simp only [List.length_append, List.length_cons, List.length_nil, List.length_set]; omega))) only [pAsg, pBin, pVar, pC, pgName, pgTup, pgCons, pgNil, pCall, pCons, pNil, pTest, pI2_int, pMul_int, seqOf_tup, atI_0, atI_1, pIx, pRet, pTup, pIf, pNeg, pPar, pPar3, pI1, pI2c, pCallF, pAdd_int, pDrop, pIfS, pNext, startD, List.map_cons, List.map_nil, List.length_cons, List.length_nil, List.cons_append, List.nil_append, List.replicate, List.set_cons_zero, List.set_cons_succ, List.getElem?_cons_zero, List.getElem?_cons_succ, Option.some.injEq, exists_eq_left', exists_eq_left, D.int.injEq, D.bl.injEq, D.tup.injEq, D.loc.injEq, List.cons.injEq, and_true, true_and, exists_eq_right, and_assoc, exists_and_left, Nat.reduceAdd, Nat.reduceSub, List.replicate_zero, List.replicate_succ, atI_2, atI_3, pEq_int, pNe_int, tupG_eq, lc_eq, for_eq, pEn, pSq, pZp, pRng1, pCut_eq, cutV_loc, cutV_tup, pAdd_loc, pAdd_tup, pInt_int, pInt_bl, pLen, pPart, pNoPart, pLst, pAugS, pPut, pgSub, ix40, ix41, ix42, lst_inj, seqOf_get, cellL_lst, Option.map_some, at_app, at_new, at_set, at_set_ne]
  refine ⟨by decide, ?_⟩
  subst hK1
  refine seq_go fun K2 hK2 => ?_
  simp (disch := (first | assumption | (simp only [List.length_append, List.length_cons, List.length_nil, List.length_set]; omega))) only [pAsg, pBin, pVar, pC, pgName, pgTup, pgCons, pgNil, pCall, pCons, pNil, pTest, pI2_int, pMul_int, seqOf_tup, atI_0, atI_1, pIx, pRet, pTup, pIf, pNeg, pPar, pPar3, pI1, pI2c, pCallF, pAdd_int, pDrop, pIfS, pNext, startD, List.map_cons, List.map_nil, List.length_cons, List.length_nil, List.cons_append, List.nil_append, List.replicate, List.set_cons_zero, List.set_cons_succ, List.getElem?_cons_zero, List.getElem?_cons_succ, Option.some.injEq, exists_eq_left', exists_eq_left, D.int.injEq, D.bl.injEq, D.tup.injEq, D.loc.injEq, List.cons.injEq, and_true, true_and, exists_eq_right, and_assoc, exists_and_left, Nat.reduceAdd, Nat.reduceSub, List.replicate_zero, List.replicate_succ, atI_2, atI_3, pEq_int, pNe_int, tupG_eq, lc_eq, for_eq, pEn, pSq, pZp, pRng1, pCut_eq, cutV_loc, cutV_tup, pAdd_loc, pAdd_tup, pInt_int, pInt_bl, pLen, pPart, pNoPart, pLst, pAugS, pPut, pgSub, ix40, ix41, ix42, lst_inj, seqOf_get, cellL_lst, Option.map_some, at_app, at_new, at_set, at_set_ne]
  refine ⟨by omega, by omega, fun i ρ' S' => S' = S ∧ ∃ x, ρ' = [some (frD t), some (.int m), some (frD (t ^ i)), x], ⟨rfl, none, by rw [Rat.pow_zero]; rfl⟩, fun _ _ _ _ => trivial, ?_, ?_⟩
  · rintro i d ρ' S' hi ⟨rfl, x, rfl⟩
    rw [Int.toNat_natCast] at hi
    obtain ⟨him, rfl⟩ := rng_at hi
    unfold natD
    simp (disch := (first | assumption | (simp only [List.length_append, List.length_cons, List.length_nil, List.length_set]; omega))) only [pAsg, pBin, pVar, pC, pgName, pgTup, pgCons, pgNil, pCall, pCons, pNil, pTest, pI2_int, pMul_int, seqOf_tup, atI_0, atI_1, pIx, pRet, pTup, pIf, pNeg, pPar, pPar3, pI1, pI2c, pCallF, pAdd_int, pDrop, pIfS, pNext, startD, List.map_cons, List.map_nil, List.length_cons, List.length_nil, List.cons_append, List.nil_append, List.replicate, List.set_cons_zero, List.set_cons_succ, List.getElem?_cons_zero, List.getElem?_cons_succ, Option.some.injEq, exists_eq_left', exists_eq_left, D.int.injEq, D.bl.injEq, D.tup.injEq, D.loc.injEq, List.cons.injEq, and_true, true_and, exists_eq_right, and_assoc, exists_and_left, Nat.reduceAdd, Nat.reduceSub, List.replicate_zero, List.replicate_succ, atI_2, atI_3, pEq_int, pNe_int, tupG_eq, lc_eq, for_eq, pEn, pSq, pZp, pRng1, pCut_eq, cutV_loc, cutV_tup, pAdd_loc, pAdd_tup, pInt_int, pInt_bl, pLen, pPart, pNoPart, pLst, pAugS, pPut, pgSub, ix40, ix41, ix42, lst_inj, seqOf_get, cellL_lst, Option.map_some, at_app, at_new, at_set, at_set_ne]
    exact ⟨t ^ i, t, rfl, (sm_pow ht.sm i).sq (by omega), ht.sm.sq (by decide), (by rw [Rat.pow_succ]; exact ⟨rfl, rfl, _, rfl⟩)⟩
  · rintro ρ' S' ⟨rfl, x, rfl⟩
    rw [Int.toNat_natCast, rng_len]
    subst hK2
    simp (disch := (first | assumption | (simp only [List.length_append, List.length_cons, List.length_nil, List.length_set]; omega))) only [pAsg, pBin, pVar, pC, pgName, pgTup, pgCons, pgNil, pCall, pCons, pNil, pTest, pI2_int, pMul_int, seqOf_tup, atI_0, atI_1, pIx, pRet, pTup, pIf, pNeg, pPar, pPar3, pI1, pI2c, pCallF, pAdd_int, pDrop, pIfS, pNext, startD, List.map_cons, List.map_nil, List.length_cons, List.length_nil, List.cons_append, List.nil_append, List.replicate, List.set_cons_zero, List.set_cons_succ, List.getElem?_cons_zero, List.getElem?_cons_succ, Option.some.injEq, exists_eq_left', exists_eq_left, D.int.injEq, D.bl.injEq, D.tup.injEq, D.loc.injEq, List.cons.injEq, and_true, true_and, exists_eq_right, and_assoc, exists_and_left, Nat.reduceAdd, Nat.reduceSub, List.replicate_zero, List.replicate_succ, atI_2, atI_3, pEq_int, pNe_int, tupG_eq, lc_eq, for_eq, pEn, pSq, pZp, pRng1, pCut_eq, cutV_loc, cutV_tup, pAdd_loc, pAdd_tup, pInt_int, pInt_bl, pLen, pPart, pNoPart, pLst, pAugS, pPut, pgSub, ix40, ix41, ix42, lst_inj, seqOf_get, cellL_lst, Option.map_some, at_app, at_new, at_set, at_set_ne]
    exact fall_r h
theorem sem_law_bounds (ds : List D) (S : Sto) (R : Post) (PX : PXK) (h : sp_law_bounds ds S R PX) : t_law_bounds (endF S.length R) (startD N_law_bounds ds) S := by
  obtain ⟨ws, t, ps, s, rfl, f, ht, hs, h⟩ := h
  have hg := gr_ok f
  unfold t_law_bounds N_law_bounds
  refine seq_go fun K1 hK1 => ?_
  simp (disch := (first | assumption | (simp only [List.length_append, List.length_cons, List.length_nil, List.length_set]; omega))) only [pAsg, pBin, pVar, pC, pgName, pgTup, pgCons, pgNil, pCall, pCons, pNil, pTest, pI2_int, pMul_int, seqOf_tup, atI_0, atI_1, pIx, pRet, pTup, pIf, pNeg, pPar, pPar3, pI1, pI2c, pCallF, pAdd_int, pDrop, pIfS, pNext, startD, List.map_cons, List.map_nil, List.length_cons, List.length_nil, List.cons_append, List.nil_append, List.replicate, List.set_cons_zero, List.set_cons_succ, List.getElem?_cons_zero, List.getElem?_cons_succ, Option.some.injEq, exists_eq_left', exists_eq_left, D.int.injEq, D.bl.injEq, D.tup.injEq, D.loc.injEq, List.cons.injEq, and_true, true_and, exists_eq_right, and_assoc, exists_and_left, Nat.reduceAdd, Nat.reduceSub, List.replicate_zero, List.replicate_succ, atI_2, atI_3, pEq_int, pNe_int, tupG_eq, lc_eq, for_eq, pEn, pSq, pZp, pRng1, pCut_eq, cutV_loc, cutV_tup, pAdd_loc, pAdd_tup, pInt_int, pInt_bl, pLen, pPart, pNoPart, pLst, pAugS, pPut, pgSub, ix40, ix41, ix42, lst_inj, seqOf_get, cellL_lst, Option.map_some, at_app, at_new, at_set, at_set_ne]
  refine ⟨t, s, rfl, ht, hs, ?_⟩
  simp (disch := (first | assumption | (simp only [List.length_append, List.length_cons, List.length_nil, List.length_set]; omega))) only [pAsg, pBin, pVar, pC, pgName, pgTup, pgCons, pgNil, pCall, pCons, pNil, pTest, pI2_int, pMul_int, seqOf_tup, atI_0, atI_1, pIx, pRet, pTup, pIf, pNeg, pPar, pPar3, pI1, pI2c, pCallF, pAdd_int, pDrop, pIfS, pNext, startD, List.map_cons, List.map_nil, List.length_cons, List.length_nil, List.cons_append, List.nil_append, List.replicate, List.set_cons_zero, List.set_cons_succ, List.getElem?_cons_zero, List.getElem?_cons_succ, Option.some.injEq, exists_eq_left', exists_eq_left, D.int.injEq, D.bl.injEq, D.tup.injEq, D.loc.injEq, List.cons.injEq, and_true, true_and, exists_eq_right, and_assoc, exists_and_left, Nat.reduceAdd, Nat.reduceSub, List.replicate_zero, List.replicate_succ, atI_2, atI_3, pEq_int, pNe_int, tupG_eq, lc_eq, for_eq, pEn, pSq, pZp, pRng1, pCut_eq, cutV_loc, cutV_tup, pAdd_loc, pAdd_tup, pInt_int, pInt_bl, pLen, pPart, pNoPart, pLst, pAugS, pPut, pgSub, ix40, ix41, ix42, lst_inj, seqOf_get, cellL_lst, Option.map_some, at_app, at_new, at_set, at_set_ne]
  refine ⟨ws, ps, rfl, f, fun G => ?_⟩
  refine ⟨t ^ s, gr ws ps, rfl, (sm_pow ht.sm s).sq (by omega), hg.2.sq (by decide), ?_⟩
  subst hK1
  simp (disch := (first | assumption | (simp only [List.length_append, List.length_cons, List.length_nil, List.length_set]; omega))) only [pAsg, pBin, pVar, pC, pgName, pgTup, pgCons, pgNil, pCall, pCons, pNil, pTest, pI2_int, pMul_int, seqOf_tup, atI_0, atI_1, pIx, pRet, pTup, pIf, pNeg, pPar, pPar3, pI1, pI2c, pCallF, pAdd_int, pDrop, pIfS, pNext, startD, List.map_cons, List.map_nil, List.length_cons, List.length_nil, List.cons_append, List.nil_append, List.replicate, List.set_cons_zero, List.set_cons_succ, List.getElem?_cons_zero, List.getElem?_cons_succ, Option.some.injEq, exists_eq_left', exists_eq_left, D.int.injEq, D.bl.injEq, D.tup.injEq, D.loc.injEq, List.cons.injEq, and_true, true_and, exists_eq_right, and_assoc, exists_and_left, Nat.reduceAdd, Nat.reduceSub, List.replicate_zero, List.replicate_succ, atI_2, atI_3, pEq_int, pNe_int, tupG_eq, lc_eq, for_eq, pEn, pSq, pZp, pRng1, pCut_eq, cutV_loc, cutV_tup, pAdd_loc, pAdd_tup, pInt_int, pInt_bl, pLen, pPart, pNoPart, pLst, pAugS, pPut, pgSub, ix40, ix41, ix42, lst_inj, seqOf_get, cellL_lst, Option.map_some, at_app, at_new, at_set, at_set_ne]
  refine lc_pureO ((ws.map fun w => frD (w * (t ^ s * gr ws ps))).map some) (by rw [List.length_map, List.length_map, List.length_map]) (fun _ => trivial) (by rw [List.length_map]; have := f.few; show _ ≤ 2 ^ 24; omega) ?_ ?_
  · intro i d o hi hy c Y N hY hN
    obtain ⟨w, hw, rfl⟩ := map_at hi
    rw [List.map_map, List.getElem?_map, hw] at hy
    cases hy
    show pgName _ _ [some (.tup (ws.map frD)), some (frD t), some (.tup (ps.map vpD)), some (.int s), some (frD (t ^ s * gr ws ps)), none] _ _
    unfold pYes
    simp (disch := (first | assumption | (simp only [List.length_append, List.length_cons, List.length_nil, List.length_set]; omega))) only [pAsg, pBin, pVar, pC, pgName, pgTup, pgCons, pgNil, pCall, pCons, pNil, pTest, pI2_int, pMul_int, seqOf_tup, atI_0, atI_1, pIx, pRet, pTup, pIf, pNeg, pPar, pPar3, pI1, pI2c, pCallF, pAdd_int, pDrop, pIfS, pNext, startD, List.map_cons, List.map_nil, List.length_cons, List.length_nil, List.cons_append, List.nil_append, List.replicate, List.set_cons_zero, List.set_cons_succ, List.getElem?_cons_zero, List.getElem?_cons_succ, Option.some.injEq, exists_eq_left', exists_eq_left, D.int.injEq, D.bl.injEq, D.tup.injEq, D.loc.injEq, List.cons.injEq, and_true, true_and, exists_eq_right, and_assoc, exists_and_left, Nat.reduceAdd, Nat.reduceSub, List.replicate_zero, List.replicate_succ, atI_2, atI_3, pEq_int, pNe_int, tupG_eq, lc_eq, for_eq, pEn, pSq, pZp, pRng1, pCut_eq, cutV_loc, cutV_tup, pAdd_loc, pAdd_tup, pInt_int, pInt_bl, pLen, pPart, pNoPart, pLst, pAugS, pPut, pgSub, ix40, ix41, ix42, lst_inj, seqOf_get, cellL_lst, Option.map_some, at_app, at_new, at_set, at_set_ne, if_true]
    exact ⟨_, _, rfl, (f.w w (List.mem_of_getElem? hw)).2.sq (by decide), (sm_mul (sm_pow ht.sm s) hg.2).sq (by omega), hY _ rfl⟩
  · simp (disch := (first | assumption | (simp only [List.length_append, List.length_cons, List.length_nil, List.length_set]; omega))) only [pAsg, pBin, pVar, pC, pgName, pgTup, pgCons, pgNil, pCall, pCons, pNil, pTest, pI2_int, pMul_int, seqOf_tup, atI_0, atI_1, pIx, pRet, pTup, pIf, pNeg, pPar, pPar3, pI1, pI2c, pCallF, pAdd_int, pDrop, pIfS, pNext, startD, List.map_cons, List.map_nil, List.length_cons, List.length_nil, List.cons_append, List.nil_append, List.replicate, List.set_cons_zero, List.set_cons_succ, List.getElem?_cons_zero, List.getElem?_cons_succ, Option.some.injEq, exists_eq_left', exists_eq_left, D.int.injEq, D.bl.injEq, D.tup.injEq, D.loc.injEq, List.cons.injEq, and_true, true_and, exists_eq_right, and_assoc, exists_and_left, Nat.reduceAdd, Nat.reduceSub, List.replicate_zero, List.replicate_succ, atI_2, atI_3, pEq_int, pNe_int, tupG_eq, lc_eq, for_eq, pEn, pSq, pZp, pRng1, pCut_eq, cutV_loc, cutV_tup, pAdd_loc, pAdd_tup, pInt_int, pInt_bl, pLen, pPart, pNoPart, pLst, pAugS, pPut, pgSub, ix40, ix41, ix42, lst_inj, seqOf_get, cellL_lst, Option.map_some, at_app, at_new, at_set, at_set_ne, pTuple, List.filterMap_map]
    refine fall_r ?_
    have e : List.filterMap ((id ∘ some) ∘ fun w => frD (w * (t ^ s * gr ws ps))) ws = (ws.map fun w => w * (t ^ s * gr ws ps)).map frD := by
      show List.filterMap (some ∘ fun w => frD (w * (t ^ s * gr ws ps))) ws = _
      rw [List.filterMap_eq_map, List.map_map]
      rfl
    rw [e, List.append_assoc]
    exact h _
theorem sem_stages_for (c : Addr) (ds : List D) (S : Sto) (R : Post) (PX : PXK) (h : sp_stages_for c ds S R PX) : t_stages_for PX c (endF S.length R) (startD N_stages_for ds) S := by
  obtain ⟨ws, t, ps, nr, rfl, f, ht, hnr, h1, h2⟩ := h
  have hg := gr_ok f
  have hw := f.w _ (max_in (ws_ne f))
  unfold t_stages_for N_stages_for
  refine seq_go fun K1 hK1 => ?_
  simp (disch := (first | assumption | (simp only [List.length_append, List.length_cons, List.length_nil, List.length_set]; omega))) only [pAsg, pBin, pVar, pC, pgName, pgTup, pgCons, pgNil, pCall, pCons, pNil, pTest, pI2_int, pMul_int, seqOf_tup, atI_0, atI_1, pIx, pRet, pTup, pIf, pNeg, pPar, pPar3, pI1, pI2c, pCallF, pAdd_int, pDrop, pIfS, pNext, startD, List.map_cons, List.map_nil, List.length_cons, List.length_nil, List.cons_append, List.nil_append, List.replicate, List.set_cons_zero, List.set_cons_succ, List.getElem?_cons_zero, List.getElem?_cons_succ, Option.some.injEq, exists_eq_left', exists_eq_left, D.int.injEq, D.bl.injEq, D.tup.injEq, D.loc.injEq, List.cons.injEq, and_true, true_and, exists_eq_right, and_assoc, exists_and_left, Nat.reduceAdd, Nat.reduceSub, List.replicate_zero, List.replicate_succ, atI_2, atI_3, pEq_int, pNe_int, tupG_eq, lc_eq, for_eq, pEn, pSq, pZp, pRng1, pCut_eq, cutV_loc, cutV_tup, pAdd_loc, pAdd_tup, pInt_int, pInt_bl, pLen, pPart, pNoPart, pLst, pAugS, pPut, pgSub, ix40, ix41, ix42, lst_inj, seqOf_get, cellL_lst, Option.map_some, at_app, at_new, at_set, at_set_ne]
  refine ⟨.tup (ws.map frD), ws, rfl, rfl, ws_ne f, fun q hq => (f.w q hq).2.sq (by decide), ?_⟩
  simp (disch := (first | assumption | (simp only [List.length_append, List.length_cons, List.length_nil, List.length_set]; omega))) only [pAsg, pBin, pVar, pC, pgName, pgTup, pgCons, pgNil, pCall, pCons, pNil, pTest, pI2_int, pMul_int, seqOf_tup, atI_0, atI_1, pIx, pRet, pTup, pIf, pNeg, pPar, pPar3, pI1, pI2c, pCallF, pAdd_int, pDrop, pIfS, pNext, startD, List.map_cons, List.map_nil, List.length_cons, List.length_nil, List.cons_append, List.nil_append, List.replicate, List.set_cons_zero, List.set_cons_succ, List.getElem?_cons_zero, List.getElem?_cons_succ, Option.some.injEq, exists_eq_left', exists_eq_left, D.int.injEq, D.bl.injEq, D.tup.injEq, D.loc.injEq, List.cons.injEq, and_true, true_and, exists_eq_right, and_assoc, exists_and_left, Nat.reduceAdd, Nat.reduceSub, List.replicate_zero, List.replicate_succ, atI_2, atI_3, pEq_int, pNe_int, tupG_eq, lc_eq, for_eq, pEn, pSq, pZp, pRng1, pCut_eq, cutV_loc, cutV_tup, pAdd_loc, pAdd_tup, pInt_int, pInt_bl, pLen, pPart, pNoPart, pLst, pAugS, pPut, pgSub, ix40, ix41, ix42, lst_inj, seqOf_get, cellL_lst, Option.map_some, at_app, at_new, at_set, at_set_ne]
  refine ⟨ws, ps, rfl, f, fun G => ?_⟩
  refine ⟨maxQ ws, gr ws ps, rfl, hw.2.sq (by decide), hg.2.sq (by decide), ?_⟩
  subst hK1
  generalize hM : maxQ ws * gr ws ps = M at h1 h2 ⊢
  have smM : Sm 61 M := by rw [← hM]; exact (sm_mul hw.2 hg.2).mono (by decide)
  refine seq_go fun K2 hK2 => ?_
  simp (disch := (first | assumption | (simp only [List.length_append, List.length_cons, List.length_nil, List.length_set]; omega))) only [pAsg, pBin, pVar, pC, pgName, pgTup, pgCons, pgNil, pCall, pCons, pNil, pTest, pI2_int, pMul_int, seqOf_tup, atI_0, atI_1, pIx, pRet, pTup, pIf, pNeg, pPar, pPar3, pI1, pI2c, pCallF, pAdd_int, pDrop, pIfS, pNext, startD, List.map_cons, List.map_nil, List.length_cons, List.length_nil, List.cons_append, List.nil_append, List.replicate, List.set_cons_zero, List.set_cons_succ, List.getElem?_cons_zero, List.getElem?_cons_succ, Option.some.injEq, exists_eq_left', exists_eq_left, D.int.injEq, D.bl.injEq, D.tup.injEq, D.loc.injEq, List.cons.injEq, and_true, true_and, exists_eq_right, and_assoc, exists_and_left, Nat.reduceAdd, Nat.reduceSub, List.replicate_zero, List.replicate_succ, atI_2, atI_3, pEq_int, pNe_int, tupG_eq, lc_eq, for_eq, pEn, pSq, pZp, pRng1, pCut_eq, cutV_loc, cutV_tup, pAdd_loc, pAdd_tup, pInt_int, pInt_bl, pLen, pPart, pNoPart, pLst, pAugS, pPut, pgSub, ix40, ix41, ix42, lst_inj, seqOf_get, cellL_lst, Option.map_some, at_app, at_new, at_set, at_set_ne, pRng2]
  refine ⟨by decide, by decide, by decide, by decide, ?_⟩
  refine ⟨fun i ρ' S' => S' = S ++ G ∧ (∃ x, ρ' = [some (.tup (ws.map frD)), some (frD t), some (.tup (ps.map vpD)), some (frD nr), some (frD (M * t ^ i)), x]) ∧ ∀ j, j < i → ¬ M * t ^ (j + 1) ≤ nr, ⟨rfl, ⟨none, by rw [Rat.pow_zero, Rat.mul_one]⟩, fun j hj => by omega⟩, fun _ _ _ _ => trivial, ?_, ?_⟩
  · rintro i d ρ' S' hi ⟨rfl, ⟨x, rfl⟩, hlt⟩
    obtain ⟨hin, rfl⟩ := rngD_get hi
    have hin : i < 400 := hin
    simp (disch := (first | assumption | (simp only [List.length_append, List.length_cons, List.length_nil, List.length_set]; omega))) only [pAsg, pBin, pVar, pC, pgName, pgTup, pgCons, pgNil, pCall, pCons, pNil, pTest, pI2_int, pMul_int, seqOf_tup, atI_0, atI_1, pIx, pRet, pTup, pIf, pNeg, pPar, pPar3, pI1, pI2c, pCallF, pAdd_int, pDrop, pIfS, pNext, startD, List.map_cons, List.map_nil, List.length_cons, List.length_nil, List.cons_append, List.nil_append, List.replicate, List.set_cons_zero, List.set_cons_succ, List.getElem?_cons_zero, List.getElem?_cons_succ, Option.some.injEq, exists_eq_left', exists_eq_left, D.int.injEq, D.bl.injEq, D.tup.injEq, D.loc.injEq, List.cons.injEq, and_true, true_and, exists_eq_right, and_assoc, exists_and_left, Nat.reduceAdd, Nat.reduceSub, List.replicate_zero, List.replicate_succ, atI_2, atI_3, pEq_int, pNe_int, tupG_eq, lc_eq, for_eq, pEn, pSq, pZp, pRng1, pCut_eq, cutV_loc, cutV_tup, pAdd_loc, pAdd_tup, pInt_int, pInt_bl, pLen, pPart, pNoPart, pLst, pAugS, pPut, pgSub, ix40, ix41, ix42, lst_inj, seqOf_get, cellL_lst, Option.map_some, at_app, at_new, at_set, at_set_ne]
    refine seq_go fun K3 hK3 => ?_
    have sA : Sm (61 + (7 * i + 1)) (M * t ^ i) := sm_mul smM (sm_pow ht.sm i)
    have sB : Sm (61 + (7 * (i + 1) + 1)) (M * t ^ (i + 1)) := sm_mul smM (sm_pow ht.sm (i + 1))
    simp (disch := (first | assumption | (simp only [List.length_append, List.length_cons, List.length_nil, List.length_set]; omega))) only [pAsg, pBin, pVar, pC, pgName, pgTup, pgCons, pgNil, pCall, pCons, pNil, pTest, pI2_int, pMul_int, seqOf_tup, atI_0, atI_1, pIx, pRet, pTup, pIf, pNeg, pPar, pPar3, pI1, pI2c, pCallF, pAdd_int, pDrop, pIfS, pNext, startD, List.map_cons, List.map_nil, List.length_cons, List.length_nil, List.cons_append, List.nil_append, List.replicate, List.set_cons_zero, List.set_cons_succ, List.getElem?_cons_zero, List.getElem?_cons_succ, Option.some.injEq, exists_eq_left', exists_eq_left, D.int.injEq, D.bl.injEq, D.tup.injEq, D.loc.injEq, List.cons.injEq, and_true, true_and, exists_eq_right, and_assoc, exists_and_left, Nat.reduceAdd, Nat.reduceSub, List.replicate_zero, List.replicate_succ, atI_2, atI_3, pEq_int, pNe_int, tupG_eq, lc_eq, for_eq, pEn, pSq, pZp, pRng1, pCut_eq, cutV_loc, cutV_tup, pAdd_loc, pAdd_tup, pInt_int, pInt_bl, pLen, pPart, pNoPart, pLst, pAugS, pPut, pgSub, ix40, ix41, ix42, lst_inj, seqOf_get, cellL_lst, Option.map_some, at_app, at_new, at_set, at_set_ne]
    refine ⟨_, _, rfl, sA.sq (by omega), ht.sm.sq (by decide), ?_⟩
    have e1 : M * t ^ i * t = M * t ^ (i + 1) := by rw [Rat.pow_succ, Rat.mul_assoc]
    rw [e1]
    subst hK3
    simp (disch := (first | assumption | (simp only [List.length_append, List.length_cons, List.length_nil, List.length_set]; omega))) only [pAsg, pBin, pVar, pC, pgName, pgTup, pgCons, pgNil, pCall, pCons, pNil, pTest, pI2_int, pMul_int, seqOf_tup, atI_0, atI_1, pIx, pRet, pTup, pIf, pNeg, pPar, pPar3, pI1, pI2c, pCallF, pAdd_int, pDrop, pIfS, pNext, startD, List.map_cons, List.map_nil, List.length_cons, List.length_nil, List.cons_append, List.nil_append, List.replicate, List.set_cons_zero, List.set_cons_succ, List.getElem?_cons_zero, List.getElem?_cons_succ, Option.some.injEq, exists_eq_left', exists_eq_left, D.int.injEq, D.bl.injEq, D.tup.injEq, D.loc.injEq, List.cons.injEq, and_true, true_and, exists_eq_right, and_assoc, exists_and_left, Nat.reduceAdd, Nat.reduceSub, List.replicate_zero, List.replicate_succ, atI_2, atI_3, pEq_int, pNe_int, tupG_eq, lc_eq, for_eq, pEn, pSq, pZp, pRng1, pCut_eq, cutV_loc, cutV_tup, pAdd_loc, pAdd_tup, pInt_int, pInt_bl, pLen, pPart, pNoPart, pLst, pAugS, pPut, pgSub, ix40, ix41, ix42, lst_inj, seqOf_get, cellL_lst, Option.map_some, at_app, at_new, at_set, at_set_ne]
    refine ⟨_, _, rfl, sB.sq (by omega), hnr.sq (by decide), ?_⟩
    simp (disch := (first | assumption | (simp only [List.length_append, List.length_cons, List.length_nil, List.length_set]; omega))) only [pAsg, pBin, pVar, pC, pgName, pgTup, pgCons, pgNil, pCall, pCons, pNil, pTest, pI2_int, pMul_int, seqOf_tup, atI_0, atI_1, pIx, pRet, pTup, pIf, pNeg, pPar, pPar3, pI1, pI2c, pCallF, pAdd_int, pDrop, pIfS, pNext, startD, List.map_cons, List.map_nil, List.length_cons, List.length_nil, List.cons_append, List.nil_append, List.replicate, List.set_cons_zero, List.set_cons_succ, List.getElem?_cons_zero, List.getElem?_cons_succ, Option.some.injEq, exists_eq_left', exists_eq_left, D.int.injEq, D.bl.injEq, D.tup.injEq, D.loc.injEq, List.cons.injEq, and_true, true_and, exists_eq_right, and_assoc, exists_and_left, Nat.reduceAdd, Nat.reduceSub, List.replicate_zero, List.replicate_succ, atI_2, atI_3, pEq_int, pNe_int, tupG_eq, lc_eq, for_eq, pEn, pSq, pZp, pRng1, pCut_eq, cutV_loc, cutV_tup, pAdd_loc, pAdd_tup, pInt_int, pInt_bl, pLen, pPart, pNoPart, pLst, pAugS, pPut, pgSub, ix40, ix41, ix42, lst_inj, seqOf_get, cellL_lst, Option.map_some, at_app, at_new, at_set, at_set_ne]
    have e : decide (cmpQ (M * t ^ (i + 1)) nr ≤ 0) = decide (M * t ^ (i + 1) ≤ nr) := decide_eq_decide.mpr (cmp_le _ _)
    rw [e]
    split
    · rename_i hk
      have hf := fst_some hin hlt (of_decide_eq_true hk)
      have := h1 i hf G
      rw [show ((i + 1 : Nat) : Int) = 1 + (i : Int) by omega] at this
      exact fall_r this
    · rename_i hk
      have hk : ¬ M * t ^ (i + 1) ≤ nr := fun z => hk (decide_eq_true z)
      refine ⟨⟨_, rfl⟩, fun j hj => ?_⟩
      by_cases e : j = i
      · rw [e]; exact hk
      · exact hlt j (by omega)
  · rintro ρ' S' ⟨rfl, ⟨x, rfl⟩, hlt⟩
    subst hK2
    simp (disch := (first | assumption | (simp only [List.length_append, List.length_cons, List.length_nil, List.length_set]; omega))) only [pAsg, pBin, pVar, pC, pgName, pgTup, pgCons, pgNil, pCall, pCons, pNil, pTest, pI2_int, pMul_int, seqOf_tup, atI_0, atI_1, pIx, pRet, pTup, pIf, pNeg, pPar, pPar3, pI1, pI2c, pCallF, pAdd_int, pDrop, pIfS, pNext, startD, List.map_cons, List.map_nil, List.length_cons, List.length_nil, List.cons_append, List.nil_append, List.replicate, List.set_cons_zero, List.set_cons_succ, List.getElem?_cons_zero, List.getElem?_cons_succ, Option.some.injEq, exists_eq_left', exists_eq_left, D.int.injEq, D.bl.injEq, D.tup.injEq, D.loc.injEq, List.cons.injEq, and_true, true_and, exists_eq_right, and_assoc, exists_and_left, Nat.reduceAdd, Nat.reduceSub, List.replicate_zero, List.replicate_succ, atI_2, atI_3, pEq_int, pNe_int, tupG_eq, lc_eq, for_eq, pEn, pSq, pZp, pRng1, pCut_eq, cutV_loc, cutV_tup, pAdd_loc, pAdd_tup, pInt_int, pInt_bl, pLen, pPart, pNoPart, pLst, pAugS, pPut, pgSub, ix40, ix41, ix42, lst_inj, seqOf_get, cellL_lst, Option.map_some, at_app, at_new, at_set, at_set_ne, pRaise]
    exact h2 (fst_all hlt) G
theorem sem_law_least_stage (ds : List D) (S : Sto) (R : Post) (PX : PXK) (h : sp_law_least_stage ds S R PX) : t_law_least_stage (endF S.length R) (startD N_law_least_stage ds) S := by
  obtain ⟨ws, t, ps, nr, rfl, f, ht, hnr, h1, h2⟩ := h
  have hg := gr_ok f
  unfold t_law_least_stage N_law_least_stage
  refine seq_go fun K1 hK1 => ?_
  simp (disch := (first | assumption | (simp only [List.length_append, List.length_cons, List.length_nil, List.length_set]; omega))) only [pAsg, pBin, pVar, pC, pgName, pgTup, pgCons, pgNil, pCall, pCons, pNil, pTest, pI2_int, pMul_int, seqOf_tup, atI_0, atI_1, pIx, pRet, pTup, pIf, pNeg, pPar, pPar3, pI1, pI2c, pCallF, pAdd_int, pDrop, pIfS, pNext, startD, List.map_cons, List.map_nil, List.length_cons, List.length_nil, List.cons_append, List.nil_append, List.replicate, List.set_cons_zero, List.set_cons_succ, List.getElem?_cons_zero, List.getElem?_cons_succ, Option.some.injEq, exists_eq_left', exists_eq_left, D.int.injEq, D.bl.injEq, D.tup.injEq, D.loc.injEq, List.cons.injEq, and_true, true_and, exists_eq_right, and_assoc, exists_and_left, Nat.reduceAdd, Nat.reduceSub, List.replicate_zero, List.replicate_succ, atI_2, atI_3, pEq_int, pNe_int, tupG_eq, lc_eq, for_eq, pEn, pSq, pZp, pRng1, pCut_eq, cutV_loc, cutV_tup, pAdd_loc, pAdd_tup, pInt_int, pInt_bl, pLen, pPart, pNoPart, pLst, pAugS, pPut, pgSub, ix40, ix41, ix42, lst_inj, seqOf_get, cellL_lst, Option.map_some, at_app, at_new, at_set, at_set_ne]
  refine ⟨ws, t, ps, 0, rfl, f, ht, by decide, fun G => ?_⟩
  subst hK1
  have e0 : (ws.map fun w => w * (t ^ 0 * gr ws ps)) = ws.map fun w => w * gr ws ps * t ^ 0 := by
    refine List.map_congr_left fun w _ => ?_
    rw [Rat.pow_zero, Rat.one_mul, Rat.mul_one]
  rw [e0]
  refine seq_go fun K2 hK2 => ?_
  simp (disch := (first | assumption | (simp only [List.length_append, List.length_cons, List.length_nil, List.length_set]; omega))) only [pAsg, pBin, pVar, pC, pgName, pgTup, pgCons, pgNil, pCall, pCons, pNil, pTest, pI2_int, pMul_int, seqOf_tup, atI_0, atI_1, pIx, pRet, pTup, pIf, pNeg, pPar, pPar3, pI1, pI2c, pCallF, pAdd_int, pDrop, pIfS, pNext, startD, List.map_cons, List.map_nil, List.length_cons, List.length_nil, List.cons_append, List.nil_append, List.replicate, List.set_cons_zero, List.set_cons_succ, List.getElem?_cons_zero, List.getElem?_cons_succ, Option.some.injEq, exists_eq_left', exists_eq_left, D.int.injEq, D.bl.injEq, D.tup.injEq, D.loc.injEq, List.cons.injEq, and_true, true_and, exists_eq_right, and_assoc, exists_and_left, Nat.reduceAdd, Nat.reduceSub, List.replicate_zero, List.replicate_succ, atI_2, atI_3, pEq_int, pNe_int, tupG_eq, lc_eq, for_eq, pEn, pSq, pZp, pRng1, pCut_eq, cutV_loc, cutV_tup, pAdd_loc, pAdd_tup, pInt_int, pInt_bl, pLen, pPart, pNoPart, pLst, pAugS, pPut, pgSub, ix40, ix41, ix42, lst_inj, seqOf_get, cellL_lst, Option.map_some, at_app, at_new, at_set, at_set_ne, pRng2]
  refine ⟨by decide, by decide, by decide, by decide, ?_⟩
  have big : ∀ i, (∀ w ∈ ws, w * gr ws ps * t ^ i ≤ nr) ↔ maxQ ws * gr ws ps * t ^ i ≤ nr := fun i => by
    have := all_le (ws := ws) (x := gr ws ps * t ^ i) (y := 0) (nr := nr) (Rat.mul_nonneg hg.1 (ht.nn i)) (ws_ne f)
    simpa only [Rat.mul_assoc] using this
  refine ⟨fun i ρ' S' => ∃ G x y, S' = S ++ G ∧ ρ' = [some (.tup (ws.map frD)), some (frD t), some (.tup (ps.map vpD)), some (frD nr), some (.tup ((ws.map fun w => w * gr ws ps * t ^ i).map frD)), x, y] ∧ ∀ j, j < i → ¬ maxQ ws * gr ws ps * t ^ (j + 1) ≤ nr, ⟨G, none, none, rfl, rfl, fun j hj => by omega⟩, fun _ _ _ _ => trivial, ?_, ?_⟩
  · rintro i d ρ' S' hi ⟨G, x, y, rfl, rfl, hlt⟩
    obtain ⟨hin, rfl⟩ := rngD_get hi
    have hin : i < 400 := hin
    simp (disch := (first | assumption | (simp only [List.length_append, List.length_cons, List.length_nil, List.length_set]; omega))) only [pAsg, pBin, pVar, pC, pgName, pgTup, pgCons, pgNil, pCall, pCons, pNil, pTest, pI2_int, pMul_int, seqOf_tup, atI_0, atI_1, pIx, pRet, pTup, pIf, pNeg, pPar, pPar3, pI1, pI2c, pCallF, pAdd_int, pDrop, pIfS, pNext, startD, List.map_cons, List.map_nil, List.length_cons, List.length_nil, List.cons_append, List.nil_append, List.replicate, List.set_cons_zero, List.set_cons_succ, List.getElem?_cons_zero, List.getElem?_cons_succ, Option.some.injEq, exists_eq_left', exists_eq_left, D.int.injEq, D.bl.injEq, D.tup.injEq, D.loc.injEq, List.cons.injEq, and_true, true_and, exists_eq_right, and_assoc, exists_and_left, Nat.reduceAdd, Nat.reduceSub, List.replicate_zero, List.replicate_succ, atI_2, atI_3, pEq_int, pNe_int, tupG_eq, lc_eq, for_eq, pEn, pSq, pZp, pRng1, pCut_eq, cutV_loc, cutV_tup, pAdd_loc, pAdd_tup, pInt_int, pInt_bl, pLen, pPart, pNoPart, pLst, pAugS, pPut, pgSub, ix40, ix41, ix42, lst_inj, seqOf_get, cellL_lst, Option.map_some, at_app, at_new, at_set, at_set_ne]
    refine seq_go fun K3 hK3 => ?_
    simp (disch := (first | assumption | (simp only [List.length_append, List.length_cons, List.length_nil, List.length_set]; omega))) only [pAsg, pBin, pVar, pC, pgName, pgTup, pgCons, pgNil, pCall, pCons, pNil, pTest, pI2_int, pMul_int, seqOf_tup, atI_0, atI_1, pIx, pRet, pTup, pIf, pNeg, pPar, pPar3, pI1, pI2c, pCallF, pAdd_int, pDrop, pIfS, pNext, startD, List.map_cons, List.map_nil, List.length_cons, List.length_nil, List.cons_append, List.nil_append, List.replicate, List.set_cons_zero, List.set_cons_succ, List.getElem?_cons_zero, List.getElem?_cons_succ, Option.some.injEq, exists_eq_left', exists_eq_left, D.int.injEq, D.bl.injEq, D.tup.injEq, D.loc.injEq, List.cons.injEq, and_true, true_and, exists_eq_right, and_assoc, exists_and_left, Nat.reduceAdd, Nat.reduceSub, List.replicate_zero, List.replicate_succ, atI_2, atI_3, pEq_int, pNe_int, tupG_eq, lc_eq, for_eq, pEn, pSq, pZp, pRng1, pCut_eq, cutV_loc, cutV_tup, pAdd_loc, pAdd_tup, pInt_int, pInt_bl, pLen, pPart, pNoPart, pLst, pAugS, pPut, pgSub, ix40, ix41, ix42, lst_inj, seqOf_get, cellL_lst, Option.map_some, at_app, at_new, at_set, at_set_ne]
    refine lc_pureO ((ws.map fun w => w * gr ws ps * t ^ (i + 1)).map fun q => some (frD q)) (by rw [List.length_map, List.length_map, List.length_map, List.length_map]) (fun _ => trivial) (by rw [List.length_map, List.length_map]; have := f.few; show _ ≤ 2 ^ 24; omega) ?_ ?_
    · intro k d o hi hy c Y N hY hN
      obtain ⟨q, hq, rfl⟩ := map_at hi
      rw [List.getElem?_map] at hq
      rw [List.map_map, List.getElem?_map] at hy
      cases hw : ws[k]? with
      | none => rw [hw] at hq; cases hq
      | some w =>
        rw [hw] at hq hy
        cases hq; cases hy
        show pgName _ _ [some (.tup (ws.map frD)), some (frD t), some (.tup (ps.map vpD)), some (frD nr), some (.tup ((ws.map fun w => w * gr ws ps * t ^ i).map frD)), some (.int (1 + (i : Int))), none] _ _
        unfold pYes
        simp (disch := (first | assumption | (simp only [List.length_append, List.length_cons, List.length_nil, List.length_set]; omega))) only [pAsg, pBin, pVar, pC, pgName, pgTup, pgCons, pgNil, pCall, pCons, pNil, pTest, pI2_int, pMul_int, seqOf_tup, atI_0, atI_1, pIx, pRet, pTup, pIf, pNeg, pPar, pPar3, pI1, pI2c, pCallF, pAdd_int, pDrop, pIfS, pNext, startD, List.map_cons, List.map_nil, List.length_cons, List.length_nil, List.cons_append, List.nil_append, List.replicate, List.set_cons_zero, List.set_cons_succ, List.getElem?_cons_zero, List.getElem?_cons_succ, Option.some.injEq, exists_eq_left', exists_eq_left, D.int.injEq, D.bl.injEq, D.tup.injEq, D.loc.injEq, List.cons.injEq, and_true, true_and, exists_eq_right, and_assoc, exists_and_left, Nat.reduceAdd, Nat.reduceSub, List.replicate_zero, List.replicate_succ, atI_2, atI_3, pEq_int, pNe_int, tupG_eq, lc_eq, for_eq, pEn, pSq, pZp, pRng1, pCut_eq, cutV_loc, cutV_tup, pAdd_loc, pAdd_tup, pInt_int, pInt_bl, pLen, pPart, pNoPart, pLst, pAugS, pPut, pgSub, ix40, ix41, ix42, lst_inj, seqOf_get, cellL_lst, Option.map_some, at_app, at_new, at_set, at_set_ne, if_true]
        refine ⟨_, _, rfl, (sm_step ht (by omega) hg.2 (f.w w (List.mem_of_getElem? hw)).2).2.2.2.1, ht.sm.sq (by decide), ?_⟩
        rw [Rat.mul_assoc, ← Rat.pow_succ]
        exact hY _ rfl
    · have e : ∀ qs : List Rat, List.filterMap id (qs.map fun q => some (frD q)) = qs.map frD := fun qs => by
        rw [List.filterMap_map]
        show List.filterMap (some ∘ frD) qs = _
        rw [List.filterMap_eq_map]
      rw [e]
      simp (disch := (first | assumption | (simp only [List.length_append, List.length_cons, List.length_nil, List.length_set]; omega))) only [pAsg, pBin, pVar, pC, pgName, pgTup, pgCons, pgNil, pCall, pCons, pNil, pTest, pI2_int, pMul_int, seqOf_tup, atI_0, atI_1, pIx, pRet, pTup, pIf, pNeg, pPar, pPar3, pI1, pI2c, pCallF, pAdd_int, pDrop, pIfS, pNext, startD, List.map_cons, List.map_nil, List.length_cons, List.length_nil, List.cons_append, List.nil_append, List.replicate, List.set_cons_zero, List.set_cons_succ, List.getElem?_cons_zero, List.getElem?_cons_succ, Option.some.injEq, exists_eq_left', exists_eq_left, D.int.injEq, D.bl.injEq, D.tup.injEq, D.loc.injEq, List.cons.injEq, and_true, true_and, exists_eq_right, and_assoc, exists_and_left, Nat.reduceAdd, Nat.reduceSub, List.replicate_zero, List.replicate_succ, atI_2, atI_3, pEq_int, pNe_int, tupG_eq, lc_eq, for_eq, pEn, pSq, pZp, pRng1, pCut_eq, cutV_loc, cutV_tup, pAdd_loc, pAdd_tup, pInt_int, pInt_bl, pLen, pPart, pNoPart, pLst, pAugS, pPut, pgSub, ix40, ix41, ix42, lst_inj, seqOf_get, cellL_lst, Option.map_some, at_app, at_new, at_set, at_set_ne, pTuple]
      subst hK3
      refine seq_go fun K4 hK4 => ?_
      simp (disch := (first | assumption | (simp only [List.length_append, List.length_cons, List.length_nil, List.length_set]; omega))) only [pAsg, pBin, pVar, pC, pgName, pgTup, pgCons, pgNil, pCall, pCons, pNil, pTest, pI2_int, pMul_int, seqOf_tup, atI_0, atI_1, pIx, pRet, pTup, pIf, pNeg, pPar, pPar3, pI1, pI2c, pCallF, pAdd_int, pDrop, pIfS, pNext, startD, List.map_cons, List.map_nil, List.length_cons, List.length_nil, List.cons_append, List.nil_append, List.replicate, List.set_cons_zero, List.set_cons_succ, List.getElem?_cons_zero, List.getElem?_cons_succ, Option.some.injEq, exists_eq_left', exists_eq_left, D.int.injEq, D.bl.injEq, D.tup.injEq, D.loc.injEq, List.cons.injEq, and_true, true_and, exists_eq_right, and_assoc, exists_and_left, Nat.reduceAdd, Nat.reduceSub, List.replicate_zero, List.replicate_succ, atI_2, atI_3, pEq_int, pNe_int, tupG_eq, lc_eq, for_eq, pEn, pSq, pZp, pRng1, pCut_eq, cutV_loc, cutV_tup, pAdd_loc, pAdd_tup, pInt_int, pInt_bl, pLen, pPart, pNoPart, pLst, pAugS, pPut, pgSub, ix40, ix41, ix42, lst_inj, seqOf_get, cellL_lst, Option.map_some, at_app, at_new, at_set, at_set_ne]
      have sz : (ws.map fun w => w * gr ws ps * t ^ (i + 1)).length ≤ 2 ^ 24 := by rw [List.length_map]; have := f.few; omega
      have sqs : ∀ q ∈ (ws.map fun w => w * gr ws ps * t ^ (i + 1)), Sq q := fun q hq => by
        obtain ⟨w, hw, rfl⟩ := List.mem_map.mp hq
        exact (sm_step ht (by omega) hg.2 (f.w w hw).2).2.2.2.1
      have bigs := big (i + 1)
      have bigs2 : (∀ q ∈ (ws.map fun w => w * gr ws ps * t ^ (i + 1)), q ≤ nr) ↔ maxQ ws * gr ws ps * t ^ (i + 1) ≤ nr := by
        rw [← bigs]
        constructor
        · intro h w hw; exact h _ (List.mem_map.mpr ⟨w, hw, rfl⟩)
        · intro h q hq
          obtain ⟨w, hw, rfl⟩ := List.mem_map.mp hq
          exact h w hw
      generalize (ws.map fun w => w * gr ws ps * t ^ (i + 1)) = L at sz sqs bigs2 hK4 ⊢
      refine lc_pureO (L.map fun q => if nr < q then some (frD q) else none) (by rw [List.length_map, List.length_map]) (fun _ => trivial) (by rw [List.length_map]; exact sz) ?_ ?_
      · intro k d o hi hy c Y N hY hN
        obtain ⟨q, hq, rfl⟩ := map_at hi
        rw [List.getElem?_map, hq] at hy
        cases hy
        show pgName _ _ [some (.tup (ws.map frD)), some (frD t), some (.tup (ps.map vpD)), some (frD nr), some (.tup (L.map frD)), some (.int (1 + (i : Int))), none] _ _
        simp (disch := (first | assumption | (simp only [List.length_append, List.length_cons, List.length_nil, List.length_set]; omega))) only [pAsg, pBin, pVar, pC, pgName, pgTup, pgCons, pgNil, pCall, pCons, pNil, pTest, pI2_int, pMul_int, seqOf_tup, atI_0, atI_1, pIx, pRet, pTup, pIf, pNeg, pPar, pPar3, pI1, pI2c, pCallF, pAdd_int, pDrop, pIfS, pNext, startD, List.map_cons, List.map_nil, List.length_cons, List.length_nil, List.cons_append, List.nil_append, List.replicate, List.set_cons_zero, List.set_cons_succ, List.getElem?_cons_zero, List.getElem?_cons_succ, Option.some.injEq, exists_eq_left', exists_eq_left, D.int.injEq, D.bl.injEq, D.tup.injEq, D.loc.injEq, List.cons.injEq, and_true, true_and, exists_eq_right, and_assoc, exists_and_left, Nat.reduceAdd, Nat.reduceSub, List.replicate_zero, List.replicate_succ, atI_2, atI_3, pEq_int, pNe_int, tupG_eq, lc_eq, for_eq, pEn, pSq, pZp, pRng1, pCut_eq, cutV_loc, cutV_tup, pAdd_loc, pAdd_tup, pInt_int, pInt_bl, pLen, pPart, pNoPart, pLst, pAugS, pPut, pgSub, ix40, ix41, ix42, lst_inj, seqOf_get, cellL_lst, Option.map_some, at_app, at_new, at_set, at_set_ne]
        refine ⟨nr, q, rfl, hnr.sq (by decide), sqs q (List.mem_of_getElem? hq), ?_⟩
        simp (disch := (first | assumption | (simp only [List.length_append, List.length_cons, List.length_nil, List.length_set]; omega))) only [pAsg, pBin, pVar, pC, pgName, pgTup, pgCons, pgNil, pCall, pCons, pNil, pTest, pI2_int, pMul_int, seqOf_tup, atI_0, atI_1, pIx, pRet, pTup, pIf, pNeg, pPar, pPar3, pI1, pI2c, pCallF, pAdd_int, pDrop, pIfS, pNext, startD, List.map_cons, List.map_nil, List.length_cons, List.length_nil, List.cons_append, List.nil_append, List.replicate, List.set_cons_zero, List.set_cons_succ, List.getElem?_cons_zero, List.getElem?_cons_succ, Option.some.injEq, exists_eq_left', exists_eq_left, D.int.injEq, D.bl.injEq, D.tup.injEq, D.loc.injEq, List.cons.injEq, and_true, true_and, exists_eq_right, and_assoc, exists_and_left, Nat.reduceAdd, Nat.reduceSub, List.replicate_zero, List.replicate_succ, atI_2, atI_3, pEq_int, pNe_int, tupG_eq, lc_eq, for_eq, pEn, pSq, pZp, pRng1, pCut_eq, cutV_loc, cutV_tup, pAdd_loc, pAdd_tup, pInt_int, pInt_bl, pLen, pPart, pNoPart, pLst, pAugS, pPut, pgSub, ix40, ix41, ix42, lst_inj, seqOf_get, cellL_lst, Option.map_some, at_app, at_new, at_set, at_set_ne]
        split
        · rename_i hk
          exact hY _ (if_pos (of_decide_eq_true hk))
        · rename_i hk
          exact hN (if_neg (fun z => hk (decide_eq_true z)))
      · have e2 : List.filterMap id (L.map fun q => if nr < q then some (frD q) else none) = (L.filter fun q => decide (nr < q)).map frD := by
          clear sz sqs bigs2 hK4
          induction L with
          | nil => rfl
          | cons q L ih =>
            rw [List.map_cons, List.filter_cons]
            by_cases hk : nr < q
            · rw [if_pos hk, if_pos (decide_eq_true hk), List.map_cons, List.filterMap_cons_some (f := id) rfl, ih]
            · rw [if_neg hk, if_neg (fun z => hk (of_decide_eq_true z)), List.filterMap_cons_none (f := id) rfl, ih]
        rw [e2]
        refine ⟨Nat.zero_le _, .list ((L.filter fun q => decide (nr < q)).map pyFr), .list [], .loc ?_ py_frs, .loc at_new .nil, shaped_list _, shaped_list [], ?_⟩
        · rw [at_app (by simp), at_new]
        · rw [eqv_nil]
          have key : (L.filter fun q => decide (nr < q)) = [] ↔ maxQ ws * gr ws ps * t ^ (i + 1) ≤ nr := by
            rw [← bigs2, List.filter_eq_nil_iff]
            constructor
            · intro h q hq; exact Rat.not_lt.mp fun z => h q hq (decide_eq_true z)
            · intro h q hq z; exact absurd (of_decide_eq_true z) (Rat.not_lt.mpr (h q hq))
          refine ⟨_, rfl, ?_⟩
          split
          · rename_i hk
            have hf := fst_some hin hlt (key.mp (of_decide_eq_true hk))
            have := h1 i hf (G ++ [.lst (L.map frD)] ++ [.lst ((L.filter fun q => decide (nr < q)).map frD)] ++ [.lst []])
            rw [show ((i + 1 : Nat) : Int) = 1 + (i : Int) by omega] at this
            simp only [List.append_assoc] at this ⊢
            exact fall_r this
          · rename_i hk
            have hk : ¬ maxQ ws * gr ws ps * t ^ (i + 1) ≤ nr := fun z => hk (decide_eq_true (key.mpr z))
            subst hK4
            simp (disch := (first | assumption | (simp only [List.length_append, List.length_cons, List.length_nil, List.length_set]; omega))) only [pAsg, pBin, pVar, pC, pgName, pgTup, pgCons, pgNil, pCall, pCons, pNil, pTest, pI2_int, pMul_int, seqOf_tup, atI_0, atI_1, pIx, pRet, pTup, pIf, pNeg, pPar, pPar3, pI1, pI2c, pCallF, pAdd_int, pDrop, pIfS, pNext, startD, List.map_cons, List.map_nil, List.length_cons, List.length_nil, List.cons_append, List.nil_append, List.replicate, List.set_cons_zero, List.set_cons_succ, List.getElem?_cons_zero, List.getElem?_cons_succ, Option.some.injEq, exists_eq_left', exists_eq_left, D.int.injEq, D.bl.injEq, D.tup.injEq, D.loc.injEq, List.cons.injEq, and_true, true_and, exists_eq_right, and_assoc, exists_and_left, Nat.reduceAdd, Nat.reduceSub, List.replicate_zero, List.replicate_succ, atI_2, atI_3, pEq_int, pNe_int, tupG_eq, lc_eq, for_eq, pEn, pSq, pZp, pRng1, pCut_eq, cutV_loc, cutV_tup, pAdd_loc, pAdd_tup, pInt_int, pInt_bl, pLen, pPart, pNoPart, pLst, pAugS, pPut, pgSub, ix40, ix41, ix42, lst_inj, seqOf_get, cellL_lst, Option.map_some, at_app, at_new, at_set, at_set_ne, pAndT]
            have hlt2 : ∀ j, j < i + 1 → ¬ maxQ ws * gr ws ps * t ^ (j + 1) ≤ nr := fun j hj => by
              by_cases e : j = i
              · rw [e]; exact hk
              · exact hlt j (by omega)
            split
            · refine ⟨[.int t.num, .int (t.den : Int)], rfl, _, atI_0, [.int t.num, .int (t.den : Int)], rfl, _, atI_1, trivial, _, rfl, ?_⟩
              split
              · rename_i hk2
                have h1t : 1 ≤ t := by
                  have h3 : (t.den : Int) ≤ t.num := of_decide_eq_true hk2
                  rw [Rat.le_iff]
                  show (1 : Int) * (t.den : Int) ≤ t.num * ((1 : Nat) : Int)
                  omega
                have hM : 0 ≤ maxQ ws * gr ws ps := Rat.mul_nonneg (Rat.le_of_lt (f.w _ (max_in (ws_ne f))).1) hg.1
                have := h2 (fst_none hM h1t (i := i) fun j hj => hlt2 j (by omega)) (G ++ [.lst (L.map frD)] ++ [.lst ((L.filter fun q => decide (nr < q)).map frD)] ++ [.lst []])
                simp only [List.append_assoc] at this ⊢
                exact fall_r this
              · exact ⟨_, by simp only [List.append_assoc]; rfl, hlt2⟩
            · rw [if_neg (by decide)]
              exact ⟨_, by simp only [List.append_assoc]; rfl, hlt2⟩
  · rintro ρ' S' ⟨G, x, y, rfl, rfl, hlt⟩
    subst hK2
    simp (disch := (first | assumption | (simp only [List.length_append, List.length_cons, List.length_nil, List.length_set]; omega))) only [pAsg, pBin, pVar, pC, pgName, pgTup, pgCons, pgNil, pCall, pCons, pNil, pTest, pI2_int, pMul_int, seqOf_tup, atI_0, atI_1, pIx, pRet, pTup, pIf, pNeg, pPar, pPar3, pI1, pI2c, pCallF, pAdd_int, pDrop, pIfS, pNext, startD, List.map_cons, List.map_nil, List.length_cons, List.length_nil, List.cons_append, List.nil_append, List.replicate, List.set_cons_zero, List.set_cons_succ, List.getElem?_cons_zero, List.getElem?_cons_succ, Option.some.injEq, exists_eq_left', exists_eq_left, D.int.injEq, D.bl.injEq, D.tup.injEq, D.loc.injEq, List.cons.injEq, and_true, true_and, exists_eq_right, and_assoc, exists_and_left, Nat.reduceAdd, Nat.reduceSub, List.replicate_zero, List.replicate_succ, atI_2, atI_3, pEq_int, pNe_int, tupG_eq, lc_eq, for_eq, pEn, pSq, pZp, pRng1, pCut_eq, cutV_loc, cutV_tup, pAdd_loc, pAdd_tup, pInt_int, pInt_bl, pLen, pPart, pNoPart, pLst, pAugS, pPut, pgSub, ix40, ix41, ix42, lst_inj, seqOf_get, cellL_lst, Option.map_some, at_app, at_new, at_set, at_set_ne]
    exact fall_r (h2 (fst_all hlt) G)
end K36

set_option Elab.async false
set_option linter.all false
set_option maxRecDepth 100000
set_option maxHeartbeats 1000000
/-! Comparing; the bag; four hundred stages. -/
namespace K36
open PySem PySem.Spec PyProof.Rows L2 Za K4
theorem sem_law_alike (ds : List D) (S : Sto) (R : Post) (PX : PXK) (h : sp_law_alike ds S R PX) : t_law_alike (endF S.length R) (startD N_law_alike ds) S := by
  obtain ⟨d, d', p, rfl, hd, hd', hp, hp', P, h⟩ := h
  unfold t_law_alike N_law_alike
  simp (disch := (first | assumption | (simp only [List.length_append, List.length_cons, List.length_nil, List.length_set]; omega))) only [pAsg, pBin, pVar, pC, pgName, pgTup, pgCons, pgNil, pCall, pCons, pNil, pTest, pI2_int, pMul_int, seqOf_tup, atI_0, atI_1, pIx, pRet, pTup, pIf, pNeg, pPar, pPar3, pI1, pI2c, pCallF, pAdd_int, pDrop, pIfS, pNext, startD, List.map_cons, List.map_nil, List.length_cons, List.length_nil, List.cons_append, List.nil_append, List.replicate, List.set_cons_zero, List.set_cons_succ, List.getElem?_cons_zero, List.getElem?_cons_succ, Option.some.injEq, exists_eq_left', exists_eq_left, D.int.injEq, D.bl.injEq, D.tup.injEq, D.loc.injEq, List.cons.injEq, and_true, true_and, exists_eq_right, and_assoc, exists_and_left, Nat.reduceAdd, Nat.reduceSub, List.replicate_zero, List.replicate_succ, atI_2, atI_3, pEq_int, pNe_int, tupG_eq, lc_eq, for_eq, pEn, pSq, pZp, pRng1, pCut_eq, cutV_loc, cutV_tup, pAdd_loc, pAdd_tup, pInt_int, pInt_bl, pLen, pPart, pNoPart, pLst, pAugS, pPut, pgSub, ix40, ix41, ix42, lst_inj, seqOf_get, cellL_lst, Option.map_some, at_app, at_new, at_set, at_set_ne, pAndV]
  refine ⟨p, p, hp, hp', P.ok, P.ok, true, by rw [P.eq], ?_⟩
  rw [if_pos rfl]
  refine ⟨d, p, rfl, hd, hp, P.sh, P.nd, P.len, P.dp, d', p, rfl, hd', hp', P.sh, P.nd, P.len, P.dp, .str p.shown, .str p.shown, .str _, .str _, ?_, ?_, ?_⟩
  · show (PyData.strOk p.shown && decide (0 ≤ 64)) = true
    rw [P.so]; rfl
  · show (PyData.strOk p.shown && decide (0 ≤ 64)) = true
    rw [P.so]; rfl
  · have e : PyData.eqv (.str p.shown) (.str p.shown) = true := by simp [PyData.eqv]
    rw [e]
    exact fall_r h
theorem cut_front {xs : List D} {n : Nat} : Za.cutD xs none (some (n : Int)) = xs.take n := by
  unfold Za.cutD
  rw [HT.sIx_nat, HT.sIx_none, List.drop_zero, Nat.sub_zero]
  rw [← List.take_eq_take_min]
theorem cut_any {d : D} {xs : List D} {n : Nat} {S : Sto} {R : Post} (hd : (∃ l, d = .ro l) ∨ ∃ j, d = .loc j) (hs : seqOf S d = some xs) (h : R (.loc S.length) (S ++ [.lst (xs.take n)])) : K4.cutV d none (some (n : Int)) S R := by
  rcases hd with ⟨l, rfl⟩ | ⟨j, rfl⟩
  · exact ⟨xs, hs, by rw [cut_front]; exact h⟩
  · exact ⟨xs, hs, by rw [cut_front]; exact h⟩
theorem sem_law_bag (ds : List D) (S : Sto) (R : Post) (PX : PXK) (h : sp_law_bag ds S R PX) : t_law_bag (endF S.length R) (startD N_law_bag ds) S := by
  obtain ⟨d, ns, rfl, hd, hs, hz, h⟩ := h
  unfold t_law_bag N_law_bag
  simp (disch := (first | assumption | (simp only [List.length_append, List.length_cons, List.length_nil, List.length_set]; omega))) only [pAsg, pBin, pVar, pC, pgName, pgTup, pgCons, pgNil, pCall, pCons, pNil, pTest, pI2_int, pMul_int, seqOf_tup, atI_0, atI_1, pIx, pRet, pTup, pIf, pNeg, pPar, pPar3, pI1, pI2c, pCallF, pAdd_int, pDrop, pIfS, pNext, startD, List.map_cons, List.map_nil, List.length_cons, List.length_nil, List.cons_append, List.nil_append, List.replicate, List.set_cons_zero, List.set_cons_succ, List.getElem?_cons_zero, List.getElem?_cons_succ, Option.some.injEq, exists_eq_left', exists_eq_left, D.int.injEq, D.bl.injEq, D.tup.injEq, D.loc.injEq, List.cons.injEq, and_true, true_and, exists_eq_right, and_assoc, exists_and_left, Nat.reduceAdd, Nat.reduceSub, List.replicate_zero, List.replicate_succ, atI_2, atI_3, pEq_int, pNe_int, tupG_eq, lc_eq, for_eq, pEn, pSq, pZp, pRng1, pCut_eq, cutV_loc, cutV_tup, pAdd_loc, pAdd_tup, pInt_int, pInt_bl, pLen, pPart, pNoPart, pLst, pAugS, pPut, pgSub, ix40, ix41, ix42, lst_inj, seqOf_get, cellL_lst, Option.map_some, at_app, at_new, at_set, at_set_ne]
  refine cut_any (n := 63) (hd.imp (fun e => ⟨_, e⟩) id) hs ?_
  refine ⟨_, seqOf_of at_new, lc_pureO ((ns.take 63).map fun i => some (natD i.natAbs)) (by rw [List.length_map, ← List.map_take, List.length_map]) (fun _ => seqOf_app (seqOf_of at_new)) (by rw [← List.map_take, List.length_map, List.length_take]; show _ ≤ 2 ^ 24; omega) ?_ ?_⟩
  · intro i x o hi hy c Y N hY hN
    rw [← List.map_take] at hi
    obtain ⟨k, hk, rfl⟩ := map_at hi
    rw [List.getElem?_map, hk] at hy
    cases hy
    show pgName _ _ [some d, none] _ _
    unfold pYes
    simp (disch := (first | assumption | (simp only [List.length_append, List.length_cons, List.length_nil, List.length_set]; omega))) only [pAsg, pBin, pVar, pC, pgName, pgTup, pgCons, pgNil, pCall, pCons, pNil, pTest, pI2_int, pMul_int, seqOf_tup, atI_0, atI_1, pIx, pRet, pTup, pIf, pNeg, pPar, pPar3, pI1, pI2c, pCallF, pAdd_int, pDrop, pIfS, pNext, startD, List.map_cons, List.map_nil, List.length_cons, List.length_nil, List.cons_append, List.nil_append, List.replicate, List.set_cons_zero, List.set_cons_succ, List.getElem?_cons_zero, List.getElem?_cons_succ, Option.some.injEq, exists_eq_left', exists_eq_left, D.int.injEq, D.bl.injEq, D.tup.injEq, D.loc.injEq, List.cons.injEq, and_true, true_and, exists_eq_right, and_assoc, exists_and_left, Nat.reduceAdd, Nat.reduceSub, List.replicate_zero, List.replicate_succ, atI_2, atI_3, pEq_int, pNe_int, tupG_eq, lc_eq, for_eq, pEn, pSq, pZp, pRng1, pCut_eq, cutV_loc, cutV_tup, pAdd_loc, pAdd_tup, pInt_int, pInt_bl, pLen, pPart, pNoPart, pLst, pAugS, pPut, pgSub, ix40, ix41, ix42, lst_inj, seqOf_get, cellL_lst, Option.map_some, at_app, at_new, at_set, at_set_ne, if_true]
    have e : (if k < 0 then -k else k) = (k.natAbs : Int) := by split <;> omega
    rw [e]
    exact hY _ rfl
  · have e : List.filterMap id ((ns.take 63).map fun i => some (natD i.natAbs)) = ((ns.take 63).map Int.natAbs).map natD := by
      rw [List.filterMap_map]
      show List.filterMap (some ∘ fun i : Int => natD i.natAbs) _ = _
      rw [List.filterMap_eq_map, List.map_map]
      rfl
    rw [e]
    refine ⟨by decide, fall_r (h _ _ _ ?_ ?_ ⟨0, 1234567891, 0, (ns.take 63).map Int.natAbs, ⟨at_new, ?_, ?_, by decide, ?_⟩, Nat.le_refl _⟩ ?_)⟩
    · simp only [List.length_append]; omega
    · simp only [List.length_append]; omega
    · rw [at_app (by simp only [List.length_append, List.length_cons, List.length_nil]; omega), at_new]
    · simp only [List.length_append, List.length_cons, List.length_nil]; omega
    · rw [List.length_map, List.length_take]; omega
    · intro i hi
      rw [List.append_assoc, List.append_assoc]
      exact at_app hi
/-- what is heard of stages_for: K is the module's written part, l the clauses -/
def HearOk (K : PySem.W.Frag) (c : Addr) (l : List HC) : Prop := ∃ r : List HC, l = HC.fld c "many" "most" :: r ∧ PySem.W.exmOne K (.ref c) (.ref c) = some true
theorem hear_many {K : PySem.W.Frag} {c : Addr} {l : List HC} (h : HearOk K c l) {R : Post} {S : Sto} (k : R (.tup [.str "many", .int 400]) S) : pMix K R l c [("most", .int 400)] S := by
  obtain ⟨r, rfl, e⟩ := h
  exact ⟨true, e, fun _ => ⟨rfl, .int 400, rfl, k⟩, fun z => nomatch z⟩
instance {n : Nat} {q : Rat} : Decidable (Sm n q) := inferInstanceAs (Decidable (_ ∧ _))
theorem fine1 : Fine [1] [(1, 0)] := ⟨rfl, by decide, by decide, fun w hw => by rw [List.mem_singleton.mp hw]; exact ⟨by decide, by decide, by decide⟩, fun p hp => by rw [List.mem_singleton.mp hp]; exact ⟨⟨by decide, by decide⟩, by decide, by decide⟩⟩
theorem one1 : maxQ [1] * gr [1] [(1, 0)] = 1 := by decide +kernel
theorem t99 : D.tup [.int 99, .int 100] = frD (mkRat 99 100) := by
  have e1 : (mkRat 99 100).num = 99 := by decide
  have e2 : (mkRat 99 100).den = 100 := by decide
  unfold frD; rw [e1, e2]; rfl
theorem tok99 : TOk (mkRat 99 100) := ⟨by decide +kernel, by decide +kernel, by decide +kernel⟩
theorem n9 : D.tup [.int 9, .int 500] = frD (mkRat 9 500) := by
  have e1 : (mkRat 9 500).num = 9 := by decide
  have e2 : (mkRat 9 500).den = 500 := by decide
  unfold frD; rw [e1, e2]; rfl
theorem n179 : D.tup [.int 179, .int 10000] = frD (mkRat 179 10000) := by
  have e1 : (mkRat 179 10000).num = 179 := by decide
  have e2 : (mkRat 179 10000).den = 10000 := by decide
  unfold frD; rw [e1, e2]; rfl
theorem sem_law_are_many_right (c : Addr) (K : PySem.W.Frag) (l : List HC) (hl : HearOk K c l) (ds : List D) (S : Sto) (R : Post) (PX : PXK) (h : sp_law_are_many_right ds S R PX) : t_law_are_many_right c K l (endF S.length R) (startD N_law_are_many_right ds) S := by
  obtain ⟨rfl, h⟩ := h
  unfold t_law_are_many_right N_law_are_many_right
  refine seq_go fun K1 hK1 => ?_
  simp (disch := (first | assumption | (simp only [List.length_append, List.length_cons, List.length_nil, List.length_set]; omega))) only [pAsg, pBin, pVar, pC, pgName, pgTup, pgCons, pgNil, pCall, pCons, pNil, pTest, pI2_int, pMul_int, seqOf_tup, atI_0, atI_1, pIx, pRet, pTup, pIf, pNeg, pPar, pPar3, pI1, pI2c, pCallF, pAdd_int, pDrop, pIfS, pNext, startD, List.map_cons, List.map_nil, List.length_cons, List.length_nil, List.cons_append, List.nil_append, List.replicate, List.set_cons_zero, List.set_cons_succ, List.getElem?_cons_zero, List.getElem?_cons_succ, Option.some.injEq, exists_eq_left', exists_eq_left, D.int.injEq, D.bl.injEq, D.tup.injEq, D.loc.injEq, List.cons.injEq, and_true, true_and, exists_eq_right, and_assoc, exists_and_left, Nat.reduceAdd, Nat.reduceSub, List.replicate_zero, List.replicate_succ, atI_2, atI_3, pEq_int, pNe_int, tupG_eq, lc_eq, for_eq, pEn, pSq, pZp, pRng1, pCut_eq, cutV_loc, cutV_tup, pAdd_loc, pAdd_tup, pInt_int, pInt_bl, pLen, pPart, pNoPart, pLst, pAugS, pPut, pgSub, ix40, ix41, ix42, lst_inj, seqOf_get, cellL_lst, Option.map_some, at_app, at_new, at_set, at_set_ne]
  refine ⟨by decide, by decide, by decide, by decide, by decide, by decide, by decide, by decide, ?_⟩
  subst hK1
  refine seq_go fun K2 hK2 => ?_
  simp (disch := (first | assumption | (simp only [List.length_append, List.length_cons, List.length_nil, List.length_set]; omega))) only [pAsg, pBin, pVar, pC, pgName, pgTup, pgCons, pgNil, pCall, pCons, pNil, pTest, pI2_int, pMul_int, seqOf_tup, atI_0, atI_1, pIx, pRet, pTup, pIf, pNeg, pPar, pPar3, pI1, pI2c, pCallF, pAdd_int, pDrop, pIfS, pNext, startD, List.map_cons, List.map_nil, List.length_cons, List.length_nil, List.cons_append, List.nil_append, List.replicate, List.set_cons_zero, List.set_cons_succ, List.getElem?_cons_zero, List.getElem?_cons_succ, Option.some.injEq, exists_eq_left', exists_eq_left, D.int.injEq, D.bl.injEq, D.tup.injEq, D.loc.injEq, List.cons.injEq, and_true, true_and, exists_eq_right, and_assoc, exists_and_left, Nat.reduceAdd, Nat.reduceSub, List.replicate_zero, List.replicate_succ, atI_2, atI_3, pEq_int, pNe_int, tupG_eq, lc_eq, for_eq, pEn, pSq, pZp, pRng1, pCut_eq, cutV_loc, cutV_tup, pAdd_loc, pAdd_tup, pInt_int, pInt_bl, pLen, pPart, pNoPart, pLst, pAugS, pPut, pgSub, ix40, ix41, ix42, lst_inj, seqOf_get, cellL_lst, Option.map_some, at_app, at_new, at_set, at_set_ne, pHeard]
  refine ⟨by decide, [1], mkRat 99 100, [(1, 0)], mkRat 9 500, ?_, fine1, tok99, by decide +kernel, ?_, ?_⟩
  · rw [t99, n9]; exact rfl
  · rw [one1, many1]
    intro i hi G
    have hi : 399 = i := Option.some.inj hi
    subst hi
    refine ⟨by decide, ?_⟩
    subst hK2
    refine seq_go fun K3 hK3 => ?_
    simp (disch := (first | assumption | (simp only [List.length_append, List.length_cons, List.length_nil, List.length_set]; omega))) only [pAsg, pBin, pVar, pC, pgName, pgTup, pgCons, pgNil, pCall, pCons, pNil, pTest, pI2_int, pMul_int, seqOf_tup, atI_0, atI_1, pIx, pRet, pTup, pIf, pNeg, pPar, pPar3, pI1, pI2c, pCallF, pAdd_int, pDrop, pIfS, pNext, startD, List.map_cons, List.map_nil, List.length_cons, List.length_nil, List.cons_append, List.nil_append, List.replicate, List.set_cons_zero, List.set_cons_succ, List.getElem?_cons_zero, List.getElem?_cons_succ, Option.some.injEq, exists_eq_left', exists_eq_left, D.int.injEq, D.bl.injEq, D.tup.injEq, D.loc.injEq, List.cons.injEq, and_true, true_and, exists_eq_right, and_assoc, exists_and_left, Nat.reduceAdd, Nat.reduceSub, List.replicate_zero, List.replicate_succ, atI_2, atI_3, pEq_int, pNe_int, tupG_eq, lc_eq, for_eq, pEn, pSq, pZp, pRng1, pCut_eq, cutV_loc, cutV_tup, pAdd_loc, pAdd_tup, pInt_int, pInt_bl, pLen, pPart, pNoPart, pLst, pAugS, pPut, pgSub, ix40, ix41, ix42, lst_inj, seqOf_get, cellL_lst, Option.map_some, at_app, at_new, at_set, at_set_ne, pHeard, pMt]
    refine ⟨by decide, [1], mkRat 99 100, [(1, 0)], mkRat 179 10000, ?_, fine1, tok99, by decide +kernel, ?_, ?_⟩
    · rw [t99, n179]; exact rfl
    · rw [one1, many2]
      intro i hi
      cases hi
    · intro _ G2
      refine hear_many hl ?_
      unfold pmAppend
      refine ⟨_, [.tup [.str "told", .int 400]], _, rfl, rfl, ?_, by decide, ?_⟩
      · exact at_mid (S := S ++ G)
      · rw [set_mid (S := S ++ G)]
        subst hK3
        simp (disch := (first | assumption | (simp only [List.length_append, List.length_cons, List.length_nil, List.length_set]; omega))) only [pAsg, pBin, pVar, pC, pgName, pgTup, pgCons, pgNil, pCall, pCons, pNil, pTest, pI2_int, pMul_int, seqOf_tup, atI_0, atI_1, pIx, pRet, pTup, pIf, pNeg, pPar, pPar3, pI1, pI2c, pCallF, pAdd_int, pDrop, pIfS, pNext, startD, List.map_cons, List.map_nil, List.length_cons, List.length_nil, List.cons_append, List.nil_append, List.replicate, List.set_cons_zero, List.set_cons_succ, List.getElem?_cons_zero, List.getElem?_cons_succ, Option.some.injEq, exists_eq_left', exists_eq_left, D.int.injEq, D.bl.injEq, D.tup.injEq, D.loc.injEq, List.cons.injEq, and_true, true_and, exists_eq_right, and_assoc, exists_and_left, Nat.reduceAdd, Nat.reduceSub, List.replicate_zero, List.replicate_succ, atI_2, atI_3, pEq_int, pNe_int, tupG_eq, lc_eq, for_eq, pEn, pSq, pZp, pRng1, pCut_eq, cutV_loc, cutV_tup, pAdd_loc, pAdd_tup, pInt_int, pInt_bl, pLen, pPart, pNoPart, pLst, pAugS, pPut, pgSub, ix40, ix41, ix42, lst_inj, seqOf_get, cellL_lst, Option.map_some, at_app, at_new, at_set, at_set_ne]
        refine ⟨by decide, by decide, by decide, .loc (S ++ G).length, .loc _, .list [.tuple [.str "told", .int 400], .tuple [.str "many", .int 400]], rfl, .inr ⟨_, rfl⟩, .inr ⟨_, rfl⟩, .loc (ds := [.tup [.str "told", .int 400], .tup [.str "many", .int 400]]) ?_ ?_, .loc at_new ?_, plain_both, ?_⟩
        · rw [at_app (by simp only [List.length_append, List.length_cons, List.length_nil]; omega)]
          exact at_mid (S := S ++ G)
        · exact .cons (.tup (.cons (.str _) (.cons (.int _) .nil))) (.cons (.tup (.cons (.str _) (.cons (.int _) .nil))) .nil)
        · exact .cons (.tup (.cons (.str _) (.cons (.int _) .nil))) (.cons (.tup (.cons (.str _) (.cons (.int _) .nil))) .nil)
        · simp only [List.append_assoc]
          exact fall_r (h _)
  · rw [one1, many1]
    intro hi
    cases hi
end K36

set_option Elab.async false
set_option linter.all false
set_option maxRecDepth 100000
set_option maxHeartbeats 2000000
/-! The law. -/
namespace K36
open PySem PySem.Spec PyProof.Rows L2 Za K4
theorem few_of {c : Nat} (h : c < 100000) : Few c := Nat.lt_trans h (by decide)
theorem low_sm {q : Rat} (h : Low q) : Sm 20 q := ⟨Nat.lt_of_le_of_lt h.1 (by decide), Nat.lt_of_le_of_lt h.2 (by decide)⟩
/-- the body of the loop, behind the weights, t and the distances -/
theorem bag_many {r : Nat} (h : r < 5) : (1 + (r : Int)).toNat = 1 + r := by omega
theorem all_ok {ws : List Rat} {ps : List (Rat × Rat)} (h1 : ws.length = ps.length) (h2 : 0 < ws.length) (h3 : ws.length ≤ 1000) (hw : ∀ w ∈ ws, 0 < w ∧ Sm 20 w) (hp : ∀ p ∈ ps, Sm 20 p.1 ∧ Sm 20 p.2) : Fine ws ps := ⟨h1, h2, h3, hw, hp⟩
theorem wq_ok : ∀ r1, r1 < 9 → ∀ r2, r2 < 5 → 0 < mkRat ((1 + r1 : Nat) : Int) (1 + r2) ∧ Sm 20 (mkRat ((1 + r1 : Nat) : Int) (1 + r2)) := by decide +kernel
theorem tok_of (n : Int) (m : Nat) (hd : m ≠ 0) (hc : n.natAbs.Coprime m) (h : 0 < n) (h1 : n.natAbs ≤ 100) (h2 : m ≤ 100) : TOk ⟨n, m, hd, hc⟩ := ⟨(Rat.lt_iff _ _).mpr (by show (0 : Int) * (m : Int) < n * ((1 : Nat) : Int); omega), h1, h2⟩
theorem rep_pairs (n : Nat) : (List.replicate n [D.tup [.tup [.int 0, .int 1], .tup [.int 0, .int 1]]]).flatten = (List.replicate n ((0 : Rat), (0 : Rat))).map vpD := by
  induction n with
  | zero => rfl
  | succ n ih => rw [List.replicate_succ, List.replicate_succ, List.flatten_cons, ih]; rfl
def dueD : Option Nat → D
  | some i => .int ((i + 1 : Nat) : Int)
  | none => .non
def heardD : Option Nat → D
  | some i => .tup [.str "told", .int ((i + 1 : Nat) : Int)]
  | none => .tup [.str "many", .int 400]
def heardP : Option Nat → PyData
  | some i => .tuple [.str "told", .int ((i + 1 : Nat) : Int)]
  | none => .tuple [.str "many", .int 400]
theorem heard_ok (o : Option Nat) (h : ∀ i, o = some i → i < 400) : Holds (heardD o) ∧ (∀ S, Py S (heardD o) (heardP o)) ∧ Plain (heardP o) := by
  cases o with
  | none => exact ⟨.inl ⟨rfl, _, rfl⟩, fun S => .tup (.cons (.str _) (.cons (.int _) .nil)), plain_many⟩
  | some i => exact ⟨.inl ⟨rfl, _, rfl⟩, fun S => .tup (.cons (.str _) (.cons (.int _) .nil)), plain_told i (h i rfl)⟩
theorem sem_law (c : Addr) (K : PySem.W.Frag) (lh : List HC) (hl : HearOk K c lh) (ds : List D) (S : Sto) (R : Post) (PX : PXK) (h : sp_law ds S R PX) : t_law c K lh (endF S.length R) (startD N_law ds) S := by
  obtain ⟨d, ns, rfl, hd, hs, hz, h⟩ := h
  unfold t_law N_law
  refine seq_go fun K1 hK1 => ?_
  simp (disch := (first | assumption | (simp only [List.length_append, List.length_cons, List.length_nil, List.length_set]; omega))) only [pAsg, pBin, pVar, pC, pgName, pgTup, pgCons, pgNil, pCall, pCons, pNil, pTest, pI2_int, pMul_int, seqOf_tup, atI_0, atI_1, pIx, pRet, pTup, pIf, pNeg, pPar, pPar3, pI1, pI2c, pCallF, pAdd_int, pDrop, pIfS, pNext, startD, List.map_cons, List.map_nil, List.length_cons, List.length_nil, List.cons_append, List.nil_append, List.replicate, List.set_cons_zero, List.set_cons_succ, List.getElem?_cons_zero, List.getElem?_cons_succ, Option.some.injEq, exists_eq_left', exists_eq_left, D.int.injEq, D.bl.injEq, D.tup.injEq, D.loc.injEq, List.cons.injEq, and_true, true_and, exists_eq_right, and_assoc, exists_and_left, Nat.reduceAdd, Nat.reduceSub, List.replicate_zero, List.replicate_succ, atI_2, atI_3, pEq_int, pNe_int, tupG_eq, lc_eq, for_eq, pEn, pSq, pZp, pRng1, pCut_eq, cutV_loc, cutV_tup, pAdd_loc, pAdd_tup, pInt_int, pInt_bl, pLen, pPart, pNoPart, pLst, pAugS, pPut, pgSub, ix40, ix41, ix42, lst_inj, seqOf_get, cellL_lst, Option.map_some, at_app, at_new, at_set, at_set_ne]
  refine ⟨d, ns, rfl, hd, hs, by omega, fun l l2 S1 _ _ b0 _ => ?_⟩
  have b0 : Bag S1 l l2 0 := b0
  clear hs hd
  generalize S.length = n0 at hK1
  subst hK1
  refine seq_go fun K2 hK2 => ?_
  simp (disch := (first | assumption | (simp only [List.length_append, List.length_cons, List.length_nil, List.length_set]; omega))) only [pAsg, pBin, pVar, pC, pgName, pgTup, pgCons, pgNil, pCall, pCons, pNil, pTest, pI2_int, pMul_int, seqOf_tup, atI_0, atI_1, pIx, pRet, pTup, pIf, pNeg, pPar, pPar3, pI1, pI2c, pCallF, pAdd_int, pDrop, pIfS, pNext, startD, List.map_cons, List.map_nil, List.length_cons, List.length_nil, List.cons_append, List.nil_append, List.replicate, List.set_cons_zero, List.set_cons_succ, List.getElem?_cons_zero, List.getElem?_cons_succ, Option.some.injEq, exists_eq_left', exists_eq_left, D.int.injEq, D.bl.injEq, D.tup.injEq, D.loc.injEq, List.cons.injEq, and_true, true_and, exists_eq_right, and_assoc, exists_and_left, Nat.reduceAdd, Nat.reduceSub, List.replicate_zero, List.replicate_succ, atI_2, atI_3, pEq_int, pNe_int, tupG_eq, lc_eq, for_eq, pEn, pSq, pZp, pRng1, pCut_eq, cutV_loc, cutV_tup, pAdd_loc, pAdd_tup, pInt_int, pInt_bl, pLen, pPart, pNoPart, pLst, pAugS, pPut, pgSub, ix40, ix41, ix42, lst_inj, seqOf_get, cellL_lst, Option.map_some, at_app, at_new, at_set, at_set_ne, pAndT, pNotT]
  refine ⟨l, l2, 0, 4, rfl, by decide, by decide, few_of (by decide), b0, fun r S2 _ _ b1 => ?_⟩
  have go : ∀ S3, Bag S3 l l2 1 → K2 [some d, some (.loc l), none, none, none, none, none, none, none, none, none, none, none] S3 := by
    intro S3 b
    clear b0 b1
    subst hK2
    refine seq_go fun K3 hK3 => ?_
    simp (disch := (first | assumption | (simp only [List.length_append, List.length_cons, List.length_nil, List.length_set]; omega))) only [pAsg, pBin, pVar, pC, pgName, pgTup, pgCons, pgNil, pCall, pCons, pNil, pTest, pI2_int, pMul_int, seqOf_tup, atI_0, atI_1, pIx, pRet, pTup, pIf, pNeg, pPar, pPar3, pI1, pI2c, pCallF, pAdd_int, pDrop, pIfS, pNext, startD, List.map_cons, List.map_nil, List.length_cons, List.length_nil, List.cons_append, List.nil_append, List.replicate, List.set_cons_zero, List.set_cons_succ, List.getElem?_cons_zero, List.getElem?_cons_succ, Option.some.injEq, exists_eq_left', exists_eq_left, D.int.injEq, D.bl.injEq, D.tup.injEq, D.loc.injEq, List.cons.injEq, and_true, true_and, exists_eq_right, and_assoc, exists_and_left, Nat.reduceAdd, Nat.reduceSub, List.replicate_zero, List.replicate_succ, atI_2, atI_3, pEq_int, pNe_int, tupG_eq, lc_eq, for_eq, pEn, pSq, pZp, pRng1, pCut_eq, cutV_loc, cutV_tup, pAdd_loc, pAdd_tup, pInt_int, pInt_bl, pLen, pPart, pNoPart, pLst, pAugS, pPut, pgSub, ix40, ix41, ix42, lst_inj, seqOf_get, cellL_lst, Option.map_some, at_app, at_new, at_set, at_set_ne]
    refine ⟨by decide, by decide, fun i ρ' S' => ∃ x2 x3 x4 x5 x6 x7 x8 x9 x10 x11 x12, ρ' = [some d, some (.loc l), x2, x3, x4, x5, x6, x7, x8, x9, x10, x11, x12] ∧ Bag S' l l2 (1 + 200 * i), ⟨none, none, none, none, none, none, none, none, none, none, none, rfl, b⟩, fun _ _ _ _ => trivial, ?_, ?_⟩
    · rintro i di ρ' S' hi ⟨x2, x3, x4, x5, x6, x7, x8, x9, x10, x11, x12, rfl, b⟩
      have hi8 := (List.getElem?_eq_some_iff.mp hi).1
      rw [show (8 : Int).toNat = 8 from rfl, rng_len] at hi8
      simp (disch := (first | assumption | (simp only [List.length_append, List.length_cons, List.length_nil, List.length_set]; omega))) only [pAsg, pBin, pVar, pC, pgName, pgTup, pgCons, pgNil, pCall, pCons, pNil, pTest, pI2_int, pMul_int, seqOf_tup, atI_0, atI_1, pIx, pRet, pTup, pIf, pNeg, pPar, pPar3, pI1, pI2c, pCallF, pAdd_int, pDrop, pIfS, pNext, startD, List.map_cons, List.map_nil, List.length_cons, List.length_nil, List.cons_append, List.nil_append, List.replicate, List.set_cons_zero, List.set_cons_succ, List.getElem?_cons_zero, List.getElem?_cons_succ, Option.some.injEq, exists_eq_left', exists_eq_left, D.int.injEq, D.bl.injEq, D.tup.injEq, D.loc.injEq, List.cons.injEq, and_true, true_and, exists_eq_right, and_assoc, exists_and_left, Nat.reduceAdd, Nat.reduceSub, List.replicate_zero, List.replicate_succ, atI_2, atI_3, pEq_int, pNe_int, tupG_eq, lc_eq, for_eq, pEn, pSq, pZp, pRng1, pCut_eq, cutV_loc, cutV_tup, pAdd_loc, pAdd_tup, pInt_int, pInt_bl, pLen, pPart, pNoPart, pLst, pAugS, pPut, pgSub, ix40, ix41, ix42, lst_inj, seqOf_get, cellL_lst, Option.map_some, at_app, at_new, at_set, at_set_ne]
      refine seq_go fun K4 hK4 => ?_
      simp (disch := (first | assumption | (simp only [List.length_append, List.length_cons, List.length_nil, List.length_set]; omega))) only [pAsg, pBin, pVar, pC, pgName, pgTup, pgCons, pgNil, pCall, pCons, pNil, pTest, pI2_int, pMul_int, seqOf_tup, atI_0, atI_1, pIx, pRet, pTup, pIf, pNeg, pPar, pPar3, pI1, pI2c, pCallF, pAdd_int, pDrop, pIfS, pNext, startD, List.map_cons, List.map_nil, List.length_cons, List.length_nil, List.cons_append, List.nil_append, List.replicate, List.set_cons_zero, List.set_cons_succ, List.getElem?_cons_zero, List.getElem?_cons_succ, Option.some.injEq, exists_eq_left', exists_eq_left, D.int.injEq, D.bl.injEq, D.tup.injEq, D.loc.injEq, List.cons.injEq, and_true, true_and, exists_eq_right, and_assoc, exists_and_left, Nat.reduceAdd, Nat.reduceSub, List.replicate_zero, List.replicate_succ, atI_2, atI_3, pEq_int, pNe_int, tupG_eq, lc_eq, for_eq, pEn, pSq, pZp, pRng1, pCut_eq, cutV_loc, cutV_tup, pAdd_loc, pAdd_tup, pInt_int, pInt_bl, pLen, pPart, pNoPart, pLst, pAugS, pPut, pgSub, ix40, ix41, ix42, lst_inj, seqOf_get, cellL_lst, Option.map_some, at_app, at_new, at_set, at_set_ne]
      refine ⟨l, l2, _, 5, rfl, by decide, by decide, few_of (by omega), b, fun r S2 hr g b => ?_⟩
      clear g
      simp (disch := (first | assumption | (simp only [List.length_append, List.length_cons, List.length_nil, List.length_set]; omega))) only [pAsg, pBin, pVar, pC, pgName, pgTup, pgCons, pgNil, pCall, pCons, pNil, pTest, pI2_int, pMul_int, seqOf_tup, atI_0, atI_1, pIx, pRet, pTup, pIf, pNeg, pPar, pPar3, pI1, pI2c, pCallF, pAdd_int, pDrop, pIfS, pNext, startD, List.map_cons, List.map_nil, List.length_cons, List.length_nil, List.cons_append, List.nil_append, List.replicate, List.set_cons_zero, List.set_cons_succ, List.getElem?_cons_zero, List.getElem?_cons_succ, Option.some.injEq, exists_eq_left', exists_eq_left, D.int.injEq, D.bl.injEq, D.tup.injEq, D.loc.injEq, List.cons.injEq, and_true, true_and, exists_eq_right, and_assoc, exists_and_left, Nat.reduceAdd, Nat.reduceSub, List.replicate_zero, List.replicate_succ, atI_2, atI_3, pEq_int, pNe_int, tupG_eq, lc_eq, for_eq, pEn, pSq, pZp, pRng1, pCut_eq, cutV_loc, cutV_tup, pAdd_loc, pAdd_tup, pInt_int, pInt_bl, pLen, pPart, pNoPart, pLst, pAugS, pPut, pgSub, ix40, ix41, ix42, lst_inj, seqOf_get, cellL_lst, Option.map_some, at_app, at_new, at_set, at_set_ne]
      subst hK4
      refine seq_go fun K5 hK5 => ?_
      simp (disch := (first | assumption | (simp only [List.length_append, List.length_cons, List.length_nil, List.length_set]; omega))) only [pAsg, pBin, pVar, pC, pgName, pgTup, pgCons, pgNil, pCall, pCons, pNil, pTest, pI2_int, pMul_int, seqOf_tup, atI_0, atI_1, pIx, pRet, pTup, pIf, pNeg, pPar, pPar3, pI1, pI2c, pCallF, pAdd_int, pDrop, pIfS, pNext, startD, List.map_cons, List.map_nil, List.length_cons, List.length_nil, List.cons_append, List.nil_append, List.replicate, List.set_cons_zero, List.set_cons_succ, List.getElem?_cons_zero, List.getElem?_cons_succ, Option.some.injEq, exists_eq_left', exists_eq_left, D.int.injEq, D.bl.injEq, D.tup.injEq, D.loc.injEq, List.cons.injEq, and_true, true_and, exists_eq_right, and_assoc, exists_and_left, Nat.reduceAdd, Nat.reduceSub, List.replicate_zero, List.replicate_succ, atI_2, atI_3, pEq_int, pNe_int, tupG_eq, lc_eq, for_eq, pEn, pSq, pZp, pRng1, pCut_eq, cutV_loc, cutV_tup, pAdd_loc, pAdd_tup, pInt_int, pInt_bl, pLen, pPart, pNoPart, pLst, pAugS, pPut, pgSub, ix40, ix41, ix42, lst_inj, seqOf_get, cellL_lst, Option.map_some, at_app, at_new, at_set, at_set_ne]
      refine ⟨by omega, by omega, ?_⟩
      rw [bag_many hr]
      refine lc_bagAll (l := l) (l2 := l2) (c := 1 + 200 * i + 1) (k := 2) (fun _ y => ∃ q : Rat, (0 < q ∧ Sm 20 q) ∧ y = frD q) (by rw [rng_len]; omega) b (few_of (by rw [rng_len]; omega)) (fun _ _ => trivial) ?_ ?_
      · intro j dj hj S' c' g hc b Y N hY
        obtain ⟨hj, rfl⟩ := rng_at hj
        show pgName _ _ [some d, some (.loc l), _, _, _, _, _, _, _, _, _, _, none] _ _
        unfold pYes natD
        simp (disch := (first | assumption | (simp only [List.length_append, List.length_cons, List.length_nil, List.length_set]; omega))) only [pAsg, pBin, pVar, pC, pgName, pgTup, pgCons, pgNil, pCall, pCons, pNil, pTest, pI2_int, pMul_int, seqOf_tup, atI_0, atI_1, pIx, pRet, pTup, pIf, pNeg, pPar, pPar3, pI1, pI2c, pCallF, pAdd_int, pDrop, pIfS, pNext, startD, List.map_cons, List.map_nil, List.length_cons, List.length_nil, List.cons_append, List.nil_append, List.replicate, List.set_cons_zero, List.set_cons_succ, List.getElem?_cons_zero, List.getElem?_cons_succ, Option.some.injEq, exists_eq_left', exists_eq_left, D.int.injEq, D.bl.injEq, D.tup.injEq, D.loc.injEq, List.cons.injEq, and_true, true_and, exists_eq_right, and_assoc, exists_and_left, Nat.reduceAdd, Nat.reduceSub, List.replicate_zero, List.replicate_succ, atI_2, atI_3, pEq_int, pNe_int, tupG_eq, lc_eq, for_eq, pEn, pSq, pZp, pRng1, pCut_eq, cutV_loc, cutV_tup, pAdd_loc, pAdd_tup, pInt_int, pInt_bl, pLen, pPart, pNoPart, pLst, pAugS, pPut, pgSub, ix40, ix41, ix42, lst_inj, seqOf_get, cellL_lst, Option.map_some, at_app, at_new, at_set, at_set_ne, if_true]
        refine ⟨l, l2, c', 9, rfl, by decide, by decide, (by have hc : c' + 2 < 2 ^ 200 := hc; show c' < 2 ^ 200; omega), b, fun r1 S3 hr1 g1 b1 => ?_⟩
        simp (disch := (first | assumption | (simp only [List.length_append, List.length_cons, List.length_nil, List.length_set]; omega))) only [pAsg, pBin, pVar, pC, pgName, pgTup, pgCons, pgNil, pCall, pCons, pNil, pTest, pI2_int, pMul_int, seqOf_tup, atI_0, atI_1, pIx, pRet, pTup, pIf, pNeg, pPar, pPar3, pI1, pI2c, pCallF, pAdd_int, pDrop, pIfS, pNext, startD, List.map_cons, List.map_nil, List.length_cons, List.length_nil, List.cons_append, List.nil_append, List.replicate, List.set_cons_zero, List.set_cons_succ, List.getElem?_cons_zero, List.getElem?_cons_succ, Option.some.injEq, exists_eq_left', exists_eq_left, D.int.injEq, D.bl.injEq, D.tup.injEq, D.loc.injEq, List.cons.injEq, and_true, true_and, exists_eq_right, and_assoc, exists_and_left, Nat.reduceAdd, Nat.reduceSub, List.replicate_zero, List.replicate_succ, atI_2, atI_3, pEq_int, pNe_int, tupG_eq, lc_eq, for_eq, pEn, pSq, pZp, pRng1, pCut_eq, cutV_loc, cutV_tup, pAdd_loc, pAdd_tup, pInt_int, pInt_bl, pLen, pPart, pNoPart, pLst, pAugS, pPut, pgSub, ix40, ix41, ix42, lst_inj, seqOf_get, cellL_lst, Option.map_some, at_app, at_new, at_set, at_set_ne]
        refine ⟨l, l2, c' + 1, 5, rfl, by decide, by decide, (by have hc : c' + 2 < 2 ^ 200 := hc; show c' + 1 < 2 ^ 200; omega), b1, fun r2 S4 hr2 g2 b2 => ?_⟩
        simp (disch := (first | assumption | (simp only [List.length_append, List.length_cons, List.length_nil, List.length_set]; omega))) only [pAsg, pBin, pVar, pC, pgName, pgTup, pgCons, pgNil, pCall, pCons, pNil, pTest, pI2_int, pMul_int, seqOf_tup, atI_0, atI_1, pIx, pRet, pTup, pIf, pNeg, pPar, pPar3, pI1, pI2c, pCallF, pAdd_int, pDrop, pIfS, pNext, startD, List.map_cons, List.map_nil, List.length_cons, List.length_nil, List.cons_append, List.nil_append, List.replicate, List.set_cons_zero, List.set_cons_succ, List.getElem?_cons_zero, List.getElem?_cons_succ, Option.some.injEq, exists_eq_left', exists_eq_left, D.int.injEq, D.bl.injEq, D.tup.injEq, D.loc.injEq, List.cons.injEq, and_true, true_and, exists_eq_right, and_assoc, exists_and_left, Nat.reduceAdd, Nat.reduceSub, List.replicate_zero, List.replicate_succ, atI_2, atI_3, pEq_int, pNe_int, tupG_eq, lc_eq, for_eq, pEn, pSq, pZp, pRng1, pCut_eq, cutV_loc, cutV_tup, pAdd_loc, pAdd_tup, pInt_int, pInt_bl, pLen, pPart, pNoPart, pLst, pAugS, pPut, pgSub, ix40, ix41, ix42, lst_inj, seqOf_get, cellL_lst, Option.map_some, at_app, at_new, at_set, at_set_ne]
        have hl1 : Nat.log2 (1 + r1) ≤ 8 := Nat.le_trans (log_mono (show 1 + r1 ≤ 9 by omega)) (by decide)
        have hl2 : Nat.log2 (1 + r2) ≤ 8 := Nat.le_trans (log_mono (show 1 + r2 ≤ 9 by omega)) (by decide)
        refine ⟨((1 + r1 : Nat) : Int), 1 + r2, rfl, by omega, by rw [Int.natAbs_natCast]; omega, by omega, ?_⟩
        exact hY _ S4 ⟨_, wq_ok r1 hr1 r2 hr2, rfl⟩ (g1.trans g2) b2
      · intro ys S3 h1 h2 h3 g3 b3
        rw [rng_len] at h1 b3
        obtain ⟨ws, rfl, hws⟩ := all_map (f := frD) (Q := fun q : Rat => 0 < q ∧ Sm 20 q) ys fun y hy => by
          obtain ⟨m, hm⟩ := List.getElem?_of_mem hy
          exact h2 m y hm
        rw [List.length_map] at h1
        simp (disch := (first | assumption | (simp only [List.length_append, List.length_cons, List.length_nil, List.length_set]; omega))) only [pAsg, pBin, pVar, pC, pgName, pgTup, pgCons, pgNil, pCall, pCons, pNil, pTest, pI2_int, pMul_int, seqOf_tup, atI_0, atI_1, pIx, pRet, pTup, pIf, pNeg, pPar, pPar3, pI1, pI2c, pCallF, pAdd_int, pDrop, pIfS, pNext, startD, List.map_cons, List.map_nil, List.length_cons, List.length_nil, List.cons_append, List.nil_append, List.replicate, List.set_cons_zero, List.set_cons_succ, List.getElem?_cons_zero, List.getElem?_cons_succ, Option.some.injEq, exists_eq_left', exists_eq_left, D.int.injEq, D.bl.injEq, D.tup.injEq, D.loc.injEq, List.cons.injEq, and_true, true_and, exists_eq_right, and_assoc, exists_and_left, Nat.reduceAdd, Nat.reduceSub, List.replicate_zero, List.replicate_succ, atI_2, atI_3, pEq_int, pNe_int, tupG_eq, lc_eq, for_eq, pEn, pSq, pZp, pRng1, pCut_eq, cutV_loc, cutV_tup, pAdd_loc, pAdd_tup, pInt_int, pInt_bl, pLen, pPart, pNoPart, pLst, pAugS, pPut, pgSub, ix40, ix41, ix42, lst_inj, seqOf_get, cellL_lst, Option.map_some, at_app, at_new, at_set, at_set_ne, pTuple, h3]
        clear h2 h3 g3 b
        subst hK5
        refine seq_go fun K6 hK6 => ?_
        simp (disch := (first | assumption | (simp only [List.length_append, List.length_cons, List.length_nil, List.length_set]; omega))) only [pAsg, pBin, pVar, pC, pgName, pgTup, pgCons, pgNil, pCall, pCons, pNil, pTest, pI2_int, pMul_int, seqOf_tup, atI_0, atI_1, pIx, pRet, pTup, pIf, pNeg, pPar, pPar3, pI1, pI2c, pCallF, pAdd_int, pDrop, pIfS, pNext, startD, List.map_cons, List.map_nil, List.length_cons, List.length_nil, List.cons_append, List.nil_append, List.replicate, List.set_cons_zero, List.set_cons_succ, List.getElem?_cons_zero, List.getElem?_cons_succ, Option.some.injEq, exists_eq_left', exists_eq_left, D.int.injEq, D.bl.injEq, D.tup.injEq, D.loc.injEq, List.cons.injEq, and_true, true_and, exists_eq_right, and_assoc, exists_and_left, Nat.reduceAdd, Nat.reduceSub, List.replicate_zero, List.replicate_succ, atI_2, atI_3, pEq_int, pNe_int, tupG_eq, lc_eq, for_eq, pEn, pSq, pZp, pRng1, pCut_eq, cutV_loc, cutV_tup, pAdd_loc, pAdd_tup, pInt_int, pInt_bl, pLen, pPart, pNoPart, pLst, pAugS, pPut, pgSub, ix40, ix41, ix42, lst_inj, seqOf_get, cellL_lst, Option.map_some, at_app, at_new, at_set, at_set_ne]
        refine ⟨by decide, by decide, by decide, by decide, by decide, by decide, by decide, by decide, l, l2, 1 + 200 * i + 1 + 2 * (1 + r), _, _, rfl, ?_, seqOf_of at_new, Nat.zero_lt_succ _, (by show 7 ≤ 2 ^ 24; decide), few_of (by omega), b3.app, fun k x S4 hx g4 b4 => ?_⟩
        · intro z
          injection z with z
          have := b3.lt1
          omega
        obtain ⟨t, ht, rfl⟩ : ∃ t, TOk t ∧ x = frD t := by
          have hm := List.mem_of_getElem? hx
          simp only [List.mem_cons, List.not_mem_nil, or_false] at hm
          have put : ∀ (n : Int) (m : Nat) (hd : m ≠ 0) (hc : n.natAbs.Coprime m), 0 < n → n.natAbs ≤ 100 → m ≤ 100 → x = D.tup [.int n, .int (m : Int)] → ∃ t, TOk t ∧ x = frD t := fun n m hd hc h1 h2 h3 e => ⟨⟨n, m, hd, hc⟩, tok_of n m hd hc h1 h2 h3, e⟩
          rcases hm with e | e | e | e | e | e | e
          · exact put 1 2 (by decide) (by decide) (by decide) (by decide) (by decide) e
          · exact put 2 3 (by decide) (by decide) (by decide) (by decide) (by decide) e
          · exact put 9 10 (by decide) (by decide) (by decide) (by decide) (by decide) e
          · exact put 1 1 (by decide) (by decide) (by decide) (by decide) (by decide) e
          · exact put 1 3 (by decide) (by decide) (by decide) (by decide) (by decide) e
          · exact put 4 3 (by decide) (by decide) (by decide) (by decide) (by decide) e
          · exact put 1 100 (by decide) (by decide) (by decide) (by decide) (by decide) e
        clear hx g4 b3
        subst hK6
        refine seq_go fun K7 hK7 => ?_
        simp (disch := (first | assumption | (simp only [List.length_append, List.length_cons, List.length_nil, List.length_set]; omega))) only [pAsg, pBin, pVar, pC, pgName, pgTup, pgCons, pgNil, pCall, pCons, pNil, pTest, pI2_int, pMul_int, seqOf_tup, atI_0, atI_1, pIx, pRet, pTup, pIf, pNeg, pPar, pPar3, pI1, pI2c, pCallF, pAdd_int, pDrop, pIfS, pNext, startD, List.map_cons, List.map_nil, List.length_cons, List.length_nil, List.cons_append, List.nil_append, List.replicate, List.set_cons_zero, List.set_cons_succ, List.getElem?_cons_zero, List.getElem?_cons_succ, Option.some.injEq, exists_eq_left', exists_eq_left, D.int.injEq, D.bl.injEq, D.tup.injEq, D.loc.injEq, List.cons.injEq, and_true, true_and, exists_eq_right, and_assoc, exists_and_left, Nat.reduceAdd, Nat.reduceSub, List.replicate_zero, List.replicate_succ, atI_2, atI_3, pEq_int, pNe_int, tupG_eq, lc_eq, for_eq, pEn, pSq, pZp, pRng1, pCut_eq, cutV_loc, cutV_tup, pAdd_loc, pAdd_tup, pInt_int, pInt_bl, pLen, pPart, pNoPart, pLst, pAugS, pPut, pgSub, ix40, ix41, ix42, lst_inj, seqOf_get, cellL_lst, Option.map_some, at_app, at_new, at_set, at_set_ne]
        refine ⟨by omega, by omega, ?_⟩
        rw [bag_many hr]
        refine lc_bagAll (l := l) (l2 := l2) (c := 1 + 200 * i + 1 + 2 * (1 + r) + 1) (k := 4) (fun _ y => ∃ p : Rat × Rat, (Sm 20 p.1 ∧ Sm 20 p.2) ∧ y = vpD p) (by rw [rng_len]; omega) b4 (few_of (by rw [rng_len]; omega)) (fun _ _ => trivial) ?_ ?_
        · intro j dj hj S' c' g hc b Y N hY
          obtain ⟨hj, rfl⟩ := rng_at hj
          show pgName _ _ [some d, some (.loc l), _, _, _, _, _, _, _, _, _, _, none] _ _
          unfold pYes natD
          simp (disch := (first | assumption | (simp only [List.length_append, List.length_cons, List.length_nil, List.length_set]; omega))) only [pAsg, pBin, pVar, pC, pgName, pgTup, pgCons, pgNil, pCall, pCons, pNil, pTest, pI2_int, pMul_int, seqOf_tup, atI_0, atI_1, pIx, pRet, pTup, pIf, pNeg, pPar, pPar3, pI1, pI2c, pCallF, pAdd_int, pDrop, pIfS, pNext, startD, List.map_cons, List.map_nil, List.length_cons, List.length_nil, List.cons_append, List.nil_append, List.replicate, List.set_cons_zero, List.set_cons_succ, List.getElem?_cons_zero, List.getElem?_cons_succ, Option.some.injEq, exists_eq_left', exists_eq_left, D.int.injEq, D.bl.injEq, D.tup.injEq, D.loc.injEq, List.cons.injEq, and_true, true_and, exists_eq_right, and_assoc, exists_and_left, Nat.reduceAdd, Nat.reduceSub, List.replicate_zero, List.replicate_succ, atI_2, atI_3, pEq_int, pNe_int, tupG_eq, lc_eq, for_eq, pEn, pSq, pZp, pRng1, pCut_eq, cutV_loc, cutV_tup, pAdd_loc, pAdd_tup, pInt_int, pInt_bl, pLen, pPart, pNoPart, pLst, pAugS, pPut, pgSub, ix40, ix41, ix42, lst_inj, seqOf_get, cellL_lst, Option.map_some, at_app, at_new, at_set, at_set_ne, if_true]
          have hc : c' + 4 < 2 ^ 200 := hc
          refine ⟨l, l2, c', rfl, (by show c' + 2 < 2 ^ 200; omega), b, fun q1 S5 hq1 g1 b1 => ?_⟩
          refine ⟨q1, rfl, l, l2, c' + 2, rfl, (by show c' + 2 + 2 < 2 ^ 200; omega), b1, fun q2 S6 hq2 g2 b2 => ?_⟩
          refine ⟨q2, rfl, by decide, ?_⟩
          exact hY _ S6 ⟨(absQ q1, absQ q2), ⟨sm_abs (low_sm hq1), sm_abs (low_sm hq2)⟩, rfl⟩ (g1.trans g2) b2
        · intro ys S5 h5 h6 h7 g5 b5
          rw [rng_len] at h5 b5
          obtain ⟨ps, rfl, hps⟩ := all_map (f := vpD) (Q := fun p : Rat × Rat => Sm 20 p.1 ∧ Sm 20 p.2) ys fun y hy => by
            obtain ⟨m, hm⟩ := List.getElem?_of_mem hy
            exact h6 m y hm
          rw [List.length_map] at h5
          simp (disch := (first | assumption | (simp only [List.length_append, List.length_cons, List.length_nil, List.length_set]; omega))) only [pAsg, pBin, pVar, pC, pgName, pgTup, pgCons, pgNil, pCall, pCons, pNil, pTest, pI2_int, pMul_int, seqOf_tup, atI_0, atI_1, pIx, pRet, pTup, pIf, pNeg, pPar, pPar3, pI1, pI2c, pCallF, pAdd_int, pDrop, pIfS, pNext, startD, List.map_cons, List.map_nil, List.length_cons, List.length_nil, List.cons_append, List.nil_append, List.replicate, List.set_cons_zero, List.set_cons_succ, List.getElem?_cons_zero, List.getElem?_cons_succ, Option.some.injEq, exists_eq_left', exists_eq_left, D.int.injEq, D.bl.injEq, D.tup.injEq, D.loc.injEq, List.cons.injEq, and_true, true_and, exists_eq_right, and_assoc, exists_and_left, Nat.reduceAdd, Nat.reduceSub, List.replicate_zero, List.replicate_succ, atI_2, atI_3, pEq_int, pNe_int, tupG_eq, lc_eq, for_eq, pEn, pSq, pZp, pRng1, pCut_eq, cutV_loc, cutV_tup, pAdd_loc, pAdd_tup, pInt_int, pInt_bl, pLen, pPart, pNoPart, pLst, pAugS, pPut, pgSub, ix40, ix41, ix42, lst_inj, seqOf_get, cellL_lst, Option.map_some, at_app, at_new, at_set, at_set_ne, pTuple, h7]
          clear h6 h7 g5 b4
          subst hK7
          refine seq_go fun K8 hK8 => ?_
          have go8 : ∀ (ps : List (Rat × Rat)) S6 y2 y7 y8 y9 y10 y11 y12, ps.length = 1 + r → (∀ p ∈ ps, Sm 20 p.1 ∧ Sm 20 p.2) → Bag S6 l l2 (1 + 200 * i + 60) → K8 [some d, some (.loc l), y2, some (.int (1 + (r : Int))), some (.tup (ws.map frD)), some (frD t), some (.tup (ps.map vpD)), y7, y8, y9, y10, y11, y12] S6 := by
            clear hps h5 b5 S5 ps
            intro ps S6 y2 y7 y8 y9 y10 y11 y12 hlen hps b6
            have f : Fine ws ps := ⟨by omega, by omega, by omega, hws, hps⟩
            have hg := gr_ok f
            subst hK8
            refine seq_go fun K9 hK9 => ?_
            simp (disch := (first | assumption | (simp only [List.length_append, List.length_cons, List.length_nil, List.length_set]; omega))) only [pAsg, pBin, pVar, pC, pgName, pgTup, pgCons, pgNil, pCall, pCons, pNil, pTest, pI2_int, pMul_int, seqOf_tup, atI_0, atI_1, pIx, pRet, pTup, pIf, pNeg, pPar, pPar3, pI1, pI2c, pCallF, pAdd_int, pDrop, pIfS, pNext, startD, List.map_cons, List.map_nil, List.length_cons, List.length_nil, List.cons_append, List.nil_append, List.replicate, List.set_cons_zero, List.set_cons_succ, List.getElem?_cons_zero, List.getElem?_cons_succ, Option.some.injEq, exists_eq_left', exists_eq_left, D.int.injEq, D.bl.injEq, D.tup.injEq, D.loc.injEq, List.cons.injEq, and_true, true_and, exists_eq_right, and_assoc, exists_and_left, Nat.reduceAdd, Nat.reduceSub, List.replicate_zero, List.replicate_succ, atI_2, atI_3, pEq_int, pNe_int, tupG_eq, lc_eq, for_eq, pEn, pSq, pZp, pRng1, pCut_eq, cutV_loc, cutV_tup, pAdd_loc, pAdd_tup, pInt_int, pInt_bl, pLen, pPart, pNoPart, pLst, pAugS, pPut, pgSub, ix40, ix41, ix42, lst_inj, seqOf_get, cellL_lst, Option.map_some, at_app, at_new, at_set, at_set_ne, pLstRg1]
            refine ⟨by decide, by decide, l, l2, 1 + 200 * i + 60, .loc S6.length, rngD 0 13, rfl, ?_, seqOf_of at_new, by decide, few_of (by rw [rng_len]; omega), b6.app, fun ys j S7 hp hj _ g7 b7 => ?_⟩
            · intro z
              injection z with z
              have := b6.lt1
              omega
            rw [rng_len] at b7
            refine cut_any (n := 5) (.inr ⟨_, rfl⟩) (seqOf_of hj) ?_
            generalize hS8 : S7 ++ [Cell.lst (ys.take 5)] = S8
            have b8 : Bag S8 l l2 (1 + 200 * i + 60 + 13) := by rw [← hS8]; exact b7.app
            have a8 : S8[S7.length]? = some (.lst (ys.take 5)) := by rw [← hS8]; exact at_new
            refine ⟨ys.take 5, seqOf_of a8, fun m ρ' S' => ∃ G x7, S' = S8 ++ G ∧ ρ' = [some d, some (.loc l), y2, some (.int (1 + (r : Int))), some (.tup (ws.map frD)), some (frD t), some (.tup (ps.map vpD)), x7, y8, y9, y10, y11, y12], ⟨[], y7, by simp, rfl⟩, fun m ρ' S' ⟨G, x7, e, _⟩ => by rw [e]; exact seqOf_app (seqOf_of a8), ?_, ?_⟩
            · rintro m dm ρ' S' hm ⟨G, x7, rfl, rfl⟩
              have hmem : dm ∈ rngD 0 13 := hp.mem_iff.mp (List.mem_of_mem_take (List.mem_of_getElem? hm))
              obtain ⟨s, hs⟩ := List.getElem?_of_mem hmem
              obtain ⟨hs13, rfl⟩ := rng_at hs
              unfold natD
              simp (disch := (first | assumption | (simp only [List.length_append, List.length_cons, List.length_nil, List.length_set]; omega))) only [pAsg, pBin, pVar, pC, pgName, pgTup, pgCons, pgNil, pCall, pCons, pNil, pTest, pI2_int, pMul_int, seqOf_tup, atI_0, atI_1, pIx, pRet, pTup, pIf, pNeg, pPar, pPar3, pI1, pI2c, pCallF, pAdd_int, pDrop, pIfS, pNext, startD, List.map_cons, List.map_nil, List.length_cons, List.length_nil, List.cons_append, List.nil_append, List.replicate, List.set_cons_zero, List.set_cons_succ, List.getElem?_cons_zero, List.getElem?_cons_succ, Option.some.injEq, exists_eq_left', exists_eq_left, D.int.injEq, D.bl.injEq, D.tup.injEq, D.loc.injEq, List.cons.injEq, and_true, true_and, exists_eq_right, and_assoc, exists_and_left, Nat.reduceAdd, Nat.reduceSub, List.replicate_zero, List.replicate_succ, atI_2, atI_3, pEq_int, pNe_int, tupG_eq, lc_eq, for_eq, pEn, pSq, pZp, pRng1, pCut_eq, cutV_loc, cutV_tup, pAdd_loc, pAdd_tup, pInt_int, pInt_bl, pLen, pPart, pNoPart, pLst, pAugS, pPut, pgSub, ix40, ix41, ix42, lst_inj, seqOf_get, cellL_lst, Option.map_some, at_app, at_new, at_set, at_set_ne, pNotT]
              refine ⟨ws, t, ps, s, rfl, f, ht, by omega, fun G1 => ?_⟩
              refine ⟨ws, t, ps, s, rfl, f, ht, by omega, fun G2 => ?_⟩
              have e1 : (ws.map fun w => w * (t ^ s * gr ws ps)) = ws.map fun w => t ^ s * gr ws ps * w := List.map_congr_left fun w _ => Rat.mul_comm _ _
              rw [e1]
              refine ⟨_, _, .tuple ((ws.map fun w => t ^ s * gr ws ps * w).map pyFr), rfl, .inl ⟨rfl, _, rfl⟩, .inl ⟨rfl, _, rfl⟩, .tup py_frs, .tup py_frs, plain_tup ?_ ?_, true, rfl, ?_⟩
              · intro q hq
                obtain ⟨w, hw, rfl⟩ := List.mem_map.mp hq
                exact (sm_mul (sm_mul (sm_pow ht.sm s) hg.2) (f.w w hw).2).mono (by omega)
              · rw [List.length_map]; exact f.few
              · rw [if_neg (by decide)]
                exact ⟨G ++ G1 ++ G2, by simp only [List.append_assoc], _, rfl⟩
            · rintro ρ' S' ⟨G, x7, rfl, rfl⟩
              have b9 : Bag (S8 ++ G) l l2 (1 + 200 * i + 60 + 13) := b8.app
              generalize S8 ++ G = S9 at b9
              clear b8 a8 hS8 b7 hj hp b6
              subst hK9
              dsimp only
              refine seq_go fun K10 hK10 => ?_
              simp (disch := (first | assumption | (simp only [List.length_append, List.length_cons, List.length_nil, List.length_set]; omega))) only [pAsg, pBin, pVar, pC, pgName, pgTup, pgCons, pgNil, pCall, pCons, pNil, pTest, pI2_int, pMul_int, seqOf_tup, atI_0, atI_1, pIx, pRet, pTup, pIf, pNeg, pPar, pPar3, pI1, pI2c, pCallF, pAdd_int, pDrop, pIfS, pNext, startD, List.map_cons, List.map_nil, List.length_cons, List.length_nil, List.cons_append, List.nil_append, List.replicate, List.set_cons_zero, List.set_cons_succ, List.getElem?_cons_zero, List.getElem?_cons_succ, Option.some.injEq, exists_eq_left', exists_eq_left, D.int.injEq, D.bl.injEq, D.tup.injEq, D.loc.injEq, List.cons.injEq, and_true, true_and, exists_eq_right, and_assoc, exists_and_left, Nat.reduceAdd, Nat.reduceSub, List.replicate_zero, List.replicate_succ, atI_2, atI_3, pEq_int, pNe_int, tupG_eq, lc_eq, for_eq, pEn, pSq, pZp, pRng1, pCut_eq, cutV_loc, cutV_tup, pAdd_loc, pAdd_tup, pInt_int, pInt_bl, pLen, pPart, pNoPart, pLst, pAugS, pPut, pgSub, ix40, ix41, ix42, lst_inj, seqOf_get, cellL_lst, Option.map_some, at_app, at_new, at_set, at_set_ne]
              refine ⟨by omega, by omega, ?_⟩
              rw [bag_many hr]
              refine lc_bagAll (l := l) (l2 := l2) (c := 1 + 200 * i + 60 + 13) (k := 4) (fun _ y => ∃ p : Rat × Rat, (Sm 20 p.1 ∧ Sm 20 p.2) ∧ y = vpD p) (by rw [rng_len]; omega) b9 (few_of (by rw [rng_len]; omega)) (fun _ _ => trivial) ?_ ?_
              · intro j dj hj S' c' g hc b Y N hY
                obtain ⟨hj, rfl⟩ := rng_at hj
                show pgName _ _ [some d, some (.loc l), _, _, _, _, _, _, _, _, _, _, none] _ _
                unfold pYes natD
                simp (disch := (first | assumption | (simp only [List.length_append, List.length_cons, List.length_nil, List.length_set]; omega))) only [pAsg, pBin, pVar, pC, pgName, pgTup, pgCons, pgNil, pCall, pCons, pNil, pTest, pI2_int, pMul_int, seqOf_tup, atI_0, atI_1, pIx, pRet, pTup, pIf, pNeg, pPar, pPar3, pI1, pI2c, pCallF, pAdd_int, pDrop, pIfS, pNext, startD, List.map_cons, List.map_nil, List.length_cons, List.length_nil, List.cons_append, List.nil_append, List.replicate, List.set_cons_zero, List.set_cons_succ, List.getElem?_cons_zero, List.getElem?_cons_succ, Option.some.injEq, exists_eq_left', exists_eq_left, D.int.injEq, D.bl.injEq, D.tup.injEq, D.loc.injEq, List.cons.injEq, and_true, true_and, exists_eq_right, and_assoc, exists_and_left, Nat.reduceAdd, Nat.reduceSub, List.replicate_zero, List.replicate_succ, atI_2, atI_3, pEq_int, pNe_int, tupG_eq, lc_eq, for_eq, pEn, pSq, pZp, pRng1, pCut_eq, cutV_loc, cutV_tup, pAdd_loc, pAdd_tup, pInt_int, pInt_bl, pLen, pPart, pNoPart, pLst, pAugS, pPut, pgSub, ix40, ix41, ix42, lst_inj, seqOf_get, cellL_lst, Option.map_some, at_app, at_new, at_set, at_set_ne, if_true]
                have hc : c' + 4 < 2 ^ 200 := hc
                refine ⟨l, l2, c', rfl, (by show c' + 2 < 2 ^ 200; omega), b, fun q1 S5 hq1 g1 b1 => ?_⟩
                refine ⟨l, l2, c' + 2, rfl, (by show c' + 2 + 2 < 2 ^ 200; omega), b1, fun q2 S6 hq2 g2 b2 => ⟨by decide, ?_⟩⟩
                exact hY _ S6 ⟨(q1, q2), ⟨low_sm hq1, low_sm hq2⟩, rfl⟩ (g1.trans g2) b2
              · intro ys SA h5 h6 h7 _ bA
                rw [rng_len] at h5 bA
                obtain ⟨sg, rfl, hsg⟩ := all_map (f := vpD) (Q := fun p : Rat × Rat => Sm 20 p.1 ∧ Sm 20 p.2) ys fun y hy => by
                  obtain ⟨m, hm⟩ := List.getElem?_of_mem hy
                  exact h6 m y hm
                rw [List.length_map] at h5
                have f2 : Fine ws sg := ⟨by omega, by omega, by omega, hws, hsg⟩
                simp (disch := (first | assumption | (simp only [List.length_append, List.length_cons, List.length_nil, List.length_set]; omega))) only [pAsg, pBin, pVar, pC, pgName, pgTup, pgCons, pgNil, pCall, pCons, pNil, pTest, pI2_int, pMul_int, seqOf_tup, atI_0, atI_1, pIx, pRet, pTup, pIf, pNeg, pPar, pPar3, pI1, pI2c, pCallF, pAdd_int, pDrop, pIfS, pNext, startD, List.map_cons, List.map_nil, List.length_cons, List.length_nil, List.cons_append, List.nil_append, List.replicate, List.set_cons_zero, List.set_cons_succ, List.getElem?_cons_zero, List.getElem?_cons_succ, Option.some.injEq, exists_eq_left', exists_eq_left, D.int.injEq, D.bl.injEq, D.tup.injEq, D.loc.injEq, List.cons.injEq, and_true, true_and, exists_eq_right, and_assoc, exists_and_left, Nat.reduceAdd, Nat.reduceSub, List.replicate_zero, List.replicate_succ, atI_2, atI_3, pEq_int, pNe_int, tupG_eq, lc_eq, for_eq, pEn, pSq, pZp, pRng1, pCut_eq, cutV_loc, cutV_tup, pAdd_loc, pAdd_tup, pInt_int, pInt_bl, pLen, pPart, pNoPart, pLst, pAugS, pPut, pgSub, ix40, ix41, ix42, lst_inj, seqOf_get, cellL_lst, Option.map_some, at_app, at_new, at_set, at_set_ne, pTuple, h7]
                clear h6 h7 b9
                subst hK10
                refine seq_go fun K11 hK11 => ?_
                simp (disch := (first | assumption | (simp only [List.length_append, List.length_cons, List.length_nil, List.length_set]; omega))) only [pAsg, pBin, pVar, pC, pgName, pgTup, pgCons, pgNil, pCall, pCons, pNil, pTest, pI2_int, pMul_int, seqOf_tup, atI_0, atI_1, pIx, pRet, pTup, pIf, pNeg, pPar, pPar3, pI1, pI2c, pCallF, pAdd_int, pDrop, pIfS, pNext, startD, List.map_cons, List.map_nil, List.length_cons, List.length_nil, List.cons_append, List.nil_append, List.replicate, List.set_cons_zero, List.set_cons_succ, List.getElem?_cons_zero, List.getElem?_cons_succ, Option.some.injEq, exists_eq_left', exists_eq_left, D.int.injEq, D.bl.injEq, D.tup.injEq, D.loc.injEq, List.cons.injEq, and_true, true_and, exists_eq_right, and_assoc, exists_and_left, Nat.reduceAdd, Nat.reduceSub, List.replicate_zero, List.replicate_succ, atI_2, atI_3, pEq_int, pNe_int, tupG_eq, lc_eq, for_eq, pEn, pSq, pZp, pRng1, pCut_eq, cutV_loc, cutV_tup, pAdd_loc, pAdd_tup, pInt_int, pInt_bl, pLen, pPart, pNoPart, pLst, pAugS, pPut, pgSub, ix40, ix41, ix42, lst_inj, seqOf_get, cellL_lst, Option.map_some, at_app, at_new, at_set, at_set_ne]
                refine ⟨by decide, fun m ρ' S' => ∃ G x7 x9, S' = SA ++ G ∧ ρ' = [some d, some (.loc l), y2, some (.int (1 + (r : Int))), some (.tup (ws.map frD)), some (frD t), some (.tup (ps.map vpD)), x7, some (.tup (sg.map vpD)), x9, y10, y11, y12], ⟨[], _, _, by simp, rfl⟩, fun _ _ _ _ => trivial, ?_, ?_⟩
                · rintro m dm ρ' S' hm ⟨G, x7, x9, rfl, rfl⟩
                  obtain ⟨zs, hf, rfl⟩ : ∃ zs, Fine ws zs ∧ dm = .tup (zs.map vpD) := by
                    match m, hm with
                    | 0, e => cases e; exact ⟨ps, f, rfl⟩
                    | 1, e => cases e; exact ⟨sg, f2, rfl⟩
                    | m + 2, e => simp at e
                  simp (disch := (first | assumption | (simp only [List.length_append, List.length_cons, List.length_nil, List.length_set]; omega))) only [pAsg, pBin, pVar, pC, pgName, pgTup, pgCons, pgNil, pCall, pCons, pNil, pTest, pI2_int, pMul_int, seqOf_tup, atI_0, atI_1, pIx, pRet, pTup, pIf, pNeg, pPar, pPar3, pI1, pI2c, pCallF, pAdd_int, pDrop, pIfS, pNext, startD, List.map_cons, List.map_nil, List.length_cons, List.length_nil, List.cons_append, List.nil_append, List.replicate, List.set_cons_zero, List.set_cons_succ, List.getElem?_cons_zero, List.getElem?_cons_succ, Option.some.injEq, exists_eq_left', exists_eq_left, D.int.injEq, D.bl.injEq, D.tup.injEq, D.loc.injEq, List.cons.injEq, and_true, true_and, exists_eq_right, and_assoc, exists_and_left, Nat.reduceAdd, Nat.reduceSub, List.replicate_zero, List.replicate_succ, atI_2, atI_3, pEq_int, pNe_int, tupG_eq, lc_eq, for_eq, pEn, pSq, pZp, pRng1, pCut_eq, cutV_loc, cutV_tup, pAdd_loc, pAdd_tup, pInt_int, pInt_bl, pLen, pPart, pNoPart, pLst, pAugS, pPut, pgSub, ix40, ix41, ix42, lst_inj, seqOf_get, cellL_lst, Option.map_some, at_app, at_new, at_set, at_set_ne, pNotT]
                  refine ⟨ws, zs, rfl, hf, fun G1 => ?_⟩
                  refine ⟨ws, zs, rfl, hf, fun G2 => ?_⟩
                  refine ⟨_, _, pyFr (gr ws zs), rfl, .inl ⟨rfl, _, rfl⟩, .inl ⟨rfl, _, rfl⟩, py_fr, py_fr, plain_fr ((gr_ok hf).2.mono (by decide)), true, rfl, ?_⟩
                  rw [if_neg (by decide)]
                  exact ⟨G ++ G1 ++ G2, by simp only [List.append_assoc], _, rfl⟩
                · rintro ρ' S' ⟨G, x7, x9, rfl, rfl⟩
                  have bB : Bag (SA ++ G) l l2 (1 + 200 * i + 100) := bA.app.mono (by omega)
                  generalize SA ++ G = SB at bB
                  clear bA
                  subst hK11
                  dsimp only
                  refine seq_go fun K12 hK12 => ?_
                  simp (disch := (first | assumption | (simp only [List.length_append, List.length_cons, List.length_nil, List.length_set]; omega))) only [pAsg, pBin, pVar, pC, pgName, pgTup, pgCons, pgNil, pCall, pCons, pNil, pTest, pI2_int, pMul_int, seqOf_tup, atI_0, atI_1, pIx, pRet, pTup, pIf, pNeg, pPar, pPar3, pI1, pI2c, pCallF, pAdd_int, pDrop, pIfS, pNext, startD, List.map_cons, List.map_nil, List.length_cons, List.length_nil, List.cons_append, List.nil_append, List.replicate, List.set_cons_zero, List.set_cons_succ, List.getElem?_cons_zero, List.getElem?_cons_succ, Option.some.injEq, exists_eq_left', exists_eq_left, D.int.injEq, D.bl.injEq, D.tup.injEq, D.loc.injEq, List.cons.injEq, and_true, true_and, exists_eq_right, and_assoc, exists_and_left, Nat.reduceAdd, Nat.reduceSub, List.replicate_zero, List.replicate_succ, atI_2, atI_3, pEq_int, pNe_int, tupG_eq, lc_eq, for_eq, pEn, pSq, pZp, pRng1, pCut_eq, cutV_loc, cutV_tup, pAdd_loc, pAdd_tup, pInt_int, pInt_bl, pLen, pPart, pNoPart, pLst, pAugS, pPut, pgSub, ix40, ix41, ix42, lst_inj, seqOf_get, cellL_lst, Option.map_some, at_app, at_new, at_set, at_set_ne]
                  refine ⟨by decide, by decide, by decide, by decide, by decide, by decide, by decide, l, l2, 1 + 200 * i + 100, _, _, rfl, ?_, seqOf_of at_new, Nat.zero_lt_succ _, (by show 6 ≤ 2 ^ 24; decide), few_of (by omega), bB.app, fun k x SC hx _ bC => ?_⟩
                  · intro z
                    injection z with z
                    have := bB.lt1
                    omega
                  obtain ⟨nr, hnr, rfl⟩ : ∃ nr, Sm 20 nr ∧ x = frD nr := by
                    have hm := List.mem_of_getElem? hx
                    simp only [List.mem_cons, List.not_mem_nil, or_false] at hm
                    have put : ∀ (n : Int) (m : Nat) (hd : m ≠ 0) (hc : n.natAbs.Coprime m), n.natAbs < 2 ^ 20 → m < 2 ^ 20 → x = D.tup [.int n, .int (m : Int)] → ∃ t, Sm 20 t ∧ x = frD t := fun n m hd hc h1 h2 e => ⟨⟨n, m, hd, hc⟩, ⟨h1, h2⟩, e⟩
                    rcases hm with e | e | e | e | e | e
                    · exact put 1 10 (by decide) (by decide) (by decide) (by decide) e
                    · exact put 1 1000 (by decide) (by decide) (by decide) (by decide) e
                    · exact put 3 1 (by decide) (by decide) (by decide) (by decide) e
                    · exact put 1 2 (by decide) (by decide) (by decide) (by decide) e
                    · exact put 0 1 (by decide) (by decide) (by decide) (by decide) e
                    · exact put 100 1 (by decide) (by decide) (by decide) (by decide) e
                  clear hx bB
                  subst hK12
                  refine seq_go fun K13 hK13 => ?_
                  simp (disch := (first | assumption | (simp only [List.length_append, List.length_cons, List.length_nil, List.length_set]; omega))) only [pAsg, pBin, pVar, pC, pgName, pgTup, pgCons, pgNil, pCall, pCons, pNil, pTest, pI2_int, pMul_int, seqOf_tup, atI_0, atI_1, pIx, pRet, pTup, pIf, pNeg, pPar, pPar3, pI1, pI2c, pCallF, pAdd_int, pDrop, pIfS, pNext, startD, List.map_cons, List.map_nil, List.length_cons, List.length_nil, List.cons_append, List.nil_append, List.replicate, List.set_cons_zero, List.set_cons_succ, List.getElem?_cons_zero, List.getElem?_cons_succ, Option.some.injEq, exists_eq_left', exists_eq_left, D.int.injEq, D.bl.injEq, D.tup.injEq, D.loc.injEq, List.cons.injEq, and_true, true_and, exists_eq_right, and_assoc, exists_and_left, Nat.reduceAdd, Nat.reduceSub, List.replicate_zero, List.replicate_succ, atI_2, atI_3, pEq_int, pNe_int, tupG_eq, lc_eq, for_eq, pEn, pSq, pZp, pRng1, pCut_eq, cutV_loc, cutV_tup, pAdd_loc, pAdd_tup, pInt_int, pInt_bl, pLen, pPart, pNoPart, pLst, pAugS, pPut, pgSub, ix40, ix41, ix42, lst_inj, seqOf_get, cellL_lst, Option.map_some, at_app, at_new, at_set, at_set_ne]
                  generalize hfst : fst (maxQ ws * gr ws ps) t nr = o
                  have go13 : ∀ G, K13 [some d, some (.loc l), y2, some (.int (1 + (r : Int))), some (.tup (ws.map frD)), some (frD t), some (.tup (ps.map vpD)), x7, some (.tup (sg.map vpD)), x9, some (frD nr), some (dueD o), y12] (SC ++ G) := by
                    intro G
                    subst hK13
                    refine seq_go fun K14 hK14 => ?_
                    have bD : Bag (SC ++ G) l l2 (1 + 200 * i + 100 + 1) := bC.app
                    generalize SC ++ G = SD at bD
                    have hear : ∀ (R' : Post) S', (∀ G, R' (heardD o) (S' ++ G)) →
                        (pHeard K "told" lh fun pxL => pCallF (sp_stages_for c) pxL (pCons (pVar 4) (pCons (pVar 5) (pCons (pVar 6) (pCons (pVar 10) pNil))))) [some d, some (.loc l), y2, some (.int (1 + (r : Int))), some (.tup (ws.map frD)), some (frD t), some (.tup (ps.map vpD)), x7, some (.tup (sg.map vpD)), x9, some (frD nr), some (heardD o), y12] S' R' := by
                      intro R' S' hR
                      unfold pHeard
                      simp (disch := (first | assumption | (simp only [List.length_append, List.length_cons, List.length_nil, List.length_set]; omega))) only [pAsg, pBin, pVar, pC, pgName, pgTup, pgCons, pgNil, pCall, pCons, pNil, pTest, pI2_int, pMul_int, seqOf_tup, atI_0, atI_1, pIx, pRet, pTup, pIf, pNeg, pPar, pPar3, pI1, pI2c, pCallF, pAdd_int, pDrop, pIfS, pNext, startD, List.map_cons, List.map_nil, List.length_cons, List.length_nil, List.cons_append, List.nil_append, List.replicate, List.set_cons_zero, List.set_cons_succ, List.getElem?_cons_zero, List.getElem?_cons_succ, Option.some.injEq, exists_eq_left', exists_eq_left, D.int.injEq, D.bl.injEq, D.tup.injEq, D.loc.injEq, List.cons.injEq, and_true, true_and, exists_eq_right, and_assoc, exists_and_left, Nat.reduceAdd, Nat.reduceSub, List.replicate_zero, List.replicate_succ, atI_2, atI_3, pEq_int, pNe_int, tupG_eq, lc_eq, for_eq, pEn, pSq, pZp, pRng1, pCut_eq, cutV_loc, cutV_tup, pAdd_loc, pAdd_tup, pInt_int, pInt_bl, pLen, pPart, pNoPart, pLst, pAugS, pPut, pgSub, ix40, ix41, ix42, lst_inj, seqOf_get, cellL_lst, Option.map_some, at_app, at_new, at_set, at_set_ne]
                      refine ⟨ws, t, ps, nr, rfl, f, ht, hnr, ?_, ?_⟩
                      · intro j hj G
                        rw [hfst] at hj
                        subst hj
                        exact hR G
                      · intro hj G
                        rw [hfst] at hj
                        subst hj
                        exact hear_many hl (hR G)
                    have fin : ∀ S', Bag S' l l2 (1 + 200 * i + 100 + 1) → K14 [some d, some (.loc l), y2, some (.int (1 + (r : Int))), some (.tup (ws.map frD)), some (frD t), some (.tup (ps.map vpD)), x7, some (.tup (sg.map vpD)), x9, some (frD nr), some (heardD o), y12] S' := by
                      intro S' bE
                      subst hK14
                      simp (disch := (first | assumption | (simp only [List.length_append, List.length_cons, List.length_nil, List.length_set]; omega))) only [pAsg, pBin, pVar, pC, pgName, pgTup, pgCons, pgNil, pCall, pCons, pNil, pTest, pI2_int, pMul_int, seqOf_tup, atI_0, atI_1, pIx, pRet, pTup, pIf, pNeg, pPar, pPar3, pI1, pI2c, pCallF, pAdd_int, pDrop, pIfS, pNext, startD, List.map_cons, List.map_nil, List.length_cons, List.length_nil, List.cons_append, List.nil_append, List.replicate, List.set_cons_zero, List.set_cons_succ, List.getElem?_cons_zero, List.getElem?_cons_succ, Option.some.injEq, exists_eq_left', exists_eq_left, D.int.injEq, D.bl.injEq, D.tup.injEq, D.loc.injEq, List.cons.injEq, and_true, true_and, exists_eq_right, and_assoc, exists_and_left, Nat.reduceAdd, Nat.reduceSub, List.replicate_zero, List.replicate_succ, atI_2, atI_3, pEq_int, pNe_int, tupG_eq, lc_eq, for_eq, pEn, pSq, pZp, pRng1, pCut_eq, cutV_loc, cutV_tup, pAdd_loc, pAdd_tup, pInt_int, pInt_bl, pLen, pPart, pNoPart, pLst, pAugS, pPut, pgSub, ix40, ix41, ix42, lst_inj, seqOf_get, cellL_lst, Option.map_some, at_app, at_new, at_set, at_set_ne, pNotT]
                      refine hear _ _ fun G => ?_
                      obtain ⟨k1, k2, k3⟩ := heard_ok o fun i hi => fst_lt (hfst.trans hi)
                      refine ⟨_, _, heardP o, rfl, k1, k1, k2 _, k2 _, k3, true, rfl, ?_⟩
                      rw [if_neg (by decide)]
                      exact bE.app.mono (by omega)
                    clear hear
                    simp (disch := (first | assumption | (simp only [List.length_append, List.length_cons, List.length_nil, List.length_set]; omega))) only [pAsg, pBin, pVar, pC, pgName, pgTup, pgCons, pgNil, pCall, pCons, pNil, pTest, pI2_int, pMul_int, seqOf_tup, atI_0, atI_1, pIx, pRet, pTup, pIf, pNeg, pPar, pPar3, pI1, pI2c, pCallF, pAdd_int, pDrop, pIfS, pNext, startD, List.map_cons, List.map_nil, List.length_cons, List.length_nil, List.cons_append, List.nil_append, List.replicate, List.set_cons_zero, List.set_cons_succ, List.getElem?_cons_zero, List.getElem?_cons_succ, Option.some.injEq, exists_eq_left', exists_eq_left, D.int.injEq, D.bl.injEq, D.tup.injEq, D.loc.injEq, List.cons.injEq, and_true, true_and, exists_eq_right, and_assoc, exists_and_left, Nat.reduceAdd, Nat.reduceSub, List.replicate_zero, List.replicate_succ, atI_2, atI_3, pEq_int, pNe_int, tupG_eq, lc_eq, for_eq, pEn, pSq, pZp, pRng1, pCut_eq, cutV_loc, cutV_tup, pAdd_loc, pAdd_tup, pInt_int, pInt_bl, pLen, pPart, pNoPart, pLst, pAugS, pPut, pgSub, ix40, ix41, ix42, lst_inj, seqOf_get, cellL_lst, Option.map_some, at_app, at_new, at_set, at_set_ne]
                    cases o with
                    | none =>
                      refine ⟨rfl, true, rfl, ?_⟩
                      rw [if_pos rfl]
                      exact ⟨by decide, fin _ bD⟩
                    | some j =>
                      refine ⟨rfl, false, rfl, ?_⟩
                      rw [if_neg (by decide)]
                      exact ⟨by decide, fin _ bD⟩
                  refine ⟨ws, t, ps, nr, rfl, f, ht, hnr, ?_, ?_⟩
                  · intro j hj G
                    rw [hfst] at hj
                    subst hj
                    exact go13 G
                  · intro hj G
                    rw [hfst] at hj
                    subst hj
                    exact go13 G
          simp (disch := (first | assumption | (simp only [List.length_append, List.length_cons, List.length_nil, List.length_set]; omega))) only [pAsg, pBin, pVar, pC, pgName, pgTup, pgCons, pgNil, pCall, pCons, pNil, pTest, pI2_int, pMul_int, seqOf_tup, atI_0, atI_1, pIx, pRet, pTup, pIf, pNeg, pPar, pPar3, pI1, pI2c, pCallF, pAdd_int, pDrop, pIfS, pNext, startD, List.map_cons, List.map_nil, List.length_cons, List.length_nil, List.cons_append, List.nil_append, List.replicate, List.set_cons_zero, List.set_cons_succ, List.getElem?_cons_zero, List.getElem?_cons_succ, Option.some.injEq, exists_eq_left', exists_eq_left, D.int.injEq, D.bl.injEq, D.tup.injEq, D.loc.injEq, List.cons.injEq, and_true, true_and, exists_eq_right, and_assoc, exists_and_left, Nat.reduceAdd, Nat.reduceSub, List.replicate_zero, List.replicate_succ, atI_2, atI_3, pEq_int, pNe_int, tupG_eq, lc_eq, for_eq, pEn, pSq, pZp, pRng1, pCut_eq, cutV_loc, cutV_tup, pAdd_loc, pAdd_tup, pInt_int, pInt_bl, pLen, pPart, pNoPart, pLst, pAugS, pPut, pgSub, ix40, ix41, ix42, lst_inj, seqOf_get, cellL_lst, Option.map_some, at_app, at_new, at_set, at_set_ne]
          refine ⟨l, l2, _, 6, rfl, by decide, by decide, few_of (by omega), b5, fun r6 S6 hr6 g6 b6 => ?_⟩
          simp (disch := (first | assumption | (simp only [List.length_append, List.length_cons, List.length_nil, List.length_set]; omega))) only [pAsg, pBin, pVar, pC, pgName, pgTup, pgCons, pgNil, pCall, pCons, pNil, pTest, pI2_int, pMul_int, seqOf_tup, atI_0, atI_1, pIx, pRet, pTup, pIf, pNeg, pPar, pPar3, pI1, pI2c, pCallF, pAdd_int, pDrop, pIfS, pNext, startD, List.map_cons, List.map_nil, List.length_cons, List.length_nil, List.cons_append, List.nil_append, List.replicate, List.set_cons_zero, List.set_cons_succ, List.getElem?_cons_zero, List.getElem?_cons_succ, Option.some.injEq, exists_eq_left', exists_eq_left, D.int.injEq, D.bl.injEq, D.tup.injEq, D.loc.injEq, List.cons.injEq, and_true, true_and, exists_eq_right, and_assoc, exists_and_left, Nat.reduceAdd, Nat.reduceSub, List.replicate_zero, List.replicate_succ, atI_2, atI_3, pEq_int, pNe_int, tupG_eq, lc_eq, for_eq, pEn, pSq, pZp, pRng1, pCut_eq, cutV_loc, cutV_tup, pAdd_loc, pAdd_tup, pInt_int, pInt_bl, pLen, pPart, pNoPart, pLst, pAugS, pPut, pgSub, ix40, ix41, ix42, lst_inj, seqOf_get, cellL_lst, Option.map_some, at_app, at_new, at_set, at_set_ne]
          split
          · refine ⟨by decide, by decide, by decide, by decide, ?_⟩
            refine ⟨by simp, by omega, by omega, by decide, ?_⟩
            rw [bag_many hr, rep_pairs]
            exact go8 _ _ _ _ _ _ _ _ _ List.length_replicate (fun p hp => by rw [(List.mem_replicate.mp hp).2]; exact ⟨⟨by decide, by decide⟩, by decide, by decide⟩) (b6.mono (by omega))
          · exact go8 ps _ _ _ _ _ _ _ _ h5 hps (b6.mono (by omega))
    · rintro ρ' S' ⟨x2, x3, x4, x5, x6, x7, x8, x9, x10, x11, x12, rfl, b⟩
      subst hK3
      simp (disch := (first | assumption | (simp only [List.length_append, List.length_cons, List.length_nil, List.length_set]; omega))) only [pAsg, pBin, pVar, pC, pgName, pgTup, pgCons, pgNil, pCall, pCons, pNil, pTest, pI2_int, pMul_int, seqOf_tup, atI_0, atI_1, pIx, pRet, pTup, pIf, pNeg, pPar, pPar3, pI1, pI2c, pCallF, pAdd_int, pDrop, pIfS, pNext, startD, List.map_cons, List.map_nil, List.length_cons, List.length_nil, List.cons_append, List.nil_append, List.replicate, List.set_cons_zero, List.set_cons_succ, List.getElem?_cons_zero, List.getElem?_cons_succ, Option.some.injEq, exists_eq_left', exists_eq_left, D.int.injEq, D.bl.injEq, D.tup.injEq, D.loc.injEq, List.cons.injEq, and_true, true_and, exists_eq_right, and_assoc, exists_and_left, Nat.reduceAdd, Nat.reduceSub, List.replicate_zero, List.replicate_succ, atI_2, atI_3, pEq_int, pNe_int, tupG_eq, lc_eq, for_eq, pEn, pSq, pZp, pRng1, pCut_eq, cutV_loc, cutV_tup, pAdd_loc, pAdd_tup, pInt_int, pInt_bl, pLen, pPart, pNoPart, pLst, pAugS, pPut, pgSub, ix40, ix41, ix42, lst_inj, seqOf_get, cellL_lst, Option.map_some, at_app, at_new, at_set, at_set_ne]
      exact fall_r (h _)
  simp (disch := (first | assumption | (simp only [List.length_append, List.length_cons, List.length_nil, List.length_set]; omega))) only [pAsg, pBin, pVar, pC, pgName, pgTup, pgCons, pgNil, pCall, pCons, pNil, pTest, pI2_int, pMul_int, seqOf_tup, atI_0, atI_1, pIx, pRet, pTup, pIf, pNeg, pPar, pPar3, pI1, pI2c, pCallF, pAdd_int, pDrop, pIfS, pNext, startD, List.map_cons, List.map_nil, List.length_cons, List.length_nil, List.cons_append, List.nil_append, List.replicate, List.set_cons_zero, List.set_cons_succ, List.getElem?_cons_zero, List.getElem?_cons_succ, Option.some.injEq, exists_eq_left', exists_eq_left, D.int.injEq, D.bl.injEq, D.tup.injEq, D.loc.injEq, List.cons.injEq, and_true, true_and, exists_eq_right, and_assoc, exists_and_left, Nat.reduceAdd, Nat.reduceSub, List.replicate_zero, List.replicate_succ, atI_2, atI_3, pEq_int, pNe_int, tupG_eq, lc_eq, for_eq, pEn, pSq, pZp, pRng1, pCut_eq, cutV_loc, cutV_tup, pAdd_loc, pAdd_tup, pInt_int, pInt_bl, pLen, pPart, pNoPart, pLst, pAugS, pPut, pgSub, ix40, ix41, ix42, lst_inj, seqOf_get, cellL_lst, Option.map_some, at_app, at_new, at_set, at_set_ne]
  split
  · refine ⟨rfl, fun G => ?_⟩
    refine ⟨true, rfl, ?_⟩
    exact go _ b1.app
  · rw [if_neg (by decide)]
    exact go _ b1
end K36

set_option Elab.async false
set_option linter.all false
set_option maxRecDepth 100000
set_option maxHeartbeats 0
/-! The head of the row: what the top leaves. -/
namespace Hk36
open PySem PySem.Spec PyProof.Rows L2
abbrev lawR : PySem.W.OpenLaw := PySem.Challenge.rw_onelate_k36_bounds_of_stages
abbrev progR : Program := PySem.Challenge.pw_onelate_k36_bounds_of_stages
def top (i : Nat) : Stmt := progR.main.body.getD i (.Pass ⟨0, 0, 0, 0⟩)
def s_fraction : Stmt := top 6
def s_times : Stmt := top 7
def s_over : Stmt := top 8
def s_size_of : Stmt := top 9
def s_compare : Stmt := top 10
def s_greatest : Stmt := top 11
def s_greatest_by : Stmt := top 13
def s_stage_bound : Stmt := top 16
def s_power : Stmt := top 17
def s_stages_for : Stmt := top 18
def s_law_bag : Stmt := top 20
def s_law_take : Stmt := top 21
def s_law_some : Stmt := top 22
def s_law_mixed : Stmt := top 23
def s_law_alike : Stmt := top 24
def s_law_gcd : Stmt := top 25
def s_law_f : Stmt := top 26
def s_law_by : Stmt := top 27
def s_law_below : Stmt := top 28
def s_law_size : Stmt := top 29
def s_law_some_fraction : Stmt := top 30
def s_law_over : Stmt := top 31
def s_law_power : Stmt := top 32
def s_law_greatest : Stmt := top 33
def s_law_bounds : Stmt := top 34
def s_law_least_stage : Stmt := top 35
def s_law_heard : Stmt := top 36
def s_law_are_many_right : Stmt := top 37
def s_law : Stmt := top 38
def d_fraction : He.DefD := ⟨("fraction", none), "fraction", "fraction", defArgs s_fraction, defBody s_fraction, defScope s_fraction, [], []⟩
def d_times : He.DefD := ⟨("times", none), "times", "times", defArgs s_times, defBody s_times, defScope s_times, [], []⟩
def d_over : He.DefD := ⟨("over", none), "over", "over", defArgs s_over, defBody s_over, defScope s_over, [], []⟩
def d_size_of : He.DefD := ⟨("size_of", none), "size_of", "size_of", defArgs s_size_of, defBody s_size_of, defScope s_size_of, [], []⟩
def d_compare : He.DefD := ⟨("compare", none), "compare", "compare", defArgs s_compare, defBody s_compare, defScope s_compare, [], []⟩
def d_greatest : He.DefD := ⟨("greatest", none), "greatest", "greatest", defArgs s_greatest, defBody s_greatest, defScope s_greatest, [], []⟩
def d_greatest_by : He.DefD := ⟨("greatest_by", none), "greatest_by", "greatest_by", defArgs s_greatest_by, defBody s_greatest_by, defScope s_greatest_by, [], []⟩
def d_stage_bound : He.DefD := ⟨("stage_bound", none), "stage_bound", "stage_bound", defArgs s_stage_bound, defBody s_stage_bound, defScope s_stage_bound, [], []⟩
def d_power : He.DefD := ⟨("power", none), "power", "power", defArgs s_power, defBody s_power, defScope s_power, [], []⟩
def d_stages_for : He.DefD := ⟨("stages_for", none), "stages_for", "stages_for", defArgs s_stages_for, defBody s_stages_for, defScope s_stages_for, [], []⟩
def d_law_bag : He.DefD := ⟨("_law_bag", none), "_law_bag", "_law_bag", defArgs s_law_bag, defBody s_law_bag, defScope s_law_bag, [], []⟩
def d_law_take : He.DefD := ⟨("_law_take", none), "_law_take", "_law_take", defArgs s_law_take, defBody s_law_take, defScope s_law_take, [], []⟩
def d_law_some : He.DefD := ⟨("_law_some", none), "_law_some", "_law_some", defArgs s_law_some, defBody s_law_some, defScope s_law_some, [], []⟩
def d_law_mixed : He.DefD := ⟨("_law_mixed", none), "_law_mixed", "_law_mixed", defArgs s_law_mixed, defBody s_law_mixed, defScope s_law_mixed, [], []⟩
def d_law_alike : He.DefD := ⟨("_law_alike", none), "_law_alike", "_law_alike", defArgs s_law_alike, defBody s_law_alike, defScope s_law_alike, [], []⟩
def d_law_gcd : He.DefD := ⟨("_law_gcd", none), "_law_gcd", "_law_gcd", defArgs s_law_gcd, defBody s_law_gcd, defScope s_law_gcd, [], []⟩
def d_law_f : He.DefD := ⟨("_law_f", none), "_law_f", "_law_f", defArgs s_law_f, defBody s_law_f, defScope s_law_f, [], []⟩
def d_law_by : He.DefD := ⟨("_law_by", none), "_law_by", "_law_by", defArgs s_law_by, defBody s_law_by, defScope s_law_by, [], []⟩
def d_law_below : He.DefD := ⟨("_law_below", none), "_law_below", "_law_below", defArgs s_law_below, defBody s_law_below, defScope s_law_below, [], []⟩
def d_law_size : He.DefD := ⟨("_law_size", none), "_law_size", "_law_size", defArgs s_law_size, defBody s_law_size, defScope s_law_size, [], []⟩
def d_law_some_fraction : He.DefD := ⟨("_law_some_fraction", none), "_law_some_fraction", "_law_some_fraction", defArgs s_law_some_fraction, defBody s_law_some_fraction, defScope s_law_some_fraction, [], []⟩
def d_law_over : He.DefD := ⟨("_law_over", none), "_law_over", "_law_over", defArgs s_law_over, defBody s_law_over, defScope s_law_over, [], []⟩
def d_law_power : He.DefD := ⟨("_law_power", none), "_law_power", "_law_power", defArgs s_law_power, defBody s_law_power, defScope s_law_power, [], []⟩
def d_law_greatest : He.DefD := ⟨("_law_greatest", none), "_law_greatest", "_law_greatest", defArgs s_law_greatest, defBody s_law_greatest, defScope s_law_greatest, [], []⟩
def d_law_bounds : He.DefD := ⟨("_law_bounds", none), "_law_bounds", "_law_bounds", defArgs s_law_bounds, defBody s_law_bounds, defScope s_law_bounds, [], []⟩
def d_law_least_stage : He.DefD := ⟨("_law_least_stage", none), "_law_least_stage", "_law_least_stage", defArgs s_law_least_stage, defBody s_law_least_stage, defScope s_law_least_stage, [], []⟩
def d_law_heard : He.DefD := ⟨("_law_heard", none), "_law_heard", "_law_heard", defArgs s_law_heard, defBody s_law_heard, defScope s_law_heard, [], []⟩
def d_law_are_many_right : He.DefD := ⟨("_law_are_many_right", none), "_law_are_many_right", "_law_are_many_right", defArgs s_law_are_many_right, defBody s_law_are_many_right, defScope s_law_are_many_right, [], []⟩
def d_law : He.DefD := ⟨("law", none), "law", "law", defArgs s_law, defBody s_law, defScope s_law, [], []⟩
def cinit (c : Stmt) : Stmt := match c with
  | .ClassDef _ _ _ b _ _ _ _ _ _ _ => b.getD 0 (.Pass ⟨0, 0, 0, 0⟩)
  | _ => .Pass ⟨0, 0, 0, 0⟩
def s_TooMany : Stmt := cinit (top 4)
def d_TooMany : He.DefD := ⟨("TooMany", some "__init__"), "__init__", "TooMany.__init__", defArgs s_TooMany, defBody s_TooMany, defScope s_TooMany, [], []⟩
def fn0 : List He.DefD := [d_fraction, d_times, d_over, d_size_of, d_compare, d_greatest, d_greatest_by, d_stage_bound, d_power, d_stages_for, d_law_bag, d_law_take, d_law_some, d_law_mixed, d_law_alike, d_law_gcd, d_law_f, d_law_by, d_law_below, d_law_size]
def fn1 : List He.DefD := [d_law_some_fraction, d_law_over, d_law_power, d_law_greatest, d_law_bounds, d_law_least_stage, d_law_heard, d_law_are_many_right, d_law, d_TooMany]
def fn : List He.DefD := fn0 ++ fn1
def fa0 : List He.Fa := [.glo "fraction", .glo "times", .glo "over", .glo "size_of", .glo "compare", .glo "greatest", .glo "greatest_by", .glo "stage_bound", .glo "power", .glo "stages_for", .glo "_law_bag", .glo "_law_take", .glo "_law_some", .glo "_law_mixed", .glo "_law_alike", .glo "_law_gcd", .glo "_law_f", .glo "_law_by", .glo "_law_below", .glo "_law_size"]
def fa1 : List He.Fa := [.glo "_law_some_fraction", .glo "_law_over", .glo "_law_power", .glo "_law_greatest", .glo "_law_bounds", .glo "_law_least_stage", .glo "_law_heard", .glo "_law_are_many_right", .glo "law", .glo "LateError", .glo "NoQuotient", .glo "TooMany", .free "len", .free "tuple", .free "list", .free "range", .free "enumerate", .free "zip", .free "sum", .free "max"]
def fa2 : List He.Fa := [.free "min", .free "abs", .free "int", .free "sorted", .free "repr", .free "ValueError", .int "MOST_STAGES" 400, .noat "TooMany" "most", .exm "TooMany" "TooMany" true, .keep "fraction", .keep "times", .keep "over", .keep "size_of", .keep "compare", .keep "greatest", .keep "greatest_by", .keep "stage_bound", .keep "power", .keep "stages_for", .keep "_law_bag"]
def fa3 : List He.Fa := [.keep "_law_take", .keep "_law_some", .keep "_law_mixed", .keep "_law_alike", .keep "_law_gcd", .keep "_law_f", .keep "_law_by", .keep "_law_below", .keep "_law_size", .keep "_law_some_fraction", .keep "_law_over", .keep "_law_power", .keep "_law_greatest", .keep "_law_bounds", .keep "_law_least_stage", .keep "_law_heard", .keep "_law_are_many_right", .keep "law"]
def fa : List He.Fa := fa0 ++ fa1 ++ fa2 ++ fa3
def tf : List He.Defn := [("stage_bound", none), ("_law_are_many_right", none), ("law", none)]
def loose0 : List Str := ["__name__", "MOST_STAGES", "LateError", "NoQuotient", "TooMany", "fraction", "times", "over", "size_of", "compare", "greatest", "greatest_by", "stage_bound", "power", "stages_for", "_law_bag", "_law_take", "_law_some", "_law_mixed", "_law_alike"]
def loose1 : List Str := ["_law_gcd", "_law_f", "_law_by", "_law_below", "_law_size", "_law_some_fraction", "_law_over", "_law_power", "_law_greatest", "_law_bounds", "_law_least_stage", "_law_heard", "_law_are_many_right"]
def loose : List Str := loose0 ++ loose1
/-- an own class of exceptions, one field laid down by its own __init__ -/
def oexB (K : PySem.W.Frag) (C : Addr) : Bool := match K.lookup C with
  | some ⟨.type "type", _, .cls cd, sl⟩ => (match cd.mro, sl.toList with
    | .ref C' :: bm, [_, _, _, _, some (.builtin n), _] => decide (C' = C) && (decide (n = "ValueError.__new__") && (!cd.hasDel && (cd.hasDict && PySem.HandSPX.refsVE bm)))
    | _, _ => false)
  | _ => false
def ownB (K : PySem.W.Frag) (C : Addr) : Bool := oexB K C && (decide (PySem.W.findIn K (.ref C) "__setattr__" = some (some (.builtin "object.__setattr__"))) && (decide (PySem.W.subIn K (.ref C) (.type "BaseException") = some true) &&
  (decide (PySem.W.typeIn K (.ref C) = some (.type "type")) && (PySem.W.keepIn K (.ref C) && (xfB K C && (decide (PySem.W.findIn K (.ref C) "__init__" = some (some (.ref (He.ma K C "__init__")))) &&
  decide (PySem.W.typeIn K (.ref (He.ma K C "__init__")) = some (.type "function"))))))))
def ownEx (K : PySem.W.Frag) : Bool := (["TooMany"].all fun x => ownB K (He.ga K x)) && (decide (PySem.W.nsIn K mainGlobals "gcd" = some (some (.builtin "math.gcd"))) && decide ((tf.map fun p => (He.cT K p).2).Nodup))
abbrev R : PySem.W.OpenRow := PySem.W.OpenLaw.row lawR
abbrev qv : Program := PySem.W.view R.prog [0, 38]
abbrev hk : PySem.W.Hook := He.hookX 6 fa fn [] tf (ownEx)
def ob (s : PySem.W.SharedT) : He.AlX := He.obsX 6 fa fn [] tf (ownEx) (HandSHeadRun.getT s)
theorem ob_eq (s : PySem.W.SharedT) : ob s = hk.obs s.abs := He.obsX_eq (HandSHeadRun.getT_eq s)
theorem run (w : World) : HandSHeadRun.RunEqI R qv hk ob 4000 loose w := by
  unfold HandSHeadRun.RunEqI
  kernel_rfl
end Hk36

set_option Elab.async false
set_option linter.all false
set_option maxRecDepth 100000
set_option maxHeartbeats 1000000
/-! That they do it. -/
namespace K36
open PySem PySem.Spec PyProof.Rows L2 Zk Zg Za Hk36 LamX Zt
theorem sc_fraction : FnScope N_fraction ["num", "den"] (defScope s_fraction) := ⟨rfl, rfl, rfl, nd_fraction, rfl, by decide +kernel, by decide +kernel⟩
theorem rd_fraction {P : Program} {w : World} {K : PySem.W.Frag} {mg : Str → Option Value} {base : Heap} {f : Addr} {cdv : Value} {A : Around} {outer : List Env} {s : Shared} {H : Hp} {E : XK} {T : TabSet} {μ₀ : List Addr} {H₀ : Hp} (B : Bl mg)
    (hr : RoomG 0 (cxL P w K mg base N_fraction "fraction" (defScope s_fraction) f cdv A outer s H E).A) :
    PPSs T μ₀ H₀ (cxL P w K mg base N_fraction "fraction" (defScope s_fraction) f cdv A outer s H E) (defBody s_fraction) (t_fraction) :=
  (css_cons (cs_if (t_eq hr.room.units (c_var 1) c_int) (css_one cs_never) css_nil)
    (css_cons (cs_set 2 nd_fraction rfl (by first | exact Or.inl rfl | exact Or.inr rfl) (k_gcd B (by rfl) (ca_cons (c_var 0) (ca_cons (c_var 1) ca_nil))))
    (css_cons (cs_if (t_lt (c_var 1) c_int) (css_one (cs_set 2 nd_fraction rfl (by first | exact Or.inl rfl | exact Or.inr rfl) (c_neg (c_var 2)))) css_nil)
    (css_one (cs_ret (c_tup (ca_cons (c_fdiv (c_var 0) (c_var 2)) (ca_cons (c_fdiv (c_var 1) (c_var 2)) ca_nil))))))))

theorem sc_times : FnScope N_times ["one", "other"] (defScope s_times) := ⟨rfl, rfl, rfl, nd_times, rfl, by decide +kernel, by decide +kernel⟩
theorem rd_times {P : Program} {w : World} {K : PySem.W.Frag} {mg : Str → Option Value} {base : Heap} {f : Addr} {cdv : Value} {A : Around} {outer : List Env} {s : Shared} {H : Hp} {E : XK} {T : TabSet} {μ₀ : List Addr} {H₀ : Hp} (B : Bl mg)
    (hr : RoomG 0 (cxL P w K mg base N_times "times" (defScope s_times) f cdv A outer s H E).A) :
    PPSs T μ₀ H₀ (cxL P w K mg base N_times "times" (defScope s_times) f cdv A outer s H E) (defBody s_times) (t_times) :=
  (css_cons (cs_set 2 nd_times rfl (by first | exact Or.inl rfl | exact Or.inr rfl) (k_gcd B (by rfl) (ca_cons (c_ix (c_var 0) c_int) (ca_cons (c_ix (c_var 1) c_int) ca_nil))))
    (css_cons (cs_set 3 nd_times rfl (by first | exact Or.inl rfl | exact Or.inr rfl) (k_gcd B (by rfl) (ca_cons (c_ix (c_var 1) c_int) (ca_cons (c_ix (c_var 0) c_int) ca_nil))))
    (css_one (cs_ret (c_tup (ca_cons (c_mul (c_fdiv (c_ix (c_var 0) c_int) (c_var 2)) (c_fdiv (c_ix (c_var 1) c_int) (c_var 3))) (ca_cons (c_mul (c_fdiv (c_ix (c_var 0) c_int) (c_var 3)) (c_fdiv (c_ix (c_var 1) c_int) (c_var 2))) ca_nil)))))))

theorem sc_over : FnScope N_over ["one", "other"] (defScope s_over) := ⟨rfl, rfl, rfl, nd_over, rfl, by decide +kernel, by decide +kernel⟩
theorem rd_over {P : Program} {w : World} {K : PySem.W.Frag} {mg : Str → Option Value} {base : Heap} {f : Addr} {cdv : Value} {A : Around} {outer : List Env} {s : Shared} {H : Hp} {E : XK} {T : TabSet} {μ₀ : List Addr} {H₀ : Hp} (B : Bl mg) (C_fraction : Cal P w K mg base T 1 "fraction" sp_fraction)
    (hr : RoomG 1 (cxL P w K mg base N_over "over" (defScope s_over) f cdv A outer s H E).A) :
    PPSs T μ₀ H₀ (cxL P w K mg base N_over "over" (defScope s_over) f cdv A outer s H E) (defBody s_over) (t_over) :=
  (css_one (cs_ret (k_def PXno C_fraction hr (by decide) (by rfl) passNo (ca_cons (c_mul (c_ix (c_var 0) c_int) (c_ix (c_var 1) c_int)) (ca_cons (c_mul (c_ix (c_var 0) c_int) (c_ix (c_var 1) c_int)) ca_nil)))))

theorem sc_size_of : FnScope N_size_of ["one"] (defScope s_size_of) := ⟨rfl, rfl, rfl, nd_size_of, rfl, by decide +kernel, by decide +kernel⟩
theorem rd_size_of {P : Program} {w : World} {K : PySem.W.Frag} {mg : Str → Option Value} {base : Heap} {f : Addr} {cdv : Value} {A : Around} {outer : List Env} {s : Shared} {H : Hp} {E : XK} {T : TabSet} {μ₀ : List Addr} {H₀ : Hp} (B : Bl mg)
    (hr : RoomG 0 (cxL P w K mg base N_size_of "size_of" (defScope s_size_of) f cdv A outer s H E).A) :
    PPSs T μ₀ H₀ (cxL P w K mg base N_size_of "size_of" (defScope s_size_of) f cdv A outer s H E) (defBody s_size_of) (t_size_of) :=
  (css_one (cs_ret (c_tup (ca_cons (k_abs B (by rfl) (ca_cons (c_ix (c_var 0) c_int) ca_nil)) (ca_cons (c_ix (c_var 0) c_int) ca_nil)))))

theorem sc_compare : FnScope N_compare ["one", "other"] (defScope s_compare) := ⟨rfl, rfl, rfl, nd_compare, rfl, by decide +kernel, by decide +kernel⟩
theorem rd_compare {P : Program} {w : World} {K : PySem.W.Frag} {mg : Str → Option Value} {base : Heap} {f : Addr} {cdv : Value} {A : Around} {outer : List Env} {s : Shared} {H : Hp} {E : XK} {T : TabSet} {μ₀ : List Addr} {H₀ : Hp} (B : Bl mg)
    (hr : RoomG 0 (cxL P w K mg base N_compare "compare" (defScope s_compare) f cdv A outer s H E).A) :
    PPSs T μ₀ H₀ (cxL P w K mg base N_compare "compare" (defScope s_compare) f cdv A outer s H E) (defBody s_compare) (t_compare) :=
  (css_cons (cs_set 2 nd_compare rfl (by first | exact Or.inl rfl | exact Or.inr rfl) (c_mul (c_ix (c_var 0) c_int) (c_ix (c_var 1) c_int)))
    (css_cons (cs_set 3 nd_compare rfl (by first | exact Or.inl rfl | exact Or.inr rfl) (c_mul (c_ix (c_var 1) c_int) (c_ix (c_var 0) c_int)))
    (css_cons (cs_if (t_eq hr.room.units (c_var 2) (c_var 3)) (css_one (cs_ret c_int)) css_nil)
    (css_one (cs_ret (c_if (t_lt (c_var 2) (c_var 3)) (c_neg c_int) c_int))))))

theorem sc_greatest : FnScope N_greatest ["some"] (defScope s_greatest) := ⟨rfl, rfl, rfl, nd_greatest, rfl, by decide +kernel, by decide +kernel⟩
theorem rd_greatest {P : Program} {w : World} {K : PySem.W.Frag} {mg : Str → Option Value} {base : Heap} {f : Addr} {cdv : Value} {A : Around} {outer : List Env} {s : Shared} {H : Hp} {E : XK} {T : TabSet} {μ₀ : List Addr} {H₀ : Hp} (B : Bl mg) (C_compare : Cal P w K mg base T 1 "compare" sp_compare)
    (hr : RoomG 1 (cxL P w K mg base N_greatest "greatest" (defScope s_greatest) f cdv A outer s H E).A) :
    PPSs T μ₀ H₀ (cxL P w K mg base N_greatest "greatest" (defScope s_greatest) f cdv A outer s H E) (defBody s_greatest) (t_greatest) :=
  (css_cons (cs_set 1 nd_greatest rfl (by first | exact Or.inl rfl | exact Or.inr rfl) (c_ix (c_var 0) c_int))
    (css_cons (cs_for [2] own_cx rfl (ci_seq (c_var 0)) (cg_name 2 nd_greatest rfl (by first | exact Or.inl rfl | exact Or.inr rfl) (by decide)) (css_one (cs_if (t_gt (k_def PXno C_compare hr (by decide) (by rfl) passNo (ca_cons (c_var 2) (ca_cons (c_var 1) ca_nil))) c_int) (css_one (cs_set 1 nd_greatest rfl (by first | exact Or.inl rfl | exact Or.inr rfl) (c_var 2))) css_nil)))
    (css_one (cs_ret (c_var 1)))))

theorem sc_greatest_by : FnScope N_greatest_by ["weights", "pairs"] (defScope s_greatest_by) := ⟨rfl, rfl, rfl, nd_greatest_by, rfl, by decide +kernel, by decide +kernel⟩
theorem rd_greatest_by {P : Program} {w : World} {K : PySem.W.Frag} {mg : Str → Option Value} {base : Heap} {f : Addr} {cdv : Value} {A : Around} {outer : List Env} {s : Shared} {H : Hp} {E : XK} {T : TabSet} {μ₀ : List Addr} {H₀ : Hp} (B : Bl mg) (C_size_of : Cal P w K mg base T 1 "size_of" sp_size_of) (C_over : Cal P w K mg base T 2 "over" sp_over) (C_greatest : Cal P w K mg base T 2 "greatest" sp_greatest)
    (hr : RoomG 2 (cxL P w K mg base N_greatest_by "greatest_by" (defScope s_greatest_by) f cdv A outer s H E).A) :
    PPSs T μ₀ H₀ (cxL P w K mg base N_greatest_by "greatest_by" (defScope s_greatest_by) f cdv A outer s H E) (defBody s_greatest_by) (t_greatest_by) :=
  (css_cons (cs_set 2 nd_greatest_by rfl (by first | exact Or.inl rfl | exact Or.inr rfl) (c_lst ca_nil))
    (css_cons (cs_for [3, 4] own_cx rfl (ci_zip (by rfl) B.zip (ca_cons (c_var 0) (ca_cons (c_var 1) ca_nil))) (cg_tup rfl (cgs_cons (cg_name 3 nd_greatest_by rfl (by first | exact Or.inl rfl | exact Or.inr rfl) (by decide)) (cgs_cons (cg_name 4 nd_greatest_by rfl (by first | exact Or.inl rfl | exact Or.inr rfl) (by decide)) cgs_nil))) (css_one (cs_expr (k_extend (c_var 2) (ca_cons (c_lc rfl nd_greatest_by (ci_seq (c_var 4)) (own := [("value", 5)]) (show BlkOk N_greatest_by (defScope s_greatest_by) _ _ from ⟨rfl, by decide +kernel, by decide +kernel, by decide +kernel, by decide +kernel⟩) (fun _ _ _ _ _ => (cg_name 5 nd_greatest_by rfl (by first | exact Or.inl rfl | exact Or.inr rfl) (by decide))) (fun _ _ _ _ _ => cts_nil) (fun _ _ _ _ _ => (k_def PXno C_over hr (by decide) (by rfl) passNo (ca_cons (k_def PXno C_size_of hr (by decide) (by rfl) passNo (ca_cons (c_var 5) ca_nil)) (ca_cons (c_var 3) ca_nil))))) ca_nil)))))
    (css_one (cs_ret (k_def PXno C_greatest hr (by decide) (by rfl) passNo (ca_cons (c_var 2) ca_nil))))))

theorem sc_stage_bound : FnScope N_stage_bound ["weights", "t", "distances", "stage"] (defScope s_stage_bound) := ⟨rfl, rfl, rfl, nd_stage_bound, rfl, by decide +kernel, by decide +kernel⟩
theorem rd_stage_bound {P : Program} {w : World} {K : PySem.W.Frag} {mg : Str → Option Value} {base : Heap} {f : Addr} {cdv : Value} {A : Around} {outer : List Env} {s : Shared} {H : Hp} {E : XK} {T : TabSet} {μ₀ : List Addr} {H₀ : Hp} (B : Bl mg) (C_power : Cal P w K mg base T 5 "power" sp_power) (C_greatest_by : Cal P w K mg base T 3 "greatest_by" sp_greatest_by) (C_times : Cal P w K mg base T 1 "times" sp_times) (hP : (He.cT K ("stage_bound", none)).2 ∈ T.gen) (TB : GxR.TabB base mg (He.cT K ("stage_bound", none)).1 (He.cT K ("stage_bound", none)).2) (hcd : cdv = .ref (He.codeOf K ("stage_bound", none)))
    (hr : RoomG 7 (cxL P w K mg base N_stage_bound "stage_bound" (defScope s_stage_bound) f cdv A outer s H E).A) :
    PPSs T μ₀ H₀ (cxL P w K mg base N_stage_bound "stage_bound" (defScope s_stage_bound) f cdv A outer s H E) (defBody s_stage_bound) (t_stage_bound) :=
  (css_cons (cs_set 4 nd_stage_bound rfl (by first | exact Or.inl rfl | exact Or.inr rfl) (k_def PXno C_times hr (by decide) (by rfl) passNo (ca_cons (c_tup (ca_cons (k_def PXno C_power hr (by decide) (by rfl) passNo (ca_cons (c_ix (c_var 1) c_int) (ca_cons (c_var 3) ca_nil))) (ca_cons (k_def PXno C_power hr (by decide) (by rfl) passNo (ca_cons (c_ix (c_var 1) c_int) (ca_cons (c_var 3) ca_nil))) ca_nil))) (ca_cons (k_def PXno C_greatest_by hr (by decide) (by rfl) passNo (ca_cons (c_var 0) (ca_cons (c_var 2) ca_nil))) ca_nil))))
    (css_one (cs_ret (c_tupG (own := [("weight", 5)]) (k := 5) hP hr.room (by rfl) B.tuple ⟨TB, hcd, (show BlkOk N_stage_bound (defScope s_stage_bound) _ _ from ⟨rfl, by decide +kernel, by decide +kernel, by decide +kernel, by decide +kernel⟩), by decide +kernel, rfl, rfl, nd_stage_bound⟩ (ci_seq (c_var 0)) (fun _ _ _ _ _ _ hr' hgd => (cg_name 5 nd_stage_bound rfl (by first | exact Or.inl rfl | exact Or.inr rfl) (by decide))) (fun _ _ _ _ _ _ hr' hgd => cts_nil) (fun _ _ _ _ _ _ hr' hgd => (k_def PXno C_times (RoomG.mk hr' (hgd.trans hr.gd)) (by decide) (by rfl) passNo (ca_cons (c_var 4) (ca_cons (c_var 5) ca_nil))))))))

theorem sc_power : FnScope N_power ["one", "many"] (defScope s_power) := ⟨rfl, rfl, rfl, nd_power, rfl, by decide +kernel, by decide +kernel⟩
theorem rd_power {P : Program} {w : World} {K : PySem.W.Frag} {mg : Str → Option Value} {base : Heap} {f : Addr} {cdv : Value} {A : Around} {outer : List Env} {s : Shared} {H : Hp} {E : XK} {T : TabSet} {μ₀ : List Addr} {H₀ : Hp} (B : Bl mg) {kr : Nat} {sp_rec : PSp} (C_power : Cal P w K mg base T kr "power" sp_rec)
    (hr : RoomG kr (cxL P w K mg base N_power "power" (defScope s_power) f cdv A outer s H E).A) :
    PPSs T μ₀ H₀ (cxL P w K mg base N_power "power" (defScope s_power) f cdv A outer s H E) (defBody s_power) (t_power sp_rec) :=
  (css_cons (cs_if (t_eq hr.room.units (c_var 1) c_int) (css_one (cs_ret c_int)) css_nil)
    (css_cons (cs_set 2 nd_power rfl (by first | exact Or.inl rfl | exact Or.inr rfl) (k_def PXno C_power hr (Nat.le_refl _) (by rfl) passNo (ca_cons (c_var 0) (ca_cons (c_fdiv (c_var 1) c_int) ca_nil))))
    (css_one (cs_ret (c_if (t_eq hr.room.units (c_mod (c_var 1) c_int) c_int) (c_mul (c_mul (c_var 2) (c_var 2)) (c_var 0)) (c_mul (c_var 2) (c_var 2)))))))

theorem sc_stages_for : FnScope N_stages_for ["weights", "t", "distances", "nearness"] (defScope s_stages_for) := ⟨rfl, rfl, rfl, nd_stages_for, rfl, by decide +kernel, by decide +kernel⟩
theorem rd_stages_for {P : Program} {w : World} {K : PySem.W.Frag} {mg : Str → Option Value} {base : Heap} {f : Addr} {cdv : Value} {A : Around} {outer : List Env} {s : Shared} {H : Hp} {E : XK} {T : TabSet} {μ₀ : List Addr} {H₀ : Hp} (B : Bl mg) {c_TooMany : Addr} (EC_TooMany : ExcC P w K mg base 1 "TooMany" "most" c_TooMany) (C_greatest : Cal P w K mg base T 2 "greatest" sp_greatest) (C_greatest_by : Cal P w K mg base T 3 "greatest_by" sp_greatest_by) (C_times : Cal P w K mg base T 1 "times" sp_times) (C_compare : Cal P w K mg base T 1 "compare" sp_compare) (CI_MOST_STAGES : ∃ t, mg "MOST_STAGES" = some (.int 400 t)) (px : PXK) (hE : ∀ cls d H', EmbX K mg T μ₀ H₀ px cls d H' → E cls d H')
    (hr : RoomG 5 (cxL P w K mg base N_stages_for "stages_for" (defScope s_stages_for) f cdv A outer s H E).A) :
    PPSs T μ₀ H₀ (cxL P w K mg base N_stages_for "stages_for" (defScope s_stages_for) f cdv A outer s H E) (defBody s_stages_for) (t_stages_for px c_TooMany) :=
  (css_cons (cs_set 4 nd_stages_for rfl (by first | exact Or.inl rfl | exact Or.inr rfl) (k_def PXno C_times hr (by decide) (by rfl) passNo (ca_cons (k_def PXno C_greatest hr (by decide) (by rfl) passNo (ca_cons (c_var 0) ca_nil)) (ca_cons (k_def PXno C_greatest_by hr (by decide) (by rfl) passNo (ca_cons (c_var 0) (ca_cons (c_var 2) ca_nil))) ca_nil))))
    (css_cons (cs_for [5] own_cx rfl (ci_rng2 (by rfl) B.range (ca_cons c_int (ca_cons (c_add (c_glo (by rfl) CI_MOST_STAGES) c_int) ca_nil))) (cg_name 5 nd_stages_for rfl (by first | exact Or.inl rfl | exact Or.inr rfl) (by decide)) (css_cons (cs_set 4 nd_stages_for rfl (by first | exact Or.inl rfl | exact Or.inr rfl) (k_def PXno C_times hr (by decide) (by rfl) passNo (ca_cons (c_var 4) (ca_cons (c_var 1) ca_nil))))
    (css_one (cs_if (t_le (k_def PXno C_compare hr (by decide) (by rfl) passNo (ca_cons (c_var 4) (ca_cons (c_var 3) ca_nil))) c_int) (css_one (cs_ret (c_var 5))) css_nil))))
    (css_one (cs_raise px hE EC_TooMany (hr.room.mono (by decide)) (by rfl) (c_glo (by rfl) CI_MOST_STAGES)))))

theorem sc_law_bag : FnScope N_law_bag ["_law_script"] (defScope s_law_bag) := ⟨rfl, rfl, rfl, nd_law_bag, rfl, by decide +kernel, by decide +kernel⟩
theorem rd_law_bag {P : Program} {w : World} {K : PySem.W.Frag} {mg : Str → Option Value} {base : Heap} {f : Addr} {cdv : Value} {A : Around} {outer : List Env} {s : Shared} {H : Hp} {E : XK} {T : TabSet} {μ₀ : List Addr} {H₀ : Hp} (B : Bl mg)
    (hr : RoomG 0 (cxL P w K mg base N_law_bag "_law_bag" (defScope s_law_bag) f cdv A outer s H E).A) :
    PPSs T μ₀ H₀ (cxL P w K mg base N_law_bag "_law_bag" (defScope s_law_bag) f cdv A outer s H E) (defBody s_law_bag) (t_law_bag) :=
  (css_one (cs_ret (c_lst (ca_cons c_int (ca_cons c_int (ca_cons c_int (ca_cons (c_lc rfl nd_law_bag (ci_seq (c_cut (c_var 0) co_none (co_some c_int))) (own := [("_law_cell", 1)]) (show BlkOk N_law_bag (defScope s_law_bag) _ _ from ⟨rfl, by decide +kernel, by decide +kernel, by decide +kernel, by decide +kernel⟩) (fun _ _ _ _ _ => (cg_name 1 nd_law_bag rfl (by first | exact Or.inl rfl | exact Or.inr rfl) (by decide))) (fun _ _ _ _ _ => cts_nil) (fun _ _ _ _ _ => (k_abs B (by rfl) (ca_cons (c_var 1) ca_nil)))) ca_nil)))))))

theorem sc_law_take : FnScope N_law_take ["_law_bag_here", "_law_many"] (defScope s_law_take) := ⟨rfl, rfl, rfl, nd_law_take, rfl, by decide +kernel, by decide +kernel⟩
theorem rd_law_take {P : Program} {w : World} {K : PySem.W.Frag} {mg : Str → Option Value} {base : Heap} {f : Addr} {cdv : Value} {A : Around} {outer : List Env} {s : Shared} {H : Hp} {E : XK} {T : TabSet} {μ₀ : List Addr} {H₀ : Hp} (B : Bl mg)
    (hr : RoomG 0 (cxL P w K mg base N_law_take "_law_take" (defScope s_law_take) f cdv A outer s H E).A) :
    PPSs T μ₀ H₀ (cxL P w K mg base N_law_take "_law_take" (defScope s_law_take) f cdv A outer s H E) (defBody s_law_take) (t_law_take) :=
  (css_cons (cs_if (t_eq hr.room.units (c_ix (c_var 0) c_int) c_int) (css_cons (cs_set 4 nd_law_take rfl (by first | exact Or.inl rfl | exact Or.inr rfl) (c_ix (c_add (c_cut (c_ix (c_var 0) c_int) (co_some (c_ix (c_var 0) c_int)) co_none) (c_lst (ca_cons c_int ca_nil))) c_int))
    (css_cons (cs_augS (c_var 0) c_int c_int)
    (css_cons (cs_if (t_ge (c_var 4) (c_pow c_int c_int)) (css_one (cs_asg [] (c_var 4) (cg_sub (c_var 0) c_int))) css_nil)
    (css_cons (cs_set 5 nd_law_take rfl (by first | exact Or.inl rfl | exact Or.inr rfl) (c_add (c_add (c_mul (c_ix (c_var 0) c_int) c_int) (c_mod (k_int B (by rfl) (ca_cons (c_var 4) ca_nil)) c_int)) (c_mul c_int (c_ix (c_var 0) c_int))))
    (css_one (cs_asg [] (c_mod (k_int B (by rfl) (ca_cons (c_var 5) ca_nil)) c_int) (cg_sub (c_var 0) c_int))))))) css_nil)
    (css_cons (cs_if (t_gt (c_ix (c_var 0) c_int) c_int) (css_cons (cs_set 6 nd_law_take rfl (by first | exact Or.inl rfl | exact Or.inr rfl) (c_mod (k_int B (by rfl) (ca_cons (c_ix (c_var 0) c_int) ca_nil)) (c_var 1)))
    (css_cons (cs_asg [] (c_fdiv (k_int B (by rfl) (ca_cons (c_ix (c_var 0) c_int) ca_nil)) (c_var 1)) (cg_sub (c_var 0) c_int))
    (css_one (cs_ret (c_var 6))))) css_nil)
    (css_cons (cs_set 2 nd_law_take rfl (by first | exact Or.inl rfl | exact Or.inr rfl) (c_mod (k_int B (by rfl) (ca_cons (c_mul (c_add (c_ix (c_var 0) c_int) c_int) c_int) ca_nil)) c_int))
    (css_cons (cs_set 3 nd_law_take rfl (by first | exact Or.inl rfl | exact Or.inr rfl) (c_mod (k_int B (by rfl) (ca_cons (c_mul (c_mod (k_int B (by rfl) (ca_cons (c_mul (c_var 2) (c_var 2)) ca_nil)) c_int) c_int) ca_nil)) c_int))
    (css_one (cs_ret (c_mod (k_int B (by rfl) (ca_cons (c_fdiv (c_var 3) c_int) ca_nil)) (c_var 1))))))))

theorem sc_law_some : FnScope N_law_some ["_law_bag_here", "_law_things"] (defScope s_law_some) := ⟨rfl, rfl, rfl, nd_law_some, rfl, by decide +kernel, by decide +kernel⟩
theorem rd_law_some {P : Program} {w : World} {K : PySem.W.Frag} {mg : Str → Option Value} {base : Heap} {f : Addr} {cdv : Value} {A : Around} {outer : List Env} {s : Shared} {H : Hp} {E : XK} {T : TabSet} {μ₀ : List Addr} {H₀ : Hp} (B : Bl mg) (C_law_take : Cal P w K mg base T 1 "_law_take" sp_law_take)
    (hr : RoomG 1 (cxL P w K mg base N_law_some "_law_some" (defScope s_law_some) f cdv A outer s H E).A) :
    PPSs T μ₀ H₀ (cxL P w K mg base N_law_some "_law_some" (defScope s_law_some) f cdv A outer s H E) (defBody s_law_some) (t_law_some) :=
  (css_one (cs_ret (c_ix (c_var 1) (k_def PXno C_law_take hr (by decide) (by rfl) passNo (ca_cons (c_var 0) (ca_cons (k_len B (by rfl) (ca_cons (c_var 1) ca_nil)) ca_nil))))))

theorem sc_law_mixed : FnScope N_law_mixed ["_law_bag_here", "_law_things"] (defScope s_law_mixed) := ⟨rfl, rfl, rfl, nd_law_mixed, rfl, by decide +kernel, by decide +kernel⟩
theorem rd_law_mixed {P : Program} {w : World} {K : PySem.W.Frag} {mg : Str → Option Value} {base : Heap} {f : Addr} {cdv : Value} {A : Around} {outer : List Env} {s : Shared} {H : Hp} {E : XK} {T : TabSet} {μ₀ : List Addr} {H₀ : Hp} (B : Bl mg) (C_law_take : Cal P w K mg base T 1 "_law_take" sp_law_take)
    (hr : RoomG 1 (cxL P w K mg base N_law_mixed "_law_mixed" (defScope s_law_mixed) f cdv A outer s H E).A) :
    PPSs T μ₀ H₀ (cxL P w K mg base N_law_mixed "_law_mixed" (defScope s_law_mixed) f cdv A outer s H E) (defBody s_law_mixed) (t_law_mixed) :=
  (css_cons (cs_set 2 nd_law_mixed rfl (by first | exact Or.inl rfl | exact Or.inr rfl) (c_lst ca_nil))
    (css_cons (cs_for [3] own_cx rfl (ci_seq (c_var 1)) (cg_name 3 nd_law_mixed rfl (by first | exact Or.inl rfl | exact Or.inr rfl) (by decide)) (css_one (cs_expr (k_insert (c_var 2) (ca_cons (k_def PXno C_law_take hr (by decide) (by rfl) passNo (ca_cons (c_var 0) (ca_cons (c_add (k_len B (by rfl) (ca_cons (c_var 2) ca_nil)) c_int) ca_nil))) (ca_cons (c_var 3) ca_nil))))))
    (css_one (cs_ret (c_var 2)))))

theorem sc_law_alike : FnScope N_law_alike ["_law_found", "_law_due"] (defScope s_law_alike) := ⟨rfl, rfl, rfl, nd_law_alike, rfl, by decide +kernel, by decide +kernel⟩
theorem rd_law_alike {P : Program} {w : World} {K : PySem.W.Frag} {mg : Str → Option Value} {base : Heap} {f : Addr} {cdv : Value} {A : Around} {outer : List Env} {s : Shared} {H : Hp} {E : XK} {T : TabSet} {μ₀ : List Addr} {H₀ : Hp} (B : Bl mg)
    (hr : RoomG 0 (cxL P w K mg base N_law_alike "_law_alike" (defScope s_law_alike) f cdv A outer s H E).A) :
    PPSs T μ₀ H₀ (cxL P w K mg base N_law_alike "_law_alike" (defScope s_law_alike) f cdv A outer s H E) (defBody s_law_alike) (t_law_alike) :=
  (css_one (cs_ret (c_and (c_eq hr.room.units (c_var 0) (c_var 1)) (c_one (c_eq hr.room.units (k_repr B hr (by rfl) (ca_cons (c_var 0) ca_nil)) (k_repr B hr (by rfl) (ca_cons (c_var 1) ca_nil)))))))

theorem sc_law_gcd : FnScope N_law_gcd ["_law_one", "_law_other"] (defScope s_law_gcd) := ⟨rfl, rfl, rfl, nd_law_gcd, rfl, by decide +kernel, by decide +kernel⟩
theorem rd_law_gcd {P : Program} {w : World} {K : PySem.W.Frag} {mg : Str → Option Value} {base : Heap} {f : Addr} {cdv : Value} {A : Around} {outer : List Env} {s : Shared} {H : Hp} {E : XK} {T : TabSet} {μ₀ : List Addr} {H₀ : Hp} (B : Bl mg)
    (hr : RoomG 0 (cxL P w K mg base N_law_gcd "_law_gcd" (defScope s_law_gcd) f cdv A outer s H E).A) :
    PPSs T μ₀ H₀ (cxL P w K mg base N_law_gcd "_law_gcd" (defScope s_law_gcd) f cdv A outer s H E) (defBody s_law_gcd) (t_law_gcd) :=
  (css_cons (cs_par 0 1 rfl nd_law_gcd rfl rfl (by decide) rfl rfl (ca_cons (k_abs B (by rfl) (ca_cons (c_var 0) ca_nil)) (ca_cons (k_abs B (by rfl) (ca_cons (c_var 1) ca_nil)) ca_nil)) rfl)
    (css_cons (cs_while own_cx (t_gt (c_var 1) c_int) (css_one (cs_par 0 1 rfl nd_law_gcd rfl rfl (by decide) rfl rfl (ca_cons (c_var 1) (ca_cons (c_sub (c_var 0) (c_mul (c_fdiv (c_var 0) (c_var 1)) (c_var 1))) ca_nil)) rfl)))
    (css_one (cs_ret (c_var 0)))))

theorem sc_law_f : FnScope N_law_f ["_law_num", "_law_den"] (defScope s_law_f) := ⟨rfl, rfl, rfl, nd_law_f, rfl, by decide +kernel, by decide +kernel⟩
theorem rd_law_f {P : Program} {w : World} {K : PySem.W.Frag} {mg : Str → Option Value} {base : Heap} {f : Addr} {cdv : Value} {A : Around} {outer : List Env} {s : Shared} {H : Hp} {E : XK} {T : TabSet} {μ₀ : List Addr} {H₀ : Hp} (B : Bl mg) (C_law_gcd : Cal P w K mg base T 1 "_law_gcd" sp_law_gcd)
    (hr : RoomG 1 (cxL P w K mg base N_law_f "_law_f" (defScope s_law_f) f cdv A outer s H E).A) :
    PPSs T μ₀ H₀ (cxL P w K mg base N_law_f "_law_f" (defScope s_law_f) f cdv A outer s H E) (defBody s_law_f) (t_law_f) :=
  (css_cons (cs_set 2 nd_law_f rfl (by first | exact Or.inl rfl | exact Or.inr rfl) (c_mul (k_def PXno C_law_gcd hr (by decide) (by rfl) passNo (ca_cons (c_var 0) (ca_cons (c_var 1) ca_nil))) (c_if (t_gt (c_var 1) c_int) c_int (c_neg c_int))))
    (css_one (cs_ret (c_tup (ca_cons (c_fdiv (c_var 0) (c_var 2)) (ca_cons (c_fdiv (c_var 1) (c_var 2)) ca_nil))))))

theorem sc_law_by : FnScope N_law_by ["_law_one", "_law_other"] (defScope s_law_by) := ⟨rfl, rfl, rfl, nd_law_by, rfl, by decide +kernel, by decide +kernel⟩
theorem rd_law_by {P : Program} {w : World} {K : PySem.W.Frag} {mg : Str → Option Value} {base : Heap} {f : Addr} {cdv : Value} {A : Around} {outer : List Env} {s : Shared} {H : Hp} {E : XK} {T : TabSet} {μ₀ : List Addr} {H₀ : Hp} (B : Bl mg) (C_law_f : Cal P w K mg base T 2 "_law_f" sp_law_f)
    (hr : RoomG 2 (cxL P w K mg base N_law_by "_law_by" (defScope s_law_by) f cdv A outer s H E).A) :
    PPSs T μ₀ H₀ (cxL P w K mg base N_law_by "_law_by" (defScope s_law_by) f cdv A outer s H E) (defBody s_law_by) (t_law_by) :=
  (css_one (cs_ret (k_def PXno C_law_f hr (by decide) (by rfl) passNo (ca_cons (c_mul (c_ix (c_var 0) c_int) (c_ix (c_var 1) c_int)) (ca_cons (c_mul (c_ix (c_var 0) c_int) (c_ix (c_var 1) c_int)) ca_nil)))))

theorem sc_law_below : FnScope N_law_below ["_law_one", "_law_other"] (defScope s_law_below) := ⟨rfl, rfl, rfl, nd_law_below, rfl, by decide +kernel, by decide +kernel⟩
theorem rd_law_below {P : Program} {w : World} {K : PySem.W.Frag} {mg : Str → Option Value} {base : Heap} {f : Addr} {cdv : Value} {A : Around} {outer : List Env} {s : Shared} {H : Hp} {E : XK} {T : TabSet} {μ₀ : List Addr} {H₀ : Hp} (B : Bl mg)
    (hr : RoomG 0 (cxL P w K mg base N_law_below "_law_below" (defScope s_law_below) f cdv A outer s H E).A) :
    PPSs T μ₀ H₀ (cxL P w K mg base N_law_below "_law_below" (defScope s_law_below) f cdv A outer s H E) (defBody s_law_below) (t_law_below) :=
  (css_one (cs_ret (c_lt (c_mul (c_ix (c_var 0) c_int) (c_ix (c_var 1) c_int)) (c_mul (c_ix (c_var 1) c_int) (c_ix (c_var 0) c_int)))))

theorem sc_law_size : FnScope N_law_size ["_law_one"] (defScope s_law_size) := ⟨rfl, rfl, rfl, nd_law_size, rfl, by decide +kernel, by decide +kernel⟩
theorem rd_law_size {P : Program} {w : World} {K : PySem.W.Frag} {mg : Str → Option Value} {base : Heap} {f : Addr} {cdv : Value} {A : Around} {outer : List Env} {s : Shared} {H : Hp} {E : XK} {T : TabSet} {μ₀ : List Addr} {H₀ : Hp} (B : Bl mg)
    (hr : RoomG 0 (cxL P w K mg base N_law_size "_law_size" (defScope s_law_size) f cdv A outer s H E).A) :
    PPSs T μ₀ H₀ (cxL P w K mg base N_law_size "_law_size" (defScope s_law_size) f cdv A outer s H E) (defBody s_law_size) (t_law_size) :=
  (css_one (cs_ret (c_tup (ca_cons (k_abs B (by rfl) (ca_cons (c_ix (c_var 0) c_int) ca_nil)) (ca_cons (c_ix (c_var 0) c_int) ca_nil)))))

theorem sc_law_some_fraction : FnScope N_law_some_fraction ["_law_bag_here"] (defScope s_law_some_fraction) := ⟨rfl, rfl, rfl, nd_law_some_fraction, rfl, by decide +kernel, by decide +kernel⟩
theorem rd_law_some_fraction {P : Program} {w : World} {K : PySem.W.Frag} {mg : Str → Option Value} {base : Heap} {f : Addr} {cdv : Value} {A : Around} {outer : List Env} {s : Shared} {H : Hp} {E : XK} {T : TabSet} {μ₀ : List Addr} {H₀ : Hp} (B : Bl mg) (C_law_take : Cal P w K mg base T 1 "_law_take" sp_law_take) (C_law_some : Cal P w K mg base T 2 "_law_some" sp_law_some)
    (hr : RoomG 2 (cxL P w K mg base N_law_some_fraction "_law_some_fraction" (defScope s_law_some_fraction) f cdv A outer s H E).A) :
    PPSs T μ₀ H₀ (cxL P w K mg base N_law_some_fraction "_law_some_fraction" (defScope s_law_some_fraction) f cdv A outer s H E) (defBody s_law_some_fraction) (t_law_some_fraction) :=
  (css_cons (cs_set 1 nd_law_some_fraction rfl (by first | exact Or.inl rfl | exact Or.inr rfl) (c_lst (ca_cons (c_tup (ca_cons c_int (ca_cons c_int ca_nil))) (ca_cons (c_tup (ca_cons c_int (ca_cons c_int ca_nil))) (ca_cons (c_tup (ca_cons (c_neg c_int) (ca_cons c_int ca_nil))) (ca_cons (c_tup (ca_cons c_int (ca_cons c_int ca_nil))) (ca_cons (c_tup (ca_cons (c_neg c_int) (ca_cons c_int ca_nil))) (ca_cons (c_tup (ca_cons c_int (ca_cons c_int ca_nil))) (ca_cons (c_tup (ca_cons c_int (ca_cons c_int ca_nil))) (ca_cons (c_tup (ca_cons (c_neg c_int) (ca_cons c_int ca_nil))) ca_nil))))))))))
    (css_one (cs_ret (k_def PXno C_law_some hr (by decide) (by rfl) passNo (ca_cons (c_var 0) (ca_cons (c_add (c_var 1) (c_lst (ca_cons (c_tup (ca_cons (c_sub (k_def PXno C_law_take hr (by decide) (by rfl) passNo (ca_cons (c_var 0) (ca_cons c_int ca_nil))) c_int) (ca_cons c_int ca_nil))) ca_nil))) ca_nil))))))

theorem sc_law_over : FnScope N_law_over ["_law_one", "_law_other"] (defScope s_law_over) := ⟨rfl, rfl, rfl, nd_law_over, rfl, by decide +kernel, by decide +kernel⟩
theorem rd_law_over {P : Program} {w : World} {K : PySem.W.Frag} {mg : Str → Option Value} {base : Heap} {f : Addr} {cdv : Value} {A : Around} {outer : List Env} {s : Shared} {H : Hp} {E : XK} {T : TabSet} {μ₀ : List Addr} {H₀ : Hp} (B : Bl mg) (C_law_f : Cal P w K mg base T 2 "_law_f" sp_law_f)
    (hr : RoomG 2 (cxL P w K mg base N_law_over "_law_over" (defScope s_law_over) f cdv A outer s H E).A) :
    PPSs T μ₀ H₀ (cxL P w K mg base N_law_over "_law_over" (defScope s_law_over) f cdv A outer s H E) (defBody s_law_over) (t_law_over) :=
  (css_one (cs_ret (k_def PXno C_law_f hr (by decide) (by rfl) passNo (ca_cons (c_mul (c_ix (c_var 0) c_int) (c_ix (c_var 1) c_int)) (ca_cons (c_mul (c_ix (c_var 0) c_int) (c_ix (c_var 1) c_int)) ca_nil)))))

theorem sc_law_power : FnScope N_law_power ["_law_t", "_law_many"] (defScope s_law_power) := ⟨rfl, rfl, rfl, nd_law_power, rfl, by decide +kernel, by decide +kernel⟩
theorem rd_law_power {P : Program} {w : World} {K : PySem.W.Frag} {mg : Str → Option Value} {base : Heap} {f : Addr} {cdv : Value} {A : Around} {outer : List Env} {s : Shared} {H : Hp} {E : XK} {T : TabSet} {μ₀ : List Addr} {H₀ : Hp} (B : Bl mg) (C_law_by : Cal P w K mg base T 3 "_law_by" sp_law_by)
    (hr : RoomG 3 (cxL P w K mg base N_law_power "_law_power" (defScope s_law_power) f cdv A outer s H E).A) :
    PPSs T μ₀ H₀ (cxL P w K mg base N_law_power "_law_power" (defScope s_law_power) f cdv A outer s H E) (defBody s_law_power) (t_law_power) :=
  (css_cons (cs_set 2 nd_law_power rfl (by first | exact Or.inl rfl | exact Or.inr rfl) (c_tup (ca_cons c_int (ca_cons c_int ca_nil))))
    (css_cons (cs_for [3] own_cx rfl (ci_rng1 (by rfl) B.range (ca_cons (c_var 1) ca_nil)) (cg_name 3 nd_law_power rfl (by first | exact Or.inl rfl | exact Or.inr rfl) (by decide)) (css_one (cs_set 2 nd_law_power rfl (by first | exact Or.inl rfl | exact Or.inr rfl) (k_def PXno C_law_by hr (by decide) (by rfl) passNo (ca_cons (c_var 2) (ca_cons (c_var 0) ca_nil))))))
    (css_one (cs_ret (c_var 2)))))

theorem sc_law_greatest : FnScope N_law_greatest ["_law_weights", "_law_pairs"] (defScope s_law_greatest) := ⟨rfl, rfl, rfl, nd_law_greatest, rfl, by decide +kernel, by decide +kernel⟩
theorem rd_law_greatest {P : Program} {w : World} {K : PySem.W.Frag} {mg : Str → Option Value} {base : Heap} {f : Addr} {cdv : Value} {A : Around} {outer : List Env} {s : Shared} {H : Hp} {E : XK} {T : TabSet} {μ₀ : List Addr} {H₀ : Hp} (B : Bl mg) (C_law_size : Cal P w K mg base T 1 "_law_size" sp_law_size) (C_law_over : Cal P w K mg base T 3 "_law_over" sp_law_over) (C_law_below : Cal P w K mg base T 1 "_law_below" sp_law_below)
    (hr : RoomG 3 (cxL P w K mg base N_law_greatest "_law_greatest" (defScope s_law_greatest) f cdv A outer s H E).A) :
    PPSs T μ₀ H₀ (cxL P w K mg base N_law_greatest "_law_greatest" (defScope s_law_greatest) f cdv A outer s H E) (defBody s_law_greatest) (t_law_greatest) :=
  (css_cons (cs_set 2 nd_law_greatest rfl (by first | exact Or.inl rfl | exact Or.inr rfl) (c_tup (ca_cons c_int (ca_cons c_int ca_nil))))
    (css_cons (cs_for [3, 4] own_cx rfl (ci_zip (by rfl) B.zip (ca_cons (c_var 0) (ca_cons (c_var 1) ca_nil))) (cg_tup rfl (cgs_cons (cg_name 3 nd_law_greatest rfl (by first | exact Or.inl rfl | exact Or.inr rfl) (by decide)) (cgs_cons (cg_name 4 nd_law_greatest rfl (by first | exact Or.inl rfl | exact Or.inr rfl) (by decide)) cgs_nil))) (css_one (cs_for [5] own_cx rfl (ci_seq (c_var 4)) (cg_name 5 nd_law_greatest rfl (by first | exact Or.inl rfl | exact Or.inr rfl) (by decide)) (css_cons (cs_set 6 nd_law_greatest rfl (by first | exact Or.inl rfl | exact Or.inr rfl) (k_def PXno C_law_over hr (by decide) (by rfl) passNo (ca_cons (k_def PXno C_law_size hr (by decide) (by rfl) passNo (ca_cons (c_var 5) ca_nil)) (ca_cons (c_var 3) ca_nil))))
    (css_one (cs_set 2 nd_law_greatest rfl (by first | exact Or.inl rfl | exact Or.inr rfl) (c_if (ct_val (k_def PXno C_law_below hr (by decide) (by rfl) passNo (ca_cons (c_var 2) (ca_cons (c_var 6) ca_nil)))) (c_var 6) (c_var 2))))))))
    (css_one (cs_ret (c_var 2)))))

theorem sc_law_bounds : FnScope N_law_bounds ["_law_weights", "_law_t", "_law_pairs", "_law_stage"] (defScope s_law_bounds) := ⟨rfl, rfl, rfl, nd_law_bounds, rfl, by decide +kernel, by decide +kernel⟩
theorem rd_law_bounds {P : Program} {w : World} {K : PySem.W.Frag} {mg : Str → Option Value} {base : Heap} {f : Addr} {cdv : Value} {A : Around} {outer : List Env} {s : Shared} {H : Hp} {E : XK} {T : TabSet} {μ₀ : List Addr} {H₀ : Hp} (B : Bl mg) (C_law_power : Cal P w K mg base T 4 "_law_power" sp_law_power) (C_law_greatest : Cal P w K mg base T 4 "_law_greatest" sp_law_greatest) (C_law_by : Cal P w K mg base T 3 "_law_by" sp_law_by)
    (hr : RoomG 4 (cxL P w K mg base N_law_bounds "_law_bounds" (defScope s_law_bounds) f cdv A outer s H E).A) :
    PPSs T μ₀ H₀ (cxL P w K mg base N_law_bounds "_law_bounds" (defScope s_law_bounds) f cdv A outer s H E) (defBody s_law_bounds) (t_law_bounds) :=
  (css_cons (cs_set 4 nd_law_bounds rfl (by first | exact Or.inl rfl | exact Or.inr rfl) (k_def PXno C_law_by hr (by decide) (by rfl) passNo (ca_cons (k_def PXno C_law_power hr (by decide) (by rfl) passNo (ca_cons (c_var 1) (ca_cons (c_var 3) ca_nil))) (ca_cons (k_def PXno C_law_greatest hr (by decide) (by rfl) passNo (ca_cons (c_var 0) (ca_cons (c_var 2) ca_nil))) ca_nil))))
    (css_one (cs_ret (k_tuple B (by rfl) (ca_cons (c_lc rfl nd_law_bounds (ci_seq (c_var 0)) (own := [("_law_weight", 5)]) (show BlkOk N_law_bounds (defScope s_law_bounds) _ _ from ⟨rfl, by decide +kernel, by decide +kernel, by decide +kernel, by decide +kernel⟩) (fun _ _ _ _ _ => (cg_name 5 nd_law_bounds rfl (by first | exact Or.inl rfl | exact Or.inr rfl) (by decide))) (fun _ _ _ _ _ => cts_nil) (fun _ _ _ _ _ => (k_def PXno C_law_by hr (by decide) (by rfl) passNo (ca_cons (c_var 5) (ca_cons (c_var 4) ca_nil))))) ca_nil)))))

theorem sc_law_least_stage : FnScope N_law_least_stage ["_law_weights", "_law_t", "_law_pairs", "_law_nearness"] (defScope s_law_least_stage) := ⟨rfl, rfl, rfl, nd_law_least_stage, rfl, by decide +kernel, by decide +kernel⟩
theorem rd_law_least_stage {P : Program} {w : World} {K : PySem.W.Frag} {mg : Str → Option Value} {base : Heap} {f : Addr} {cdv : Value} {A : Around} {outer : List Env} {s : Shared} {H : Hp} {E : XK} {T : TabSet} {μ₀ : List Addr} {H₀ : Hp} (B : Bl mg) (C_law_bounds : Cal P w K mg base T 5 "_law_bounds" sp_law_bounds) (C_law_by : Cal P w K mg base T 3 "_law_by" sp_law_by) (C_law_below : Cal P w K mg base T 1 "_law_below" sp_law_below)
    (hr : RoomG 5 (cxL P w K mg base N_law_least_stage "_law_least_stage" (defScope s_law_least_stage) f cdv A outer s H E).A) :
    PPSs T μ₀ H₀ (cxL P w K mg base N_law_least_stage "_law_least_stage" (defScope s_law_least_stage) f cdv A outer s H E) (defBody s_law_least_stage) (t_law_least_stage) :=
  (css_cons (cs_set 4 nd_law_least_stage rfl (by first | exact Or.inl rfl | exact Or.inr rfl) (k_def PXno C_law_bounds hr (by decide) (by rfl) passNo (ca_cons (c_var 0) (ca_cons (c_var 1) (ca_cons (c_var 2) (ca_cons c_int ca_nil))))))
    (css_cons (cs_for [5] own_cx rfl (ci_rng2 (by rfl) B.range (ca_cons c_int (ca_cons c_int ca_nil))) (cg_name 5 nd_law_least_stage rfl (by first | exact Or.inl rfl | exact Or.inr rfl) (by decide)) (css_cons (cs_set 4 nd_law_least_stage rfl (by first | exact Or.inl rfl | exact Or.inr rfl) (k_tuple B (by rfl) (ca_cons (c_lc rfl nd_law_least_stage (ci_seq (c_var 4)) (own := [("_law_one", 6)]) (show BlkOk N_law_least_stage (defScope s_law_least_stage) _ _ from ⟨rfl, by decide +kernel, by decide +kernel, by decide +kernel, by decide +kernel⟩) (fun _ _ _ _ _ => (cg_name 6 nd_law_least_stage rfl (by first | exact Or.inl rfl | exact Or.inr rfl) (by decide))) (fun _ _ _ _ _ => cts_nil) (fun _ _ _ _ _ => (k_def PXno C_law_by hr (by decide) (by rfl) passNo (ca_cons (c_var 6) (ca_cons (c_var 1) ca_nil))))) ca_nil)))
    (css_cons (cs_if (t_eq hr.room.units (c_lc rfl nd_law_least_stage (ci_seq (c_var 4)) (own := [("_law_one", 6)]) (show BlkOk N_law_least_stage (defScope s_law_least_stage) _ _ from ⟨rfl, by decide +kernel, by decide +kernel, by decide +kernel, by decide +kernel⟩) (fun _ _ _ _ _ => (cg_name 6 nd_law_least_stage rfl (by first | exact Or.inl rfl | exact Or.inr rfl) (by decide))) (fun _ _ _ _ _ => (cts_one (ct_val (k_def PXno C_law_below hr (by decide) (by rfl) passNo (ca_cons (c_var 3) (ca_cons (c_var 6) ca_nil)))))) (fun _ _ _ _ _ => (c_var 6))) (c_lst ca_nil)) (css_one (cs_ret (c_var 5))) css_nil)
    (css_one (cs_if (ct_w (cw_and (t_gt (c_var 5) c_int) (cw_and1 (t_ge (c_ix (c_var 1) c_int) (c_ix (c_var 1) c_int))))) (css_one (cs_ret c_non)) css_nil)))))
    (css_one (cs_ret c_non))))

theorem sc_law_are_many_right : FnScope N_law_are_many_right [] (defScope s_law_are_many_right) := ⟨rfl, rfl, rfl, nd_law_are_many_right, rfl, by decide +kernel, by decide +kernel⟩
theorem rd_law_are_many_right {P : Program} {w : World} {K : PySem.W.Frag} {mg : Str → Option Value} {base : Heap} {f : Addr} {cdv : Value} {A : Around} {outer : List Env} {s : Shared} {H : Hp} {E : XK} {T : TabSet} {μ₀ : List Addr} {H₀ : Hp} (B : Bl mg) {c_TooMany : Addr} {l_law_heard : List HC} (HC_law_heard : HeardC P w K mg base "_law_heard" "told" l_law_heard) (C_stages_for : Cal P w K mg base T 6 "stages_for" (sp_stages_for c_TooMany)) (C_law_alike : Cal P w K mg base T 1 "_law_alike" sp_law_alike) (TB : GxR.TabB base mg (He.cT K ("_law_are_many_right", none)).1 (He.cT K ("_law_are_many_right", none)).2) (hcd : cdv = .ref (He.codeOf K ("_law_are_many_right", none))) (hmL : ((He.cT K ("_law_are_many_right", none)).2, (("_law_are_many_right" : Str) ++ ".<locals>.") ++ "<lambda>") ∈ T.lam)
    (hr : RoomG 8 (cxL P w K mg base N_law_are_many_right "_law_are_many_right" (defScope s_law_are_many_right) f cdv A outer s H E).A) :
    PPSs T μ₀ H₀ (cxL P w K mg base N_law_are_many_right "_law_are_many_right" (defScope s_law_are_many_right) f cdv A outer s H E) (defBody s_law_are_many_right) (t_law_are_many_right c_TooMany K l_law_heard) :=
  (css_cons (cs_asg [1, 2, 3] (c_tup (ca_cons (c_tup (ca_cons (c_tup (ca_cons c_int (ca_cons c_int ca_nil))) ca_nil)) (ca_cons (c_tup (ca_cons c_int (ca_cons c_int ca_nil))) (ca_cons (c_tup (ca_cons (c_tup (ca_cons (c_tup (ca_cons c_int (ca_cons c_int ca_nil))) (ca_cons (c_tup (ca_cons c_int (ca_cons c_int ca_nil))) ca_nil))) ca_nil)) ca_nil)))) (cg_tup rfl (cgs_cons (cg_name 1 nd_law_are_many_right rfl (by first | exact Or.inl rfl | exact Or.inr rfl) (by decide)) (cgs_cons (cg_name 2 nd_law_are_many_right rfl (by first | exact Or.inl rfl | exact Or.inr rfl) (by decide)) (cgs_cons (cg_name 3 nd_law_are_many_right rfl (by first | exact Or.inl rfl | exact Or.inr rfl) (by decide)) cgs_nil)))))
    (css_cons (cs_set 0 nd_law_are_many_right rfl (by first | exact Or.inl rfl | exact Or.inr rfl) (c_lst (ca_cons (k_heard 6 HC_law_heard hr (by decide) (by rfl) TB hcd hmL (show LamS (defScope s_law_are_many_right) _ from lamS_by (by decide +kernel)) rfl (by intros; rfl) (te := fun pxL => (pCallF (sp_stages_for c_TooMany) pxL (pCons (pVar 1) (pCons (pVar 2) (pCons (pVar 3) (pCons (pTup (pCons (pC (.int 9)) (pCons (pC (.int 500)) pNil))) pNil)))))) fun _ _ _ _ _ _ _ _ _ pxL hrL hEL => (k_def pxL C_stages_for hrL (by decide) (by rfl) (pass_lam hEL) (ca_cons (c_var 1) (ca_cons (c_var 2) (ca_cons (c_var 3) (ca_cons (c_tup (ca_cons c_int (ca_cons c_int ca_nil))) ca_nil)))))) ca_nil)))
    (css_cons (cs_expr (k_append (c_var 0) (ca_cons (k_heard 6 HC_law_heard hr (by decide) (by rfl) TB hcd hmL (show LamS (defScope s_law_are_many_right) _ from lamS_by (by decide +kernel)) rfl (by intros; rfl) (te := fun pxL => (pCallF (sp_stages_for c_TooMany) pxL (pCons (pVar 1) (pCons (pVar 2) (pCons (pVar 3) (pCons (pTup (pCons (pC (.int 179)) (pCons (pC (.int 10000)) pNil))) pNil)))))) fun _ _ _ _ _ _ _ _ _ pxL hrL hEL => (k_def pxL C_stages_for hrL (by decide) (by rfl) (pass_lam hEL) (ca_cons (c_var 1) (ca_cons (c_var 2) (ca_cons (c_var 3) (ca_cons (c_tup (ca_cons c_int (ca_cons c_int ca_nil))) ca_nil)))))) ca_nil)))
    (css_one (cs_ret (k_def PXno C_law_alike hr (by decide) (by rfl) passNo (ca_cons (c_var 0) (ca_cons (c_lst (ca_cons (c_tup (ca_cons c_str (ca_cons c_int ca_nil))) (ca_cons (c_tup (ca_cons c_str (ca_cons c_int ca_nil))) ca_nil))) ca_nil))))))))

theorem sc_law : FnScope N_law ["_law_script"] (defScope s_law) := ⟨rfl, rfl, rfl, nd_law, rfl, by decide +kernel, by decide +kernel⟩
theorem rd_law {P : Program} {w : World} {K : PySem.W.Frag} {mg : Str → Option Value} {base : Heap} {f : Addr} {cdv : Value} {A : Around} {outer : List Env} {s : Shared} {H : Hp} {E : XK} {T : TabSet} {μ₀ : List Addr} {H₀ : Hp} (B : Bl mg) {c_TooMany : Addr} {l_law_heard : List HC} (HC_law_heard : HeardC P w K mg base "_law_heard" "told" l_law_heard) (C_law_bag : Cal P w K mg base T 1 "_law_bag" sp_law_bag) (C_law_take : Cal P w K mg base T 1 "_law_take" sp_law_take) (C_law_are_many_right : Cal P w K mg base T 9 "_law_are_many_right" sp_law_are_many_right) (C_law_f : Cal P w K mg base T 2 "_law_f" sp_law_f) (C_law_some : Cal P w K mg base T 2 "_law_some" sp_law_some) (C_law_some_fraction : Cal P w K mg base T 3 "_law_some_fraction" sp_law_some_fraction) (C_law_size : Cal P w K mg base T 1 "_law_size" sp_law_size) (C_law_mixed : Cal P w K mg base T 2 "_law_mixed" sp_law_mixed) (C_stage_bound : Cal P w K mg base T 8 "stage_bound" sp_stage_bound) (C_law_bounds : Cal P w K mg base T 5 "_law_bounds" sp_law_bounds) (C_law_alike : Cal P w K mg base T 1 "_law_alike" sp_law_alike) (C_greatest_by : Cal P w K mg base T 3 "greatest_by" sp_greatest_by) (C_law_greatest : Cal P w K mg base T 4 "_law_greatest" sp_law_greatest) (C_law_least_stage : Cal P w K mg base T 6 "_law_least_stage" sp_law_least_stage) (C_stages_for : Cal P w K mg base T 6 "stages_for" (sp_stages_for c_TooMany)) (TB : GxR.TabB base mg (He.cT K ("law", none)).1 (He.cT K ("law", none)).2) (hcd : cdv = .ref (He.codeOf K ("law", none))) (hmL : ((He.cT K ("law", none)).2, (("law" : Str) ++ ".<locals>.") ++ "<lambda>") ∈ T.lam)
    (hr : RoomG 11 (cxL P w K mg base N_law "law" (defScope s_law) f cdv A outer s H E).A) :
    PPSs T μ₀ H₀ (cxL P w K mg base N_law "law" (defScope s_law) f cdv A outer s H E) (defBody s_law) (t_law c_TooMany K l_law_heard) :=
  (css_cons (cs_set 1 nd_law rfl (by first | exact Or.inl rfl | exact Or.inr rfl) (k_def PXno C_law_bag hr (by decide) (by rfl) passNo (ca_cons (c_var 0) ca_nil)))
    (css_cons (cs_if (ct_w (cw_and (t_eq hr.room.units (k_def PXno C_law_take hr (by decide) (by rfl) passNo (ca_cons (c_var 1) (ca_cons c_int ca_nil))) c_int) (cw_and1 (ct_not (ct_val (k_def0 PXno C_law_are_many_right hr (by decide) (by rfl) passNo)))))) (css_one (cs_ret c_bl)) css_nil)
    (css_cons (cs_for [2] own_cx rfl (ci_rng1 (by rfl) B.range (ca_cons c_int ca_nil)) (cg_name 2 nd_law rfl (by first | exact Or.inl rfl | exact Or.inr rfl) (by decide)) (css_cons (cs_set 3 nd_law rfl (by first | exact Or.inl rfl | exact Or.inr rfl) (c_add c_int (k_def PXno C_law_take hr (by decide) (by rfl) passNo (ca_cons (c_var 1) (ca_cons c_int ca_nil)))))
    (css_cons (cs_set 4 nd_law rfl (by first | exact Or.inl rfl | exact Or.inr rfl) (k_tuple B (by rfl) (ca_cons (c_lc rfl nd_law (ci_rng1 (by rfl) B.range (ca_cons (c_var 3) ca_nil)) (own := [("_law_k", 12)]) (show BlkOk N_law (defScope s_law) _ _ from ⟨rfl, by decide +kernel, by decide +kernel, by decide +kernel, by decide +kernel⟩) (fun _ _ _ _ _ => (cg_name 12 nd_law rfl (by first | exact Or.inl rfl | exact Or.inr rfl) (by decide))) (fun _ _ _ _ _ => cts_nil) (fun _ _ _ _ _ => (k_def PXno C_law_f hr (by decide) (by rfl) passNo (ca_cons (c_add c_int (k_def PXno C_law_take hr (by decide) (by rfl) passNo (ca_cons (c_var 1) (ca_cons c_int ca_nil)))) (ca_cons (c_add c_int (k_def PXno C_law_take hr (by decide) (by rfl) passNo (ca_cons (c_var 1) (ca_cons c_int ca_nil)))) ca_nil))))) ca_nil)))
    (css_cons (cs_set 5 nd_law rfl (by first | exact Or.inl rfl | exact Or.inr rfl) (k_def PXno C_law_some hr (by decide) (by rfl) passNo (ca_cons (c_var 1) (ca_cons (c_lst (ca_cons (c_tup (ca_cons c_int (ca_cons c_int ca_nil))) (ca_cons (c_tup (ca_cons c_int (ca_cons c_int ca_nil))) (ca_cons (c_tup (ca_cons c_int (ca_cons c_int ca_nil))) (ca_cons (c_tup (ca_cons c_int (ca_cons c_int ca_nil))) (ca_cons (c_tup (ca_cons c_int (ca_cons c_int ca_nil))) (ca_cons (c_tup (ca_cons c_int (ca_cons c_int ca_nil))) (ca_cons (c_tup (ca_cons c_int (ca_cons c_int ca_nil))) ca_nil)))))))) ca_nil))))
    (css_cons (cs_set 6 nd_law rfl (by first | exact Or.inl rfl | exact Or.inr rfl) (k_tuple B (by rfl) (ca_cons (c_lc rfl nd_law (ci_rng1 (by rfl) B.range (ca_cons (c_var 3) ca_nil)) (own := [("_law_k", 12)]) (show BlkOk N_law (defScope s_law) _ _ from ⟨rfl, by decide +kernel, by decide +kernel, by decide +kernel, by decide +kernel⟩) (fun _ _ _ _ _ => (cg_name 12 nd_law rfl (by first | exact Or.inl rfl | exact Or.inr rfl) (by decide))) (fun _ _ _ _ _ => cts_nil) (fun _ _ _ _ _ => (c_tup (ca_cons (k_def PXno C_law_size hr (by decide) (by rfl) passNo (ca_cons (k_def PXno C_law_some_fraction hr (by decide) (by rfl) passNo (ca_cons (c_var 1) ca_nil)) ca_nil)) (ca_cons (k_def PXno C_law_size hr (by decide) (by rfl) passNo (ca_cons (k_def PXno C_law_some_fraction hr (by decide) (by rfl) passNo (ca_cons (c_var 1) ca_nil)) ca_nil)) ca_nil))))) ca_nil)))
    (css_cons (cs_if (t_eq hr.room.units (k_def PXno C_law_take hr (by decide) (by rfl) passNo (ca_cons (c_var 1) (ca_cons c_int ca_nil))) c_int) (css_one (cs_set 6 nd_law rfl (by first | exact Or.inl rfl | exact Or.inr rfl) (c_mul (c_tup (ca_cons (c_tup (ca_cons (c_tup (ca_cons c_int (ca_cons c_int ca_nil))) (ca_cons (c_tup (ca_cons c_int (ca_cons c_int ca_nil))) ca_nil))) ca_nil)) (c_var 3)))) css_nil)
    (css_cons (cs_for [7] own_cx rfl (ci_seq (c_cut (k_def PXno C_law_mixed hr (by decide) (by rfl) passNo (ca_cons (c_var 1) (ca_cons (c_listRg1 rfl (by rfl) B.list (by rfl) B.range c_int) ca_nil))) co_none (co_some c_int))) (cg_name 7 nd_law rfl (by first | exact Or.inl rfl | exact Or.inr rfl) (by decide)) (css_one (cs_if (ct_not (ct_val (k_def PXno C_law_alike hr (by decide) (by rfl) passNo (ca_cons (k_def PXno C_stage_bound hr (by decide) (by rfl) passNo (ca_cons (c_var 4) (ca_cons (c_var 5) (ca_cons (c_var 6) (ca_cons (c_var 7) ca_nil))))) (ca_cons (k_def PXno C_law_bounds hr (by decide) (by rfl) passNo (ca_cons (c_var 4) (ca_cons (c_var 5) (ca_cons (c_var 6) (ca_cons (c_var 7) ca_nil))))) ca_nil))))) (css_one (cs_ret c_bl)) css_nil)))
    (css_cons (cs_set 8 nd_law rfl (by first | exact Or.inl rfl | exact Or.inr rfl) (k_tuple B (by rfl) (ca_cons (c_lc rfl nd_law (ci_rng1 (by rfl) B.range (ca_cons (c_var 3) ca_nil)) (own := [("_law_k", 12)]) (show BlkOk N_law (defScope s_law) _ _ from ⟨rfl, by decide +kernel, by decide +kernel, by decide +kernel, by decide +kernel⟩) (fun _ _ _ _ _ => (cg_name 12 nd_law rfl (by first | exact Or.inl rfl | exact Or.inr rfl) (by decide))) (fun _ _ _ _ _ => cts_nil) (fun _ _ _ _ _ => (c_tup (ca_cons (k_def PXno C_law_some_fraction hr (by decide) (by rfl) passNo (ca_cons (c_var 1) ca_nil)) (ca_cons (k_def PXno C_law_some_fraction hr (by decide) (by rfl) passNo (ca_cons (c_var 1) ca_nil)) ca_nil))))) ca_nil)))
    (css_cons (cs_for [9] own_cx rfl (ci_seq (c_tup (ca_cons (c_var 6) (ca_cons (c_var 8) ca_nil)))) (cg_name 9 nd_law rfl (by first | exact Or.inl rfl | exact Or.inr rfl) (by decide)) (css_one (cs_if (ct_not (ct_val (k_def PXno C_law_alike hr (by decide) (by rfl) passNo (ca_cons (k_def PXno C_greatest_by hr (by decide) (by rfl) passNo (ca_cons (c_var 4) (ca_cons (c_var 9) ca_nil))) (ca_cons (k_def PXno C_law_greatest hr (by decide) (by rfl) passNo (ca_cons (c_var 4) (ca_cons (c_var 9) ca_nil))) ca_nil))))) (css_one (cs_ret c_bl)) css_nil)))
    (css_cons (cs_set 10 nd_law rfl (by first | exact Or.inl rfl | exact Or.inr rfl) (k_def PXno C_law_some hr (by decide) (by rfl) passNo (ca_cons (c_var 1) (ca_cons (c_lst (ca_cons (c_tup (ca_cons c_int (ca_cons c_int ca_nil))) (ca_cons (c_tup (ca_cons c_int (ca_cons c_int ca_nil))) (ca_cons (c_tup (ca_cons c_int (ca_cons c_int ca_nil))) (ca_cons (c_tup (ca_cons c_int (ca_cons c_int ca_nil))) (ca_cons (c_tup (ca_cons c_int (ca_cons c_int ca_nil))) (ca_cons (c_tup (ca_cons c_int (ca_cons c_int ca_nil))) ca_nil))))))) ca_nil))))
    (css_cons (cs_set 11 nd_law rfl (by first | exact Or.inl rfl | exact Or.inr rfl) (k_def PXno C_law_least_stage hr (by decide) (by rfl) passNo (ca_cons (c_var 4) (ca_cons (c_var 5) (ca_cons (c_var 6) (ca_cons (c_var 10) ca_nil))))))
    (css_cons (cs_set 11 nd_law rfl (by first | exact Or.inl rfl | exact Or.inr rfl) (c_if (t_isN (c_var 11)) (c_tup (ca_cons c_str (ca_cons c_int ca_nil))) (c_tup (ca_cons c_str (ca_cons (c_var 11) ca_nil)))))
    (css_one (cs_if (ct_not (ct_val (k_def PXno C_law_alike hr (by decide) (by rfl) passNo (ca_cons (k_heard 9 HC_law_heard hr (by decide) (by rfl) TB hcd hmL (show LamS (defScope s_law) _ from lamS_by (by decide +kernel)) rfl (by intros; rfl) (te := fun pxL => (pCallF (sp_stages_for c_TooMany) pxL (pCons (pVar 4) (pCons (pVar 5) (pCons (pVar 6) (pCons (pVar 10) pNil)))))) fun _ _ _ _ _ _ _ _ _ pxL hrL hEL => (k_def pxL C_stages_for hrL (by decide) (by rfl) (pass_lam hEL) (ca_cons (c_var 4) (ca_cons (c_var 5) (ca_cons (c_var 6) (ca_cons (c_var 10) ca_nil)))))) (ca_cons (c_var 11) ca_nil))))) (css_one (cs_ret c_bl)) css_nil))))))))))))))
    (css_one (cs_ret c_bl)))))
end K36

set_option Elab.async false
set_option linter.all false
set_option maxRecDepth 100000
set_option maxHeartbeats 2000000
/-! Each def of the head may be called; the law. -/
namespace K36
open PySem PySem.Spec PyProof.Rows L2 Zk Zg Za Hk36 LamX Zt K4
/-- what the head leaves, over a base -/
structure Gd (w : World) (K : PySem.W.Frag) (mg : Str → Option Value) (base h : Heap) : Prop where
  c : He.SaysX fa fn [] tf ownEx w h K
  X : K.In base
  G : base.Ns mainGlobals mg
  tb : ∀ p ∈ tf.map (He.cT K), GxR.TabB base mg p.1 p.2
abbrev nmA : Str := (("_law_are_many_right" : Str) ++ ".<locals>.") ++ "<lambda>"
abbrev nmL : Str := (("law" : Str) ++ ".<locals>.") ++ "<lambda>"
theorem ex_nd {K : PySem.W.Frag} (h : ownEx K = true) : ([(He.cT K ("stage_bound", none)).2, (He.cT K ("_law_are_many_right", none)).2, (He.cT K ("law", none)).2]).Nodup := by
  unfold ownEx at h
  exact of_decide_eq_true (Bool.and_eq_true_iff.mp (Bool.and_eq_true_iff.mp h).2).2
theorem ex_gcd {K : PySem.W.Frag} (h : ownEx K = true) : PySem.W.nsIn K mainGlobals "gcd" = some (some (.builtin "math.gcd")) := by
  unfold ownEx at h
  exact of_decide_eq_true (Bool.and_eq_true_iff.mp (Bool.and_eq_true_iff.mp h).2).1
theorem ex_own {K : PySem.W.Frag} (h : ownEx K = true) : ownB K (He.ga K "TooMany") = true := by
  unfold ownEx at h
  have h1 := (Bool.and_eq_true_iff.mp h).1
  exact List.all_eq_true.mp h1 "TooMany" List.mem_cons_self
def T36 (K : PySem.W.Frag) (h : ownEx K = true) : TabSet where
  gen := [(He.cT K ("stage_bound", none)).2]
  lam := [((He.cT K ("_law_are_many_right", none)).2, nmA), ((He.cT K ("law", none)).2, nmL)]
  dis := by
    have n := ex_nd h
    simp only [List.nodup_cons, List.mem_cons, List.not_mem_nil, or_false, not_or] at n
    intro p hp
    simp only [List.mem_cons, List.not_mem_nil, or_false] at hp ⊢
    rcases hp with rfl | rfl
    · exact fun z => n.1.1 z.symm
    · exact fun z => n.1.2 z.symm
  one := by
    have n := ex_nd h
    simp only [List.nodup_cons, List.mem_cons, List.not_mem_nil, or_false, not_or] at n
    intro p hp q hq e
    simp only [List.mem_cons, List.not_mem_nil, or_false] at hp hq
    rcases hp with rfl | rfl <;> rcases hq with rfl | rfl
    · rfl
    · exact absurd e n.2.1
    · exact absurd e.symm n.2.1
    · rfl
section
variable {P : Program} {w : World} {K : PySem.W.Frag} {mg : Str → Option Value} {base h : Heap}
theorem oex_ok {C : Addr} (h : ownB K C = true) : OexC K C ∧ XfC K C ∧ PySem.W.findIn K (.ref C) "__init__" = some (some (.ref (He.ma K C "__init__"))) ∧ PySem.W.typeIn K (.ref (He.ma K C "__init__")) = some (.type "function") := by
  unfold ownB at h
  simp only [Bool.and_eq_true, decide_eq_true_eq] at h
  obtain ⟨h1, h2, h3, h4, h5, h6, h7, h8⟩ := h
  refine ⟨⟨?_, h2, h3, h4, h5⟩, xfB_ok h6, h7, h8⟩
  unfold oexB at h1
  split at h1
  · rename_i dd cd sl ho
    split at h1
    · rename_i C' bm k0 k1 k2 k3 n k5 hm hs
      simp only [Bool.and_eq_true, decide_eq_true_eq, Bool.not_eq_true'] at h1
      obtain ⟨rfl, rfl, hdel, hdict, ht⟩ := h1
      obtain ⟨nm, bs, mro, ns, qn, hd, sn, sub, ab, col, del⟩ := cd
      dsimp only at hm hdel hdict
      subst hm; subst hdel; subst hdict
      have hsl : sl = #[k0, k1, k2, k3, some (.builtin "ValueError.__new__"), k5] := by
        obtain ⟨l⟩ := sl
        simp only at hs
        rw [hs]
      subst hsl
      exact ⟨nm, qn, ns, bs, bm, sn, sub, ab, col, dd, k0, k1, k2, k3, k5, ho, ht⟩
    · cases h1
  · cases h1
theorem glo (hd : Gd w K mg base h) (i : Nat) {x : Str} (e : fa[i]? = some (.glo x) := by rfl) : mg x = some (.ref (He.ga K x)) := He.glo_ok hd.X hd.G (hd.c.t.d.fact i e)
theorem free (hd : Gd w K mg base h) (i : Nat) {x : Str} (e : fa[i]? = some (.free x) := by rfl) : mg x = none := He.free_ok hd.X hd.G (hd.c.t.d.fact i e)

theorem blt (hd : Gd w K mg base h) : Bl mg := ⟨free hd 32, free hd 33, free hd 34, free hd 35, free hd 36, free hd 37, free hd 38, free hd 39, free hd 40, free hd 41, free hd 42, free hd 43, free hd 44, PySem.W.mg_of hd.X hd.G (ex_gcd hd.c.more)⟩

theorem excTM (hd : Gd w K mg base h) : ExcC P w K mg base 1 "TooMany" "most" (He.ga K "TooMany") := by
  obtain ⟨o1, o2, o3, o4⟩ := oex_ok (ex_own hd.c.more)
  obtain ⟨fd, F⟩ := hd.c.t.d.def_ 29 (d := d_TooMany) rfl
  have no : PySem.W.findIn K (.ref (He.ga K "TooMany")) "most" = some none := He.noat_ok (hd.c.t.d.fact 47 (f := .noat "TooMany" "most") rfl)
  refine ⟨glo hd 31, o1, no, _, fd, ["self", "most"], o3, o4, ?_, F.bindsN fun _ _ _ _ _ _ us hl => match us, hl with | [_, _], _ => rfl⟩
  refine F.ok (N := ["self", "most"]) (k := 0) ⟨rfl, rfl, rfl, by decide +kernel, rfl, by decide +kernel, by decide +kernel⟩ (fun vs H Q E ⟨a, v, e, _⟩ => by rw [e]; rfl) fun cdv A outer s H vs Q E hr ⟨a, v, e, ha, hq⟩ => ⟨_, pss_one (ps_ost (pv 0) (pv 1)), ?_⟩
  subst e
  exact ⟨_, rfl, _, rfl, a, _, rfl, o1, no, .inl ⟨ha, hq⟩⟩

theorem hearC (hd : Gd w K mg base h) : HeardC P w K mg base "_law_heard" "told" [.fld (He.ga K "TooMany") "many" "most", .nev (He.ga K "LateError")] := by
  obtain ⟨fd, F⟩ := hd.c.t.d.def_ 26 (d := d_law_heard) rfl
  have no : PySem.W.findIn K (.ref (He.ga K "TooMany")) "most" = some none := He.noat_ok (hd.c.t.d.fact 47 (f := .noat "TooMany" "most") rfl)
  refine heardC_of (x := "_law_heard") (a := "_law_act") (Ng := ["_law_act", "e"]) F ⟨rfl, rfl, rfl, by decide +kernel, rfl, by decide +kernel, by decide +kernel⟩ (glo hd 26) rfl (by first | exact Or.inl rfl | exact Or.inr (Or.inl rfl) | exact Or.inr (Or.inr rfl)) (by decide) (by decide) (by decide) (fun _ => rfl)
    (fun _ _ _ _ _ _ us hl => match us, hl with | [_], _ => rfl) ?_
  intro X cdv s H e1 e2 e3 e4 e5
  subst e1; subst e2; subst e3; subst e4; subst e5
  refine hc_fld (X := cxG X ["_law_act", "e"] "_law_heard" d_law_heard.scope (He.fAd X.K d_law_heard.at_) cdv s H) (c := He.ga X.K "TooMany") (l := [.nev (He.ga X.K "LateError")]) (e := "e") (oex_ok (ex_own hd.c.more)).2.1 no ?_ (glo hd 31) ?_ ?_ (hc_nev ?_ (glo hd 29) hc_nil) (by decide) (by decide) (by decide) <;> rfl

theorem cal_fraction (hd : Gd w K mg base h) : Cal P w K mg base (T36 K hd.c.more) 1 "fraction" sp_fraction := by
  obtain ⟨fd, F⟩ := hd.c.t.d.def_ 0 (d := d_fraction) rfl
  exact calOf F (glo hd 0) (ps := ["num", "den"]) sc_fraction (fun ds S R PX q => by obtain ⟨_, _, e, _⟩ := q; rw [e]; rfl) (fun _ _ _ _ _ _ us hl => match us, hl with | [_, _], _ => rfl) fun cdv A outer s H E μ PX hcd hr hE => ⟨t_fraction, rd_fraction (blt hd) hr, fun ds S R q hc hb => sem_fraction ds S R PX q⟩

theorem cal_times (hd : Gd w K mg base h) : Cal P w K mg base (T36 K hd.c.more) 1 "times" sp_times := by
  obtain ⟨fd, F⟩ := hd.c.t.d.def_ 1 (d := d_times) rfl
  exact calOf F (glo hd 1) (ps := ["one", "other"]) sc_times (fun ds S R PX q => by obtain ⟨_, _, e, _⟩ := q; rw [e]; rfl) (fun _ _ _ _ _ _ us hl => match us, hl with | [_, _], _ => rfl) fun cdv A outer s H E μ PX hcd hr hE => ⟨t_times, rd_times (blt hd) hr, fun ds S R q hc hb => sem_times ds S R PX q hc hb⟩

theorem cal_size_of (hd : Gd w K mg base h) : Cal P w K mg base (T36 K hd.c.more) 1 "size_of" sp_size_of := by
  obtain ⟨fd, F⟩ := hd.c.t.d.def_ 3 (d := d_size_of) rfl
  exact calOf F (glo hd 3) (ps := ["one"]) sc_size_of (fun ds S R PX q => by obtain ⟨_, e, _⟩ := q; rw [e]; rfl) (fun _ _ _ _ _ _ us hl => match us, hl with | [_], _ => rfl) fun cdv A outer s H E μ PX hcd hr hE => ⟨t_size_of, rd_size_of (blt hd) hr, fun ds S R q hc hb => sem_size_of ds S R PX q⟩

theorem cal_compare (hd : Gd w K mg base h) : Cal P w K mg base (T36 K hd.c.more) 1 "compare" sp_compare := by
  obtain ⟨fd, F⟩ := hd.c.t.d.def_ 4 (d := d_compare) rfl
  exact calOf F (glo hd 4) (ps := ["one", "other"]) sc_compare (fun ds S R PX q => by obtain ⟨_, _, e, _⟩ := q; rw [e]; rfl) (fun _ _ _ _ _ _ us hl => match us, hl with | [_, _], _ => rfl) fun cdv A outer s H E μ PX hcd hr hE => ⟨t_compare, rd_compare (blt hd) hr, fun ds S R q hc hb => sem_compare ds S R PX q⟩

theorem cal_law_bag (hd : Gd w K mg base h) : Cal P w K mg base (T36 K hd.c.more) 1 "_law_bag" sp_law_bag := by
  obtain ⟨fd, F⟩ := hd.c.t.d.def_ 10 (d := d_law_bag) rfl
  exact calOf F (glo hd 10) (ps := ["_law_script"]) sc_law_bag (fun ds S R PX q => by obtain ⟨_, _, e, _⟩ := q; rw [e]; rfl) (fun _ _ _ _ _ _ us hl => match us, hl with | [_], _ => rfl) fun cdv A outer s H E μ PX hcd hr hE => ⟨t_law_bag, rd_law_bag (blt hd) hr, fun ds S R q hc hb => sem_law_bag ds S R PX q⟩

theorem cal_law_take (hd : Gd w K mg base h) : Cal P w K mg base (T36 K hd.c.more) 1 "_law_take" sp_law_take := by
  obtain ⟨fd, F⟩ := hd.c.t.d.def_ 11 (d := d_law_take) rfl
  exact calOf F (glo hd 11) (ps := ["_law_bag_here", "_law_many"]) sc_law_take (fun ds S R PX q => by obtain ⟨_, _, _, _, e, _⟩ := q; rw [e]; rfl) (fun _ _ _ _ _ _ us hl => match us, hl with | [_, _], _ => rfl) fun cdv A outer s H E μ PX hcd hr hE => ⟨t_law_take, rd_law_take (blt hd) hr, fun ds S R q hc hb => sem_law_take ds S R PX q⟩

theorem cal_law_alike (hd : Gd w K mg base h) : Cal P w K mg base (T36 K hd.c.more) 1 "_law_alike" sp_law_alike := by
  obtain ⟨fd, F⟩ := hd.c.t.d.def_ 14 (d := d_law_alike) rfl
  exact calOf F (glo hd 14) (ps := ["_law_found", "_law_due"]) sc_law_alike (fun ds S R PX q => by obtain ⟨_, _, _, e, _⟩ := q; rw [e]; rfl) (fun _ _ _ _ _ _ us hl => match us, hl with | [_, _], _ => rfl) fun cdv A outer s H E μ PX hcd hr hE => ⟨t_law_alike, rd_law_alike (blt hd) hr, fun ds S R q hc hb => sem_law_alike ds S R PX q⟩

theorem cal_law_gcd (hd : Gd w K mg base h) : Cal P w K mg base (T36 K hd.c.more) 1 "_law_gcd" sp_law_gcd := by
  obtain ⟨fd, F⟩ := hd.c.t.d.def_ 15 (d := d_law_gcd) rfl
  exact calOf F (glo hd 15) (ps := ["_law_one", "_law_other"]) sc_law_gcd (fun ds S R PX q => by obtain ⟨_, _, e, _⟩ := q; rw [e]; rfl) (fun _ _ _ _ _ _ us hl => match us, hl with | [_, _], _ => rfl) fun cdv A outer s H E μ PX hcd hr hE => ⟨t_law_gcd, rd_law_gcd (blt hd) hr, fun ds S R q hc hb => sem_law_gcd ds S R PX q hc hb⟩

theorem cal_law_below (hd : Gd w K mg base h) : Cal P w K mg base (T36 K hd.c.more) 1 "_law_below" sp_law_below := by
  obtain ⟨fd, F⟩ := hd.c.t.d.def_ 18 (d := d_law_below) rfl
  exact calOf F (glo hd 18) (ps := ["_law_one", "_law_other"]) sc_law_below (fun ds S R PX q => by obtain ⟨_, _, e, _⟩ := q; rw [e]; rfl) (fun _ _ _ _ _ _ us hl => match us, hl with | [_, _], _ => rfl) fun cdv A outer s H E μ PX hcd hr hE => ⟨t_law_below, rd_law_below (blt hd) hr, fun ds S R q hc hb => sem_law_below ds S R PX q⟩

theorem cal_law_size (hd : Gd w K mg base h) : Cal P w K mg base (T36 K hd.c.more) 1 "_law_size" sp_law_size := by
  obtain ⟨fd, F⟩ := hd.c.t.d.def_ 19 (d := d_law_size) rfl
  exact calOf F (glo hd 19) (ps := ["_law_one"]) sc_law_size (fun ds S R PX q => by obtain ⟨_, e, _⟩ := q; rw [e]; rfl) (fun _ _ _ _ _ _ us hl => match us, hl with | [_], _ => rfl) fun cdv A outer s H E μ PX hcd hr hE => ⟨t_law_size, rd_law_size (blt hd) hr, fun ds S R q hc hb => sem_law_size ds S R PX q⟩

theorem cal_over (hd : Gd w K mg base h) : Cal P w K mg base (T36 K hd.c.more) 2 "over" sp_over := by
  obtain ⟨fd, F⟩ := hd.c.t.d.def_ 2 (d := d_over) rfl
  exact calOf F (glo hd 2) (ps := ["one", "other"]) sc_over (fun ds S R PX q => by obtain ⟨_, _, e, _⟩ := q; rw [e]; rfl) (fun _ _ _ _ _ _ us hl => match us, hl with | [_, _], _ => rfl) fun cdv A outer s H E μ PX hcd hr hE => ⟨t_over, rd_over (blt hd) (cal_fraction hd) hr, fun ds S R q hc hb => sem_over ds S R PX q⟩

theorem cal_greatest (hd : Gd w K mg base h) : Cal P w K mg base (T36 K hd.c.more) 2 "greatest" sp_greatest := by
  obtain ⟨fd, F⟩ := hd.c.t.d.def_ 5 (d := d_greatest) rfl
  exact calOf F (glo hd 5) (ps := ["some"]) sc_greatest (fun ds S R PX q => by obtain ⟨_, _, e, _⟩ := q; rw [e]; rfl) (fun _ _ _ _ _ _ us hl => match us, hl with | [_], _ => rfl) fun cdv A outer s H E μ PX hcd hr hE => ⟨t_greatest, rd_greatest (blt hd) (cal_compare hd) hr, fun ds S R q hc hb => sem_greatest ds S R PX q⟩

theorem cal_law_some (hd : Gd w K mg base h) : Cal P w K mg base (T36 K hd.c.more) 2 "_law_some" sp_law_some := by
  obtain ⟨fd, F⟩ := hd.c.t.d.def_ 12 (d := d_law_some) rfl
  exact calOf F (glo hd 12) (ps := ["_law_bag_here", "_law_things"]) sc_law_some (fun ds S R PX q => by obtain ⟨_, _, _, _, _, e, _⟩ := q; rw [e]; rfl) (fun _ _ _ _ _ _ us hl => match us, hl with | [_, _], _ => rfl) fun cdv A outer s H E μ PX hcd hr hE => ⟨t_law_some, rd_law_some (blt hd) (cal_law_take hd) hr, fun ds S R q hc hb => sem_law_some ds S R PX q⟩

theorem cal_law_mixed (hd : Gd w K mg base h) : Cal P w K mg base (T36 K hd.c.more) 2 "_law_mixed" sp_law_mixed := by
  obtain ⟨fd, F⟩ := hd.c.t.d.def_ 13 (d := d_law_mixed) rfl
  exact calOf F (glo hd 13) (ps := ["_law_bag_here", "_law_things"]) sc_law_mixed (fun ds S R PX q => by obtain ⟨_, _, _, _, _, e, _⟩ := q; rw [e]; rfl) (fun _ _ _ _ _ _ us hl => match us, hl with | [_, _], _ => rfl) fun cdv A outer s H E μ PX hcd hr hE => ⟨t_law_mixed, rd_law_mixed (blt hd) (cal_law_take hd) hr, fun ds S R q hc hb => sem_law_mixed ds S R PX q⟩

theorem cal_law_f (hd : Gd w K mg base h) : Cal P w K mg base (T36 K hd.c.more) 2 "_law_f" sp_law_f := by
  obtain ⟨fd, F⟩ := hd.c.t.d.def_ 16 (d := d_law_f) rfl
  exact calOf F (glo hd 16) (ps := ["_law_num", "_law_den"]) sc_law_f (fun ds S R PX q => by obtain ⟨_, _, e, _⟩ := q; rw [e]; rfl) (fun _ _ _ _ _ _ us hl => match us, hl with | [_, _], _ => rfl) fun cdv A outer s H E μ PX hcd hr hE => ⟨t_law_f, rd_law_f (blt hd) (cal_law_gcd hd) hr, fun ds S R q hc hb => sem_law_f ds S R PX q hc hb⟩

theorem cal_greatest_by (hd : Gd w K mg base h) : Cal P w K mg base (T36 K hd.c.more) 3 "greatest_by" sp_greatest_by := by
  obtain ⟨fd, F⟩ := hd.c.t.d.def_ 6 (d := d_greatest_by) rfl
  exact calOf F (glo hd 6) (ps := ["weights", "pairs"]) sc_greatest_by (fun ds S R PX q => by obtain ⟨_, _, e, _⟩ := q; rw [e]; rfl) (fun _ _ _ _ _ _ us hl => match us, hl with | [_, _], _ => rfl) fun cdv A outer s H E μ PX hcd hr hE => ⟨t_greatest_by, rd_greatest_by (blt hd) (cal_size_of hd) (cal_over hd) (cal_greatest hd) hr, fun ds S R q hc hb => sem_greatest_by ds S R PX q⟩

theorem cal_law_by (hd : Gd w K mg base h) : Cal P w K mg base (T36 K hd.c.more) 3 "_law_by" sp_law_by := by
  obtain ⟨fd, F⟩ := hd.c.t.d.def_ 17 (d := d_law_by) rfl
  exact calOf F (glo hd 17) (ps := ["_law_one", "_law_other"]) sc_law_by (fun ds S R PX q => by obtain ⟨_, _, e, _⟩ := q; rw [e]; rfl) (fun _ _ _ _ _ _ us hl => match us, hl with | [_, _], _ => rfl) fun cdv A outer s H E μ PX hcd hr hE => ⟨t_law_by, rd_law_by (blt hd) (cal_law_f hd) hr, fun ds S R q hc hb => sem_law_by ds S R PX q hc hb⟩

theorem cal_law_some_fraction (hd : Gd w K mg base h) : Cal P w K mg base (T36 K hd.c.more) 3 "_law_some_fraction" sp_law_some_fraction := by
  obtain ⟨fd, F⟩ := hd.c.t.d.def_ 20 (d := d_law_some_fraction) rfl
  exact calOf F (glo hd 20) (ps := ["_law_bag_here"]) sc_law_some_fraction (fun ds S R PX q => by obtain ⟨_, _, _, e, _⟩ := q; rw [e]; rfl) (fun _ _ _ _ _ _ us hl => match us, hl with | [_], _ => rfl) fun cdv A outer s H E μ PX hcd hr hE => ⟨t_law_some_fraction, rd_law_some_fraction (blt hd) (cal_law_take hd) (cal_law_some hd) hr, fun ds S R q hc hb => sem_law_some_fraction ds S R PX q⟩

theorem cal_law_over (hd : Gd w K mg base h) : Cal P w K mg base (T36 K hd.c.more) 3 "_law_over" sp_law_over := by
  obtain ⟨fd, F⟩ := hd.c.t.d.def_ 21 (d := d_law_over) rfl
  exact calOf F (glo hd 21) (ps := ["_law_one", "_law_other"]) sc_law_over (fun ds S R PX q => by obtain ⟨_, _, e, _⟩ := q; rw [e]; rfl) (fun _ _ _ _ _ _ us hl => match us, hl with | [_, _], _ => rfl) fun cdv A outer s H E μ PX hcd hr hE => ⟨t_law_over, rd_law_over (blt hd) (cal_law_f hd) hr, fun ds S R q hc hb => sem_law_over ds S R PX q⟩

theorem cal_law_power (hd : Gd w K mg base h) : Cal P w K mg base (T36 K hd.c.more) 4 "_law_power" sp_law_power := by
  obtain ⟨fd, F⟩ := hd.c.t.d.def_ 22 (d := d_law_power) rfl
  exact calOf F (glo hd 22) (ps := ["_law_t", "_law_many"]) sc_law_power (fun ds S R PX q => by obtain ⟨_, _, e, _⟩ := q; rw [e]; rfl) (fun _ _ _ _ _ _ us hl => match us, hl with | [_, _], _ => rfl) fun cdv A outer s H E μ PX hcd hr hE => ⟨t_law_power, rd_law_power (blt hd) (cal_law_by hd) hr, fun ds S R q hc hb => sem_law_power ds S R PX q⟩

theorem cal_law_greatest (hd : Gd w K mg base h) : Cal P w K mg base (T36 K hd.c.more) 4 "_law_greatest" sp_law_greatest := by
  obtain ⟨fd, F⟩ := hd.c.t.d.def_ 23 (d := d_law_greatest) rfl
  exact calOf F (glo hd 23) (ps := ["_law_weights", "_law_pairs"]) sc_law_greatest (fun ds S R PX q => by obtain ⟨_, _, e, _⟩ := q; rw [e]; rfl) (fun _ _ _ _ _ _ us hl => match us, hl with | [_, _], _ => rfl) fun cdv A outer s H E μ PX hcd hr hE => ⟨t_law_greatest, rd_law_greatest (blt hd) (cal_law_size hd) (cal_law_over hd) (cal_law_below hd) hr, fun ds S R q hc hb => sem_law_greatest ds S R PX q⟩

theorem cal_power (hd : Gd w K mg base h) {T : TabSet} : ∀ n : Nat, Cal P w K mg base T (n + 1) "power" (sp_powerN n) := by
  obtain ⟨fd, F⟩ := hd.c.t.d.def_ 8 (d := d_power) rfl
  intro n
  induction n with
  | zero =>
    exact calOf F (glo hd 8) (ps := ["one", "many"]) sc_power (fun ds S R PX ⟨_, _, e, _⟩ => by rw [e]; rfl) (fun _ _ _ _ _ _ us hl => match us, hl with | [_, _], _ => rfl) fun cdv A outer s H E μ PX hcd hr hE => ⟨t_power (fun _ _ _ _ => False), rd_power (blt hd) (cal_none (ps := ["one", "many"]) F (glo hd 8) (fun _ _ _ _ z => z) (fun _ _ _ _ _ _ us hl => match us, hl with | [_, _], _ => rfl)) hr, fun ds S R q _ _ => sem_power 0 _ (fun _ _ _ ⟨_, z, _⟩ => by cases z) ds S R PX q⟩
  | succ n ih =>
    exact calOf F (glo hd 8) (ps := ["one", "many"]) sc_power (fun ds S R PX ⟨_, _, e, _⟩ => by rw [e]; rfl) (fun _ _ _ _ _ _ us hl => match us, hl with | [_, _], _ => rfl) fun cdv A outer s H E μ PX hcd hr hE => ⟨t_power (sp_powerN n), rd_power (blt hd) ih hr, fun ds S R q _ _ => sem_power (n + 1) _ (fun _ _ _ ⟨_, z, q⟩ => by cases z; exact q) ds S R PX q⟩

theorem cal_law_bounds (hd : Gd w K mg base h) : Cal P w K mg base (T36 K hd.c.more) 5 "_law_bounds" sp_law_bounds := by
  obtain ⟨fd, F⟩ := hd.c.t.d.def_ 24 (d := d_law_bounds) rfl
  exact calOf F (glo hd 24) (ps := ["_law_weights", "_law_t", "_law_pairs", "_law_stage"]) sc_law_bounds (fun ds S R PX q => by obtain ⟨_, _, _, _, e, _⟩ := q; rw [e]; rfl) (fun _ _ _ _ _ _ us hl => match us, hl with | [_, _, _, _], _ => rfl) fun cdv A outer s H E μ PX hcd hr hE => ⟨t_law_bounds, rd_law_bounds (blt hd) (cal_law_power hd) (cal_law_greatest hd) (cal_law_by hd) hr, fun ds S R q hc hb => sem_law_bounds ds S R PX q⟩

theorem cal_stages_for (hd : Gd w K mg base h) : Cal P w K mg base (T36 K hd.c.more) 6 "stages_for" (sp_stages_for (He.ga K "TooMany")) := by
  obtain ⟨fd, F⟩ := hd.c.t.d.def_ 9 (d := d_stages_for) rfl
  exact calOf F (glo hd 9) (ps := ["weights", "t", "distances", "nearness"]) sc_stages_for (fun ds S R PX q => by obtain ⟨_, _, _, _, e, _⟩ := q; rw [e]; rfl) (fun _ _ _ _ _ _ us hl => match us, hl with | [_, _, _, _], _ => rfl) fun cdv A outer s H E μ PX hcd hr hE => ⟨t_stages_for PX (He.ga K "TooMany"), rd_stages_for (blt hd) (excTM hd) (cal_greatest hd) (cal_greatest_by hd) (cal_times hd) (cal_compare hd) (He.int_ok hd.X hd.G (hd.c.t.d.fact 46 (f := .int "MOST_STAGES" 400) rfl)) PX hE hr, fun ds S R q hc hb => sem_stages_for (He.ga K "TooMany") ds S R PX q⟩

theorem cal_law_least_stage (hd : Gd w K mg base h) : Cal P w K mg base (T36 K hd.c.more) 6 "_law_least_stage" sp_law_least_stage := by
  obtain ⟨fd, F⟩ := hd.c.t.d.def_ 25 (d := d_law_least_stage) rfl
  exact calOf F (glo hd 25) (ps := ["_law_weights", "_law_t", "_law_pairs", "_law_nearness"]) sc_law_least_stage (fun ds S R PX q => by obtain ⟨_, _, _, _, e, _⟩ := q; rw [e]; rfl) (fun _ _ _ _ _ _ us hl => match us, hl with | [_, _, _, _], _ => rfl) fun cdv A outer s H E μ PX hcd hr hE => ⟨t_law_least_stage, rd_law_least_stage (blt hd) (cal_law_bounds hd) (cal_law_by hd) (cal_law_below hd) hr, fun ds S R q hc hb => sem_law_least_stage ds S R PX q⟩

theorem cal_stage_bound (hd : Gd w K mg base h) : Cal P w K mg base (T36 K hd.c.more) 8 "stage_bound" sp_stage_bound := by
  obtain ⟨fd, F⟩ := hd.c.t.d.def_ 7 (d := d_stage_bound) rfl
  exact calOf F (glo hd 7) (ps := ["weights", "t", "distances", "stage"]) sc_stage_bound (fun ds S R PX q => by obtain ⟨_, _, _, _, e, _⟩ := q; rw [e]; rfl) (fun _ _ _ _ _ _ us hl => match us, hl with | [_, _, _, _], _ => rfl) fun cdv A outer s H E μ PX hcd hr hE => ⟨t_stage_bound, rd_stage_bound (blt hd) (cal_power hd 4) (cal_greatest_by hd) (cal_times hd) List.mem_cons_self (hd.tb _ (List.mem_map_of_mem (l := tf) (a := ("stage_bound", none)) (by decide +kernel))) hcd hr, fun ds S R q hc hb => sem_stage_bound ds S R PX q⟩

theorem cal_law_are_many_right (hd : Gd w K mg base h) : Cal P w K mg base (T36 K hd.c.more) 9 "_law_are_many_right" sp_law_are_many_right := by
  obtain ⟨fd, F⟩ := hd.c.t.d.def_ 27 (d := d_law_are_many_right) rfl
  have hearOk : HearOk K (He.ga K "TooMany") [.fld (He.ga K "TooMany") "many" "most", .nev (He.ga K "LateError")] := ⟨_, rfl, He.exm_ok (hd.c.t.d.fact 48 (f := .exm "TooMany" "TooMany" true) rfl)⟩
  exact calOf F (glo hd 27) (ps := []) sc_law_are_many_right (fun ds S R PX q => by obtain ⟨e, _⟩ := q; rw [e]; rfl) (fun _ _ _ _ _ _ us hl => match us, hl with | [], _ => rfl) fun cdv A outer s H E μ PX hcd hr hE => ⟨t_law_are_many_right (He.ga K "TooMany") K [.fld (He.ga K "TooMany") "many" "most", .nev (He.ga K "LateError")], rd_law_are_many_right (blt hd) (hearC hd) (cal_stages_for hd) (cal_law_alike hd) (hd.tb _ (List.mem_map_of_mem (l := tf) (a := ("_law_are_many_right", none)) (by decide +kernel))) hcd (by exact List.mem_cons_self) hr, fun ds S R q hc hb => sem_law_are_many_right (He.ga K "TooMany") K _ hearOk ds S R PX q⟩

theorem cal_law (hd : Gd w K mg base h) : Cal P w K mg base (T36 K hd.c.more) 12 "law" sp_law := by
  obtain ⟨fd, F⟩ := hd.c.t.d.def_ 28 (d := d_law) rfl
  have hearOk : HearOk K (He.ga K "TooMany") [.fld (He.ga K "TooMany") "many" "most", .nev (He.ga K "LateError")] := ⟨_, rfl, He.exm_ok (hd.c.t.d.fact 48 (f := .exm "TooMany" "TooMany" true) rfl)⟩
  exact calOf F (glo hd 28) (ps := ["_law_script"]) sc_law (fun ds S R PX q => by obtain ⟨_, _, e, _⟩ := q; rw [e]; rfl) (fun _ _ _ _ _ _ us hl => match us, hl with | [_], _ => rfl) fun cdv A outer s H E μ PX hcd hr hE => ⟨t_law (He.ga K "TooMany") K [.fld (He.ga K "TooMany") "many" "most", .nev (He.ga K "LateError")], rd_law (blt hd) (hearC hd) (cal_law_bag hd) (cal_law_take hd) (cal_law_are_many_right hd) (cal_law_f hd) (cal_law_some hd) (cal_law_some_fraction hd) (cal_law_size hd) (cal_law_mixed hd) (cal_stage_bound hd) (cal_law_bounds hd) (cal_law_alike hd) (cal_greatest_by hd) (cal_law_greatest hd) (cal_law_least_stage hd) (cal_stages_for hd) (hd.tb _ (List.mem_map_of_mem (l := tf) (a := ("law", none)) (by decide +kernel))) hcd (by exact List.mem_cons_of_mem _ List.mem_cons_self) hr, fun ds S R q hc hb => sem_law (He.ga K "TooMany") K _ hearOk ds S R PX q⟩

theorem law_fn (hd : Gd w K mg base h) {fd : FuncData} (F : FunD K d_law.name d_law.qual d_law.params d_law.body d_law.scope (d_law.dvs K) (d_law.kws K) (He.fAd K d_law.at_) fd) :
    FnG P w K mg base (L2.CX P w) 12 (He.fAd K ("law", none)) fd ["_law_script"] (EmbSp K mg (T36 K hd.c.more) sp_law) := by
  have hearOk : HearOk K (He.ga K "TooMany") [.fld (He.ga K "TooMany") "many" "most", .nev (He.ga K "LateError")] := ⟨_, rfl, He.exm_ok (hd.c.t.d.fact 48 (f := .exm "TooMany" "TooMany" true) rfl)⟩
  refine okG F sc_law (fun ds S R PX q => by obtain ⟨_, _, e, _⟩ := q; rw [e]; rfl) fun cdv A outer s H E μ PX hcd hr hE => ⟨t_law (He.ga K "TooMany") K [.fld (He.ga K "TooMany") "many" "most", .nev (He.ga K "LateError")], rd_law (blt hd) (hearC hd) (cal_law_bag hd) (cal_law_take hd) (cal_law_are_many_right hd) (cal_law_f hd) (cal_law_some hd) (cal_law_some_fraction hd) (cal_law_size hd) (cal_law_mixed hd) (cal_stage_bound hd) (cal_law_bounds hd) (cal_law_alike hd) (cal_greatest_by hd) (cal_law_greatest hd) (cal_law_least_stage hd) (cal_stages_for hd) (hd.tb _ (List.mem_map_of_mem (l := tf) (a := ("law", none)) (by decide +kernel))) hcd (by exact List.mem_cons_of_mem _ List.mem_cons_self) hr, fun ds S R q hc hb => sem_law (He.ga K "TooMany") K _ hearOk ds S R PX q⟩

theorem start_st {T : TabSet} {H : Hp} (h1 : ∀ P ∈ T.gen, H P = some (.tbl #[])) (h2 : ∀ p ∈ T.lam, H p.1 = some (.tbl #[])) : RSt K mg T [] H [] :=
  ⟨rfl, .nil, fun l a c e => by simp at e, fun P hP => ⟨#[], h1 P hP, trivial⟩, fun p hp => ⟨#[], h2 p hp, trivial, fun pos cv hc => by cases hc⟩⟩
theorem law_at (w : World) (mg : Str → Option Value) (fa : Addr) (h : Heap) (Y : hk.says w h) (G : h.Ns mainGlobals mg) (hm : mg "law" = some (.ref fa)) : ∃ K : PySem.W.Frag, K.In h ∧ LawG lawR w K 12 63 "_law_script" mg fa h := by
  obtain ⟨K, KX, c⟩ := Y
  obtain ⟨fd, F⟩ := c.t.d.def_ 28 (d := d_law) rfl
  have e := hm.symm.trans (He.glo_ok KX G (c.t.d.fact 28 (f := .glo "law") rfl))
  cases e
  refine ⟨K, KX, fd, tf.map (He.cT K), EmbSp K mg (T36 K c.more) sp_law, ?_, ?_, ?_, ?_, ?_, ?_⟩
  · intro p hp
    obtain ⟨q, hq, rfl⟩ := List.mem_map.mp hp
    exact c.empty q hq
  · intro p hp
    obtain ⟨q, hq, rfl⟩ := List.mem_map.mp hp
    exact c.out q hq
  · intro p hp
    obtain ⟨q, hq, rfl⟩ := List.mem_map.mp hp
    exact PySem.W.codeHd_of_K KX (c.hd q hq)
  · exact fun s v => FunD.bindsA (ps := ["_law_script"]) F (fun _ _ _ _ _ _ us hl => match us, hl with | [_], _ => rfl) s [v] rfl
  · intro H a ns hn ht hS
    have hq : ∀ q ∈ tf, H (He.cT K q).2 = some (.tbl #[]) := fun q hq => ht _ (List.mem_map_of_mem hq)
    refine ⟨[.ro (ns.map D.int)], [], [], fun d _ => d = .bl true, PXno, start_st ?_ ?_, .one (.ro hS .ints), ⟨_, ns, rfl, .inl rfl, rfl, hn, fun _ => rfl⟩, ?_, ?_⟩
    · intro P hP
      rw [List.mem_singleton.mp hP]
      exact hq _ (by decide +kernel)
    · intro p hp
      rcases List.mem_cons.mp hp with rfl | hp
      · exact hq _ (by decide +kernel)
      · rw [List.mem_singleton.mp hp]
        exact hq _ (by decide +kernel)
    · rintro d S' rfl v H' μ' _ r
      cases r
      rfl
    · rintro cls d H' ⟨_, _, _, _, _, _, _, _, _, _, _, z⟩
      exact z.elim
  · intro base kb hns tb
    exact law_fn ⟨c, kb, hns, tb⟩ F

end
end K36

open PySem PySem.W PySem.Calls PyProof.Rows
theorem PySem.Challenge.cw_onelate_k36_bounds_of_stages_holds : PySem.Challenge.rw_onelate_k36_bounds_of_stages.Holds := by
  w_on; o_law
  refine HandSHeadRun.head_imp (r := OpenLaw.row PySem.Challenge.rw_onelate_k36_bounds_of_stages) (q := Hk36.qv) (H := Hk36.hk) (ob := Hk36.ob) (M := 4000) (loose := Hk36.loose) (d := HandSHeadRun.topDef (OpenLaw.row PySem.Challenge.rw_onelate_k36_bounds_of_stages).prog 38) (kwd := [])
    Hk36.ob_eq Hk36.run (by kernel_rfl) (by kernel_rfl) (by kernel_rfl) (by rfl) (by first | assumption | decide +kernel) (by decide +kernel) ⟨rfl, rfl, rfl, rfl, rfl, by decide +kernel⟩ ?hw ?hc
  case hw => w_witness2
  case hc =>
    refine Za.walkG (l := PySem.Challenge.rw_onelate_k36_bounds_of_stages) (n := 63) (k := 12) (x := "_law_script") rfl (by decide) (by kernel_rfl) ⟨rfl, by decide, by decide⟩ fun w mg fa h Y G hm => K36.law_at w mg fa h Y G ?_
    have e : (HandSHeadRun.topDef (OpenLaw.row PySem.Challenge.rw_onelate_k36_bounds_of_stages).prog 38).name = ("law" : PySem.Str) := by kernel_rfl
    rw [← e]
    exact hm
