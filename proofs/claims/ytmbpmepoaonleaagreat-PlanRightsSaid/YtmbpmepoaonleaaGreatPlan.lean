/-
  A region that draws its order, whose operations read, or make memory of their own: each is carried out once, in any world and frame that it may meet, by what those that it waits for have left in their slots; the last few, which wait for all others, come in the text's order.
-/
import Derived.Below
import Derived.Orders
import Derived.Deep.RegionWith
import Derived.Deep.Draws
import Derived.WalkKit
import Derived.BigCall
import Derived.BigQuiet
import Derived.Shelf.Abstract
namespace Go.Proofs.YtmbpmepoaonleaaGreat
open Go.RowKit

/-! ### An order that is drawn, by what holds whichever operations are listed -/

/-- How many of the first n are not listed. -/
def missing (listed : Array Bool) : Nat → Nat
  | 0 => 0
  | n + 1 => missing listed n + (if listed.getD n true = true then 0 else 1)

theorem missing_le (listed : Array Bool) : ∀ n, missing listed n ≤ n
  | 0 => Nat.le_refl _
  | n + 1 => by
    have := missing_le listed n
    unfold missing
    split <;> omega

theorem missing_zero (listed : Array Bool) : ∀ n, missing listed n = 0 → ∀ i, i < n → listed.getD i true = true
  | 0, _, i, h => absurd h (Nat.not_lt_zero _)
  | n + 1, h, i, hi => by
    unfold missing at h
    by_cases e : i = n
    · subst e
      by_cases e2 : listed.getD i true = true
      · exact e2
      · rw [if_neg e2] at h; omega
    · exact missing_zero listed n (by omega) i (by omega)

theorem missing_same (listed : Array Bool) (i : Nat) : ∀ n, n ≤ i → missing (listed.setIfInBounds i true) n = missing listed n
  | 0, _ => rfl
  | n + 1, h => by
    unfold missing
    rw [missing_same listed i n (by omega), getD_set_ne true (by omega)]

theorem missing_set (listed : Array Bool) (i : Nat) (hi : listed.getD i true = false) : ∀ n, i < n → missing (listed.setIfInBounds i true) n + 1 = missing listed n
  | 0, h => absurd h (Nat.not_lt_zero _)
  | n + 1, h => by
    unfold missing
    by_cases e : i = n
    · subst e
      have hlt : i < listed.size := by
        rcases Nat.lt_or_ge i listed.size with h' | h'
        · exact h'
        · simp [Array.getElem?_eq_none h'] at hi
      have hs : (listed.setIfInBounds i true).getD i true = true := by simp [hlt]
      rw [missing_same listed i i (Nat.le_refl _), if_pos hs, if_neg (by rw [hi]; decide)]
    · have := missing_set listed i hi n (by omega)
      rw [getD_set_ne true e]
      omega

theorem wpAny_inv {P : Program} {ops : Array Oper} {Q : Exit → Act → World → Prop} {md : Region.Mode} (Inv : Array Bool → Act → World → Prop)
    (hdone : ∀ listed a w, Region.ready md ops listed = [] → Inv listed a w → Q .normal a w)
    (hstep : ∀ listed a w i, i ∈ Region.ready md ops listed → Inv listed a w → wpOp P ops Q i (Inv (listed.setIfInBounds i true)) a w) :
    ∀ fuel listed a w, missing listed ops.size ≤ fuel → Inv listed a w → wpAny P md ops Q fuel listed a w := by
  intro fuel
  induction fuel with
  | zero =>
    intro listed a w hf hI
    have hr : Region.ready md ops listed = [] := by
      rw [List.eq_nil_iff_forall_not_mem]
      intro i hi
      obtain ⟨h1, o, ho, _⟩ := mem_ready.1 hi
      have := missing_zero listed ops.size (by omega) i (Array.getElem?_eq_some_iff.1 ho).1
      rw [h1] at this; cases this
    exact ⟨hr, hdone _ _ _ hr hI⟩
  | succ fuel ih =>
    intro listed a w hf hI
    refine ⟨fun hr => hdone _ _ _ hr hI, fun i hi => wpOp_mono (fun a' w' h' => ih _ _ _ ?_ h') (hstep _ _ _ i hi hI)⟩
    obtain ⟨h1, o, ho, _⟩ := mem_ready.1 hi
    have := missing_set listed i h1 ops.size (Array.getElem?_eq_some_iff.1 ho).1
    omega

/-! ### What each operation leaves -/

/-- What an operation leaves in its slot; a pointer to a new block, or not. What holds of it stays so where nothing that was there has changed. -/
structure Sp where
  p : World → Value → Prop
  new : Bool
  st : ∀ (w w' : World) (v : Value), Below w.heap.size w w' → p w v → p w' v

/-- Just this value. -/
def is (c : Value) : Sp := ⟨fun _ v => v = c, false, fun _ _ _ _ h => h⟩

/-- The operations that it waits for. -/
def preds (o : Oper) : List Nat := (o.after.toList.filter (fun e => Region.binds .any e)).map (·.on)
def predsAt (os : List Oper) (i : Nat) : List Nat := ((os[i]?).map preds).getD []

theorem mem_preds {o : Oper} {j : Nat} : j ∈ preds o ↔ ∃ e ∈ o.after, Region.binds .any e = true ∧ e.on = j := by
  unfold preds
  simp only [List.mem_map, List.mem_filter, Array.mem_toList_iff]
  exact ⟨fun ⟨e, ⟨h1, h2⟩, h3⟩ => ⟨e, h1, h2, h3⟩, fun ⟨e, h1, h2, h3⟩ => ⟨e, ⟨h1, h2⟩, h3⟩⟩

/-- All that come ahead of place j in the text are waited for by it, at once or through others. -/
def covers (os : List Oper) (j : Nat) : Bool := (List.range j).all fun i => (predsAt os j).contains i || (List.range j).any fun i' => decide (i < i') && (predsAt os i').contains i
def ahead0 (os : List Oper) : Bool := (List.range os.length).all fun i => (predsAt os i).all fun j => decide (j < i)
def slotsOk (os : List Oper) (n : Nat) : Bool := (os.all fun o => match o.dst with | some d => decide (d < n) | none => false) && decide ((os.map (·.dst)).Nodup)

def planOk (os : List Oper) (k n : Nat) : Bool := decide (k ≤ os.length) && ahead0 os && slotsOk (os.take k) n && (List.range os.length).all fun j => decide (j < k) || covers os j

/-- A pointer to a block from n on, below m. -/
def Ptr (v : Value) (n m : Nat) : Prop := ∃ g, v = .pointer (some ⟨g, 0, none⟩) ∧ n ≤ g ∧ g < m

def noDst (os : List Oper) (k : Nat) : Bool := os.all fun o => o.dst != some k

structure Fr (os : List Oper) (Ss : List Sp) (a0 : Act) (w0 : World) (listed : Array Bool) (a : Act) (w : World) : Prop where
  low : Below w0.heap.size w0 w
  defers : a.defers = a0.defers
  size : a.tmps.size = a0.tmps.size
  old : ∀ k, noDst (os.take Ss.length) k = true → a.tmps[k]? = a0.tmps[k]?
  val : ∀ i o S d, os[i]? = some o → Ss[i]? = some S → listed.getD i false = true → o.dst = some d → ∃ v, a.tmps[d]? = some v ∧ S.p w v ∧ (S.new = true → Ptr v w0.heap.size w.heap.size)
  apart : ∀ i j o o' S S' d d' u v, i ≠ j → os[i]? = some o → os[j]? = some o' → Ss[i]? = some S → Ss[j]? = some S' → listed.getD i false = true → listed.getD j false = true → S.new = true → S'.new = true → o.dst = some d → o'.dst = some d' → a.tmps[d]? = some u → a.tmps[d']? = some v → u ≠ v

def StepOk (P : Program) (os : List Oper) (Ss : List Sp) (Q : Exit → Act → World → Prop) (a0 : Act) (w0 : World) (o : Oper) (S : Sp) : Prop :=
  ∀ (a : Act) (w : World), Below w0.heap.size w0 w → (∀ k, noDst (os.take Ss.length) k = true → a.tmps[k]? = a0.tmps[k]?) → (∀ j o' S' d, j ∈ preds o → os[j]? = some o' → Ss[j]? = some S' → o'.dst = some d → ∃ v, a.tmps[d]? = some v ∧ S'.p w v) →
    (Region.wanted o (yielded os.toArray a.tmps) = true ∧ o.wp P a w (fun a' w' => ∃ v, a' = a.put o.dst v ∧ Below w.heap.size w w' ∧ S.p w' v ∧ (S.new = true → Ptr v w.heap.size w'.heap.size)) Q) ∨
    (Region.wanted o (yielded os.toArray a.tmps) = false ∧ S.p w undef ∧ S.new = false)

def StepsP (X : Oper → Sp → Prop) : List Oper → List Sp → Prop
  | o :: os, S :: Ss => X o S ∧ StepsP X os Ss
  | _, _ => True
theorem StepsP.cons {X : Oper → Sp → Prop} {o : Oper} {S : Sp} {os : List Oper} {Ss : List Sp} (h : X o S) (h' : StepsP X os Ss) : StepsP X (o :: os) (S :: Ss) := ⟨h, h'⟩
theorem StepsP.nil {X : Oper → Sp → Prop} {os : List Oper} : StepsP X os [] := by cases os <;> trivial
theorem StepsP.get {X : Oper → Sp → Prop} : ∀ {os : List Oper} {Ss : List Sp}, StepsP X os Ss → ∀ (i : Nat) (o : Oper) (S : Sp), os[i]? = some o → Ss[i]? = some S → X o S
  | [], _, _, i, o, S, h, _ => by simp at h
  | _ :: _, [], _, i, o, S, _, h => by simp at h
  | x :: os, y :: Ss, hs, 0, o, S, h1, h2 => by
    simp at h1 h2
    subst h1 h2
    exact hs.1
  | x :: os, y :: Ss, hs, i + 1, o, S, h1, h2 => StepsP.get hs.2 i o S (by simpa using h1) (by simpa using h2)

/-- Behind them all: each slot holds what is said of it. -/
def EndP (n0 : Nat) (w : World) (G : Act → Prop) : List Oper → List Sp → List Value → Act → Prop
  | o :: os, S :: Ss, news, a => ∀ v, S.p w v → (S.new = true → Ptr v n0 w.heap.size ∧ ∀ u ∈ news, u ≠ v) → EndP n0 w G os Ss (if S.new then v :: news else news) (a.put o.dst v)
  | _, _, _, a => G a
section
variable {n0 : Nat} {w : World} {G : Act → Prop} {o : Oper} {S : Sp} {os : List Oper} {Ss : List Sp} {news : List Value} {a : Act}
theorem EndP.nil (h : G a) : EndP n0 w G os [] news a := by cases os <;> exact h
theorem EndP.is {c : Value} (h : EndP n0 w G os Ss news (a.put o.dst c)) : EndP n0 w G (o :: os) (is c :: Ss) news a := by
  intro v hv _
  cases hv
  exact h
theorem EndP.sp (hS : S.new = false) (h : ∀ v, S.p w v → EndP n0 w G os Ss news (a.put o.dst v)) : EndP n0 w G (o :: os) (S :: Ss) news a := by
  intro v hv _
  rw [if_neg (by rw [hS]; decide)]
  exact h v hv
theorem EndP.new (hS : S.new = true) (h : ∀ g, S.p w (.pointer (some ⟨g, 0, none⟩)) → n0 ≤ g ∧ g < w.heap.size → (∀ u ∈ news, u ≠ .pointer (some ⟨g, 0, none⟩)) → EndP n0 w G os Ss (.pointer (some ⟨g, 0, none⟩) :: news) (a.put o.dst (.pointer (some ⟨g, 0, none⟩)))) : EndP n0 w G (o :: os) (S :: Ss) news a := by
  intro v hv hn
  obtain ⟨⟨g, rfl, h0, h1⟩, h2⟩ := hn hS
  rw [if_pos hS]
  exact h g hv ⟨h0, h1⟩ h2
end

/-! ### The theorem -/

theorem listed_both {listed : Array Bool} {i : Nat} (h : listed.getD i true = false) : i < listed.size ∧ listed.getD i false = false := by
  rcases Nat.lt_or_ge i listed.size with h' | h'
  · refine ⟨h', ?_⟩
    simp [h'] at h ⊢
    exact h
  · simp [Array.getElem?_eq_none h'] at h
theorem not_listed {listed : Array Bool} {i : Nat} (hi : i < listed.size) (h : ¬ listed.getD i false = true) : listed.getD i true = false := by
  simp [hi] at h ⊢
  exact h

def Down (os : List Oper) (listed : Array Bool) : Prop := ∀ i o, os[i]? = some o → listed.getD i false = true → ∀ j ∈ preds o, listed.getD j false = true

theorem covered {os : List Oper} {listed : Array Bool} {j : Nat} {o : Oper} (hd : Down os listed) (ho : os[j]? = some o) (hp : ∀ i ∈ preds o, listed.getD i false = true) (hc : covers os j = true) : ∀ i, i < j → listed.getD i false = true := by
  have key : ∀ n i, j - i ≤ n → i < j → listed.getD i false = true := by
    intro n
    induction n with
    | zero => intro i h1 h2; omega
    | succ n ih =>
      intro i h1 h2
      unfold covers at hc
      rw [List.all_eq_true] at hc
      have := hc i (List.mem_range.2 h2)
      rw [Bool.or_eq_true] at this
      rcases this with h | h
      · rw [List.contains_iff_mem] at h
        simp only [predsAt, ho, Option.map_some, Option.getD_some] at h
        exact hp i h
      · rw [List.any_eq_true] at h
        obtain ⟨i', h3, h4⟩ := h
        rw [Bool.and_eq_true, decide_eq_true_eq, List.contains_iff_mem] at h4
        have h5 := List.mem_range.1 h3
        have h6 := ih i' (by omega) h5
        cases ho' : os[i']? with
        | none => simp [predsAt, ho'] at h4
        | some o' =>
          simp only [predsAt, ho', Option.map_some, Option.getD_some] at h4
          exact hd i' o' ho' h6 i h4.2
  exact fun i hi => key (j - i) i (Nat.le_refl _) hi

theorem ready_preds {os : List Oper} {listed : Array Bool} {j : Nat} (h : j ∈ Region.ready .any os.toArray listed) : listed.getD j true = false ∧ ∃ o, os[j]? = some o ∧ ∀ i ∈ preds o, listed.getD i false = true := by
  obtain ⟨h1, o, h2, h3⟩ := mem_ready.1 h
  refine ⟨h1, o, by simpa using h2, fun i hi => ?_⟩
  obtain ⟨e, he, hb, rfl⟩ := mem_preds.1 hi
  exact h3 e he hb

theorem all_listed {os : List Oper} {listed : Array Bool} (hs : listed.size = os.length) (hw : ahead0 os = true) (h : Region.ready .any os.toArray listed = []) : ∀ i, i < os.length → listed.getD i false = true := by
  intro i
  induction i using Nat.strongRecOn with
  | _ i ih =>
    intro hi
    by_cases e : listed.getD i false = true
    · exact e
    · have ho : os[i]? = some os[i] := List.getElem?_eq_getElem hi
      have hm : i ∈ Region.ready .any os.toArray listed := mem_ready.2 ⟨not_listed (by omega) e, os[i], by simp [hi], fun e' he' hb => by
        have hp : e'.on ∈ preds os[i] := mem_preds.2 ⟨e', he', hb, rfl⟩
        unfold ahead0 at hw
        rw [List.all_eq_true] at hw
        have h2 := hw i (List.mem_range.2 hi)
        rw [List.all_eq_true] at h2
        have h3 := h2 e'.on (by simp only [predsAt, ho, Option.map_some, Option.getD_some]; exact hp)
        have h4 : e'.on < i := of_decide_eq_true h3
        exact ih e'.on h4 (by omega)⟩
      rw [h] at hm; cases hm

theorem put_ne {a : Act} {d k : Nat} {v : Value} (h : d ≠ k) : (a.put (some d) v).tmps[k]? = a.tmps[k]? := by
  show (a.tmps.setIfInBounds d v)[k]? = _
  rw [Array.getElem?_setIfInBounds_ne h]
theorem put_eq {a : Act} {d : Nat} {v : Value} (h : d < a.tmps.size) : (a.put (some d) v).tmps[d]? = some v := by
  show (a.tmps.setIfInBounds d v)[d]? = _
  rw [Array.getElem?_setIfInBounds_self_of_lt h]

theorem slots {os : List Oper} {n : Nat} (h : slotsOk os n = true) {i : Nat} {o : Oper} (ho : os[i]? = some o) : ∃ d, o.dst = some d ∧ d < n := by
  unfold slotsOk at h
  rw [Bool.and_eq_true, List.all_eq_true] at h
  have := h.1 o (List.mem_of_getElem? ho)
  cases hd : o.dst with
  | none => rw [hd] at this; cases this
  | some d => rw [hd] at this; exact ⟨d, rfl, of_decide_eq_true this⟩
theorem slots_ne {os : List Oper} {n : Nat} (h : slotsOk os n = true) {i j : Nat} {o o' : Oper} {d d' : Nat} (ho : os[i]? = some o) (ho' : os[j]? = some o') (hne : i ≠ j) (hd : o.dst = some d) (hd' : o'.dst = some d') : d ≠ d' := by
  unfold slotsOk at h
  rw [Bool.and_eq_true, decide_eq_true_eq] at h
  intro e
  have hn := h.2
  have hi : i < os.length := (List.getElem?_eq_some_iff.1 ho).1
  have hj : j < os.length := (List.getElem?_eq_some_iff.1 ho').1
  have e1 : (os.map (·.dst))[i]? = some (some d) := by rw [List.getElem?_map, ho, Option.map_some, hd]
  have e2 : (os.map (·.dst))[j]? = some (some d) := by rw [List.getElem?_map, ho', Option.map_some, hd', e]
  exact hne ((List.getElem?_inj (by simpa using hi) hn).1 (e1.trans e2.symm))

theorem take_get {α : Type} {l : List α} {k i : Nat} (h : i < k) : (l.take k)[i]? = l[i]? := by
  rw [List.getElem?_take]; simp [h]

theorem Fr.step {os : List Oper} {Ss : List Sp} {a0 : Act} {w0 : World} {listed : Array Bool} {a : Act} {w w1 : World} (h : Fr os Ss a0 w0 listed a w) (hs : slotsOk (os.take Ss.length) a0.tmps.size = true)
    {i : Nat} {o : Oper} {S : Sp} (ho : os[i]? = some o) (hS : Ss[i]? = some S) {v : Value} (hB : Below w.heap.size w w1) (hp : S.p w1 v) (hn : S.new = true → Ptr v w.heap.size w1.heap.size) (hi : listed.getD i true = false) :
    Fr os Ss a0 w0 (listed.setIfInBounds i true) (a.put o.dst v) w1 := by
  have hik : i < Ss.length := (List.getElem?_eq_some_iff.1 hS).1
  obtain ⟨d, hd, hdn⟩ := slots hs ((take_get hik).trans ho)
  obtain ⟨hi1, hi2⟩ := listed_both hi
  have hlt : ∀ j S', Ss[j]? = some S' → j < Ss.length := fun j S' h => (List.getElem?_eq_some_iff.1 h).1
  have hL : ∀ j, (listed.setIfInBounds i true).getD j false = true → j ≠ i → listed.getD j false = true := fun j h hne => by
    rw [getD_set_ne false (Ne.symm hne)] at h; exact h
  refine ⟨h.low.trans (hB.mono h.low.size), ?_, ?_, fun k hk => ?_, fun j o' S' d' ho' hS' hl hd' => ?_, fun j j' o1 o2 S1 S2 d1 d2 u1 u2 hne h1 h2 h3 h4 h5 h6 h7 h8 h9 h10 h11 h12 => ?_⟩
  · rw [hd]; exact h.defers
  · rw [hd]
    show (a.tmps.setIfInBounds d v).size = _
    rw [Array.size_setIfInBounds]; exact h.size
  · rw [hd, put_ne ?_]
    · exact h.old k hk
    · intro e
      unfold noDst at hk
      rw [List.all_eq_true] at hk
      have := hk o (List.mem_of_getElem? ((take_get hik).trans ho))
      rw [hd, e] at this
      simp at this
  · by_cases e : j = i
    · subst e
      rw [ho] at ho'; cases ho'
      rw [hS] at hS'; cases hS'
      rw [hd] at hd'; cases hd'
      exact ⟨v, by rw [hd, put_eq (by rw [h.size]; exact hdn)], hp, fun hn' => by obtain ⟨g, e1, e2, e3⟩ := hn hn'; exact ⟨g, e1, Nat.le_trans h.low.size e2, e3⟩⟩
    · obtain ⟨u, hu, hpu, hnu⟩ := h.val j o' S' d' ho' hS' (hL j hl e) hd'
      refine ⟨u, ?_, S'.st _ _ _ hB hpu, fun hn' => ?_⟩
      · rw [hd, put_ne (slots_ne hs ((take_get hik).trans ho) ((take_get (hlt j S' hS')).trans ho') (Ne.symm e) hd hd')]
        exact hu
      · obtain ⟨g, e1, e2, e3⟩ := hnu hn'
        exact ⟨g, e1, e2, Nat.lt_of_lt_of_le e3 hB.size⟩
  · by_cases e : j = i
    · subst e
      rw [ho] at h1; cases h1
      rw [hS] at h3; cases h3
      rw [hd] at h9; cases h9
      have e2 := Ne.symm hne
      obtain ⟨y, hy, _, hny⟩ := h.val j' o2 S2 d2 h2 h4 (hL j' h6 e2) h10
      rw [hd, put_eq (by rw [h.size]; exact hdn)] at h11
      rw [hd, put_ne (slots_ne hs ((take_get hik).trans ho) ((take_get (hlt j' S2 h4)).trans h2) hne hd h10)] at h12
      rw [hy] at h12
      cases h11; cases h12
      obtain ⟨g1, q1, q2, _⟩ := hn h7
      obtain ⟨g2, q3, _, q4⟩ := hny h8
      subst q1 q3
      intro hx
      cases hx
      omega
    · by_cases e2 : j' = i
      · subst e2
        rw [ho] at h2; cases h2
        rw [hS] at h4; cases h4
        rw [hd] at h10; cases h10
        obtain ⟨y, hy, _, hny⟩ := h.val j o1 S1 d1 h1 h3 (hL j h5 e) h9
        rw [hd, put_eq (by rw [h.size]; exact hdn)] at h12
        rw [hd, put_ne (slots_ne hs ((take_get hik).trans ho) ((take_get (hlt j S1 h3)).trans h1) (Ne.symm e) hd h9)] at h11
        rw [hy] at h11
        cases h11; cases h12
        obtain ⟨g1, q1, q2, _⟩ := hn h8
        obtain ⟨g2, q3, _, q4⟩ := hny h7
        subst q1 q3
        intro hx
        cases hx
        omega
      · rw [hd, put_ne (slots_ne hs ((take_get hik).trans ho) ((take_get (hlt j S1 h3)).trans h1) (Ne.symm e) hd h9)] at h11
        rw [hd, put_ne (slots_ne hs ((take_get hik).trans ho) ((take_get (hlt j' S2 h4)).trans h2) (Ne.symm e2) hd h10)] at h12
        exact h.apart j j' o1 o2 S1 S2 d1 d2 u1 u2 hne h1 h2 h3 h4 (hL j h5 e) (hL j' h6 e2) h7 h8 h9 h10 h11 h12

/-- Where all are listed the frame is the first one with all that was put. -/
theorem Fr.ends {os : List Oper} {Ss : List Sp} {a0 : Act} {w0 : World} {listed : Array Bool} {a : Act} {w : World} (h : Fr os Ss a0 w0 listed a w) (hs : slotsOk (os.take Ss.length) a0.tmps.size = true) (hk : Ss.length ≤ os.length)
    (hl : ∀ i, i < Ss.length → listed.getD i false = true) {G : Act → Prop} (hE : EndP w0.heap.size w G os Ss [] a0) : G a := by
  -- from place i on
  have key : ∀ n i (news : List Value) (b : Act), Ss.length - i = n → i ≤ Ss.length → b.defers = a0.defers → b.tmps.size = a0.tmps.size →
      (∀ k, (∀ j o, i ≤ j → j < Ss.length → os[j]? = some o → o.dst ≠ some k) → b.tmps[k]? = a.tmps[k]?) →
      (∀ u ∈ news, ∃ j o S d, j < i ∧ os[j]? = some o ∧ Ss[j]? = some S ∧ S.new = true ∧ o.dst = some d ∧ a.tmps[d]? = some u) →
      EndP w0.heap.size w G (os.drop i) (Ss.drop i) news b → G a := by
    intro n
    induction n with
    | zero =>
      intro i news b hn hi hd hz hb _ hE
      have ei : i = Ss.length := by omega
      subst ei
      rw [List.drop_length] at hE
      have hG : G b := by
        cases hos : os.drop Ss.length <;> rw [hos] at hE <;> exact hE
      have e : b = a := by
        obtain ⟨bt, bd⟩ := b
        obtain ⟨t, d⟩ := a
        have e1 : bd = d := hd.trans h.defers.symm
        have e2 : bt = t := Array.ext_getElem? (fun k => hb k (fun j o h1 h2 => absurd h1 (by omega)))
        rw [e1, e2]
      rw [← e]; exact hG
    | succ n ih =>
      intro i news b hn hi hd hz hb hnews hE
      have hik : i < Ss.length := by omega
      have hio : i < os.length := by omega
      rw [List.drop_eq_getElem_cons hik, List.drop_eq_getElem_cons hio] at hE
      have ho : os[i]? = some os[i] := List.getElem?_eq_getElem hio
      have hS : Ss[i]? = some Ss[i] := List.getElem?_eq_getElem hik
      obtain ⟨d, hdst, hdn⟩ := slots hs ((take_get hik).trans ho)
      obtain ⟨v, hv, hp, hnew⟩ := h.val i _ _ d ho hS (hl i hik) hdst
      have hE' := hE v hp (fun hn' => ⟨hnew hn', fun u hu => by
        obtain ⟨j, o, S, d', hj, h1, h2, h3, h4, h5⟩ := hnews u hu
        exact h.apart j i o os[i] S Ss[i] d' d u v (by omega) h1 ho h2 hS (hl j (by omega)) (hl i hik) h3 hn' h4 hdst h5 hv⟩)
      refine ih (i + 1) (if Ss[i].new then v :: news else news) (b.put os[i].dst v) (by omega) (by omega) ?_ ?_ ?_ ?_ hE'
      · rw [hdst]; exact hd
      · rw [hdst]
        show (b.tmps.setIfInBounds d v).size = _
        rw [Array.size_setIfInBounds]; exact hz
      · intro k hk
        rw [hdst]
        by_cases e : d = k
        · subst e
          rw [put_eq (by rw [hz]; exact hdn)]; exact hv.symm
        · rw [put_ne e]
          refine hb k (fun j o h1 h2 h3 => ?_)
          by_cases ej : j = i
          · subst ej
            rw [ho] at h3; cases h3
            rw [hdst]; intro e'; cases e'; exact e rfl
          · exact hk j o (by omega) h2 h3
      · intro u hu
        by_cases e : Ss[i].new = true
        · rw [if_pos e] at hu
          rcases List.mem_cons.1 hu with rfl | hu
          · exact ⟨i, _, _, d, by omega, ho, hS, e, hdst, hv⟩
          · obtain ⟨j, o, S, d', hj, rest⟩ := hnews u hu
            exact ⟨j, o, S, d', by omega, rest⟩
        · rw [if_neg e] at hu
          obtain ⟨j, o, S, d', hj, rest⟩ := hnews u hu
          exact ⟨j, o, S, d', by omega, rest⟩
  refine key (Ss.length - 0) 0 [] a0 rfl (Nat.zero_le _) rfl rfl (fun k hk => ?_) (fun u hu => absurd hu (by simp)) (by simpa using hE)
  refine (h.old k ?_).symm
  unfold noDst
  rw [List.all_eq_true]
  intro o ho
  obtain ⟨j, hj⟩ := List.mem_iff_getElem?.1 ho
  have hjk : j < Ss.length := by
    have := (List.getElem?_eq_some_iff.1 hj).1
    simp at this
    omega
  have := hk j o (Nat.zero_le _) hjk ((take_get hjk).symm.trans hj)
  simpa using this

theorem wpAny_plan {P : Program} {os : List Oper} {Q : Exit → Act → World → Prop} {a0 : Act} {w0 w1 : World} (h01 : Below w0.heap.size w0 w1) (Ss : List Sp) (hc : planOk os Ss.length a0.tmps.size = true)
    (hsteps : StepsP (StepOk P os Ss Q a0 w0) os Ss)
    (hend : ∀ w, Below w0.heap.size w0 w → EndP w0.heap.size w (fun a => wpList P os.toArray Q (os.drop Ss.length) a w) os Ss [] a0) :
    wpAny P .any os.toArray Q os.length (Array.replicate os.length false) a0 w1 := by
  unfold planOk at hc
  rw [Bool.and_eq_true, Bool.and_eq_true, Bool.and_eq_true, decide_eq_true_eq, List.all_eq_true] at hc
  obtain ⟨⟨⟨hk, hw⟩, hs⟩, hcov⟩ := hc
  have hcv : ∀ j, Ss.length ≤ j → j < os.length → covers os j = true := fun j h1 h2 => by
    have := hcov j (List.mem_range.2 h2)
    rw [Bool.or_eq_true, decide_eq_true_eq] at this
    rcases this with h | h
    · omega
    · exact h
  refine wpAny_inv (fun listed a w => listed.size = os.length ∧ Down os listed ∧ ((∀ j, Ss.length ≤ j → j < os.length → listed.getD j true = false) ∧ Fr os Ss a0 w0 listed a w ∨
      ∃ m, Ss.length < m ∧ m ≤ os.length ∧ (∀ j, j < m → listed.getD j false = true) ∧ (∀ j, m ≤ j → j < os.length → listed.getD j true = false) ∧ wpList P os.toArray Q (os.drop m) a w)) ?_ ?_ _ _ _ _ ?_ ?_
  · rintro listed a w hr ⟨hz, hD, ⟨htail, hF⟩ | ⟨m, hm1, hm2, hm3, hm4, hW⟩⟩
    · have hall := all_listed hz hw hr
      have hkn : Ss.length = os.length := by
        rcases Nat.lt_or_ge Ss.length os.length with h | h
        · have h1 := (listed_both (htail Ss.length (Nat.le_refl _) h)).2
          rw [hall Ss.length h] at h1; cases h1
        · omega
      have := hF.ends hs hk (fun i hi => hall i (by omega)) (hend w hF.low)
      rw [hkn, List.drop_length] at this
      exact this
    · have hall := all_listed hz hw hr
      have hmn : m = os.length := by
        rcases Nat.lt_or_ge m os.length with h | h
        · have h1 := (listed_both (hm4 m (Nat.le_refl _) h)).2
          rw [hall m h] at h1; cases h1
        · omega
      subst hmn
      rw [List.drop_length] at hW
      exact hW
  · rintro listed a w i hi ⟨hz, hD, hI⟩
    obtain ⟨h1, o, ho, hp⟩ := ready_preds hi
    have hin : i < os.length := (List.getElem?_eq_some_iff.1 ho).1
    have hoA : os.toArray[i]? = some o := by simpa using ho
    have hz' : (listed.setIfInBounds i true).size = os.length := by rw [Array.size_setIfInBounds]; exact hz
    have hD' : Down os (listed.setIfInBounds i true) := by
      intro j o' ho' hl j' hj'
      by_cases e : j = i
      · subst e
        rw [ho] at ho'; cases ho'
        exact getD_set_true (hp j' hj')
      · rw [getD_set_ne false (Ne.symm e)] at hl
        exact getD_set_true (hD j o' ho' hl j' hj')
    -- one of those that come in the text's order
    have hlate : ∀ m, Ss.length ≤ m → i = m → (∀ j, j < m → listed.getD j false = true) → (∀ j, m ≤ j → j < os.length → listed.getD j true = false) → wpList P os.toArray Q (os.drop m) a w →
        wpOp P os.toArray Q i (fun a w => (listed.setIfInBounds i true).size = os.length ∧ Down os (listed.setIfInBounds i true) ∧ ((∀ j, Ss.length ≤ j → j < os.length → (listed.setIfInBounds i true).getD j true = false) ∧ Fr os Ss a0 w0 (listed.setIfInBounds i true) a w ∨
          ∃ m, Ss.length < m ∧ m ≤ os.length ∧ (∀ j, j < m → (listed.setIfInBounds i true).getD j false = true) ∧ (∀ j, m ≤ j → j < os.length → (listed.setIfInBounds i true).getD j true = false) ∧ wpList P os.toArray Q (os.drop m) a w)) a w := by
      intro m hm e h2 h3 hW
      subst e
      have ed : os.drop i = o :: os.drop (i + 1) := by
        rw [List.drop_eq_getElem_cons hin]
        congr 1
        rw [List.getElem?_eq_getElem hin] at ho
        exact Option.some.inj ho
      rw [ed] at hW
      have hW' : wpOp P os.toArray Q i (wpList P os.toArray Q (os.drop (i + 1))) a w := by
        unfold wpOp
        rw [hoA]
        exact hW
      refine wpOp_mono (fun a' w' h' => ⟨hz', hD', .inr ⟨i + 1, by omega, hin, fun j hj => ?_, fun j hj hj2 => ?_, h'⟩⟩) hW'
      · by_cases e : j = i
        · subst e
          have hlt := (listed_both h1).1
          simp [hlt]
        · exact getD_set_true (h2 j (by omega))
      · rw [getD_set_ne true (by omega)]
        exact h3 j (by omega) hj2
    rcases hI with ⟨htail, hF⟩ | ⟨m, hm1, hm2, hm3, hm4, hW⟩
    · rcases Nat.lt_or_ge i Ss.length with hik | hik
      · have hS : Ss[i]? = some Ss[i] := List.getElem?_eq_getElem hik
        have hst := hsteps.get i o _ ho hS a w hF.low (fun k hk' => hF.old k hk') (fun j o' S' d hj ho' hS' hd' => by
          obtain ⟨v, e1, e2, _⟩ := hF.val j o' S' d ho' hS' (hp j hj) hd'
          exact ⟨v, e1, e2⟩)
        have hnext : ∀ v w', Below w.heap.size w w' → Ss[i].p w' v → (Ss[i].new = true → Ptr v w.heap.size w'.heap.size) → (listed.setIfInBounds i true).size = os.length ∧ Down os (listed.setIfInBounds i true) ∧ ((∀ j, Ss.length ≤ j → j < os.length → (listed.setIfInBounds i true).getD j true = false) ∧ Fr os Ss a0 w0 (listed.setIfInBounds i true) (a.put o.dst v) w' ∨
          ∃ m, Ss.length < m ∧ m ≤ os.length ∧ (∀ j, j < m → (listed.setIfInBounds i true).getD j false = true) ∧ (∀ j, m ≤ j → j < os.length → (listed.setIfInBounds i true).getD j true = false) ∧ wpList P os.toArray Q (os.drop m) (a.put o.dst v) w') := fun v w' hB hp' hn' =>
          ⟨hz', hD', .inl ⟨fun j hj hj2 => by rw [getD_set_ne true (by omega)]; exact htail j hj hj2, hF.step hs ho hS hB hp' hn' h1⟩⟩
        unfold wpOp
        rw [hoA]
        simp only
        rcases hst with ⟨hw1, hw2⟩ | ⟨hw1, hw2, hw3⟩
        · rw [if_pos hw1]
          exact .inl (Oper.wp_mono (fun a' w' ⟨v, e, hB, hp', hn'⟩ => by rw [e]; exact hnext v w' hB hp' hn') hw2)
        · rw [if_neg (by rw [hw1]; decide)]
          exact hnext undef w (Below.refl _ _) hw2 (fun h => by rw [hw3] at h; cases h)
      · have hbelow := covered hD ho hp (hcv i hik hin)
        have ei : i = Ss.length := by
          rcases Nat.lt_or_ge Ss.length i with h | h
          · have h2 := (listed_both (htail Ss.length (Nat.le_refl _) (by omega))).2
            rw [hbelow Ss.length h] at h2; cases h2
          · omega
        exact hlate Ss.length (Nat.le_refl _) ei (fun j hj => hbelow j (by omega)) htail (hF.ends hs hk (fun j hj => hbelow j (by omega)) (hend w hF.low))
    · have him : m ≤ i := by
        rcases Nat.lt_or_ge i m with h | h
        · have h2 := (listed_both h1).2
          rw [hm3 i h] at h2; cases h2
        · exact h
      have hbelow := covered hD ho hp (hcv i (by omega) hin)
      have ei : i = m := by
        rcases Nat.lt_or_ge m i with h | h
        · have h2 := (listed_both (hm4 m (Nat.le_refl _) (by omega))).2
          rw [hbelow m h] at h2; cases h2
        · omega
      exact hlate m (by omega) ei hm3 hm4 hW
  · simpa using missing_le _ _
  · have hf : ∀ i, i < os.length → (Array.replicate os.length false).getD i true = false := fun i hi => by simp [hi]
    have hf2 : ∀ i, ¬ (Array.replicate os.length false).getD i false = true := fun i => by
      by_cases hi : i < os.length
      · simp [hi]
      · simp [hi]
    exact ⟨by simp, fun i o _ h => absurd h (hf2 i), .inl ⟨fun j _ hj => hf j hj, h01, rfl, rfl, fun _ _ => rfl, fun i _ _ _ _ _ h => absurd h (hf2 i), fun i _ _ _ _ _ _ _ _ _ _ _ _ _ _ h => absurd h (hf2 i)⟩⟩

theorem wp_region_plan {P : Program} {id : Nat} {os : List Oper} {Q : Exit → Act → World → Prop} {a0 : Act} {w0 : World} (Ss : List Sp) (hm : P.follows .mixedOrders = true) (hc : planOk os Ss.length a0.tmps.size = true)
    (hsteps : StepsP (StepOk P os Ss Q a0 w0) os Ss)
    (hend : ∀ w, Below w0.heap.size w0 w → EndP w0.heap.size w (fun a => wpList P os.toArray Q (os.drop Ss.length) a w) os Ss [] a0) :
    (Code.region id os.toArray true).wp P Q a0 w0 :=
  wp_region_any hm (by rw [List.size_toArray]; exact wpAny_plan (w0 := w0) (w1 := w0.drew) ⟨rfl, rfl, rfl, Nat.le_refl _, fun _ _ => rfl⟩ Ss hc hsteps hend)

/-! ### The steps -/

theorem ev {a : Act} {k : Nat} {v : Value} (e : a.tmps[k]? = some v) : a.eval (.tmp k) = v := by
  show a.tmps.getD k undef = v
  simp [e]

section
variable {P : Program} {os : List Oper} {Ss : List Sp} {Q : Exit → Act → World → Prop} {a0 : Act} {w0 : World} {o : Oper} {S : Sp}

/-- Is it wanted? Its guard's slot says so. -/
theorem wanted_of {a : Act} {ops : Array Oper} {g t : Nat} {want b c : Bool} (hg : o.guard = some (g, want)) (ht : (ops[g]?).bind (·.dst) = some t) (e : a.tmps[t]? = some (.bool b)) (hc : (b == want) = c) : Region.wanted o (yielded ops a.tmps) = c := by
  subst hc
  unfold Region.wanted yielded
  simp only [hg, ht, Option.bind_some, e]
  cases b <;> cases want <;> rfl

theorem step_val {c : Value} (h : ∀ (a : Act) (w : World), Below w0.heap.size w0 w → (∀ k, noDst (os.take Ss.length) k = true → a.tmps[k]? = a0.tmps[k]?) → (∀ j o' S' d, j ∈ preds o → os[j]? = some o' → Ss[j]? = some S' → o'.dst = some d → ∃ v, a.tmps[d]? = some v ∧ S'.p w v) →
    Region.wanted o (yielded os.toArray a.tmps) = true ∧ (execOp a.eval o).run P w = .ok (.value c) w) : StepOk P os Ss Q a0 w0 o (is c) := by
  intro a w hB O D
  obtain ⟨h1, h2⟩ := h a w hB O D
  refine .inl ⟨h1, ?_⟩
  unfold Oper.wp
  rw [h2]
  exact ⟨c, rfl, Below.refl _ _, rfl, fun h => by cases h⟩

theorem step_op (hn : S.new = false) (h : ∀ (a : Act) (w : World), Below w0.heap.size w0 w → (∀ k, noDst (os.take Ss.length) k = true → a.tmps[k]? = a0.tmps[k]?) → (∀ j o' S' d, j ∈ preds o → os[j]? = some o' → Ss[j]? = some S' → o'.dst = some d → ∃ v, a.tmps[d]? = some v ∧ S'.p w v) →
    Region.wanted o (yielded os.toArray a.tmps) = true ∧ ∃ v, (execOp a.eval o).run P w = .ok (.value v) w ∧ S.p w v) : StepOk P os Ss Q a0 w0 o S := by
  intro a w hB O D
  obtain ⟨h1, v, h2, h3⟩ := h a w hB O D
  refine .inl ⟨h1, ?_⟩
  unfold Oper.wp
  rw [h2]
  exact ⟨v, rfl, Below.refl _ _, h3, fun h => by rw [hn] at h; cases h⟩

theorem step_skip {g t : Nat} {want b : Bool} (hg : o.guard = some (g, want)) (ht : (os.toArray[g]?).bind (·.dst) = some t) (hc : (b == want) = false) {og : Oper} (h1 : g ∈ preds o) (h2 : os[g]? = some og) (h3 : Ss[g]? = some (is (.bool b))) (h4 : og.dst = some t) : StepOk P os Ss Q a0 w0 o (is undef) := by
  intro a w hB O D
  obtain ⟨_, e, rfl⟩ := D g og _ t h1 h2 h3 h4
  exact .inr ⟨wanted_of hg ht e hc, rfl, rfl⟩

/-- A call of a Go function. -/
theorem step_call {f : FuncId} (hE : Enters P f) {xs : Array Operand} {ts : Array TypeId} (ho : o.op = .call { callee := .value (.func f), args := xs, argTypes := ts }) (hn : S.new = false)
    (h : ∀ (a : Act) (w : World), Below w0.heap.size w0 w → (∀ k, noDst (os.take Ss.length) k = true → a.tmps[k]? = a0.tmps[k]?) → (∀ j o' S' d, j ∈ preds o → os[j]? = some o' → Ss[j]? = some S' → o'.dst = some d → ∃ v, a.tmps[d]? = some v ∧ S'.p w v) →
      Region.wanted o (yielded os.toArray a.tmps) = true ∧ ∃ vs, xs.map a.eval = vs ∧ Calls P f vs w fun e w' => ∃ v, e = .returned v ∧ Below w.heap.size w w' ∧ S.p w' v) : StepOk P os Ss Q a0 w0 o S := by
  intro a w hB O D
  obtain ⟨h1, vs, h2, h3⟩ := h a w hB O D
  refine .inl ⟨h1, ?_⟩
  subst h2
  have e : execOp a.eval o = callFunc f (#[] ++ xs.map a.eval ++ #[]) := by
    obtain ⟨dst, op, ty, pos, after, guard⟩ := o
    subst ho
    rfl
  unfold Oper.wp
  rw [e, Array.append_empty, Array.empty_append, hE, Oper.upon_enter]
  refine h3.mono ?_
  rintro e w' ⟨v, rfl, hB', hp⟩
  exact ⟨v, rfl, hB', hp, fun h => by rw [hn] at h; cases h⟩

/-- A new variable. -/
theorem step_alloc {t : TypeId} {cs : Array Value} (ho : o.op = .alloc t) (hg : o.guard = none) (hz : ∀ w, (zeroValue t).run P w = .ok (.agg cs) w)
    (h : ∀ w : World, S.p (w.alloc (.cells cs t)) (.pointer (some ⟨w.heap.size, 0, none⟩))) : StepOk P os Ss Q a0 w0 o S := by
  intro a w hB O D
  refine .inl ⟨by unfold Region.wanted; rw [hg], ?_⟩
  have e : (execOp a.eval o).run P w = .ok (.value (.pointer (some ⟨w.heap.size, 0, none⟩))) (w.alloc (.cells cs t)) := by
    obtain ⟨dst, op, ty, pos, after, guard⟩ := o
    subst ho
    have hz' := hz w
    go_simp
  unfold Oper.wp
  rw [e]
  exact ⟨_, rfl, (Below.refl _ w).alloc (Nat.le_refl _) _, h w, fun _ => ⟨_, rfl, Nat.le_refl _, by simp⟩⟩
end

end Go.Proofs.YtmbpmepoaonleaaGreat
