/-
  Lists that go round, as plain mathematics: places, lists begun elsewhere, stretches, rings that are one.
-/
import Derived.Lib.Slices
import Derived.Lib.SlicesCompact
import Derived.Test.YtohaopfpjkhheaaSl
namespace Go.Proofs.Ytohaopfpjkhheaa

/-! ### Places -/

theorem getI_of (l : List Int) (j : Nat) (h : j < l.length) : getI l j = l[j] := by unfold getI; simp [h]
theorem getI_app_left (l m : List Int) (j : Nat) (h : j < l.length) : getI (l ++ m) j = getI l j := by
  unfold getI; simp [List.getD, List.getElem?_append_left h]
theorem getI_app_right (l m : List Int) (j : Nat) : getI (l ++ m) (l.length + j) = getI m j := by
  unfold getI; simp only [List.getD]; rw [List.getElem?_append_right (by omega)]; simp
theorem getI_take (l : List Int) (k j : Nat) (h : j < k) : getI (l.take k) j = getI l j := by
  unfold getI; simp [List.getD, h]
theorem getI_drop (l : List Int) (k j : Nat) : getI (l.drop k) j = getI l (k + j) := by
  unfold getI; simp [List.getD]
theorem take_succ_getI (l : List Int) (k : Nat) (h : k < l.length) : l.take (k + 1) = l.take k ++ [getI l k] := by
  rw [List.take_add_one, getI_of l k h]; simp [h]
theorem ext_getI (l m : List Int) (h : l.length = m.length) (hg : ∀ j, j < l.length → getI l j = getI m j) : l = m := by
  apply List.ext_getElem h
  intro i h1 h2
  have := hg i h1
  rwa [getI_of l i h1, getI_of m i h2] at this
theorem mem_getI (l : List Int) (x : Int) : x ∈ l ↔ ∃ j, j < l.length ∧ getI l j = x := by
  rw [List.mem_iff_getElem]
  constructor
  · rintro ⟨i, h, rfl⟩; exact ⟨i, h, getI_of l i h⟩
  · rintro ⟨j, h, rfl⟩; exact ⟨j, h, (getI_of l j h).symm⟩

theorem first_of (p : Nat → Prop) [DecidablePred p] : ∀ n, (∃ k, k < n ∧ p k ∧ ∀ j, j < k → ¬ p j) ∨ (∀ j, j < n → ¬ p j)
  | 0 => .inr fun j h => absurd h (Nat.not_lt_zero _)
  | n + 1 => by
    rcases first_of p n with ⟨k, h1, h2, h3⟩ | h
    · exact .inl ⟨k, by omega, h2, h3⟩
    · by_cases hn : p n
      · exact .inl ⟨n, by omega, hn, h⟩
      · refine .inr fun j hj => ?_
        by_cases e : j = n
        · rw [e]; exact hn
        · exact h j (by omega)

/-- The first place of a number: it is a place, or there is none. -/
theorem idx_cases (l : List Int) (x : Int) :
    (∃ k, k < l.length ∧ Lib.idxOf l x = (k : Int) ∧ getI l k = x ∧ ∀ j, j < k → getI l j ≠ x) ∨ (Lib.idxOf l x = -1 ∧ ∀ j, j < l.length → getI l j ≠ x) := by
  rcases first_of (fun k => getI l k = x) l.length with ⟨k, h1, h2, h3⟩ | h
  · left
    have := Lib.idxOf_hit l l.length k x h1 (Nat.le_refl _) h2 h3
    rw [List.take_length] at this
    exact ⟨k, h1, this, h2, h3⟩
  · right
    have := Lib.idxOf_miss l l.length x h
    rw [List.take_length] at this
    exact ⟨this, h⟩

theorem idx_at (l : List Int) (k : Nat) (x : Int) (hk : k < l.length) (h : getI l k = x) (hn : ∀ j, j < k → getI l j ≠ x) : Lib.idxOf l x = (k : Int) := by
  have := Lib.idxOf_hit l l.length k x hk (Nat.le_refl _) h hn
  rwa [List.take_length] at this
theorem idx_none (l : List Int) (x : Int) (hn : ∀ j, j < l.length → getI l j ≠ x) : Lib.idxOf l x = -1 := by
  have := Lib.idxOf_miss l l.length x hn
  rwa [List.take_length] at this
theorem idx_mem (l : List Int) (x : Int) : x ∈ l ↔ 0 ≤ Lib.idxOf l x := by
  rw [Lib.idxOf_nonneg_iff]; simp

/-! ### Lists begun elsewhere -/

/-- A list begun at a place. -/
def rotL (l : List Int) (k : Nat) : List Int := l.drop k ++ l.take k

theorem rotL_length (l : List Int) (k : Nat) : (rotL l k).length = l.length := by
  unfold rotL; simp; omega
theorem rotL_zero (l : List Int) : rotL l 0 = l := by simp [rotL]
theorem rotL_nil (k : Nat) : rotL [] k = [] := by simp [rotL]
theorem rotL_get (l : List Int) (k j : Nat) (hk : k ≤ l.length) (hj : j < l.length) : getI (rotL l k) j = getI l ((k + j) % l.length) := by
  unfold rotL
  by_cases h : j < l.length - k
  · rw [getI_app_left _ _ _ (by simp; omega), getI_drop, Nat.mod_eq_of_lt (by omega)]
  · have hm : (k + j) % l.length = k + j - l.length := by
      rw [Nat.mod_eq_sub_mod (by omega), Nat.mod_eq_of_lt (by omega)]
    obtain ⟨i, rfl⟩ : ∃ i, j = (l.drop k).length + i := ⟨j - (l.drop k).length, by simp; omega⟩
    rw [getI_app_right]
    simp only [List.length_drop] at *
    rw [getI_take _ _ _ (by omega), hm]
    congr 1; omega

/-- The first numbers of a list begun at a place. -/
def rotTo (l : List Int) (at_ : Nat) (i : Nat) : List Int := (List.range i).map fun t => getI l ((at_ + t) % l.length)

theorem rotTo_zero (l : List Int) (a : Nat) : rotTo l a 0 = [] := rfl
theorem rotTo_succ (l : List Int) (a i : Nat) : rotTo l a (i + 1) = rotTo l a i ++ [getI l ((a + i) % l.length)] := by
  simp [rotTo, List.range_succ]
theorem rotTo_length (l : List Int) (a i : Nat) : (rotTo l a i).length = i := by simp [rotTo]
theorem rotTo_get (l : List Int) (a i j : Nat) (h : j < i) : getI (rotTo l a i) j = getI l ((a + j) % l.length) := by
  rw [getI_of _ _ (by rw [rotTo_length]; exact h)]; simp [rotTo]
theorem rotTo_all (l : List Int) (a : Nat) : rotTo l a l.length = rotL l (a % l.length) := by
  by_cases h0 : l.length = 0
  · have : l = [] := List.length_eq_zero_iff.1 h0
    subst this; simp [rotTo, rotL]
  apply ext_getI
  · rw [rotTo_length, rotL_length]
  · intro j hj
    rw [rotTo_length] at hj
    have hm := Nat.mod_lt a (show 0 < l.length by omega)
    rw [rotTo_get _ _ _ _ hj, rotL_get _ _ _ (by omega) hj]
    congr 1
    rw [Nat.mod_add_mod]

theorem rotL_rotL (l : List Int) (a b : Nat) (ha : a ≤ l.length) (hb : b ≤ l.length) : rotL (rotL l a) b = rotL l ((a + b) % l.length) := by
  by_cases h0 : l.length = 0
  · have : l = [] := List.length_eq_zero_iff.1 h0
    subst this; simp [rotL]
  apply ext_getI
  · simp only [rotL_length]
  · intro j hj
    simp only [rotL_length] at hj
    have hm := Nat.mod_lt (a + b) (show 0 < l.length by omega)
    have hm2 := Nat.mod_lt (b + j) (show 0 < l.length by omega)
    rw [rotL_get _ _ _ (by rw [rotL_length]; exact hb) (by rw [rotL_length]; exact hj), rotL_length, rotL_get _ _ _ ha hm2, rotL_get _ _ _ (by omega) hj]
    congr 1
    rw [Nat.add_mod_mod, Nat.mod_add_mod, Nat.add_assoc]

/-! ### Rings that are one -/

/-- Two lists are one ring, begun at places of their own. -/
def Ring1 (a b : List Int) : Prop := a.length = b.length ∧ ∃ k, k ≤ b.length ∧ a = rotL b k

theorem Ring1.refl (a : List Int) : Ring1 a a := ⟨rfl, 0, Nat.zero_le _, (rotL_zero a).symm⟩
theorem Ring1.of_rot (b : List Int) (k : Nat) (h : k ≤ b.length) : Ring1 (rotL b k) b := ⟨rotL_length _ _, k, h, rfl⟩
theorem Ring1.symm {a b : List Int} (h : Ring1 a b) : Ring1 b a := by
  obtain ⟨hl, k, hk, rfl⟩ := h
  by_cases h0 : b.length = 0
  · have : b = [] := List.length_eq_zero_iff.1 h0
    subst this; rw [rotL_nil]; exact Ring1.refl _
  refine ⟨hl.symm, b.length - k, by rw [hl]; omega, ?_⟩
  rw [rotL_rotL _ _ _ hk (by omega), show k + (b.length - k) = b.length by omega, Nat.mod_self, rotL_zero]
theorem Ring1.trans {a b c : List Int} (h1 : Ring1 a b) (h2 : Ring1 b c) : Ring1 a c := by
  obtain ⟨e1, k, hk, rfl⟩ := h1
  obtain ⟨e2, m, hm, rfl⟩ := h2
  rw [rotL_length] at hk
  by_cases h0 : c.length = 0
  · have : c = [] := List.length_eq_zero_iff.1 h0
    subst this; simp only [rotL_nil]; exact Ring1.refl _
  rw [rotL_rotL _ _ _ hm hk]
  exact Ring1.of_rot _ _ (Nat.le_of_lt (Nat.mod_lt _ (by omega)))
theorem Ring1.reverse {a b : List Int} (h : Ring1 a b) : Ring1 a.reverse b.reverse := by
  obtain ⟨e, k, hk, rfl⟩ := h
  refine ⟨by simp [rotL_length], b.length - k, by simp, ?_⟩
  unfold rotL
  rw [List.reverse_append, List.reverse_take, List.reverse_drop]

/-- Whether two lists are one ring, as the calls tell it. -/
def ring1B (a b : List Int) : Bool := decide (a.length = b.length) && (List.range (b.length + 1)).any fun k => decide (a = rotL b k)
theorem ring1B_iff (a b : List Int) : ring1B a b = true ↔ Ring1 a b := by
  unfold ring1B Ring1
  simp only [Bool.and_eq_true, decide_eq_true_eq, List.any_eq_true, List.mem_range]
  constructor
  · rintro ⟨h1, k, h2, h3⟩; exact ⟨h1, k, by omega, h3⟩
  · rintro ⟨h1, k, h2, h3⟩; exact ⟨h1, k, by omega, h3⟩
theorem ring1B_true {a b : List Int} (h : Ring1 a b) : ring1B a b = true := (ring1B_iff a b).2 h
theorem ring1B_false {a b : List Int} (h : ¬ Ring1 a b) : ring1B a b = false := by
  rw [Bool.eq_false_iff]; exact fun e => h ((ring1B_iff a b).1 e)

/-! Which of two beginnings is the lesser one, at the first place at which they differ. -/

def Less (n : Nat) (f g : Nat → Int) : Prop := ∃ d, d < n ∧ (∀ t, t < d → f t = g t) ∧ f d < g d

theorem Less.irrefl {n : Nat} {f : Nat → Int} : ¬ Less n f f := fun ⟨_, _, _, h⟩ => Int.lt_irrefl _ h
theorem Less.trans {n : Nat} {f g h : Nat → Int} : Less n f g → Less n g h → Less n f h := by
  rintro ⟨d, h1, h2, h3⟩ ⟨e, h4, h5, h6⟩
  by_cases hde : d < e
  · exact ⟨d, h1, fun t ht => (h2 t ht).trans (h5 t (by omega)), by rw [← h5 d hde]; exact h3⟩
  · by_cases he : e = d
    · subst he; exact ⟨e, h1, fun t ht => (h2 t ht).trans (h5 t ht), Int.lt_trans h3 h6⟩
    · exact ⟨e, h4, fun t ht => (h2 t (by omega)).trans (h5 t ht), by rw [h2 e (by omega)]; exact h6⟩

/-- A list from a place on, going round. -/
def from_ (a : List Int) (i t : Nat) : Int := getI a ((i + t) % a.length)

theorem least_from (a : List Int) : ∀ m, 0 < m → ∃ c, c < m ∧ ∀ i, i < m → ¬ Less a.length (from_ a i) (from_ a c)
  | 0, h => absurd h (Nat.lt_irrefl _)
  | m + 1, _ => by
    by_cases hm : m = 0
    · subst hm; exact ⟨0, by omega, fun i hi => by obtain rfl : i = 0 := by omega
                                                   exact Less.irrefl⟩
    · obtain ⟨c, h1, h2⟩ := least_from a m (by omega)
      by_cases hl : Less a.length (from_ a m) (from_ a c)
      · refine ⟨m, by omega, fun i hi h => ?_⟩
        by_cases e : i = m
        · subst e; exact Less.irrefl h
        · exact h2 i (by omega) (h.trans hl)
      · refine ⟨c, by omega, fun i hi h => ?_⟩
        by_cases e : i = m
        · subst e; exact hl h
        · exact h2 i (by omega) h

theorem from_mod (a : List Int) (i t : Nat) : from_ a (i % a.length) t = from_ a i t := by
  unfold from_; rw [Nat.mod_add_mod]
theorem from_add (a : List Int) (i s t : Nat) : from_ a (i + s) t = from_ a i (s + t) := by
  unfold from_; rw [Nat.add_assoc]

/-- Where both lists, begun at i and j, are one for k places, and the first's number is the greater one then: none of the first's next beginnings is a least one. -/
theorem greater_from (a b : List Int) (hl : a.length = b.length) (i j k : Nat) (hk : k < a.length) (hp : ∀ t, t < k → from_ a i t = from_ b j t) (hg : from_ b j k < from_ a i k) (t : Nat) (ht : t ≤ k) :
    Less a.length (from_ b (j + t)) (from_ a (i + t)) := by
  refine ⟨k - t, by omega, fun s hs => ?_, ?_⟩
  · rw [from_add, from_add]; exact (hp _ (by omega)).symm
  · rw [from_add, from_add, show t + (k - t) = k by omega]; exact hg

theorem from_rot (b : List Int) (k i t : Nat) (hk : k ≤ b.length) : from_ (rotL b k) i t = from_ b (k + i) t := by
  unfold from_
  rw [rotL_length]
  by_cases h0 : b.length = 0
  · have : b = [] := List.length_eq_zero_iff.1 h0
    subst this; simp [rotL, getI]
  rw [rotL_get _ _ _ hk (Nat.mod_lt _ (by omega)), Nat.add_mod_mod, Nat.add_assoc]

/-- If every beginning of the one list is greater than some beginning of the other one, they are two rings. -/
theorem apart_of_less (a b : List Int) (h0 : 0 < a.length) (h : ∀ i, i < a.length → ∃ p, Less a.length (from_ b p) (from_ a i)) : ¬ Ring1 a b := by
  intro hr
  obtain ⟨hl, k, hk, e⟩ := hr.symm
  obtain ⟨c, hc, hmin⟩ := least_from a a.length h0
  obtain ⟨p, hp⟩ := h c hc
  refine hmin ((k + p) % a.length) (Nat.mod_lt _ h0) ?_
  have : from_ a ((k + p) % a.length) = from_ b p := by
    funext t
    rw [from_mod, e, from_rot _ _ _ _ hk]
  rw [this]; exact hp

theorem one_of_all (a b : List Int) (hl : a.length = b.length) (h0 : 0 < a.length) (i j : Nat) (h : ∀ t, t < a.length → from_ a i t = from_ b j t) : Ring1 a b := by
  have e : rotL a (i % a.length) = rotL b (j % b.length) := by
    apply ext_getI
    · simp only [rotL_length]; exact hl
    · intro t ht
      rw [rotL_length] at ht
      have hi := Nat.mod_lt i h0
      have hj := Nat.mod_lt j (show 0 < b.length by omega)
      rw [rotL_get _ _ _ (by omega) ht, rotL_get _ _ _ (by omega) (by omega), Nat.mod_add_mod, Nat.mod_add_mod]
      exact h t ht
  have hi := Nat.mod_lt i h0
  have hj := Nat.mod_lt j (show 0 < b.length by omega)
  have r1 := (Ring1.of_rot a (i % a.length) (by omega)).symm
  rw [e] at r1
  exact r1.trans (Ring1.of_rot b _ (by omega))

end Go.Proofs.Ytohaopfpjkhheaa
