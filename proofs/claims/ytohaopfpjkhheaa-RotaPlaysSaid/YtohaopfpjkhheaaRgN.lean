/-
  More plain mathematics of lists that go round: no number twice, the least number's place, stretches.
-/
import Derived.Test.YtohaopfpjkhheaaRgM
namespace Go.Proofs.Ytohaopfpjkhheaa

/-! ### No number twice -/

theorem nodup_getI (l : List Int) : l.Nodup ↔ ∀ i j, i < j → j < l.length → getI l i ≠ getI l j := by
  unfold List.Nodup
  rw [List.pairwise_iff_getElem]
  constructor
  · intro h i j hij hj
    rw [getI_of l i (by omega), getI_of l j hj]
    exact h i j (by omega) hj hij
  · intro h i j hi hj hij
    have := h i j hij hj
    rwa [getI_of l i hi, getI_of l j hj] at this

/-- Whether no number stands twice. -/
def nodupB (l : List Int) : Bool := decide l.Nodup

theorem nodupB_true {l : List Int} (h : l.Nodup) : nodupB l = true := by unfold nodupB; simpa using h
theorem nodupB_false {l : List Int} (h : ¬ l.Nodup) : nodupB l = false := by unfold nodupB; simpa using h

/-- Up to a place no number has stood aheadR. -/
def newTo (l : List Int) (k : Nat) : Prop := ∀ j, j < k → ∀ i, i < j → getI l i ≠ getI l j
theorem newTo_all {l : List Int} (h : newTo l l.length) : l.Nodup := (nodup_getI l).2 fun i j hij hj => h j hj i hij
theorem newTo_succ {l : List Int} {k : Nat} (h : newTo l k) (hn : ∀ i, i < k → getI l i ≠ getI l k) : newTo l (k + 1) := fun j hj i hi => by
  by_cases e : j = k
  · rw [e] at hi ⊢; exact hn i hi
  · exact h j (by omega) i hi

theorem idx_self (l : List Int) (k : Nat) (hk : k < l.length) :
    (Lib.idxOf l (getI l k) = (k : Int) ∧ ∀ i, i < k → getI l i ≠ getI l k) ∨ (∃ m : Nat, Lib.idxOf l (getI l k) = (m : Int) ∧ m < k ∧ getI l m = getI l k) := by
  rcases idx_cases l (getI l k) with ⟨m, h1, h2, h3, h4⟩ | ⟨_, h⟩
  · by_cases hm : m < k
    · exact .inr ⟨m, h2, hm, h3⟩
    · left
      by_cases e : m = k
      · subst e; exact ⟨h2, h4⟩
      · exact absurd rfl (h4 k (by omega))
  · exact absurd rfl (h k hk)

theorem idx_nodup {l : List Int} (h : l.Nodup) (k : Nat) (hk : k < l.length) : Lib.idxOf l (getI l k) = (k : Int) := by
  rcases idx_self l k hk with ⟨e, _⟩ | ⟨m, _, h2, h3⟩
  · exact e
  · exact absurd h3 ((nodup_getI l).1 h m k h2 hk)

/-! ### The least number's place -/

/-- The place of the least among the first numbers, the first of these places. -/
def minAt (l : List Int) : Nat → Nat
  | 0 => 0
  | i + 1 => if getI l i < getI l (minAt l i) then i else minAt l i

theorem minAt_le (l : List Int) : ∀ i, minAt l i ≤ i
  | 0 => Nat.le_refl _
  | i + 1 => by unfold minAt; split; · omega
                · have := minAt_le l i; omega
theorem minAt_lt (l : List Int) (i : Nat) (h : 0 < i) : minAt l i < i := by
  match i, h with
  | i + 1, _ => unfold minAt; split; · omega
                · have := minAt_le l i; omega
theorem minAt_least (l : List Int) : ∀ i j, j < i → getI l (minAt l i) ≤ getI l j ∧ (j < minAt l i → getI l (minAt l i) < getI l j)
  | 0, j, h => absurd h (Nat.not_lt_zero _)
  | i + 1, j, h => by
    unfold minAt
    split
    · rename_i hlt
      by_cases e : j = i
      · subst e; exact ⟨Int.le_refl _, fun h => absurd h (Nat.lt_irrefl _)⟩
      · have := minAt_least l i j (by omega); constructor
        · omega
        · intro _; omega
    · rename_i hlt
      by_cases e : j = i
      · subst e
        exact ⟨by omega, fun h => by have := minAt_le l j; omega⟩
      · exact minAt_least l i j (by omega)

theorem minOf_take (l : List Int) : ∀ k, k < l.length → Lib.minOf (l.take (k + 1)) = getI l (minAt l (k + 1))
  | 0, _ => by
    rw [Lib.minOf_one]
    unfold minAt minAt; rw [if_neg (Int.lt_irrefl _)]; rfl
  | k + 1, h => by
    rw [Lib.minOf_step l (k + 1) (by omega) h, minOf_take l k (by omega)]
    show min (getI l (minAt l (k + 1))) (getI l (k + 1)) = getI l (if getI l (k + 1) < getI l (minAt l (k + 1)) then k + 1 else minAt l (k + 1))
    split <;> omega

/-- The first place of the least number. -/
theorem idx_min (l : List Int) (h : 0 < l.length) : Lib.idxOf l (Lib.minOf l) = (minAt l l.length : Nat) := by
  have e : Lib.minOf l = getI l (minAt l l.length) := by
    have := minOf_take l (l.length - 1) (by omega)
    rwa [show l.length - 1 + 1 = l.length by omega, List.take_length] at this
  rw [e]
  refine idx_at l _ _ (minAt_lt l _ h) rfl fun j hj he => ?_
  have := (minAt_least l l.length j (by have := minAt_lt l _ h; omega)).2 hj
  omega

/-! ### Stretches -/

/-- The first numbers, each stretch taken as one. -/
def cutTo (l : List Int) : Nat → List Int
  | 0 => []
  | i + 1 => if 0 < i ∧ getI l i = getI l (i - 1) then cutTo l i else cutTo l i ++ [getI l i]

/-- .. that goes round: the last stretch goes on in the first one. -/
def roundOff (o : List Int) : List Int := if 1 < o.length ∧ getI o 0 = getI o (o.length - 1) then o.take (o.length - 1) else o

/-- The stretches' numbers, if none has two stretches. -/
def labelsO (l : List Int) : Option (List Int) := if (roundOff (cutTo l l.length)).Nodup then some (roundOff (cutTo l l.length)) else none

theorem cutTo_length (l : List Int) : ∀ i, (cutTo l i).length ≤ i
  | 0 => Nat.le_refl _
  | i + 1 => by have := cutTo_length l i; unfold cutTo; split <;> simp <;> omega
theorem roundOff_length (o : List Int) : (roundOff o).length ≤ o.length := by
  unfold roundOff; split <;> simp

/-- The number aheadR, going round. -/
def aheadR (l : List Int) : Nat → Int
  | 0 => getI l (l.length - 1)
  | i + 1 => getI l i

/-- Of the first numbers those that begin a stretch, going round. -/
def begTo (l : List Int) : Nat → List Int
  | 0 => []
  | i + 1 => if getI l i = aheadR l i then begTo l i else begTo l i ++ [getI l i]

theorem begTo_length (l : List Int) : ∀ i, (begTo l i).length ≤ i
  | 0 => Nat.le_refl _
  | i + 1 => by have := begTo_length l i; unfold begTo; split <;> simp <;> omega

/-- Both ways to take stretches as one, side by side: they differ in the first number alone. -/
theorem cut_beg (l : List Int) : ∀ i, 0 < i → ∃ t, cutTo l i = getI l 0 :: t ∧ begTo l i = (if getI l 0 = getI l (l.length - 1) then [] else [getI l 0]) ++ t ∧ (getI l 0 :: t).getLast (by simp) = getI l (i - 1)
  | 0, h => absurd h (Nat.lt_irrefl _)
  | 1, _ => by
    refine ⟨[], by simp [cutTo], ?_, rfl⟩
    show (if getI l 0 = getI l (l.length - 1) then [] else [] ++ [getI l 0]) = _
    split <;> simp
  | i + 2, _ => by
    obtain ⟨t, h1, h2, h3⟩ := cut_beg l (i + 1) (by omega)
    have e1 : cutTo l (i + 2) = if getI l (i + 1) = getI l i then cutTo l (i + 1) else cutTo l (i + 1) ++ [getI l (i + 1)] := by
      rw [cutTo]; simp
    have e2 : begTo l (i + 2) = if getI l (i + 1) = getI l i then begTo l (i + 1) else begTo l (i + 1) ++ [getI l (i + 1)] := by
      rw [begTo]; rfl
    by_cases he : getI l (i + 1) = getI l i
    · rw [if_pos he] at e1 e2
      refine ⟨t, by rw [e1, h1], by rw [e2, h2], ?_⟩
      rw [h3]; simp [he]
    · rw [if_neg he] at e1 e2
      refine ⟨t ++ [getI l (i + 1)], by rw [e1, h1]; rfl, by rw [e2, h2, List.append_assoc], ?_⟩
      rw [List.getLast_cons (by simp)]; simp

/-- The stretches, begun with the first number's. -/
theorem labels_eq (l : List Int) (h0 : 0 < l.length) :
    (begTo l l.length = [] ∧ labelsO l = some [getI l 0]) ∨
    (0 < (begTo l l.length).length ∧ ¬ (begTo l l.length).Nodup ∧ labelsO l = none) ∨
    (∃ k : Nat, k < (begTo l l.length).length ∧ (begTo l l.length).Nodup ∧ Lib.idxOf (begTo l l.length) (getI l 0) = (k : Int) ∧ labelsO l = some (rotL (begTo l l.length) k)) := by
  obtain ⟨t, h1, h2, h3⟩ := cut_beg l l.length h0
  by_cases he : getI l 0 = getI l (l.length - 1)
  · rw [if_pos he, List.nil_append] at h2
    by_cases ht : t = []
    · subst ht
      refine .inl ⟨h2, ?_⟩
      unfold labelsO roundOff; rw [h1]; simp
    · obtain ⟨d, z, rfl⟩ : ∃ d z, t = d ++ [z] := ⟨t.dropLast, t.getLast ht, (List.dropLast_concat_getLast ht).symm⟩
      have hz : z = getI l 0 := by
        rw [List.getLast_cons (by simp)] at h3
        simp only [List.getLast_append, List.getLast_singleton] at h3
        rw [he, ← h3]; simp
      subst hz
      have e1 : roundOff (cutTo l l.length) = getI l 0 :: d := by
        unfold roundOff
        rw [h1, if_pos]
        · simp
        · refine ⟨by simp, ?_⟩
          unfold getI; simp
      have hp : (getI l 0 :: d).Perm (d ++ [getI l 0]) := List.perm_append_comm (l₁ := [getI l 0]) (l₂ := d)
      right
      by_cases hn : (d ++ [getI l 0]).Nodup
      · right
        refine ⟨d.length, by rw [h2]; simp, by rw [h2]; exact hn, ?_, ?_⟩
        · rw [h2]
          refine idx_at _ _ _ (by simp) (by have := getI_app_right d [getI l 0] 0; exact this) fun j hj => ?_
          have := (nodup_getI _).1 hn j d.length hj (by simp)
          have e := getI_app_right d [getI l 0] 0
          simp only [Nat.add_zero] at e
          rw [e] at this
          exact this
        · unfold labelsO
          rw [e1, if_pos (hp.nodup_iff.2 hn), h2]
          simp [rotL]
      · left
        refine ⟨by rw [h2]; simp, by rw [h2]; exact hn, ?_⟩
        unfold labelsO
        rw [e1, if_neg (fun h => hn (hp.nodup_iff.1 h))]
  · rw [if_neg he] at h2
    have h2' : begTo l l.length = getI l 0 :: t := h2
    have e1 : roundOff (cutTo l l.length) = getI l 0 :: t := by
      unfold roundOff
      rw [h1, if_neg]
      rintro ⟨_, e⟩
      apply he
      rw [← h3]
      have e2 : getI (getI l 0 :: t) 0 = getI l 0 := rfl
      rw [e2] at e
      rw [List.getLast_eq_getElem, ← getI_of _ _ (by simp)]; exact e
    right
    by_cases hn : (getI l 0 :: t).Nodup
    · right
      refine ⟨0, by rw [h2']; simp, by rw [h2']; exact hn, ?_, ?_⟩
      · rw [h2']; exact idx_at _ 0 _ (by simp) rfl (fun j hj => absurd hj (Nat.not_lt_zero _))
      · unfold labelsO; rw [e1, if_pos hn, h2', rotL_zero]
    · left
      refine ⟨by rw [h2']; simp, by rw [h2']; exact hn, ?_⟩
      unfold labelsO; rw [e1, if_neg hn]

end Go.Proofs.Ytohaopfpjkhheaa
