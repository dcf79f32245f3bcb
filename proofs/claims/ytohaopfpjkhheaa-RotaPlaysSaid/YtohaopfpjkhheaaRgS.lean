/-
  The program's Right: sorted, each number once, as many as there were.
-/
import Derived.Test.YtohaopfpjkhheaaRgR
import Derived.Shelf.SortM.Plain
import Derived.Shelf.SortM.SortNone
import Derived.Shelf.SlicesG.CompactI
import Derived.Lib.SlKeysI
namespace Go.Proofs.Ytohaopfpjkhheaa
open Go.RowKit Go.Shelf Go.Sort

/-! ### Sorted lists -/

theorem steps_lt (s : List Int) (h : ∀ j, 0 < j → j < s.length → getI s (j - 1) < getI s j) : ∀ i j, i < j → j < s.length → getI s i < getI s j
  | i, 0, hij, _ => absurd hij (Nat.not_lt_zero _)
  | i, j + 1, hij, hj => by
    have h1 := h (j + 1) (by omega) hj
    rw [Nat.add_sub_cancel] at h1
    by_cases e : i = j
    · rw [e]; exact h1
    · have := steps_lt s h i j (by omega) (by omega); omega

theorem compact_nodup (s : List Int) (hs : ∀ i j, i < j → j < s.length → getI s i ≤ getI s j) : (Lib.compact s).length = s.length ↔ s.Nodup := by
  have hk : ∀ j, j < s.length → (Lib.keeps s.toArray j = true ↔ (j = 0 ∨ getI s j ≠ getI s (j - 1))) := by
    intro j hj
    have e1 : s.toArray[j]! = getI s j := by rw [getI_of s j hj]; simp [hj]
    have e2 : s.toArray[j - 1]! = getI s (j - 1) := by rw [getI_of s (j - 1) (by omega)]; simp [show j - 1 < s.length by omega]
    unfold Lib.keeps
    rw [e1, e2, decide_eq_true_iff]
  have hall : (Lib.compact s).length = s.length ↔ ∀ j, j < s.length → Lib.keeps s.toArray j = true := by
    unfold Lib.compact Lib.compactUpTo
    rw [List.length_map]
    have := @List.length_filter_eq_length_iff _ (Lib.keeps s.toArray) (List.range s.length)
    rw [List.length_range] at this
    rw [this]
    simp only [List.mem_range]
  rw [hall]
  constructor
  · intro h
    refine (nodup_getI s).2 fun i j hij hj => ?_
    have := steps_lt s (fun k h0 hk' => by
      have h1 := (hk k hk').1 (h k hk')
      have h2 := hs (k - 1) k (by omega) hk'
      rcases h1 with h1 | h1
      · omega
      · omega) i j hij hj
    omega
  · intro h j hj
    refine (hk j hj).2 ?_
    by_cases h0 : j = 0
    · exact .inl h0
    · exact .inr fun e => (nodup_getI s).1 h (j - 1) j (by omega) hj e.symm

/-- A list, sorted. -/
def sortL (l : List Int) : List Int := l.mergeSort fun x y => decide (x ≤ y)

theorem sortL_length (l : List Int) : (sortL l).length = l.length := List.length_mergeSort l
theorem sortL_le (l : List Int) : ∀ i j, i < j → j < (sortL l).length → getI (sortL l) i ≤ getI (sortL l) j := by
  intro i j hij hj
  have h := List.pairwise_mergeSort (le := fun x y : Int => decide (x ≤ y)) (fun a b c h1 h2 => by simp at *; omega) (fun a b => by simp; omega) l
  have := (List.pairwise_iff_getElem.1 h) i j (show i < (sortL l).length by omega) hj hij
  rw [getI_of _ i (by omega), getI_of _ j hj]
  exact of_decide_eq_true this
theorem sortL_nodup (l : List Int) : (Lib.compact (sortL l)).length = l.length ↔ l.Nodup := by
  rw [← sortL_length l, compact_nodup _ (sortL_le l)]
  exact (List.mergeSort_perm l _).nodup_iff

/-! ### The library's calls -/

end Go.Proofs.Ytohaopfpjkhheaa
