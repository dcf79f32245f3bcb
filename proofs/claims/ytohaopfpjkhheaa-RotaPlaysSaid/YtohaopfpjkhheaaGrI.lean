/-
  The program's Has, Same; slices.Equal, slices.Clone, slices.BinarySearch at lists of numbers.
-/
import Derived.Test.YtohaopfpjkhheaaGrM
import Derived.Test.YtohaopfpjkhheaaGrGH
import Derived.Test.YtohaopfpjkhheaaGLays
namespace Go.Proofs.Ytohaopfpjkhheaa
open Go.RowKit Go.Shelf

theorem getD_getI (l : List Int) (j : Nat) : l.getD j 0 = getI l j := rfl

def sameB (p q : Prt) : Bool := decide (p.v = q.v) && decide (p.e = q.e)
theorem sameB_iff (p q : Prt) : sameB p q = true ↔ p = q := by
  unfold sameB
  rw [Bool.and_eq_true, decide_eq_true_eq, decide_eq_true_eq]
  constructor
  · rintro ⟨h1, h2⟩
    cases p; cases q
    simp only at h1 h2
    rw [h1, h2]
  · rintro rfl
    exact ⟨rfl, rfl⟩

/-- What slices.Clone makes: a slice of the call's own. -/
theorem clone_any (v : Value) (l : List Int) (w : World) (h : Ints w v l) (hl : l.length ≤ 1000000) :
    Calls Try.prog 46 #[v] w fun e w' => ∃ u, e = .returned u ∧ Below w.heap.size w w' ∧ Row w' w.heap.size u l := by
  obtain ⟨A, cap, rfl, hcap, hm, hcell⟩ := h
  by_cases h0 : l.length = 0
  · have e0 : l = [] := List.length_eq_zero_iff.1 h0
    subst e0
    rcases A with _ | a
    · have hcon := AnyG.slices_Clone_int_nil Try.laysClone 0 cap w
      change Calls Try.prog 46 _ _ _ at hcon
      exact hcon.mono fun e w' h => ⟨_, h.1, by rw [h.2]; exact Below.refl _ _, Row.nil _ _⟩
    · have hcon := AnyG.slices_Clone_int_zero Try.laysClone a cap w
      change Calls Try.prog 46 _ _ _ at hcon
      refine hcon.mono ?_
      rintro e w' ⟨v', rfl, hown, _, hB⟩
      exact ⟨v', rfl, hB, hown⟩
  · obtain ⟨b, off, rfl, hb, hc⟩ := hcell (by omega)
    have hcon := AnyG.slices_Clone_int Try.laysClone b off l.length cap l w (Nat.le_refl _) (by omega) hc
    change Calls Try.prog 46 _ _ _ at hcon
    refine hcon.mono ?_
    rintro e w' ⟨v', rfl, hown, _, hB⟩
    rw [List.take_length] at hown
    exact ⟨v', rfl, hB, hown⟩

end Go.Proofs.Ytohaopfpjkhheaa
