/-
  RingLabels: stretches of any list, taken as one, are the document's: the law's call answers true at every input.
-/
import Derived.Test.YtkgggadcdmbglaaRgW
namespace Go.Proofs.Ytkgggadcdmbglaa
open Go.RowKit

set_option maxRecDepth 100000 in
set_option maxHeartbeats 1000000 in
theorem ringLabels_any (v : Value) (l : List Int) (w : World) (h : Ints w v l) :
    Calls Try.prog 7 #[v] w fun e w' => e = .returned (.bool true) ∧ Below w.heap.size w w' := by
  have HI := Lib.hid h
  obtain ⟨A, cap, rfl, hcap, hm, hcell⟩ := h
  unfold maxLen at hm
  clear hcell
  go_enter Try.func7, Try.ntmps7
  by_cases hl : 100 < l.length
  · go_wp2_with fail
    refine (awake_any w).mono ?_
    rintro e w1 ⟨rfl, hB1⟩
    go_wp2_with fail
    refine (awake_any w1).mono ?_
    rintro e w2 ⟨rfl, hB2⟩
    go_wp2
    go_ret
    exact ⟨rfl, trans2 hB1 hB2⟩
  go_wp2_with fail
  refine (awake_any w).mono ?_
  rintro e w1 ⟨rfl, hB1⟩
  go_wp2_with fail
  refine (labels_any _ l w1 (HI.out.below hB1) (by omega)).mono ?_
  rintro e w2 ⟨u1, rfl, hI1, hB2⟩
  have HB2 := trans2 hB1 hB2
  have HI1 := Lib.hid hI1
  clear hI1 hB2 hB1
  go_wp2_with fail
  refine (refLabels_any _ l w2 (HI.out.below HB2) (by omega)).mono ?_
  rintro e w3 ⟨u2, rfl, hI2, hB3⟩
  have HI2 := Lib.hid hI2
  have HI3 := Lib.hid (HI1.out.below hB3)
  have HB3 := trans2 HB2 hB3
  have hlen : ((labelsO l).getD []).length ≤ 1000000 := by
    unfold labelsO
    split
    · have := roundOff_length (cutTo l l.length)
      have := cutTo_length l l.length
      simp only [Option.getD_some]; omega
    · simp
  clear hI2 hB3 HB2 HI1
  generalize (labelsO l).isSome = b at *
  have hbb : (b == b) = true := by simp
  go_wp2_with fail
  refine (equal_any _ ((labelsO l).getD []) _ ((labelsO l).getD []) w3 HI3.out HI2.out hlen).mono ?_
  rintro e w4 ⟨rfl, n, rfl⟩
  have e4 : decide ((labelsO l).getD [] = (labelsO l).getD []) = true := by simp
  rw [e4]
  clear e4
  go_wp2
  go_ret
  exact ⟨rfl, below_drewN HB3 n⟩

end Go.Proofs.Ytkgggadcdmbglaa
