/-
  RingSames: whether any lists are right, one ring, in order, and how they begin, is the document's: the law's call answers true at every input.
-/
import Derived.Test.YtkgggadcdmbglaaRgX
namespace Go.Proofs.Ytkgggadcdmbglaa
open Go.RowKit

theorem bool_self (b : Bool) : (b == b) = true := by simp
theorem dec_self' (l : List Int) : decide (l = l) = true := by simp

set_option maxRecDepth 100000 in
set_option maxHeartbeats 2000000 in
theorem ringSames_any (va : Value) (a : List Int) (vb : Value) (b : List Int) (x y z : Int) (w : World) (ha : Ints w va a) (hb : Ints w vb b) :
    Calls Try.prog 5 #[va, vb, .int .i64 x, .int .i64 y, .int .i64 z] w fun e w' => e = .returned (.bool true) ∧ Below w.heap.size w w' := by
  have HA := Lib.hid ha
  have HB := Lib.hid hb
  obtain ⟨A, cap, rfl, hcap, hm, hcell⟩ := ha
  obtain ⟨A', cap', rfl, hcap', hm', hcell'⟩ := hb
  unfold maxLen at hm hm'
  clear hcell hcell'
  by_cases hl : 100 < a.length
  · go_enter Try.func5, Try.ntmps5
    go_wp2_with fail
    refine (awake_any w).mono ?_
    rintro e w1 ⟨rfl, hB1⟩
    go_wp2_with fail
    refine (awake_any w1).mono ?_
    rintro e w2 ⟨rfl, hB2⟩
    go_wp2
    go_ret
    exact ⟨rfl, trans2 hB1 hB2⟩
  by_cases hl' : 100 < b.length
  · go_enter Try.func5, Try.ntmps5
    go_wp2_with fail
    refine (awake_any w).mono ?_
    rintro e w1 ⟨rfl, hB1⟩
    go_wp2_with fail
    refine (awake_any w1).mono ?_
    rintro e w2 ⟨rfl, hB2⟩
    go_wp2
    go_ret
    exact ⟨rfl, trans2 hB1 hB2⟩
  go_enter Try.func5, Try.ntmps5
  go_wp2_with fail
  refine (awake_any w).mono ?_
  rintro e w1 ⟨rfl, hB1⟩
  go_wp2_with fail
  refine (right_any _ a w1 (HA.out.below hB1) (by omega)).mono ?_
  rintro e w2 ⟨rfl, hB2⟩
  have HB2 := trans2 hB1 hB2
  clear hB1 hB2
  go_wp2_with fail
  refine (refRight_any _ a w2 (HA.out.below HB2) (by omega)).mono ?_
  rintro e w3 ⟨rfl, rfl⟩
  have e1 := bool_self (nodupB a)
  generalize nodupB a = n1 at *
  go_wp2_with fail
  refine (same_any _ a _ b w2 (HA.out.below HB2) (HB.out.below HB2) (by omega)).mono ?_
  rintro e w3 ⟨rfl, n3, rfl⟩
  have HB3 := below_drewN HB2 n3
  clear HB2
  generalize w2.drewN n3 = w3 at *
  go_wp2_with fail
  refine (refSame_any _ a _ b w3 (HA.out.below HB3) (HB.out.below HB3) (by omega) (by omega)).mono ?_
  rintro e w4 ⟨rfl, hB4⟩
  have HB4 := trans2 HB3 hB4
  clear HB3 hB4
  have e2 := bool_self (ring1B a b)
  generalize ring1B a b = n2 at *
  go_wp2_with fail
  refine (first_any _ a w4 (HA.out.below HB4) (by omega)).mono ?_
  rintro e w5 ⟨u1, rfl, hown5, hB5⟩
  obtain ⟨f, hf⟩ : ∃ f, rotL a (minAt a a.length) = f := ⟨_, rfl⟩
  have HRL := Lib.hid (rotL_length a (minAt a a.length))
  rw [hf] at HRL hown5
  have HF := Lib.hid hf
  clear hf
  rw [← HRL.out] at hown5
  have HU1 := Lib.hid (Ints.of_own hown5)
  have HB5 := trans2 HB4 hB5
  clear hown5 hB5 HB4
  go_wp2_with fail
  refine (refFirst_any _ a w5 (HA.out.below HB5) (by omega)).mono ?_
  rintro e w6 ⟨u2, rfl, hown6, hB6⟩
  rw [HF.out, ← HRL.out] at hown6
  have HU2 := Lib.hid (Ints.of_own hown6)
  have HB6 := trans2 HB5 hB6
  have HU1' := Lib.hid (HU1.out.below hB6)
  clear hown6 hB6 HB5 HU1
  go_wp2_with fail
  refine (equal_any _ f _ f w6 HU1'.out HU2.out (by rw [HRL.out]; omega)).mono ?_
  rintro e w7 ⟨rfl, n7, rfl⟩
  rw [dec_self']
  have HB7 := below_drewN HB6 n7
  clear HB6 HU1' HU2
  generalize w6.drewN n7 = w7 at *
  go_wp2_with fail
  refine (order_any _ a x y z w7 (HA.out.below HB7) (by omega)).mono ?_
  rintro e w8 ⟨rfl, hB8⟩
  have HB8 := trans2 HB7 hB8
  clear HB7 hB8
  go_wp2_with fail
  refine (refOrder_any _ a x y z w8 (HA.out.below HB8) (by omega)).mono ?_
  rintro e w9 ⟨rfl, hB9⟩
  have HB9 := trans2 HB8 hB9
  clear HB8 hB9
  have e3 := bool_self (orderB a x y z)
  generalize orderB a x y z = n4 at *
  go_wp2
  go_ret
  exact ⟨rfl, HB9⟩

end Go.Proofs.Ytkgggadcdmbglaa
