/-
  RingTurns: a ring begun elsewhere is the same; turned about twice it is as it was; its first is the same ring: the law's call answers true at every input.
-/
import Derived.Test.YtkgggadcdmbglaaLawGM
namespace Go.Proofs.Ytkgggadcdmbglaa
open Go.RowKit

set_option maxRecDepth 100000 in
set_option maxHeartbeats 2000000 in
theorem ringTurns_any (v : Value) (l : List Int) (at_ : Int) (w : World) (h : Ints w v l) (h1 : 0 ≤ at_) (h2 : at_ ≤ 255) :
    Calls Try.prog 3 #[v, .int .u8 at_] w fun e w' => e = .returned (.bool true) ∧ Below w.heap.size w w' := by
  obtain ⟨a, rfl⟩ := Int.eq_ofNat_of_zero_le h1
  have HI := Lib.hid h
  obtain ⟨A, cap, rfl, hcap, hm, hcell⟩ := h
  unfold maxLen at hm
  clear hcell
  by_cases hl : 100 < l.length
  · go_enter Try.func3, Try.ntmps3
    go_wp2_with fail
    refine (awake_any w).mono ?_
    rintro e w1 ⟨rfl, hB1⟩
    go_wp2_with fail
    refine (awake_any w1).mono ?_
    rintro e w2 ⟨rfl, hB2⟩
    go_wp2
    go_ret
    exact ⟨rfl, trans2 hB1 hB2⟩
  -- the list begun elsewhere, and its first
  obtain ⟨m, hme⟩ : ∃ m, rotL l (a % l.length) = m := ⟨_, rfl⟩
  obtain ⟨f, hfe⟩ : ∃ f, rotL l (minAt l l.length) = f := ⟨_, rfl⟩
  have hml : m.length = l.length := by rw [← hme]; exact rotL_length _ _
  have hfl : f.length = l.length := by rw [← hfe]; exact rotL_length _ _
  have hr1 : Ring1 l m := by
    by_cases h0 : l.length = 0
    · have e1 : l = [] := List.length_eq_zero_iff.1 h0
      have e2 : m = [] := List.length_eq_zero_iff.1 (by omega)
      rw [e1, e2]; exact Ring1.refl []
    · rw [← hme]; exact (Ring1.of_rot l _ (Nat.le_of_lt (Nat.mod_lt _ (by omega)))).symm
  have hr2 : Ring1 f l := by rw [← hfe]; exact Ring1.of_rot l _ (minAt_le l l.length)
  have HR1 := Lib.hid (ring1B_true hr1)
  have HR2 := Lib.hid (ring1B_true hr2)
  have HR3 := Lib.hid (ring1B_true hr1.reverse)
  have HME := Lib.hid hme
  have HFE := Lib.hid hfe
  have HML := Lib.hid hml
  have HFL := Lib.hid hfl
  have hma : m.length ≤ 100 := by omega
  have hfa : f.length ≤ 100 := by omega
  have HRR := Lib.hid (List.reverse_reverse l)
  have hlr : l.reverse.length ≤ 100 := by rw [List.length_reverse]; omega
  clear hme hfe hml hfl hr1 hr2
  go_enter Try.func3, Try.ntmps3
  go_wp2_with fail
  refine (awake_any w).mono ?_
  rintro e w1 ⟨rfl, hB1⟩
  go_wp2_with fail
  refine (turned_any _ l a w1 (HI.out.below hB1) (by omega) (by omega)).mono ?_
  rintro e w2 ⟨u, rfl, hown, hB2⟩
  rw [HME.out, ← HML.out] at hown
  have HM := Lib.hid (Ints.of_own hown)
  have HB2 := trans2 hB1 hB2
  clear hown hB1 hB2
  go_wp2_with fail
  refine (same_any _ l _ m w2 (HI.out.below HB2) HM.out (by omega)).mono ?_
  rintro e w3 ⟨rfl, n3, rfl⟩
  rw [HR1.out]
  have HB3 := below_drewN HB2 n3
  have HM3 := Lib.hid (HM.out.drewN n3)
  clear HB2 HM
  generalize w2.drewN n3 = w3 at *
  go_wp2_with fail
  refine (first_any _ l w3 (HI.out.below HB3) (by omega)).mono ?_
  rintro e w4 ⟨u1, rfl, hown4, hB4⟩
  rw [HFE.out, ← HFL.out] at hown4
  have HF4 := Lib.hid (Ints.of_own hown4)
  have HB4 := trans2 HB3 hB4
  have HM4 := Lib.hid (HM3.out.below hB4)
  clear hown4 hB4 HB3 HM3
  go_wp2_with fail
  refine (same_any _ f _ l w4 HF4.out (HI.out.below HB4) (by omega)).mono ?_
  rintro e w5 ⟨rfl, n5, rfl⟩
  rw [HR2.out]
  have HB5 := below_drewN HB4 n5
  have HM5 := Lib.hid (HM4.out.drewN n5)
  clear HB4 HM4 HF4
  generalize w4.drewN n5 = w5 at *
  go_wp2_with fail
  refine (about_any _ l w5 (HI.out.below HB5) (by omega)).mono ?_
  rintro e w6 ⟨u2, rfl, hI6, hB6⟩
  have HI6 := Lib.hid hI6
  have HB6 := trans2 HB5 hB6
  have HM6 := Lib.hid (HM5.out.below hB6)
  clear hI6 hB6 HB5 HM5
  go_wp2_with fail
  refine (about_any _ l.reverse w6 HI6.out (by omega)).mono ?_
  rintro e w7 ⟨u3, rfl, hI7, hB7⟩
  rw [HRR.out] at hI7
  have HI7 := Lib.hid hI7
  have HB7 := trans2 HB6 hB7
  have HM7 := Lib.hid (HM6.out.below hB7)
  clear hI7 hB7 HB6 HM6 HI6
  go_wp2_with fail
  refine (equal_any _ l _ l w7 HI7.out (HI.out.below HB7) (by omega)).mono ?_
  rintro e w8 ⟨rfl, n8, rfl⟩
  rw [dec_self']
  have HB8 := below_drewN HB7 n8
  have HM8 := Lib.hid (HM7.out.drewN n8)
  clear HB7 HM7 HI7
  generalize w7.drewN n8 = w8 at *
  go_wp2_with fail
  refine (about_any _ l w8 (HI.out.below HB8) (by omega)).mono ?_
  rintro e w9 ⟨u4, rfl, hI9, hB9⟩
  have HI9 := Lib.hid hI9
  have HB9 := trans2 HB8 hB9
  have HM9 := Lib.hid (HM8.out.below hB9)
  clear hI9 hB9 HB8 HM8
  go_wp2_with fail
  refine (about_any _ m w9 HM9.out (by omega)).mono ?_
  rintro e w10 ⟨u5, rfl, hI10, hB10⟩
  have HI10 := Lib.hid hI10
  have HB10 := trans2 HB9 hB10
  have HI9' := Lib.hid (HI9.out.below hB10)
  clear hI10 hB10 HB9 HI9 HM9
  go_wp2_with fail
  refine (same_any _ l.reverse _ m.reverse w10 HI9'.out HI10.out (by omega)).mono ?_
  rintro e w11 ⟨rfl, n11, rfl⟩
  rw [HR3.out]
  go_wp2
  go_ret
  exact ⟨rfl, below_drewN HB10 n11⟩

end Go.Proofs.Ytkgggadcdmbglaa
