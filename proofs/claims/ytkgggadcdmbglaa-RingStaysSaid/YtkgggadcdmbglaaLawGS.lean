/-
  RingStays: a number put in its own place, and all numbers kept, leave a list as it is: the law's call answers true at every input.
-/
import Derived.Test.YtkgggadcdmbglaaRgQ
namespace Go.Proofs.Ytkgggadcdmbglaa
open Go.RowKit

theorem filter_all (l : List Int) : l.filter allB = l := by
  rw [List.filter_eq_self]; intro a _; rfl

theorem dec_self (l : List Int) : decide (l = l) = true := by simp

theorem put_back (l : List Int) (k : Nat) (h : k < l.length) : l.take k ++ ([getI l k] ++ l.drop (k + 1)) = l := by
  rw [← List.append_assoc, ← take_succ_getI l k h, List.take_append_drop]

set_option maxRecDepth 100000 in
set_option maxHeartbeats 2000000 in
theorem ringStays_any (v : Value) (l : List Int) (x : Int) (w : World) (h : Ints w v l) :
    Calls Try.prog 8 #[v, .int .i64 x] w fun e w' => e = .returned (.bool true) ∧ Below w.heap.size w w' := by
  have HI := Lib.hid h
  obtain ⟨A, cap, rfl, hcap, hm, hcell⟩ := h
  unfold maxLen at hm
  clear hcell
  by_cases hl : 100 < l.length
  · go_enter Try.func8, Try.ntmps8
    go_wp2_with fail
    refine (awake_any w).mono ?_
    rintro e w1 ⟨rfl, hB1⟩
    go_wp2_with fail
    refine (awake_any w1).mono ?_
    rintro e w2 ⟨rfl, hB2⟩
    go_wp2
    go_ret
    exact ⟨rfl, trans2 hB1 hB2⟩
  rcases idx_cases l x with ⟨k, hk, e, hx, _⟩ | ⟨e, _⟩
  · have HE := Lib.hid e
    have HPB := Lib.hid (show l.take k ++ ([x] ++ l.drop (k + 1)) = l by rw [← hx]; exact put_back l k hk)
    have HX0 := Lib.hid (show getI (rotL l k) 0 = x by rw [rotL_get l k 0 (by omega) (by omega), Nat.add_zero, Nat.mod_eq_of_lt hk]; exact hx)
    have HRL := Lib.hid (rotL_length l k)
    clear e hx
    go_enter Try.func8, Try.ntmps8
    go_wp2_with fail
    refine (awake_any w).mono ?_
    rintro e w1 ⟨rfl, hB1⟩
    go_wp2_with fail
    refine ((put_any _ l x _ [x] _ (HI.out.below (trans2 hB1 (below_alloc _))) (lit1 w1 x) (by omega) (by simp)).1 k hk HE.out).mono ?_
    rintro e w2 ⟨p, rfl, hp, hB2⟩
    rw [HPB.out] at hp
    have HP := Lib.hid hp
    have HB2 := trans2 (trans2 hB1 (below_alloc _)) hB2
    clear hp hB1 hB2
    go_wp2_with fail
    refine ((from_any _ l x w2 (HI.out.below HB2) (by omega)).1 k hk HE.out).mono ?_
    rintro e w3 ⟨m, rfl, hown, hB3⟩
    have HB3 := trans2 HB2 hB3
    have HP3 := Lib.hid (HP.out.below hB3)
    rw [← HRL.out] at hown
    have HM3 := Lib.hid (Ints.of_own hown)
    clear hown hB3 HB2 HP
    go_wp2_with fail
    refine (keepAll_any _ l w3 (HI.out.below HB3) (by omega)).mono ?_
    rintro e w4 ⟨q, rfl, hown4, hB4⟩
    rw [filter_all] at hown4
    have HQ := Lib.hid (Ints.of_own hown4)
    have HB4 := trans2 HB3 hB4
    have HP4 := Lib.hid (HP3.out.below hB4)
    have HM4 := Lib.hid (HM3.out.below hB4)
    clear hown4 hB4 HB3 HP3 HM3
    go_wp2_with fail
    refine (equal_any _ l _ l w4 HQ.out (HI.out.below HB4) (by omega)).mono ?_
    rintro e w5 ⟨rfl, n5, rfl⟩
    rw [dec_self]
    have HB5 := below_drewN HB4 n5
    have HP5 := Lib.hid (HP4.out.drewN n5)
    have HM5 := Lib.hid (HM4.out.drewN n5)
    clear HB4 HP4 HM4 HQ
    generalize w4.drewN n5 = w5 at *
    go_wp2_with fail
    refine (equal_any _ l _ l w5 HP5.out (HI.out.below HB5) (by omega)).mono ?_
    rintro e w6 ⟨rfl, n6, rfl⟩
    rw [dec_self]
    have HB6 := below_drewN HB5 n6
    have HM6 := HM5.out.drewN n6
    clear HB5 HP5 HM5
    generalize w5.drewN n6 = w6 at *
    obtain ⟨A6, cap6, hv6, _, _, hr6⟩ := HM6
    have hrl := HRL.out
    obtain ⟨b, off, hA6, hb6, hc6⟩ := hr6 (by omega)
    have hc0 := hc6 0 (by omega)
    rw [HX0.out, Nat.add_zero] at hc0
    rw [hrl] at hv6
    subst hv6
    subst hA6
    have hpos : 0 < l.length := by omega
    have hxx : (x == x) = true := by simp
    have hll : ((l.length : Int) == (l.length : Int)) = true := by simp
    clear hc6 hr6 hrl
    go_wp2
    go_ret
    exact ⟨rfl, HB6⟩
  · have HE := Lib.hid e
    clear e
    go_enter Try.func8, Try.ntmps8
    go_wp2_with fail
    refine (awake_any w).mono ?_
    rintro e w1 ⟨rfl, hB1⟩
    go_wp2_with fail
    refine ((put_any _ l x _ [x] _ (HI.out.below (trans2 hB1 (below_alloc _))) (lit1 w1 x) (by omega) (by simp)).2 HE.out).mono ?_
    rintro e w2 ⟨rfl, rfl⟩
    have HB2 := trans2 hB1 (below_alloc (.cells #[.int .i64 x] 3))
    clear hB1
    generalize w1.alloc (.cells #[.int .i64 x] 3) = w2 at *
    go_wp2_with fail
    refine ((from_any _ l x w2 (HI.out.below HB2) (by omega)).2 HE.out).mono ?_
    rintro e w3 ⟨rfl, rfl⟩
    go_wp2_with fail
    refine (keepAll_any _ l w2 (HI.out.below HB2) (by omega)).mono ?_
    rintro e w4 ⟨q, rfl, hown4, hB4⟩
    rw [filter_all] at hown4
    have HQ := Lib.hid (Ints.of_own hown4)
    have HB4 := trans2 HB2 hB4
    clear hown4 hB4 HB2
    go_wp2_with fail
    refine (equal_any _ l _ l w4 HQ.out (HI.out.below HB4) (by omega)).mono ?_
    rintro e w5 ⟨rfl, n5, rfl⟩
    rw [dec_self]
    go_wp2
    go_ret
    exact ⟨rfl, below_drewN HB4 n5⟩

end Go.Proofs.Ytkgggadcdmbglaa
