/-
  The document's examples of the ring layer: the call that asks them answers yes.
-/
import Derived.Test.YtkgggadcdmbglaaRgL
namespace Go.Proofs.Ytkgggadcdmbglaa
open Go.RowKit

/-- A slice that the call has written out. -/
theorem lit_ints (w : World) (xs : List Int) (h : xs.length ≤ 1000000) :
    Ints (w.alloc (.cells (xs.map (Value.int .i64)).toArray 3)) (.slice (some ⟨w.heap.size, 0, none⟩) xs.length xs.length) xs := by
  refine ⟨_, _, rfl, Nat.le_refl _, by unfold maxLen; omega, fun h0 => ⟨w.heap.size, 0, rfl, by simp, fun j hj => ?_⟩⟩
  refine cell_of_row _ _ _ (xs.map (Value.int .i64)).toArray 3 (0, 0) (heap_alloc_new w _) |>.trans ?_
  rw [Nat.zero_add, getI_of xs j hj]
  simp [hj]

theorem lit1 (w : World) (a : Int) : Ints (w.alloc (.cells #[.int .i64 a] 3)) (.slice (some ⟨w.heap.size, 0, none⟩) 1 1) [a] := lit_ints w [a] (by simp)
theorem lit2 (w : World) (a b : Int) : Ints (w.alloc (.cells #[.int .i64 a, .int .i64 b] 3)) (.slice (some ⟨w.heap.size, 0, none⟩) 2 2) [a, b] := lit_ints w [a, b] (by simp)
theorem lit3 (w : World) (a b c : Int) : Ints (w.alloc (.cells #[.int .i64 a, .int .i64 b, .int .i64 c] 3)) (.slice (some ⟨w.heap.size, 0, none⟩) 3 3) [a, b, c] := lit_ints w [a, b, c] (by simp)
theorem lit4 (w : World) (a b c d : Int) : Ints (w.alloc (.cells #[.int .i64 a, .int .i64 b, .int .i64 c, .int .i64 d] 3)) (.slice (some ⟨w.heap.size, 0, none⟩) 4 4) [a, b, c, d] := lit_ints w [a, b, c, d] (by simp)

theorem ListOrNot.is {o : Option (List Int)} {m : List Int} (h : o = Option.some m) {w w' : World} {e : Ending} (hl : ListOrNot o w e w') : ∃ u, e = .returned (.tuple #[u, .bool true]) ∧ Ints w' u m ∧ Below w.heap.size w w' := by
  subst h
  obtain ⟨u, h1, h2, h3⟩ := hl
  exact ⟨u, h1, h2, h3⟩
theorem ListOrNot.isnt {o : Option (List Int)} (h : o = Option.none) {w w' : World} {e : Ending} (hl : ListOrNot o w e w') : ∃ u, e = .returned (.tuple #[u, .bool false]) ∧ Ints w' u [] ∧ Below w.heap.size w w' := by
  subst h
  obtain ⟨u, h1, h2, h3⟩ := hl
  exact ⟨u, h1, h2, h3⟩

theorem ex1 : labelsO [5, 5, 7, 5] = some [5, 7] := by decide +kernel
theorem ex2 : labelsO [5, 7, 5, 7] = none := by decide +kernel
theorem ex3 : rotL [3, 1, 2] (minAt [3, 1, 2] ([3, 1, 2] : List Int).length) = [1, 2, 3] := by decide +kernel
theorem ex4 : orderB [1, 2, 3] 2 3 1 = true := by decide +kernel

set_option maxRecDepth 100000 in
set_option maxHeartbeats 400000 in
theorem awake_any (w : World) :
    Calls Try.prog 9 #[] w fun e w' => e = .returned (.bool true) ∧ Below w.heap.size w w' := by
  go_enter Try.func9, Try.ntmps9
  go_wp2_with fail
  refine (labels_any _ [5, 5, 7, 5] _ (lit4 w 5 5 7 5) (by decide)).mono ?_
  rintro e w1 hl
  obtain ⟨u1, rfl, hI1, hB1⟩ := hl.is ex1
  have HB1 := (below_alloc _).trans (hB1.mono (by simp))
  have HI1 := Lib.hid hI1
  clear hl hB1 hI1
  go_wp2_with fail
  refine (labels_any _ [5, 7, 5, 7] _ (lit4 w1 5 7 5 7) (by decide)).mono ?_
  rintro e w2 hl
  obtain ⟨u2, rfl, hI2, hB2⟩ := hl.isnt ex2
  have HB2 := (below_alloc _).trans (hB2.mono (by simp))
  have HI1' := Lib.hid (HI1.out.below HB2)
  have HBB := HB1.trans (HB2.mono HB1.size)
  clear hl hB2 hI2 HI1 HB1 HB2
  go_wp2_with fail
  refine (first_any _ [3, 1, 2] _ (lit3 w2 3 1 2) (by decide)).mono ?_
  rintro e w3 ⟨u3, rfl, hown3, hB3⟩
  rw [ex3] at hown3
  have HI3 := Lib.hid (Ints.of_own (l := [1, 2, 3]) hown3)
  have HB3 := (below_alloc _).trans (hB3.mono (by simp))
  have HI1'' := Lib.hid (HI1'.out.below HB3)
  have HBB3 := HBB.trans (HB3.mono HBB.size)
  clear hown3 hB3 HB3 HBB HI1'
  go_wp2_with fail
  refine (equal_any _ [1, 2, 3] _ [1, 2, 3] _ (HI3.out.below (below_alloc _)) (lit3 w3 1 2 3) (by decide)).mono ?_
  rintro e w4 ⟨rfl, n4, rfl⟩
  have HB4 := below_drewN (HBB3.alloc HBB3.size (.cells #[.int .i64 1, .int .i64 2, .int .i64 3] 3)) n4
  have HI5 := Lib.hid ((HI1''.out.below (below_alloc (.cells #[.int .i64 1, .int .i64 2, .int .i64 3] 3))).drewN n4)
  have e4 : decide (([1, 2, 3] : List Int) = [1, 2, 3]) = true := rfl
  rw [e4]
  clear e4 HI1'' HBB3 HI3
  generalize (w3.alloc (.cells #[.int .i64 1, .int .i64 2, .int .i64 3] 3)).drewN n4 = w4 at *
  go_wp2_with fail
  refine (equal_any _ [5, 7] _ [5, 7] _ (HI5.out.below (below_alloc _)) (lit2 w4 5 7) (by decide)).mono ?_
  rintro e w5 ⟨rfl, n5, rfl⟩
  have HB5 := below_drewN (HB4.alloc HB4.size (.cells #[.int .i64 5, .int .i64 7] 3)) n5
  have e5 : decide (([5, 7] : List Int) = [5, 7]) = true := rfl
  rw [e5]
  clear e5 HB4 HI5
  generalize (w4.alloc (.cells #[.int .i64 5, .int .i64 7] 3)).drewN n5 = w5 at *
  go_wp2_with fail
  refine (order_any _ [1, 2, 3] 2 3 1 _ (lit3 w5 1 2 3) (by decide)).mono ?_
  rintro e w6 ⟨rfl, hB6⟩
  rw [ex4]
  have HB6 := HB5.trans (((below_alloc _).trans (hB6.mono (by simp))).mono HB5.size)
  clear hB6
  go_wp2
  go_ret
  exact ⟨rfl, HB6⟩

end Go.Proofs.Ytkgggadcdmbglaa
