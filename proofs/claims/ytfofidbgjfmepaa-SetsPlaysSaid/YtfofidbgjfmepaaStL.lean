/-
  The document's example of the sets layer: the call that asks it answers yes; and nil sets have nothing.
-/
import Derived.Test.YtfofidbgjfmepaaStK
namespace Go.Proofs.Ytfofidbgjfmepaa
open Go.RowKit Go.Maps

/-- A slice that the call has written out. -/
theorem lit_ints (w : World) (xs : List Int) (h : xs.length ≤ 1000000) :
    Ints (w.alloc (.cells (xs.map (Value.int .i64)).toArray 3)) (.slice (some ⟨w.heap.size, 0, none⟩) xs.length xs.length) xs := by
  refine ⟨_, _, rfl, Nat.le_refl _, by unfold maxLen; omega, fun h0 => ⟨w.heap.size, 0, rfl, by simp, fun j hj => ?_⟩⟩
  refine cell_of_row _ _ _ (xs.map (Value.int .i64)).toArray 3 (0, 0) (heap_alloc_new w _) |>.trans ?_
  rw [Nat.zero_add, getI_of xs j hj]
  simp [hj]
theorem lit3 (w : World) (a b c : Int) : Ints (w.alloc (.cells #[.int .i64 a, .int .i64 b, .int .i64 c] 3)) (.slice (some ⟨w.heap.size, 0, none⟩) 3 3) [a, b, c] := lit_ints w [a, b, c] (by simp)

theorem ex0 : (St.news [1, 2, 3]).ts = [1, 2, 3] ∧ (St.news [1, 2, 3]).gr = [0, 1, 2] := by decide +kernel
theorem ex1 : (St.mk [1, 2, 3] [0, 1, 2]).joins 3 1 = true ∧ ((St.mk [1, 2, 3] [0, 1, 2]).join 3 1).ts = [1, 2, 3] ∧ ((St.mk [1, 2, 3] [0, 1, 2]).join 3 1).gr = [0, 1, 0] := by decide +kernel
theorem ex2 : (St.mk [1, 2, 3] [0, 1, 0]).joins 1 3 = false ∧ ((St.mk [1, 2, 3] [0, 1, 0]).join 1 3).ts = [1, 2, 3] ∧ ((St.mk [1, 2, 3] [0, 1, 0]).join 1 3).gr = [0, 1, 0] := by decide +kernel
theorem ex3 : (St.mk [1, 2, 3] [0, 1, 0]).groups = [[1, 3], [2]] := by decide +kernel
theorem St.eq_mk {s : St} {ts : List Int} {gr : List Nat} (h : s.ts = ts ∧ s.gr = gr) : s = St.mk ts gr := by cases s; simp_all

set_option maxRecDepth 100000 in
set_option maxHeartbeats 1000000 in
theorem awake_any (w : World) :
    Calls Try.prog 7 #[] w fun e w' => e = .returned (.bool true) ∧ Below w.heap.size w w' := by
  go_enter Try.func7, Try.ntmps7
  go_wp2_with fail
  refine (new_any _ _ [1, 2, 3] (lit3 w 1 2 3) (by decide) (by decide)).mono ?_
  rintro e w1 ⟨sb, F1, rfl, hH1, hB1, hF1⟩
  rw [St.eq_mk ex0] at hH1
  have hB1' := (below_alloc (w := w) (.cells #[.int .i64 1, .int .i64 2, .int .i64 3] 3)).trans (hB1.mono (by simp))
  have hF1' : ∀ k, F1 k → w.heap.size ≤ k := fun k hk => by have := hF1 k hk; simp at this; omega
  clear hB1 hF1
  go_wp2_with fail
  refine (join_any w1 F1 sb _ 3 1 hH1 (by decide) (by decide) (by decide)).mono ?_
  rintro e w2 ⟨rfl, F2, hH2, hO2, hF2⟩
  rw [St.eq_mk ex1.2] at hH2
  rw [ex1.1]
  go_wp2_with fail
  refine (join_any w2 F2 sb _ 1 3 hH2 (by decide) (by decide) (by decide)).mono ?_
  rintro e w3 ⟨rfl, F3, hH3, hO3, hF3⟩
  rw [St.eq_mk ex2.2] at hH3
  rw [ex2.1]
  go_wp2_with fail
  refine (groups_any w3 F3 sb _ hH3 (by decide)).mono ?_
  rintro e w4 ⟨u, rfl, hL, hK4⟩
  rw [ex3] at hL
  have hs1 := hB1'.size
  have hs2 := hO2.size
  have hs3 := hO3.size
  have hBB : Below w.heap.size w w4 := by
    have b2 : Below w.heap.size w1 w2 := hO2.below hs1 hF1'
    have f2 : ∀ k, F2 k → w.heap.size ≤ k := fun k hk => (hF2 k hk).elim (hF1' k) (fun h => by omega)
    have b3 : Below w.heap.size w2 w3 := hO3.below (by omega) f2
    have f3 : ∀ k, F3 k → w.heap.size ≤ k := fun k hk => (hF3 k hk).elim (f2 k) (fun h => by omega)
    have b4 : Below w.heap.size w3 w4 := hK4.2.below (by omega) f3
    exact ((hB1'.trans b2).trans b3).trans b4
  obtain ⟨A, cap, rfl, hc, hm, hr⟩ := hL
  obtain ⟨b, rfl, _, _, hg⟩ := hr (by decide)
  obtain ⟨u0, hc0, hI0, _⟩ := hg 0 (by decide)
  obtain ⟨u1, hc1, hI1, _⟩ := hg 1 (by decide)
  obtain ⟨A0, cap0, rfl, _, _, hr0⟩ := hI0
  obtain ⟨b0, off0, rfl, _, hd0⟩ := hr0 (by decide)
  obtain ⟨A1, cap1, rfl, _, _, hr1⟩ := hI1
  obtain ⟨b1, off1, rfl, _, hd1⟩ := hr1 (by decide)
  have x00 := hd0 0 (by decide)
  have x01 := hd0 1 (by decide)
  have x10 := hd1 0 (by decide)
  change w4.cell? ⟨b0, off0, none⟩ = some (.int .i64 1) at x00
  change w4.cell? ⟨b0, off0 + 1, none⟩ = some (.int .i64 3) at x01
  change w4.cell? ⟨b1, off1, none⟩ = some (.int .i64 2) at x10
  change w4.cell? ⟨b, 0, none⟩ = some (.slice (some ⟨b0, off0, none⟩) 2 cap0) at hc0
  change w4.cell? ⟨b, 1, none⟩ = some (.slice (some ⟨b1, off1, none⟩) 1 cap1) at hc1
  have HBB := Lib.hid hBB
  clear hg hd0 hd1 hr hr0 hr1 hH1 hH2 hH3 hK4 hB1' hO2 hO3 hBB hs1 hs2 hs3 hF1' hF2 hF3
  go_wp2
  go_ret
  exact ⟨rfl, HBB.out⟩

set_option maxRecDepth 100000 in
set_option maxHeartbeats 1000000 in
theorem nil_law (x y : Int) (w : World) :
    Calls Try.prog 5 #[.int .i64 x, .int .i64 y] w fun e w' => e = .returned (.bool true) ∧ Below w.heap.size w w' := by
  go_enter Try.func5, Try.ntmps5
  go_wp2_with fail
  refine (head_nil _ x).mono ?_
  rintro e w1 ⟨rfl, hB1⟩
  go_wp2_with fail
  refine (awake_any w1).mono ?_
  rintro e w2 ⟨rfl, hB2⟩
  have b2 := trans2 hB1 hB2
  clear hB1 hB2
  go_wp2_with fail
  refine (add_nil w2 x).mono ?_
  rintro e w3 ⟨rfl, hB3⟩
  have b3 := trans2 b2 hB3
  clear b2 hB3
  go_wp2_with fail
  refine (join_nil w3 x y).mono ?_
  rintro e w4 ⟨rfl, hB4⟩
  have b4 := trans2 b3 hB4
  clear b3 hB4
  go_wp2_with fail
  refine (same_nil w4 x x).mono ?_
  rintro e w5 ⟨rfl, hB5⟩
  have b5 := trans2 b4 hB5
  clear b4 hB5
  go_wp2_with fail
  refine (len_nil w5).mono ?_
  rintro e w6 ⟨rfl, rfl⟩
  go_wp2_with fail
  refine (count_nil w5).mono ?_
  rintro e w7 ⟨rfl, rfl⟩
  go_wp2_with fail
  refine (groups_nil w5).mono ?_
  rintro e w8 ⟨rfl, rfl⟩
  go_wp2
  go_ret
  exact ⟨rfl, b5⟩

end Go.Proofs.Ytfofidbgjfmepaa
