/-
  The program's Has, Same; slices.Equal, slices.Clone, slices.BinarySearch at lists of numbers.
-/
import Derived.Test.YtjnohnbppkhbaaaGrM
import Derived.Test.YtjnohnbppkhbaaaGrH
import Derived.Test.YtjnohnbppkhbaaaGLays
namespace Go.Proofs.Ytjnohnbppkhbaaa
open Go.RowKit Go.Shelf

theorem getD_getI (l : List Int) (j : Nat) : l.getD j 0 = getI l j := rfl

set_option maxRecDepth 100000 in
set_option maxHeartbeats 1000000 in
theorem search_any (v : Value) (l : List Int) (x : Int) (w : World) (h : Ints w v l) (hu : Up l) (hl : l.length ≤ 1000000) :
    Calls Try.prog 47 #[v, .int .i64 x] w fun e w' => (∃ n : Int, e = .returned (.tuple #[.int .i64 n, .bool (decide (x ∈ l))])) ∧ ∃ q, w' = w.drewN q := by
  obtain ⟨A, cap, rfl, hcap, hm, hcell⟩ := h
  by_cases h0 : l.length = 0
  · have e0 : l = [] := List.length_eq_zero_iff.1 h0
    subst e0
    clear hcell h0
    simp only [List.length_nil]
    go_enter Try.func47, Try.ntmps47
    go_wp2
    go_loop [7, 8] (fun i j => i = .int .i64 0 ∧ j = .int .i64 0) (fun _ _ => 0)
    case atStart => exact ⟨rfl, rfl⟩
    case round =>
      obtain ⟨rfl, rfl⟩ := hrel
      go_wp2
      go_ret2
      exact ⟨⟨0, rfl⟩, 0, rfl⟩
  · obtain ⟨b, off, rfl, hb, hc⟩ := hcell (by omega)
    have hcon := AnyG.slices_BinarySearch_int Try.laysSearch b off l.length cap l x w (Nat.le_refl _) (by omega) hc (by rw [List.take_length]; exact List.Pairwise.imp (fun h => Int.le_of_lt h) hu)
    change Calls Try.prog 47 _ _ _ at hcon
    refine hcon.mono ?_
    rintro e w' ⟨rfl, hq⟩
    have e : (l.take l.length).contains x = decide (x ∈ l) := by rw [List.take_length, Bool.eq_iff_iff, List.contains_iff_mem, decide_eq_true_eq]
    exact ⟨⟨((l.take l.length).countP (fun y => decide (y < x)) : Nat), by rw [e]⟩, hq⟩

set_option maxRecDepth 100000 in
set_option maxHeartbeats 1000000 in
theorem has_any (v : Value) (l : List Int) (x : Int) (w : World) (h : Ints w v l) (hu : Up l) (hl : l.length ≤ 1000000) :
    Calls Try.prog 35 #[v, .int .i64 x] w fun e w' => e = .returned (.bool (decide (x ∈ l))) ∧ Below w.heap.size w w' := by
  have HI := Lib.hid h
  obtain ⟨A, c, rfl⟩ := ints_form h
  clear h
  go_enter Try.func35, Try.ntmps35
  go_wp2_with fail
  refine (search_any _ l x w HI.out hu hl).mono ?_
  rintro e w1 ⟨⟨n, rfl⟩, q, rfl⟩
  obtain ⟨r, hr⟩ : ∃ r, decide (x ∈ l) = r := ⟨_, rfl⟩
  have HR := Lib.hid hr
  rw [hr]
  clear hr
  go_wp2
  go_ret
  exact ⟨ret_bool HR.out.symm, below_drewN' w q⟩

def sameB (p q : Prt) : Bool := decide (p.v = q.v) && decide (p.e = q.e)
theorem sameB_iff (p q : Prt) : sameB p q = true ↔ p = q := by
  unfold sameB
  rw [Bool.and_eq_true, decide_eq_true_eq, decide_eq_true_eq]
  constructor
  · rintro ⟨h1, h2⟩
    cases p; cases q
    simp only at h1 h2
    rw [h1, h2]
  · rintro rfl
    exact ⟨rfl, rfl⟩

end Go.Proofs.Ytjnohnbppkhbaaa
