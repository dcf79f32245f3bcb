/-
  RingSteps: what is ahead of what is behind x is x; from there on the list goes through all: the law's call answers true at every input.
-/
import Derived.Test.YtkgggadcdmbglaaRgW
namespace Go.Proofs.Ytkgggadcdmbglaa
open Go.RowKit

theorem after_rot (v : Value) (l : List Int) (k i : Nat) (w : World) (h : Ints w v l) (hl : l.length ≤ 1000000) (hn : l.Nodup) (hk : k < l.length) (hi : i + 1 < l.length) :
    Calls Try.prog 16 #[v, .int .i64 (getI (rotL l k) i)] w fun e w' => e = .returned (.tuple #[.int .i64 (getI (rotL l k) (i + 1)), .bool true]) ∧ w = w' := by
  have h0 : 0 < l.length := by omega
  have hm := Nat.mod_lt (k + i) h0
  rw [rotL_get l k i (by omega) (by omega), rotL_get l k (i + 1) (by omega) hi]
  have := (after_any v l (getI l ((k + i) % l.length)) w h hl).1 _ hm (idx_nodup hn _ hm)
  rw [Nat.mod_add_mod, Nat.add_assoc] at this
  exact this

theorem before_after (v : Value) (l : List Int) (k : Nat) (w : World) (h : Ints w v l) (hl : l.length ≤ 1000000) (hn : l.Nodup) (hk : k < l.length) :
    Calls Try.prog 17 #[v, .int .i64 (getI l ((k + 1) % l.length))] w fun e w' => e = .returned (.tuple #[.int .i64 (getI l k), .bool true]) ∧ w = w' := by
  have h0 : 0 < l.length := by omega
  have hm := Nat.mod_lt (k + 1) h0
  have := (before_any v l (getI l ((k + 1) % l.length)) w h hl).1 _ hm (idx_nodup hn _ hm)
  rw [Nat.mod_add_mod, show k + 1 + (l.length - 1) = k + l.length by omega, Nat.add_mod_right, Nat.mod_eq_of_lt hk] at this
  exact this

set_option maxRecDepth 100000 in
set_option maxHeartbeats 2000000 in
theorem ringSteps_any (v : Value) (l : List Int) (x : Int) (w : World) (h : Ints w v l) :
    Calls Try.prog 4 #[v, .int .i64 x] w fun e w' => e = .returned (.bool true) ∧ Below w.heap.size w w' := by
  have HI := Lib.hid h
  obtain ⟨A, cap, rfl, hcap, hm, hcell⟩ := h
  unfold maxLen at hm
  clear hcell
  by_cases hl : 100 < l.length
  · go_enter Try.func4, Try.ntmps4
    go_wp2_with fail
    refine (awake_any w).mono ?_
    rintro e w1 ⟨rfl, hB1⟩
    go_wp2_with fail
    refine (awake_any w1).mono ?_
    rintro e w2 ⟨rfl, hB2⟩
    go_wp2
    go_ret
    exact ⟨rfl, trans2 hB1 hB2⟩
  by_cases hn : l.Nodup
  case neg =>
    have HN := Lib.hid (nodupB_false hn)
    clear hn
    go_enter Try.func4, Try.ntmps4
    go_wp2_with fail
    refine (awake_any w).mono ?_
    rintro e w1 ⟨rfl, hB1⟩
    go_wp2_with fail
    refine (right_any _ l w1 (HI.out.below hB1) (by omega)).mono ?_
    rintro e w2 ⟨rfl, hB2⟩
    rw [HN.out]
    go_wp2_with fail
    refine (awake_any w2).mono ?_
    rintro e w3 ⟨rfl, hB3⟩
    go_wp2
    go_ret
    exact ⟨rfl, trans2 (trans2 hB1 hB2) hB3⟩
  have HN := Lib.hid (nodupB_true hn)
  have HND := Lib.hid hn
  clear hn
  rcases idx_cases l x with ⟨k, hk, e, hx, _⟩ | ⟨e, _⟩
  case inr =>
    have HE := Lib.hid e
    clear e
    go_enter Try.func4, Try.ntmps4
    go_wp2_with fail
    refine (awake_any w).mono ?_
    rintro e w1 ⟨rfl, hB1⟩
    go_wp2_with fail
    refine (right_any _ l w1 (HI.out.below hB1) (by omega)).mono ?_
    rintro e w2 ⟨rfl, hB2⟩
    rw [HN.out]
    have HB2 := trans2 hB1 hB2
    have HI2 := Lib.hid (HI.out.below HB2)
    clear hB1 hB2
    go_wp2_with fail
    refine ((after_any _ l x w2 HI2.out (by omega)).2 HE.out).mono ?_
    rintro e w3 ⟨rfl, rfl⟩
    go_wp2_with fail
    refine ((before_any _ l x w2 HI2.out (by omega)).2 HE.out).mono ?_
    rintro e w3 ⟨rfl, rfl⟩
    go_wp2_with fail
    refine ((from_any _ l x w2 HI2.out (by omega)).2 HE.out).mono ?_
    rintro e w3 ⟨rfl, rfl⟩
    go_wp2
    go_ret
    exact ⟨rfl, HB2⟩
  have HE := Lib.hid e
  have HX := Lib.hid hx
  have HRL := Lib.hid (rotL_length l k)
  have HX0 := Lib.hid (show getI (rotL l k) 0 = x by rw [rotL_get l k 0 (by omega) (by omega), Nat.add_zero, Nat.mod_eq_of_lt hk]; exact hx)
  clear e hx
  go_enter Try.func4, Try.ntmps4
  go_wp2_with fail
  refine (awake_any w).mono ?_
  rintro e w1 ⟨rfl, hB1⟩
  go_wp2_with fail
  refine (right_any _ l w1 (HI.out.below hB1) (by omega)).mono ?_
  rintro e w2 ⟨rfl, hB2⟩
  rw [HN.out]
  have HB2 := trans2 hB1 hB2
  have HI2 := Lib.hid (HI.out.below HB2)
  have HBA := Lib.hid (before_after _ l k w2 HI2.out (by omega) HND.out hk)
  rw [HX.out] at HBA
  clear hB1 hB2
  go_wp2_with fail
  refine ((after_any _ l x w2 HI2.out (by omega)).1 k hk HE.out).mono ?_
  rintro e w3 ⟨rfl, rfl⟩
  generalize getI l ((k + 1) % l.length) = y at *
  go_wp2_with fail
  refine HBA.out.mono ?_
  rintro e w3 ⟨rfl, rfl⟩
  go_wp2_with fail
  refine ((from_any _ l x w2 HI2.out (by omega)).1 k hk HE.out).mono ?_
  rintro e w3 ⟨u, rfl, hown, hB3⟩
  have HB3 := trans2 HB2 hB3
  have HI3 := Lib.hid (HI.out.below HB3)
  rw [← HRL.out] at hown
  obtain ⟨A6, cap6, hv6, _, hm6, hr6⟩ := Ints.of_own hown
  have hrl := HRL.out
  obtain ⟨b, off, hA6, hb6, hc6⟩ := hr6 (by omega)
  have HC6 := Lib.hid hc6
  have hc0 := hc6 0 (by omega)
  rw [HX0.out, Nat.add_zero] at hc0
  rw [hrl] at hv6
  subst hv6
  subst hA6
  have HAF := Lib.hid (fun i hi => after_rot _ l k i w3 HI3.out (by omega) HND.out hk hi)
  have hxx : (x != x) = false := by simp
  have hll : ((l.length : Int) != (l.length : Int)) = false := by simp
  have hpos : 0 < l.length := by omega
  clear hc6 hr6 hrl hown hB3 HB2 HI2 HBA
  go_wp2
  go_loop [15] (fun i => ∃ j : Nat, j < l.length ∧ i = .int .i64 j) (fun i => l.length - (intOf i).toNat)
  case atStart => exact ⟨0, hpos, rfl⟩
  case round =>
    obtain ⟨j, hj, rfl⟩ := hrel
    by_cases hlt : j + 1 < l.length
    · have hcj := HC6.out j (by rw [HRL.out]; omega)
      have hcj1 := HC6.out (j + 1) (by rw [HRL.out]; omega)
      have hAj := Lib.hid (HAF.out j hlt)
      have hi1 : (j : Int) + 1 < (l.length : Int) := by omega
      generalize getI (rotL l k) j = mj at *
      generalize getI (rotL l k) (j + 1) = mj1 at *
      have hmm : (mj1 != mj1) = false := by simp
      go_wp2_with fail
      refine hAj.out.mono ?_
      rintro e w4 ⟨rfl, rfl⟩
      go_wp2
      go_round
      case rel => exact ⟨j + 1, hlt, by go_num⟩
      case measure => simp [intOf]; omega
    · have hi1 : ¬ (j : Int) + 1 < (l.length : Int) := by omega
      go_wp2
      go_ret
      exact ⟨rfl, HB3⟩

end Go.Proofs.Ytkgggadcdmbglaa
