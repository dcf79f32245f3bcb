/-
  WordNumbers: a number's text, in decimal without noughts ahead, is that number, and no other text is: the law's call answers true at every input.
-/
import Derived.Test.YtbmfadignoeigaaWordX
namespace Go.Proofs.Ytbmfadignoeigaa
open Go.RowKit

theorem zero_text (s : ByteArray) (h : numOf s = some 0) : s = ⟨#[48]⟩ := by
  rw [← dec_numOf s 0 h]; decide +kernel

/-- From the second half on: whatever text. -/
theorem dec_text (s : ByteArray) (k : Int) (w : World) (h : numOf s = some k) :
    Calls Try.prog 22 #[.int .i64 k] w fun e w' => e = .returned (.string s) ∧ Below w.heap.size w w' := by
  have := numOf_range s k h
  have hd := dec_any k w this.1 this.2
  rw [dec_numOf s k h] at hd
  exact hd

theorem size_dec (n : Int) (h0 : 0 ≤ n) (h1 : n ≤ 999999999) : (decS n).size ≤ maxLen := by
  rw [decS_eq n h0 h1, strOfNums_size]
  have := dl_length 12 9 n h0 (by omega) (by omega)
  unfold maxLen; omega

/-- What a text's number may be. -/
theorem num_ways (s : ByteArray) : numOf s = none ∨ (∃ k, numOf s = some k ∧ 0 < k) ∨ (numOf s = some 0 ∧ s = ⟨#[48]⟩) := by
  cases h : numOf s with
  | none => exact .inl rfl
  | some k =>
    have := numOf_range s k h
    by_cases h0 : k = 0
    · subst h0; exact .inr (.inr ⟨rfl, zero_text s h⟩)
    · exact .inr (.inl ⟨k, rfl, by omega⟩)

set_option maxRecDepth 100000 in
set_option maxHeartbeats 4000000 in
theorem wordNumbers_any (n : Int) (s : ByteArray) (w : World) (hn0 : -9223372036854775808 ≤ n) (hn1 : n ≤ 9223372036854775807) (hs : s.size ≤ maxLen) :
    Calls Try.prog 8 #[.int .i64 n, .string s] w fun e w' => e = .returned (.bool true) ∧ Below w.heap.size w w' := by
  have hm := hs
  unfold maxLen at hm
  have HS := Lib.hid hs
  clear hs
  have HN := Lib.hid (fun (w : World) => number_any s w HS.out)
  by_cases hl : 3000 < s.size
  · clear hn0 hn1
    go_enter Try.func8, Try.ntmps8
    go_wp2_with fail
    refine (awake_any w).mono ?_
    rintro e w1 ⟨rfl, hB1⟩
    go_wp2_with fail
    refine (awake_any w1).mono ?_
    rintro e w2 ⟨rfl, hB2⟩
    go_wp2
    go_ret
    exact ⟨rfl, hB1.trans (hB2.mono hB1.size)⟩
  have hin : (0 ≤ n ∧ n ≤ 999999999) ∨ n < 0 ∨ (0 ≤ n ∧ 999999999 < n) := by omega
  rcases hin with ⟨h0, h1⟩ | h0 | ⟨h0, h1⟩
  -- in range
  · clear hn0 hn1
    rcases num_ways s with hk | ⟨k, hk, hk0⟩ | ⟨hk, rfl⟩
    · go_enter Try.func8, Try.ntmps8
      go_wp2_with fail
      refine (awake_any w).mono ?_
      rintro e w1 ⟨rfl, hB1⟩
      go_wp2_with fail
      refine (dec_any n w1 h0 h1).mono ?_
      rintro e w2 ⟨rfl, hB2⟩
      go_wp2_with fail
      have hd := number_any (decS n) w2 (size_dec n h0 h1)
      rw [numOf_dec n h0 h1] at hd
      refine hd.mono ?_
      clear hd
      rintro e w3 ⟨rfl, hB3⟩
      go_wp2_with fail
      have hd := HN.out w3
      rw [hk] at hd
      refine hd.mono ?_
      clear hd
      rintro e w4 ⟨rfl, hB4⟩
      go_wp2
      go_ret
      have z0 := hB1.size
      have z1 := hB2.size
      have z2 := hB3.size
      have z3 := hB4.size
      exact ⟨rfl, (((hB1).trans (hB2.mono (by omega))).trans (hB3.mono (by omega))).trans (hB4.mono (by omega))⟩
    · have HK := Lib.hid hk
      go_enter Try.func8, Try.ntmps8
      go_wp2_with fail
      refine (awake_any w).mono ?_
      rintro e w1 ⟨rfl, hB1⟩
      go_wp2_with fail
      refine (dec_any n w1 h0 h1).mono ?_
      rintro e w2 ⟨rfl, hB2⟩
      go_wp2_with fail
      have hd := number_any (decS n) w2 (size_dec n h0 h1)
      rw [numOf_dec n h0 h1] at hd
      refine hd.mono ?_
      clear hd
      rintro e w3 ⟨rfl, hB3⟩
      go_wp2_with fail
      have hd := HN.out w3
      rw [hk] at hd
      refine hd.mono ?_
      clear hd
      rintro e w4 ⟨rfl, hB4⟩
      go_wp2_with fail
      refine (dec_text _ _ w4 HK.out).mono ?_
      rintro e w5 ⟨rfl, hB5⟩
      go_wp2
      go_ret
      have z0 := hB1.size
      have z1 := hB2.size
      have z2 := hB3.size
      have z3 := hB4.size
      have z4 := hB5.size
      exact ⟨rfl, ((((hB1).trans (hB2.mono (by omega))).trans (hB3.mono (by omega))).trans (hB4.mono (by omega))).trans (hB5.mono (by omega))⟩
    · have HK := Lib.hid hk
      go_enter Try.func8, Try.ntmps8
      go_wp2_with fail
      refine (awake_any w).mono ?_
      rintro e w1 ⟨rfl, hB1⟩
      go_wp2_with fail
      refine (dec_any n w1 h0 h1).mono ?_
      rintro e w2 ⟨rfl, hB2⟩
      go_wp2_with fail
      have hd := number_any (decS n) w2 (size_dec n h0 h1)
      rw [numOf_dec n h0 h1] at hd
      refine hd.mono ?_
      clear hd
      rintro e w3 ⟨rfl, hB3⟩
      go_wp2_with fail
      have hd := HN.out w3
      rw [hk] at hd
      refine hd.mono ?_
      clear hd
      rintro e w4 ⟨rfl, hB4⟩
      go_wp2_with fail
      refine (dec_text _ _ w4 HK.out).mono ?_
      rintro e w5 ⟨rfl, hB5⟩
      go_wp2
      go_ret
      have z0 := hB1.size
      have z1 := hB2.size
      have z2 := hB3.size
      have z3 := hB4.size
      have z4 := hB5.size
      exact ⟨rfl, ((((hB1).trans (hB2.mono (by omega))).trans (hB3.mono (by omega))).trans (hB4.mono (by omega))).trans (hB5.mono (by omega))⟩
  -- out of range
  all_goals
    clear hn0 hn1
    rcases num_ways s with hk | ⟨k, hk, hk0⟩ | ⟨hk, rfl⟩
    · go_enter Try.func8, Try.ntmps8
      go_wp2_with fail
      refine (awake_any w).mono ?_
      rintro e w1 ⟨rfl, hB1⟩
      go_wp2_with fail
      have hd := HN.out w1
      rw [hk] at hd
      refine hd.mono ?_
      clear hd
      rintro e w4 ⟨rfl, hB4⟩
      go_wp2
      go_ret
      have z0 := hB1.size
      have z1 := hB4.size
      exact ⟨rfl, (hB1).trans (hB4.mono (by omega))⟩
    · have HK := Lib.hid hk
      go_enter Try.func8, Try.ntmps8
      go_wp2_with fail
      refine (awake_any w).mono ?_
      rintro e w1 ⟨rfl, hB1⟩
      go_wp2_with fail
      have hd := HN.out w1
      rw [hk] at hd
      refine hd.mono ?_
      clear hd
      rintro e w4 ⟨rfl, hB4⟩
      go_wp2_with fail
      refine (dec_text _ _ w4 HK.out).mono ?_
      rintro e w5 ⟨rfl, hB5⟩
      go_wp2
      go_ret
      have z0 := hB1.size
      have z1 := hB4.size
      have z2 := hB5.size
      exact ⟨rfl, ((hB1).trans (hB4.mono (by omega))).trans (hB5.mono (by omega))⟩
    · have HK := Lib.hid hk
      go_enter Try.func8, Try.ntmps8
      go_wp2_with fail
      refine (awake_any w).mono ?_
      rintro e w1 ⟨rfl, hB1⟩
      go_wp2_with fail
      have hd := HN.out w1
      rw [hk] at hd
      refine hd.mono ?_
      clear hd
      rintro e w4 ⟨rfl, hB4⟩
      go_wp2_with fail
      refine (dec_text _ _ w4 HK.out).mono ?_
      rintro e w5 ⟨rfl, hB5⟩
      go_wp2
      go_ret
      have z0 := hB1.size
      have z1 := hB4.size
      have z2 := hB5.size
      exact ⟨rfl, ((hB1).trans (hB4.mono (by omega))).trans (hB5.mono (by omega))⟩

end Go.Proofs.Ytbmfadignoeigaa
