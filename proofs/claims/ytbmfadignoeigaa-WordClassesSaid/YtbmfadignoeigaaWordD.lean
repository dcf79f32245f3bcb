/-
  The document's answers of the word layer: each call answers what the plain functions say.
-/
import Derived.Test.YtbmfadignoeigaaWordA
import Derived.Test.YtbmfadignoeigaaWordM
import Derived.Test.YtbmfadignoeigaaWordB
import Derived.Lib.Hide
namespace Go.Proofs.Ytbmfadignoeigaa
open Go.RowKit

theorem ret_ii {k k' : IntKind} {a b a' b' : Int} (h : a = a') (h' : b = b') : Ending.returned (.tuple #[.int k a, .int k' b]) = .returned (.tuple #[.int k a', .int k' b']) := by rw [h, h']

set_option maxRecDepth 100000 in
set_option maxHeartbeats 4000000 in
theorem rune_any (s : ByteArray) (i : Nat) (w : World) (hs : s.size ≤ maxLen) (hi : i < s.size) :
    Calls Try.prog 25 #[.string s, .int .i64 i] w fun e w' => e = .returned (.tuple #[.int .i64 (refRune s i).1, .int .i64 (refRune s i).2]) ∧ w = w' := by
  unfold maxLen at hs
  have hb := byteAt_lt s i
  have h0 := byteAt_of s i hi
  go_enter Try.func25, Try.ntmps25
  by_cases c0 : byteAt s i < 128
  · have HF := Lib.hid (refRune_ascii s i c0)
    go_wp2
    go_ret2
    exact ⟨by rw [HF.out]; exact ret_ii rfl rfl, rfl⟩
  by_cases c1 : 194 ≤ byteAt s i ∧ byteAt s i < 224
  · obtain ⟨c1a, c1b⟩ := c1
    have HF := Lib.hid (refRune_2 s i c1a c1b)
    by_cases d : (s.size : Int) - i ≤ 1
    · go_wp2
      go_ret2
      go_light
      exact ⟨by rw [HF.out, if_neg (by unfold contAt; omega)]; exact ret_ii rfl rfl, rfl⟩
    · have hi1 : i + 1 < s.size := by omega
      have h1 := byteAt_of s (i + 1) hi1
      have hb1 := byteAt_lt s (i + 1)
      go_wp2
      refine wp_loop_rounds 2 ?_
      rw [rounds_succ]
      go_wp2
      any_goals (rw [rounds_succ]; go_wp2)
      all_goals
        go_ret2
        go_light
        refine ⟨?_, rfl⟩
        rw [HF.out]
        first
        | (rw [if_neg (by unfold contAt; omega)]; exact ret_ii rfl rfl)
        | (rw [if_pos (by unfold contAt; omega)]; exact ret_ii (by simp; omega) (by simp))
  by_cases c2 : 224 ≤ byteAt s i ∧ byteAt s i < 240
  · obtain ⟨c2a, c2b⟩ := c2
    have HF := Lib.hid (refRune_3 s i c2a c2b)
    clear c1
    by_cases d : (s.size : Int) - i ≤ 2
    · go_wp2
      go_ret2
      go_light
      exact ⟨by rw [HF.out, if_neg (by unfold contAt; omega)]; exact ret_ii rfl rfl, rfl⟩
    · have hi1 : i + 1 < s.size := by omega
      have h1 := byteAt_of s (i + 1) hi1
      have hb1 := byteAt_lt s (i + 1)
      have hi2 : i + 2 < s.size := by omega
      have h2 := byteAt_of s (i + 2) hi2
      have hb2 := byteAt_lt s (i + 2)
      go_wp2
      refine wp_loop_rounds 3 ?_
      rw [rounds_succ]
      go_wp2
      any_goals (rw [rounds_succ]; go_wp2)
      any_goals (rw [rounds_succ]; go_wp2)
      all_goals
        go_ret2
        go_light
        refine ⟨?_, rfl⟩
        rw [HF.out]
        first
        | (rw [if_neg (by unfold contAt validR; simp only [decide_eq_true_eq]; omega)]; exact ret_ii rfl rfl)
        | (rw [if_pos (by unfold contAt validR; simp only [decide_eq_true_eq]; omega)]; exact ret_ii (by simp; omega) (by simp))
  by_cases c3 : 240 ≤ byteAt s i ∧ byteAt s i < 245
  · obtain ⟨c3a, c3b⟩ := c3
    have HF := Lib.hid (refRune_4 s i c3a c3b)
    clear c1 c2
    by_cases d : (s.size : Int) - i ≤ 3
    · go_wp2
      go_ret2
      go_light
      exact ⟨by rw [HF.out, if_neg (by unfold contAt; omega)]; exact ret_ii rfl rfl, rfl⟩
    · have hi1 : i + 1 < s.size := by omega
      have h1 := byteAt_of s (i + 1) hi1
      have hb1 := byteAt_lt s (i + 1)
      have hi2 : i + 2 < s.size := by omega
      have h2 := byteAt_of s (i + 2) hi2
      have hb2 := byteAt_lt s (i + 2)
      have hi3 : i + 3 < s.size := by omega
      have h3 := byteAt_of s (i + 3) hi3
      have hb3 := byteAt_lt s (i + 3)
      go_wp2
      refine wp_loop_rounds 4 ?_
      rw [rounds_succ]
      go_wp2
      any_goals (rw [rounds_succ]; go_wp2)
      any_goals (rw [rounds_succ]; go_wp2)
      any_goals (rw [rounds_succ]; go_wp2)
      all_goals
        go_ret2
        go_light
        refine ⟨?_, rfl⟩
        rw [HF.out]
        first
        | (rw [if_neg (by unfold contAt validR; simp only [decide_eq_true_eq]; omega)]; exact ret_ii rfl rfl)
        | (rw [if_pos (by unfold contAt validR; simp only [decide_eq_true_eq]; omega)]; exact ret_ii (by simp; omega) (by simp))
  have HF := Lib.hid (refRune_no s i (by omega) (by omega))
  by_cases c4 : byteAt s i < 194
  · clear c1 c2 c3
    go_wp2
    go_ret2
    exact ⟨by rw [HF.out]; exact ret_ii rfl rfl, rfl⟩
  · have c5 : 245 ≤ byteAt s i := by omega
    clear c1 c2 c3
    go_wp2
    go_ret2
    exact ⟨by rw [HF.out]; exact ret_ii rfl rfl, rfl⟩

end Go.Proofs.Ytbmfadignoeigaa
