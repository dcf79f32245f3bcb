/-
  The document's answers of the word layer: numbers and bad places.
-/
import Derived.Test.YtbmfadignoeigaaWordD
namespace Go.Proofs.Ytbmfadignoeigaa
open Go.RowKit

set_option maxRecDepth 100000 in
set_option maxHeartbeats 4000000 in
theorem refNumber_any (s : ByteArray) (w : World) (hs : s.size ≤ maxLen) :
    Calls Try.prog 13 #[.string s] w fun e w' => e = .returned (.int .i64 ((numOf s).getD (-1))) ∧ w = w' := by
  unfold maxLen at hs
  go_enter Try.func13, Try.ntmps13
  by_cases h0 : s.size = 0
  · have HF := Lib.hid (show numOf s = none by simp [numOf, h0])
    have h0' : s.size < 1 := by omega
    clear h0
    go_wp2
    go_ret
    exact ⟨by rw [HF.out]; rfl, rfl⟩
  have hp0 : 0 < s.size := by omega
  have hb0 := byteAt_of s 0 hp0
  by_cases h9 : 9 < s.size
  · have HF := Lib.hid (show numOf s = none by simp [numOf, h9])
    go_wp2
    go_ret
    exact ⟨by rw [HF.out]; rfl, rfl⟩
  by_cases h1 : 1 < s.size ∧ byteAt s 0 = 48
  · have HF := Lib.hid (show numOf s = none by simp [numOf, h1])
    have g1 : (byteAt s 0 == 48) = true := by simp [h1.2]
    have g2 := h1.1
    clear h1
    go_wp2
    go_ret
    exact ⟨by rw [HF.out]; rfl, rfl⟩
  have HF := Lib.hid (show numOf s = numAt s s.size 0 0 by unfold numOf; rw [if_neg (by omega)])
  have g1 : byteAt s 0 = 48 → s.size ≤ 1 := by intro h; omega
  clear h1
  by_cases hs1 : byteAt s 0 = 48
  all_goals
    first
    | (have g3 := g1 hs1; have g2 : (byteAt s 0 == 48) = true := by simpa using hs1)
    | have g2 : (byteAt s 0 == 48) = false := by simpa using hs1
    clear g1 hs1
    go_wp2
    go_loop [3, 4] (fun n i => ∃ (pos b : Nat) (n' : Int), i = .int .i64 pos ∧ n = .int .i64 n' ∧ numAt s b pos n' = numOf s ∧ s.size ≤ pos + b ∧ 0 ≤ n' ∧ n' < 10 ^ pos ∧ pos ≤ 9)
      (fun _ i => s.size - (intOf i).toNat)
    case atStart => exact ⟨0, s.size, 0, rfl, rfl, HF.out.symm, by omega, by omega, by decide, by omega⟩
    case round =>
      obtain ⟨pos, b, n, rfl, rfl, hc, hb, hn0, hn, hp9⟩ := hrel
      by_cases hp : pos < s.size
      · obtain ⟨b, rfl⟩ : ∃ b', b = b' + 1 := ⟨b - 1, by omega⟩
        have hbp := byteAt_of s pos hp
        have hbl := byteAt_lt s pos
        by_cases hdg : digAt s pos
        · rw [numAt_dig s b pos n hp hdg] at hc
          have HC := Lib.hid hc
          unfold digAt at hdg
          have HS := Lib.hid (pow_step n pos (byteAt s pos - 48) hn0 hn (by omega) (by omega))
          have hb9 := pow_9 pos hp9
          have hn9 : n < 1000000000 := by omega
          clear hc hn hb9
          go_wp2
          go_round
          case rel => exact ⟨pos + 1, b, 10 * n + (byteAt s pos - 48), by go_num, by go_num, HC.out, by omega, HS.out.1, HS.out.2, by omega⟩
          case measure => simp [intOf]; omega
        · rw [numAt_no s b pos n hp hdg] at hc
          have HC := Lib.hid hc
          unfold digAt at hdg
          clear hc hn
          by_cases hlo : byteAt s pos < 48
          · clear hdg
            go_wp2
            go_ret
            exact ⟨by rw [← HC.out]; rfl, rfl⟩
          · have hhi : 57 < byteAt s pos := by omega
            clear hdg
            go_wp2
            go_ret
            exact ⟨by rw [← HC.out]; rfl, rfl⟩
      · rw [numAt_end s b pos n hp] at hc
        have HC := Lib.hid hc
        clear hc hn
        go_wp2
        go_ret
        exact ⟨by rw [← HC.out]; rfl, rfl⟩

/-- A place, or -1. -/
def optI : Option Nat → Int
  | some p => p
  | none => -1

set_option maxRecDepth 100000 in
set_option maxHeartbeats 4000000 in
theorem refBad_any (s : ByteArray) (w : World) (hs : s.size ≤ maxLen) :
    Calls Try.prog 15 #[.string s] w fun e w' => e = .returned (.int .i64 (optI (badOf s))) ∧ w = w' := by
  have hs' := hs
  unfold maxLen at hs'
  go_enter Try.func15, Try.ntmps15
  go_wp2
  go_loop [3] (fun i => ∃ (pos b : Nat), i = .int .i64 pos ∧ badGo (runesAt s b pos) = badOf s ∧ s.size ≤ pos + b ∧ pos ≤ s.size)
    (fun i => s.size - (intOf i).toNat)
  case atStart => exact ⟨0, s.size, rfl, rfl, by omega, by omega⟩
  case round =>
    obtain ⟨pos, b, rfl, hc, hb, hps⟩ := hrel
    by_cases hp : pos < s.size
    · obtain ⟨b, rfl⟩ : ∃ b', b = b' + 1 := ⟨b - 1, by omega⟩
      rw [runesAt_next s b pos hp] at hc
      have hw := wide_facts s pos hp
      have hw1 := hw.1
      have hw2 := hw.2.1
      clear hw
      have HC := Lib.hid hc
      clear hc
      have hru := rune_any s pos w hs hp
      rcases refRune_cases s pos hp with ⟨he, hr, _⟩ | ⟨he, hr0, hr1⟩
      · rw [he] at hru
        have HR := Lib.hid hru
        have HN := Lib.hid (badGo_yes pos (runeAt s pos) (runesAt s b (pos + wideAt s pos)) (by rw [hr]; exact cls_err) (by rw [hr]; exact mrk_err))
        clear hru he hr
        go_wp2_with (first | (go_at_call 25; refine HR.out.mono ?_; rintro e w' ⟨rfl, rfl⟩) | (go_at_call 17; refine (refClass_any _ _).mono ?_; rintro e w' ⟨rfl, rfl⟩))
        go_ret
        exact ⟨by rw [← HC.out, HN.out]; rfl, rfl⟩
      · rw [he] at hru
        have HR := Lib.hid hru
        clear hru he
        by_cases hy : cls (runeAt s pos) = 0 ∧ mrk (runeAt s pos) = false
        · have HN := Lib.hid (badGo_yes pos (runeAt s pos) (runesAt s b (pos + wideAt s pos)) hy.1 hy.2)
          have hcl : (cls (runeAt s pos) == 0) = true := by simp [hy.1]
          have hm : ¬ (runeAt s pos = 10 ∨ (43 ≤ runeAt s pos ∧ runeAt s pos ≤ 47) ∨ runeAt s pos = 58 ∨ runeAt s pos = 124) := by rw [← mrk_iff]; simp [hy.2]
          have hm1 : (runeAt s pos != 10) = true := by simp; omega
          have hm2 : (runeAt s pos != 58) = true := by simp; omega
          have hm3 : (runeAt s pos != 124) = true := by simp; omega
          by_cases h43 : runeAt s pos < 43
          all_goals
            try have h47 : 47 < runeAt s pos := by omega
            by_cases hfd : runeAt s pos = 65533
            all_goals
              first
              | have hfd' : (runeAt s pos == 65533) = true := by simpa using hfd
              | have hfd' : (runeAt s pos == 65533) = false := by simpa using hfd
              clear hfd hm hy
              go_wp2_with (first | (go_at_call 25; refine HR.out.mono ?_; rintro e w' ⟨rfl, rfl⟩) | (go_at_call 17; refine (refClass_any _ _).mono ?_; rintro e w' ⟨rfl, rfl⟩))
              go_ret
              exact ⟨by rw [← HC.out, HN.out]; rfl, rfl⟩
        · have HN := Lib.hid (badGo_no pos (runeAt s pos) (runesAt s b (pos + wideAt s pos)) hy)
          have hfd : (runeAt s pos == 65533) = false := by
            simp; intro h; rw [h] at hy; exact hy ⟨cls_err, mrk_err⟩
          by_cases hcl : cls (runeAt s pos) = 0
          · have hm : runeAt s pos = 10 ∨ (43 ≤ runeAt s pos ∧ runeAt s pos ≤ 47) ∨ runeAt s pos = 58 ∨ runeAt s pos = 124 := by
              rw [← mrk_iff]
              by_cases h : mrk (runeAt s pos) = true
              · exact h
              · exact absurd ⟨hcl, by simpa using h⟩ hy
            clear hy
            go_wp2_with (first | (go_at_call 25; refine HR.out.mono ?_; rintro e w' ⟨rfl, rfl⟩) | (go_at_call 17; refine (refClass_any _ _).mono ?_; rintro e w' ⟨rfl, rfl⟩))
            all_goals first
              | (go_round
                 case rel => exact ⟨pos + wideAt s pos, b, by go_num, by rw [← HC.out, HN.out], by omega, by omega⟩
                 case measure => simp [intOf]; omega)
              | (exfalso
                 go_light
                 simp at *
                 omega)
          · have hcl' : (cls (runeAt s pos) == 0) = false := by simpa using hcl
            clear hy hcl
            go_wp2_with (first | (go_at_call 25; refine HR.out.mono ?_; rintro e w' ⟨rfl, rfl⟩) | (go_at_call 17; refine (refClass_any _ _).mono ?_; rintro e w' ⟨rfl, rfl⟩))
            go_round
            case rel => exact ⟨pos + wideAt s pos, b, by go_num, by rw [← HC.out, HN.out], by omega, by omega⟩
            case measure => simp [intOf]; omega
    · rw [runesAt_end s b pos hp] at hc
      have HC := Lib.hid hc
      clear hc
      go_wp2
      go_ret
      exact ⟨by rw [← HC.out]; rfl, rfl⟩

end Go.Proofs.Ytbmfadignoeigaa
