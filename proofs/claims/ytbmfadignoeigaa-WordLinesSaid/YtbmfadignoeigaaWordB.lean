/-
  Name: each call answers whether the text is a name, and changes nothing that was there.
-/
import Derived.Test.YtbmfadignoeigaaWordA
import Derived.Test.YtbmfadignoeigaaWordM
import Derived.Lib.Hide
import Derived.Lib.Strings
namespace Go.Proofs.Ytbmfadignoeigaa
open Go.RowKit

theorem below_iter (w : World) (s : ByteArray) (p : Nat) : Below w.heap.size w (w.iter s p) := (Below.refl _ _).alloc (Nat.le_refl _) _

theorem run_next_rune {P : Program} (w : World) (s : ByteArray) (pos : Nat) (ty : TypeId) (h : pos < s.size) :
    (Instr.next (.pointer (some ⟨w.heap.size, 0, none⟩)) true ty).run P (w.iter s pos) = .ok (.tuple #[.bool true, .int .i64 pos, .int .i32 (runeAt s pos)]) (w.iter s (pos + wideAt s pos)) :=
  run_next_any w s pos ty h

set_option maxRecDepth 100000 in
set_option maxHeartbeats 4000000 in
theorem name_any (s : ByteArray) (w : World) :
    Calls Try.prog 11 #[.string s] w fun e w' => e = .returned (.bool (nameB s)) ∧ Below w.heap.size w w' := by
  go_enter Try.func11, Try.ntmps11
  go_wp2
  go_loopw [3, 4] (fun n g wr => ∃ (pos b n' g' : Nat), wr = w.iter s pos ∧ n = .int .i64 n' ∧ g = .int .i64 g' ∧ nameGo (runesAt s b pos) n' g' = nameB s ∧ s.size ≤ pos + b ∧ n' ≤ 16 ∧ g' ≤ 3)
    (fun _ _ wr => s.size - wr.iterPos w.heap.size)
  case atStart => exact ⟨0, s.size, 0, 0, rfl, rfl, rfl, rfl, by omega, by omega, by omega⟩
  case round =>
    obtain ⟨pos, b, n, g, rfl, rfl, rfl, hc, hb, hn, hg⟩ := hrel
    by_cases hp : pos < s.size
    · have hnx := fun ty => run_next_rune (P := Try.prog) w s pos ty hp
      obtain ⟨b, rfl⟩ : ∃ b', b = b' + 1 := ⟨b - 1, by omega⟩
      rw [runesAt_next s b pos hp] at hc
      have HC := Lib.hid hc
      have hw := (wide_facts s pos hp).1
      clear hc
      by_cases h16 : n = 16
      · have hb16 : ((n : Int) == 16) = true := by simp [h16]
        have HF := Lib.hid (show nameB s = false by rw [← HC.out]; simp [nameGo, h16])
        clear h16 HC
        go_wp2
        go_ret
        exact ⟨ret_bool HF.out.symm, below_iter _ _ _⟩
      · have hb16 : ((n : Int) == 16) = false := by simp; omega
        rcases cls_cases (runeAt s pos) with h | h | h | h | h
        all_goals
          go_wp2_with (go_at_call 16; refine (class_any _ _).mono ?_; rintro e w' ⟨rfl, rfl⟩)
          all_goals first
            | (go_roundw
               case rel =>
                go_light
                first
                | exact ⟨pos + wideAt s pos, b, n + 1, g, rfl, by go_num, by go_num, by rw [← HC.out]; simp [nameGo, *], by omega, by omega, by omega⟩
                | exact ⟨pos + wideAt s pos, b, n + 1, g + 1, rfl, by go_num, by go_num, by rw [← HC.out]; simp at *; simp [nameGo, *]; intros; omega, by omega, by omega, by simp at *; omega⟩
               case measure => go_light; simp; omega)
            | (go_ret
               go_light
               refine ⟨ret_bool ?_, below_iter _ _ _⟩
               rw [← HC.out]
               simp at *
               simp [nameGo, *]
               try omega)
    · have hnx : ∀ ty, (Instr.next (.pointer (some ⟨w.heap.size, 0, none⟩)) true ty).run Try.prog (w.iter s pos) = _ := fun ty => run_next_end w s pos ty hp
      rw [runesAt_end s b pos hp] at hc
      have HC := Lib.hid hc
      clear hc
      go_wp2
      go_ret
      exact ⟨ret_bool (by rw [← HC.out]; simp [nameGo]), below_iter _ _ _⟩


theorem toList_nil_iff (s : ByteArray) : s.toList = [] ↔ s.size = 0 := by
  rw [Lib.toList_data]
  constructor
  · intro h; have := congrArg List.length h; simpa using this
  · intro h; apply List.eq_nil_of_length_eq_zero; simpa using h

set_option maxRecDepth 100000 in
set_option maxHeartbeats 4000000 in
theorem number_any (s : ByteArray) (w : World) (hs : s.size ≤ maxLen) :
    Calls Try.prog 12 #[.string s] w fun e w' => e = .returned (.tuple #[.int .i64 ((numOf s).getD 0), .bool (numOf s).isSome]) ∧ Below w.heap.size w w' := by
  unfold maxLen at hs
  go_enter Try.func12, Try.ntmps12
  by_cases h0 : s.size = 0
  · have hsn : s = ⟨#[]⟩ := by
      apply ByteArray.ext
      exact Array.eq_empty_of_size_eq_zero h0
    subst hsn
    go_wp2
    go_ret2
    exact ⟨rfl, Below.refl _ _⟩
  have hne : ¬ s.toList = [] := by
    rw [toList_nil_iff]; exact h0
  have hne' : s.toList.isEmpty = false := by simpa using hne
  have hp0 : 0 < s.size := by omega
  by_cases h9 : 9 < s.size
  · have HF := Lib.hid (show numOf s = none by simp [numOf, h9])
    go_wp2
    go_ret2
    exact ⟨by rw [HF.out]; rfl, Below.refl _ _⟩
  by_cases h1 : 1 < s.size ∧ byteAt s 0 = 48
  · have HF := Lib.hid (show numOf s = none by simp [numOf, h1])
    have g1 : ((s[0].toNat : Int) == 48) = true := by rw [byteAt_of]; simp [h1.2]
    have g2 := h1.1
    clear h1
    go_wp2
    go_ret2
    exact ⟨by rw [HF.out]; rfl, Below.refl _ _⟩
  have HF := Lib.hid (show numOf s = numAt s s.size 0 0 by unfold numOf; rw [if_neg (by omega)])
  have g1 : 1 < s.size → ((s[0].toNat : Int) == 48) = false := by intro h; rw [byteAt_of]; simp; omega
  clear h1
  by_cases hs1 : 1 < s.size
  all_goals
    first
    | (have g2 := g1 hs1; clear g1)
    | clear g1
    go_wp2
    go_loopw [4] (fun n wr => ∃ (pos b : Nat) (n' : Int), wr = w.iter s pos ∧ n = .int .i64 n' ∧ numAt s b pos n' = numOf s ∧ s.size ≤ pos + b ∧ 0 ≤ n' ∧ n' < 10 ^ pos ∧ pos ≤ 9)
      (fun _ wr => s.size - wr.iterPos w.heap.size)
    case atStart => exact ⟨0, s.size, 0, rfl, rfl, HF.out.symm, by omega, by omega, by decide, by omega⟩
    case round =>
      obtain ⟨pos, b, n, rfl, rfl, hc, hb, hn0, hn, hp9⟩ := hrel
      by_cases hp : pos < s.size
      · have hnx := fun ty => run_next_rune (P := Try.prog) w s pos ty hp
        obtain ⟨b, rfl⟩ : ∃ b', b = b' + 1 := ⟨b - 1, by omega⟩
        have hd := dig_rune s pos hp
        by_cases hdg : digAt s pos
        · have hcl := hd.2 hdg
          have hw := dig_wide s pos hp hdg
          rw [hw.1, hw.2] at hnx
          rw [hw.1] at hcl
          rw [numAt_dig s b pos n hp hdg] at hc
          have HC := Lib.hid hc
          have hdg' := hdg
          unfold digAt at hdg'
          have HS := Lib.hid (pow_step n pos (byteAt s pos - 48) hn0 hn (by omega) (by omega))
          have hb9 := pow_9 pos hp9
          have hn9 : n < 1000000000 := by omega
          clear hc hn hb9 hd hw hdg
          go_wp2_with (go_at_call 16; refine (class_any _ _).mono ?_; rintro e w' ⟨rfl, rfl⟩)
          go_roundw
          case rel => exact ⟨pos + 1, b, 10 * n + (byteAt s pos - 48), rfl, by go_num, HC.out, by omega, HS.out.1, HS.out.2, by omega⟩
          case measure => simp; omega
        · have hcl : (cls (runeAt s pos) != 2) = true := by
            have : ¬ cls (runeAt s pos) = 2 := fun h => hdg (hd.1 h)
            simpa using this
          rw [numAt_no s b pos n hp hdg] at hc
          have HC := Lib.hid hc
          clear hc hn hd
          go_wp2_with (go_at_call 16; refine (class_any _ _).mono ?_; rintro e w' ⟨rfl, rfl⟩)
          go_ret2
          exact ⟨by rw [← HC.out]; rfl, below_iter _ _ _⟩
      · have hnx : ∀ ty, (Instr.next (.pointer (some ⟨w.heap.size, 0, none⟩)) true ty).run Try.prog (w.iter s pos) = _ := fun ty => run_next_end w s pos ty hp
        rw [numAt_end s b pos n hp] at hc
        have HC := Lib.hid hc
        clear hc hn
        go_wp2
        go_ret2
        exact ⟨by rw [← HC.out]; rfl, below_iter _ _ _⟩


theorem ret_ib {k : IntKind} {a a' : Int} {b b' : Bool} (h : a = a') (h' : b = b') : Ending.returned (.tuple #[.int k a, .bool b]) = .returned (.tuple #[.int k a', .bool b']) := by rw [h, h']

set_option maxRecDepth 100000 in
set_option maxHeartbeats 4000000 in
theorem bad_any (s : ByteArray) (w : World) :
    Calls Try.prog 14 #[.string s] w fun e w' => e = .returned (.tuple #[.int .i64 (((badOf s).getD 0 : Nat) : Int), .bool (badOf s).isSome]) ∧ Below w.heap.size w w' := by
  go_enter Try.func14, Try.ntmps14
  go_wp2
  go_loopw [4] (fun _ wr => ∃ (pos b : Nat), wr = w.iter s pos ∧ badGo (runesAt s b pos) = badOf s ∧ s.size ≤ pos + b)
    (fun _ wr => s.size - wr.iterPos w.heap.size)
  case atStart => exact ⟨0, s.size, rfl, rfl, by omega⟩
  case round =>
    obtain ⟨pos, b, rfl, hc, hb⟩ := hrel
    by_cases hp : pos < s.size
    · have hnx := fun ty => run_next_rune (P := Try.prog) w s pos ty hp
      obtain ⟨b, rfl⟩ : ∃ b', b = b' + 1 := ⟨b - 1, by omega⟩
      rw [runesAt_next s b pos hp] at hc
      have hw := (wide_facts s pos hp).1
      have HC := Lib.hid hc
      clear hc
      by_cases hcl : cls (runeAt s pos) = 0
      · by_cases hm : mrk (runeAt s pos) = true
        · have HN := Lib.hid (badGo_no pos (runeAt s pos) (runesAt s b (pos + wideAt s pos)) (by simp [hm]))
          go_wp2_with (first | (go_at_call 16; refine (class_any _ _).mono ?_; rintro e w' ⟨rfl, rfl⟩) | (go_at_call 24; refine (isMark_any _ _).mono ?_; rintro e w' ⟨rfl, rfl⟩))
          go_roundw
          case rel => exact ⟨pos + wideAt s pos, b, rfl, by rw [← HC.out, HN.out], by omega⟩
          case measure => simp; omega
        · have hm' : mrk (runeAt s pos) = false := by simpa using hm
          have HN := Lib.hid (badGo_yes pos (runeAt s pos) (runesAt s b (pos + wideAt s pos)) hcl hm')
          clear hm
          go_wp2_with (first | (go_at_call 16; refine (class_any _ _).mono ?_; rintro e w' ⟨rfl, rfl⟩) | (go_at_call 24; refine (isMark_any _ _).mono ?_; rintro e w' ⟨rfl, rfl⟩))
          go_ret2
          exact ⟨by rw [← HC.out, HN.out]; rfl, below_iter _ _ _⟩
      · have HN := Lib.hid (badGo_no pos (runeAt s pos) (runesAt s b (pos + wideAt s pos)) (by simp [hcl]))
        have hcl' : (cls (runeAt s pos) == 0) = false := by simpa using hcl
        clear hcl
        go_wp2_with (first | (go_at_call 16; refine (class_any _ _).mono ?_; rintro e w' ⟨rfl, rfl⟩) | (go_at_call 24; refine (isMark_any _ _).mono ?_; rintro e w' ⟨rfl, rfl⟩))
        go_roundw
        case rel => exact ⟨pos + wideAt s pos, b, rfl, by rw [← HC.out, HN.out], by omega⟩
        case measure => simp; omega
    · have hnx : ∀ ty, (Instr.next (.pointer (some ⟨w.heap.size, 0, none⟩)) true ty).run Try.prog (w.iter s pos) = _ := fun ty => run_next_end w s pos ty hp
      rw [runesAt_end s b pos hp] at hc
      have HC := Lib.hid hc
      clear hc
      go_wp2
      go_ret2
      exact ⟨by rw [← HC.out]; rfl, below_iter _ _ _⟩

end Go.Proofs.Ytbmfadignoeigaa
