/-
  WordPrefix: what a name begins with, cut off ahead of any of its runes but the first, is a name: the law's call answers true at every input.
-/
import Derived.Test.YtbmfadignoeigaaWordW
namespace Go.Proofs.Ytbmfadignoeigaa
open Go.RowKit

/-! ### Plain mathematics: a text cut off ahead of a rune -/

theorem cut0_byte (s : ByteArray) (i k : Nat) (hi : i ≤ s.size) (hk : k < i) : byteAt (s.extract 0 i) k = byteAt s k := by
  have h0 : k < (s.extract 0 i).size := by rw [ByteArray.size_extract]; omega
  rw [← byteAt_of _ k h0, ← byteAt_of s k (by omega)]
  simp [ByteArray.getElem_extract]

theorem cut0_size (s : ByteArray) (i : Nat) (hi : i ≤ s.size) : (s.extract 0 i).size = i := by
  rw [ByteArray.size_extract]; omega

theorem cut0_cont (s : ByteArray) (i k : Nat) (hi : i ≤ s.size) (hk : k < i) : contAt (s.extract 0 i) k ↔ contAt s k := by
  unfold contAt
  rw [cut0_size s i hi, cut0_byte s i k hi hk]
  constructor <;> rintro ⟨_, h⟩ <;> exact ⟨by omega, h⟩

theorem cut0_dec (s : ByteArray) (i pos : Nat) (hi : i ≤ s.size) (hp : pos < i) (hw : pos + (dec2 s pos).2 ≤ i) (hne : (dec2 s pos).1 ≠ 65533) : dec2 (s.extract 0 i) pos = dec2 s pos := by
  have b0 := cut0_byte s i pos hi hp
  have b1 := fun h => cut0_byte s i (pos + 1) hi h
  have b2 := fun h => cut0_byte s i (pos + 2) hi h
  have b3 := fun h => cut0_byte s i (pos + 3) hi h
  have c1 := fun h => cut0_cont s i (pos + 1) hi h
  have c2 := fun h => cut0_cont s i (pos + 2) hi h
  have c3 := fun h => cut0_cont s i (pos + 3) hi h
  unfold dec2 decI at *
  simp only [decide_eq_true_eq] at *
  rw [b0]
  by_cases h0 : byteAt s pos < 128
  · rw [if_pos h0, if_pos h0]
  rw [if_neg h0] at hw hne ⊢
  rw [if_neg h0]
  by_cases h1 : 192 ≤ byteAt s pos ∧ byteAt s pos < 224 ∧ contAt s (pos + 1)
  · rw [if_pos h1] at hw hne ⊢
    by_cases g : 128 ≤ (byteAt s pos - 192) * 64 + (byteAt s (pos + 1) - 128)
    · rw [if_pos g] at hw hne ⊢
      simp only at hw
      rw [if_pos ⟨h1.1, h1.2.1, (c1 (by omega)).2 h1.2.2⟩, b1 (by omega), if_pos g]
    · rw [if_neg g] at hne; exact absurd rfl hne
  rw [if_neg h1] at hw hne ⊢
  by_cases h2 : 224 ≤ byteAt s pos ∧ byteAt s pos < 240 ∧ contAt s (pos + 1) ∧ contAt s (pos + 2)
  · rw [if_pos h2] at hw hne ⊢
    rw [if_neg (by omega)]
    by_cases g : 2048 ≤ (byteAt s pos - 224) * 4096 + (byteAt s (pos + 1) - 128) * 64 + (byteAt s (pos + 2) - 128) ∧ validR ((byteAt s pos - 224) * 4096 + (byteAt s (pos + 1) - 128) * 64 + (byteAt s (pos + 2) - 128)) = true
    · rw [if_pos g] at hw hne ⊢
      simp only at hw
      rw [if_pos ⟨h2.1, h2.2.1, (c1 (by omega)).2 h2.2.2.1, (c2 (by omega)).2 h2.2.2.2⟩, b1 (by omega), b2 (by omega), if_pos g]
    · rw [if_neg g] at hne; exact absurd rfl hne
  rw [if_neg h2] at hw hne ⊢
  by_cases h3 : 240 ≤ byteAt s pos ∧ byteAt s pos < 248 ∧ contAt s (pos + 1) ∧ contAt s (pos + 2) ∧ contAt s (pos + 3)
  · rw [if_pos h3] at hw hne ⊢
    rw [if_neg (by omega), if_neg (by omega)]
    by_cases g : 65536 ≤ (byteAt s pos - 240) * 262144 + (byteAt s (pos + 1) - 128) * 4096 + (byteAt s (pos + 2) - 128) * 64 + (byteAt s (pos + 3) - 128) ∧ validR ((byteAt s pos - 240) * 262144 + (byteAt s (pos + 1) - 128) * 4096 + (byteAt s (pos + 2) - 128) * 64 + (byteAt s (pos + 3) - 128)) = true
    · rw [if_pos g] at hw hne ⊢
      simp only at hw
      rw [if_pos ⟨h3.1, h3.2.1, (c1 (by omega)).2 h3.2.2.1, (c2 (by omega)).2 h3.2.2.2.1, (c3 (by omega)).2 h3.2.2.2.2⟩, b1 (by omega), b2 (by omega), b3 (by omega), if_pos g]
    · rw [if_neg g] at hne; exact absurd rfl hne
  rw [if_neg h3] at hne
  exact absurd rfl hne

/-- The runes from place q to place i. -/
def Rn (s : ByteArray) : Nat → List (Nat × Int) → Nat → Prop
  | q, [], i => q = i
  | q, x :: R, i => x = (q, runeAt s q) ∧ q < s.size ∧ Rn s (q + wideAt s q) R i

theorem Rn.snoc (s : ByteArray) : ∀ (R : List (Nat × Int)) (q i : Nat), Rn s q R i → i < s.size → Rn s q (R ++ [(i, runeAt s i)]) (i + wideAt s i)
  | [], q, i, h, hi => by obtain rfl : q = i := h; exact ⟨rfl, hi, rfl⟩
  | x :: R, q, i, h, hi => ⟨h.1, h.2.1, Rn.snoc s R _ i h.2.2 hi⟩

theorem Rn.le (s : ByteArray) : ∀ (R : List (Nat × Int)) (q i : Nat), Rn s q R i → q + R.length ≤ i
  | [], q, i, h => by obtain rfl : q = i := h; simp
  | x :: R, q, i, h => by
    have := Rn.le s R _ i h.2.2
    have := (wide_facts s q h.2.1).1
    simp; omega

theorem Rn.runes (s : ByteArray) : ∀ (R : List (Nat × Int)) (q i b : Nat), Rn s q R i → R.length ≤ b → ∃ b', runesAt s b q = R ++ runesAt s b' i
  | [], q, i, b, h, _ => by obtain rfl : q = i := h; exact ⟨b, rfl⟩
  | x :: R, q, i, b, h, hb => by
    obtain ⟨b, rfl⟩ : ∃ c, b = c + 1 := ⟨b - 1, by simp at hb; omega⟩
    obtain ⟨b', e⟩ := Rn.runes s R _ i b h.2.2 (by simp at hb; omega)
    exact ⟨b', by rw [runesAt_next s b q h.2.1, e, h.1]; rfl⟩

theorem Rn.cut (s : ByteArray) (i : Nat) (hi : i ≤ s.size) : ∀ (R : List (Nat × Int)) (q b : Nat), Rn s q R i → (∀ x ∈ R, x.2 ≠ 65533) → R.length ≤ b → runesAt (s.extract 0 i) b q = R
  | [], q, b, h, _, _ => by obtain rfl : q = i := h; exact runesAt_end _ b q (by rw [cut0_size s q hi]; omega)
  | x :: R, q, b, h, hx, hb => by
    obtain ⟨b, rfl⟩ : ∃ c, b = c + 1 := ⟨b - 1, by simp at hb; omega⟩
    have hle := Rn.le s R _ i h.2.2
    have hw := (wide_facts s q h.2.1).1
    have hd := cut0_dec s i q hi (by omega) (by rw [← wideAt_eq]; omega) (by
      have := hx x (by simp)
      rw [h.1] at this
      rw [← runeAt_eq]; exact this)
    have e1 : runeAt (s.extract 0 i) q = runeAt s q := by rw [runeAt_eq, runeAt_eq, hd]
    have e2 : wideAt (s.extract 0 i) q = wideAt s q := by rw [wideAt_eq, wideAt_eq, hd]
    rw [runesAt_next _ b q (by rw [cut0_size s i hi]; omega), e1, e2, Rn.cut s i hi R _ b h.2.2 (fun y hy => hx y (by simp [hy])) (by simp at hb; omega), h.1]

theorem name_runes : ∀ (R1 R2 : List (Nat × Int)) (n g : Nat), nameGo (R1 ++ R2) n g = true → 0 < n + R1.length → nameGo R1 n g = true ∧ ∀ x ∈ R1, x.2 ≠ 65533
  | [], R2, n, g, _, h => by simp [nameGo]; simpa using h
  | (p, r) :: R1, R2, n, g, h, _ => by
    simp only [List.cons_append, nameGo] at h ⊢
    by_cases e : n = 16
    · rw [if_pos e] at h; cases h
    rw [if_neg e] at h ⊢
    have key : ∀ g', nameGo (R1 ++ R2) (n + 1) g' = true → cls r ≠ 0 → nameGo R1 (n + 1) g' = true ∧ ∀ x ∈ (p, r) :: R1, x.2 ≠ 65533 := by
      intro g' hg hc
      have := name_runes R1 R2 (n + 1) g' hg (by omega)
      refine ⟨this.1, fun x hx => ?_⟩
      simp only [List.mem_cons] at hx
      rcases hx with rfl | hx
      · intro h'; simp only at h'; rw [h', cls_err] at hc; exact hc rfl
      · exact this.2 x hx
    by_cases c1 : cls r = 1
    · rw [if_pos c1] at h ⊢
      by_cases d : 0 < g
      · rw [if_pos d] at h; cases h
      · rw [if_neg d] at h ⊢; exact key g h (by omega)
    rw [if_neg c1] at h ⊢
    by_cases c2 : cls r = 2
    · rw [if_pos c2] at h ⊢
      by_cases d : n = 0 ∨ 0 < g
      · rw [if_pos d] at h; cases h
      · rw [if_neg d] at h ⊢; exact key g h (by omega)
    rw [if_neg c2] at h ⊢
    by_cases c3 : cls r = 3
    · rw [if_pos c3] at h ⊢
      by_cases d : n = 0 ∨ g = 3
      · rw [if_pos d] at h; cases h
      · rw [if_neg d] at h ⊢; exact key (g + 1) h (by omega)
    rw [if_neg c3] at h; cases h

/-- What a name begins with, cut off ahead of a rune, is a name. -/
theorem name_prefix (s : ByteArray) (R : List (Nat × Int)) (i : Nat) (h : nameB s = true) (hR : Rn s 0 R i) (h0 : 0 < i) (hi : i < s.size) : nameB (s.extract 0 i) = true := by
  have hle := Rn.le s R 0 i hR
  obtain ⟨b', e⟩ := Rn.runes s R 0 i s.size hR (by omega)
  unfold nameB runes at h ⊢
  rw [e] at h
  have hne : 0 < R.length := by
    match R, hR with
    | [], hR => have : 0 = i := hR; omega
    | _ :: _, _ => simp
  have := name_runes R _ 0 0 h (by omega)
  rw [cut0_size s i (by omega), Rn.cut s i (by omega) R 0 i hR this.2 (by omega)]
  exact this.1

set_option maxRecDepth 100000 in
set_option maxHeartbeats 4000000 in
theorem wordPrefix_any (s : ByteArray) (n : Int) (w : World) (hs : s.size ≤ maxLen) (hn0 : 0 ≤ n) (hn1 : n ≤ 255) :
    Calls Try.prog 4 #[.string s, .int .u8 n] w fun e w' => e = .returned (.bool true) ∧ Below w.heap.size w w' := by
  have hm := hs
  unfold maxLen at hm
  go_enter Try.func4, Try.ntmps4
  by_cases hl : 3000 < s.size
  · go_wp2_with fail
    refine (awake_any w).mono ?_
    rintro e w1 ⟨rfl, hB1⟩
    go_wp2_with fail
    refine (awake_any w1).mono ?_
    rintro e w2 ⟨rfl, hB2⟩
    go_wp2
    go_ret
    exact ⟨rfl, hB1.trans (hB2.mono hB1.size)⟩
  have hna := name_any s
  cases hnm : nameB s with
  | false =>
    rw [hnm] at hna
    have HN := Lib.hid hna
    clear hna hnm
    go_wp2_with fail
    refine (awake_any w).mono ?_
    rintro e w1 ⟨rfl, hB1⟩
    go_wp2_with fail
    refine (HN.out w1).mono ?_
    rintro e w2 ⟨rfl, hB2⟩
    go_wp2_with fail
    refine (awake_any w2).mono ?_
    rintro e w3 ⟨rfl, hB3⟩
    go_wp2
    go_ret
    have z1 := hB1.size
    have z2 := hB2.size
    exact ⟨rfl, (hB1.trans (hB2.mono z1)).trans (hB3.mono (by omega))⟩
  | true =>
    rw [hnm] at hna
    have HN := Lib.hid hna
    have HM := Lib.hid hnm
    clear hna hnm
    go_wp2_with fail
    refine (awake_any w).mono ?_
    rintro e w1 ⟨rfl, hB1⟩
    go_wp2_with fail
    refine (HN.out w1).mono ?_
    rintro e w2 ⟨rfl, hB2⟩
    have z1 := hB1.size
    have HB := hB1.trans (hB2.mono z1)
    have z2 := HB.size
    clear hB1 hB2 z1
    go_wp2_with fail
    go_loopw [5] (fun k wr => ∃ (pos : Nat) (R : List (Nat × Int)) (m : Nat), wr = w2.iter s pos ∧ k = .int .i64 m ∧ R.length = m ∧ Rn s 0 R pos ∧ m ≤ pos ∧ pos ≤ s.size) (fun _ wr => s.size - wr.iterPos w2.heap.size)
    case atStart => exact ⟨0, [], 0, rfl, rfl, rfl, rfl, by omega, by omega⟩
    case round =>
      obtain ⟨pos, R, m, rfl, rfl, hm', hR, hmp, hps⟩ := hrel
      have HR := Lib.hid hR
      have HL := Lib.hid hm'
      clear hR hm'
      by_cases hp : pos < s.size
      · have hnx := fun ty => run_next_rune (P := Try.prog) w2 s pos ty hp
        have hw := wide_facts s pos hp
        have hw1 := hw.1
        have hw2 := hw.2.1
        have HRS := Lib.hid (Rn.snoc s R 0 pos HR.out hp)
        clear hw
        by_cases h0 : 0 < pos
        · have hpre := name_any (s.extract 0 pos)
          rw [name_prefix s R pos HM.out HR.out h0 hp] at hpre
          have HP := Lib.hid hpre
          clear hpre
          go_wp2_with (go_at_call 11; refine (HP.out _).mono ?_; rintro e w3 ⟨rfl, hB3⟩)
          all_goals first
            | (go_roundw
               case rel => exact ⟨pos + wideAt s pos, R ++ [(pos, runeAt s pos)], m + 1, rfl, by go_num, by rw [List.length_append, HL.out]; rfl, HRS.out, by omega, hw2⟩
               case measure => simp; omega)
            | (go_ret
               exact ⟨rfl, HB.trans (((below_iter _ _ _).trans (hB3.mono (by simp [World.iter]))).mono z2)⟩)
        · obtain rfl : pos = 0 := by omega
          go_wp2_with fail
          all_goals
            go_roundw
            case rel => exact ⟨0 + wideAt s 0, R ++ [(0, runeAt s 0)], m + 1, by rw [Nat.zero_add], by go_num, by rw [List.length_append, HL.out]; rfl, HRS.out, by omega, hw2⟩
            case measure => simp; omega
      · have hnx : ∀ ty, (Instr.next (.pointer (some ⟨w2.heap.size, 0, none⟩)) true ty).run Try.prog (w2.iter s pos) = _ := fun ty => run_next_end w2 s pos ty hp
        go_wp2
        go_ret
        exact ⟨rfl, HB.trans ((below_iter _ _ _).mono z2)⟩

end Go.Proofs.Ytbmfadignoeigaa
