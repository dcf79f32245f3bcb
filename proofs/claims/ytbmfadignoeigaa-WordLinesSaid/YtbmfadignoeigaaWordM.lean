/-
  Names, numbers, words and lines of texts as plain mathematics: what the word layer and the document's answer compute.
-/
import Derived.Laws.RangeAny
import Derived.Test.YtbmfadignoeigaaWordC
namespace Go.Proofs.Ytbmfadignoeigaa

/-! ### Runes -/

/-- The byte at a place, as a number. -/
def byteAt (s : ByteArray) (i : Nat) : Int := ((s[i]?.getD 0).toNat : Int)

theorem byteAt_lt (s : ByteArray) (i : Nat) : 0 ≤ byteAt s i ∧ byteAt s i < 256 := by
  unfold byteAt; have := (s[i]?.getD 0).toNat_lt; omega

theorem byteAt_of (s : ByteArray) (i : Nat) (h : i < s.size) : ((s[i]'h).toNat : Int) = byteAt s i := by
  unfold byteAt; rw [getElem?_pos s i h]; rfl

theorem get!_eq (s : ByteArray) (i : Nat) : s.get! i = s[i]?.getD 0 := by
  show s.data[i]! = _
  by_cases h : i < s.size
  · have h' : i < s.data.size := h
    rw [getElem?_pos s i h, getElem!_pos s.data i h']; rfl
  · have h' : ¬ i < s.data.size := h
    rw [getElem?_neg s i h, getElem!_neg s.data i h']; rfl

theorem get!_nat (s : ByteArray) (i : Nat) : ((s.get! i).toNat : Int) = byteAt s i := by rw [get!_eq]; rfl

/-- The rune at a place. -/
def runeAt (s : ByteArray) (i : Nat) : Int := ((Utf8.decode s i).1 : Int)
/-- How many bytes it has. -/
def wideAt (s : ByteArray) (i : Nat) : Nat := (Utf8.decode s i).2

/-- A byte that goes on with a rune. -/
def contAt (s : ByteArray) (i : Nat) : Prop := i < s.size ∧ 128 ≤ byteAt s i ∧ byteAt s i ≤ 191
instance (s : ByteArray) (i : Nat) : Decidable (contAt s i) := by unfold contAt; infer_instance

def validR (c : Int) : Bool := decide ((0 ≤ c ∧ c < 55296) ∨ (57344 ≤ c ∧ c ≤ 1114111))

/-- The rune of up to four bytes, of which some go on, and how many bytes it has; 65533 and 1, where there is no text. -/
def decI (b b1 b2 b3 : Int) (C1 C2 C3 : Bool) : Int × Nat :=
  if b < 128 then (b, 1)
  else if 192 ≤ b ∧ b < 224 ∧ C1 = true then
    if 128 ≤ (b - 192) * 64 + (b1 - 128) then ((b - 192) * 64 + (b1 - 128), 2) else (65533, 1)
  else if 224 ≤ b ∧ b < 240 ∧ C1 = true ∧ C2 = true then
    if 2048 ≤ (b - 224) * 4096 + (b1 - 128) * 64 + (b2 - 128) ∧ validR ((b - 224) * 4096 + (b1 - 128) * 64 + (b2 - 128)) = true then ((b - 224) * 4096 + (b1 - 128) * 64 + (b2 - 128), 3) else (65533, 1)
  else if 240 ≤ b ∧ b < 248 ∧ C1 = true ∧ C2 = true ∧ C3 = true then
    if 65536 ≤ (b - 240) * 262144 + (b1 - 128) * 4096 + (b2 - 128) * 64 + (b3 - 128) ∧ validR ((b - 240) * 262144 + (b1 - 128) * 4096 + (b2 - 128) * 64 + (b3 - 128)) = true then
      ((b - 240) * 262144 + (b1 - 128) * 4096 + (b2 - 128) * 64 + (b3 - 128), 4) else (65533, 1)
  else (65533, 1)

/-- The rune at a place and how many bytes it has, by its first byte; 65533 and 1, where there is no text. -/
def dec2 (s : ByteArray) (i : Nat) : Int × Nat :=
  decI (byteAt s i) (byteAt s (i + 1)) (byteAt s (i + 2)) (byteAt s (i + 3)) (decide (contAt s (i + 1))) (decide (contAt s (i + 2))) (decide (contAt s (i + 3)))

def decN (b0 b1 b2 b3 : Nat) (d1 d2 d3 : Bool) : Nat × Nat :=
  if b0 < 0x80 then (b0, 1)
  else if (b0 / 32 == 6 && d1) = true then
    if (b0 % 32) * 64 + b1 % 64 ≥ 0x80 then ((b0 % 32) * 64 + b1 % 64, 2) else (65533, 1)
  else if (b0 / 16 == 14 && d1 && d2) = true then
    if (decide ((b0 % 16) * 4096 + (b1 % 64) * 64 + b2 % 64 ≥ 0x800) && Utf8.valid (((b0 % 16) * 4096 + (b1 % 64) * 64 + b2 % 64 : Nat) : Int)) = true then ((b0 % 16) * 4096 + (b1 % 64) * 64 + b2 % 64, 3) else (65533, 1)
  else if (b0 / 8 == 30 && d1 && d2 && d3) = true then
    if (decide ((b0 % 8) * 262144 + (b1 % 64) * 4096 + (b2 % 64) * 64 + b3 % 64 ≥ 0x10000) && Utf8.valid (((b0 % 8) * 262144 + (b1 % 64) * 4096 + (b2 % 64) * 64 + b3 % 64 : Nat) : Int)) = true then
      ((b0 % 8) * 262144 + (b1 % 64) * 4096 + (b2 % 64) * 64 + b3 % 64, 4) else (65533, 1)
  else (65533, 1)

theorem valid_eq (c : Int) : Utf8.valid c = validR c := by
  rw [Bool.eq_iff_iff]
  simp [Utf8.valid, validR]

theorem decN_eq (b0 b1 b2 b3 : Nat) (d1 d2 d3 : Bool) (l0 : b0 < 256) (e1 : d1 = true → 128 ≤ b1 ∧ b1 ≤ 191) (e2 : d2 = true → 128 ≤ b2 ∧ b2 ≤ 191) (e3 : d3 = true → 128 ≤ b3 ∧ b3 ≤ 191) :
    ((decN b0 b1 b2 b3 d1 d2 d3).1 : Int) = (decI b0 b1 b2 b3 d1 d2 d3).1 ∧ (decN b0 b1 b2 b3 d1 d2 d3).2 = (decI b0 b1 b2 b3 d1 d2 d3).2 := by
  unfold decN decI
  simp only [valid_eq]
  by_cases h0 : b0 < 128
  · rw [if_pos h0, if_pos (show (b0 : Int) < 128 by omega)]; exact ⟨rfl, rfl⟩
  rw [if_neg h0, if_neg (show ¬ (b0 : Int) < 128 by omega)]
  by_cases h1 : (b0 / 32 == 6 && d1) = true
  · obtain ⟨h1a, h1b⟩ : b0 / 32 = 6 ∧ d1 = true := by simpa using h1
    have := e1 h1b
    rw [if_pos h1, if_pos (show 192 ≤ (b0 : Int) ∧ (b0 : Int) < 224 ∧ d1 = true from ⟨by omega, by omega, h1b⟩)]
    by_cases h : (b0 % 32) * 64 + b1 % 64 ≥ 128
    · rw [if_pos h, if_pos (show 128 ≤ ((b0 : Int) - 192) * 64 + ((b1 : Int) - 128) by omega)]; simp; omega
    · rw [if_neg h, if_neg (show ¬ 128 ≤ ((b0 : Int) - 192) * 64 + ((b1 : Int) - 128) by omega)]; simp
  rw [if_neg h1, if_neg (show ¬ (192 ≤ (b0 : Int) ∧ (b0 : Int) < 224 ∧ d1 = true) by rintro ⟨a, b, c⟩; exact h1 (by simp [c]; omega))]
  by_cases h2 : (b0 / 16 == 14 && d1 && d2) = true
  · obtain ⟨⟨h2a, h2b⟩, h2c⟩ : (b0 / 16 = 14 ∧ d1 = true) ∧ d2 = true := by simpa using h2
    have := e1 h2b
    have := e2 h2c
    rw [if_pos h2, if_pos (show 224 ≤ (b0 : Int) ∧ (b0 : Int) < 240 ∧ d1 = true ∧ d2 = true from ⟨by omega, by omega, h2b, h2c⟩)]
    have hc : (((b0 % 16) * 4096 + (b1 % 64) * 64 + b2 % 64 : Nat) : Int) = ((b0 : Int) - 224) * 4096 + ((b1 : Int) - 128) * 64 + ((b2 : Int) - 128) := by omega
    rw [← hc]
    generalize (b0 % 16) * 4096 + (b1 % 64) * 64 + b2 % 64 = c
    by_cases h : (decide (c ≥ 0x800) && validR (c : Int)) = true
    · have h' := h
      simp at h'
      rw [if_pos h, if_pos (show 2048 ≤ (c : Int) ∧ validR (c : Int) = true from ⟨by omega, h'.2⟩)]; simp
    · rw [if_neg h, if_neg (show ¬ (2048 ≤ (c : Int) ∧ validR (c : Int) = true) from fun hh => h (by simp [hh.2]; omega))]; simp
  rw [if_neg h2, if_neg (show ¬ (224 ≤ (b0 : Int) ∧ (b0 : Int) < 240 ∧ d1 = true ∧ d2 = true) by rintro ⟨a, b, c, d⟩; exact h2 (by simp [c, d]; omega))]
  by_cases h3 : (b0 / 8 == 30 && d1 && d2 && d3) = true
  · obtain ⟨⟨⟨h3a, h3b⟩, h3c⟩, h3d⟩ : ((b0 / 8 = 30 ∧ d1 = true) ∧ d2 = true) ∧ d3 = true := by simpa using h3
    have := e1 h3b
    have := e2 h3c
    have := e3 h3d
    rw [if_pos h3, if_pos (show 240 ≤ (b0 : Int) ∧ (b0 : Int) < 248 ∧ d1 = true ∧ d2 = true ∧ d3 = true from ⟨by omega, by omega, h3b, h3c, h3d⟩)]
    have hc : (((b0 % 8) * 262144 + (b1 % 64) * 4096 + (b2 % 64) * 64 + b3 % 64 : Nat) : Int) = ((b0 : Int) - 240) * 262144 + ((b1 : Int) - 128) * 4096 + ((b2 : Int) - 128) * 64 + ((b3 : Int) - 128) := by omega
    rw [← hc]
    generalize (b0 % 8) * 262144 + (b1 % 64) * 4096 + (b2 % 64) * 64 + b3 % 64 = c
    by_cases h : (decide (c ≥ 0x10000) && validR (c : Int)) = true
    · have h' := h
      simp at h'
      rw [if_pos h, if_pos (show 65536 ≤ (c : Int) ∧ validR (c : Int) = true from ⟨by omega, h'.2⟩)]; simp
    · rw [if_neg h, if_neg (show ¬ (65536 ≤ (c : Int) ∧ validR (c : Int) = true) from fun hh => h (by simp [hh.2]; omega))]; simp
  rw [if_neg h3, if_neg (show ¬ (240 ≤ (b0 : Int) ∧ (b0 : Int) < 248 ∧ d1 = true ∧ d2 = true ∧ d3 = true) by rintro ⟨a, b, c, d, e⟩; exact h3 (by simp [c, d, e]; omega))]
  simp

theorem cont_iff (s : ByteArray) (i : Nat) : (decide (i < s.size) && (s.get! i).toNat / 64 == 2) = decide (contAt s i) := by
  have h := get!_nat s i
  have := (s.get! i).toNat_lt
  rw [Bool.eq_iff_iff, decide_eq_true_iff]
  unfold contAt
  rw [← h]
  simp
  intro _
  omega

theorem decode_N (s : ByteArray) (i : Nat) : Utf8.decode s i = decN (s.get! i).toNat (s.get! (i + 1)).toNat (s.get! (i + 2)).toNat (s.get! (i + 3)).toNat
    (decide (i + 1 < s.size) && (s.get! (i + 1)).toNat / 64 == 2) (decide (i + 2 < s.size) && (s.get! (i + 2)).toNat / 64 == 2) (decide (i + 3 < s.size) && (s.get! (i + 3)).toNat / 64 == 2) := rfl

theorem decode_eq (s : ByteArray) (i : Nat) : ((Utf8.decode s i).1 : Int) = (dec2 s i).1 ∧ (Utf8.decode s i).2 = (dec2 s i).2 := by
  rw [decode_N]
  have := decN_eq (s.get! i).toNat (s.get! (i + 1)).toNat (s.get! (i + 2)).toNat (s.get! (i + 3)).toNat
    (decide (i + 1 < s.size) && (s.get! (i + 1)).toNat / 64 == 2) (decide (i + 2 < s.size) && (s.get! (i + 2)).toNat / 64 == 2) (decide (i + 3 < s.size) && (s.get! (i + 3)).toNat / 64 == 2)
    (s.get! i).toNat_lt (by simp; omega) (by simp; omega) (by simp; omega)
  rw [get!_nat, get!_nat, get!_nat, get!_nat, cont_iff, cont_iff, cont_iff] at this
  rw [cont_iff, cont_iff, cont_iff]
  exact this

theorem runeAt_eq (s : ByteArray) (i : Nat) : runeAt s i = (dec2 s i).1 := (decode_eq s i).1
theorem wideAt_eq (s : ByteArray) (i : Nat) : wideAt s i = (dec2 s i).2 := (decode_eq s i).2

/-- A rune has one to four bytes, all of them in the text; its bytes behind the first are 128 or more. -/
theorem wide_facts (s : ByteArray) (i : Nat) (h : i < s.size) :
    1 ≤ wideAt s i ∧ i + wideAt s i ≤ s.size ∧ 0 ≤ runeAt s i ∧ runeAt s i ≤ 1114111 ∧
    (byteAt s i < 128 → runeAt s i = byteAt s i ∧ wideAt s i = 1) ∧ (128 ≤ byteAt s i → 128 ≤ runeAt s i) ∧ (∀ k, 1 ≤ k → k < wideAt s i → 128 ≤ byteAt s (i + k)) := by
  rw [runeAt_eq, wideAt_eq]
  have hb := byteAt_lt s i
  have e1 : contAt s (i + 1) → i + 1 < s.size ∧ 128 ≤ byteAt s (i + 1) ∧ byteAt s (i + 1) ≤ 191 := fun h => h
  have e2 : contAt s (i + 2) → i + 2 < s.size ∧ 128 ≤ byteAt s (i + 2) ∧ byteAt s (i + 2) ≤ 191 := fun h => h
  have e3 : contAt s (i + 3) → i + 3 < s.size ∧ 128 ≤ byteAt s (i + 3) ∧ byteAt s (i + 3) ≤ 191 := fun h => h
  unfold dec2 decI
  simp only [decide_eq_true_eq]
  have fin : ∀ n : Nat, n ≤ 4 → (1 < n → contAt s (i + 1)) → (2 < n → contAt s (i + 2)) → (3 < n → contAt s (i + 3)) → ∀ k, 1 ≤ k → k < n → 128 ≤ byteAt s (i + k) := by
    intro n hn h1 h2 h3 k k1 k2
    obtain rfl | rfl | rfl : k = 1 ∨ k = 2 ∨ k = 3 := by omega
    · exact (e1 (h1 (by omega))).2.1
    · exact (e2 (h2 (by omega))).2.1
    · exact (e3 (h3 (by omega))).2.1
  split
  · rename_i h0
    exact ⟨by simp, by simp; omega, hb.1, by simp; omega, fun _ => ⟨rfl, rfl⟩, fun h' => by omega, fun k h1 h2 => by simp at h2; omega⟩
  rename_i h0
  have one : 1 ≤ ((65533, 1) : Int × Nat).2 ∧ i + ((65533, 1) : Int × Nat).2 ≤ s.size ∧ 0 ≤ ((65533, 1) : Int × Nat).1 ∧ ((65533, 1) : Int × Nat).1 ≤ 1114111 ∧
    (byteAt s i < 128 → ((65533, 1) : Int × Nat).1 = byteAt s i ∧ ((65533, 1) : Int × Nat).2 = 1) ∧ (128 ≤ byteAt s i → 128 ≤ ((65533, 1) : Int × Nat).1) ∧ (∀ k, 1 ≤ k → k < ((65533, 1) : Int × Nat).2 → 128 ≤ byteAt s (i + k)) :=
    ⟨by simp, by simp; omega, by simp, by simp, fun h' => by omega, fun _ => by simp, fun k h1 h2 => by simp at h2; omega⟩
  split
  · rename_i h1
    have := e1 h1.2.2
    split
    · exact ⟨by simp, by simp; omega, by simp; omega, by simp; omega, fun h' => by omega, fun _ => by assumption, fin 2 (by omega) (fun _ => h1.2.2) (by omega) (by omega)⟩
    · exact one
  split
  · rename_i h2
    have := e1 h2.2.2.1
    have := e2 h2.2.2.2
    split
    · rename_i hv
      have hv2 := hv.2
      simp only [validR, decide_eq_true_eq] at hv2
      exact ⟨by simp, by simp; omega, by simp; omega, by simp; omega, fun h' => by omega, fun _ => by simp; omega, fin 3 (by omega) (fun _ => h2.2.2.1) (fun _ => h2.2.2.2) (by omega)⟩
    · exact one
  split
  · rename_i h3
    have := e1 h3.2.2.1
    have := e2 h3.2.2.2.1
    have := e3 h3.2.2.2.2
    split
    · rename_i hv
      have hv2 := hv.2
      simp only [validR, decide_eq_true_eq] at hv2
      exact ⟨by simp, by simp; omega, by simp; omega, by simp; omega, fun h' => by omega, fun _ => by simp; omega, fin 4 (by omega) (fun _ => h3.2.2.1) (fun _ => h3.2.2.2.1) (fun _ => h3.2.2.2.2)⟩
    · exact one
  exact one

/-- The text's rune at a place, as the document's answer tells it: -1 and 1, where there is no text. -/
def refRune (s : ByteArray) (i : Nat) : Int × Nat :=
  if runeAt s i = 65533 ∧ wideAt s i = 1 then (-1, 1) else (runeAt s i, wideAt s i)

theorem refRune_ascii (s : ByteArray) (i : Nat) (h : byteAt s i < 128) : refRune s i = (byteAt s i, 1) := by
  unfold refRune; rw [runeAt_eq, wideAt_eq]
  unfold dec2 decI
  simp [h]; omega

/-- 'decI' at 65533 and 1: no text. -/
theorem ref_mk (s : ByteArray) (i : Nat) (x : Int × Nat) (h : dec2 s i = x) : refRune s i = if x.1 = 65533 ∧ x.2 = 1 then (-1, 1) else x := by
  unfold refRune; rw [runeAt_eq, wideAt_eq, h]

theorem refRune_2 (s : ByteArray) (i : Nat) (h1 : 194 ≤ byteAt s i) (h2 : byteAt s i < 224) :
    refRune s i = if contAt s (i + 1) then ((byteAt s i - 192) * 64 + (byteAt s (i + 1) - 128), 2) else (-1, 1) := by
  by_cases c1 : contAt s (i + 1)
  · have e : dec2 s i = ((byteAt s i - 192) * 64 + (byteAt s (i + 1) - 128), 2) := by
      have := c1.2
      unfold dec2 decI
      rw [if_neg (by omega), if_pos ⟨by omega, by omega, by simpa using c1⟩, if_pos (by omega)]
    rw [ref_mk s i _ e, if_pos c1]; simp
  · have e : dec2 s i = (65533, 1) := by
      unfold dec2 decI
      rw [if_neg (by omega), if_neg (by simp [c1]), if_neg (by simp [c1]), if_neg (by simp [c1])]
    rw [ref_mk s i _ e, if_neg c1]; simp

theorem refRune_3 (s : ByteArray) (i : Nat) (h1 : 224 ≤ byteAt s i) (h2 : byteAt s i < 240) :
    refRune s i = if contAt s (i + 1) ∧ contAt s (i + 2) ∧ 2048 ≤ (byteAt s i - 224) * 4096 + (byteAt s (i + 1) - 128) * 64 + (byteAt s (i + 2) - 128) ∧
      validR ((byteAt s i - 224) * 4096 + (byteAt s (i + 1) - 128) * 64 + (byteAt s (i + 2) - 128)) = true
      then ((byteAt s i - 224) * 4096 + (byteAt s (i + 1) - 128) * 64 + (byteAt s (i + 2) - 128), 3) else (-1, 1) := by
  split
  · rename_i c
    have e : dec2 s i = ((byteAt s i - 224) * 4096 + (byteAt s (i + 1) - 128) * 64 + (byteAt s (i + 2) - 128), 3) := by
      unfold dec2 decI
      rw [if_neg (by omega), if_neg (by omega), if_pos ⟨by omega, by omega, by simpa using c.1, by simpa using c.2.1⟩, if_pos c.2.2]
    rw [ref_mk s i _ e]; simp
  · rename_i c
    have e : dec2 s i = (65533, 1) := by
      unfold dec2 decI
      rw [if_neg (by omega), if_neg (by omega)]
      split
      · rename_i c'
        simp only [decide_eq_true_eq] at c'
        rw [if_neg (fun x => c ⟨c'.2.2.1, c'.2.2.2, x⟩)]
      · rw [if_neg (by omega)]
    rw [ref_mk s i _ e]; simp

theorem refRune_4 (s : ByteArray) (i : Nat) (h1 : 240 ≤ byteAt s i) (h2 : byteAt s i < 245) :
    refRune s i = if contAt s (i + 1) ∧ contAt s (i + 2) ∧ contAt s (i + 3) ∧
      65536 ≤ (byteAt s i - 240) * 262144 + (byteAt s (i + 1) - 128) * 4096 + (byteAt s (i + 2) - 128) * 64 + (byteAt s (i + 3) - 128) ∧
      validR ((byteAt s i - 240) * 262144 + (byteAt s (i + 1) - 128) * 4096 + (byteAt s (i + 2) - 128) * 64 + (byteAt s (i + 3) - 128)) = true
      then ((byteAt s i - 240) * 262144 + (byteAt s (i + 1) - 128) * 4096 + (byteAt s (i + 2) - 128) * 64 + (byteAt s (i + 3) - 128), 4) else (-1, 1) := by
  split
  · rename_i c
    have e : dec2 s i = ((byteAt s i - 240) * 262144 + (byteAt s (i + 1) - 128) * 4096 + (byteAt s (i + 2) - 128) * 64 + (byteAt s (i + 3) - 128), 4) := by
      unfold dec2 decI
      rw [if_neg (by omega), if_neg (by omega), if_neg (by omega), if_pos ⟨by omega, by omega, by simpa using c.1, by simpa using c.2.1, by simpa using c.2.2.1⟩, if_pos c.2.2.2]
    rw [ref_mk s i _ e]; simp
  · rename_i c
    have e : dec2 s i = (65533, 1) := by
      unfold dec2 decI
      rw [if_neg (by omega), if_neg (by omega), if_neg (by omega)]
      split
      · rename_i c'
        simp only [decide_eq_true_eq] at c'
        rw [if_neg (fun x => c ⟨c'.2.2.1, c'.2.2.2.1, c'.2.2.2.2, x⟩)]
      · rfl
    rw [ref_mk s i _ e]; simp

theorem refRune_no (s : ByteArray) (i : Nat) (h0 : 128 ≤ byteAt s i) (h : byteAt s i < 194 ∨ 245 ≤ byteAt s i) : refRune s i = (-1, 1) := by
  have hb := byteAt_lt s i
  have e : dec2 s i = (65533, 1) := by
    unfold dec2 decI
    simp only [decide_eq_true_eq]
    rw [if_neg (by omega)]
    split
    · rename_i c
      have := c.2.2.2
      rw [if_neg (by omega)]
    rw [if_neg (by omega)]
    split
    · rename_i c
      have := c.2.2.1.2
      have := c.2.2.2.1.2
      have := c.2.2.2.2.2
      rw [if_neg (by unfold validR; simp only [decide_eq_true_eq]; omega)]
    · rfl
  rw [ref_mk s i _ e]; simp

/-! ### Runes of a text, one by one -/

/-- The runes from a place on, each with its place; the first argument: no more than so many. -/
def runesAt (s : ByteArray) : Nat → Nat → List (Nat × Int)
  | 0, _ => []
  | b + 1, pos => if pos < s.size then (pos, runeAt s pos) :: runesAt s b (pos + wideAt s pos) else []

theorem runesAt_end (s : ByteArray) (b pos : Nat) (h : ¬ pos < s.size) : runesAt s b pos = [] := by
  cases b <;> simp [runesAt, h]

theorem runesAt_next (s : ByteArray) (b pos : Nat) (h : pos < s.size) : runesAt s (b + 1) pos = (pos, runeAt s pos) :: runesAt s b (pos + wideAt s pos) := by
  simp [runesAt, h]

theorem runesAt_more (s : ByteArray) : ∀ (b pos : Nat), s.size ≤ pos + b → ∀ b', b ≤ b' → runesAt s b' pos = runesAt s b pos
  | 0, pos, h, b', _ => by rw [runesAt_end s b' pos (by omega)]; rfl
  | b + 1, pos, h, b', hb => by
    obtain ⟨b'', rfl⟩ : ∃ b'', b' = b'' + 1 := ⟨b' - 1, by omega⟩
    by_cases hp : pos < s.size
    · rw [runesAt_next s b pos hp, runesAt_next s b'' pos hp]
      have := (wide_facts s pos hp).1
      rw [runesAt_more s b (pos + wideAt s pos) (by omega) b'' (by omega)]
    · rw [runesAt_end s _ pos hp, runesAt_end s _ pos hp]

/-- All runes of a text. -/
def runes (s : ByteArray) : List (Nat × Int) := runesAt s s.size 0

/-! ### Names -/

/-- Is what is left of a text right, n runes having come, g of them signs? -/
def nameGo : List (Nat × Int) → Nat → Nat → Bool
  | [], n, _ => decide (0 < n)
  | (_, r) :: l, n, g =>
    if n = 16 then false
    else if cls r = 1 then (if 0 < g then false else nameGo l (n + 1) g)
    else if cls r = 2 then (if n = 0 ∨ 0 < g then false else nameGo l (n + 1) g)
    else if cls r = 3 then (if n = 0 ∨ g = 3 then false else nameGo l (n + 1) (g + 1))
    else false

def nameB (s : ByteArray) : Bool := nameGo (runes s) 0 0

/-! ### Numbers -/

/-- Is the byte at a place a digit? -/
def digAt (s : ByteArray) (i : Nat) : Prop := 48 ≤ byteAt s i ∧ byteAt s i ≤ 57
instance (s : ByteArray) (i : Nat) : Decidable (digAt s i) := by unfold digAt; infer_instance

/-- What the digits from a place on make of n; none, if there is another byte. -/
def numAt (s : ByteArray) : Nat → Nat → Int → Option Int
  | 0, _, n => some n
  | b + 1, pos, n => if pos < s.size then (if digAt s pos then numAt s b (pos + 1) (10 * n + (byteAt s pos - 48)) else none) else some n

/-- The number that a text is. -/
def numOf (s : ByteArray) : Option Int :=
  if s.size = 0 ∨ 9 < s.size ∨ (1 < s.size ∧ byteAt s 0 = 48) then none else numAt s s.size 0 0

theorem numAt_end (s : ByteArray) (b pos : Nat) (n : Int) (h : ¬ pos < s.size) : numAt s b pos n = some n := by
  cases b <;> simp [numAt, h]
theorem numAt_dig (s : ByteArray) (b pos : Nat) (n : Int) (h : pos < s.size) (hd : digAt s pos) : numAt s (b + 1) pos n = numAt s b (pos + 1) (10 * n + (byteAt s pos - 48)) := by
  simp [numAt, h, hd]
theorem numAt_no (s : ByteArray) (b pos : Nat) (n : Int) (h : pos < s.size) (hd : ¬ digAt s pos) : numAt s (b + 1) pos n = none := by
  simp [numAt, h, hd]

theorem dig_rune (s : ByteArray) (pos : Nat) (h : pos < s.size) : cls (runeAt s pos) = 2 ↔ digAt s pos := by
  have w := wide_facts s pos h
  rw [cls_2]
  unfold digAt
  by_cases hb : byteAt s pos < 128
  · rw [(w.2.2.2.2.1 hb).1]
  · have := w.2.2.2.2.2.1 (by omega); omega

theorem dig_wide (s : ByteArray) (pos : Nat) (h : pos < s.size) (hd : digAt s pos) : runeAt s pos = byteAt s pos ∧ wideAt s pos = 1 :=
  (wide_facts s pos h).2.2.2.2.1 (by unfold digAt at hd; omega)

/-- A bound on what so many digits make. -/
theorem pow_step (n : Int) (pos : Nat) (d : Int) (h0 : 0 ≤ n) (h : n < 10 ^ pos) (h1 : 0 ≤ d) (h2 : d ≤ 9) : 0 ≤ 10 * n + d ∧ 10 * n + d < 10 ^ (pos + 1) := by
  have : (10 : Int) ^ (pos + 1) = 10 ^ pos * 10 := Int.pow_succ 10 pos
  rw [this]; omega
theorem pow_9 (pos : Nat) (h : pos ≤ 9) : (10 : Int) ^ pos ≤ 1000000000 := by
  have : pos = 0 ∨ pos = 1 ∨ pos = 2 ∨ pos = 3 ∨ pos = 4 ∨ pos = 5 ∨ pos = 6 ∨ pos = 7 ∨ pos = 8 ∨ pos = 9 := by omega
  rcases this with rfl | rfl | rfl | rfl | rfl | rfl | rfl | rfl | rfl | rfl <;> decide

/-- What the digits make is in range. -/
theorem numAt_range (s : ByteArray) (hs : s.size ≤ 9) : ∀ (b pos : Nat) (n : Int), 0 ≤ n → n < 10 ^ pos → pos ≤ 9 → ∀ k, numAt s b pos n = some k → 0 ≤ k ∧ k ≤ 999999999
  | 0, pos, n, h0, h1, hp, k, h => by
    simp [numAt] at h; subst h; have := pow_9 pos hp; omega
  | b + 1, pos, n, h0, h1, hp, k, h => by
    by_cases hl : pos < s.size
    · by_cases hd : digAt s pos
      · rw [numAt_dig s b pos n hl hd] at h
        have hd' := hd
        unfold digAt at hd'
        have q := pow_step n pos (byteAt s pos - 48) h0 h1 (by omega) (by omega)
        exact numAt_range s hs b (pos + 1) _ q.1 q.2 (by omega) k h
      · rw [numAt_no s b pos n hl hd] at h; cases h
    · rw [numAt_end s _ pos n hl] at h; simp at h; subst h; have := pow_9 pos hp; omega

theorem numOf_range (s : ByteArray) (k : Int) (h : numOf s = some k) : 0 ≤ k ∧ k ≤ 999999999 := by
  unfold numOf at h
  split at h
  · cases h
  · exact numAt_range s (by omega) _ 0 0 (by omega) (by decide) (by omega) k h

/-! ### Bad places -/

/-- The place of the first rune that may not stand in a text. -/
def badGo : List (Nat × Int) → Option Nat
  | [] => none
  | (p, r) :: l => if cls r = 0 ∧ mrk r = false then some p else badGo l

def badOf (s : ByteArray) : Option Nat := badGo (runes s)

theorem cls_err : cls 65533 = 0 := by unfold cls; simp only [letR_iff]; repeat' split
                                      all_goals omega
theorem mrk_err : mrk 65533 = false := by simp [mrk]

/-- Where the document's answer sees no text, the text's rune is bad; else they are one. -/
theorem refRune_cases (s : ByteArray) (i : Nat) (h : i < s.size) :
    (refRune s i = (-1, 1) ∧ runeAt s i = 65533 ∧ wideAt s i = 1) ∨ (refRune s i = (runeAt s i, wideAt s i) ∧ 0 ≤ runeAt s i ∧ runeAt s i ≤ 1114111) := by
  have w := wide_facts s i h
  unfold refRune
  split
  · rename_i c; exact .inl ⟨rfl, c.1, c.2⟩
  · exact .inr ⟨rfl, w.2.2.1, w.2.2.2.1⟩

theorem badGo_yes (p : Nat) (r : Int) (l : List (Nat × Int)) (h : cls r = 0) (h' : mrk r = false) : badGo ((p, r) :: l) = some p := by simp [badGo, h, h']
theorem badGo_no (p : Nat) (r : Int) (l : List (Nat × Int)) (h : ¬ (cls r = 0 ∧ mrk r = false)) : badGo ((p, r) :: l) = badGo l := by simp only [badGo]; rw [if_neg h]

/-! ### Classes -/

/-- The class of the rune at a place, 9 of what is no text. -/
def clsAt (s : ByteArray) (i : Nat) : Int := if (refRune s i).1 < 0 then 9 else cls (refRune s i).1

/-- The classes of the runes from a place on. -/
def clsFrom (s : ByteArray) : Nat → Nat → List Int
  | 0, _ => []
  | b + 1, pos => if pos < s.size then clsAt s pos :: clsFrom s b (pos + wideAt s pos) else []

theorem clsFrom_end (s : ByteArray) (b pos : Nat) (h : ¬ pos < s.size) : clsFrom s b pos = [] := by
  cases b <;> simp [clsFrom, h]
theorem clsFrom_next (s : ByteArray) (b pos : Nat) (h : pos < s.size) : clsFrom s (b + 1) pos = clsAt s pos :: clsFrom s b (pos + wideAt s pos) := by
  simp [clsFrom, h]
theorem clsFrom_length (s : ByteArray) : ∀ (b pos : Nat), (clsFrom s b pos).length ≤ s.size - pos
  | 0, pos => by simp [clsFrom]
  | b + 1, pos => by
    by_cases h : pos < s.size
    · have := (wide_facts s pos h).1
      have := clsFrom_length s b (pos + wideAt s pos)
      rw [clsFrom_next s b pos h]; simp; omega
    · rw [clsFrom_end s _ pos h]; simp

def clsOf (s : ByteArray) : List Int := clsFrom s s.size 0

end Go.Proofs.Ytbmfadignoeigaa
