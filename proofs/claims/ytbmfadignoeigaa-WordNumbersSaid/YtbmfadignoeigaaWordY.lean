/-
  Decimal texts as plain mathematics: a number's text is that number, and no other text is.
-/
import Derived.Test.YtbmfadignoeigaaWordM
import Derived.Laws.BytesArg
namespace Go.Proofs.Ytbmfadignoeigaa

/-- The bytes of a text, as numbers. -/
def codes (s : ByteArray) : List Int := s.data.toList.map fun b => (b.toNat : Int)

theorem codes_length (s : ByteArray) : (codes s).length = s.size := by simp [codes]

theorem codes_get (s : ByteArray) (i : Nat) (h : i < s.size) : (codes s)[i]'(by rw [codes_length]; exact h) = byteAt s i := by
  rw [← byteAt_of s i h]
  simp [codes]; rfl

theorem codes_back (s : ByteArray) : strOfNums (codes s) = s := by
  unfold strOfNums codes
  apply ByteArray.ext
  rw [List.map_map]
  have e : ((fun n : Int => UInt8.ofNat n.toNat) ∘ fun b : UInt8 => (b.toNat : Int)) = id := by
    funext b; simp
  rw [e, List.map_id]

theorem codes_str (l : List Int) (h : ∀ d ∈ l, 0 ≤ d ∧ d < 256) : codes (strOfNums l) = l := by
  unfold strOfNums codes
  simp only [List.map_map]
  conv => rhs; rw [← List.map_id l]
  apply List.map_congr_left
  intro d hd
  have := h d hd
  simp
  omega

/-- What a list of codes makes of n. -/
def numL : List Int → Int → Option Int
  | [], n => some n
  | d :: l, n => if 48 ≤ d ∧ d ≤ 57 then numL l (10 * n + (d - 48)) else none

theorem numL_app : ∀ (a b : List Int) (n : Int), numL (a ++ b) n = (numL a n).bind (numL b)
  | [], b, n => rfl
  | d :: a, b, n => by
    simp only [List.cons_append, numL]
    split
    · exact numL_app a b _
    · rfl

theorem numAt_L (s : ByteArray) : ∀ (b pos : Nat) (n : Int), s.size ≤ pos + b → numAt s b pos n = numL ((codes s).drop pos) n
  | 0, pos, n, h => by
    rw [List.drop_of_length_le (by rw [codes_length]; omega)]; rfl
  | b + 1, pos, n, h => by
    by_cases hp : pos < s.size
    · rw [List.drop_eq_getElem_cons (by rw [codes_length]; exact hp), codes_get s pos hp]
      simp only [numL]
      by_cases hd : digAt s pos
      · rw [numAt_dig s b pos n hp hd, numAt_L s b (pos + 1) _ (by omega)]
        unfold digAt at hd
        rw [if_pos hd]
      · rw [numAt_no s b pos n hp hd]
        unfold digAt at hd
        rw [if_neg hd]
    · rw [numAt_end s _ pos n hp, List.drop_of_length_le (by rw [codes_length]; omega)]; rfl

theorem numOf_L (s : ByteArray) : numOf s = if (codes s).length = 0 ∨ 9 < (codes s).length ∨ (1 < (codes s).length ∧ byteAt s 0 = 48) then none else numL (codes s) 0 := by
  unfold numOf
  rw [codes_length, numAt_L s s.size 0 0 (by omega), List.drop_zero]

/-- A number's digits, as codes. -/
def dl : Nat → Int → List Int
  | 0, _ => []
  | f + 1, n => if n / 10 = 0 then [48 + n % 10] else dl f (n / 10) ++ [48 + n % 10]

theorem dl_dig : ∀ (f : Nat) (n : Int), ∀ d ∈ dl f n, 48 ≤ d ∧ d ≤ 57
  | 0, n, d, h => by simp [dl] at h
  | f + 1, n, d, h => by
    unfold dl at h
    split at h
    · simp at h; omega
    · simp only [List.mem_append, List.mem_singleton] at h
      rcases h with h | h
      · exact dl_dig f (n / 10) d h
      · omega

theorem dl_num : ∀ (f : Nat) (n : Int), 0 ≤ n → n < 10 ^ f → 0 < f → numL (dl f n) 0 = some n
  | 0, n, h0, h1, hf => by omega
  | f + 1, n, h0, h1, _ => by
    unfold dl
    split
    · simp only [numL]; rw [if_pos (by omega)]; congr 1; omega
    · rename_i hn
      have hp : (10 : Int) ^ (f + 1) = 10 ^ f * 10 := Int.pow_succ 10 f
      have hf : 0 < f := by
        rcases Nat.eq_zero_or_pos f with h | h
        · subst h; simp at h1; omega
        · exact h
      rw [numL_app, dl_num f (n / 10) (by omega) (by omega) hf]
      simp only [Option.bind_some, numL]
      rw [if_pos (by omega)]; congr 1; omega

theorem dl_length : ∀ (f j : Nat) (n : Int), 0 ≤ n → n < 10 ^ j → 0 < j → (dl f n).length ≤ j
  | 0, j, n, _, _, _ => by simp [dl]
  | f + 1, j, n, h0, h1, hj => by
    unfold dl
    split
    · simp; omega
    · rename_i hn
      obtain ⟨i, rfl⟩ : ∃ i, j = i + 1 := ⟨j - 1, by omega⟩
      have hp : (10 : Int) ^ (i + 1) = 10 ^ i * 10 := Int.pow_succ 10 i
      have hi : 0 < i := by
        rcases Nat.eq_zero_or_pos i with h | h
        · subst h; simp at h1; omega
        · exact h
      have := dl_length f i (n / 10) (by omega) (by omega) hi
      simp; omega

theorem dl_pos (f : Nat) (n : Int) (h : 0 < f) : 0 < (dl f n).length := by
  obtain ⟨g, rfl⟩ : ∃ g, f = g + 1 := ⟨f - 1, by omega⟩
  unfold dl; split <;> simp

theorem dl_head : ∀ (f : Nat) (n : Int), 0 < n → n < 10 ^ f → (dl f n).getD 0 0 ≠ 48
  | 0, n, h0, h1 => by simp at h1; omega
  | f + 1, n, h0, h1 => by
    unfold dl
    split
    · simp; omega
    · rename_i hn
      have hp : (10 : Int) ^ (f + 1) = 10 ^ f * 10 := Int.pow_succ 10 f
      have hf : 0 < f := by
        rcases Nat.eq_zero_or_pos f with h | h
        · subst h; simp at h1; omega
        · exact h
      have h := dl_head f (n / 10) (by omega) (by omega)
      have hl := dl_pos f (n / 10) hf
      rw [List.getD_eq_getElem?_getD, List.getElem?_append_left hl, ← List.getD_eq_getElem?_getD]
      exact h

/-- A number's text is that number. -/
theorem numOf_dl (n : Int) (h0 : 0 ≤ n) (h1 : n ≤ 999999999) : numOf (strOfNums (dl 12 n)) = some n := by
  have hd := dl_dig 12 n
  have hc := codes_str (dl 12 n) (fun d h => by have := hd d h; omega)
  have hl := dl_length 12 9 n h0 (by omega) (by omega)
  have hp := dl_pos 12 n (by omega)
  rw [numOf_L, hc, dl_num 12 n h0 (by omega) (by omega), if_neg]
  rintro (h | h | ⟨h, h'⟩)
  · omega
  · omega
  · have hs : 0 < (strOfNums (dl 12 n)).size := by rw [← codes_length, hc]; exact hp
    have e : byteAt (strOfNums (dl 12 n)) 0 = (dl 12 n).getD 0 0 := by
      rw [← codes_get _ 0 hs]
      simp only [hc]
      rw [List.getD_eq_getElem?_getD, List.getElem?_eq_getElem hp]; rfl
    rw [e] at h'
    by_cases hn : n = 0
    · subst hn; simp [dl] at h
    · exact dl_head 12 n (by omega) (by omega) h'

theorem numL_ge : ∀ (l : List Int) (n k : Int), numL l n = some k → 0 ≤ n → n ≤ k
  | [], n, k, h, _ => by simp [numL] at h; omega
  | d :: l, n, k, h, h0 => by
    simp only [numL] at h
    split at h
    · have := numL_ge l _ k h (by omega); omega
    · cases h

theorem numL_dl : ∀ (m : Nat) (l : List Int) (f : Nat) (k : Int), l.length = m → 0 < m → m ≤ f → (1 < m → l.getD 0 0 ≠ 48) → numL l 0 = some k → dl f k = l
  | 0, l, f, k, hm, h0, _, _, _ => by omega
  | m + 1, l, f, k, hm, h0, hf, hz, hk => by
    obtain ⟨f, rfl⟩ : ∃ g, f = g + 1 := ⟨f - 1, by omega⟩
    have hne : l ≠ [] := by intro e; rw [e] at hm; simp at hm
    obtain ⟨l', d, rfl⟩ : ∃ l' d, l = l' ++ [d] := ⟨l.dropLast, l.getLast hne, (List.dropLast_concat_getLast hne).symm⟩
    simp at hm
    rw [numL_app] at hk
    cases hv : numL l' 0 with
    | none => rw [hv] at hk; simp at hk
    | some v =>
      rw [hv] at hk
      simp only [Option.bind_some, numL] at hk
      split at hk
      · rename_i hd
        simp only [Option.some.injEq] at hk
        have hv0 := numL_ge l' 0 v hv (by omega)
        unfold dl
        by_cases hm0 : m = 0
        · subst hm0
          have : l' = [] := List.eq_nil_of_length_eq_zero hm
          subst this
          simp [numL] at hv
          rw [if_pos (by omega)]; simp; omega
        · have hz' : l'.getD 0 0 ≠ 48 := by
            have := hz (by omega)
            rw [List.getD_eq_getElem?_getD, List.getElem?_append_left (by omega), ← List.getD_eq_getElem?_getD] at this
            exact this
          have hvp : 0 < v := by
            match l', hm, hv, hz' with
            | [], hm, _, _ => simp at hm; omega
            | c :: l'', _, hv, hz' =>
              simp at hz'
              simp only [numL] at hv
              split at hv
              · rename_i hc
                have := numL_ge l'' _ v hv (by omega)
                omega
              · cases hv
          rw [if_neg (by omega)]
          have e1 : k / 10 = v := by omega
          have e2 : 48 + k % 10 = d := by omega
          rw [e1, e2, numL_dl m l' f v hm (by omega) (by omega) (fun _ => hz') hv]
      · cases hk

/-- No other text is that number. -/
theorem dl_numOf (s : ByteArray) (k : Int) (h : numOf s = some k) : strOfNums (dl 12 k) = s := by
  rw [numOf_L] at h
  split at h
  · cases h
  · rename_i hc
    have hp : 0 < (codes s).length := by omega
    have hs : 0 < s.size := by rw [← codes_length]; exact hp
    have e : byteAt s 0 = (codes s).getD 0 0 := by
      rw [← codes_get _ 0 hs]
      rw [List.getD_eq_getElem?_getD, List.getElem?_eq_getElem hp]; rfl
    rw [e] at hc
    rw [numL_dl (codes s).length (codes s) 12 k rfl hp (by omega) (fun h1 h2 => hc (.inr (.inr ⟨h1, h2⟩))) h, codes_back]

/-- The text that the loop makes. -/
def decGo : Nat → Int → ByteArray → ByteArray
  | 0, _, acc => acc
  | f + 1, n, acc => if n / 10 = 0 then strOfNums [48 + n % 10] ++ acc else decGo f (n / 10) (strOfNums [48 + n % 10] ++ acc)

theorem str_app (a b : List Int) : strOfNums (a ++ b) = strOfNums a ++ strOfNums b := by
  unfold strOfNums
  apply ByteArray.ext
  simp [ByteArray.data_append]

theorem bytes_assoc (a b c : ByteArray) : a ++ b ++ c = a ++ (b ++ c) := by
  apply ByteArray.ext
  simp [ByteArray.data_append]

theorem decGo_eq : ∀ (f : Nat) (n : Int) (acc : ByteArray), 0 ≤ n → n < 10 ^ f → 0 < f → decGo f n acc = strOfNums (dl f n) ++ acc
  | 0, n, acc, _, _, h => by omega
  | f + 1, n, acc, h0, h1, _ => by
    unfold decGo dl
    split
    · rfl
    · rename_i hn
      have hp : (10 : Int) ^ (f + 1) = 10 ^ f * 10 := Int.pow_succ 10 f
      have hf : 0 < f := by
        rcases Nat.eq_zero_or_pos f with h | h
        · subst h; simp at h1; omega
        · exact h
      rw [decGo_eq f (n / 10) _ (by omega) (by omega) hf, str_app, bytes_assoc]

def decS (n : Int) : ByteArray := decGo 12 n ⟨#[]⟩

theorem decS_eq (n : Int) (h0 : 0 ≤ n) (h1 : n ≤ 999999999) : decS n = strOfNums (dl 12 n) := by
  unfold decS
  rw [decGo_eq 12 n _ h0 (by omega) (by omega)]
  apply ByteArray.ext
  simp [ByteArray.data_append]

theorem numOf_dec (n : Int) (h0 : 0 ≤ n) (h1 : n ≤ 999999999) : numOf (decS n) = some n := by rw [decS_eq n h0 h1, numOf_dl n h0 h1]
theorem dec_numOf (s : ByteArray) (k : Int) (h : numOf s = some k) : decS k = s := by
  have := numOf_range s k h
  rw [decS_eq k this.1 this.2, dl_numOf s k h]

end Go.Proofs.Ytbmfadignoeigaa
