/-
  Words of a line and lines of a text, as plain mathematics.
-/
import Derived.Test.YtbmfadignoeigaaWordM
namespace Go.Proofs.Ytbmfadignoeigaa

def blankAt (s : ByteArray) (i : Nat) : Prop := byteAt s i = 32
instance (s : ByteArray) (i : Nat) : Decidable (blankAt s i) := by unfold blankAt; infer_instance

/-- The words that end before a place, and where the stretch begins that is not ended yet. -/
def splitTo (s : ByteArray) : Nat → List (Nat × Nat) × Nat
  | 0 => ([], 0)
  | i + 1 => if blankAt s i then ((if (splitTo s i).2 = i then (splitTo s i).1 else (splitTo s i).1 ++ [((splitTo s i).2, i)]), i + 1) else splitTo s i

/-- A line's words, from where to where. -/
def wordsOf (s : ByteArray) : List (Nat × Nat) :=
  if (splitTo s s.size).2 = s.size then (splitTo s s.size).1 else (splitTo s s.size).1 ++ [((splitTo s s.size).2, s.size)]

theorem splitTo_blank (s : ByteArray) (i : Nat) (h : blankAt s i) :
    splitTo s (i + 1) = ((if (splitTo s i).2 = i then (splitTo s i).1 else (splitTo s i).1 ++ [((splitTo s i).2, i)]), i + 1) := by
  rw [splitTo, if_pos h]
theorem splitTo_other (s : ByteArray) (i : Nat) (h : ¬ blankAt s i) : splitTo s (i + 1) = splitTo s i := by
  rw [splitTo, if_neg h]
theorem splitTo_skip (s : ByteArray) (i : Nat) : ∀ m, (∀ k, k < m → ¬ blankAt s (i + k)) → splitTo s (i + m) = splitTo s i
  | 0, _ => rfl
  | m + 1, h => by
    rw [← Nat.add_assoc, splitTo_other s (i + m) (h m (by omega)), splitTo_skip s i m (fun k hk => h k (by omega))]

theorem splitTo_rune (s : ByteArray) (i : Nat) (h : i < s.size) (hb : ¬ blankAt s i) : splitTo s (i + wideAt s i) = splitTo s i := by
  refine splitTo_skip s i _ fun k hk => ?_
  match k with
  | 0 => exact hb
  | k + 1 =>
    have := (wide_facts s i h).2.2.2.2.2.2 (k + 1) (by omega) hk
    unfold blankAt; omega

theorem blank_rune (s : ByteArray) (i : Nat) (h : i < s.size) : cls (runeAt s i) = 4 ↔ blankAt s i := by
  have w := wide_facts s i h
  rw [cls_4]
  unfold blankAt
  by_cases hb : byteAt s i < 128
  · rw [(w.2.2.2.2.1 hb).1]
  · have := w.2.2.2.2.2.1 (by omega); omega
theorem blank_wide (s : ByteArray) (i : Nat) (h : i < s.size) (hb : blankAt s i) : wideAt s i = 1 :=
  ((wide_facts s i h).2.2.2.2.1 (by unfold blankAt at hb; omega)).2

/-- Words one behind the other: from place p, the last one's end at e; f: a word has come already. -/
def Ch (s : ByteArray) : Nat → Bool → List (Nat × Nat) → Nat → Prop
  | p, _, [], e => e = p
  | p, f, (a, b) :: l, e => p ≤ a ∧ (f = true → p < a) ∧ a < b ∧ b ≤ s.size ∧ (∀ k, p ≤ k → k < a → blankAt s k) ∧ (∀ k, a ≤ k → k < b → ¬ blankAt s k) ∧ Ch s b true l e

theorem Ch.snoc (s : ByteArray) (a b : Nat) : ∀ (l : List (Nat × Nat)) (p : Nat) (f : Bool) (e : Nat), Ch s p f l e →
    e ≤ a → ((f = true ∨ l ≠ []) → e < a) → a < b → b ≤ s.size → (∀ k, e ≤ k → k < a → blankAt s k) → (∀ k, a ≤ k → k < b → ¬ blankAt s k) → Ch s p f (l ++ [(a, b)]) b
  | [], p, f, e, h, h1, h2, h3, h4, h5, h6 => by
    obtain rfl : e = p := h
    exact ⟨h1, fun hf => h2 (.inl hf), h3, h4, h5, h6, rfl⟩
  | (a', b') :: l, p, f, e, h, h1, h2, h3, h4, h5, h6 => by
    obtain ⟨q1, q2, q3, q4, q5, q6, q7⟩ := h
    exact ⟨q1, q2, q3, q4, q5, q6, Ch.snoc s a b l b' true e q7 h1 (fun _ => h2 (.inr (by simp))) h3 h4 h5 h6⟩

theorem splitTo_facts (s : ByteArray) : ∀ i, i ≤ s.size → (splitTo s i).2 ≤ i ∧ (∀ k, (splitTo s i).2 ≤ k → k < i → ¬ blankAt s k) ∧ ((splitTo s i).2 = 0 ∨ blankAt s ((splitTo s i).2 - 1)) ∧
    ((splitTo s i).1.length ≤ i) ∧
    ∃ e, Ch s 0 false (splitTo s i).1 e ∧ e ≤ (splitTo s i).2 ∧ ((splitTo s i).1 ≠ [] → e < (splitTo s i).2) ∧ (∀ k, e ≤ k → k < (splitTo s i).2 → blankAt s k)
  | 0, _ => ⟨Nat.le_refl _, fun k _ h => by omega, .inl rfl, Nat.le_refl _, 0, rfl, Nat.le_refl _, fun h => absurd rfl h, fun k _ h => by simp [splitTo] at h⟩
  | i + 1, hi => by
    obtain ⟨h1, h2, h3, hl, e, h4, h5, h6, h7⟩ := splitTo_facts s i (by omega)
    by_cases hb : blankAt s i
    · rw [splitTo_blank s i hb]
      refine ⟨Nat.le_refl _, fun k a b => by omega, .inr (by simpa using hb), ?_⟩
      by_cases he : (splitTo s i).2 = i
      · simp only [if_pos he]
        refine ⟨by omega, e, h4, by omega, fun _ => by omega, fun k a b => ?_⟩
        by_cases hk : k = i
        · subst hk; exact hb
        · exact h7 k a (by omega)
      · simp only [if_neg he]
        refine ⟨by simp; omega, i, Ch.snoc s _ i _ 0 false e h4 h5 (fun h => h6 (by simpa using h)) (by omega) (by omega) h7 h2, by omega, fun _ => by omega, fun k a b => ?_⟩
        obtain rfl : k = i := by omega
        exact hb
    · rw [splitTo_other s i hb]
      refine ⟨by omega, fun k a b => ?_, h3, by omega, e, h4, h5, h6, h7⟩
      by_cases hk : k = i
      · subst hk; exact hb
      · exact h2 k a (by omega)

/-- A line's words stand one behind the other, between blanks. -/
theorem wordsOf_facts (s : ByteArray) : (wordsOf s).length ≤ s.size + 1 ∧ ∃ e, Ch s 0 false (wordsOf s) e ∧ ∀ k, e ≤ k → k < s.size → blankAt s k := by
  obtain ⟨h1, h2, h3, hl, e, h4, h5, h6, h7⟩ := splitTo_facts s s.size (Nat.le_refl _)
  unfold wordsOf
  split
  · rename_i he
    exact ⟨by omega, e, h4, fun k a b => h7 k a (by omega)⟩
  · rename_i he
    exact ⟨by simp; omega, s.size, Ch.snoc s _ _ _ 0 false e h4 h5 (fun h => h6 (by simpa using h)) (by omega) (by omega) h7 h2, fun k a b => by omega⟩

/-! ### The document's way -/

/-- Where the stretch without blanks ends, from a place on. -/
def endFrom (s : ByteArray) : Nat → Nat → Nat
  | 0, k => k
  | b + 1, k => if k < s.size ∧ ¬ blankAt s k then endFrom s b (k + 1) else k

theorem endFrom_eq (s : ByteArray) (m : Nat) (hm : m ≤ s.size) (he : m = s.size ∨ blankAt s m) : ∀ (b k : Nat), k ≤ m → m ≤ k + b → (∀ j, k ≤ j → j < m → ¬ blankAt s j) → endFrom s b k = m
  | 0, k, h1, h2, _ => by simp [endFrom]; omega
  | b + 1, k, h1, h2, h3 => by
    unfold endFrom
    by_cases hk : k = m
    · rw [if_neg]; · exact hk
      rintro ⟨a, c⟩; subst hk; rcases he with he | he
      · omega
      · exact c he
    · rw [if_pos ⟨by omega, h3 k (by omega) (by omega)⟩]
      exact endFrom_eq s m hm he b (k + 1) (by omega) (by omega) (fun j a c => h3 j (by omega) c)

/-- The words that begin before a place. -/
def refTo (s : ByteArray) (i : Nat) : List (Nat × Nat) :=
  (splitTo s i).1 ++ (if (splitTo s i).2 < i then [((splitTo s i).2, endFrom s s.size (splitTo s i).2)] else [])

theorem refTo_blank (s : ByteArray) (i : Nat) (hi : i < s.size) (h : blankAt s i) : refTo s (i + 1) = refTo s i := by
  obtain ⟨h1, h2, h3, _, _⟩ := splitTo_facts s i (by omega)
  unfold refTo
  rw [splitTo_blank s i h]
  simp only [Nat.lt_irrefl, if_false, List.append_nil]
  by_cases he : (splitTo s i).2 = i
  · rw [if_pos he, if_neg (by omega), List.append_nil]
  · rw [if_neg he, if_pos (by omega), endFrom_eq s i (by omega) (.inr h) s.size _ h1 (by omega) h2]

theorem refTo_in (s : ByteArray) (i : Nat) (hi : i < s.size) (h : ¬ blankAt s i) (h0 : 0 < i) (hp : ¬ blankAt s (i - 1)) : refTo s (i + 1) = refTo s i := by
  obtain ⟨h1, h2, h3, _, _⟩ := splitTo_facts s i (by omega)
  unfold refTo
  rw [splitTo_other s i h]
  have : (splitTo s i).2 < i := by
    rcases h3 with h3 | h3
    · omega
    · by_cases he : (splitTo s i).2 = i
      · rw [he] at h3; exact absurd h3 hp
      · omega
  rw [if_pos this, if_pos (by omega)]

theorem refTo_new (s : ByteArray) (i : Nat) (hi : i < s.size) (h : ¬ blankAt s i) (hp : i = 0 ∨ blankAt s (i - 1)) : refTo s (i + 1) = refTo s i ++ [(i, endFrom s s.size i)] := by
  obtain ⟨h1, h2, h3, _, _⟩ := splitTo_facts s i (by omega)
  unfold refTo
  rw [splitTo_other s i h]
  have : (splitTo s i).2 = i := by
    by_cases he : (splitTo s i).2 = i
    · exact he
    · rcases hp with hp | hp
      · omega
      · exact absurd hp (h2 (i - 1) (by omega) (by omega))
  rw [this, if_pos (by omega), if_neg (by omega), List.append_nil]

theorem refTo_zero (s : ByteArray) : refTo s 0 = [] := by simp [refTo, splitTo]
theorem refTo_end (s : ByteArray) : refTo s s.size = wordsOf s := by
  obtain ⟨h1, h2, h3, _, _⟩ := splitTo_facts s s.size (Nat.le_refl _)
  unfold refTo wordsOf
  by_cases he : (splitTo s s.size).2 = s.size
  · rw [if_pos he, if_neg (by omega), List.append_nil]
  · rw [if_neg he, if_pos (by omega), endFrom_eq s s.size (Nat.le_refl _) (.inl rfl) s.size _ h1 (by omega) h2]

theorem refTo_length (s : ByteArray) (i : Nat) (hi : i ≤ s.size) : (refTo s i).length ≤ i + 1 := by
  obtain ⟨_, _, _, h, _⟩ := splitTo_facts s i hi
  unfold refTo; split <;> simp <;> omega

/-! ### Lines -/

def endAt (s : ByteArray) (i : Nat) : Prop := byteAt s i = 10
instance (s : ByteArray) (i : Nat) : Decidable (endAt s i) := by unfold endAt; infer_instance

/-- The lines that end before a place, and where the one begins that is not ended yet. -/
def linesTo (s : ByteArray) : Nat → List (Nat × Nat) × Nat
  | 0 => ([], 0)
  | i + 1 => if endAt s i then ((linesTo s i).1 ++ [((linesTo s i).2, i)], i + 1) else linesTo s i

/-- A text's lines, from where to where. -/
def linesOf (s : ByteArray) : List (Nat × Nat) :=
  if (linesTo s s.size).2 < s.size then (linesTo s s.size).1 ++ [((linesTo s s.size).2, s.size)] else (linesTo s s.size).1

theorem linesTo_end (s : ByteArray) (i : Nat) (h : endAt s i) : linesTo s (i + 1) = ((linesTo s i).1 ++ [((linesTo s i).2, i)], i + 1) := by
  rw [linesTo, if_pos h]
theorem linesTo_other (s : ByteArray) (i : Nat) (h : ¬ endAt s i) : linesTo s (i + 1) = linesTo s i := by
  rw [linesTo, if_neg h]
theorem linesTo_skip (s : ByteArray) (i : Nat) : ∀ m, (∀ k, k < m → ¬ endAt s (i + k)) → linesTo s (i + m) = linesTo s i
  | 0, _ => rfl
  | m + 1, h => by
    rw [← Nat.add_assoc, linesTo_other s (i + m) (h m (by omega)), linesTo_skip s i m (fun k hk => h k (by omega))]
theorem linesTo_rune (s : ByteArray) (i : Nat) (h : i < s.size) (hb : ¬ endAt s i) : linesTo s (i + wideAt s i) = linesTo s i := by
  refine linesTo_skip s i _ fun k hk => ?_
  match k with
  | 0 => exact hb
  | k + 1 =>
    have := (wide_facts s i h).2.2.2.2.2.2 (k + 1) (by omega) hk
    unfold endAt; omega
theorem end_rune (s : ByteArray) (i : Nat) (h : i < s.size) : runeAt s i = 10 ↔ endAt s i := by
  have w := wide_facts s i h
  unfold endAt
  by_cases hb : byteAt s i < 128
  · rw [(w.2.2.2.2.1 hb).1]
  · have := w.2.2.2.2.2.1 (by omega); omega
theorem end_wide (s : ByteArray) (i : Nat) (h : i < s.size) (hb : endAt s i) : wideAt s i = 1 :=
  ((wide_facts s i h).2.2.2.2.1 (by unfold endAt at hb; omega)).2
theorem linesTo_le (s : ByteArray) : ∀ i, (linesTo s i).2 ≤ i ∧ (linesTo s i).1.length ≤ i ∧ ∀ x ∈ (linesTo s i).1, x.1 ≤ x.2 ∧ x.2 ≤ i
  | 0 => ⟨Nat.le_refl _, Nat.le_refl _, by simp [linesTo]⟩
  | i + 1 => by
    obtain ⟨h1, h2, h3⟩ := linesTo_le s i
    by_cases hb : endAt s i
    · rw [linesTo_end s i hb]
      refine ⟨Nat.le_refl _, by simp; omega, fun x hx => ?_⟩
      simp only [List.mem_append, List.mem_singleton] at hx
      rcases hx with hx | rfl
      · have := h3 x hx; omega
      · exact ⟨h1, by simp⟩
    · rw [linesTo_other s i hb]
      exact ⟨by omega, by omega, fun x hx => by have := h3 x hx; omega⟩
theorem linesOf_le (s : ByteArray) : (linesOf s).length ≤ s.size + 1 ∧ ∀ x ∈ linesOf s, x.1 ≤ x.2 ∧ x.2 ≤ s.size := by
  obtain ⟨h1, h2, h3⟩ := linesTo_le s s.size
  unfold linesOf
  split
  · refine ⟨by simp; omega, fun x hx => ?_⟩
    simp only [List.mem_append, List.mem_singleton] at hx
    rcases hx with hx | rfl
    · exact h3 x hx
    · exact ⟨h1, Nat.le_refl _⟩
  · exact ⟨by omega, h3⟩

end Go.Proofs.Ytbmfadignoeigaa
