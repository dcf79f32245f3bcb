/-
  The document's test of a name and the program's are one, as plain mathematics.
-/
import Derived.Test.YtbmfadignoeigaaWordM
namespace Go.Proofs.Ytbmfadignoeigaa

/-- Is what is left of a list of classes right, n of them having come, g of them signs? -/
def nameC : List Int → Nat → Nat → Bool
  | [], n, _ => decide (0 < n)
  | c :: l, n, g =>
    if n = 16 then false
    else if c = 1 then (if 0 < g then false else nameC l (n + 1) g)
    else if c = 2 then (if n = 0 ∨ 0 < g then false else nameC l (n + 1) g)
    else if c = 3 then (if n = 0 ∨ g = 3 then false else nameC l (n + 1) (g + 1))
    else false

theorem nameGo_eq (s : ByteArray) : ∀ (b pos n g : Nat), nameGo (runesAt s b pos) n g = nameC (clsFrom s b pos) n g
  | 0, pos, n, g => rfl
  | b + 1, pos, n, g => by
    by_cases hp : pos < s.size
    · rw [runesAt_next s b pos hp, clsFrom_next s b pos hp]
      simp only [nameGo, nameC]
      have ih := fun n g => nameGo_eq s b (pos + wideAt s pos) n g
      have he : cls (runeAt s pos) = clsAt s pos ∨ (cls (runeAt s pos) = 0 ∧ clsAt s pos = 9) := by
        unfold clsAt
        rcases refRune_cases s pos hp with ⟨he, hr, _⟩ | ⟨he, hr0, _⟩
        · right; rw [he, hr]; exact ⟨cls_err, rfl⟩
        · left; rw [he, if_neg (by simp; omega)]
      rcases he with he | ⟨he, he'⟩
      · rw [he, ih, ih]
      · rw [he, he']; simp
    · rw [runesAt_end s _ pos hp, clsFrom_end s _ pos hp]; rfl

/-- The signs at the end left off. -/
def strip (l : List Int) : Nat → Nat
  | 0 => 0
  | n + 1 => if l.getD n 0 = 3 then strip l n else n + 1

/-- The first n are letters and digits. -/
def okTo (l : List Int) : Nat → Bool
  | 0 => true
  | n + 1 => okTo l n && (decide (l.getD n 0 = 1) || decide (l.getD n 0 = 2))

theorem okTo_iff (l : List Int) : ∀ n, okTo l n = true ↔ ∀ j, j < n → (l.getD j 0 = 1 ∨ l.getD j 0 = 2)
  | 0 => by simp [okTo]
  | n + 1 => by
    simp only [okTo, Bool.and_eq_true, Bool.or_eq_true, decide_eq_true_eq, okTo_iff l n]
    constructor
    · rintro ⟨h1, h2⟩ j hj
      by_cases h : j = n
      · subst h; exact h2
      · exact h1 j (by omega)
    · intro h; exact ⟨fun j hj => h j (by omega), h n (by omega)⟩

theorem strip_le (l : List Int) : ∀ n, strip l n ≤ n
  | 0 => Nat.le_refl _
  | n + 1 => by unfold strip; split; · have := strip_le l n; omega
                · omega
theorem strip_sign (l : List Int) : ∀ n j, strip l n ≤ j → j < n → l.getD j 0 = 3
  | 0, j, _, h => by omega
  | n + 1, j, h1, h2 => by
    unfold strip at h1
    split at h1
    · by_cases h : j = n
      · subst h; assumption
      · exact strip_sign l n j h1 (by omega)
    · omega
theorem strip_eq (l : List Int) (m : Nat) (hm : ∀ j, j < m → (l.getD j 0 = 1 ∨ l.getD j 0 = 2)) : ∀ n, m ≤ n → (∀ j, m ≤ j → j < n → l.getD j 0 = 3) → strip l n = m
  | 0, h, _ => by simp [strip]; omega
  | n + 1, h, h3 => by
    unfold strip
    by_cases e : m = n + 1
    · have := hm n (by omega)
      rw [if_neg (by omega)]; omega
    · rw [if_pos (h3 n (by omega) (by omega))]
      exact strip_eq l m hm n (by omega) (fun j h1 h2 => h3 j h1 (by omega))

/-- A name, by its classes. -/
def nameL (l : List Int) : Bool := decide (1 ≤ l.length ∧ l.length ≤ 16 ∧ l.getD 0 0 = 1 ∧ l.length - strip l l.length ≤ 3) && okTo l (strip l l.length)

def Shape (l : List Int) : Prop := ∃ m, m ≤ l.length ∧ l.length - m ≤ 3 ∧ (∀ j, j < m → (l.getD j 0 = 1 ∨ l.getD j 0 = 2)) ∧ (∀ j, m ≤ j → j < l.length → l.getD j 0 = 3)

theorem nameL_iff (l : List Int) : nameL l = true ↔ 1 ≤ l.length ∧ l.length ≤ 16 ∧ l.getD 0 0 = 1 ∧ Shape l := by
  unfold nameL
  simp only [Bool.and_eq_true, decide_eq_true_eq, okTo_iff]
  constructor
  · rintro ⟨⟨h1, h2, h3, h4⟩, h5⟩
    exact ⟨h1, h2, h3, strip l l.length, strip_le _ _, h4, h5, fun j a b => strip_sign l l.length j a b⟩
  · rintro ⟨h1, h2, h3, m, hm, h4, h5, h6⟩
    have e := strip_eq l m h5 l.length hm h6
    rw [e]
    exact ⟨⟨h1, h2, h3, h4⟩, h5⟩

theorem nameC_signs : ∀ (l : List Int) (n g : Nat), 1 ≤ n → n ≤ 16 → 1 ≤ g → g ≤ 3 → (nameC l n g = true ↔ n + l.length ≤ 16 ∧ g + l.length ≤ 3 ∧ ∀ j, j < l.length → l.getD j 0 = 3)
  | [], n, g, h1, h2, h3, h4 => by simp [nameC]; omega
  | c :: l, n, g, h1, h2, h3, h4 => by
    simp only [nameC, List.length_cons]
    by_cases e : n = 16
    · simp [e]; intros; omega
    rw [if_neg e]
    by_cases c1 : c = 1
    · rw [if_pos c1, if_pos (by omega)]
      simp only [Bool.false_eq_true, false_iff, not_and]
      intro _ _ h; have := h 0 (by omega); simp at this; omega
    rw [if_neg c1]
    by_cases c2 : c = 2
    · rw [if_pos c2, if_pos (by omega)]
      simp only [Bool.false_eq_true, false_iff, not_and]
      intro _ _ h; have := h 0 (by omega); simp at this; omega
    rw [if_neg c2]
    by_cases c3 : c = 3
    · rw [if_pos c3]
      by_cases hg : g = 3
      · rw [if_pos (by omega)]; simp; omega
      · rw [if_neg (by omega), nameC_signs l (n + 1) (g + 1) (by omega) (by omega) (by omega) (by omega)]
        constructor
        · rintro ⟨a, b, h⟩
          refine ⟨by omega, by omega, fun j hj => ?_⟩
          match j with
          | 0 => simpa using c3
          | j + 1 => have := h j (by omega); simpa using this
        · rintro ⟨a, b, h⟩
          refine ⟨by omega, by omega, fun j hj => ?_⟩
          have := h (j + 1) (by omega); simpa using this
    rw [if_neg c3]
    simp only [Bool.false_eq_true, false_iff, not_and]
    intro _ _ h; have := h 0 (by omega); simp at this; omega

theorem shape_cons (c : Int) (l : List Int) (hc : c = 1 ∨ c = 2) : Shape (c :: l) ↔ Shape l := by
  unfold Shape
  constructor
  · rintro ⟨m, hm, h4, h5, h6⟩
    match m with
    | 0 =>
      by_cases hl : 0 < (c :: l).length
      · have := h6 0 (by omega) hl; simp at this; omega
      · simp at hl
    | m + 1 =>
      simp only [List.length_cons] at hm h4 h6
      refine ⟨m, by omega, by omega, fun j hj => ?_, fun j a b => ?_⟩
      · have := h5 (j + 1) (by omega); simpa using this
      · have := h6 (j + 1) (by omega) (by omega); simpa using this
  · rintro ⟨m, hm, h4, h5, h6⟩
    refine ⟨m + 1, by simp; omega, by simp; omega, fun j hj => ?_, fun j a b => ?_⟩
    · match j with
      | 0 => simpa using hc
      | j + 1 => have := h5 j (by omega); simpa using this
    · match j with
      | 0 => omega
      | j + 1 => have := h6 j (by omega) (by simp at b; omega); simpa using this

theorem nameC_plain : ∀ (l : List Int) (n : Nat), 1 ≤ n → n ≤ 16 → (nameC l n 0 = true ↔ n + l.length ≤ 16 ∧ Shape l)
  | [], n, h1, h2 => by
    simp only [nameC, decide_eq_true_eq, List.length_nil]
    exact ⟨fun _ => ⟨by omega, 0, by simp, by simp, fun j h => by omega, fun j _ h => by simp at h⟩, fun _ => by omega⟩
  | c :: l, n, h1, h2 => by
    simp only [nameC, List.length_cons]
    by_cases e : n = 16
    · simp [e]; intros; omega
    rw [if_neg e]
    by_cases c1 : c = 1
    · rw [if_pos c1, if_neg (by omega), nameC_plain l (n + 1) (by omega) (by omega), shape_cons c l (.inl c1)]
      constructor <;> rintro ⟨a, b⟩ <;> exact ⟨by omega, b⟩
    rw [if_neg c1]
    by_cases c2 : c = 2
    · rw [if_pos c2, if_neg (by omega), nameC_plain l (n + 1) (by omega) (by omega), shape_cons c l (.inr c2)]
      constructor <;> rintro ⟨a, b⟩ <;> exact ⟨by omega, b⟩
    rw [if_neg c2]
    by_cases c3 : c = 3
    · rw [if_pos c3, if_neg (by omega), nameC_signs l (n + 1) (0 + 1) (by omega) (by omega) (by omega) (by omega)]
      constructor
      · rintro ⟨a, b, h⟩
        refine ⟨by omega, 0, by simp, by simp; omega, fun j hj => by omega, fun j _ hj => ?_⟩
        match j with
        | 0 => simpa using c3
        | j + 1 => have := h j (by simp at hj; omega); simpa using this
      · rintro ⟨a, m, hm, h4, h5, h6⟩
        have hm0 : m = 0 := by
          match m with
          | 0 => rfl
          | m + 1 => have := h5 0 (by omega); simp at this; omega
        subst hm0
        simp only [List.length_cons] at h4 h6
        refine ⟨by omega, by omega, fun j hj => ?_⟩
        have := h6 (j + 1) (by omega) (by omega); simpa using this
    rw [if_neg c3]
    simp only [Bool.false_eq_true, false_iff, not_and]
    rintro _ ⟨m, hm, h4, h5, h6⟩
    match m with
    | 0 => have := h6 0 (by omega) (by simp); simp at this; omega
    | m + 1 => have := h5 0 (by omega); simp at this; omega

theorem nameC_nameL (l : List Int) : nameC l 0 0 = nameL l := by
  rw [Bool.eq_iff_iff, nameL_iff]
  match l with
  | [] => simp [nameC]
  | c :: l =>
    simp only [nameC, List.length_cons]
    rw [if_neg (by omega)]
    by_cases c1 : c = 1
    · rw [if_pos c1, if_neg (by omega), nameC_plain l (0 + 1) (by omega) (by omega), shape_cons c l (.inl c1)]
      constructor
      · rintro ⟨a, b⟩; exact ⟨by omega, by omega, by simpa using c1, b⟩
      · rintro ⟨_, a, _, b⟩; exact ⟨by omega, b⟩
    · have hf : ¬ (1 ≤ l.length + 1 ∧ l.length + 1 ≤ 16 ∧ (c :: l).getD 0 0 = 1 ∧ Shape (c :: l)) := by
        rintro ⟨_, _, h, _⟩; simp at h; exact c1 h
      rw [if_neg c1]
      simp only [hf, iff_false, Bool.not_eq_true]
      split
      · simp
      · split <;> simp

theorem nameB_eq (s : ByteArray) : nameB s = nameL (clsOf s) := by
  unfold nameB runes clsOf
  rw [nameGo_eq, nameC_nameL]

end Go.Proofs.Ytbmfadignoeigaa
