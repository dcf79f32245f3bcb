/-
  Rising lists, put together: plain mathematics.
-/
import Derived.Test.YtohaopfpjkhheaaGrB
namespace Go.Proofs.Ytohaopfpjkhheaa

def Up (l : List Int) : Prop := l.Pairwise (· < ·)

theorem up_ext : ∀ (l m : List Int), Up l → Up m → (∀ x, x ∈ l ↔ x ∈ m) → l = m
  | [], [], _, _, _ => rfl
  | [], y :: m, _, _, h => absurd ((h y).2 (by simp)) (by simp)
  | x :: l, [], _, _, h => absurd ((h x).1 (by simp)) (by simp)
  | x :: l, y :: m, hl, hm, h => by
    have hl' := List.pairwise_cons.1 hl
    have hm' := List.pairwise_cons.1 hm
    have e : x = y := by
      have h1 := (h x).1 (by simp)
      have h2 := (h y).2 (by simp)
      rcases List.mem_cons.1 h1 with h1 | h1
      · exact h1
      · rcases List.mem_cons.1 h2 with h2 | h2
        · exact h2.symm
        · have := hm'.1 x h1
          have := hl'.1 y h2
          omega
    subst e
    congr 1
    refine up_ext l m hl'.2 hm'.2 fun z => ?_
    have hz := h z
    simp only [List.mem_cons] at hz
    refine ⟨fun h1 => ?_, fun h1 => ?_⟩
    · rcases hz.1 (.inr h1) with h2 | h2
      · have := hl'.1 z h1; omega
      · exact h2
    · rcases hz.2 (.inr h1) with h2 | h2
      · have := hm'.1 z h1; omega
      · exact h2

theorem Rises.up {l : List Int} {n : Int} (h : Rises l n) : Up l := by
  unfold Up
  rw [List.pairwise_iff_getElem]
  have key : ∀ d i, i + d + 1 < l.length → getI l i < getI l (i + d + 1) := by
    intro d
    induction d with
    | zero => intro i hi; exact (h (i + 1) hi).2.2 (by omega)
    | succ d ih =>
      intro i hi
      have h1 := ih i (by omega)
      have h2 := (h (i + d + 1 + 1) (by omega)).2.2 (by omega)
      have e : i + d + 1 + 1 - 1 = i + d + 1 := by omega
      rw [e] at h2
      have e2 : i + (d + 1) + 1 = i + d + 1 + 1 := by omega
      rw [e2]; omega
  intro i j hi hj hij
  have := key (j - i - 1) i (by omega)
  have e : i + (j - i - 1) + 1 = j := by omega
  rw [e, getI_of l i hi, getI_of l j hj] at this
  exact this
theorem Rises.mem {l : List Int} {n : Int} (h : Rises l n) {x : Int} (hx : x ∈ l) : 0 ≤ x ∧ x < n := by
  obtain ⟨j, hj, rfl⟩ := (mem_getI l x).1 hx
  exact ⟨(h j hj).1, (h j hj).2.1⟩
theorem Up.rises {l : List Int} {n : Int} (h : Up l) (hm : ∀ x ∈ l, 0 ≤ x ∧ x < n) : Rises l n := by
  intro j hj
  have h1 := hm _ ((mem_getI l _).2 ⟨j, hj, rfl⟩)
  refine ⟨h1.1, h1.2, fun h0 => ?_⟩
  have := List.pairwise_iff_getElem.1 h (j - 1) j (by omega) hj (by omega)
  rw [getI_of l (j - 1) (by omega), getI_of l j hj]
  exact this

/-- Two lists, put together: what stands in so many of them, or more. -/
def mrg (least : Int) : List Int → List Int → List Int
  | [], [] => []
  | [], y :: m => (if least ≤ 1 then [y] else []) ++ mrg least [] m
  | x :: l, [] => (if least ≤ 1 then [x] else []) ++ mrg least l []
  | x :: l, y :: m => if x < y then (if least ≤ 1 then [x] else []) ++ mrg least l (y :: m) else if y < x then (if least ≤ 1 then [y] else []) ++ mrg least (x :: l) m else (if least ≤ 2 then [x] else []) ++ mrg least l m
termination_by l m => l.length + m.length

theorem mrg_nil (k : Int) : mrg k [] [] = [] := by rw [mrg]
theorem mrg_right (k y : Int) (m : List Int) : mrg k [] (y :: m) = (if k ≤ 1 then [y] else []) ++ mrg k [] m := by rw [mrg]
theorem mrg_left (k x : Int) (l : List Int) : mrg k (x :: l) [] = (if k ≤ 1 then [x] else []) ++ mrg k l [] := by rw [mrg]
theorem mrg_lt (k : Int) {x y : Int} (l m : List Int) (h : x < y) : mrg k (x :: l) (y :: m) = (if k ≤ 1 then [x] else []) ++ mrg k l (y :: m) := by rw [mrg, if_pos h]
theorem mrg_gt (k : Int) {x y : Int} (l m : List Int) (h : y < x) : mrg k (x :: l) (y :: m) = (if k ≤ 1 then [y] else []) ++ mrg k (x :: l) m := by rw [mrg, if_neg (by omega), if_pos h]
theorem mrg_eq (k : Int) {x y : Int} (l m : List Int) (h : x = y) : mrg k (x :: l) (y :: m) = (if k ≤ 2 then [x] else []) ++ mrg k l m := by rw [mrg, if_neg (by omega), if_neg (by omega)]

/-- An induction that goes as mrg does. -/
theorem mrg_ind {C : List Int → List Int → Prop} (h0 : C [] []) (h1 : ∀ y m, C [] m → C [] (y :: m)) (h2 : ∀ x l, C l [] → C (x :: l) []) (h3 : ∀ x y l m, x < y → C l (y :: m) → C (x :: l) (y :: m)) (h4 : ∀ x y l m, y < x → C (x :: l) m → C (x :: l) (y :: m)) (h5 : ∀ x l m, C l m → C (x :: l) (x :: m)) :
    ∀ n (l m : List Int), l.length + m.length ≤ n → C l m := by
  intro n
  induction n with
  | zero =>
    intro l m h
    have e1 : l = [] := List.length_eq_zero_iff.1 (by omega)
    have e2 : m = [] := List.length_eq_zero_iff.1 (by omega)
    subst e1 e2; exact h0
  | succ n ih =>
    intro l m h
    match l, m with
    | [], [] => exact h0
    | [], y :: m => exact h1 y m (ih _ _ (by simp at h ⊢; omega))
    | x :: l, [] => exact h2 x l (ih _ _ (by simp at h ⊢; omega))
    | x :: l, y :: m =>
      by_cases e : x < y
      · exact h3 x y l m e (ih _ _ (by simp at h ⊢; omega))
      · by_cases e2 : y < x
        · exact h4 x y l m e2 (ih _ _ (by simp at h ⊢; omega))
        · have e3 : x = y := by omega
          subst e3
          exact h5 x l m (ih _ _ (by simp at h ⊢; omega))

theorem mem_or (l m : List Int) (z : Int) : z ∈ mrg 1 l m ↔ z ∈ l ∨ z ∈ m := by
  refine mrg_ind (C := fun l m => z ∈ mrg 1 l m ↔ z ∈ l ∨ z ∈ m) ?_ ?_ ?_ ?_ ?_ ?_ _ l m (Nat.le_refl _)
  · rw [mrg_nil]; simp
  · intro y m ih; rw [mrg_right, if_pos (by omega)]; simp only [List.mem_append, ih, List.mem_cons, List.not_mem_nil, false_or, or_false]
  · intro x l ih; rw [mrg_left, if_pos (by omega)]; simp only [List.mem_append, ih, List.mem_cons, List.not_mem_nil, or_false]
  · intro x y l m h ih
    rw [mrg_lt 1 l m h, if_pos (by omega)]
    simp only [List.mem_append, ih, List.mem_cons, List.not_mem_nil, or_false]
    constructor
    · rintro (h | h | h | h) <;> simp [h]
    · rintro ((h | h) | h | h) <;> simp [h]
  · intro x y l m h ih
    rw [mrg_gt 1 l m h, if_pos (by omega)]
    simp only [List.mem_append, ih, List.mem_cons, List.not_mem_nil, or_false]
    constructor
    · rintro (h | (h | h) | h) <;> simp [h]
    · rintro ((h | h) | h | h) <;> simp [h]
  · intro x l m ih
    rw [mrg_eq 1 l m rfl, if_pos (by omega)]
    simp only [List.mem_append, ih, List.mem_cons, List.not_mem_nil, or_false]
    constructor
    · rintro (h | h | h) <;> simp [h]
    · rintro ((h | h) | h | h) <;> simp [h]

theorem and_left (l : List Int) : mrg 2 l [] = [] := by
  induction l with
  | nil => exact mrg_nil 2
  | cons x l ih => rw [mrg_left, if_neg (by omega), ih]; rfl
theorem and_right (m : List Int) : mrg 2 [] m = [] := by
  induction m with
  | nil => exact mrg_nil 2
  | cons y m ih => rw [mrg_right, if_neg (by omega), ih]; rfl

/-- What both have: what the first has and the second has, too. -/
theorem and_filter (l m : List Int) (hl : Up l) (hm : Up m) : mrg 2 l m = l.filter (fun x => decide (x ∈ m)) := by
  refine mrg_ind (C := fun l m => Up l → Up m → mrg 2 l m = l.filter (fun x => decide (x ∈ m))) ?_ ?_ ?_ ?_ ?_ ?_ _ l m (Nat.le_refl _) hl hm
  · intro _ _; rw [mrg_nil]; rfl
  · intro y m _ _ _; rw [and_right]; rfl
  · intro x l _ _ _; rw [and_left]; simp
  · intro x y l m h ih hl hm
    have hm' := List.pairwise_cons.1 hm
    rw [mrg_lt 2 l m h, if_neg (by omega), List.nil_append, ih (List.pairwise_cons.1 hl).2 hm, List.filter_cons, if_neg]
    intro hd
    have hd := of_decide_eq_true hd
    rcases List.mem_cons.1 hd with h1 | h1
    · omega
    · have := hm'.1 x h1; omega
  · intro x y l m h ih hl hm
    have hl' := List.pairwise_cons.1 hl
    rw [mrg_gt 2 l m h, if_neg (by omega), List.nil_append, ih hl (List.pairwise_cons.1 hm).2]
    refine List.filter_congr fun z hz => decide_eq_decide.2 ?_
    rw [List.mem_cons]
    refine ⟨.inr, fun h1 => ?_⟩
    rcases h1 with h1 | h1
    · rcases List.mem_cons.1 hz with h2 | h2
      · omega
      · have := hl'.1 z h2; omega
    · exact h1
  · intro x l m ih hl hm
    have hl' := List.pairwise_cons.1 hl
    rw [mrg_eq 2 l m rfl, if_pos (by omega), ih hl'.2 (List.pairwise_cons.1 hm).2, List.filter_cons, if_pos (by simp)]
    rw [List.singleton_append]
    congr 1
    refine List.filter_congr fun z hz => decide_eq_decide.2 ?_
    rw [List.mem_cons]
    exact ⟨.inr, fun h1 => h1.resolve_left (by have := hl'.1 z hz; omega)⟩

theorem mem_and {l m : List Int} (hl : Up l) (hm : Up m) (z : Int) : z ∈ mrg 2 l m ↔ z ∈ l ∧ z ∈ m := by
  rw [and_filter l m hl hm, List.mem_filter, decide_eq_true_eq]
theorem up_and {l m : List Int} (hl : Up l) (hm : Up m) : Up (mrg 2 l m) := by
  rw [and_filter l m hl hm]
  exact List.Pairwise.filter _ hl

theorem up_or (l m : List Int) (hl : Up l) (hm : Up m) : Up (mrg 1 l m) := by
  refine mrg_ind (C := fun l m => Up l → Up m → Up (mrg 1 l m)) ?_ ?_ ?_ ?_ ?_ ?_ _ l m (Nat.le_refl _) hl hm
  · intro _ _; rw [mrg_nil]; exact List.Pairwise.nil
  · intro y m ih hl hm
    have hm' := List.pairwise_cons.1 hm
    rw [mrg_right, if_pos (by omega), List.singleton_append]
    exact List.pairwise_cons.2 ⟨fun z hz => by rcases (mem_or _ _ z).1 hz with h | h; simp at h; exact hm'.1 z h, ih hl hm'.2⟩
  · intro x l ih hl hm
    have hl' := List.pairwise_cons.1 hl
    rw [mrg_left, if_pos (by omega), List.singleton_append]
    exact List.pairwise_cons.2 ⟨fun z hz => by rcases (mem_or _ _ z).1 hz with h | h; exact hl'.1 z h; simp at h, ih hl'.2 hm⟩
  · intro x y l m h ih hl hm
    have hl' := List.pairwise_cons.1 hl
    have hm' := List.pairwise_cons.1 hm
    rw [mrg_lt 1 l m h, if_pos (by omega), List.singleton_append]
    refine List.pairwise_cons.2 ⟨fun z hz => ?_, ih hl'.2 hm⟩
    rcases (mem_or _ _ z).1 hz with h1 | h1
    · exact hl'.1 z h1
    · rcases List.mem_cons.1 h1 with h2 | h2
      · omega
      · have := hm'.1 z h2; omega
  · intro x y l m h ih hl hm
    have hl' := List.pairwise_cons.1 hl
    have hm' := List.pairwise_cons.1 hm
    rw [mrg_gt 1 l m h, if_pos (by omega), List.singleton_append]
    refine List.pairwise_cons.2 ⟨fun z hz => ?_, ih hl hm'.2⟩
    rcases (mem_or _ _ z).1 hz with h1 | h1
    · rcases List.mem_cons.1 h1 with h2 | h2
      · omega
      · have := hl'.1 z h2; omega
    · exact hm'.1 z h1
  · intro x l m ih hl hm
    have hl' := List.pairwise_cons.1 hl
    have hm' := List.pairwise_cons.1 hm
    rw [mrg_eq 1 l m rfl, if_pos (by omega), List.singleton_append]
    refine List.pairwise_cons.2 ⟨fun z hz => ?_, ih hl'.2 hm'.2⟩
    rcases (mem_or _ _ z).1 hz with h1 | h1
    · exact hl'.1 z h1
    · exact hm'.1 z h1

theorem mrg_len (k : Int) (l m : List Int) : (mrg k l m).length ≤ l.length + m.length := by
  have one : ∀ (c : Prop) [Decidable c] (x : Int), (if c then [x] else ([] : List Int)).length ≤ 1 := fun c _ x => by split <;> simp
  refine mrg_ind (C := fun l m => (mrg k l m).length ≤ l.length + m.length) ?_ ?_ ?_ ?_ ?_ ?_ _ l m (Nat.le_refl _)
  · rw [mrg_nil]; simp
  · intro y m ih; rw [mrg_right, List.length_append]; have := one (k ≤ 1) y; simp at ih ⊢; omega
  · intro x l ih; rw [mrg_left, List.length_append]; have := one (k ≤ 1) x; simp at ih ⊢; omega
  · intro x y l m h ih; rw [mrg_lt k l m h, List.length_append]; have := one (k ≤ 1) x; simp at ih ⊢; omega
  · intro x y l m h ih; rw [mrg_gt k l m h, List.length_append]; have := one (k ≤ 1) y; simp at ih ⊢; omega
  · intro x l m ih; rw [mrg_eq k l m rfl, List.length_append]; have := one (k ≤ 2) x; simp at ih ⊢; omega

end Go.Proofs.Ytohaopfpjkhheaa
