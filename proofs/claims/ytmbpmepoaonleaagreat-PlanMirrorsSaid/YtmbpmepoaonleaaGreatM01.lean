/-
  Sl, RgM, RgN, Iv, in one text.
-/
import Derived.Below
import Derived.Laws.OwnMore
import Derived.Deep.Draws
import Derived.Lib.Hide
import Derived.Lib.Slices
import Derived.Lib.SlicesCompact
import Derived.Test.YtmbpmepoaonleaaGreatRows
import Derived.WalkKit
import Derived.ProofKit
import Derived.WalkSmall
/-! Slices that read as lists: what a call that makes a slice leaves, and what its caller reads. -/
namespace Go.Proofs.YtmbpmepoaonleaaGreat
open Go.RowKit

/-- The slice value v has n elements of so many cells each; they read xs, and lie below block B. -/
def Sl (w : World) (B size : Nat) (v : Value) (n : Nat) (xs : List Value) : Prop :=
  xs.length = n * size ∧ ∃ A cap, v = .slice A n cap ∧ n ≤ cap ∧
    (0 < n → ∃ g, A = some ⟨g, 0, none⟩ ∧ g < B ∧ ∀ j u, xs[j]? = some u → w.cell? ⟨g, j, none⟩ = some u)

theorem Sl.of_own {w : World} {base : Nat} {e : TypeId} {size : Nat} {v : Value} {n : Nat} {xs : List Value} (h : w.ownsRow base e size v n xs) : Sl w w.heap.size size v n xs := by
  refine ⟨h.1, ?_⟩
  have hc := @World.ownsRow.cells w base e size v n xs h
  have hl := h.lt
  rcases h.2 with ⟨rfl, rfl⟩ | ⟨g, cap, cur, rfl, hb, hg, hnc, _⟩
  · exact ⟨none, 0, rfl, Nat.le_refl _, fun h => absurd h (by omega)⟩
  · refine ⟨some ⟨g, 0, none⟩, cap, rfl, hnc, fun _ => ⟨g, rfl, (hl g rfl).2, fun j u hu => ?_⟩⟩
    have := hc (g := g) rfl j u hu
    rw [Addr.add_lit, Nat.zero_add] at this
    exact this

theorem Sl.below {w w' : World} {B size : Nat} {v : Value} {n : Nat} {xs : List Value} (h : Sl w B size v n xs) (hb : Below B w w') : Sl w' B size v n xs := by
  obtain ⟨h1, A, cap, hv, hn, hc⟩ := h
  refine ⟨h1, A, cap, hv, hn, fun h0 => ?_⟩
  obtain ⟨g, hA, hg, hr⟩ := hc h0
  exact ⟨g, hA, hg, fun j u hu => (hb.cell (p := ⟨g, j, none⟩) hg).trans (hr j u hu)⟩

theorem Sl.more {w : World} {B B' size : Nat} {v : Value} {n : Nat} {xs : List Value} (h : Sl w B size v n xs) (hB : B ≤ B') : Sl w B' size v n xs := by
  obtain ⟨h1, A, cap, hv, hn, hc⟩ := h
  refine ⟨h1, A, cap, hv, hn, fun h0 => ?_⟩
  obtain ⟨g, hA, hg, hr⟩ := hc h0
  exact ⟨g, hA, by omega, hr⟩

/-- What a call owns stays owned where nothing that was there has changed. -/
theorem own_below {w w' : World} {base : Nat} {e : TypeId} {size : Nat} {v : Value} {n : Nat} {xs : List Value} (h : w.ownsRow base e size v n xs) (hb : Below w.heap.size w w') : w'.ownsRow base e size v n xs := by
  have hl := h.lt
  refine ⟨h.1, ?_⟩
  rcases h.2 with hn | ⟨g, cap, cur, rfl, hbg, hg, rest⟩
  · exact .inl hn
  · exact .inr ⟨g, cap, cur, rfl, hbg, by rw [hb.block g (hl g rfl).2]; exact hg, rest⟩

/-! ### Cells of new blocks, and of those that were there -/

theorem new_cell (W : World) (v : Value) (t : TypeId) : (W.alloc (.cells #[v] t)).cell? ⟨W.heap.size, 0, none⟩ = some v := cell_of_row _ _ 0 #[v] t (0, 0) (heap_alloc_new W _)
theorem new_thaw (W : World) (cs : Array Value) (t : TypeId) (j : Nat) : (W.alloc (.cells cs t)).frozen? ⟨W.heap.size, j, none⟩ = false := by
  unfold World.frozen?
  rw [heap_alloc_new W (.cells cs t)]
  simp
theorem old_cell {W : World} {a : Addr} {v : Value} (o : Obj) (h : W.cell? a = some v) : (W.alloc o).cell? a = some v :=
  (World.cell?_of_block (Below.heap_alloc W o a.block (World.block_lt_of_cell? W a h))).trans h
/-- The number at a place of a list; the walk does not look behind this name. -/
def getI (l : List Int) (j : Nat) : Int := l.getD j 0

theorem ints_get (k : IntKind) (l : List Int) (j : Nat) (h : j < l.length) : (l.map (Value.int k))[j]? = some (.int k (getI l j)) := by
  unfold getI; simp [h]

end Go.Proofs.YtmbpmepoaonleaaGreat

/-! Lists that go round, as plain mathematics: places, lists begun elsewhere, stretches, rings that are one. -/
namespace Go.Proofs.YtmbpmepoaonleaaGreat

/-! ### Places -/

theorem getI_of (l : List Int) (j : Nat) (h : j < l.length) : getI l j = l[j] := by unfold getI; simp [h]
theorem getI_app_left (l m : List Int) (j : Nat) (h : j < l.length) : getI (l ++ m) j = getI l j := by
  unfold getI; simp [List.getD, List.getElem?_append_left h]
theorem getI_app_right (l m : List Int) (j : Nat) : getI (l ++ m) (l.length + j) = getI m j := by
  unfold getI; simp only [List.getD]; rw [List.getElem?_append_right (by omega)]; simp
theorem getI_take (l : List Int) (k j : Nat) (h : j < k) : getI (l.take k) j = getI l j := by
  unfold getI; simp [List.getD, h]
theorem getI_drop (l : List Int) (k j : Nat) : getI (l.drop k) j = getI l (k + j) := by
  unfold getI; simp [List.getD]
theorem take_succ_getI (l : List Int) (k : Nat) (h : k < l.length) : l.take (k + 1) = l.take k ++ [getI l k] := by
  rw [List.take_add_one, getI_of l k h]; simp [h]
theorem ext_getI (l m : List Int) (h : l.length = m.length) (hg : ∀ j, j < l.length → getI l j = getI m j) : l = m := by
  apply List.ext_getElem h
  intro i h1 h2
  have := hg i h1
  rwa [getI_of l i h1, getI_of m i h2] at this
theorem mem_getI (l : List Int) (x : Int) : x ∈ l ↔ ∃ j, j < l.length ∧ getI l j = x := by
  rw [List.mem_iff_getElem]
  constructor
  · rintro ⟨i, h, rfl⟩; exact ⟨i, h, getI_of l i h⟩
  · rintro ⟨j, h, rfl⟩; exact ⟨j, h, (getI_of l j h).symm⟩

theorem first_of (p : Nat → Prop) [DecidablePred p] : ∀ n, (∃ k, k < n ∧ p k ∧ ∀ j, j < k → ¬ p j) ∨ (∀ j, j < n → ¬ p j)
  | 0 => .inr fun j h => absurd h (Nat.not_lt_zero _)
  | n + 1 => by
    rcases first_of p n with ⟨k, h1, h2, h3⟩ | h
    · exact .inl ⟨k, by omega, h2, h3⟩
    · by_cases hn : p n
      · exact .inl ⟨n, by omega, hn, h⟩
      · refine .inr fun j hj => ?_
        by_cases e : j = n
        · rw [e]; exact hn
        · exact h j (by omega)

/-- The first place of a number: it is a place, or there is none. -/
theorem idx_cases (l : List Int) (x : Int) :
    (∃ k, k < l.length ∧ Lib.idxOf l x = (k : Int) ∧ getI l k = x ∧ ∀ j, j < k → getI l j ≠ x) ∨ (Lib.idxOf l x = -1 ∧ ∀ j, j < l.length → getI l j ≠ x) := by
  rcases first_of (fun k => getI l k = x) l.length with ⟨k, h1, h2, h3⟩ | h
  · left
    have := Lib.idxOf_hit l l.length k x h1 (Nat.le_refl _) h2 h3
    rw [List.take_length] at this
    exact ⟨k, h1, this, h2, h3⟩
  · right
    have := Lib.idxOf_miss l l.length x h
    rw [List.take_length] at this
    exact ⟨this, h⟩

theorem idx_at (l : List Int) (k : Nat) (x : Int) (hk : k < l.length) (h : getI l k = x) (hn : ∀ j, j < k → getI l j ≠ x) : Lib.idxOf l x = (k : Int) := by
  have := Lib.idxOf_hit l l.length k x hk (Nat.le_refl _) h hn
  rwa [List.take_length] at this
theorem idx_none (l : List Int) (x : Int) (hn : ∀ j, j < l.length → getI l j ≠ x) : Lib.idxOf l x = -1 := by
  have := Lib.idxOf_miss l l.length x hn
  rwa [List.take_length] at this
/-! ### Lists begun elsewhere -/

/-- A list begun at a place. -/
def rotL (l : List Int) (k : Nat) : List Int := l.drop k ++ l.take k

theorem rotL_length (l : List Int) (k : Nat) : (rotL l k).length = l.length := by
  unfold rotL; simp; omega
theorem rotL_zero (l : List Int) : rotL l 0 = l := by simp [rotL]
theorem rotL_nil (k : Nat) : rotL [] k = [] := by simp [rotL]
theorem rotL_get (l : List Int) (k j : Nat) (hk : k ≤ l.length) (hj : j < l.length) : getI (rotL l k) j = getI l ((k + j) % l.length) := by
  unfold rotL
  by_cases h : j < l.length - k
  · rw [getI_app_left _ _ _ (by simp; omega), getI_drop, Nat.mod_eq_of_lt (by omega)]
  · have hm : (k + j) % l.length = k + j - l.length := by
      rw [Nat.mod_eq_sub_mod (by omega), Nat.mod_eq_of_lt (by omega)]
    obtain ⟨i, rfl⟩ : ∃ i, j = (l.drop k).length + i := ⟨j - (l.drop k).length, by simp; omega⟩
    rw [getI_app_right]
    simp only [List.length_drop] at *
    rw [getI_take _ _ _ (by omega), hm]
    congr 1; omega

/-- The first numbers of a list begun at a place. -/
def rotTo (l : List Int) (at_ : Nat) (i : Nat) : List Int := (List.range i).map fun t => getI l ((at_ + t) % l.length)

theorem rotTo_succ (l : List Int) (a i : Nat) : rotTo l a (i + 1) = rotTo l a i ++ [getI l ((a + i) % l.length)] := by
  simp [rotTo, List.range_succ]
theorem rotTo_length (l : List Int) (a i : Nat) : (rotTo l a i).length = i := by simp [rotTo]
theorem rotTo_get (l : List Int) (a i j : Nat) (h : j < i) : getI (rotTo l a i) j = getI l ((a + j) % l.length) := by
  rw [getI_of _ _ (by rw [rotTo_length]; exact h)]; simp [rotTo]
theorem rotTo_all (l : List Int) (a : Nat) : rotTo l a l.length = rotL l (a % l.length) := by
  by_cases h0 : l.length = 0
  · have : l = [] := List.length_eq_zero_iff.1 h0
    subst this; simp [rotTo, rotL]
  apply ext_getI
  · rw [rotTo_length, rotL_length]
  · intro j hj
    rw [rotTo_length] at hj
    have hm := Nat.mod_lt a (show 0 < l.length by omega)
    rw [rotTo_get _ _ _ _ hj, rotL_get _ _ _ (by omega) hj]
    congr 1
    rw [Nat.mod_add_mod]

theorem rotL_rotL (l : List Int) (a b : Nat) (ha : a ≤ l.length) (hb : b ≤ l.length) : rotL (rotL l a) b = rotL l ((a + b) % l.length) := by
  by_cases h0 : l.length = 0
  · have : l = [] := List.length_eq_zero_iff.1 h0
    subst this; simp [rotL]
  apply ext_getI
  · simp only [rotL_length]
  · intro j hj
    simp only [rotL_length] at hj
    have hm := Nat.mod_lt (a + b) (show 0 < l.length by omega)
    have hm2 := Nat.mod_lt (b + j) (show 0 < l.length by omega)
    rw [rotL_get _ _ _ (by rw [rotL_length]; exact hb) (by rw [rotL_length]; exact hj), rotL_length, rotL_get _ _ _ ha hm2, rotL_get _ _ _ (by omega) hj]
    congr 1
    rw [Nat.add_mod_mod, Nat.mod_add_mod, Nat.add_assoc]

/-! ### Rings that are one -/

/-- Two lists are one ring, begun at places of their own. -/
def Ring1 (a b : List Int) : Prop := a.length = b.length ∧ ∃ k, k ≤ b.length ∧ a = rotL b k

theorem Ring1.refl (a : List Int) : Ring1 a a := ⟨rfl, 0, Nat.zero_le _, (rotL_zero a).symm⟩
theorem Ring1.of_rot (b : List Int) (k : Nat) (h : k ≤ b.length) : Ring1 (rotL b k) b := ⟨rotL_length _ _, k, h, rfl⟩
theorem Ring1.symm {a b : List Int} (h : Ring1 a b) : Ring1 b a := by
  obtain ⟨hl, k, hk, rfl⟩ := h
  by_cases h0 : b.length = 0
  · have : b = [] := List.length_eq_zero_iff.1 h0
    subst this; rw [rotL_nil]; exact Ring1.refl _
  refine ⟨hl.symm, b.length - k, by rw [hl]; omega, ?_⟩
  rw [rotL_rotL _ _ _ hk (by omega), show k + (b.length - k) = b.length by omega, Nat.mod_self, rotL_zero]
theorem Ring1.trans {a b c : List Int} (h1 : Ring1 a b) (h2 : Ring1 b c) : Ring1 a c := by
  obtain ⟨e1, k, hk, rfl⟩ := h1
  obtain ⟨e2, m, hm, rfl⟩ := h2
  rw [rotL_length] at hk
  by_cases h0 : c.length = 0
  · have : c = [] := List.length_eq_zero_iff.1 h0
    subst this; simp only [rotL_nil]; exact Ring1.refl _
  rw [rotL_rotL _ _ _ hm hk]
  exact Ring1.of_rot _ _ (Nat.le_of_lt (Nat.mod_lt _ (by omega)))
theorem Ring1.reverse {a b : List Int} (h : Ring1 a b) : Ring1 a.reverse b.reverse := by
  obtain ⟨e, k, hk, rfl⟩ := h
  refine ⟨by simp [rotL_length], b.length - k, by simp, ?_⟩
  unfold rotL
  rw [List.reverse_append, List.reverse_take, List.reverse_drop]

/-! Which of two beginnings is the lesser one, at the first place at which they differ. -/

def Less (n : Nat) (f g : Nat → Int) : Prop := ∃ d, d < n ∧ (∀ t, t < d → f t = g t) ∧ f d < g d

theorem Less.irrefl {n : Nat} {f : Nat → Int} : ¬ Less n f f := fun ⟨_, _, _, h⟩ => Int.lt_irrefl _ h
theorem Less.trans {n : Nat} {f g h : Nat → Int} : Less n f g → Less n g h → Less n f h := by
  rintro ⟨d, h1, h2, h3⟩ ⟨e, h4, h5, h6⟩
  by_cases hde : d < e
  · exact ⟨d, h1, fun t ht => (h2 t ht).trans (h5 t (by omega)), by rw [← h5 d hde]; exact h3⟩
  · by_cases he : e = d
    · subst he; exact ⟨e, h1, fun t ht => (h2 t ht).trans (h5 t ht), Int.lt_trans h3 h6⟩
    · exact ⟨e, h4, fun t ht => (h2 t (by omega)).trans (h5 t ht), by rw [h2 e (by omega)]; exact h6⟩

/-- A list from a place on, going round. -/
def from_ (a : List Int) (i t : Nat) : Int := getI a ((i + t) % a.length)

theorem from_add (a : List Int) (i s t : Nat) : from_ a (i + s) t = from_ a i (s + t) := by
  unfold from_; rw [Nat.add_assoc]

/-- Where both lists, begun at i and j, are one for k places, and the first's number is the greater one then: none of the first's next beginnings is a least one. -/
theorem greater_from (a b : List Int) (hl : a.length = b.length) (i j k : Nat) (hk : k < a.length) (hp : ∀ t, t < k → from_ a i t = from_ b j t) (hg : from_ b j k < from_ a i k) (t : Nat) (ht : t ≤ k) :
    Less a.length (from_ b (j + t)) (from_ a (i + t)) := by
  refine ⟨k - t, by omega, fun s hs => ?_, ?_⟩
  · rw [from_add, from_add]; exact (hp _ (by omega)).symm
  · rw [from_add, from_add, show t + (k - t) = k by omega]; exact hg

end Go.Proofs.YtmbpmepoaonleaaGreat

/-! More plain mathematics of lists that go round: no number twice, the least number's place, stretches. -/
namespace Go.Proofs.YtmbpmepoaonleaaGreat

/-! ### No number twice -/

theorem nodup_getI (l : List Int) : l.Nodup ↔ ∀ i j, i < j → j < l.length → getI l i ≠ getI l j := by
  unfold List.Nodup
  rw [List.pairwise_iff_getElem]
  constructor
  · intro h i j hij hj
    rw [getI_of l i (by omega), getI_of l j hj]
    exact h i j (by omega) hj hij
  · intro h i j hi hj hij
    have := h i j hij hj
    rwa [getI_of l i hi, getI_of l j hj] at this

/-- Whether no number stands twice. -/
def nodupB (l : List Int) : Bool := decide l.Nodup

theorem nodupB_true {l : List Int} (h : l.Nodup) : nodupB l = true := by unfold nodupB; simpa using h
theorem nodupB_false {l : List Int} (h : ¬ l.Nodup) : nodupB l = false := by unfold nodupB; simpa using h

/-- Up to a place no number has stood aheadR. -/
def newTo (l : List Int) (k : Nat) : Prop := ∀ j, j < k → ∀ i, i < j → getI l i ≠ getI l j
theorem newTo_all {l : List Int} (h : newTo l l.length) : l.Nodup := (nodup_getI l).2 fun i j hij hj => h j hj i hij
theorem newTo_succ {l : List Int} {k : Nat} (h : newTo l k) (hn : ∀ i, i < k → getI l i ≠ getI l k) : newTo l (k + 1) := fun j hj i hi => by
  by_cases e : j = k
  · rw [e] at hi ⊢; exact hn i hi
  · exact h j (by omega) i hi

theorem idx_self (l : List Int) (k : Nat) (hk : k < l.length) :
    (Lib.idxOf l (getI l k) = (k : Int) ∧ ∀ i, i < k → getI l i ≠ getI l k) ∨ (∃ m : Nat, Lib.idxOf l (getI l k) = (m : Int) ∧ m < k ∧ getI l m = getI l k) := by
  rcases idx_cases l (getI l k) with ⟨m, h1, h2, h3, h4⟩ | ⟨_, h⟩
  · by_cases hm : m < k
    · exact .inr ⟨m, h2, hm, h3⟩
    · left
      by_cases e : m = k
      · subst e; exact ⟨h2, h4⟩
      · exact absurd rfl (h4 k (by omega))
  · exact absurd rfl (h k hk)

theorem idx_nodup {l : List Int} (h : l.Nodup) (k : Nat) (hk : k < l.length) : Lib.idxOf l (getI l k) = (k : Int) := by
  rcases idx_self l k hk with ⟨e, _⟩ | ⟨m, _, h2, h3⟩
  · exact e
  · exact absurd h3 ((nodup_getI l).1 h m k h2 hk)

/-! ### The least number's place -/

/-- The place of the least among the first numbers, the first of these places. -/
def minAt (l : List Int) : Nat → Nat
  | 0 => 0
  | i + 1 => if getI l i < getI l (minAt l i) then i else minAt l i

theorem minAt_le (l : List Int) : ∀ i, minAt l i ≤ i
  | 0 => Nat.le_refl _
  | i + 1 => by unfold minAt; split; · omega
                · have := minAt_le l i; omega
theorem minAt_lt (l : List Int) (i : Nat) (h : 0 < i) : minAt l i < i := by
  match i, h with
  | i + 1, _ => unfold minAt; split; · omega
                · have := minAt_le l i; omega
theorem minAt_least (l : List Int) : ∀ i j, j < i → getI l (minAt l i) ≤ getI l j ∧ (j < minAt l i → getI l (minAt l i) < getI l j)
  | 0, j, h => absurd h (Nat.not_lt_zero _)
  | i + 1, j, h => by
    unfold minAt
    split
    · rename_i hlt
      by_cases e : j = i
      · subst e; exact ⟨Int.le_refl _, fun h => absurd h (Nat.lt_irrefl _)⟩
      · have := minAt_least l i j (by omega); constructor
        · omega
        · intro _; omega
    · rename_i hlt
      by_cases e : j = i
      · subst e
        exact ⟨by omega, fun h => by have := minAt_le l j; omega⟩
      · exact minAt_least l i j (by omega)

theorem minOf_take (l : List Int) : ∀ k, k < l.length → Lib.minOf (l.take (k + 1)) = getI l (minAt l (k + 1))
  | 0, _ => by
    rw [Lib.minOf_one]
    unfold minAt minAt; rw [if_neg (Int.lt_irrefl _)]; rfl
  | k + 1, h => by
    rw [Lib.minOf_step l (k + 1) (by omega) h, minOf_take l k (by omega)]
    show min (getI l (minAt l (k + 1))) (getI l (k + 1)) = getI l (if getI l (k + 1) < getI l (minAt l (k + 1)) then k + 1 else minAt l (k + 1))
    split <;> omega

/-- The first place of the least number. -/
theorem idx_min (l : List Int) (h : 0 < l.length) : Lib.idxOf l (Lib.minOf l) = (minAt l l.length : Nat) := by
  have e : Lib.minOf l = getI l (minAt l l.length) := by
    have := minOf_take l (l.length - 1) (by omega)
    rwa [show l.length - 1 + 1 = l.length by omega, List.take_length] at this
  rw [e]
  refine idx_at l _ _ (minAt_lt l _ h) rfl fun j hj he => ?_
  have := (minAt_least l l.length j (by have := minAt_lt l _ h; omega)).2 hj
  omega

/-! ### Stretches -/

/-- The number aheadR, going round. -/
def aheadR (l : List Int) : Nat → Int
  | 0 => getI l (l.length - 1)
  | i + 1 => getI l i

end Go.Proofs.YtmbpmepoaonleaaGreat

/-! Slices of numbers as lists: what a slice value reads as in a world. -/
namespace Go.Proofs.YtmbpmepoaonleaaGreat
open Go.RowKit

/-- The slice value v reads as the numbers l. -/
def Ints (w : World) (v : Value) (l : List Int) : Prop :=
  ∃ A cap, v = .slice A l.length cap ∧ l.length ≤ cap ∧ cap ≤ maxLen ∧
    (0 < l.length → ∃ b off, A = some ⟨b, off, none⟩ ∧ b < w.heap.size ∧ ∀ j, j < l.length → w.cell? ⟨b, off + j, none⟩ = some (.int .i64 (getI l j)))

theorem Ints.below {w w' : World} {v : Value} {l : List Int} (h : Ints w v l) (hb : Below w.heap.size w w') : Ints w' v l := by
  obtain ⟨A, cap, rfl, hc, hm, hr⟩ := h
  refine ⟨A, cap, rfl, hc, hm, fun h0 => ?_⟩
  obtain ⟨b, off, hA, hlt, hg⟩ := hr h0
  exact ⟨b, off, hA, Nat.lt_of_lt_of_le hlt hb.size, fun j hj => (hb.cell (p := ⟨b, off + j, none⟩) hlt).trans (hg j hj)⟩

theorem Ints.of_own {w : World} {base : Nat} {e : TypeId} {v : Value} {l : List Int} (h : w.ownsRow base e 1 v l.length (l.map (Value.int .i64))) : Ints w v l := by
  have hc := @World.ownsRow.cells w base e 1 v l.length (l.map (Value.int .i64)) h
  have hl := h.lt
  rcases h.2 with ⟨rfl, h0⟩ | ⟨g, cap, cur, rfl, hb, hg, hnc, hcm, _⟩
  · refine ⟨none, 0, by rw [h0], by omega, by unfold maxLen; omega, fun h => absurd h (by omega)⟩
  · refine ⟨some ⟨g, 0, none⟩, cap, rfl, hnc, hcm, fun _ => ⟨g, 0, rfl, (hl g rfl).2, fun j hj => ?_⟩⟩
    have := hc (g := g) rfl j _ (ints_get .i64 l j hj)
    rw [Addr.add_lit] at this
    exact this

theorem Ints.nil {w : World} : Ints w (.slice none 0 0) [] := ⟨none, 0, rfl, Nat.le_refl _, by unfold maxLen; omega, fun h => absurd h (by simp)⟩

theorem trans2 {w w1 w2 : World} (h1 : Below w.heap.size w w1) (h2 : Below w1.heap.size w1 w2) : Below w.heap.size w w2 := h1.trans (h2.mono h1.size)
theorem below_drewN' (w : World) (n : Nat) : Below w.heap.size w (w.drewN n) := below_drewN (Below.refl _ w) n
theorem Ints.drewN {w : World} {v : Value} {l : List Int} (h : Ints w v l) (n : Nat) : Ints (w.drewN n) v l := h.below (below_drewN' w n)

theorem ret_int {k : IntKind} {a b : Int} (h : a = b) : Ending.returned (.int k a) = .returned (.int k b) := by rw [h]
theorem ret_bool {a b : Bool} (h : a = b) : Ending.returned (.bool a) = .returned (.bool b) := by rw [h]

theorem Tryz.infoInt : (Tryz.prog.info? 3).map (fun i => (i.zero, i.size, i.bytes)) = some (some (.int .i64 0), 1, 8) := by kernel_rfl

end Go.Proofs.YtmbpmepoaonleaaGreat
