/-
  Sl, RgM, RgN, Iv, in one text.
-/
import Derived.Below
import Derived.Laws.OwnMore
import Derived.Deep.Draws
import Derived.Lib.Hide
import Derived.Lib.Slices
import Derived.Lib.SlicesCompact
import Derived.Test.YtmbpmepoaonleaaGreatRows
import Derived.WalkKit
import Derived.ProofKit
import Derived.WalkSmall
/-! Slices that read as lists: what a call that makes a slice leaves, and what its caller reads. -/
namespace Go.Proofs.YtmbpmepoaonleaaGreat
open Go.RowKit

/-- The slice value v has n elements of so many cells each; they read xs, and lie below block B. -/
def Sl (w : World) (B size : Nat) (v : Value) (n : Nat) (xs : List Value) : Prop :=
  xs.length = n * size ∧ ∃ A cap, v = .slice A n cap ∧ n ≤ cap ∧
    (0 < n → ∃ g, A = some ⟨g, 0, none⟩ ∧ g < B ∧ ∀ j u, xs[j]? = some u → w.cell? ⟨g, j, none⟩ = some u)

theorem Sl.of_own {w : World} {base : Nat} {e : TypeId} {size : Nat} {v : Value} {n : Nat} {xs : List Value} (h : w.ownsRow base e size v n xs) : Sl w w.heap.size size v n xs := by
  refine ⟨h.1, ?_⟩
  have hc := @World.ownsRow.cells w base e size v n xs h
  have hl := h.lt
  rcases h.2 with ⟨rfl, rfl⟩ | ⟨g, cap, cur, rfl, hb, hg, hnc, _⟩
  · exact ⟨none, 0, rfl, Nat.le_refl _, fun h => absurd h (by omega)⟩
  · refine ⟨some ⟨g, 0, none⟩, cap, rfl, hnc, fun _ => ⟨g, rfl, (hl g rfl).2, fun j u hu => ?_⟩⟩
    have := hc (g := g) rfl j u hu
    rw [Addr.add_lit, Nat.zero_add] at this
    exact this

theorem Sl.below {w w' : World} {B size : Nat} {v : Value} {n : Nat} {xs : List Value} (h : Sl w B size v n xs) (hb : Below B w w') : Sl w' B size v n xs := by
  obtain ⟨h1, A, cap, hv, hn, hc⟩ := h
  refine ⟨h1, A, cap, hv, hn, fun h0 => ?_⟩
  obtain ⟨g, hA, hg, hr⟩ := hc h0
  exact ⟨g, hA, hg, fun j u hu => (hb.cell (p := ⟨g, j, none⟩) hg).trans (hr j u hu)⟩

theorem Sl.more {w : World} {B B' size : Nat} {v : Value} {n : Nat} {xs : List Value} (h : Sl w B size v n xs) (hB : B ≤ B') : Sl w B' size v n xs := by
  obtain ⟨h1, A, cap, hv, hn, hc⟩ := h
  refine ⟨h1, A, cap, hv, hn, fun h0 => ?_⟩
  obtain ⟨g, hA, hg, hr⟩ := hc h0
  exact ⟨g, hA, by omega, hr⟩

/-- What a call owns stays owned where nothing that was there has changed. -/
theorem own_below {w w' : World} {base : Nat} {e : TypeId} {size : Nat} {v : Value} {n : Nat} {xs : List Value} (h : w.ownsRow base e size v n xs) (hb : Below w.heap.size w w') : w'.ownsRow base e size v n xs := by
  have hl := h.lt
  refine ⟨h.1, ?_⟩
  rcases h.2 with hn | ⟨g, cap, cur, rfl, hbg, hg, rest⟩
  · exact .inl hn
  · exact .inr ⟨g, cap, cur, rfl, hbg, by rw [hb.block g (hl g rfl).2]; exact hg, rest⟩

/-! ### Cells of new blocks, and of those that were there -/

theorem new_cell (W : World) (v : Value) (t : TypeId) : (W.alloc (.cells #[v] t)).cell? ⟨W.heap.size, 0, none⟩ = some v := cell_of_row _ _ 0 #[v] t (0, 0) (heap_alloc_new W _)
theorem new_thaw (W : World) (cs : Array Value) (t : TypeId) (j : Nat) : (W.alloc (.cells cs t)).frozen? ⟨W.heap.size, j, none⟩ = false := by
  unfold World.frozen?
  rw [heap_alloc_new W (.cells cs t)]
  simp
theorem old_cell {W : World} {a : Addr} {v : Value} (o : Obj) (h : W.cell? a = some v) : (W.alloc o).cell? a = some v :=
  (World.cell?_of_block (Below.heap_alloc W o a.block (World.block_lt_of_cell? W a h))).trans h
theorem old_thaw {W : World} {a : Addr} (o : Obj) (hl : a.block < W.heap.size) (h : W.frozen? a = false) : (W.alloc o).frozen? a = false :=
  (World.frozen?_of_block (Below.heap_alloc W o a.block hl)).trans h

/-- The number at a place of a list; the walk does not look behind this name. -/
def getI (l : List Int) (j : Nat) : Int := l.getD j 0

theorem ints_get (k : IntKind) (l : List Int) (j : Nat) (h : j < l.length) : (l.map (Value.int k))[j]? = some (.int k (getI l j)) := by
  unfold getI; simp [h]

end Go.Proofs.YtmbpmepoaonleaaGreat

/-! Lists that go round, as plain mathematics: places, lists begun elsewhere, stretches, rings that are one. -/
namespace Go.Proofs.YtmbpmepoaonleaaGreat

/-! ### Places -/

theorem getI_of (l : List Int) (j : Nat) (h : j < l.length) : getI l j = l[j] := by unfold getI; simp [h]
theorem getI_app_left (l m : List Int) (j : Nat) (h : j < l.length) : getI (l ++ m) j = getI l j := by
  unfold getI; simp [List.getD, List.getElem?_append_left h]
theorem getI_app_right (l m : List Int) (j : Nat) : getI (l ++ m) (l.length + j) = getI m j := by
  unfold getI; simp only [List.getD]; rw [List.getElem?_append_right (by omega)]; simp
theorem getI_take (l : List Int) (k j : Nat) (h : j < k) : getI (l.take k) j = getI l j := by
  unfold getI; simp [List.getD, h]
theorem getI_drop (l : List Int) (k j : Nat) : getI (l.drop k) j = getI l (k + j) := by
  unfold getI; simp [List.getD]
theorem take_succ_getI (l : List Int) (k : Nat) (h : k < l.length) : l.take (k + 1) = l.take k ++ [getI l k] := by
  rw [List.take_add_one, getI_of l k h]; simp [h]
theorem ext_getI (l m : List Int) (h : l.length = m.length) (hg : ∀ j, j < l.length → getI l j = getI m j) : l = m := by
  apply List.ext_getElem h
  intro i h1 h2
  have := hg i h1
  rwa [getI_of l i h1, getI_of m i h2] at this
theorem mem_getI (l : List Int) (x : Int) : x ∈ l ↔ ∃ j, j < l.length ∧ getI l j = x := by
  rw [List.mem_iff_getElem]
  constructor
  · rintro ⟨i, h, rfl⟩; exact ⟨i, h, getI_of l i h⟩
  · rintro ⟨j, h, rfl⟩; exact ⟨j, h, (getI_of l j h).symm⟩

theorem first_of (p : Nat → Prop) [DecidablePred p] : ∀ n, (∃ k, k < n ∧ p k ∧ ∀ j, j < k → ¬ p j) ∨ (∀ j, j < n → ¬ p j)
  | 0 => .inr fun j h => absurd h (Nat.not_lt_zero _)
  | n + 1 => by
    rcases first_of p n with ⟨k, h1, h2, h3⟩ | h
    · exact .inl ⟨k, by omega, h2, h3⟩
    · by_cases hn : p n
      · exact .inl ⟨n, by omega, hn, h⟩
      · refine .inr fun j hj => ?_
        by_cases e : j = n
        · rw [e]; exact hn
        · exact h j (by omega)

/-- The first place of a number: it is a place, or there is none. -/
theorem idx_cases (l : List Int) (x : Int) :
    (∃ k, k < l.length ∧ Lib.idxOf l x = (k : Int) ∧ getI l k = x ∧ ∀ j, j < k → getI l j ≠ x) ∨ (Lib.idxOf l x = -1 ∧ ∀ j, j < l.length → getI l j ≠ x) := by
  rcases first_of (fun k => getI l k = x) l.length with ⟨k, h1, h2, h3⟩ | h
  · left
    have := Lib.idxOf_hit l l.length k x h1 (Nat.le_refl _) h2 h3
    rw [List.take_length] at this
    exact ⟨k, h1, this, h2, h3⟩
  · right
    have := Lib.idxOf_miss l l.length x h
    rw [List.take_length] at this
    exact ⟨this, h⟩

theorem idx_at (l : List Int) (k : Nat) (x : Int) (hk : k < l.length) (h : getI l k = x) (hn : ∀ j, j < k → getI l j ≠ x) : Lib.idxOf l x = (k : Int) := by
  have := Lib.idxOf_hit l l.length k x hk (Nat.le_refl _) h hn
  rwa [List.take_length] at this
theorem idx_none (l : List Int) (x : Int) (hn : ∀ j, j < l.length → getI l j ≠ x) : Lib.idxOf l x = -1 := by
  have := Lib.idxOf_miss l l.length x hn
  rwa [List.take_length] at this
theorem idx_mem (l : List Int) (x : Int) : x ∈ l ↔ 0 ≤ Lib.idxOf l x := by
  rw [Lib.idxOf_nonneg_iff]; simp

/-! ### Lists begun elsewhere -/

/-- A list begun at a place. -/
def rotL (l : List Int) (k : Nat) : List Int := l.drop k ++ l.take k

theorem rotL_length (l : List Int) (k : Nat) : (rotL l k).length = l.length := by
  unfold rotL; simp; omega
theorem rotL_zero (l : List Int) : rotL l 0 = l := by simp [rotL]
theorem rotL_nil (k : Nat) : rotL [] k = [] := by simp [rotL]
theorem rotL_get (l : List Int) (k j : Nat) (hk : k ≤ l.length) (hj : j < l.length) : getI (rotL l k) j = getI l ((k + j) % l.length) := by
  unfold rotL
  by_cases h : j < l.length - k
  · rw [getI_app_left _ _ _ (by simp; omega), getI_drop, Nat.mod_eq_of_lt (by omega)]
  · have hm : (k + j) % l.length = k + j - l.length := by
      rw [Nat.mod_eq_sub_mod (by omega), Nat.mod_eq_of_lt (by omega)]
    obtain ⟨i, rfl⟩ : ∃ i, j = (l.drop k).length + i := ⟨j - (l.drop k).length, by simp; omega⟩
    rw [getI_app_right]
    simp only [List.length_drop] at *
    rw [getI_take _ _ _ (by omega), hm]
    congr 1; omega

/-- The first numbers of a list begun at a place. -/
def rotTo (l : List Int) (at_ : Nat) (i : Nat) : List Int := (List.range i).map fun t => getI l ((at_ + t) % l.length)

theorem rotTo_zero (l : List Int) (a : Nat) : rotTo l a 0 = [] := rfl
theorem rotTo_succ (l : List Int) (a i : Nat) : rotTo l a (i + 1) = rotTo l a i ++ [getI l ((a + i) % l.length)] := by
  simp [rotTo, List.range_succ]
theorem rotTo_length (l : List Int) (a i : Nat) : (rotTo l a i).length = i := by simp [rotTo]
theorem rotTo_get (l : List Int) (a i j : Nat) (h : j < i) : getI (rotTo l a i) j = getI l ((a + j) % l.length) := by
  rw [getI_of _ _ (by rw [rotTo_length]; exact h)]; simp [rotTo]
theorem rotTo_all (l : List Int) (a : Nat) : rotTo l a l.length = rotL l (a % l.length) := by
  by_cases h0 : l.length = 0
  · have : l = [] := List.length_eq_zero_iff.1 h0
    subst this; simp [rotTo, rotL]
  apply ext_getI
  · rw [rotTo_length, rotL_length]
  · intro j hj
    rw [rotTo_length] at hj
    have hm := Nat.mod_lt a (show 0 < l.length by omega)
    rw [rotTo_get _ _ _ _ hj, rotL_get _ _ _ (by omega) hj]
    congr 1
    rw [Nat.mod_add_mod]

theorem rotL_rotL (l : List Int) (a b : Nat) (ha : a ≤ l.length) (hb : b ≤ l.length) : rotL (rotL l a) b = rotL l ((a + b) % l.length) := by
  by_cases h0 : l.length = 0
  · have : l = [] := List.length_eq_zero_iff.1 h0
    subst this; simp [rotL]
  apply ext_getI
  · simp only [rotL_length]
  · intro j hj
    simp only [rotL_length] at hj
    have hm := Nat.mod_lt (a + b) (show 0 < l.length by omega)
    have hm2 := Nat.mod_lt (b + j) (show 0 < l.length by omega)
    rw [rotL_get _ _ _ (by rw [rotL_length]; exact hb) (by rw [rotL_length]; exact hj), rotL_length, rotL_get _ _ _ ha hm2, rotL_get _ _ _ (by omega) hj]
    congr 1
    rw [Nat.add_mod_mod, Nat.mod_add_mod, Nat.add_assoc]

/-! ### Rings that are one -/

/-- Two lists are one ring, begun at places of their own. -/
def Ring1 (a b : List Int) : Prop := a.length = b.length ∧ ∃ k, k ≤ b.length ∧ a = rotL b k

theorem Ring1.refl (a : List Int) : Ring1 a a := ⟨rfl, 0, Nat.zero_le _, (rotL_zero a).symm⟩
theorem Ring1.of_rot (b : List Int) (k : Nat) (h : k ≤ b.length) : Ring1 (rotL b k) b := ⟨rotL_length _ _, k, h, rfl⟩
theorem Ring1.symm {a b : List Int} (h : Ring1 a b) : Ring1 b a := by
  obtain ⟨hl, k, hk, rfl⟩ := h
  by_cases h0 : b.length = 0
  · have : b = [] := List.length_eq_zero_iff.1 h0
    subst this; rw [rotL_nil]; exact Ring1.refl _
  refine ⟨hl.symm, b.length - k, by rw [hl]; omega, ?_⟩
  rw [rotL_rotL _ _ _ hk (by omega), show k + (b.length - k) = b.length by omega, Nat.mod_self, rotL_zero]
theorem Ring1.trans {a b c : List Int} (h1 : Ring1 a b) (h2 : Ring1 b c) : Ring1 a c := by
  obtain ⟨e1, k, hk, rfl⟩ := h1
  obtain ⟨e2, m, hm, rfl⟩ := h2
  rw [rotL_length] at hk
  by_cases h0 : c.length = 0
  · have : c = [] := List.length_eq_zero_iff.1 h0
    subst this; simp only [rotL_nil]; exact Ring1.refl _
  rw [rotL_rotL _ _ _ hm hk]
  exact Ring1.of_rot _ _ (Nat.le_of_lt (Nat.mod_lt _ (by omega)))
theorem Ring1.reverse {a b : List Int} (h : Ring1 a b) : Ring1 a.reverse b.reverse := by
  obtain ⟨e, k, hk, rfl⟩ := h
  refine ⟨by simp [rotL_length], b.length - k, by simp, ?_⟩
  unfold rotL
  rw [List.reverse_append, List.reverse_take, List.reverse_drop]

/-- Whether two lists are one ring, as the calls tell it. -/
def ring1B (a b : List Int) : Bool := decide (a.length = b.length) && (List.range (b.length + 1)).any fun k => decide (a = rotL b k)
theorem ring1B_iff (a b : List Int) : ring1B a b = true ↔ Ring1 a b := by
  unfold ring1B Ring1
  simp only [Bool.and_eq_true, decide_eq_true_eq, List.any_eq_true, List.mem_range]
  constructor
  · rintro ⟨h1, k, h2, h3⟩; exact ⟨h1, k, by omega, h3⟩
  · rintro ⟨h1, k, h2, h3⟩; exact ⟨h1, k, by omega, h3⟩
theorem ring1B_true {a b : List Int} (h : Ring1 a b) : ring1B a b = true := (ring1B_iff a b).2 h
theorem ring1B_false {a b : List Int} (h : ¬ Ring1 a b) : ring1B a b = false := by
  rw [Bool.eq_false_iff]; exact fun e => h ((ring1B_iff a b).1 e)

/-! Which of two beginnings is the lesser one, at the first place at which they differ. -/

def Less (n : Nat) (f g : Nat → Int) : Prop := ∃ d, d < n ∧ (∀ t, t < d → f t = g t) ∧ f d < g d

theorem Less.irrefl {n : Nat} {f : Nat → Int} : ¬ Less n f f := fun ⟨_, _, _, h⟩ => Int.lt_irrefl _ h
theorem Less.trans {n : Nat} {f g h : Nat → Int} : Less n f g → Less n g h → Less n f h := by
  rintro ⟨d, h1, h2, h3⟩ ⟨e, h4, h5, h6⟩
  by_cases hde : d < e
  · exact ⟨d, h1, fun t ht => (h2 t ht).trans (h5 t (by omega)), by rw [← h5 d hde]; exact h3⟩
  · by_cases he : e = d
    · subst he; exact ⟨e, h1, fun t ht => (h2 t ht).trans (h5 t ht), Int.lt_trans h3 h6⟩
    · exact ⟨e, h4, fun t ht => (h2 t (by omega)).trans (h5 t ht), by rw [h2 e (by omega)]; exact h6⟩

/-- A list from a place on, going round. -/
def from_ (a : List Int) (i t : Nat) : Int := getI a ((i + t) % a.length)

theorem least_from (a : List Int) : ∀ m, 0 < m → ∃ c, c < m ∧ ∀ i, i < m → ¬ Less a.length (from_ a i) (from_ a c)
  | 0, h => absurd h (Nat.lt_irrefl _)
  | m + 1, _ => by
    by_cases hm : m = 0
    · subst hm; exact ⟨0, by omega, fun i hi => by obtain rfl : i = 0 := by omega
                                                   exact Less.irrefl⟩
    · obtain ⟨c, h1, h2⟩ := least_from a m (by omega)
      by_cases hl : Less a.length (from_ a m) (from_ a c)
      · refine ⟨m, by omega, fun i hi h => ?_⟩
        by_cases e : i = m
        · subst e; exact Less.irrefl h
        · exact h2 i (by omega) (h.trans hl)
      · refine ⟨c, by omega, fun i hi h => ?_⟩
        by_cases e : i = m
        · subst e; exact hl h
        · exact h2 i (by omega) h

theorem from_mod (a : List Int) (i t : Nat) : from_ a (i % a.length) t = from_ a i t := by
  unfold from_; rw [Nat.mod_add_mod]
theorem from_add (a : List Int) (i s t : Nat) : from_ a (i + s) t = from_ a i (s + t) := by
  unfold from_; rw [Nat.add_assoc]

/-- Where both lists, begun at i and j, are one for k places, and the first's number is the greater one then: none of the first's next beginnings is a least one. -/
theorem greater_from (a b : List Int) (hl : a.length = b.length) (i j k : Nat) (hk : k < a.length) (hp : ∀ t, t < k → from_ a i t = from_ b j t) (hg : from_ b j k < from_ a i k) (t : Nat) (ht : t ≤ k) :
    Less a.length (from_ b (j + t)) (from_ a (i + t)) := by
  refine ⟨k - t, by omega, fun s hs => ?_, ?_⟩
  · rw [from_add, from_add]; exact (hp _ (by omega)).symm
  · rw [from_add, from_add, show t + (k - t) = k by omega]; exact hg

theorem from_rot (b : List Int) (k i t : Nat) (hk : k ≤ b.length) : from_ (rotL b k) i t = from_ b (k + i) t := by
  unfold from_
  rw [rotL_length]
  by_cases h0 : b.length = 0
  · have : b = [] := List.length_eq_zero_iff.1 h0
    subst this; simp [rotL, getI]
  rw [rotL_get _ _ _ hk (Nat.mod_lt _ (by omega)), Nat.add_mod_mod, Nat.add_assoc]

/-- If every beginning of the one list is greater than some beginning of the other one, they are two rings. -/
theorem apart_of_less (a b : List Int) (h0 : 0 < a.length) (h : ∀ i, i < a.length → ∃ p, Less a.length (from_ b p) (from_ a i)) : ¬ Ring1 a b := by
  intro hr
  obtain ⟨hl, k, hk, e⟩ := hr.symm
  obtain ⟨c, hc, hmin⟩ := least_from a a.length h0
  obtain ⟨p, hp⟩ := h c hc
  refine hmin ((k + p) % a.length) (Nat.mod_lt _ h0) ?_
  have : from_ a ((k + p) % a.length) = from_ b p := by
    funext t
    rw [from_mod, e, from_rot _ _ _ _ hk]
  rw [this]; exact hp

theorem one_of_all (a b : List Int) (hl : a.length = b.length) (h0 : 0 < a.length) (i j : Nat) (h : ∀ t, t < a.length → from_ a i t = from_ b j t) : Ring1 a b := by
  have e : rotL a (i % a.length) = rotL b (j % b.length) := by
    apply ext_getI
    · simp only [rotL_length]; exact hl
    · intro t ht
      rw [rotL_length] at ht
      have hi := Nat.mod_lt i h0
      have hj := Nat.mod_lt j (show 0 < b.length by omega)
      rw [rotL_get _ _ _ (by omega) ht, rotL_get _ _ _ (by omega) (by omega), Nat.mod_add_mod, Nat.mod_add_mod]
      exact h t ht
  have hi := Nat.mod_lt i h0
  have hj := Nat.mod_lt j (show 0 < b.length by omega)
  have r1 := (Ring1.of_rot a (i % a.length) (by omega)).symm
  rw [e] at r1
  exact r1.trans (Ring1.of_rot b _ (by omega))

end Go.Proofs.YtmbpmepoaonleaaGreat

/-! More plain mathematics of lists that go round: no number twice, the least number's place, stretches. -/
namespace Go.Proofs.YtmbpmepoaonleaaGreat

/-! ### No number twice -/

theorem nodup_getI (l : List Int) : l.Nodup ↔ ∀ i j, i < j → j < l.length → getI l i ≠ getI l j := by
  unfold List.Nodup
  rw [List.pairwise_iff_getElem]
  constructor
  · intro h i j hij hj
    rw [getI_of l i (by omega), getI_of l j hj]
    exact h i j (by omega) hj hij
  · intro h i j hi hj hij
    have := h i j hij hj
    rwa [getI_of l i hi, getI_of l j hj] at this

/-- Whether no number stands twice. -/
def nodupB (l : List Int) : Bool := decide l.Nodup

theorem nodupB_true {l : List Int} (h : l.Nodup) : nodupB l = true := by unfold nodupB; simpa using h
theorem nodupB_false {l : List Int} (h : ¬ l.Nodup) : nodupB l = false := by unfold nodupB; simpa using h

/-- Up to a place no number has stood aheadR. -/
def newTo (l : List Int) (k : Nat) : Prop := ∀ j, j < k → ∀ i, i < j → getI l i ≠ getI l j
theorem newTo_all {l : List Int} (h : newTo l l.length) : l.Nodup := (nodup_getI l).2 fun i j hij hj => h j hj i hij
theorem newTo_succ {l : List Int} {k : Nat} (h : newTo l k) (hn : ∀ i, i < k → getI l i ≠ getI l k) : newTo l (k + 1) := fun j hj i hi => by
  by_cases e : j = k
  · rw [e] at hi ⊢; exact hn i hi
  · exact h j (by omega) i hi

theorem idx_self (l : List Int) (k : Nat) (hk : k < l.length) :
    (Lib.idxOf l (getI l k) = (k : Int) ∧ ∀ i, i < k → getI l i ≠ getI l k) ∨ (∃ m : Nat, Lib.idxOf l (getI l k) = (m : Int) ∧ m < k ∧ getI l m = getI l k) := by
  rcases idx_cases l (getI l k) with ⟨m, h1, h2, h3, h4⟩ | ⟨_, h⟩
  · by_cases hm : m < k
    · exact .inr ⟨m, h2, hm, h3⟩
    · left
      by_cases e : m = k
      · subst e; exact ⟨h2, h4⟩
      · exact absurd rfl (h4 k (by omega))
  · exact absurd rfl (h k hk)

theorem idx_nodup {l : List Int} (h : l.Nodup) (k : Nat) (hk : k < l.length) : Lib.idxOf l (getI l k) = (k : Int) := by
  rcases idx_self l k hk with ⟨e, _⟩ | ⟨m, _, h2, h3⟩
  · exact e
  · exact absurd h3 ((nodup_getI l).1 h m k h2 hk)

/-! ### The least number's place -/

/-- The place of the least among the first numbers, the first of these places. -/
def minAt (l : List Int) : Nat → Nat
  | 0 => 0
  | i + 1 => if getI l i < getI l (minAt l i) then i else minAt l i

theorem minAt_le (l : List Int) : ∀ i, minAt l i ≤ i
  | 0 => Nat.le_refl _
  | i + 1 => by unfold minAt; split; · omega
                · have := minAt_le l i; omega
theorem minAt_lt (l : List Int) (i : Nat) (h : 0 < i) : minAt l i < i := by
  match i, h with
  | i + 1, _ => unfold minAt; split; · omega
                · have := minAt_le l i; omega
theorem minAt_least (l : List Int) : ∀ i j, j < i → getI l (minAt l i) ≤ getI l j ∧ (j < minAt l i → getI l (minAt l i) < getI l j)
  | 0, j, h => absurd h (Nat.not_lt_zero _)
  | i + 1, j, h => by
    unfold minAt
    split
    · rename_i hlt
      by_cases e : j = i
      · subst e; exact ⟨Int.le_refl _, fun h => absurd h (Nat.lt_irrefl _)⟩
      · have := minAt_least l i j (by omega); constructor
        · omega
        · intro _; omega
    · rename_i hlt
      by_cases e : j = i
      · subst e
        exact ⟨by omega, fun h => by have := minAt_le l j; omega⟩
      · exact minAt_least l i j (by omega)

theorem minOf_take (l : List Int) : ∀ k, k < l.length → Lib.minOf (l.take (k + 1)) = getI l (minAt l (k + 1))
  | 0, _ => by
    rw [Lib.minOf_one]
    unfold minAt minAt; rw [if_neg (Int.lt_irrefl _)]; rfl
  | k + 1, h => by
    rw [Lib.minOf_step l (k + 1) (by omega) h, minOf_take l k (by omega)]
    show min (getI l (minAt l (k + 1))) (getI l (k + 1)) = getI l (if getI l (k + 1) < getI l (minAt l (k + 1)) then k + 1 else minAt l (k + 1))
    split <;> omega

/-- The first place of the least number. -/
theorem idx_min (l : List Int) (h : 0 < l.length) : Lib.idxOf l (Lib.minOf l) = (minAt l l.length : Nat) := by
  have e : Lib.minOf l = getI l (minAt l l.length) := by
    have := minOf_take l (l.length - 1) (by omega)
    rwa [show l.length - 1 + 1 = l.length by omega, List.take_length] at this
  rw [e]
  refine idx_at l _ _ (minAt_lt l _ h) rfl fun j hj he => ?_
  have := (minAt_least l l.length j (by have := minAt_lt l _ h; omega)).2 hj
  omega

/-! ### Stretches -/

/-- The first numbers, each stretch taken as one. -/
def cutTo (l : List Int) : Nat → List Int
  | 0 => []
  | i + 1 => if 0 < i ∧ getI l i = getI l (i - 1) then cutTo l i else cutTo l i ++ [getI l i]

/-- .. that goes round: the last stretch goes on in the first one. -/
def roundOff (o : List Int) : List Int := if 1 < o.length ∧ getI o 0 = getI o (o.length - 1) then o.take (o.length - 1) else o

/-- The stretches' numbers, if none has two stretches. -/
def labelsO (l : List Int) : Option (List Int) := if (roundOff (cutTo l l.length)).Nodup then some (roundOff (cutTo l l.length)) else none

theorem cutTo_length (l : List Int) : ∀ i, (cutTo l i).length ≤ i
  | 0 => Nat.le_refl _
  | i + 1 => by have := cutTo_length l i; unfold cutTo; split <;> simp <;> omega
theorem roundOff_length (o : List Int) : (roundOff o).length ≤ o.length := by
  unfold roundOff; split <;> simp

/-- The number aheadR, going round. -/
def aheadR (l : List Int) : Nat → Int
  | 0 => getI l (l.length - 1)
  | i + 1 => getI l i

/-- Of the first numbers those that begin a stretch, going round. -/
def begTo (l : List Int) : Nat → List Int
  | 0 => []
  | i + 1 => if getI l i = aheadR l i then begTo l i else begTo l i ++ [getI l i]

theorem begTo_length (l : List Int) : ∀ i, (begTo l i).length ≤ i
  | 0 => Nat.le_refl _
  | i + 1 => by have := begTo_length l i; unfold begTo; split <;> simp <;> omega

/-- Both ways to take stretches as one, side by side: they differ in the first number alone. -/
theorem cut_beg (l : List Int) : ∀ i, 0 < i → ∃ t, cutTo l i = getI l 0 :: t ∧ begTo l i = (if getI l 0 = getI l (l.length - 1) then [] else [getI l 0]) ++ t ∧ (getI l 0 :: t).getLast (by simp) = getI l (i - 1)
  | 0, h => absurd h (Nat.lt_irrefl _)
  | 1, _ => by
    refine ⟨[], by simp [cutTo], ?_, rfl⟩
    show (if getI l 0 = getI l (l.length - 1) then [] else [] ++ [getI l 0]) = _
    split <;> simp
  | i + 2, _ => by
    obtain ⟨t, h1, h2, h3⟩ := cut_beg l (i + 1) (by omega)
    have e1 : cutTo l (i + 2) = if getI l (i + 1) = getI l i then cutTo l (i + 1) else cutTo l (i + 1) ++ [getI l (i + 1)] := by
      rw [cutTo]; simp
    have e2 : begTo l (i + 2) = if getI l (i + 1) = getI l i then begTo l (i + 1) else begTo l (i + 1) ++ [getI l (i + 1)] := by
      rw [begTo]; rfl
    by_cases he : getI l (i + 1) = getI l i
    · rw [if_pos he] at e1 e2
      refine ⟨t, by rw [e1, h1], by rw [e2, h2], ?_⟩
      rw [h3]; simp [he]
    · rw [if_neg he] at e1 e2
      refine ⟨t ++ [getI l (i + 1)], by rw [e1, h1]; rfl, by rw [e2, h2, List.append_assoc], ?_⟩
      rw [List.getLast_cons (by simp)]; simp

/-- The stretches, begun with the first number's. -/
theorem labels_eq (l : List Int) (h0 : 0 < l.length) :
    (begTo l l.length = [] ∧ labelsO l = some [getI l 0]) ∨
    (0 < (begTo l l.length).length ∧ ¬ (begTo l l.length).Nodup ∧ labelsO l = none) ∨
    (∃ k : Nat, k < (begTo l l.length).length ∧ (begTo l l.length).Nodup ∧ Lib.idxOf (begTo l l.length) (getI l 0) = (k : Int) ∧ labelsO l = some (rotL (begTo l l.length) k)) := by
  obtain ⟨t, h1, h2, h3⟩ := cut_beg l l.length h0
  by_cases he : getI l 0 = getI l (l.length - 1)
  · rw [if_pos he, List.nil_append] at h2
    by_cases ht : t = []
    · subst ht
      refine .inl ⟨h2, ?_⟩
      unfold labelsO roundOff; rw [h1]; simp
    · obtain ⟨d, z, rfl⟩ : ∃ d z, t = d ++ [z] := ⟨t.dropLast, t.getLast ht, (List.dropLast_concat_getLast ht).symm⟩
      have hz : z = getI l 0 := by
        rw [List.getLast_cons (by simp)] at h3
        simp only [List.getLast_append, List.getLast_singleton] at h3
        rw [he, ← h3]; simp
      subst hz
      have e1 : roundOff (cutTo l l.length) = getI l 0 :: d := by
        unfold roundOff
        rw [h1, if_pos]
        · simp
        · refine ⟨by simp, ?_⟩
          unfold getI; simp
      have hp : (getI l 0 :: d).Perm (d ++ [getI l 0]) := List.perm_append_comm (l₁ := [getI l 0]) (l₂ := d)
      right
      by_cases hn : (d ++ [getI l 0]).Nodup
      · right
        refine ⟨d.length, by rw [h2]; simp, by rw [h2]; exact hn, ?_, ?_⟩
        · rw [h2]
          refine idx_at _ _ _ (by simp) (by have := getI_app_right d [getI l 0] 0; exact this) fun j hj => ?_
          have := (nodup_getI _).1 hn j d.length hj (by simp)
          have e := getI_app_right d [getI l 0] 0
          simp only [Nat.add_zero] at e
          rw [e] at this
          exact this
        · unfold labelsO
          rw [e1, if_pos (hp.nodup_iff.2 hn), h2]
          simp [rotL]
      · left
        refine ⟨by rw [h2]; simp, by rw [h2]; exact hn, ?_⟩
        unfold labelsO
        rw [e1, if_neg (fun h => hn (hp.nodup_iff.1 h))]
  · rw [if_neg he] at h2
    have h2' : begTo l l.length = getI l 0 :: t := h2
    have e1 : roundOff (cutTo l l.length) = getI l 0 :: t := by
      unfold roundOff
      rw [h1, if_neg]
      rintro ⟨_, e⟩
      apply he
      rw [← h3]
      have e2 : getI (getI l 0 :: t) 0 = getI l 0 := rfl
      rw [e2] at e
      rw [List.getLast_eq_getElem, ← getI_of _ _ (by simp)]; exact e
    right
    by_cases hn : (getI l 0 :: t).Nodup
    · right
      refine ⟨0, by rw [h2']; simp, by rw [h2']; exact hn, ?_, ?_⟩
      · rw [h2']; exact idx_at _ 0 _ (by simp) rfl (fun j hj => absurd hj (Nat.not_lt_zero _))
      · unfold labelsO; rw [e1, if_pos hn, h2', rotL_zero]
    · left
      refine ⟨by rw [h2']; simp, by rw [h2']; exact hn, ?_⟩
      unfold labelsO; rw [e1, if_neg hn]

end Go.Proofs.YtmbpmepoaonleaaGreat

/-! Slices of numbers as lists: what a slice value reads as in a world. -/
namespace Go.Proofs.YtmbpmepoaonleaaGreat
open Go.RowKit

/-- The slice value v reads as the numbers l. -/
def Ints (w : World) (v : Value) (l : List Int) : Prop :=
  ∃ A cap, v = .slice A l.length cap ∧ l.length ≤ cap ∧ cap ≤ maxLen ∧
    (0 < l.length → ∃ b off, A = some ⟨b, off, none⟩ ∧ b < w.heap.size ∧ ∀ j, j < l.length → w.cell? ⟨b, off + j, none⟩ = some (.int .i64 (getI l j)))

theorem Ints.below {w w' : World} {v : Value} {l : List Int} (h : Ints w v l) (hb : Below w.heap.size w w') : Ints w' v l := by
  obtain ⟨A, cap, rfl, hc, hm, hr⟩ := h
  refine ⟨A, cap, rfl, hc, hm, fun h0 => ?_⟩
  obtain ⟨b, off, hA, hlt, hg⟩ := hr h0
  exact ⟨b, off, hA, Nat.lt_of_lt_of_le hlt hb.size, fun j hj => (hb.cell (p := ⟨b, off + j, none⟩) hlt).trans (hg j hj)⟩

theorem Ints.of_own {w : World} {base : Nat} {e : TypeId} {v : Value} {l : List Int} (h : w.ownsRow base e 1 v l.length (l.map (Value.int .i64))) : Ints w v l := by
  have hc := @World.ownsRow.cells w base e 1 v l.length (l.map (Value.int .i64)) h
  have hl := h.lt
  rcases h.2 with ⟨rfl, h0⟩ | ⟨g, cap, cur, rfl, hb, hg, hnc, hcm, _⟩
  · refine ⟨none, 0, by rw [h0], by omega, by unfold maxLen; omega, fun h => absurd h (by omega)⟩
  · refine ⟨some ⟨g, 0, none⟩, cap, rfl, hnc, hcm, fun _ => ⟨g, 0, rfl, (hl g rfl).2, fun j hj => ?_⟩⟩
    have := hc (g := g) rfl j _ (ints_get .i64 l j hj)
    rw [Addr.add_lit] at this
    exact this

theorem Ints.nil {w : World} : Ints w (.slice none 0 0) [] := ⟨none, 0, rfl, Nat.le_refl _, by unfold maxLen; omega, fun h => absurd h (by simp)⟩

theorem trans2 {w w1 w2 : World} (h1 : Below w.heap.size w w1) (h2 : Below w1.heap.size w1 w2) : Below w.heap.size w w2 := h1.trans (h2.mono h1.size)
theorem below_drewN' (w : World) (n : Nat) : Below w.heap.size w (w.drewN n) := below_drewN (Below.refl _ w) n
theorem Ints.drewN {w : World} {v : Value} {l : List Int} (h : Ints w v l) (n : Nat) : Ints (w.drewN n) v l := h.below (below_drewN' w n)

theorem ret_int {k : IntKind} {a b : Int} (h : a = b) : Ending.returned (.int k a) = .returned (.int k b) := by rw [h]
theorem ret_bool {a b : Bool} (h : a = b) : Ending.returned (.bool a) = .returned (.bool b) := by rw [h]

theorem Tryz.infoInt : (Tryz.prog.info? 3).map (fun i => (i.zero, i.size, i.bytes)) = some (some (.int .i64 0), 1, 8) := by kernel_rfl

end Go.Proofs.YtmbpmepoaonleaaGreat
