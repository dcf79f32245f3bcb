/-
  RgK, RgL, RgW, RgX, in one text.
-/
import Derived.Test.YtmbpmepoaonleaaGreatM22
import Derived.Deep.Heap
import Derived.Shelf.SlicesG.Clone
import Derived.Shelf.SlicesG.Reverse
/-! The program's Keep, of what a plain function says, and of what Labels' own closure says. -/
namespace Go.Proofs.YtmbpmepoaonleaaGreat
open Go.RowKit

theorem below_alloc {w : World} (o : Obj) : Below w.heap.size w (w.alloc o) := (Below.refl _ w).alloc (Nat.le_refl _) _

end Go.Proofs.YtmbpmepoaonleaaGreat

/-! The program's Labels: its call answers the stretches' numbers, or that one has two. -/
namespace Go.Proofs.YtmbpmepoaonleaaGreat
open Go.RowKit

theorem own_same {w w' : World} {base : Nat} {e : TypeId} {size : Nat} {v : Value} {n : Nat} {xs : List Value} (h : w.ownsRow base e size v n xs) (hs : ∀ g, base ≤ g → w'.heap[g]? = w.heap[g]?) : w'.ownsRow base e size v n xs := by
  refine ⟨h.1, ?_⟩
  rcases h.2 with hn | ⟨g, cap, cur, rfl, hbg, hg, rest⟩
  · exact .inl hn
  · exact .inr ⟨g, cap, cur, rfl, hbg, by rw [hs g hbg]; exact hg, rest⟩

end Go.Proofs.YtmbpmepoaonleaaGreat

/-! The document's examples of the ring layer: the call that asks them answers yes. -/
namespace Go.Proofs.YtmbpmepoaonleaaGreat
open Go.RowKit

theorem ListOrNot.is {o : Option (List Int)} {m : List Int} (h : o = Option.some m) {w w' : World} {e : Ending} (hl : ListOrNot o w e w') : ∃ u, e = .returned (.tuple #[u, .bool true]) ∧ Ints w' u m ∧ Below w.heap.size w w' := by
  subst h
  obtain ⟨u, h1, h2, h3⟩ := hl
  exact ⟨u, h1, h2, h3⟩
end Go.Proofs.YtmbpmepoaonleaaGreat

/-! The program's Same and About. -/
namespace Go.Proofs.YtmbpmepoaonleaaGreat
open Go.RowKit Go.Shelf Go.Sort

/-- None of a list's first beginnings is a least one of both. -/
def Passed (a b : List Int) (i : Nat) : Prop := ∀ s, s < i → ∃ p, Less a.length (from_ b p) (from_ a s)
/-- Both lists are one for so many places. -/
def Along (a b : List Int) (i j k : Nat) : Prop := ∀ t, t < k → from_ a i t = from_ b j t

theorem Passed.step {a b : List Int} {i : Nat} (h : Passed a b i) (hl : a.length = b.length) (j k : Nat) (hk : k < a.length) (hp : Along a b i j k) (hg : from_ b j k < from_ a i k) : Passed a b (i + k + 1) := by
  intro s hs
  by_cases h1 : s < i
  · exact h s h1
  · obtain ⟨t, rfl⟩ : ∃ t, s = i + t := ⟨s - i, by omega⟩
    exact ⟨j + t, greater_from a b hl i j k hk hp hg t (by omega)⟩
theorem Along.symm {a b : List Int} {i j k : Nat} (h : Along a b i j k) : Along b a j i k := fun t ht => (h t ht).symm
theorem Along.step {a b : List Int} {i j k : Nat} (h : Along a b i j k) (he : from_ a i k = from_ b j k) : Along a b i j (k + 1) := fun t ht => by
  by_cases e : t = k
  · rw [e]; exact he
  · exact h t (by omega)
/-! ### About -/

/-- What slices.Clone makes: a slice of the call's own. -/
theorem rgClone_any (v : Value) (l : List Int) (w : World) (h : Ints w v l) (hl : l.length ≤ 1000000) :
    Calls Tryz.prog 83 #[v] w fun e w' => ∃ u, e = .returned u ∧ w'.ownsRow w.heap.size 3 1 u l.length (l.map (Value.int .i64)) ∧ Below w.heap.size w w' := by
  obtain ⟨A, cap, rfl, hcap, hm, hcell⟩ := h
  by_cases h0 : l.length = 0
  · have e0 : l = [] := List.length_eq_zero_iff.1 h0
    subst e0
    rcases A with _ | a
    · have hcon := AnyG.slices_Clone_int_nil Tryz.laysClone 0 cap w
      change Calls Tryz.prog 83 _ _ _ at hcon
      exact hcon.mono fun e w' h => ⟨_, h.1, World.ownsRow_nil _ _ _ _, by rw [h.2]; exact Below.refl _ _⟩
    · have hcon := AnyG.slices_Clone_int_zero Tryz.laysClone a cap w
      change Calls Tryz.prog 83 _ _ _ at hcon
      refine hcon.mono ?_
      rintro e w' ⟨v', rfl, hown, _, hB⟩
      exact ⟨v', rfl, hown, hB⟩
  · obtain ⟨b, off, rfl, hb, hc⟩ := hcell (by omega)
    have hcon := AnyG.slices_Clone_int Tryz.laysClone b off l.length cap l w (Nat.le_refl _) (by omega) hc
    change Calls Tryz.prog 83 _ _ _ at hcon
    refine hcon.mono ?_
    rintro e w' ⟨v', rfl, hown, _, hB⟩
    rw [List.take_length] at hown
    exact ⟨v', rfl, hown, hB⟩

theorem reverse_any (base : Nat) (v : Value) (l : List Int) (w : World) (h : w.ownsRow base 3 1 v l.length (l.map (Value.int .i64))) (hb : base ≤ w.heap.size) (hl : l.length ≤ 1000000) :
    Calls Tryz.prog 100 #[v] w fun e w' => e = .returned (.tuple #[]) ∧ w'.ownsRow base 3 1 v l.length (l.reverse.map (Value.int .i64)) ∧ Below base w w' := by
  rcases h.2 with ⟨rfl, hz⟩ | ⟨g, cap, cur, rfl, hbase, hg, r1, r2, r3, r4⟩
  · have e : l = [] := List.eq_nil_of_length_eq_zero hz
    subst e
    have hcon := AnyG.slices_Reverse_int_empty Tryz.laysReverse none 0 w
    change Calls Tryz.prog 100 _ _ _ at hcon
    exact hcon.mono fun e w' h => ⟨h.1, World.ownsRow_nil _ _ _ _, by rw [h.2]; exact Below.refl _ _⟩
  · have hH : Holds encZ w g 0 l.toArray := holds_of_block_i hg (by simpa using r4)
    have hcon := AnyG.slices_Reverse_int Tryz.laysReverse g 0 cap l w hH (by omega)
    change Calls Tryz.prog 100 _ _ _ at hcon
    refine hcon.mono ?_
    rintro e w' ⟨rfl, q, rfl⟩
    have hgr := grownBy_sorted_i (w := w) (g := g) (n := q) (os := #[]) l.reverse.toArray
    have hbl := (Below.refl base w).grown hgr hb (fun j hj => by cases hj; exact hbase)
    have hown := ownsRow_sorted_i (n := q) (os := #[]) (ts := l.reverse) (by simp) hbase hg r1 r2 r3
    refine ⟨rfl, own_same hown (fun g' _ => by simp [grow]), ⟨hbl.os, hbl.tape, hbl.output, by simp, fun k hk => ?_⟩⟩
    have h2 := hbl.block k hk
    simpa [grow] using h2

end Go.Proofs.YtmbpmepoaonleaaGreat
