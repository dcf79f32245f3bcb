/-
  RgK, RgL, RgW, in one text.
-/
import Derived.Test.YtohaopfpjkhheaaRgS
import Derived.Deep.Heap
/-! The program's Keep, of what a plain function says, and of what Labels' own closure says. -/
namespace Go.Proofs.Ytohaopfpjkhheaa
open Go.RowKit

theorem below_alloc {w : World} (o : Obj) : Below w.heap.size w (w.alloc o) := (Below.refl _ w).alloc (Nat.le_refl _) _

/-- Is a number even, as the call tells it? -/
def evenB (x : Int) : Bool := decide (x.tmod 2 = 0)
def allB (_ : Int) : Bool := true
end Go.Proofs.Ytohaopfpjkhheaa

/-! The program's Labels: its call answers the stretches' numbers, or that one has two. -/
namespace Go.Proofs.Ytohaopfpjkhheaa
open Go.RowKit

theorem own_same {w w' : World} {base : Nat} {e : TypeId} {size : Nat} {v : Value} {n : Nat} {xs : List Value} (h : w.ownsRow base e size v n xs) (hs : ∀ g, base ≤ g → w'.heap[g]? = w.heap[g]?) : w'.ownsRow base e size v n xs := by
  refine ⟨h.1, ?_⟩
  rcases h.2 with hn | ⟨g, cap, cur, rfl, hbg, hg, rest⟩
  · exact .inl hn
  · exact .inr ⟨g, cap, cur, rfl, hbg, by rw [hs g hbg]; exact hg, rest⟩

end Go.Proofs.Ytohaopfpjkhheaa

/-! The document's examples of the ring layer: the call that asks them answers yes. -/
namespace Go.Proofs.Ytohaopfpjkhheaa
open Go.RowKit

/-- A slice that the call has written out. -/
theorem lit_ints (w : World) (xs : List Int) (h : xs.length ≤ 1000000) :
    Ints (w.alloc (.cells (xs.map (Value.int .i64)).toArray 3)) (.slice (some ⟨w.heap.size, 0, none⟩) xs.length xs.length) xs := by
  refine ⟨_, _, rfl, Nat.le_refl _, by unfold maxLen; omega, fun h0 => ⟨w.heap.size, 0, rfl, by simp, fun j hj => ?_⟩⟩
  refine cell_of_row _ _ _ (xs.map (Value.int .i64)).toArray 3 (0, 0) (heap_alloc_new w _) |>.trans ?_
  rw [Nat.zero_add, getI_of xs j hj]
  simp [hj]

theorem lit1 (w : World) (a : Int) : Ints (w.alloc (.cells #[.int .i64 a] 3)) (.slice (some ⟨w.heap.size, 0, none⟩) 1 1) [a] := lit_ints w [a] (by simp)
theorem lit2 (w : World) (a b : Int) : Ints (w.alloc (.cells #[.int .i64 a, .int .i64 b] 3)) (.slice (some ⟨w.heap.size, 0, none⟩) 2 2) [a, b] := lit_ints w [a, b] (by simp)
theorem lit3 (w : World) (a b c : Int) : Ints (w.alloc (.cells #[.int .i64 a, .int .i64 b, .int .i64 c] 3)) (.slice (some ⟨w.heap.size, 0, none⟩) 3 3) [a, b, c] := lit_ints w [a, b, c] (by simp)
theorem lit4 (w : World) (a b c d : Int) : Ints (w.alloc (.cells #[.int .i64 a, .int .i64 b, .int .i64 c, .int .i64 d] 3)) (.slice (some ⟨w.heap.size, 0, none⟩) 4 4) [a, b, c, d] := lit_ints w [a, b, c, d] (by simp)

theorem ListOrNot.is {o : Option (List Int)} {m : List Int} (h : o = Option.some m) {w w' : World} {e : Ending} (hl : ListOrNot o w e w') : ∃ u, e = .returned (.tuple #[u, .bool true]) ∧ Ints w' u m ∧ Below w.heap.size w w' := by
  subst h
  obtain ⟨u, h1, h2, h3⟩ := hl
  exact ⟨u, h1, h2, h3⟩
theorem ListOrNot.isnt {o : Option (List Int)} (h : o = Option.none) {w w' : World} {e : Ending} (hl : ListOrNot o w e w') : ∃ u, e = .returned (.tuple #[u, .bool false]) ∧ Ints w' u [] ∧ Below w.heap.size w w' := by
  subst h
  obtain ⟨u, h1, h2, h3⟩ := hl
  exact ⟨u, h1, h2, h3⟩

theorem rgEx1 : labelsO [5, 5, 7, 5] = some [5, 7] := by decide +kernel
theorem rgEx2 : labelsO [5, 7, 5, 7] = none := by decide +kernel
theorem rgEx3 : rotL [3, 1, 2] (minAt [3, 1, 2] ([3, 1, 2] : List Int).length) = [1, 2, 3] := by decide +kernel
theorem ex4 : orderB [1, 2, 3] 2 3 1 = true := by decide +kernel

end Go.Proofs.Ytohaopfpjkhheaa
