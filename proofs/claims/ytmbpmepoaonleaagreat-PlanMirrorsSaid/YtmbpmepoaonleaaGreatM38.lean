/-
  GrY, in one text.
-/
import Derived.Test.YtmbpmepoaonleaaGreatM07
import Derived.Test.YtmbpmepoaonleaaGreatPlan
import Derived.Lib.SmallJoins
/-! New variables that hold parts: what a store leaves of the others. -/
namespace Go.Proofs.YtmbpmepoaonleaaGreat
open Go.RowKit

/-- A block that holds a part. -/
def PBox (w : World) (g : Nat) (u v : Value) : Prop := w.heap[g]? = some (.cells #[u, v] 27 (0, 0))
/-- The world in which block g holds another part. -/
def putPart (w : World) (g : Nat) (a b : Value) : World := (w.setCell ⟨g, 0, none⟩ a).setCell ⟨g, 1, none⟩ b

section
variable {w w' : World} {g h : Nat} {u v a b : Value}
theorem PBox.lt (hb : PBox w g u v) : g < w.heap.size := (Array.getElem?_eq_some_iff.1 hb).1
theorem PBox.below (hb : PBox w g u v) (hB : Below w.heap.size w w') : PBox w' g u v := (hB.block g hb.lt).trans hb
theorem PBox.box (hb : PBox w g u v) : Box w g u v :=
  ⟨(cell_of_row w g 0 _ _ (0, 0) hb), (cell_of_row w g 1 _ _ (0, 0) hb), hb.lt, fun i => by simp [World.frozen?, show w.heap[g]? = some (.cells #[u, v] 27 (0, 0)) from hb]⟩
theorem PBox.put (hb : PBox w g u v) (a b : Value) : PBox (putPart w g a b) g a b := by
  have h1 := Go.Joins.block_setCell (i := 0) hb a
  have h2 := Go.Joins.block_setCell (i := 1) h1 b
  exact h2
theorem put_heap (w : World) (g : Nat) (a b : Value) {k : Nat} (hk : k ≠ g) : (putPart w g a b).heap[k]? = w.heap[k]? :=
  (Below.heap_setCell _ _ _ _ hk).trans (Below.heap_setCell _ _ _ _ hk)
theorem PBox.other (hb : PBox w h u v) (hne : h ≠ g) (a b : Value) : PBox (putPart w g a b) h u v := (put_heap w g a b hne).trans hb
theorem Row.put {base : Nat} {x : Value} {l : List Int} (hr : Row w base x l) (hb : PBox w g u v) (a b : Value) : Row (putPart w g a b) base x l :=
  own_block hr fun k hk => put_heap w g a b (fun e => by
    subst e
    rcases hr.2 with ⟨rfl, _⟩ | ⟨g', cap, cur, rfl, _, hg, _⟩
    · cases hk
    · cases hk
      rw [show w.heap[g']? = some (.cells #[u, v] 27 (0, 0)) from hb] at hg
      simp only [Option.some.injEq, Obj.cells.injEq] at hg
      exact absurd hg.2.1 (by decide))
end

end Go.Proofs.YtmbpmepoaonleaaGreat
