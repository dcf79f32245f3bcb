/-
  The library's slices.Values, AppendSeq, Collect over it: a new slice of the same numbers.
-/
import Derived.Test.YtohaopfpjkhheaaRgT
import Derived.RangeFuncBox
import Derived.RangeFuncLeaves
import Derived.Shelf.Abstract
import Derived.OwnWalkIn
import Derived.TacticsInMore
import Derived.LoopNIn
import Derived.LoopIn
import Derived.Maps.AppendAt
namespace Go.Proofs.Ytohaopfpjkhheaa
open Go.RowKit Go.Shelf

attribute [local go_sem] Oper.semAt_some

/-- The slice value lies below a block and reads as the numbers l. -/
def IntsB (n₀ : Nat) (w : World) (v : Value) (l : List Int) : Prop :=
  ∃ A cap, v = .slice A l.length cap ∧ (0 < l.length → ∃ b off, A = some ⟨b, off, none⟩ ∧ b < n₀ ∧ ∀ j, j < l.length → w.cell? ⟨b, off + j, none⟩ = some (.int .i64 (getI l j)))

theorem IntsB.of {w : World} {v : Value} {l : List Int} (h : Ints w v l) : IntsB w.heap.size w v l := by
  obtain ⟨A, cap, rfl, _, _, hr⟩ := h
  exact ⟨A, cap, rfl, hr⟩
theorem IntsB.below {n₀ : Nat} {w w' : World} {v : Value} {l : List Int} (h : IntsB n₀ w v l) (hb : Below n₀ w w') : IntsB n₀ w' v l := by
  obtain ⟨A, cap, rfl, hr⟩ := h
  refine ⟨A, cap, rfl, fun h0 => ?_⟩
  obtain ⟨b, off, hA, hlt, hg⟩ := hr h0
  exact ⟨b, off, hA, hlt, fun j hj => (hb.cell (p := ⟨b, off + j, none⟩) hlt).trans (hg j hj)⟩

end Go.Proofs.Ytohaopfpjkhheaa
