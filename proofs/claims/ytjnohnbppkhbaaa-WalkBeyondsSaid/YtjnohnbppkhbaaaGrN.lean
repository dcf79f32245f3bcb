/-
  The program's Drop.
-/
import Derived.Test.YtjnohnbppkhbaaaGrL
import Derived.Lib.SlKeysI
namespace Go.Proofs.Ytjnohnbppkhbaaa
open Go.RowKit Go.Shelf Go.Sort Go.Lib

/-- The part without an edge. -/
def dropL (l : List Int) (x : Int) : List Int := l.filter fun y => !decide (y = x)
def Prt.drop (p : Prt) (x : Int) : Prt := ⟨p.v, dropL p.e x⟩

theorem dropL_len (l : List Int) (x : Int) : (dropL l x).length ≤ l.length := List.length_filter_le _ _
theorem mem_dropL (l : List Int) (x z : Int) : z ∈ dropL l x ↔ z ∈ l ∧ z ≠ x := by
  unfold dropL
  rw [List.mem_filter]
  simp
theorem up_dropL {l : List Int} (h : Up l) (x : Int) : Up (dropL l x) := List.Pairwise.filter _ h
theorem drop_few {p : Prt} (h : p.few) (x : Int) : (p.drop x).few := ⟨h.1, Nat.le_trans (dropL_len _ _) h.2⟩

/-- The first few of a slice of the call's own. -/
theorem row_cut {w : World} {base : Nat} {g cap n : Nat} {l m : List Int} (h : w.ownsRow base 3 1 (.slice (some ⟨g, 0, none⟩) n cap) n ((l ++ m).map (Value.int .i64))) (hn : n = l.length + m.length) : Row w base (.slice (some ⟨g, 0, none⟩) l.length cap) l := by
  rcases h.2 with ⟨e, _⟩ | ⟨g', cap', cur, e, h1, h2, h3, h4, h5, h6⟩
  · cases e
  · cases e
    refine ⟨by simp, .inr ⟨g, cap, cur, rfl, h1, h2, by omega, h4, h5, ?_⟩⟩
    rw [Nat.mul_one] at h6 ⊢
    have h7 := congrArg (List.take l.length) h6
    rw [List.take_take, Nat.min_eq_left (by omega), List.map_append, List.take_left' (by simp)] at h7
    exact h7

theorem mid_boxes (w : World) (u v x u2 v2 : Value) (t t' t2 : TypeId) :
    Box (((w.alloc (.cells #[u, v] t)).alloc (.cells #[x] t')).alloc (.cells #[u2, v2] t2)) w.heap.size u v ∧ (((w.alloc (.cells #[u, v] t)).alloc (.cells #[x] t')).alloc (.cells #[u2, v2] t2)).cell? ⟨w.heap.size + 1, 0, none⟩ = some x ∧
      Box (((w.alloc (.cells #[u, v] t)).alloc (.cells #[x] t')).alloc (.cells #[u2, v2] t2)) (w.heap.size + 2) u2 v2 ∧
      Below w.heap.size w (((w.alloc (.cells #[u, v] t)).alloc (.cells #[x] t')).alloc (.cells #[u2, v2] t2)) := by
  obtain ⟨h1, h2⟩ := one_box w u v t
  have h3 := new_cell (w.alloc (.cells #[u, v] t)) x t'
  have h4 := below_alloc (w := w.alloc (.cells #[u, v] t)) (.cells #[x] t')
  obtain ⟨h5, h6⟩ := one_box ((w.alloc (.cells #[u, v] t)).alloc (.cells #[x] t')) u2 v2 t2
  have e1 : (w.alloc (.cells #[u, v] t)).heap.size = w.heap.size + 1 := by simp
  have e2 : ((w.alloc (.cells #[u, v] t)).alloc (.cells #[x] t')).heap.size = w.heap.size + 2 := by simp
  rw [e1] at h3
  rw [e2] at h5
  exact ⟨(h1.below h4).below h6, old_cell _ h3, h5, (h2.trans (h4.mono (by omega))).trans (h6.mono (by omega))⟩

end Go.Proofs.Ytjnohnbppkhbaaa
