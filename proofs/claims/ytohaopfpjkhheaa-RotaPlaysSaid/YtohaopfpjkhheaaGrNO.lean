/-
  GrN, GrO, in one text.
-/
import Derived.Test.YtohaopfpjkhheaaGrJL
import Derived.Lib.SlKeysI
/-! The program's Drop. -/
namespace Go.Proofs.Ytohaopfpjkhheaa
open Go.RowKit Go.Shelf Go.Sort Go.Lib

/-- The part without an edge. -/
def dropL (l : List Int) (x : Int) : List Int := l.filter fun y => !decide (y = x)
def Prt.drop (p : Prt) (x : Int) : Prt := ⟨p.v, dropL p.e x⟩

theorem dropL_len (l : List Int) (x : Int) : (dropL l x).length ≤ l.length := List.length_filter_le _ _
theorem mem_dropL (l : List Int) (x z : Int) : z ∈ dropL l x ↔ z ∈ l ∧ z ≠ x := by
  unfold dropL
  rw [List.mem_filter]
  simp
theorem up_dropL {l : List Int} (h : Up l) (x : Int) : Up (dropL l x) := List.Pairwise.filter _ h
theorem drop_few {p : Prt} (h : p.few) (x : Int) : (p.drop x).few := ⟨h.1, Nat.le_trans (dropL_len _ _) h.2⟩

/-- The first few of a slice of the call's own. -/
theorem row_cut {w : World} {base : Nat} {g cap n : Nat} {l m : List Int} (h : w.ownsRow base 3 1 (.slice (some ⟨g, 0, none⟩) n cap) n ((l ++ m).map (Value.int .i64))) (hn : n = l.length + m.length) : Row w base (.slice (some ⟨g, 0, none⟩) l.length cap) l := by
  rcases h.2 with ⟨e, _⟩ | ⟨g', cap', cur, e, h1, h2, h3, h4, h5, h6⟩
  · cases e
  · cases e
    refine ⟨by simp, .inr ⟨g, cap, cur, rfl, h1, h2, by omega, h4, h5, ?_⟩⟩
    rw [Nat.mul_one] at h6 ⊢
    have h7 := congrArg (List.take l.length) h6
    rw [List.take_take, Nat.min_eq_left (by omega), List.map_append, List.take_left' (by simp)] at h7
    exact h7

theorem mid_boxes (w : World) (u v x u2 v2 : Value) (t t' t2 : TypeId) :
    Box (((w.alloc (.cells #[u, v] t)).alloc (.cells #[x] t')).alloc (.cells #[u2, v2] t2)) w.heap.size u v ∧ (((w.alloc (.cells #[u, v] t)).alloc (.cells #[x] t')).alloc (.cells #[u2, v2] t2)).cell? ⟨w.heap.size + 1, 0, none⟩ = some x ∧
      Box (((w.alloc (.cells #[u, v] t)).alloc (.cells #[x] t')).alloc (.cells #[u2, v2] t2)) (w.heap.size + 2) u2 v2 ∧
      Below w.heap.size w (((w.alloc (.cells #[u, v] t)).alloc (.cells #[x] t')).alloc (.cells #[u2, v2] t2)) := by
  obtain ⟨h1, h2⟩ := one_box w u v t
  have h3 := new_cell (w.alloc (.cells #[u, v] t)) x t'
  have h4 := below_alloc (w := w.alloc (.cells #[u, v] t)) (.cells #[x] t')
  obtain ⟨h5, h6⟩ := one_box ((w.alloc (.cells #[u, v] t)).alloc (.cells #[x] t')) u2 v2 t2
  have e1 : (w.alloc (.cells #[u, v] t)).heap.size = w.heap.size + 1 := by simp
  have e2 : ((w.alloc (.cells #[u, v] t)).alloc (.cells #[x] t')).heap.size = w.heap.size + 2 := by simp
  rw [e1] at h3
  rw [e2] at h5
  exact ⟨(h1.below h4).below h6, old_cell _ h3, h5, (h2.trans (h4.mono (by omega))).trans (h6.mono (by omega))⟩

end Go.Proofs.Ytohaopfpjkhheaa

/-! The program's Span. -/
namespace Go.Proofs.Ytohaopfpjkhheaa
open Go.RowKit

/-- Is a vertex an end of one of the edges? -/
def endOf (g : Gph) (v : Int) (e : Int) : Bool := decide ((getE g.e e.toNat).a = v ∨ (getE g.e e.toNat).b = v)
def endB (g : Gph) (l : List Int) (v : Int) : Bool := l.any (endOf g v)
/-- Edges and their ends. -/
def Gph.span (g : Gph) (l : List Int) : Prt := ⟨(countTo g.n.toNat).filter (endB g l), l⟩
def spanErr (g : Gph) (l : List Int) : Int := if g.err = 0 then (if riseB l g.e.length then 0 else 4) else g.err
def spanOf (g : Gph) (l : List Int) : Prt := if spanErr g l = 0 then g.span l else ⟨[], []⟩

theorem endB_zero (g : Gph) (l : List Int) (v : Int) : endB g (l.take 0) v = false := rfl
theorem endB_succ (g : Gph) (l : List Int) (v : Int) (k : Nat) (h : k < l.length) : endB g (l.take (k + 1)) v = (endB g (l.take k) v || endOf g v (getI l k)) := by
  unfold endB
  rw [take_succ_getI l k h, List.any_append]
  simp
theorem filter_succ (g : Gph) (l : List Int) (k : Nat) : (countTo (k + 1)).filter (endB g l) = (countTo k).filter (endB g l) ++ (if endB g l (k : Int) then [(k : Int)] else []) := by
  rw [countTo_succ, List.filter_append]
  congr 1
  by_cases h : endB g l (k : Int) = true
  · rw [if_pos h, List.filter_cons, if_pos h]; rfl
  · rw [if_neg h, List.filter_cons, if_neg h]; rfl
theorem filter_len (g : Gph) (l : List Int) (k : Nat) : ((countTo k).filter (endB g l)).length ≤ k := by
  have := List.length_filter_le (endB g l) (countTo k)
  rw [countTo_length] at this
  exact this

theorem Box.store0 {w : World} {b : Nat} {u v : Value} (h : Box w b u v) (u' : Value) : Box (w.setCell ⟨b, 0, none⟩ u') b u' v :=
  ⟨World.cell?_setCell_same _ _ _ h.c0, (World.cell?_setCell_other _ _ _ _ (by simp)).trans h.c1, by simpa [World.setCell] using h.lt, fun i => by rw [World.frozen?_setCell]; exact h.thaw i⟩
theorem Box.store1 {w : World} {b : Nat} {u v : Value} (h : Box w b u v) (v' : Value) : Box (w.setCell ⟨b, 1, none⟩ v') b u v' :=
  ⟨(World.cell?_setCell_other _ _ _ _ (by simp)).trans h.c0, World.cell?_setCell_same _ _ _ h.c1, by simpa [World.setCell] using h.lt, fun i => by rw [World.frozen?_setCell]; exact h.thaw i⟩
theorem Row.store {w : World} {base : Nat} {v : Value} {l : List Int} (h : Row w base v l) {b : Nat} (hb : b < base) (i : Nat) (u' : Value) : Row (w.setCell ⟨b, i, none⟩ u') base v l :=
  own_block h fun g hg => by
    have h1 := (h.lt g hg).1
    exact Below.heap_setCell _ _ _ _ (fun e => by simp only at e; omega)
/-- What lies below a base is as it was. -/
theorem Row.mid {w w' : World} {base n : Nat} {v : Value} {l : List Int} (h : Row w base v l) (hv : ∀ g, v.ownBlock = some g → g < n) (hb : Below n w w') : Row w' base v l :=
  own_block h fun g hg => hb.block g (hv g hg)

end Go.Proofs.Ytohaopfpjkhheaa
