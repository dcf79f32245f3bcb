/-
  The program's Span.
-/
import Derived.Test.YtjnohnbppkhbaaaGrN
namespace Go.Proofs.Ytjnohnbppkhbaaa
open Go.RowKit

/-- Is a vertex an end of one of the edges? -/
def endOf (g : Gph) (v : Int) (e : Int) : Bool := decide ((getE g.e e.toNat).a = v ∨ (getE g.e e.toNat).b = v)
def endB (g : Gph) (l : List Int) (v : Int) : Bool := l.any (endOf g v)
/-- Edges and their ends. -/
def Gph.span (g : Gph) (l : List Int) : Prt := ⟨(countTo g.n.toNat).filter (endB g l), l⟩
def spanErr (g : Gph) (l : List Int) : Int := if g.err = 0 then (if riseB l g.e.length then 0 else 4) else g.err
def spanOf (g : Gph) (l : List Int) : Prt := if spanErr g l = 0 then g.span l else ⟨[], []⟩

theorem endB_zero (g : Gph) (l : List Int) (v : Int) : endB g (l.take 0) v = false := rfl
theorem endB_succ (g : Gph) (l : List Int) (v : Int) (k : Nat) (h : k < l.length) : endB g (l.take (k + 1)) v = (endB g (l.take k) v || endOf g v (getI l k)) := by
  unfold endB
  rw [take_succ_getI l k h, List.any_append]
  simp
theorem filter_succ (g : Gph) (l : List Int) (k : Nat) : (countTo (k + 1)).filter (endB g l) = (countTo k).filter (endB g l) ++ (if endB g l (k : Int) then [(k : Int)] else []) := by
  rw [countTo_succ, List.filter_append]
  congr 1
  by_cases h : endB g l (k : Int) = true
  · rw [if_pos h, List.filter_cons, if_pos h]; rfl
  · rw [if_neg h, List.filter_cons, if_neg h]; rfl
theorem filter_len (g : Gph) (l : List Int) (k : Nat) : ((countTo k).filter (endB g l)).length ≤ k := by
  have := List.length_filter_le (endB g l) (countTo k)
  rw [countTo_length] at this
  exact this

theorem Box.store0 {w : World} {b : Nat} {u v : Value} (h : Box w b u v) (u' : Value) : Box (w.setCell ⟨b, 0, none⟩ u') b u' v :=
  ⟨World.cell?_setCell_same _ _ _ h.c0, (World.cell?_setCell_other _ _ _ _ (by simp)).trans h.c1, by simpa [World.setCell] using h.lt, fun i => by rw [World.frozen?_setCell]; exact h.thaw i⟩
theorem Box.store1 {w : World} {b : Nat} {u v : Value} (h : Box w b u v) (v' : Value) : Box (w.setCell ⟨b, 1, none⟩ v') b u v' :=
  ⟨(World.cell?_setCell_other _ _ _ _ (by simp)).trans h.c0, World.cell?_setCell_same _ _ _ h.c1, by simpa [World.setCell] using h.lt, fun i => by rw [World.frozen?_setCell]; exact h.thaw i⟩
theorem Row.store {w : World} {base : Nat} {v : Value} {l : List Int} (h : Row w base v l) {b : Nat} (hb : b < base) (i : Nat) (u' : Value) : Row (w.setCell ⟨b, i, none⟩ u') base v l :=
  own_block h fun g hg => by
    have h1 := (h.lt g hg).1
    exact Below.heap_setCell _ _ _ _ (fun e => by simp only at e; omega)
/-- What lies below a base is as it was. -/
theorem Row.mid {w w' : World} {base n : Nat} {v : Value} {l : List Int} (h : Row w base v l) (hv : ∀ g, v.ownBlock = some g → g < n) (hb : Below n w w') : Row w' base v l :=
  own_block h fun g hg => hb.block g (hv g hg)

end Go.Proofs.Ytjnohnbppkhbaaa
