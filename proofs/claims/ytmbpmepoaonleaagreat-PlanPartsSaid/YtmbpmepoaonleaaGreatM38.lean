/-
  GrY, in one text.
-/
import Derived.Test.YtmbpmepoaonleaaGreatM07
import Derived.Test.YtmbpmepoaonleaaGreatPlan
import Derived.Lib.SmallJoins
/-! New variables that hold parts: what a store leaves of the others. -/
namespace Go.Proofs.YtmbpmepoaonleaaGreat
open Go.RowKit

theorem zeroPart (w : World) : (zeroValue 27).run Tryz.prog w = .ok (.agg #[.slice none 0 0, .slice none 0 0]) w := by kernel_rfl

/-- A block that holds a part. -/
def PBox (w : World) (g : Nat) (u v : Value) : Prop := w.heap[g]? = some (.cells #[u, v] 27 (0, 0))
/-- The world in which block g holds another part. -/
def putPart (w : World) (g : Nat) (a b : Value) : World := (w.setCell ⟨g, 0, none⟩ a).setCell ⟨g, 1, none⟩ b

section
variable {w w' : World} {g h : Nat} {u v a b : Value}
theorem PBox.lt (hb : PBox w g u v) : g < w.heap.size := (Array.getElem?_eq_some_iff.1 hb).1
theorem PBox.below (hb : PBox w g u v) (hB : Below w.heap.size w w') : PBox w' g u v := (hB.block g hb.lt).trans hb
theorem PBox.box (hb : PBox w g u v) : Box w g u v :=
  ⟨(cell_of_row w g 0 _ _ (0, 0) hb), (cell_of_row w g 1 _ _ (0, 0) hb), hb.lt, fun i => by simp [World.frozen?, show w.heap[g]? = some (.cells #[u, v] 27 (0, 0)) from hb]⟩
theorem PBox.put (hb : PBox w g u v) (a b : Value) : PBox (putPart w g a b) g a b := by
  have h1 := Go.Joins.block_setCell (i := 0) hb a
  have h2 := Go.Joins.block_setCell (i := 1) h1 b
  exact h2
theorem put_heap (w : World) (g : Nat) (a b : Value) {k : Nat} (hk : k ≠ g) : (putPart w g a b).heap[k]? = w.heap[k]? :=
  (Below.heap_setCell _ _ _ _ hk).trans (Below.heap_setCell _ _ _ _ hk)
theorem PBox.other (hb : PBox w h u v) (hne : h ≠ g) (a b : Value) : PBox (putPart w g a b) h u v := (put_heap w g a b hne).trans hb
theorem Row.put {base : Nat} {x : Value} {l : List Int} (hr : Row w base x l) (hb : PBox w g u v) (a b : Value) : Row (putPart w g a b) base x l :=
  own_block hr fun k hk => put_heap w g a b (fun e => by
    subst e
    rcases hr.2 with ⟨rfl, _⟩ | ⟨g', cap, cur, rfl, _, hg, _⟩
    · cases hk
    · cases hk
      rw [show w.heap[g']? = some (.cells #[u, v] 27 (0, 0)) from hb] at hg
      simp only [Option.some.injEq, Obj.cells.injEq] at hg
      exact absurd hg.2.1 (by decide))
theorem pair_put {base : Nat} {x : Value} {p : Prt} (hr : (spPair base p).p w x) (hb : PBox w g u v) (a b : Value) : (spPair base p).p (putPart w g a b) x := by
  obtain ⟨v1, v2, e, h1, h2⟩ := hr
  exact ⟨v1, v2, e, h1.put hb a b, h2.put hb a b⟩
theorem put_below {n : Nat} {w0 : World} (hB : Below n w0 w) (hn : n ≤ g) (a b : Value) : Below n w0 (putPart w g a b) := below_stored hB hn
end

/-- A part is stored in a variable. -/
theorem wpList_store_part {w : World} {ops : Array Oper} {rest : List Oper} {o : Oper} {a : Act} {Q : Exit → Act → World → Prop} (hgd : o.guard = none) (hd : o.dst = none) {k j : Nat} (ho : o.op = .store 27 (.tmp k) (.tmp j))
    {g : Nat} {u v : Value} {A1 A2 : Option Addr} {n1 n2 c1 c2 : Nat} (ek : a.tmps[k]? = some (.pointer (some ⟨g, 0, none⟩))) (ej : a.tmps[j]? = some (.agg #[.slice A1 n1 c1, .slice A2 n2 c2])) (hb : PBox w g u v)
    (h : wpList Tryz.prog ops Q rest a (putPart w g (.slice A1 n1 c1) (.slice A2 n2 c2))) : wpList Tryz.prog ops Q (o :: rest) a w := by
  refine wpList_plain hgd fun _ hK => ?_
  obtain ⟨dst, op, ty, pos, after, guard⟩ := o
  subst ho hd
  have c0 := hb.box.c0
  have c1 := hb.box.c1
  have f0 := hb.box.thaw 0
  have f1 := hb.box.thaw 1
  go_simp
  exact hK _ _ h

def spBox (u v : Value) : Sp := ⟨fun w x => ∃ g, x = .pointer (some ⟨g, 0, none⟩) ∧ PBox w g u v, true, fun _ _ _ hB ⟨g, e, hb⟩ => ⟨g, e, hb.below hB⟩⟩
theorem spBox_new (w : World) : (spBox (.slice none 0 0) (.slice none 0 0)).p (w.alloc (.cells #[.slice none 0 0, .slice none 0 0] 27)) (.pointer (some ⟨w.heap.size, 0, none⟩)) :=
  ⟨_, rfl, heap_alloc_new w _⟩
theorem spBox_at {w : World} {g : Nat} {u v : Value} (h : (spBox u v).p w (.pointer (some ⟨g, 0, none⟩))) : PBox w g u v := by
  obtain ⟨g', e, hb⟩ := h
  cases e
  exact hb

end Go.Proofs.YtmbpmepoaonleaaGreat
