/-
  Slices that read as lists: what a call that makes a slice leaves, and what its caller reads.
-/
import Derived.Below
import Derived.Laws.OwnMore
import Derived.Deep.Draws
import Derived.Lib.Hide
namespace Go.Proofs.Ytohaopfpjkhheaa
open Go.RowKit

/-- The slice value v has n elements of so many cells each; they read xs, and lie below block B. -/
def Sl (w : World) (B size : Nat) (v : Value) (n : Nat) (xs : List Value) : Prop :=
  xs.length = n * size ∧ ∃ A cap, v = .slice A n cap ∧ n ≤ cap ∧
    (0 < n → ∃ g, A = some ⟨g, 0, none⟩ ∧ g < B ∧ ∀ j u, xs[j]? = some u → w.cell? ⟨g, j, none⟩ = some u)

theorem Sl.of_own {w : World} {base : Nat} {e : TypeId} {size : Nat} {v : Value} {n : Nat} {xs : List Value} (h : w.ownsRow base e size v n xs) : Sl w w.heap.size size v n xs := by
  refine ⟨h.1, ?_⟩
  have hc := @World.ownsRow.cells w base e size v n xs h
  have hl := h.lt
  rcases h.2 with ⟨rfl, rfl⟩ | ⟨g, cap, cur, rfl, hb, hg, hnc, _⟩
  · exact ⟨none, 0, rfl, Nat.le_refl _, fun h => absurd h (by omega)⟩
  · refine ⟨some ⟨g, 0, none⟩, cap, rfl, hnc, fun _ => ⟨g, rfl, (hl g rfl).2, fun j u hu => ?_⟩⟩
    have := hc (g := g) rfl j u hu
    rw [Addr.add_lit, Nat.zero_add] at this
    exact this

theorem Sl.below {w w' : World} {B size : Nat} {v : Value} {n : Nat} {xs : List Value} (h : Sl w B size v n xs) (hb : Below B w w') : Sl w' B size v n xs := by
  obtain ⟨h1, A, cap, hv, hn, hc⟩ := h
  refine ⟨h1, A, cap, hv, hn, fun h0 => ?_⟩
  obtain ⟨g, hA, hg, hr⟩ := hc h0
  exact ⟨g, hA, hg, fun j u hu => (hb.cell (p := ⟨g, j, none⟩) hg).trans (hr j u hu)⟩

theorem Sl.more {w : World} {B B' size : Nat} {v : Value} {n : Nat} {xs : List Value} (h : Sl w B size v n xs) (hB : B ≤ B') : Sl w B' size v n xs := by
  obtain ⟨h1, A, cap, hv, hn, hc⟩ := h
  refine ⟨h1, A, cap, hv, hn, fun h0 => ?_⟩
  obtain ⟨g, hA, hg, hr⟩ := hc h0
  exact ⟨g, hA, by omega, hr⟩

/-- What a call owns stays owned where nothing that was there has changed. -/
theorem own_below {w w' : World} {base : Nat} {e : TypeId} {size : Nat} {v : Value} {n : Nat} {xs : List Value} (h : w.ownsRow base e size v n xs) (hb : Below w.heap.size w w') : w'.ownsRow base e size v n xs := by
  have hl := h.lt
  refine ⟨h.1, ?_⟩
  rcases h.2 with hn | ⟨g, cap, cur, rfl, hbg, hg, rest⟩
  · exact .inl hn
  · exact .inr ⟨g, cap, cur, rfl, hbg, by rw [hb.block g (hl g rfl).2]; exact hg, rest⟩

/-! ### Cells of new blocks, and of those that were there -/

theorem new_cell (W : World) (v : Value) (t : TypeId) : (W.alloc (.cells #[v] t)).cell? ⟨W.heap.size, 0, none⟩ = some v := cell_of_row _ _ 0 #[v] t (0, 0) (heap_alloc_new W _)
theorem new_thaw (W : World) (cs : Array Value) (t : TypeId) (j : Nat) : (W.alloc (.cells cs t)).frozen? ⟨W.heap.size, j, none⟩ = false := by
  unfold World.frozen?
  rw [heap_alloc_new W (.cells cs t)]
  simp
theorem old_cell {W : World} {a : Addr} {v : Value} (o : Obj) (h : W.cell? a = some v) : (W.alloc o).cell? a = some v :=
  (World.cell?_of_block (Below.heap_alloc W o a.block (World.block_lt_of_cell? W a h))).trans h
theorem old_thaw {W : World} {a : Addr} (o : Obj) (hl : a.block < W.heap.size) (h : W.frozen? a = false) : (W.alloc o).frozen? a = false :=
  (World.frozen?_of_block (Below.heap_alloc W o a.block hl)).trans h

/-- The number at a place of a list; the walk does not look behind this name. -/
def getI (l : List Int) (j : Nat) : Int := l.getD j 0

theorem ints_get (k : IntKind) (l : List Int) (j : Nat) (h : j < l.length) : (l.map (Value.int k))[j]? = some (.int k (getI l j)) := by
  unfold getI; simp [h]

end Go.Proofs.Ytohaopfpjkhheaa
