/-
  The program's upTo and Whole.
-/
import Derived.Test.YtohaopfpjkhheaaGrD
import Derived.Test.YtohaopfpjkhheaaPlan
namespace Go.Proofs.Ytohaopfpjkhheaa
open Go.RowKit

/-- The numbers from 0 to n - 1. -/
def countTo (n : Nat) : List Int := (List.range n).map (fun i : Nat => (i : Int))
theorem countTo_zero : countTo 0 = [] := rfl
theorem countTo_succ (n : Nat) : countTo (n + 1) = countTo n ++ [(n : Int)] := by unfold countTo; rw [List.range_succ, List.map_append]; rfl
theorem countTo_length (n : Nat) : (countTo n).length = n := by simp [countTo]
theorem countTo_get (n j : Nat) (h : j < n) : getI (countTo n) j = (j : Int) := by unfold getI countTo; simp [h]
theorem mem_countTo (n : Nat) (x : Int) : x ∈ countTo n ↔ 0 ≤ x ∧ x < n := by
  unfold countTo
  rw [List.mem_map]
  exact ⟨fun ⟨i, h, e⟩ => by have := List.mem_range.1 h; omega, fun ⟨h1, h2⟩ => ⟨x.toNat, List.mem_range.2 (by omega), by omega⟩⟩

/-- All of a right graph. -/
def Gph.whole (g : Gph) : Prt := if g.err = 0 then ⟨countTo g.n.toNat, countTo g.e.length⟩ else ⟨[], []⟩

def spInts (l : List Int) : Sp := ⟨fun w v => Ints w v l, false, fun _ _ _ hb h => h.below hb⟩
def spPt (p : Prt) : Sp := ⟨fun w v => Pt w v p, false, fun _ _ _ hb h => h.below hb⟩

/-- v is a slice of the call's own, in a block from base on, that reads as l. -/
def Row (w : World) (base : Nat) (v : Value) (l : List Int) : Prop := w.ownsRow base 3 1 v l.length (l.map (Value.int .i64))
theorem Row.below {w w' : World} {base : Nat} {v : Value} {l : List Int} (h : Row w base v l) (hb : Below w.heap.size w w') : Row w' base v l := own_below h hb
theorem Row.ints {w : World} {base : Nat} {v : Value} {l : List Int} (h : Row w base v l) : Ints w v l := Ints.of_own h
theorem Row.nil (w : World) (base : Nat) : Row w base (.slice none 0 0) [] := World.ownsRow_nil _ _ _ _
theorem own_block {w w' : World} {base : Nat} {e : TypeId} {size : Nat} {v : Value} {n : Nat} {xs : List Value} (h : w.ownsRow base e size v n xs) (hs : ∀ g, v.ownBlock = some g → w'.heap[g]? = w.heap[g]?) : w'.ownsRow base e size v n xs := by
  refine ⟨h.1, ?_⟩
  rcases h.2 with hn | ⟨g, cap, cur, rfl, hbg, hg, rest⟩
  · exact .inl hn
  · exact .inr ⟨g, cap, cur, rfl, hbg, by rw [hs g rfl]; exact hg, rest⟩
theorem Row.le {w : World} {base base' : Nat} {v : Value} {l : List Int} (h : Row w base v l) (hb : base' ≤ base) : Row w base' v l := by
  refine ⟨h.1, ?_⟩
  rcases h.2 with hn | ⟨g, cap, cur, rfl, hbg, rest⟩
  · exact .inl hn
  · exact .inr ⟨g, cap, cur, rfl, by omega, rest⟩
theorem Row.stored {w : World} {base : Nat} {v : Value} {l : List Int} (h : Row w base v l) {b : Nat} (hb : b < base) (u' v' : Value) : Row ((w.setCell ⟨b, 0, none⟩ u').setCell ⟨b, 1, none⟩ v') base v l :=
  own_block h fun g hg => by
    have h1 := (h.lt g hg).1
    exact (Below.heap_setCell _ _ _ _ (fun e => by simp only at e; omega)).trans (Below.heap_setCell _ _ _ _ (fun e => by simp only at e; omega))
def spRow (base : Nat) (l : List Int) : Sp := ⟨fun w v => Row w base v l, false, fun _ _ _ hb h => h.below hb⟩
/-- Two lists of the call's own, as a part. -/
def spPair (base : Nat) (p : Prt) : Sp := ⟨fun w v => ∃ v1 v2, v = .agg #[v1, v2] ∧ Row w base v1 p.v ∧ Row w base v2 p.e, false, fun _ _ _ hb ⟨v1, v2, e, h1, h2⟩ => ⟨v1, v2, e, h1.below hb, h2.below hb⟩⟩

/-- A part that is stored as a function's result. -/
theorem pair_stored {w wz : World} {base n b : Nat} {v : Value} {p : Prt} {x y : Value} (h : (spPair base p).p wz v) (hz : Box wz b x y) (hb : b < base) (hB : Below n w wz) (hn : n ≤ b) :
    ∃ A1 c1 A2 c2, v = .agg #[.slice A1 p.v.length c1, .slice A2 p.e.length c2] ∧
      Box ((wz.setCell ⟨b, 0, none⟩ (.slice A1 p.v.length c1)).setCell ⟨b, 1, none⟩ (.slice A2 p.e.length c2)) b (.slice A1 p.v.length c1) (.slice A2 p.e.length c2) ∧
      Below n w ((wz.setCell ⟨b, 0, none⟩ (.slice A1 p.v.length c1)).setCell ⟨b, 1, none⟩ (.slice A2 p.e.length c2)) ∧
      Pt ((wz.setCell ⟨b, 0, none⟩ (.slice A1 p.v.length c1)).setCell ⟨b, 1, none⟩ (.slice A2 p.e.length c2)) v p := by
  obtain ⟨v1, v2, rfl, h1, h2⟩ := h
  obtain ⟨A1, c1, rfl⟩ := ints_form h1.ints
  obtain ⟨A2, c2, rfl⟩ := ints_form h2.ints
  exact ⟨A1, c1, A2, c2, rfl, hz.stored _ _, below_stored hB hn, _, _, rfl, (h1.stored hb _ _).ints, (h2.stored hb _ _).ints⟩

theorem pair_stored2 {w wz : World} {base n b : Nat} {v : Value} {p : Prt} {x y : Value} (h : (spPair base p).p wz v) (hz : Box wz b x y) (hb : b < base) (hB : Below n w wz) (hn : n ≤ b) :
    ∃ A1 c1 A2 c2, v = .agg #[.slice A1 p.v.length c1, .slice A2 p.e.length c2] ∧
      Box ((wz.setCell ⟨b, 0, none⟩ (.slice A1 p.v.length c1)).setCell ⟨b, 1, none⟩ (.slice A2 p.e.length c2)) b (.slice A1 p.v.length c1) (.slice A2 p.e.length c2) ∧
      Below n w ((wz.setCell ⟨b, 0, none⟩ (.slice A1 p.v.length c1)).setCell ⟨b, 1, none⟩ (.slice A2 p.e.length c2)) ∧
      (spPair base p).p ((wz.setCell ⟨b, 0, none⟩ (.slice A1 p.v.length c1)).setCell ⟨b, 1, none⟩ (.slice A2 p.e.length c2)) v := by
  obtain ⟨v1, v2, rfl, h1, h2⟩ := h
  obtain ⟨A1, c1, rfl⟩ := ints_form h1.ints
  obtain ⟨A2, c2, rfl⟩ := ints_form h2.ints
  exact ⟨A1, c1, A2, c2, rfl, hz.stored _ _, below_stored hB hn, _, _, rfl, h1.stored hb _ _, h2.stored hb _ _⟩
theorem pair_pt {w : World} {base : Nat} {v : Value} {p : Prt} (h : (spPair base p).p w v) : Pt w v p := by
  obtain ⟨v1, v2, e, h1, h2⟩ := h
  exact ⟨v1, v2, e, h1.ints, h2.ints⟩
theorem pair_le {w : World} {base base' : Nat} {v : Value} {p : Prt} (h : (spPair base p).p w v) (hb : base' ≤ base) : (spPair base' p).p w v := by
  obtain ⟨v1, v2, e, h1, h2⟩ := h
  exact ⟨v1, v2, e, h1.le hb, h2.le hb⟩

end Go.Proofs.Ytohaopfpjkhheaa
