/-
  The program's merge: its loop.
-/
import Derived.Test.YtjnohnbppkhbaaaGrJ
namespace Go.Proofs.Ytjnohnbppkhbaaa
open Go.RowKit

/-- What holds at each round's head. -/
structure Mg (w : World) (k : Int) (l m : List Int) (wr : World) (v0 v1 v7 : Value) (la lb out : List Int) : Prop where
  low : Below w.heap.size w wr
  a : Ints w v0 la
  b : Ints w v1 lb
  own : Row wr w.heap.size v7 out
  eq : out ++ mrg k la lb = mrg k l m
  len : out.length + la.length + lb.length ≤ l.length + m.length

theorem Mg.drew {w : World} {k : Int} {l m : List Int} {wr : World} {v0 v1 v7 : Value} {la lb out : List Int} (h : Mg w k l m wr v0 v1 v7 la lb out) (n : Nat) : Mg w k l m (wr.drewN n) v0 v1 v7 la lb out :=
  ⟨below_drewN h.low n, h.a, h.b, h.own.below (below_drewN' wr n), h.eq, h.len⟩

/-- A number has been taken, and put behind the others; or not. -/
theorem Mg.take {w : World} {k : Int} {l m : List Int} {wr w1 : World} {v0 v1 v7 u0 u1 u7 : Value} {la lb la' lb' out : List Int} {x : Int} {c : Prop} [Decidable c] (h : Mg w k l m wr v0 v1 v7 la lb out) (hc : c)
    (e : mrg k la lb = (if c then [x] else []) ++ mrg k la' lb') (ha : Ints w u0 la') (hb : Ints w u1 lb') (hl : la'.length + lb'.length + 1 ≤ la.length + lb.length) (ho : Row w1 w.heap.size u7 (out ++ [x])) (hB : Below w.heap.size w w1) : Mg w k l m w1 u0 u1 u7 la' lb' (out ++ [x]) :=
  ⟨hB, ha, hb, ho, by rw [← h.eq, e, if_pos hc, List.append_assoc], by have := h.len; simp; omega⟩
theorem Mg.pass {w : World} {k : Int} {l m : List Int} {wr : World} {v0 v1 v7 u0 u1 : Value} {la lb la' lb' out : List Int} {x : Int} {c : Prop} [Decidable c] (h : Mg w k l m wr v0 v1 v7 la lb out) (hc : ¬ c)
    (e : mrg k la lb = (if c then [x] else []) ++ mrg k la' lb') (ha : Ints w u0 la') (hb : Ints w u1 lb') (hl : la'.length + lb'.length + 1 ≤ la.length + lb.length) : Mg w k l m wr u0 u1 v7 la' lb' out :=
  ⟨h.low, ha, hb, h.own, by rw [← h.eq, e, if_neg hc, List.nil_append], by have := h.len; omega⟩

theorem ints_first {w : World} {n c : Nat} {A : Option Addr} {x : Int} {l : List Int} (h : Ints w (.slice A n c) (x :: l)) :
    ∃ b off, A = some ⟨b, off, none⟩ ∧ w.cell? ⟨b, off, none⟩ = some (.int .i64 x) ∧ b < w.heap.size ∧ 0 < n ∧ n ≤ c ∧ n = l.length + 1 := by
  obtain ⟨b, off, rfl, hb, hc⟩ := ints_at h (j := 0) (by simp)
  obtain ⟨h1, h2, _⟩ := ints_cap h
  simp at h1
  exact ⟨b, off, rfl, by rw [getI_zero, Nat.add_zero] at hc; exact hc, hb, by omega, h2, h1⟩

end Go.Proofs.Ytjnohnbppkhbaaa
