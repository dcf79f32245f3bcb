/-
  GLays, GrI, GrJ, GrK, GrL, in one text.
-/
import Derived.Test.YtmbpmepoaonleaaGreatLays
import Derived.Test.YtmbpmepoaonleaaGreatM02
import Derived.Test.YtmbpmepoaonleaaGreatM03
/-! The layings stand in one text. -/


/-! The program's Has, Same; slices.Equal, slices.Clone, slices.BinarySearch at lists of numbers. -/
namespace Go.Proofs.YtmbpmepoaonleaaGreat
open Go.RowKit Go.Shelf

end Go.Proofs.YtmbpmepoaonleaaGreat

/-! The program's merge: two rising lists, put together. -/
namespace Go.Proofs.YtmbpmepoaonleaaGreat
open Go.RowKit

theorem same_of {P : Program} {f : FuncId} {args : Array Value} {w : World} {v : Value} (h : Calls P f args w fun e w' => e = .returned v ∧ w = w') : Calls P f args w fun e w' => e = .returned v ∧ w' = w :=
  h.mono fun _ _ ⟨a, b⟩ => ⟨a, b.symm⟩

theorem isNaN_any (x : Int) (w : World) : Calls Tryz.prog 124 #[.int .i64 x] w fun e w' => e = .returned (.bool false) ∧ w = w' := by
  have h : (x != x) = false := by simp
  go_enter Tryz.func124, Tryz.ntmps124
  go_wp2
  go_ret
  exact ⟨rfl, rfl⟩

/-- As cmp.Compare. -/
def cmpI (x y : Int) : Int := if x < y then -1 else if y < x then 1 else 0

end Go.Proofs.YtmbpmepoaonleaaGreat

/-! The program's merge: its loop. -/
namespace Go.Proofs.YtmbpmepoaonleaaGreat
open Go.RowKit

/-- What holds at each round's head. -/
structure Mg (w : World) (k : Int) (l m : List Int) (wr : World) (v0 v1 v7 : Value) (la lb out : List Int) : Prop where
  low : Below w.heap.size w wr
  a : Ints w v0 la
  b : Ints w v1 lb
  own : Row wr w.heap.size v7 out
  eq : out ++ mrg k la lb = mrg k l m
  len : out.length + la.length + lb.length ≤ l.length + m.length

theorem Mg.drew {w : World} {k : Int} {l m : List Int} {wr : World} {v0 v1 v7 : Value} {la lb out : List Int} (h : Mg w k l m wr v0 v1 v7 la lb out) (n : Nat) : Mg w k l m (wr.drewN n) v0 v1 v7 la lb out :=
  ⟨below_drewN h.low n, h.a, h.b, h.own.below (below_drewN' wr n), h.eq, h.len⟩

/-- A number has been taken, and put behind the others; or not. -/
theorem Mg.take {w : World} {k : Int} {l m : List Int} {wr w1 : World} {v0 v1 v7 u0 u1 u7 : Value} {la lb la' lb' out : List Int} {x : Int} {c : Prop} [Decidable c] (h : Mg w k l m wr v0 v1 v7 la lb out) (hc : c)
    (e : mrg k la lb = (if c then [x] else []) ++ mrg k la' lb') (ha : Ints w u0 la') (hb : Ints w u1 lb') (hl : la'.length + lb'.length + 1 ≤ la.length + lb.length) (ho : Row w1 w.heap.size u7 (out ++ [x])) (hB : Below w.heap.size w w1) : Mg w k l m w1 u0 u1 u7 la' lb' (out ++ [x]) :=
  ⟨hB, ha, hb, ho, by rw [← h.eq, e, if_pos hc, List.append_assoc], by have := h.len; simp; omega⟩
end Go.Proofs.YtmbpmepoaonleaaGreat

/-! The program's And, Or, Within. -/
namespace Go.Proofs.YtmbpmepoaonleaaGreat
open Go.RowKit

def Prt.and (p q : Prt) : Prt := ⟨mrg 2 p.v q.v, mrg 2 p.e q.e⟩
def Prt.or (p q : Prt) : Prt := ⟨mrg 1 p.v q.v, mrg 1 p.e q.e⟩

/-- Not too long for the walk. -/
def Prt.few (p : Prt) : Prop := p.v.length ≤ 1000000 ∧ p.e.length ≤ 1000000

end Go.Proofs.YtmbpmepoaonleaaGreat
