/-
  Darts: which vertex each leaves and comes to; the program's Ends, the document's Tail, Head, Twin.
-/
import Derived.Test.YtohaopfpjkhheaaGrE
namespace Go.Proofs.Ytohaopfpjkhheaa
open Go.RowKit

def tailOf (g : Gph) (d : Nat) : Int := if d % 2 = 0 then (getE g.e (d / 2)).a else (getE g.e (d / 2)).b
def twin (d : Nat) : Nat := if d % 2 = 0 then d + 1 else d - 1
def headOf (g : Gph) (d : Nat) : Int := tailOf g (twin d)

theorem twin_even {d : Nat} (h : d % 2 = 0) : twin d = d + 1 := if_pos h
theorem twin_odd {d : Nat} (h : ¬ d % 2 = 0) : twin d = d - 1 := if_neg h
theorem twin_half (d : Nat) : twin d / 2 = d / 2 := by unfold twin; split <;> omega
theorem twin_twin (d : Nat) : twin (twin d) = d := by unfold twin; split <;> split <;> omega
theorem twin_lt {d n : Nat} (h : d < 2 * n) : twin d < 2 * n := by unfold twin; split <;> omega
theorem head_even (g : Gph) {d : Nat} (h : d % 2 = 0) : headOf g d = (getE g.e (d / 2)).b := by
  unfold headOf tailOf
  rw [twin_half, twin_even h, if_neg (by omega)]
theorem head_odd (g : Gph) {d : Nat} (h : ¬ d % 2 = 0) : headOf g d = (getE g.e (d / 2)).a := by
  unfold headOf tailOf
  rw [twin_half, twin_odd h, if_pos (by omega)]

theorem quo_nat (d : Nat) : ((d : Int)).tdiv 2 = ((d / 2 : Nat) : Int) := by rw [Int.tdiv_eq_ediv_of_nonneg (by omega)]; rfl
theorem rem_nat (d : Nat) : ((d : Int)).tmod 2 = ((d % 2 : Nat) : Int) := by rw [Int.tmod_eq_emod_of_nonneg (by omega)]; rfl

set_option maxRecDepth 100000 in
set_option maxHeartbeats 1000000 in
theorem twin_any (d : Nat) (w : World) (hd : d ≤ 4000000) :
    Calls Try.prog 20 #[.int .i64 (d : Int)] w fun e w' => e = .returned (.int .i64 (twin d : Nat)) ∧ w = w' := by
  have hr := rem_nat d
  by_cases h : d % 2 = 0
  · have HN : Hid (((twin d : Nat) : Int) = (d : Int) + 1) := by rw [twin_even h]; rfl
    rw [h] at hr
    clear h
    go_enter Try.func20, Try.ntmps20
    go_wp2
    go_ret
    exact ⟨ret_int HN.out.symm, rfl⟩
  · have HN := Lib.hid (show ((twin d : Nat) : Int) = (d : Int) - 1 by rw [twin_odd h]; omega)
    have h1 : d % 2 = 1 := by omega
    rw [h1] at hr
    clear h h1
    go_enter Try.func20, Try.ntmps20
    go_wp2
    go_ret
    exact ⟨ret_int HN.out.symm, rfl⟩

set_option maxRecDepth 100000 in
set_option maxHeartbeats 1000000 in
theorem tail_any (v : Value) (g : Gph) (d : Nat) (w : World) (h : Gr w v g) (hd : d < 2 * g.e.length) (hl : g.e.length ≤ 1000000) :
    Calls Try.prog 43 #[v, .int .i64 (d : Int)] w fun e w' => e = .returned (.int .i64 (tailOf g d)) ∧ Below w.heap.size w w' := by
  obtain ⟨ve, rfl, h1⟩ := h
  obtain ⟨Ae, ce, rfl⟩ := h1.form
  obtain ⟨b1, hm⟩ := one_box w (.int .i64 g.n) (.slice Ae g.e.length ce) 24
  obtain ⟨be, oe, rfl, hbe, hca, hcb⟩ := edges_at (h1.below hm) (show d / 2 < g.e.length by omega)
  have c0 := b1.c0
  have c1 := b1.c1
  have HM := Lib.hid hm
  have hr := rem_nat d
  have hq := quo_nat d
  have hlt : ((d / 2 : Nat) : Int) < (g.e.length : Int) := by omega
  have h0 : (0 : Int) ≤ ((d / 2 : Nat) : Int) := by omega
  generalize hi : d / 2 = i at *
  clear b1 hm
  by_cases h2 : d % 2 = 0
  · have HN := Lib.hid (show (getE g.e i).a = tailOf g d by unfold tailOf; rw [if_pos h2, hi])
    rw [h2] at hr
    clear h2
    go_enter Try.func43, Try.ntmps43
    go_wp2
    go_ret
    exact ⟨ret_int HN.out, HM.out⟩
  · have HN := Lib.hid (show (getE g.e i).b = tailOf g d by unfold tailOf; rw [if_neg h2, hi])
    have h3 : d % 2 = 1 := by omega
    rw [h3] at hr
    clear h2 h3
    go_enter Try.func43, Try.ntmps43
    go_wp2
    go_ret
    exact ⟨ret_int HN.out, HM.out⟩


end Go.Proofs.Ytohaopfpjkhheaa
