/-
  The law's Small and awake.
-/
import Derived.Test.YtohaopfpjkhheaaGrU
namespace Go.Proofs.Ytohaopfpjkhheaa
open Go.RowKit

def smallB (g : Gph) (p : Prt) : Bool := decide (g.e.length ≤ 60 ∧ p.v.length ≤ 60 ∧ p.e.length ≤ 60 ∧ ¬ (60 < g.n ∧ g.n ≤ 1024))
def smallI (g : Gph) (p : Prt) : Int := if smallB g p then 1 else 0

set_option maxRecDepth 100000 in
set_option maxHeartbeats 1000000 in
theorem small_any (v u : Value) (g : Gph) (p : Prt) (w : World) (h : Gr w v g) (h' : Pt w u p) :
    Calls Try.prog 29 #[v, u] w fun e w' => e = .returned (.int .i64 (smallI g p)) ∧ Below w.heap.size w w' := by
  have HS := Lib.hid (show smallI g p = if smallB g p then 1 else 0 from rfl)
  obtain ⟨n, le⟩ := g
  obtain ⟨lv, lp⟩ := p
  obtain ⟨ve, rfl, h1⟩ := h
  obtain ⟨vv, vp, rfl, h2, h3⟩ := h'
  obtain ⟨Ae, ce, rfl⟩ := h1.form
  obtain ⟨Av, cv, rfl⟩ := ints_form h2
  obtain ⟨Ap, cp, rfl⟩ := ints_form h3
  simp only at h1 h2 h3 ⊢
  obtain ⟨b1, b2, hm⟩ := two_boxes w (.int .i64 n) (.slice Ae le.length ce) (.slice Av lv.length cv) (.slice Ap lp.length cp) 24 27
  have HM := Lib.hid hm
  have HSB := Lib.hid (show smallB ⟨n, le⟩ ⟨lv, lp⟩ = decide (le.length ≤ 60 ∧ lv.length ≤ 60 ∧ lp.length ≤ 60 ∧ ¬ (60 < n ∧ n ≤ 1024)) from rfl)
  have c0 := b1.c0
  have c1 := b1.c1
  have d0 := b2.c0
  have d1 := b2.c1
  clear b1 b2 hm h1 h2 h3
  generalize le.length = ne at *
  generalize lv.length = nv at *
  generalize lp.length = np at *
  by_cases q1 : 60 < ne
  · have HN := Lib.hid (show smallI ⟨n, le⟩ ⟨lv, lp⟩ = 0 by rw [HS.out, HSB.out, decide_eq_false (fun h => by omega)]; rfl)
    go_enter Try.func29, Try.ntmps29
    go_wp2
    go_ret
    exact ⟨ret_int HN.out.symm, HM.out⟩
  by_cases q2 : 60 < nv
  · have HN := Lib.hid (show smallI ⟨n, le⟩ ⟨lv, lp⟩ = 0 by rw [HS.out, HSB.out, decide_eq_false (fun h => by omega)]; rfl)
    go_enter Try.func29, Try.ntmps29
    go_wp2
    go_ret
    exact ⟨ret_int HN.out.symm, HM.out⟩
  by_cases q3 : 60 < np
  · have HN := Lib.hid (show smallI ⟨n, le⟩ ⟨lv, lp⟩ = 0 by rw [HS.out, HSB.out, decide_eq_false (fun h => by omega)]; rfl)
    go_enter Try.func29, Try.ntmps29
    go_wp2
    go_ret
    exact ⟨ret_int HN.out.symm, HM.out⟩
  by_cases q4 : 60 < n
  · by_cases q5 : n ≤ 1024
    · have HN := Lib.hid (show smallI ⟨n, le⟩ ⟨lv, lp⟩ = 0 by rw [HS.out, HSB.out, decide_eq_false (fun h => by omega)]; rfl)
      go_enter Try.func29, Try.ntmps29
      go_wp2
      go_ret
      exact ⟨ret_int HN.out.symm, HM.out⟩
    · have HN := Lib.hid (show smallI ⟨n, le⟩ ⟨lv, lp⟩ = 1 by rw [HS.out, HSB.out, decide_eq_true (by omega)]; rfl)
      go_enter Try.func29, Try.ntmps29
      go_wp2
      go_ret
      exact ⟨ret_int HN.out.symm, HM.out⟩
  · have HN := Lib.hid (show smallI ⟨n, le⟩ ⟨lv, lp⟩ = 1 by rw [HS.out, HSB.out, decide_eq_true (by omega)]; rfl)
    go_enter Try.func29, Try.ntmps29
    go_wp2
    go_ret
    exact ⟨ret_int HN.out.symm, HM.out⟩

/-- The document's example. -/
def g0 : Gph := ⟨2, [⟨0, 1⟩, ⟨1, 1⟩]⟩

theorem ints_lit1 (w : World) (x : Int) : Ints (w.alloc (.cells #[.int .i64 x] 3)) (.slice (some ⟨w.heap.size, 0, none⟩) 1 1) [x] := by
  refine ⟨_, _, rfl, Nat.le_refl _, by unfold maxLen; omega, fun _ => ⟨w.heap.size, 0, rfl, by simp, fun j hj => ?_⟩⟩
  obtain rfl : j = 0 := by simp at hj; exact hj
  exact new_cell w (.int .i64 x) 3

theorem g0_new (w : World) : Edges (w.alloc (.cells #[.int .i64 0, .int .i64 1, .int .i64 1, .int .i64 1] 55)) (.slice (some ⟨w.heap.size, 0, none⟩) 2 2) g0.e := by
  refine ⟨_, _, rfl, by decide, by unfold maxLen; omega, fun _ => ⟨w.heap.size, 0, rfl, by simp, fun j hj => ?_⟩⟩
  have hc : ∀ i, (w.alloc (.cells #[.int .i64 0, .int .i64 1, .int .i64 1, .int .i64 1] 55)).cell? ⟨w.heap.size, i, none⟩ = (#[.int .i64 0, .int .i64 1, .int .i64 1, .int .i64 1] : Array Value)[i]? := fun i => cell_of_row _ _ i _ _ (0, 0) (heap_alloc_new w _)
  have hj' : j < 2 := hj
  rcases (show j = 0 ∨ j = 1 by omega) with rfl | rfl
  · exact ⟨hc _, hc _⟩
  · exact ⟨hc _, hc _⟩

end Go.Proofs.Ytohaopfpjkhheaa
