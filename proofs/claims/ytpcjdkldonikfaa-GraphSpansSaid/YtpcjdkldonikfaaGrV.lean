/-
  The law's Small and awake.
-/
import Derived.Test.YtpcjdkldonikfaaGrU
namespace Go.Proofs.Ytpcjdkldonikfaa
open Go.RowKit

def smallB (g : Gph) (p : Prt) : Bool := decide (g.e.length ≤ 60 ∧ p.v.length ≤ 60 ∧ p.e.length ≤ 60 ∧ ¬ (60 < g.n ∧ g.n ≤ 1024))
def smallI (g : Gph) (p : Prt) : Int := if smallB g p then 1 else 0

set_option maxRecDepth 100000 in
set_option maxHeartbeats 1000000 in
theorem small_any (v u : Value) (g : Gph) (p : Prt) (w : World) (h : Gr w v g) (h' : Pt w u p) :
    Calls Try.prog 10 #[v, u] w fun e w' => e = .returned (.int .i64 (smallI g p)) ∧ Below w.heap.size w w' := by
  have HS := Lib.hid (show smallI g p = if smallB g p then 1 else 0 from rfl)
  obtain ⟨n, le⟩ := g
  obtain ⟨lv, lp⟩ := p
  obtain ⟨ve, rfl, h1⟩ := h
  obtain ⟨vv, vp, rfl, h2, h3⟩ := h'
  obtain ⟨Ae, ce, rfl⟩ := h1.form
  obtain ⟨Av, cv, rfl⟩ := ints_form h2
  obtain ⟨Ap, cp, rfl⟩ := ints_form h3
  simp only at h1 h2 h3 ⊢
  obtain ⟨b1, b2, hm⟩ := two_boxes w (.int .i64 n) (.slice Ae le.length ce) (.slice Av lv.length cv) (.slice Ap lp.length cp) 24 29
  have HM := Lib.hid hm
  have HSB := Lib.hid (show smallB ⟨n, le⟩ ⟨lv, lp⟩ = decide (le.length ≤ 60 ∧ lv.length ≤ 60 ∧ lp.length ≤ 60 ∧ ¬ (60 < n ∧ n ≤ 1024)) from rfl)
  have c0 := b1.c0
  have c1 := b1.c1
  have d0 := b2.c0
  have d1 := b2.c1
  clear b1 b2 hm h1 h2 h3
  generalize le.length = ne at *
  generalize lv.length = nv at *
  generalize lp.length = np at *
  by_cases q1 : 60 < ne
  · have HN := Lib.hid (show smallI ⟨n, le⟩ ⟨lv, lp⟩ = 0 by rw [HS.out, HSB.out, decide_eq_false (fun h => by omega)]; rfl)
    go_enter Try.func10, Try.ntmps10
    go_wp2
    go_ret
    exact ⟨ret_int HN.out.symm, HM.out⟩
  by_cases q2 : 60 < nv
  · have HN := Lib.hid (show smallI ⟨n, le⟩ ⟨lv, lp⟩ = 0 by rw [HS.out, HSB.out, decide_eq_false (fun h => by omega)]; rfl)
    go_enter Try.func10, Try.ntmps10
    go_wp2
    go_ret
    exact ⟨ret_int HN.out.symm, HM.out⟩
  by_cases q3 : 60 < np
  · have HN := Lib.hid (show smallI ⟨n, le⟩ ⟨lv, lp⟩ = 0 by rw [HS.out, HSB.out, decide_eq_false (fun h => by omega)]; rfl)
    go_enter Try.func10, Try.ntmps10
    go_wp2
    go_ret
    exact ⟨ret_int HN.out.symm, HM.out⟩
  by_cases q4 : 60 < n
  · by_cases q5 : n ≤ 1024
    · have HN := Lib.hid (show smallI ⟨n, le⟩ ⟨lv, lp⟩ = 0 by rw [HS.out, HSB.out, decide_eq_false (fun h => by omega)]; rfl)
      go_enter Try.func10, Try.ntmps10
      go_wp2
      go_ret
      exact ⟨ret_int HN.out.symm, HM.out⟩
    · have HN := Lib.hid (show smallI ⟨n, le⟩ ⟨lv, lp⟩ = 1 by rw [HS.out, HSB.out, decide_eq_true (by omega)]; rfl)
      go_enter Try.func10, Try.ntmps10
      go_wp2
      go_ret
      exact ⟨ret_int HN.out.symm, HM.out⟩
  · have HN := Lib.hid (show smallI ⟨n, le⟩ ⟨lv, lp⟩ = 1 by rw [HS.out, HSB.out, decide_eq_true (by omega)]; rfl)
    go_enter Try.func10, Try.ntmps10
    go_wp2
    go_ret
    exact ⟨ret_int HN.out.symm, HM.out⟩

/-- The document's example. -/
def g0 : Gph := ⟨2, [⟨0, 1⟩, ⟨1, 1⟩]⟩

theorem ints_lit1 (w : World) (x : Int) : Ints (w.alloc (.cells #[.int .i64 x] 3)) (.slice (some ⟨w.heap.size, 0, none⟩) 1 1) [x] := by
  refine ⟨_, _, rfl, Nat.le_refl _, by unfold maxLen; omega, fun _ => ⟨w.heap.size, 0, rfl, by simp, fun j hj => ?_⟩⟩
  obtain rfl : j = 0 := by simp at hj; exact hj
  exact new_cell w (.int .i64 x) 3

theorem g0_new (w : World) : Edges (w.alloc (.cells #[.int .i64 0, .int .i64 1, .int .i64 1, .int .i64 1] 56)) (.slice (some ⟨w.heap.size, 0, none⟩) 2 2) g0.e := by
  refine ⟨_, _, rfl, by decide, by unfold maxLen; omega, fun _ => ⟨w.heap.size, 0, rfl, by simp, fun j hj => ?_⟩⟩
  have hc : ∀ i, (w.alloc (.cells #[.int .i64 0, .int .i64 1, .int .i64 1, .int .i64 1] 56)).cell? ⟨w.heap.size, i, none⟩ = (#[.int .i64 0, .int .i64 1, .int .i64 1, .int .i64 1] : Array Value)[i]? := fun i => cell_of_row _ _ i _ _ (0, 0) (heap_alloc_new w _)
  have hj' : j < 2 := hj
  rcases (show j = 0 ∨ j = 1 by omega) with rfl | rfl
  · exact ⟨hc _, hc _⟩
  · exact ⟨hc _, hc _⟩

set_option maxRecDepth 100000 in
set_option maxHeartbeats 2000000 in
theorem awake_any (w : World) :
    Calls Try.prog 9 #[] w fun e w' => e = .returned (.bool true) ∧ Below w.heap.size w w' := by
  have he := g0_new w
  obtain ⟨b1, hm1⟩ := one_box (w.alloc (.cells #[.int .i64 0, .int .i64 1, .int .i64 1, .int .i64 1] 56)) (.int .i64 2) (.slice (some ⟨w.heap.size, 0, none⟩) 2 2) 24
  have hsz : (w.alloc (.cells #[.int .i64 0, .int .i64 1, .int .i64 1, .int .i64 1] 56)).heap.size = w.heap.size + 1 := by simp
  rw [hsz] at b1
  have B1 := Lib.hid b1
  have HM := Lib.hid (trans2 (below_alloc (w := w) (.cells #[.int .i64 0, .int .i64 1, .int .i64 1, .int .i64 1] 56)) hm1)
  have HG := Lib.hid (show Gr ((w.alloc (.cells #[.int .i64 0, .int .i64 1, .int .i64 1, .int .i64 1] 56)).alloc (.cells #[.int .i64 2, .slice (some ⟨w.heap.size, 0, none⟩) 2 2] 24)) (.agg #[.int .i64 2, .slice (some ⟨w.heap.size, 0, none⟩) 2 2]) g0 from ⟨_, rfl, he.below hm1⟩)
  clear he b1 hm1 hsz
  go_enter Try.func9, Try.ntmps9
  go_wp2_with fail
  generalize (w.alloc (.cells #[.int .i64 0, .int .i64 1, .int .i64 1, .int .i64 1] 56)).alloc (.cells #[.int .i64 2, .slice (some ⟨w.heap.size, 0, none⟩) 2 2] 24) = w1 at *
  refine wp_region_plan [is (.agg #[.int .i64 2, .slice (some ⟨w.heap.size, 0, none⟩) 2 2]), is (.agg #[.int .i64 2, .slice (some ⟨w.heap.size, 0, none⟩) 2 2]), spPt g0.whole, spRow w1.heap.size (dartsOf g0 g0.whole 1), spRow w1.heap.size (dartsOf g0 g0.whole 1)] (by kernel_rfl) (by kernel_rfl) ?_ ?_
  · skip
    refine StepsP.cons ?_ ?_
    · refine step_val (fun a wx hB O D => ?_)
      have e1 : a.tmps[1]? = some (.pointer (some ⟨w.heap.size + 1, 0, none⟩)) := O 1 (by rfl)
      obtain ⟨c0, c1, _⟩ := B1.out.below hB
      clear O D
      exact ⟨rfl, by go_simp⟩
    refine StepsP.cons ?_ ?_
    · refine step_val (fun a wx hB O D => ?_)
      have e1 : a.tmps[1]? = some (.pointer (some ⟨w.heap.size + 1, 0, none⟩)) := O 1 (by rfl)
      obtain ⟨c0, c1, _⟩ := B1.out.below hB
      clear O D
      exact ⟨rfl, by go_simp⟩
    refine StepsP.cons ?_ ?_
    · refine step_call (enters_of Try.func15 (by kernel_rfl) rfl) rfl rfl (fun a wx hB O D => ?_)
      obtain ⟨_, e10, rfl⟩ := D 1 _ _ _ (by decide) rfl rfl rfl
      refine ⟨rfl, #[.agg #[.int .i64 2, .slice (some ⟨w.heap.size, 0, none⟩) 2 2]], by simp only [List.map_toArray, List.map_cons, List.map_nil, ev e10] <;> rfl, ?_⟩
      exact whole_any _ g0 _ (HG.out.below hB) (by decide)
    refine StepsP.cons ?_ ?_
    · refine step_call (enters_of Try.func14 (by kernel_rfl) rfl) rfl rfl (fun a wx hB O D => ?_)
      obtain ⟨_, e9, rfl⟩ := D 0 _ _ _ (by decide) rfl rfl rfl
      obtain ⟨v11, e11, s11⟩ := D 2 _ _ _ (by decide) rfl rfl rfl
      refine ⟨rfl, #[.agg #[.int .i64 2, .slice (some ⟨w.heap.size, 0, none⟩) 2 2], v11, .int .i64 1], by simp only [List.map_toArray, List.map_cons, List.map_nil, ev e9, ev e11] <;> rfl, ?_⟩
      exact (darts_any _ _ g0 g0.whole 1 _ (HG.out.below hB) s11 (by decide) (by decide) (by decide)).mono fun _ _ ⟨u, he, hb, hr⟩ => ⟨u, he, hb, Row.le hr hB.size⟩
    refine StepsP.cons ?_ ?_
    · refine step_op rfl (fun a wx hB O D => ?_)
      obtain ⟨v12, e12, s12⟩ := D 3 _ _ _ (by decide) rfl rfl rfl
      exact ⟨rfl, v12, by unfold execOp; simp only [ev e12]; rfl, s12⟩
    exact StepsP.nil
  · intro wz hZ
    refine EndP.is ?_
    refine EndP.is ?_
    refine EndP.sp rfl (fun v11 s11 => ?_)
    refine EndP.sp rfl (fun v12 s12 => ?_)
    refine EndP.sp rfl (fun v2 s2 => ?_)
    refine EndP.nil ?_
    refine wpList_nil ?_
    have HZ := Lib.hid (trans2 HM.out hZ)
    have HG2 := Lib.hid (HG.out.below hZ)
    have hbx := B1.out.below hZ
    have c0 := hbx.c0
    have c1 := hbx.c1
    have ed : dartsOf g0 g0.whole 1 = [1, 2, 3] := by kernel_rfl
    have hI : Ints wz v2 [1, 2, 3] := by rw [← ed]; exact Row.ints s2
    have HI := Lib.hid hI
    obtain ⟨A2, k2, rfl⟩ := ints_form hI
    have hsp := span_any (.agg #[.int .i64 2, .slice (some ⟨w.heap.size, 0, none⟩) 2 2]) (.slice (some ⟨wz.heap.size, 0, none⟩) 1 1) g0 [1] (wz.alloc (.cells #[.int .i64 1] 3)) (HG2.out.below (below_alloc _)) (ints_lit1 wz 1) (by decide) (by decide)
    rw [show spanErr g0 [1] = 0 by kernel_rfl, show spanOf g0 [1] = ⟨[1], [1]⟩ by kernel_rfl] at hsp
    have HSP := Lib.hid hsp
    clear hZ hbx ed hI hsp s11 s12 s2 B1 HM HG HG2
    simp only [Act.put, List.setIfInBounds_toArray, List.set_cons_zero, List.set_cons_succ]
    go_wp2_with fail
    refine HSP.out.mono ?_
    rintro e w3 ⟨r, rfl, hB3, vv, vp, rfl, i1, i2⟩
    obtain ⟨A3, k3, rfl⟩ := ints_form i1
    obtain ⟨A4, k4, rfl⟩ := ints_form i2
    have hB4 := below_alloc (w := w3) (.cells #[.slice A3 1 k3, .slice A4 1 k4] 29)
    have hbx := (one_box w3 (.slice A3 1 k3) (.slice A4 1 k4) 29).1
    have hBB := trans2 (trans2 (below_alloc (w := wz) (.cells #[.int .i64 1] 3)) hB3) hB4
    obtain ⟨b3, o3, rfl, _, q3⟩ := ints_at (i1.below hB4) (j := 0) (by decide)
    have hI := HI.out.below hBB
    obtain ⟨b2, o2, rfl, _, p0⟩ := ints_at hI (j := 0) (by decide)
    obtain ⟨_, _, e1, _, p1⟩ := ints_at hI (j := 1) (by decide)
    cases e1
    obtain ⟨_, _, e2, _, p2⟩ := ints_at hI (j := 2) (by decide)
    cases e2
    rw [Nat.add_zero] at p0 q3
    replace p0 : _ = some (Value.int .i64 1) := p0
    replace p1 : _ = some (Value.int .i64 2) := p1
    replace p2 : _ = some (Value.int .i64 3) := p2
    replace q3 : _ = some (Value.int .i64 1) := q3
    have z0 := hbx.c0
    have z1 := hbx.c1
    have HEND := Lib.hid (trans2 HZ.out hBB)
    clear hB3 hB4 hBB i1 i2 hbx HSP HI hI c0 c1
    go_wp2
    go_ret
    exact ⟨rfl, HEND.out⟩

end Go.Proofs.Ytpcjdkldonikfaa
