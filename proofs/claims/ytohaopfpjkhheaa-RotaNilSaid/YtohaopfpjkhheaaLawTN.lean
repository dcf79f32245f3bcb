/-
  RotaNil: nil turns have nothing: the law's call answers true at every input.
-/
import Derived.Test.YtohaopfpjkhheaaRuD
namespace Go.Proofs.Ytohaopfpjkhheaa.Rt
open Go.Proofs.Ytohaopfpjkhheaa Go.RowKit Go.Maps Go.Shelf

attribute [local go_sem] Oper.semAt_some

section
variable (d : Int) (w : World)
set_option maxRecDepth 100000
set_option maxHeartbeats 1000000
theorem after_nil : Calls Try.prog 11 #[.pointer none, .int .i64 d] w fun e w' => e = .returned (.tuple #[.int .i64 0, .bool false]) ∧ w = w' := by
  go_enter Try.func11, Try.ntmps11
  go_wp2_with fail
  refine (step_nil d 1 w).mono ?_
  rintro e w1 ⟨rfl, rfl⟩
  go_wp2
  go_ret2
  exact ⟨rfl, rfl⟩
theorem before_nil : Calls Try.prog 12 #[.pointer none, .int .i64 d] w fun e w' => e = .returned (.tuple #[.int .i64 0, .bool false]) ∧ w = w' := by
  go_enter Try.func12, Try.ntmps12
  go_wp2_with fail
  refine (step_nil d (-1) w).mono ?_
  rintro e w1 ⟨rfl, rfl⟩
  go_wp2
  go_ret2
  exact ⟨rfl, rfl⟩
theorem next_nil (hwd : (Lit.int .i64 d).wf = true) : Calls Try.prog 13 #[.pointer none, .int .i64 d] w fun e w' => e = .returned (.tuple #[.int .i64 0, .bool false]) ∧ w = w' := by
  have hbd := wf_bounds hwd
  have HT := Lib.hid (ptwin_any d w (by omega) (by omega))
  have HS := Lib.hid (before_nil (twi d) w)
  clear hbd hwd
  generalize twi d = t at *
  go_enter Try.func13, Try.ntmps13
  go_wp2_with fail
  refine HT.out.mono ?_
  rintro e w1 ⟨rfl, rfl⟩
  go_wp2_with fail
  refine HS.out.mono ?_
  rintro e w1 ⟨rfl, rfl⟩
  go_wp2
  go_ret2
  exact ⟨rfl, rfl⟩
theorem back_nil : Calls Try.prog 14 #[.pointer none, .int .i64 d] w fun e w' => e = .returned (.tuple #[.int .i64 0, .bool false]) ∧ w = w' := by
  have HS := Lib.hid (after_nil d w)
  go_enter Try.func14, Try.ntmps14
  go_wp2_with fail
  refine HS.out.mono ?_
  rintro e w1 ⟨rfl, rfl⟩
  go_wp2
  go_ret2
  exact ⟨rfl, rfl⟩
end

set_option maxRecDepth 100000 in
set_option maxHeartbeats 4000000 in
theorem rotaNil_any (d : Int) (w : World) (hwd : (Lit.int .i64 d).wf = true) :
    Calls Try.prog 6 #[.int .i64 d] w fun e w' => e = .returned (.bool true) ∧ Below w.heap.size w w' := by
  refine (callsIn_wide (n := 6)).1 ?_
  refine callsIn_of_wp_marks Try.func6 rfl trivial ?_ rfl
  simp only [Try.ntmps6, List.size_toArray, List.length_cons, List.length_nil, Nat.reduceAdd, Nat.reduceSub, Array.replicate_succ, Array.replicate_zero, List.push_toArray, List.append_toArray, List.nil_append, List.cons_append]
  have HB0 := Lib.hid (below_alloc (w := w) (.cells #[.bool false] 4))
  have HD0 := Lib.hid (new_cell w (.bool false) 4)
  have HF0 := Lib.hid (new_thaw w #[.bool false] 4 0)
  have HS0 := Lib.hid (show (w.alloc (.cells #[.bool false] 4)).heap.size = w.heap.size + 1 by simp)
  gi_wp2_with fail
  generalize w.alloc (.cells #[.bool false] 4) = W0 at *
  refine ⟨trivial, (callsIn_wide.2 (tawake_any W0)).mono ?_⟩
  rintro e w1 ⟨rfl, hB1⟩
  have HB1 := Lib.hid hB1
  clear hB1
  gi_wp2_with fail
  refine ⟨trivial, (callsIn_wide.2 (after_nil d w1)).mono ?_⟩
  rintro e w' ⟨rfl, rfl⟩
  gi_wp2_with fail
  refine ⟨trivial, (callsIn_wide.2 (before_nil d w1)).mono ?_⟩
  rintro e w' ⟨rfl, rfl⟩
  gi_wp2_with fail
  refine ⟨trivial, (callsIn_wide.2 (next_nil d w1 hwd)).mono ?_⟩
  rintro e w' ⟨rfl, rfl⟩
  gi_wp2_with fail
  refine ⟨trivial, (callsIn_wide.2 (back_nil d w1)).mono ?_⟩
  rintro e w' ⟨rfl, rfl⟩
  gi_wp2_with fail
  refine ⟨trivial, (callsIn_wide.2 (darts_nil w1)).mono ?_⟩
  rintro e w4 ⟨Bs, sv, rfl, hBs1, hBs2, hBs3, hI, hB4⟩
  have HB4 := Lib.hid (trans2 HB1.out hB4)
  have HI := Lib.hid (iter_stops Fence.wide 5 trivial rfl (by omega) Bs sv [] (Nat.zero_le _) w4 hBs2 hBs3 hI)
  clear hBs1 hBs2 hBs3 hI hB4
  gi_wp2_with fail
  refine' wpIn_rangeFunc_ownF rfl (by omega) (gf := 39) (lb := #[.pointer (some ⟨Bs, 0, none⟩)]) rfl trivial (enters_of Try.func39 (by kernel_rfl) rfl)
    HI.out (fun h k => KpD.trans h k) (fun W l o o' _ ho hc _ => KpD.obj W l o o' ho hc) (Below.refl _ _) (fun _ => rfl)
    (fun _ W => Below w4.heap.size w4 W) (fun _ _ _ => False) (ownFrom_below (Nat.le_refl _) (Nat.le_refl _)) (fun _ _ _ _ _ hs _ _ => hs) (Below.refl _ _) _ ?assign ?body ?done ?stop
  case assign =>
    intro l x W K hK
    gi_wp2
    exact hK
  case body =>
    rintro l pre ⟨x, hx⟩ W hI hpl
    exact absurd hx List.not_mem_nil
  case stop =>
    rintro D c pre W hD hpre h hK
    exact h.elim
  case done =>
    rintro D ys W hD hys hBW hK
    have hlt0 : w.heap.size < W0.heap.size := by rw [HS0.out]; omega
    have hlt4 : w.heap.size < w4.heap.size := Nat.lt_of_lt_of_le hlt0 HB4.out.size
    have hcr := (hBW.cell (p := ⟨w.heap.size, 0, none⟩) hlt4).trans ((HB4.out.cell (p := ⟨w.heap.size, 0, none⟩) hlt0).trans HD0.out)
    have hfr := (hBW.frozen (p := ⟨w.heap.size, 0, none⟩) hlt4).trans ((HB4.out.frozen (p := ⟨w.heap.size, 0, none⟩) hlt0).trans HF0.out)
    have HZ := Lib.hid (show Below w.heap.size w W from HB0.out.trans ((HB4.out.trans (hBW.mono HB4.out.size)).mono HB0.out.size))
    clear hys hlt0 hBW
    gi_wp2_with fail
    refine ⟨trivial, (callsIn_wide.2 (at_nil 0 W)).mono ?_⟩
    rintro e w' ⟨rfl, rfl⟩
    gi_wp2_with fail
    refine ⟨trivial, (callsIn_wide.2 (turn_nil W)).mono ?_⟩
    rintro e w' ⟨rfl, rfl⟩
    gi_wp2_with fail
    refine ⟨trivial, (callsIn_wide.2 (mirror_nil W)).mono ?_⟩
    rintro e w' ⟨rfl, rfl⟩
    gi_wp2
    have hK' := (KeepsOthers.setCell W ⟨w.heap.size, 0, none⟩ (.bool true)).same D _ hK rfl
    have hc5 := World.cell?_setCell_same' W ⟨w.heap.size, 0, none⟩ (.bool true) (by rw [hcr]; rfl)
    have hB5 := HZ.out.setCell (p := ⟨w.heap.size, 0, none⟩) (Nat.le_refl _) (.bool true)
    refine ⟨by simp, .inl ⟨_, _, rfl, run_takeDeferred hK', ?_⟩⟩
    have hc6 := cell_kept hc5 (grownBy_putObj' _ D (.deferred none)) (fun r e => by cases e; exact ⟨_, hK', rfl⟩)
    refine ⟨.bool true, ?_, rfl, hB5.trans (belowK_b (w := w) (Nat.le_refl _) _ D _ _ (by omega) hK' rfl rfl)⟩
    simp [results, Try.f6, go_sem, hc6]

end Go.Proofs.Ytohaopfpjkhheaa.Rt
