/-
  The document's example, as the law's awake asks it.
-/
import Derived.Test.YtohaopfpjkhheaaRuB
import Derived.Test.YtohaopfpjkhheaaPlanIn
namespace Go.Proofs.Ytohaopfpjkhheaa.Rt
open Go.Proofs.Ytohaopfpjkhheaa Go.RowKit Go.Maps

def e0 : Gph := ⟨2, [⟨0, 1⟩, ⟨0, 1⟩]⟩
def p0 : Prt := ⟨countTo 2, countTo e0.e.length⟩
def T0 : List (List Int) := [[0, 2], [1, 3]]
theorem T0_turns : Turns e0 p0 T0 := terr_iff.1 (by decide +kernel)
theorem T0_row (j : Nat) : getT T0 j = [0, 2] ∨ getT T0 j = [1, 3] ∨ getT T0 j = [] := by
  match j with
  | 0 => exact .inl rfl
  | 1 => exact .inr (.inl rfl)
  | j + 2 => exact .inr (.inr (getT_out _ _ (by simp [T0])))
theorem T0_len (j : Nat) : (getT T0 j).length ≤ 500 := by
  rcases T0_row j with h | h | h <;> rw [h] <;> decide
theorem T0_wf (j : Nat) : ∀ x ∈ getT T0 j, (Lit.int .i64 x).wf = true := by
  rcases T0_row j with h | h | h <;> rw [h] <;> decide
theorem U0_len (j : Nat) : (getT (T0.map fst) j).length ≤ 1000000 := by
  rw [getT_map fst fst_nil, fst_len]
  have := T0_len j
  omega

theorem lit2_ints (w : World) (a b : Int) : Ints (w.alloc (.cells #[.int .i64 a, .int .i64 b] 3)) (.slice (some ⟨w.heap.size, 0, none⟩) 2 2) [a, b] := by
  refine ⟨_, _, rfl, Nat.le_refl _, by unfold maxLen; omega, fun _ => ⟨w.heap.size, 0, rfl, by simp, fun j hj => ?_⟩⟩
  have hj' : j < 2 := hj
  rcases (show j = 0 ∨ j = 1 by omega) with rfl | rfl
  · exact cell_two0 w (.int .i64 a) (.int .i64 b) 3
  · exact cell_two1 w (.int .i64 a) (.int .i64 b) 3
theorem lit2_lists {w : World} {u v : Value} {l m : List Int} (h : Ints w u l) (h' : Ints w v m) : LL (w.alloc (.cells #[u, v] 25)) (.slice (some ⟨w.heap.size, 0, none⟩) 2 2) [l, m] := by
  refine ⟨_, _, rfl, Nat.le_refl _, by unfold maxLen; omega, fun _ => ⟨w.heap.size, 0, rfl, by simp, fun j hj => ?_⟩⟩
  have hj' : j < 2 := hj
  rcases (show j = 0 ∨ j = 1 by omega) with rfl | rfl
  · exact ⟨u, cell_two0 w u v 25, h.below (below_alloc _)⟩
  · exact ⟨v, cell_two1 w u v 25, h'.below (below_alloc _)⟩

theorem e0_new (w : World) : Edges (w.alloc (.cells #[.int .i64 0, .int .i64 1, .int .i64 0, .int .i64 1] 55)) (.slice (some ⟨w.heap.size, 0, none⟩) 2 2) e0.e := by
  refine ⟨_, _, rfl, by decide, by unfold maxLen; omega, fun _ => ⟨w.heap.size, 0, rfl, by simp, fun j hj => ?_⟩⟩
  have hc : ∀ i, (w.alloc (.cells #[.int .i64 0, .int .i64 1, .int .i64 0, .int .i64 1] 55)).cell? ⟨w.heap.size, i, none⟩ = (#[.int .i64 0, .int .i64 1, .int .i64 0, .int .i64 1] : Array Value)[i]? := fun i => cell_of_row _ _ i _ _ (0, 0) (heap_alloc_new w _)
  have hj' : j < 2 := hj
  rcases (show j = 0 ∨ j = 1 by omega) with rfl | rfl
  · exact ⟨hc _, hc _⟩
  · exact ⟨hc _, hc _⟩

/-- What may be said of a value in a plan: lists; turns; what New answers. -/
def spLL (T : List (List Int)) : Sp := ⟨fun w v => LL w v T, false, fun _ _ _ hb h => h.below hb⟩
def spRo (g : Gph) (p : Prt) (U : List (List Int)) : Sp := ⟨fun w v => ∃ b, v = .pointer (some ⟨b, 0, none⟩) ∧ Ro w b g p U, false, fun _ _ _ hb ⟨b, e, h⟩ => ⟨b, e, h.below hb⟩⟩
def spNew (g : Gph) (p : Prt) (U : List (List Int)) : Sp := ⟨fun w v => ∃ b, v = .tuple #[.pointer (some ⟨b, 0, none⟩), .int .i64 0] ∧ Ro w b g p U, false, fun _ _ _ hb ⟨b, e, h⟩ => ⟨b, e, h.below hb⟩⟩

theorem newAns {w w' : World} {e : Ending} {g : Gph} {p : Prt} {T : List (List Int)} (h : Below w.heap.size w w' ∧ ((¬ terr g p T = 0 ∧ e = .returned (.tuple #[.pointer none, .int .i64 (terr g p T)])) ∨ (Turns g p T ∧ ∃ b, e = .returned (.tuple #[.pointer (some ⟨b, 0, none⟩), .int .i64 0]) ∧ Ro w' b g p (T.map fst)))) (hT : Turns g p T) :
    ∃ v, e = .returned v ∧ Below w.heap.size w w' ∧ (spNew g p (T.map fst)).p w' v := by
  obtain ⟨hb, ⟨hn, _⟩ | ⟨_, b, rfl, hr⟩⟩ := h
  · exact absurd (terr_iff.2 hT) hn
  · exact ⟨_, rfl, hb, b, rfl, hr⟩

set_option maxRecDepth 100000 in
set_option maxHeartbeats 4000000 in
theorem tawake_any (w : World) :
    Calls Try.prog 8 #[] w fun e w' => e = .returned (.bool true) ∧ Below w.heap.size w w' := by
  have he := e0_new w
  obtain ⟨b1, hm1⟩ := one_box (w.alloc (.cells #[.int .i64 0, .int .i64 1, .int .i64 0, .int .i64 1] 55)) (.int .i64 2) (.slice (some ⟨w.heap.size, 0, none⟩) 2 2) 24
  have hsz : (w.alloc (.cells #[.int .i64 0, .int .i64 1, .int .i64 0, .int .i64 1] 55)).heap.size = w.heap.size + 1 := by simp
  rw [hsz] at b1
  have B1 := Lib.hid b1
  have HM := Lib.hid (trans2 (below_alloc (w := w) (.cells #[.int .i64 0, .int .i64 1, .int .i64 0, .int .i64 1] 55)) hm1)
  have HG := Lib.hid (show Gr ((w.alloc (.cells #[.int .i64 0, .int .i64 1, .int .i64 0, .int .i64 1] 55)).alloc (.cells #[.int .i64 2, .slice (some ⟨w.heap.size, 0, none⟩) 2 2] 24)) (.agg #[.int .i64 2, .slice (some ⟨w.heap.size, 0, none⟩) 2 2]) e0 from ⟨_, rfl, he.below hm1⟩)
  clear he b1 hm1 hsz
  go_enter Try.func8, Try.ntmps8
  go_wp2_with fail
  generalize (w.alloc (.cells #[.int .i64 0, .int .i64 1, .int .i64 0, .int .i64 1] 55)).alloc (.cells #[.int .i64 2, .slice (some ⟨w.heap.size, 0, none⟩) 2 2] 24) = w1 at *
  -- region two
  refine wp_region_plan [is (.agg #[.int .i64 2, .slice (some ⟨w.heap.size, 0, none⟩) 2 2]), is (.agg #[.int .i64 2, .slice (some ⟨w.heap.size, 0, none⟩) 2 2]), spPt p0, spInts [0, 2], spInts [1, 3], spLL T0, spNew e0 p0 (T0.map fst), spNew e0 p0 (T0.map fst), spRo e0 p0 (T0.map fst), is (.int .i64 0), spRo e0 p0 (T0.map fst), is (.int .i64 0)] (by kernel_rfl) (by kernel_rfl) ?_ ?_
  · skip
    refine StepsP.cons ?_ ?_
    · refine step_val (fun a wx hB O D => ?_)
      have e1 : a.tmps[1]? = some (.pointer (some ⟨w.heap.size + 1, 0, none⟩)) := O 1 (by rfl)
      obtain ⟨c0, c1, _⟩ := B1.out.below hB
      clear O D
      exact ⟨rfl, by go_simp⟩
    refine StepsP.cons ?_ ?_
    · refine step_val (fun a wx hB O D => ?_)
      have e1 : a.tmps[1]? = some (.pointer (some ⟨w.heap.size + 1, 0, none⟩)) := O 1 (by rfl)
      obtain ⟨c0, c1, _⟩ := B1.out.below hB
      clear O D
      exact ⟨rfl, by go_simp⟩
    refine StepsP.cons ?_ ?_
    · refine step_call (enters_of Try.func28 (by kernel_rfl) rfl) rfl rfl (fun a wx hB O D => ?_)
      obtain ⟨_, e14, rfl⟩ := D 1 _ _ _ (by decide) rfl rfl rfl
      refine ⟨rfl, #[.agg #[.int .i64 2, .slice (some ⟨w.heap.size, 0, none⟩) 2 2]], by simp only [List.map_toArray, List.map_cons, List.map_nil, ev e14] <;> rfl, ?_⟩
      exact (rwhole_any _ e0 2 _ (HG.out.below hB) rfl (by decide) (by decide)).mono fun _ _ ⟨u, he, hb, hr⟩ => ⟨u, he, hb, hr⟩
    refine StepsP.cons ?_ ?_
    · refine step_make rfl (fun a wx hB O D => ?_)
      exact ⟨rfl, .slice (some ⟨wx.heap.size, 0, none⟩) 2 2, wx.alloc (.cells #[.int .i64 0, .int .i64 2] 3), by go_simp, below_alloc _, lit2_ints wx 0 2⟩
    refine StepsP.cons ?_ ?_
    · refine step_make rfl (fun a wx hB O D => ?_)
      exact ⟨rfl, .slice (some ⟨wx.heap.size, 0, none⟩) 2 2, wx.alloc (.cells #[.int .i64 1, .int .i64 3] 3), by go_simp, below_alloc _, lit2_ints wx 1 3⟩
    refine StepsP.cons ?_ ?_
    · refine step_make rfl (fun a wx hB O D => ?_)
      obtain ⟨v16, e16, s16⟩ := D 3 _ _ _ (by decide) rfl rfl rfl
      obtain ⟨v17, e17, s17⟩ := D 4 _ _ _ (by decide) rfl rfl rfl
      obtain ⟨A16, k16, rfl⟩ := ints_form s16
      obtain ⟨A17, k17, rfl⟩ := ints_form s17
      exact ⟨rfl, .slice (some ⟨wx.heap.size, 0, none⟩) 2 2, wx.alloc (.cells #[.slice A16 2 k16, .slice A17 2 k17] 25), by go_simp, below_alloc _, lit2_lists s16 s17⟩
    refine StepsP.cons ?_ ?_
    · refine step_call (enters_of Try.func10 (by kernel_rfl) rfl) rfl rfl (fun a wx hB O D => ?_)
      obtain ⟨_, e13, rfl⟩ := D 0 _ _ _ (by decide) rfl rfl rfl
      obtain ⟨v15, e15, s15⟩ := D 2 _ _ _ (by decide) rfl rfl rfl
      obtain ⟨v18, e18, s18⟩ := D 5 _ _ _ (by decide) rfl rfl rfl
      refine ⟨rfl, #[.agg #[.int .i64 2, .slice (some ⟨w.heap.size, 0, none⟩) 2 2], v15, v18], by simp only [List.map_toArray, List.map_cons, List.map_nil, ev e13, ev e15, ev e18] <;> rfl, ?_⟩
      exact (new_any _ _ _ e0 p0 T0 _ (HG.out.below hB) s15 s18 (by decide) (by decide) (by decide) (by decide) T0_len T0_wf).mono fun _ _ h => newAns h T0_turns
    refine StepsP.cons ?_ ?_
    · refine step_op rfl (fun a wx hB O D => ?_)
      obtain ⟨v19, e19, s19⟩ := D 6 _ _ _ (by decide) rfl rfl rfl
      exact ⟨rfl, v19, by unfold execOp; simp only [ev e19]; rfl, s19⟩
    refine StepsP.cons ?_ ?_
    · refine step_op rfl (fun a wx hB O D => ?_)
      obtain ⟨v12, e12, s12⟩ := D 7 _ _ _ (by decide) rfl rfl rfl
      obtain ⟨b12, rfl, r12⟩ := s12
      clear O D
      exact ⟨rfl, .pointer (some ⟨b12, 0, none⟩), by go_simp, b12, rfl, r12⟩
    refine StepsP.cons ?_ ?_
    · refine step_val (fun a wx hB O D => ?_)
      obtain ⟨v12, e12, s12⟩ := D 7 _ _ _ (by decide) rfl rfl rfl
      obtain ⟨b12, rfl, r12⟩ := s12
      clear O D
      exact ⟨rfl, by go_simp⟩
    refine StepsP.cons ?_ ?_
    · refine step_op rfl (fun a wx hB O D => ?_)
      obtain ⟨v20, e20, s20⟩ := D 8 _ _ _ (by decide) rfl rfl rfl
      exact ⟨rfl, v20, by unfold execOp; simp only [ev e20]; rfl, s20⟩
    refine StepsP.cons ?_ ?_
    · refine step_val (fun a wx hB O D => ?_)
      obtain ⟨_, e21, rfl⟩ := D 9 _ _ _ (by decide) rfl rfl rfl
      clear O D
      exact ⟨rfl, by unfold execOp; simp only [ev e21]; rfl⟩
    exact StepsP.nil
  · intro wz hZ
    refine EndP.is ?_
    refine EndP.is ?_
    refine EndP.sp rfl (fun v15 s15 => ?_)
    refine EndP.sp rfl (fun v16 s16 => ?_)
    refine EndP.sp rfl (fun v17 s17 => ?_)
    refine EndP.sp rfl (fun v18 s18 => ?_)
    refine EndP.sp rfl (fun v19 s19 => ?_)
    refine EndP.sp rfl (fun v12 s12 => ?_)
    refine EndP.sp rfl (fun v20 s20 => ?_)
    refine EndP.is ?_
    refine EndP.sp rfl (fun v2 s2 => ?_)
    refine EndP.is ?_
    refine EndP.nil ?_
  -- behind two
    refine wpList_nil ?_
    simp only [Act.put, List.setIfInBounds_toArray, List.set_cons_zero, List.set_cons_succ]
    obtain ⟨b, rfl, hR⟩ := s2
    have HU := Lib.hid (T0_turns.alike (alike_fst T0))
    have HZ := Lib.hid (trans2 HM.out hZ)
    have HN0 := Lib.hid (next_any b e0 p0 (T0.map fst) wz 0 hR HU.out (by decide) U0_len)
    rw [show stp p0 0 (nxt e0 (T0.map fst) 0) = 3 by decide +kernel, show decide (Dart p0 0) = true by decide +kernel] at HN0
    have HR := Lib.hid hR
    clear hR hZ
    go_wp2_with fail
    refine HN0.out.mono ?_
    rintro e w3 ⟨rfl, hB3⟩
    have HN3 := Lib.hid (next_any b e0 p0 (T0.map fst) w3 3 (HR.out.below hB3) HU.out (by decide) U0_len)
    rw [show stp p0 3 (nxt e0 (T0.map fst) 3) = 0 by decide +kernel, show decide (Dart p0 3) = true by decide +kernel] at HN3
    have HZ3 := Lib.hid (trans2 HZ.out hB3)
    clear hB3
    go_wp2_with fail
    refine HN3.out.mono ?_
    rintro e w4 ⟨rfl, hB4⟩
    have HZ4 := Lib.hid (trans2 HZ3.out hB4)
    clear hB4
    go_wp2
    go_ret
    exact ⟨rfl, HZ4.out⟩

end Go.Proofs.Ytohaopfpjkhheaa.Rt
