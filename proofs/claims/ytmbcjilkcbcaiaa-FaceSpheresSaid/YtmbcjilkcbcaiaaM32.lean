/-
  FpK, FpL, FpM, in one text.
-/
import Derived.Test.YtmbcjilkcbcaiaaM31
import Derived.Test.YtmbcjilkcbcaiaaM26
import Derived.Test.YtmbcjilkcbcaiaaM21
import Derived.Test.YtmbcjilkcbcaiaaM04
/-! The document's example, as the law's awake asks it. -/
namespace Go.Proofs.Ytmbcjilkcbcaiaa.Fc
open Go.Proofs.Ytmbcjilkcbcaiaa Go.RowKit Go.Maps

def W0 : List Wlk := [(0, [0, 3]), (1, [1, 2])]
theorem walks0 : walksOf Rt.e0 Rt.p0 Rt.T0 = W0 := by decide +kernel
theorem sph0 : (decide (Rt.terr Rt.e0 Rt.p0 Rt.T0 = 0) && sphB (genL Rt.e0 Rt.p0 Rt.T0)) = true := by decide +kernel

/-- What may be said of a value in a plan: walks; what Walks answers. -/
def spWL (L : List Wlk) : Sp := ⟨fun w v => TwoL w v (L.map cmp), false, fun _ _ _ hb h => h.below hb⟩
def spWR (L : List Wlk) : Sp := ⟨fun w v => ∃ m, v = .tuple #[m, .int .i64 0] ∧ TwoL w m (L.map cmp), false, fun _ _ _ hb ⟨m, e, h⟩ => ⟨m, e, h.below hb⟩⟩
theorem walksAns {w w' : World} {e : Ending} {g : Gph} {p : Prt} {T : List (List Int)} {base : Nat} (h : Below w.heap.size w w' ∧ ((¬ Rt.terr g p T = 0 ∧ e = .returned (.tuple #[.slice none 0 0, .int .i64 (Rt.terr g p T)])) ∨ (Rt.Turns g p T ∧ ∃ m us, e = .returned (.tuple #[m, .int .i64 0]) ∧ Twos 36 w' base m us ((walksOf g p T).map cmp)))) (hT : Rt.Turns g p T) :
    ∃ v, e = .returned v ∧ Below w.heap.size w w' ∧ (spWR (walksOf g p T)).p w' v := by
  obtain ⟨hb, ⟨hn, _⟩ | ⟨_, m, us, rfl, hr⟩⟩ := h
  · exact absurd (Rt.terr_iff.2 hT) hn
  · exact ⟨_, rfl, hb, m, rfl, hr.reads⟩

set_option maxRecDepth 100000 in
set_option maxHeartbeats 8000000 in
theorem fawake_any (w : World) :
    Calls Try.prog 8 #[] w fun e w' => e = .returned (.bool true) ∧ Below w.heap.size w w' := by
  have he := Rt.e0_new w
  obtain ⟨b1, hm1⟩ := one_box (w.alloc (.cells #[.int .i64 0, .int .i64 1, .int .i64 0, .int .i64 1] 56)) (.int .i64 2) (.slice (some ⟨w.heap.size, 0, none⟩) 2 2) 24
  have hsz : (w.alloc (.cells #[.int .i64 0, .int .i64 1, .int .i64 0, .int .i64 1] 56)).heap.size = w.heap.size + 1 := by simp
  rw [hsz] at b1
  have B1 := Lib.hid b1
  have HM := Lib.hid (trans2 (below_alloc (w := w) (.cells #[.int .i64 0, .int .i64 1, .int .i64 0, .int .i64 1] 56)) hm1)
  have HG := Lib.hid (show Gr ((w.alloc (.cells #[.int .i64 0, .int .i64 1, .int .i64 0, .int .i64 1] 56)).alloc (.cells #[.int .i64 2, .slice (some ⟨w.heap.size, 0, none⟩) 2 2] 24)) (.agg #[.int .i64 2, .slice (some ⟨w.heap.size, 0, none⟩) 2 2]) Rt.e0 from ⟨_, rfl, he.below hm1⟩)
  clear he b1 hm1 hsz
  go_enter Try.func8, Try.ntmps8
  go_wp2_with fail
  generalize (w.alloc (.cells #[.int .i64 0, .int .i64 1, .int .i64 0, .int .i64 1] 56)).alloc (.cells #[.int .i64 2, .slice (some ⟨w.heap.size, 0, none⟩) 2 2] 24) = w1 at *
  -- region two
  refine wp_region_plan [is (.agg #[.int .i64 2, .slice (some ⟨w.heap.size, 0, none⟩) 2 2]), is (.agg #[.int .i64 2, .slice (some ⟨w.heap.size, 0, none⟩) 2 2]), spPt Rt.p0, spInts [0, 2], spInts [1, 3], Rt.spLL Rt.T0, spWR W0, spWR W0, spWL W0, is (.int .i64 0), spWL W0, is (.int .i64 0)] (by kernel_rfl) (by kernel_rfl) ?_ ?_
  · skip
    refine StepsP.cons ?_ ?_
    · refine step_val (fun a wx hB O D => ?_)
      have e1 : a.tmps[1]? = some (.pointer (some ⟨w.heap.size + 1, 0, none⟩)) := O 1 (by rfl)
      obtain ⟨c0, c1, _⟩ := B1.out.below hB
      clear O D
      exact ⟨rfl, by go_simp⟩
    refine StepsP.cons ?_ ?_
    · refine step_val (fun a wx hB O D => ?_)
      have e1 : a.tmps[1]? = some (.pointer (some ⟨w.heap.size + 1, 0, none⟩)) := O 1 (by rfl)
      obtain ⟨c0, c1, _⟩ := B1.out.below hB
      clear O D
      exact ⟨rfl, by go_simp⟩
    refine StepsP.cons ?_ ?_
    · refine step_call (enters_of Try.func24 (by kernel_rfl) rfl) rfl rfl (fun a wx hB O D => ?_)
      obtain ⟨_, e10, rfl⟩ := D 1 _ _ _ (by decide) rfl rfl rfl
      refine ⟨rfl, #[.agg #[.int .i64 2, .slice (some ⟨w.heap.size, 0, none⟩) 2 2]], by simp only [List.map_toArray, List.map_cons, List.map_nil, ev e10] <;> rfl, ?_⟩
      exact (rwhole_any _ Rt.e0 2 _ (HG.out.below hB) rfl (by decide) (by decide)).mono fun _ _ ⟨u, he, hb, hr⟩ => ⟨u, he, hb, hr⟩
    refine StepsP.cons ?_ ?_
    · refine step_make rfl (fun a wx hB O D => ?_)
      exact ⟨rfl, .slice (some ⟨wx.heap.size, 0, none⟩) 2 2, wx.alloc (.cells #[.int .i64 0, .int .i64 2] 3), by go_simp, below_alloc _, Rt.lit2_ints wx 0 2⟩
    refine StepsP.cons ?_ ?_
    · refine step_make rfl (fun a wx hB O D => ?_)
      exact ⟨rfl, .slice (some ⟨wx.heap.size, 0, none⟩) 2 2, wx.alloc (.cells #[.int .i64 1, .int .i64 3] 3), by go_simp, below_alloc _, Rt.lit2_ints wx 1 3⟩
    refine StepsP.cons ?_ ?_
    · refine step_make rfl (fun a wx hB O D => ?_)
      obtain ⟨v12, e12, s12⟩ := D 3 _ _ _ (by decide) rfl rfl rfl
      obtain ⟨v13, e13, s13⟩ := D 4 _ _ _ (by decide) rfl rfl rfl
      obtain ⟨A12, k12, rfl⟩ := ints_form s12
      obtain ⟨A13, k13, rfl⟩ := ints_form s13
      exact ⟨rfl, .slice (some ⟨wx.heap.size, 0, none⟩) 2 2, wx.alloc (.cells #[.slice A12 2 k12, .slice A13 2 k13] 25), by go_simp, below_alloc _, Rt.lit2_lists s12 s13⟩
    refine StepsP.cons ?_ ?_
    · refine step_call (enters_of Try.func10 (by kernel_rfl) rfl) rfl rfl (fun a wx hB O D => ?_)
      obtain ⟨_, e9, rfl⟩ := D 0 _ _ _ (by decide) rfl rfl rfl
      obtain ⟨v11, e11, s11⟩ := D 2 _ _ _ (by decide) rfl rfl rfl
      obtain ⟨v14, e14, s14⟩ := D 5 _ _ _ (by decide) rfl rfl rfl
      refine ⟨rfl, #[.agg #[.int .i64 2, .slice (some ⟨w.heap.size, 0, none⟩) 2 2], v11, v14], by simp only [List.map_toArray, List.map_cons, List.map_nil, ev e9, ev e11, ev e14] <;> rfl, ?_⟩
      exact (walks_any _ _ _ Rt.e0 Rt.p0 Rt.T0 _ (HG.out.below hB) s11 s14 (by decide) (by decide) (by decide) (by decide) Rt.T0_len Rt.T0_wf).mono fun _ _ h => by rw [← walks0]; exact walksAns h Rt.T0_turns
    refine StepsP.cons ?_ ?_
    · refine step_op rfl (fun a wx hB O D => ?_)
      obtain ⟨v15, e15, s15⟩ := D 6 _ _ _ (by decide) rfl rfl rfl
      exact ⟨rfl, v15, by unfold execOp; simp only [ev e15]; rfl, s15⟩
    refine StepsP.cons ?_ ?_
    · refine step_op rfl (fun a wx hB O D => ?_)
      obtain ⟨v8, e8, s8⟩ := D 7 _ _ _ (by decide) rfl rfl rfl
      obtain ⟨m8, rfl, r8⟩ := s8
      clear O D
      exact ⟨rfl, m8, by go_simp, r8⟩
    refine StepsP.cons ?_ ?_
    · refine step_val (fun a wx hB O D => ?_)
      obtain ⟨v8, e8, s8⟩ := D 7 _ _ _ (by decide) rfl rfl rfl
      obtain ⟨m8, rfl, r8⟩ := s8
      clear O D
      exact ⟨rfl, by go_simp⟩
    refine StepsP.cons ?_ ?_
    · refine step_op rfl (fun a wx hB O D => ?_)
      obtain ⟨v16, e16, s16⟩ := D 8 _ _ _ (by decide) rfl rfl rfl
      exact ⟨rfl, v16, by unfold execOp; simp only [ev e16]; rfl, s16⟩
    refine StepsP.cons ?_ ?_
    · refine step_val (fun a wx hB O D => ?_)
      obtain ⟨_, e17, rfl⟩ := D 9 _ _ _ (by decide) rfl rfl rfl
      clear O D
      exact ⟨rfl, by unfold execOp; simp only [ev e17]; rfl⟩
    exact StepsP.nil
  · intro wz hZ
    refine EndP.is ?_
    refine EndP.is ?_
    refine EndP.sp rfl (fun v11 s11 => ?_)
    refine EndP.sp rfl (fun v12 s12 => ?_)
    refine EndP.sp rfl (fun v13 s13 => ?_)
    refine EndP.sp rfl (fun v14 s14 => ?_)
    refine EndP.sp rfl (fun v15 s15 => ?_)
    refine EndP.sp rfl (fun v8 s8 => ?_)
    refine EndP.sp rfl (fun v16 s16 => ?_)
    refine EndP.is ?_
    refine EndP.sp rfl (fun v2 s2 => ?_)
    refine EndP.is ?_
    refine EndP.nil ?_
  -- behind two
    refine wpList_nil ?_
    simp only [Act.put, List.setIfInBounds_toArray, List.set_cons_zero, List.set_cons_succ]
    have HZ := Lib.hid (trans2 HM.out hZ)
    have HG2 := Lib.hid (HG.out.below hZ)
    have HB2 := Lib.hid (B1.out.below hZ)
    have hTL : TwoL wz v2 (W0.map cmp) := s2
    obtain ⟨A0, wc, e0', _, _, h0⟩ := id hTL
    obtain ⟨wb, hA0, hwb, hg⟩ := h0 (by decide)
    subst hA0
    subst e0'
    obtain ⟨u1, u2, k1, k2, k3, k4⟩ := hg 0 (by decide)
    obtain ⟨u3, u4, k5, k6, k7, k8⟩ := hg 1 (by decide)
    obtain ⟨A1, cc1, rfl⟩ := ints_form (l := [0, 3]) k4
    obtain ⟨A2, cc2, rfl⟩ := ints_form (l := [1, 2]) k8
    have HI1 := Lib.hid (show Ints wz (.slice A1 2 cc1) [0, 3] from k4)
    have HI2 := Lib.hid (show Ints wz (.slice A2 2 cc2) [1, 2] from k8)
    have HC1 := Lib.hid (show wz.cell? ⟨wb, 1, none⟩ = some (.slice A1 2 cc1) from k2)
    have HC2 := Lib.hid (show wz.cell? ⟨wb, 3, none⟩ = some (.slice A2 2 cc2) from k6)
    have HWB := Lib.hid hwb
    rw [show (List.map cmp W0).length = 2 from rfl]
    clear hTL h0 hg k1 k2 k3 k4 k5 k6 k7 k8 hwb hZ s2 HM HG B1
    go_wp2_with fail
    -- region three
    refine wp_region_plan [is (.int .i64 0), is (.bool true), is (.bool true), is (.slice (some ⟨wb, 0, none⟩) 2 wc), is (.int .i64 2), is (.bool true), is (.bool true), is (.bool true), is (.slice (some ⟨wb, 0, none⟩) 2 wc), is (.pointer (some ⟨wb, 0, none⟩)), is (.pointer (some ⟨wb, 1, none⟩)), is (.slice A1 2 cc1), spInts [0, 3], is (.bool true), is (.bool true), is (.bool true), is (.slice (some ⟨wb, 0, none⟩) 2 wc), is (.pointer (some ⟨wb, 2, none⟩)), is (.pointer (some ⟨wb, 3, none⟩)), is (.slice A2 2 cc2), spInts [1, 2], is (.bool true), is (.bool true), is (.bool true), is (.agg #[.int .i64 2, .slice (some ⟨w.heap.size, 0, none⟩) 2 2]), is (.agg #[.int .i64 2, .slice (some ⟨w.heap.size, 0, none⟩) 2 2]), spPt Rt.p0, spInts [0, 2], spInts [1, 3], Rt.spLL Rt.T0, is (.bool true), is (.bool true), is (.bool true)] (by kernel_rfl) (by kernel_rfl) ?_ ?_
    · skip
      refine StepsP.cons ?_ ?_
      · refine step_val (fun a wx hB O D => ?_)
        have e3 : a.tmps[3]? = some (.int .i64 0) := O 3 (by rfl)
        clear O D
        exact ⟨rfl, by unfold execOp; simp only [ev e3]; rfl⟩
      refine StepsP.cons ?_ ?_
      · refine step_val (fun a wx hB O D => ?_)
        obtain ⟨_, e18, rfl⟩ := D 0 _ _ _ (by decide) rfl rfl rfl
        clear O D
        exact ⟨rfl, by go_simp⟩
      refine StepsP.cons ?_ ?_
      · refine step_val (fun a wx hB O D => ?_)
        obtain ⟨_, e19, rfl⟩ := D 1 _ _ _ (by decide) rfl rfl rfl
        clear O D
        exact ⟨rfl, by unfold execOp; simp only [ev e19]; rfl⟩
      refine StepsP.cons ?_ ?_
      · refine step_val (fun a wx hB O D => ?_)
        have e2 : a.tmps[2]? = some (.slice (some ⟨wb, 0, none⟩) 2 wc) := O 2 (by rfl)
        obtain ⟨_, e20, rfl⟩ := D 2 _ _ _ (by decide) rfl rfl rfl
        clear O D
        exact ⟨wanted_of rfl rfl e20 rfl, by unfold execOp; simp only [ev e2]; rfl⟩
      refine StepsP.cons ?_ ?_
      · refine step_val (fun a wx hB O D => ?_)
        obtain ⟨_, e21, rfl⟩ := D 3 _ _ _ (by decide) rfl rfl rfl
        obtain ⟨_, e20, rfl⟩ := D 2 _ _ _ (by decide) rfl rfl rfl
        clear O D
        exact ⟨wanted_of rfl rfl e20 rfl, by go_simp⟩
      refine StepsP.cons ?_ ?_
      · refine step_val (fun a wx hB O D => ?_)
        obtain ⟨_, e22, rfl⟩ := D 4 _ _ _ (by decide) rfl rfl rfl
        obtain ⟨_, e20, rfl⟩ := D 2 _ _ _ (by decide) rfl rfl rfl
        clear O D
        exact ⟨wanted_of rfl rfl e20 rfl, by go_simp⟩
      refine StepsP.cons ?_ ?_
      · refine step_val (fun a wx hB O D => ?_)
        obtain ⟨_, e20, rfl⟩ := D 2 _ _ _ (by decide) rfl rfl rfl
        obtain ⟨_, e23, rfl⟩ := D 5 _ _ _ (by decide) rfl rfl rfl
        clear O D
        exact ⟨rfl, by go_simp⟩
      refine StepsP.cons ?_ ?_
      · refine step_val (fun a wx hB O D => ?_)
        obtain ⟨_, e24, rfl⟩ := D 6 _ _ _ (by decide) rfl rfl rfl
        clear O D
        exact ⟨rfl, by unfold execOp; simp only [ev e24]; rfl⟩
      refine StepsP.cons ?_ ?_
      · refine step_val (fun a wx hB O D => ?_)
        have e2 : a.tmps[2]? = some (.slice (some ⟨wb, 0, none⟩) 2 wc) := O 2 (by rfl)
        obtain ⟨_, e25, rfl⟩ := D 7 _ _ _ (by decide) rfl rfl rfl
        clear O D
        exact ⟨wanted_of rfl rfl e25 rfl, by unfold execOp; simp only [ev e2]; rfl⟩
      refine StepsP.cons ?_ ?_
      · refine step_val (fun a wx hB O D => ?_)
        obtain ⟨_, e26, rfl⟩ := D 8 _ _ _ (by decide) rfl rfl rfl
        obtain ⟨_, e25, rfl⟩ := D 7 _ _ _ (by decide) rfl rfl rfl
        clear O D
        exact ⟨wanted_of rfl rfl e25 rfl, by go_simp⟩
      refine StepsP.cons ?_ ?_
      · refine step_val (fun a wx hB O D => ?_)
        obtain ⟨_, e27, rfl⟩ := D 9 _ _ _ (by decide) rfl rfl rfl
        obtain ⟨_, e25, rfl⟩ := D 7 _ _ _ (by decide) rfl rfl rfl
        clear O D
        exact ⟨wanted_of rfl rfl e25 rfl, by go_simp⟩
      refine StepsP.cons ?_ ?_
      · refine step_val (fun a wx hB O D => ?_)
        obtain ⟨_, e28, rfl⟩ := D 10 _ _ _ (by decide) rfl rfl rfl
        obtain ⟨_, e25, rfl⟩ := D 7 _ _ _ (by decide) rfl rfl rfl
        have q := (hB.cell (p := ⟨wb, 1, none⟩) HWB.out).trans HC1.out
        clear O D
        exact ⟨wanted_of rfl rfl e25 rfl, by go_simp⟩
      refine StepsP.cons ?_ ?_
      · refine step_make rfl (fun a wx hB O D => ?_)
        obtain ⟨_, e25, rfl⟩ := D 7 _ _ _ (by decide) rfl rfl rfl
        exact ⟨wanted_of rfl rfl e25 rfl, .slice (some ⟨wx.heap.size, 0, none⟩) 2 2, wx.alloc (.cells #[.int .i64 0, .int .i64 3] 3), by go_simp, below_alloc _, Rt.lit2_ints wx 0 3⟩
      refine StepsP.cons ?_ ?_
      · refine step_call (enters_of Try.func17 (by kernel_rfl) rfl) rfl rfl (fun a wx hB O D => ?_)
        obtain ⟨_, e29, rfl⟩ := D 11 _ _ _ (by decide) rfl rfl rfl
        obtain ⟨v30, e30, s30⟩ := D 12 _ _ _ (by decide) rfl rfl rfl
        obtain ⟨_, e25, rfl⟩ := D 7 _ _ _ (by decide) rfl rfl rfl
        refine ⟨wanted_of rfl rfl e25 rfl, #[.slice A1 2 cc1, v30], by simp only [List.map_toArray, List.map_cons, List.map_nil, ev e29, ev e30] <;> rfl, ?_⟩
        exact (requal_any _ [0, 3] _ [0, 3] _ (HI1.out.below hB) s30 (by decide)).mono fun _ _ ⟨he, n, hw⟩ => ⟨_, he, hw ▸ below_drewN' wx n, congrArg Value.bool (decide_eq_true rfl)⟩
      refine StepsP.cons ?_ ?_
      · refine step_val (fun a wx hB O D => ?_)
        obtain ⟨_, e25, rfl⟩ := D 7 _ _ _ (by decide) rfl rfl rfl
        obtain ⟨_, e31, rfl⟩ := D 13 _ _ _ (by decide) rfl rfl rfl
        clear O D
        exact ⟨rfl, by go_simp⟩
      refine StepsP.cons ?_ ?_
      · refine step_val (fun a wx hB O D => ?_)
        obtain ⟨_, e32, rfl⟩ := D 14 _ _ _ (by decide) rfl rfl rfl
        clear O D
        exact ⟨rfl, by unfold execOp; simp only [ev e32]; rfl⟩
      refine StepsP.cons ?_ ?_
      · refine step_val (fun a wx hB O D => ?_)
        have e2 : a.tmps[2]? = some (.slice (some ⟨wb, 0, none⟩) 2 wc) := O 2 (by rfl)
        obtain ⟨_, e33, rfl⟩ := D 15 _ _ _ (by decide) rfl rfl rfl
        clear O D
        exact ⟨wanted_of rfl rfl e33 rfl, by unfold execOp; simp only [ev e2]; rfl⟩
      refine StepsP.cons ?_ ?_
      · refine step_val (fun a wx hB O D => ?_)
        obtain ⟨_, e34, rfl⟩ := D 16 _ _ _ (by decide) rfl rfl rfl
        obtain ⟨_, e33, rfl⟩ := D 15 _ _ _ (by decide) rfl rfl rfl
        clear O D
        exact ⟨wanted_of rfl rfl e33 rfl, by go_simp⟩
      refine StepsP.cons ?_ ?_
      · refine step_val (fun a wx hB O D => ?_)
        obtain ⟨_, e35, rfl⟩ := D 17 _ _ _ (by decide) rfl rfl rfl
        obtain ⟨_, e33, rfl⟩ := D 15 _ _ _ (by decide) rfl rfl rfl
        clear O D
        exact ⟨wanted_of rfl rfl e33 rfl, by go_simp⟩
      refine StepsP.cons ?_ ?_
      · refine step_val (fun a wx hB O D => ?_)
        obtain ⟨_, e36, rfl⟩ := D 18 _ _ _ (by decide) rfl rfl rfl
        obtain ⟨_, e33, rfl⟩ := D 15 _ _ _ (by decide) rfl rfl rfl
        have q := (hB.cell (p := ⟨wb, 3, none⟩) HWB.out).trans HC2.out
        clear O D
        exact ⟨wanted_of rfl rfl e33 rfl, by go_simp⟩
      refine StepsP.cons ?_ ?_
      · refine step_make rfl (fun a wx hB O D => ?_)
        obtain ⟨_, e33, rfl⟩ := D 15 _ _ _ (by decide) rfl rfl rfl
        exact ⟨wanted_of rfl rfl e33 rfl, .slice (some ⟨wx.heap.size, 0, none⟩) 2 2, wx.alloc (.cells #[.int .i64 1, .int .i64 2] 3), by go_simp, below_alloc _, Rt.lit2_ints wx 1 2⟩
      refine StepsP.cons ?_ ?_
      · refine step_call (enters_of Try.func17 (by kernel_rfl) rfl) rfl rfl (fun a wx hB O D => ?_)
        obtain ⟨_, e37, rfl⟩ := D 19 _ _ _ (by decide) rfl rfl rfl
        obtain ⟨v38, e38, s38⟩ := D 20 _ _ _ (by decide) rfl rfl rfl
        obtain ⟨_, e33, rfl⟩ := D 15 _ _ _ (by decide) rfl rfl rfl
        refine ⟨wanted_of rfl rfl e33 rfl, #[.slice A2 2 cc2, v38], by simp only [List.map_toArray, List.map_cons, List.map_nil, ev e37, ev e38] <;> rfl, ?_⟩
        exact (requal_any _ [1, 2] _ [1, 2] _ (HI2.out.below hB) s38 (by decide)).mono fun _ _ ⟨he, n, hw⟩ => ⟨_, he, hw ▸ below_drewN' wx n, congrArg Value.bool (decide_eq_true rfl)⟩
      refine StepsP.cons ?_ ?_
      · refine step_val (fun a wx hB O D => ?_)
        obtain ⟨_, e33, rfl⟩ := D 15 _ _ _ (by decide) rfl rfl rfl
        obtain ⟨_, e39, rfl⟩ := D 21 _ _ _ (by decide) rfl rfl rfl
        clear O D
        exact ⟨rfl, by go_simp⟩
      refine StepsP.cons ?_ ?_
      · refine step_val (fun a wx hB O D => ?_)
        obtain ⟨_, e40, rfl⟩ := D 22 _ _ _ (by decide) rfl rfl rfl
        clear O D
        exact ⟨rfl, by unfold execOp; simp only [ev e40]; rfl⟩
      refine StepsP.cons ?_ ?_
      · refine step_val (fun a wx hB O D => ?_)
        have e1 : a.tmps[1]? = some (.pointer (some ⟨w.heap.size + 1, 0, none⟩)) := O 1 (by rfl)
        obtain ⟨_, e41, rfl⟩ := D 23 _ _ _ (by decide) rfl rfl rfl
        obtain ⟨c0, c1, _⟩ := HB2.out.below hB
        clear O D
        exact ⟨wanted_of rfl rfl e41 rfl, by go_simp⟩
      refine StepsP.cons ?_ ?_
      · refine step_val (fun a wx hB O D => ?_)
        have e1 : a.tmps[1]? = some (.pointer (some ⟨w.heap.size + 1, 0, none⟩)) := O 1 (by rfl)
        obtain ⟨_, e41, rfl⟩ := D 23 _ _ _ (by decide) rfl rfl rfl
        obtain ⟨c0, c1, _⟩ := HB2.out.below hB
        clear O D
        exact ⟨wanted_of rfl rfl e41 rfl, by go_simp⟩
      refine StepsP.cons ?_ ?_
      · refine step_call (enters_of Try.func24 (by kernel_rfl) rfl) rfl rfl (fun a wx hB O D => ?_)
        obtain ⟨_, e43, rfl⟩ := D 25 _ _ _ (by decide) rfl rfl rfl
        obtain ⟨_, e41, rfl⟩ := D 23 _ _ _ (by decide) rfl rfl rfl
        refine ⟨wanted_of rfl rfl e41 rfl, #[.agg #[.int .i64 2, .slice (some ⟨w.heap.size, 0, none⟩) 2 2]], by simp only [List.map_toArray, List.map_cons, List.map_nil, ev e43] <;> rfl, ?_⟩
        exact (rwhole_any _ Rt.e0 2 _ (HG2.out.below hB) rfl (by decide) (by decide)).mono fun _ _ ⟨u, he, hb, hr⟩ => ⟨u, he, hb, hr⟩
      refine StepsP.cons ?_ ?_
      · refine step_make rfl (fun a wx hB O D => ?_)
        obtain ⟨_, e41, rfl⟩ := D 23 _ _ _ (by decide) rfl rfl rfl
        exact ⟨wanted_of rfl rfl e41 rfl, .slice (some ⟨wx.heap.size, 0, none⟩) 2 2, wx.alloc (.cells #[.int .i64 0, .int .i64 2] 3), by go_simp, below_alloc _, Rt.lit2_ints wx 0 2⟩
      refine StepsP.cons ?_ ?_
      · refine step_make rfl (fun a wx hB O D => ?_)
        obtain ⟨_, e41, rfl⟩ := D 23 _ _ _ (by decide) rfl rfl rfl
        exact ⟨wanted_of rfl rfl e41 rfl, .slice (some ⟨wx.heap.size, 0, none⟩) 2 2, wx.alloc (.cells #[.int .i64 1, .int .i64 3] 3), by go_simp, below_alloc _, Rt.lit2_ints wx 1 3⟩
      refine StepsP.cons ?_ ?_
      · refine step_make rfl (fun a wx hB O D => ?_)
        obtain ⟨v45, e45, s45⟩ := D 27 _ _ _ (by decide) rfl rfl rfl
        obtain ⟨v46, e46, s46⟩ := D 28 _ _ _ (by decide) rfl rfl rfl
        obtain ⟨_, e41, rfl⟩ := D 23 _ _ _ (by decide) rfl rfl rfl
        obtain ⟨A45, k45, rfl⟩ := ints_form s45
        obtain ⟨A46, k46, rfl⟩ := ints_form s46
        exact ⟨wanted_of rfl rfl e41 rfl, .slice (some ⟨wx.heap.size, 0, none⟩) 2 2, wx.alloc (.cells #[.slice A45 2 k45, .slice A46 2 k46] 25), by go_simp, below_alloc _, Rt.lit2_lists s45 s46⟩
      refine StepsP.cons ?_ ?_
      · refine step_call (enters_of Try.func14 (by kernel_rfl) rfl) rfl rfl (fun a wx hB O D => ?_)
        obtain ⟨_, e42, rfl⟩ := D 24 _ _ _ (by decide) rfl rfl rfl
        obtain ⟨v44, e44, s44⟩ := D 26 _ _ _ (by decide) rfl rfl rfl
        obtain ⟨v47, e47, s47⟩ := D 29 _ _ _ (by decide) rfl rfl rfl
        obtain ⟨_, e41, rfl⟩ := D 23 _ _ _ (by decide) rfl rfl rfl
        refine ⟨wanted_of rfl rfl e41 rfl, #[.agg #[.int .i64 2, .slice (some ⟨w.heap.size, 0, none⟩) 2 2], v44, v47], by simp only [List.map_toArray, List.map_cons, List.map_nil, ev e42, ev e44, ev e47] <;> rfl, ?_⟩
        exact (sphere_any _ _ _ Rt.e0 Rt.p0 Rt.T0 _ (HG2.out.below hB) s44 s47 (by decide) (by decide) (by decide) (by decide) Rt.T0_len Rt.T0_wf).mono fun _ _ ⟨he, hb⟩ => ⟨_, he, hb, congrArg Value.bool sph0⟩
      refine StepsP.cons ?_ ?_
      · refine step_val (fun a wx hB O D => ?_)
        obtain ⟨_, e41, rfl⟩ := D 23 _ _ _ (by decide) rfl rfl rfl
        obtain ⟨_, e48, rfl⟩ := D 30 _ _ _ (by decide) rfl rfl rfl
        clear O D
        exact ⟨rfl, by go_simp⟩
      refine StepsP.cons ?_ ?_
      · refine step_val (fun a wx hB O D => ?_)
        obtain ⟨_, e49, rfl⟩ := D 31 _ _ _ (by decide) rfl rfl rfl
        clear O D
        exact ⟨rfl, by unfold execOp; simp only [ev e49]; rfl⟩
      exact StepsP.nil
    · intro wz hZ
      refine EndP.is ?_
      refine EndP.is ?_
      refine EndP.is ?_
      refine EndP.is ?_
      refine EndP.is ?_
      refine EndP.is ?_
      refine EndP.is ?_
      refine EndP.is ?_
      refine EndP.is ?_
      refine EndP.is ?_
      refine EndP.is ?_
      refine EndP.is ?_
      refine EndP.sp rfl (fun v30 s30 => ?_)
      refine EndP.is ?_
      refine EndP.is ?_
      refine EndP.is ?_
      refine EndP.is ?_
      refine EndP.is ?_
      refine EndP.is ?_
      refine EndP.is ?_
      refine EndP.sp rfl (fun v38 s38 => ?_)
      refine EndP.is ?_
      refine EndP.is ?_
      refine EndP.is ?_
      refine EndP.is ?_
      refine EndP.is ?_
      refine EndP.sp rfl (fun v44 s44 => ?_)
      refine EndP.sp rfl (fun v45 s45 => ?_)
      refine EndP.sp rfl (fun v46 s46 => ?_)
      refine EndP.sp rfl (fun v47 s47 => ?_)
      refine EndP.is ?_
      refine EndP.is ?_
      refine EndP.is ?_
      refine EndP.nil ?_
    -- behind three
      refine wpList_nil ?_
      simp only [Act.put, List.setIfInBounds_toArray, List.set_cons_zero, List.set_cons_succ]
      have HZ3 := Lib.hid (trans2 HZ.out hZ)
      clear hZ
      go_wp2
      go_ret
      exact ⟨rfl, HZ3.out⟩
end Go.Proofs.Ytmbcjilkcbcaiaa.Fc

/-! What the laws lay ahead: small arguments; the walks one by one; no dart twice. -/
namespace Go.Proofs.Ytmbcjilkcbcaiaa.Fc
open Go.Proofs.Ytmbcjilkcbcaiaa Go.RowKit Go.Maps

theorem small_facts {g : Gph} {p : Prt} {T : List (List Int)} (h : Rt.small6 g p T = true) : g.e.length ≤ 60 ∧ p.v.length ≤ 60 ∧ p.e.length ≤ 60 ∧ T.length ≤ 100 ∧ ∀ j, (Rt.getT T j).length ≤ 200 := by
  unfold Rt.small6 smallB at h
  rw [Bool.and_eq_true, Bool.and_eq_true, decide_eq_true_iff, decide_eq_true_iff, decide_eq_true_iff] at h
  refine ⟨h.1.1, h.1.2.1, h.1.2.2.1, h.2.1, fun j => ?_⟩
  by_cases hj : j < T.length
  · exact h.2.2 j hj
  · rw [Rt.getT_out _ _ hj]; exact Nat.zero_le _

def getW (L : List Wlk) (i : Nat) : Wlk := L.getD i (0, [])
theorem getW_of {L : List Wlk} {i : Nat} (h : i < L.length) : getW L i = L[i] := by unfold getW; simp [h]
theorem getW_in {L : List Wlk} {i : Nat} (h : i < L.length) : getW L i ∈ L := by rw [getW_of h]; exact List.getElem_mem h
theorem take_getW {L : List Wlk} {i : Nat} (h : i < L.length) : L.take (i + 1) = L.take i ++ [getW L i] := by rw [getW_of h, List.take_succ_eq_append_getElem h]

/-- One of the walks: where it lies, and what it reads as. -/
theorem walk_at {w : World} {A : Option Addr} {n c : Nat} {L : List Wlk} (h : TwoL w (.slice A n c) (L.map cmp)) {j : Nat} (hj : j < L.length) :
    ∃ b, A = some ⟨b, 0, none⟩ ∧ b < w.heap.size ∧ w.cell? ⟨b, j * 2, none⟩ = some (.int .i64 (getW L j).1) ∧ ∃ A' c', w.cell? ⟨b, j * 2 + 1, none⟩ = some (.slice A' (getW L j).2.length c') ∧ Ints w (.slice A' (getW L j).2.length c') (getW L j).2 := by
  rw [getW_of hj]
  exact TwoL.walk h hj

/-- The darts of the first walks. -/
def allTo (L : List Wlk) (i : Nat) : List Int := (L.take i).flatMap (·.2)
theorem allTo_zero (L : List Wlk) : allTo L 0 = [] := rfl
theorem allTo_succ {L : List Wlk} {i : Nat} (h : i < L.length) : allTo L (i + 1) = allTo L i ++ (getW L i).2 := by
  unfold allTo
  rw [take_getW h, List.flatMap_append]
  simp
theorem allTo_all (L : List Wlk) : allTo L L.length = allDarts L := by unfold allTo allDarts; rw [List.take_length]
theorem allTo_pre (L : List Wlk) (i : Nat) : ∃ r, allDarts L = allTo L i ++ r := by
  refine ⟨(L.drop i).flatMap (·.2), ?_⟩
  unfold allDarts allTo
  rw [← List.flatMap_append, List.take_append_drop]
theorem allTo_le (L : List Wlk) (i : Nat) : (allTo L i).length ≤ (allDarts L).length := by
  obtain ⟨r, h⟩ := allTo_pre L i
  rw [h, List.length_append]
  omega
theorem fresh {L : List Wlk} (hn : (allDarts L).Nodup) {i k : Nat} (hi : i < L.length) (hk : k < (getW L i).2.length) : getI (getW L i).2 k ∉ allTo L i ++ (getW L i).2.take k := by
  obtain ⟨r, h⟩ := allTo_pre L (i + 1)
  rw [h, allTo_succ hi] at hn
  have h1 := (List.nodup_append.1 hn).1
  obtain ⟨_, h3, h4⟩ := List.nodup_append.1 h1
  have hm := Rt.getI_in _ _ hk
  rw [List.mem_append]
  rintro (hx | hx)
  · exact h4 _ hx _ hm rfl
  · have e := take_succ_getI (getW L i).2 k hk
    have hs : ((getW L i).2.take k ++ [getI (getW L i).2 k]).Nodup := by
      rw [← e]
      exact h3.sublist (List.take_sublist _ _)
    exact (List.nodup_append.1 hs).2.2 _ hx _ (List.mem_singleton.2 rfl) rfl
theorem keys_rise {L : List Wlk} (h : L.Pairwise (fun x y => x.1 < y.1)) {i m : Nat} (hm : m < i) (hi : i < L.length) : (getW L m).1 < (getW L i).1 := by
  rw [getW_of hi, getW_of (by omega)]
  exact List.pairwise_iff_getElem.1 h m i (by omega) hi hm
end Go.Proofs.Ytmbcjilkcbcaiaa.Fc

/-! The program's Key. -/
namespace Go.Proofs.Ytmbcjilkcbcaiaa.Fc
open Go.Proofs.Ytmbcjilkcbcaiaa Go.RowKit Go.Maps

theorem minOf_get {l : List Int} (h : 0 < l.length) : Lib.minOf l = getI l (minAt l l.length) := by
  have := minOf_take l (l.length - 1) (by omega)
  rwa [show l.length - 1 + 1 = l.length by omega, List.take_length] at this
theorem minOf_in {l : List Int} (h : 0 < l.length) : Lib.minOf l ∈ l := by
  rw [minOf_get h]
  exact Rt.getI_in _ _ (minAt_lt l _ h)
theorem minOf_le {l : List Int} (h : 0 < l.length) {y : Int} (hy : y ∈ l) : Lib.minOf l ≤ y := by
  rw [minOf_get h]
  obtain ⟨j, hj, rfl⟩ := (mem_getI _ _).1 hy
  exact (minAt_least l l.length j hj).1

/-- What Key answers. -/
def keyA (g : Gph) (p : Prt) (T : List (List Int)) (d : Int) : Int := if Rt.terr g p T = 0 then keyI (walksOf g p T) d else 0
def keyAB (g : Gph) (p : Prt) (T : List (List Int)) (d : Int) : Bool := if Rt.terr g p T = 0 then keyB (walksOf g p T) d else false
theorem ret_key {a b : Int} {c d : Bool} (h : a = b) (h' : c = d) : Ending.returned (.tuple #[.int .i64 a, .bool c]) = .returned (.tuple #[.int .i64 b, .bool d]) := by rw [h, h']

set_option maxRecDepth 100000 in
set_option maxHeartbeats 4000000 in
theorem key_any (v u x : Value) (g : Gph) (p : Prt) (T : List (List Int)) (d : Int) (w : World) (h : Gr w v g) (h' : Pt w u p) (hT : LL w x T) (hl : g.e.length ≤ 1000000) (hp1 : p.v.length ≤ 1000000) (hp2 : p.e.length ≤ 100000) (hlT : T.length ≤ 1000) (hr : ∀ j, (Rt.getT T j).length ≤ 500) (hw : ∀ j, ∀ x ∈ Rt.getT T j, (Lit.int .i64 x).wf = true) (hwd : (Lit.int .i64 d).wf = true) :
    Calls Try.prog 18 #[v, u, x, .int .i64 d] w fun e w' => e = .returned (.tuple #[.int .i64 (keyA g p T d), .bool (keyAB g p T d)]) ∧ Below w.heap.size w w' := by
  have HG := Lib.hid h
  have HP := Lib.hid h'
  obtain ⟨ve, rfl, h1⟩ := h
  obtain ⟨vv, vp, rfl, h2, h3⟩ := h'
  obtain ⟨Ae, ce, rfl⟩ := h1.form
  obtain ⟨Av, cv, rfl⟩ := ints_form h2
  obtain ⟨Ap, cp, rfl⟩ := ints_form h3
  obtain ⟨A, cap, rfl, hcap, hmx⟩ := hT.form
  obtain ⟨b1, b2, hm⟩ := two_boxes w (.int .i64 g.n) (.slice Ae g.e.length ce) (.slice Av p.v.length cv) (.slice Ap p.e.length cp) 24 27
  have HB2 := Lib.hid b2
  have HM := Lib.hid hm
  have HV1 := Lib.hid (h2.below hm)
  have HN := Lib.hid (Rt.new_any _ _ _ g p T _ (HG.out.below hm) (HP.out.below hm) (hT.below hm) hl hp1 (by omega) hlT hr hw)
  have c0 := b1.c0
  have c1 := b1.c1
  have d0 := b2.c0
  have d1 := b2.c1
  have HR := Lib.hid hr
  have HWD := Lib.hid hwd
  have hbd := Rt.wf_bounds hwd
  clear b1 b2 hm h1 h2 h3 hT HG HP hw hr hcap hmx hwd
  go_enter Try.func18, Try.ntmps18
  go_wp2_with fail
  generalize (w.alloc (.cells #[.int .i64 g.n, .slice Ae g.e.length ce] 24)).alloc (.cells #[.slice Av p.v.length cv, .slice Ap p.e.length cp] 27) = w1 at *
  refine HN.out.mono ?_
  clear c0 c1 d0 d1 HN
  rintro e w2 ⟨hB2, ⟨hne, rfl⟩ | ⟨hTu, rb, rfl, hRo⟩⟩
  · have HMW := Lib.hid (trans2 HM.out hB2)
    have HK := Lib.hid (show keyA g p T d = 0 ∧ keyAB g p T d = false from ⟨if_neg hne, if_neg hne⟩)
    have t1 : (Rt.terr g p T != 0) = true := by simpa using hne
    clear hne hB2
    generalize Rt.terr g p T = te at *
    go_wp2
    go_ret2
    exact ⟨ret_key HK.out.1.symm HK.out.2.symm, HMW.out⟩
  have HMW := Lib.hid (trans2 HM.out hB2)
  have HTU := Lib.hid hTu
  have HU := Lib.hid (hTu.alike (Rt.alike_fst T))
  have HX2 := Lib.hid (HB2.out.below hB2)
  have HKK := Lib.hid (show keyA g p T d = keyI (walksOf g p T) d ∧ keyAB g p T d = keyB (walksOf g p T) d from ⟨if_pos (Rt.terr_iff.2 hTu), if_pos (Rt.terr_iff.2 hTu)⟩)
  have HRo := Lib.hid hRo
  have HRU := Lib.hid (show ∀ j, (Rt.getT (T.map Rt.fst) j).length ≤ 1000000 from fun j => by
    rw [Rt.getT_map Rt.fst Rt.fst_nil, Rt.fst_len]
    have := HR.out j
    omega)
  obtain ⟨vx, hvx⟩ : ∃ vx, -1 - d = vx := ⟨_, rfl⟩
  have HVX := Lib.hid hvx
  have hw64 : IntKind.i64.wrap (-1 - d) = vx := by rw [w64f (-1 - d) (by omega) (by omega)]; exact hvx
  have HH := Lib.hid (has_any _ p.v vx w2 (HV1.out.below hB2) (perr_rises hTu.right).2.1.up hp1)
  have d0 := HX2.out.c0
  have HNX := Lib.hid (fun W (hW : Below w2.heap.size w2 W) => Rt.next_any rb g p (T.map Rt.fst) W d (HRo.out.below hW) HU.out HWD.out HRU.out)
  clear hTu hRo hB2 hvx
  by_cases hv : vx ∈ p.v
  · have hvn := v_nn HTU.out.right hv
    have hvl : vx < (T.length : Int) := by have := HTU.out.len; omega
    obtain ⟨vn, rfl⟩ : ∃ vn : Nat, vx = (vn : Int) := ⟨vx.toNat, by omega⟩
    have HAT := Lib.hid (fun W (hW : Below w2.heap.size w2 W) => Rt.at_any rb g p (T.map Rt.fst) W (vn : Int) (HRo.out.below hW) HRU.out)
    have HAE := Lib.hid (show Rt.atL (T.map Rt.fst) (vn : Int) = Rt.fst (Rt.getT T vn) by
      unfold Rt.atL
      rw [if_pos ⟨by omega, by rw [List.length_map]; exact hvl⟩, Int.toNat_natCast, Rt.getT_map Rt.fst Rt.fst_nil])
    simp only [HAE.out] at HAT
    have hnd : ¬ Rt.Dart p d := fun hd => by have := hd.1; have := HVX.out; omega
    simp only [Rt.stp_no hnd, decide_eq_false hnd] at HNX
    have hnX : d ∉ prs p.e := fun h => hnd ((mem_dart HTU.out.right).1 h)
    rw [decide_eq_true hv] at HH
    have HLO := Lib.hid (fun hlo : loneB T (vn : Int) = true => key_lone HTU.out hv hlo)
    have HOU := Lib.hid (fun hlo : ¬ loneB T (vn : Int) = true => key_out HTU.out hnX (fun v' hv' hl' e => hlo (by have := HVX.out; rwa [show (vn : Int) = v' by omega])))
    rw [show -1 - (vn : Int) = d by have := HVX.out; omega] at HLO
    clear hnd hnX hv hvn hvl
    go_wp2_with fail
    refine HH.out.mono ?_
    rintro e w3 ⟨rfl, hB3⟩
    have HA3 := Lib.hid (HAT.out w3 hB3)
    have HN3 := Lib.hid (fun W (hW : Below w3.heap.size w3 W) => HNX.out W (trans2 hB3 hW))
    have HM3 := Lib.hid (trans2 HMW.out hB3)
    clear hB3 HH HAT HNX d0
    go_wp2_with fail
    refine HA3.out.mono ?_
    rintro e w4 ⟨ua, rfl, hua, hB4⟩
    have HM4 := Lib.hid (trans2 HM3.out hB4)
    have HN4 := Lib.hid (HN3.out w4 hB4)
    have hlen : (Rt.fst (Rt.getT T vn)).length = (Rt.getT T vn).length := Rt.fst_len _
    obtain ⟨Au, cu, rfl⟩ := ints_form (Row.ints hua)
    rw [hlen]
    clear hua hB4 HA3 HN3 hlen
    by_cases hlo : Rt.getT T vn = []
    · have HK := Lib.hid (HLO.out (lone_iff.2 (by rw [Int.toNat_natCast]; exact hlo)))
      have t1 : (((Rt.getT T vn).length : Int) == 0) = true := by rw [hlo]; rfl
      clear hlo
      generalize (Rt.getT T vn).length = nT at *
      go_wp2
      go_ret2
      exact ⟨ret_key (by rw [HKK.out.1, HK.out.1]) (by rw [HKK.out.2, HK.out.2]), HM4.out⟩
    · have HK := Lib.hid (HOU.out (fun e => hlo (by have := lone_iff.1 e; rwa [Int.toNat_natCast] at this)))
      have t1 : (((Rt.getT T vn).length : Int) == 0) = false := beq_eq_false_iff_ne.2 (fun e => hlo (List.length_eq_zero_iff.1 (by omega)))
      clear hlo
      generalize (Rt.getT T vn).length = nT at *
      go_wp2_with fail
      refine HN4.out.mono ?_
      rintro e w5 ⟨rfl, hB5⟩
      have HM5 := Lib.hid (trans2 HM4.out hB5)
      clear hB5 HN4
      go_wp2
      go_ret2
      exact ⟨ret_key (by rw [HKK.out.1, HK.out.1]) (by rw [HKK.out.2, HK.out.2]), HM5.out⟩
  · rw [decide_eq_false hv] at HH
    have HNV := Lib.hid hv
    clear hv
    go_wp2_with fail
    refine HH.out.mono ?_
    rintro e w3 ⟨rfl, hB3⟩
    have HN3 := Lib.hid (HNX.out w3 hB3)
    have HRo3 := Lib.hid (HRo.out.below hB3)
    have HM3 := Lib.hid (trans2 HMW.out hB3)
    clear hB3 HH HNX d0
    by_cases hd : Rt.Dart p d
    · rw [Rt.stp_yes hd, decide_eq_true hd] at HN3
      have HD := Lib.hid hd
      clear hd
      generalize Rt.nxt g (T.map Rt.fst) d = nd at *
      go_wp2_with fail
      refine HN3.out.mono ?_
      rintro e w4 ⟨rfl, hB4⟩
      have HAR := Lib.hid (around_any rb g p (T.map Rt.fst) w4 d (HRo3.out.below hB4) HU.out HD.out HRU.out hl (by omega))
      have HOE := Lib.hid (orb_cong (nxt_perm HTU.out) (fun y hy => HTU.out.nxt_alike (Rt.alike_fst T) ((mem_dart HTU.out.right).1 hy)) ((mem_dart HTU.out.right).2 HD.out) (prs p.e).length)
      rw [HOE.out] at HAR
      have HM4 := Lib.hid (trans2 HM3.out hB4)
      clear hB4 HN3
      have ho0 : 0 < (orb (Rt.nxt g T) (prs p.e).length d).length := by rw [orb_len]; exact per_pos _ _ _
      have HK := Lib.hid (key_dart HTU.out ((mem_dart HTU.out.right).2 HD.out) (minOf_in ho0) (fun y hy => minOf_le ho0 hy))
      have hol : (orb (Rt.nxt g T) (prs p.e).length d).length ≤ 1000000 := by
        have := ((nxt_perm HTU.out).per ((mem_dart HTU.out.right).2 HD.out) (Nat.le_refl _)).1
        rw [prs_len] at this
        rw [orb_len, prs_len]
        omega
      generalize orb (Rt.nxt g T) (prs p.e).length d = ol at *
      go_wp2_with fail
      refine HAR.out.mono ?_
      rintro e w5 ⟨vo, rfl, hvo, hB5⟩
      have HMI := Lib.hid (min_any vo ol w5 (Row.ints hvo) hol ho0)
      have HM5 := Lib.hid (trans2 HM4.out hB5)
      obtain ⟨Ao, co, rfl⟩ := ints_form (Row.ints hvo)
      clear hvo hB5 HAR
      go_wp2_with fail
      refine HMI.out.mono ?_
      rintro e w6 ⟨rfl, rfl⟩
      clear HMI
      go_wp2
      go_ret2
      exact ⟨ret_key (by rw [HKK.out.1, HK.out.1]) (by rw [HKK.out.2, HK.out.2]), HM5.out⟩
    · rw [Rt.stp_no hd, decide_eq_false hd] at HN3
      have HK := Lib.hid (key_out HTU.out (fun h => hd ((mem_dart HTU.out.right).1 h)) (fun v' hv' _ e => HNV.out (by have := HVX.out; rwa [show vx = v' by omega])))
      clear hd
      go_wp2_with fail
      refine HN3.out.mono ?_
      rintro e w4 ⟨rfl, hB4⟩
      have HM4 := Lib.hid (trans2 HM3.out hB4)
      clear hB4 HN3
      go_wp2
      go_ret2
      exact ⟨ret_key (by rw [HKK.out.1, HK.out.1]) (by rw [HKK.out.2, HK.out.2]), HM4.out⟩
end Go.Proofs.Ytmbcjilkcbcaiaa.Fc
