/-
  FaceSpheres: the genus of any turns' pieces is the document's, and so is whether all are on spheres: the law's call answers true at every input.
-/
import Derived.Test.YtmbcjilkcbcaiaaM32
import Derived.Test.YtmbcjilkcbcaiaaM37
namespace Go.Proofs.Ytmbcjilkcbcaiaa.Fc
open Go.Proofs.Ytmbcjilkcbcaiaa Go.RowKit Go.Maps

set_option maxRecDepth 100000 in
set_option maxHeartbeats 16000000 in
theorem faceSpheres_any (v : Value) (g : Gph) (u : Value) (p : Prt) (x : Value) (T : List (List Int)) (w : World) (h : Gr w v g) (h' : Pt w u p) (hT : LL w x T) (hw : ∀ j, ∀ y ∈ Rt.getT T j, (Lit.int .i64 y).wf = true) :
    Calls Try.prog 6 #[v, u, x] w fun e w' => e = .returned (.bool true) ∧ Below w.heap.size w w' := by
  have HG := Lib.hid h
  have HP := Lib.hid h'
  obtain ⟨ve, rfl, h1⟩ := h
  obtain ⟨vv, vp, rfl, h2, h3⟩ := h'
  obtain ⟨Ae, ce, rfl⟩ := h1.form
  obtain ⟨Av, cv, rfl⟩ := ints_form h2
  obtain ⟨Ap, cp, rfl⟩ := ints_form h3
  obtain ⟨A, cap, rfl, _, _⟩ := hT.form
  obtain ⟨b1, b2, hm⟩ := two_boxes w (.int .i64 g.n) (.slice Ae g.e.length ce) (.slice Av p.v.length cv) (.slice Ap p.e.length cp) 24 27
  have HB1 := Lib.hid b1
  have HB2 := Lib.hid b2
  have HM := Lib.hid hm
  have HG1 := Lib.hid (HG.out.below hm)
  have HP1 := Lib.hid (HP.out.below hm)
  have HT1 := Lib.hid (hT.below hm)
  have HW := Lib.hid hw
  clear b1 b2 hm h1 h2 h3 HG HP hT hw
  go_enter Try.func6, Try.ntmps6
  go_wp2_with fail
  generalize (w.alloc (.cells #[.int .i64 g.n, .slice Ae g.e.length ce] 24)).alloc (.cells #[.slice Av p.v.length cv, .slice Ap p.e.length cp] 27) = w1 at *
  refine (fawake_any w1).mono ?_
  rintro e w2 ⟨rfl, hB2⟩
  have c0 := (HB1.out.below hB2).c0
  have c1 := (HB1.out.below hB2).c1
  have d0 := (HB2.out.below hB2).c0
  have d1 := (HB2.out.below hB2).c1
  have HBB2 := Lib.hid hB2
  clear hB2
  go_wp2_with fail
  refine (Rt.small6_any _ _ _ g p T w2 (HG1.out.below HBB2.out) (HP1.out.below HBB2.out) (HT1.out.below HBB2.out)).mono ?_
  rintro e w3 ⟨rfl, hB3⟩
  have HB3 := Lib.hid (trans2 HBB2.out hB3)
  clear hB3 c0 c1 d0 d1 HBB2
  by_cases hs : Rt.small6 g p T = true
  case neg =>
    have e : Rt.small6I g p T = 0 := if_neg hs
    rw [e]
    clear e hs
    go_wp2_with fail
    refine (fawake_any w3).mono ?_
    rintro e w4 ⟨rfl, hB4⟩
    go_wp2
    go_ret
    exact ⟨rfl, trans2 HM.out (trans2 HB3.out hB4)⟩
  have e : Rt.small6I g p T = 1 := if_pos hs
  obtain ⟨hl, hp1, hp2, hlT, hrT⟩ := small_facts hs
  rw [e]
  have c0 := (HB1.out.below HB3.out).c0
  have c1 := (HB1.out.below HB3.out).c1
  have d0 := (HB2.out.below HB3.out).c0
  have d1 := (HB2.out.below HB3.out).c1
  clear e hs
  have HRT := Lib.hid hrT
  have HGE := Lib.hid (fun (W : World) (hW : Below w1.heap.size w1 W) => genus_any _ _ _ g p T W (HG1.out.below hW) (HP1.out.below hW) (HT1.out.below hW) (by omega) (by omega) (by omega) (by omega) (fun j => by have := HRT.out j; omega) HW.out)
  have HSP := Lib.hid (fun (W : World) (hW : Below w1.heap.size w1 W) => sphere_any _ _ _ g p T W (HG1.out.below hW) (HP1.out.below hW) (HT1.out.below hW) (by omega) (by omega) (by omega) (by omega) (fun j => by have := HRT.out j; omega) HW.out)
  have HRI := Lib.hid (fun (W : World) (hW : Below w1.heap.size w1 W) => Rt.r6Right_any _ _ _ g p T W (HG1.out.below hW) (HP1.out.below hW) (HT1.out.below hW) (by omega) (by omega) (by omega) (fun j => by have := HRT.out j; omega))
  have HCB := Lib.hid (fun (W : World) (hW : Below w1.heap.size w1 W) => (⟨(HB1.out.below hW).c0, (HB1.out.below hW).c1, (HB2.out.below hW).c0, (HB2.out.below hW).c1⟩ :
    W.cell? ⟨w.heap.size, 0, none⟩ = some (.int .i64 g.n) ∧ W.cell? ⟨w.heap.size, 1, none⟩ = some (.slice Ae g.e.length ce) ∧ W.cell? ⟨w.heap.size + 1, 0, none⟩ = some (.slice Av p.v.length cv) ∧ W.cell? ⟨w.heap.size + 1, 1, none⟩ = some (.slice Ap p.e.length cp)))
  have HN := Lib.hid (HGE.out w3 HB3.out)
  go_wp2_with fail
  refine HN.out.mono ?_
  clear HN c0 c1 d0 d1
  rintro e w4 ⟨hB4, ⟨hne, rfl⟩ | ⟨hTu, a, rfl, hR⟩⟩
  · have HB4 := Lib.hid (trans2 HB3.out hB4)
    have HN4 := Lib.hid (HRI.out w4 HB4.out)
    have t1 : (Rt.terr g p T != 0) = true := by simpa using hne
    have HTE := Lib.hid (show (decide (Rt.terr g p T = 0) && sphB (genL g p T)) = false by rw [decide_eq_false hne]; rfl)
    obtain ⟨c0, c1, d0, d1⟩ := HCB.out w4 HB4.out
    clear hB4 hne HGE HRI
    go_wp2_with fail
    refine HN4.out.mono ?_
    clear HN4 c0 c1 d0 d1
    rintro e w5 ⟨rfl, hB5⟩
    have HB5 := Lib.hid (trans2 HB4.out hB5)
    have HS5 := Lib.hid (HSP.out w5 HB5.out)
    rw [HTE.out] at HS5
    obtain ⟨c0, c1, d0, d1⟩ := HCB.out w5 HB5.out
    clear hB5 HTE HSP
    generalize Rt.terr g p T = te at *
    go_wp2_with fail
    refine HS5.out.mono ?_
    rintro e w6 ⟨rfl, hB6⟩
    have HZ := Lib.hid (trans2 HM.out (trans2 HB5.out hB6))
    clear hB6 HS5 c0 c1 d0 d1
    go_wp2
    go_ret
    exact ⟨rfl, HZ.out⟩
  have HB4 := Lib.hid (trans2 HB3.out hB4)
  have HN4 := Lib.hid (HRI.out w4 HB4.out)
  rw [Rt.terr_iff.2 hTu] at HN4
  have HTU := Lib.hid hTu
  have HRA4 := Lib.hid (Row.ints hR)
  have HGL := Lib.hid (show (genL g p T).length ≤ 4000000 by rw [genL_len]; have := pcs_few hTu.right; omega)
  have HRG := Lib.hid (fun (W : World) (hW : Below w1.heap.size w1 W) => rgenus_any _ _ _ g p T W (HG1.out.below hW) (HP1.out.below hW) (HT1.out.below hW) hTu (by omega) (by have := HTU.out.len; omega) (by omega) (by omega) (fun j => by have := HRT.out j; omega))
  have HRS := Lib.hid (fun (W : World) (hW : Below w1.heap.size w1 W) => rsphere_any _ _ _ g p T W (HG1.out.below hW) (HP1.out.below hW) (HT1.out.below hW) (by omega) (by have := HTU.out.len; omega) (by omega) (by omega) (fun j => by have := HRT.out j; omega))
  generalize (decide (Rt.terr g p T = 0) && sphB (genL g p T)) = sb at *
  obtain ⟨Aa, ca, rfl⟩ := ints_form (Row.ints hR)
  obtain ⟨c0, c1, d0, d1⟩ := HCB.out w4 HB4.out
  clear hB4 hTu hR HGE HRI HRT
  go_wp2_with fail
  refine HN4.out.mono ?_
  clear HN4 c0 c1 d0 d1
  rintro e w5 ⟨rfl, hB5⟩
  have HB5 := Lib.hid (trans2 HB4.out hB5)
  have HRA := Lib.hid (HRA4.out.below hB5)
  have X0 := Lib.hid (HB1.out.below HB5.out)
  have X1 := Lib.hid (HB2.out.below HB5.out)
  clear hB5 HRA4 HCB hl hp1 hp2 hlT hrT
  go_wp2_with fail
  -- region seven
  refine wp_region_plan [is (.int .i64 0), is (.bool true), is (.bool true), is (.slice Aa (genL g p T).length ca), is (.agg #[.int .i64 g.n, .slice Ae g.e.length ce]), is (.agg #[.slice Av p.v.length cv, .slice Ap p.e.length cp]), is (.slice A T.length cap), spInts (genL g p T), is (.bool true), is (.bool true), is (.bool true), is (.agg #[.int .i64 g.n, .slice Ae g.e.length ce]), is (.agg #[.slice Av p.v.length cv, .slice Ap p.e.length cp]), is (.slice A T.length cap), is (.bool sb), is (.agg #[.int .i64 g.n, .slice Ae g.e.length ce]), is (.agg #[.slice Av p.v.length cv, .slice Ap p.e.length cp]), is (.slice A T.length cap), is (.bool sb), is (.bool true), is (.bool true), is (.bool true)] (by kernel_rfl) (by kernel_rfl) ?_ ?_
  · skip
    refine StepsP.cons ?_ ?_
    · refine step_val (fun a wx hB O D => ?_)
      have e8 : a.tmps[8]? = some (.int .i64 0) := O 8 (by rfl)
      clear O D
      exact ⟨rfl, by unfold execOp; simp only [ev e8]; rfl⟩
    refine StepsP.cons ?_ ?_
    · refine step_val (fun a wx hB O D => ?_)
      obtain ⟨_, e48, rfl⟩ := D 0 _ _ _ (by decide) rfl rfl rfl
      clear O D
      exact ⟨rfl, by go_simp⟩
    refine StepsP.cons ?_ ?_
    · refine step_val (fun a wx hB O D => ?_)
      obtain ⟨_, e49, rfl⟩ := D 1 _ _ _ (by decide) rfl rfl rfl
      clear O D
      exact ⟨rfl, by unfold execOp; simp only [ev e49]; rfl⟩
    refine StepsP.cons ?_ ?_
    · refine step_val (fun a wx hB O D => ?_)
      have e7 : a.tmps[7]? = some (.slice Aa (genL g p T).length ca) := O 7 (by rfl)
      obtain ⟨_, e50, rfl⟩ := D 2 _ _ _ (by decide) rfl rfl rfl
      clear O D
      exact ⟨wanted_of rfl rfl e50 rfl, by unfold execOp; simp only [ev e7]; rfl⟩
    refine StepsP.cons ?_ ?_
    · refine step_val (fun a wx hB O D => ?_)
      have e3 : a.tmps[3]? = some (.pointer (some ⟨w.heap.size, 0, none⟩)) := O 3 (by rfl)
      obtain ⟨_, e50, rfl⟩ := D 2 _ _ _ (by decide) rfl rfl rfl
      obtain ⟨c0, c1, _⟩ := X0.out.below hB
      clear O D
      exact ⟨wanted_of rfl rfl e50 rfl, by go_simp⟩
    refine StepsP.cons ?_ ?_
    · refine step_val (fun a wx hB O D => ?_)
      have e4 : a.tmps[4]? = some (.pointer (some ⟨w.heap.size + 1, 0, none⟩)) := O 4 (by rfl)
      obtain ⟨_, e50, rfl⟩ := D 2 _ _ _ (by decide) rfl rfl rfl
      obtain ⟨c0, c1, _⟩ := X1.out.below hB
      clear O D
      exact ⟨wanted_of rfl rfl e50 rfl, by go_simp⟩
    refine StepsP.cons ?_ ?_
    · refine step_val (fun a wx hB O D => ?_)
      have e2 : a.tmps[2]? = some (.slice A T.length cap) := O 2 (by rfl)
      obtain ⟨_, e50, rfl⟩ := D 2 _ _ _ (by decide) rfl rfl rfl
      clear O D
      exact ⟨wanted_of rfl rfl e50 rfl, by unfold execOp; simp only [ev e2]; rfl⟩
    refine StepsP.cons ?_ ?_
    · refine step_call (enters_of Try.func22 (by kernel_rfl) rfl) rfl rfl (fun a wx hB O D => ?_)
      obtain ⟨_, e52, rfl⟩ := D 4 _ _ _ (by decide) rfl rfl rfl
      obtain ⟨_, e53, rfl⟩ := D 5 _ _ _ (by decide) rfl rfl rfl
      obtain ⟨_, e54, rfl⟩ := D 6 _ _ _ (by decide) rfl rfl rfl
      obtain ⟨_, e50, rfl⟩ := D 2 _ _ _ (by decide) rfl rfl rfl
      refine ⟨wanted_of rfl rfl e50 rfl, #[.agg #[.int .i64 g.n, .slice Ae g.e.length ce], .agg #[.slice Av p.v.length cv, .slice Ap p.e.length cp], .slice A T.length cap], by simp only [List.map_toArray, List.map_cons, List.map_nil, ev e52, ev e53, ev e54] <;> rfl, ?_⟩
      exact (HRG.out _ (trans2 HB5.out hB)).mono fun _ _ ⟨m, he, hr, hb⟩ => ⟨m, he, hb, Row.ints hr⟩
    refine StepsP.cons ?_ ?_
    · refine step_call (enters_of Try.func17 (by kernel_rfl) rfl) rfl rfl (fun a wx hB O D => ?_)
      obtain ⟨_, e51, rfl⟩ := D 3 _ _ _ (by decide) rfl rfl rfl
      obtain ⟨v55, e55, s55⟩ := D 7 _ _ _ (by decide) rfl rfl rfl
      obtain ⟨_, e50, rfl⟩ := D 2 _ _ _ (by decide) rfl rfl rfl
      refine ⟨wanted_of rfl rfl e50 rfl, #[.slice Aa (genL g p T).length ca, v55], by simp only [List.map_toArray, List.map_cons, List.map_nil, ev e51, ev e55] <;> rfl, ?_⟩
      exact (requal_any _ (genL g p T) _ (genL g p T) _ (HRA.out.below hB) s55 HGL.out).mono fun _ _ ⟨he, n, hw⟩ => ⟨_, by rw [he, decide_eq_true rfl], by rw [hw]; exact below_drewN' _ _, rfl⟩
    refine StepsP.cons ?_ ?_
    · refine step_val (fun a wx hB O D => ?_)
      obtain ⟨_, e50, rfl⟩ := D 2 _ _ _ (by decide) rfl rfl rfl
      obtain ⟨_, e56, rfl⟩ := D 8 _ _ _ (by decide) rfl rfl rfl
      clear O D
      exact ⟨rfl, by go_simp⟩
    refine StepsP.cons ?_ ?_
    · refine step_val (fun a wx hB O D => ?_)
      obtain ⟨_, e57, rfl⟩ := D 9 _ _ _ (by decide) rfl rfl rfl
      clear O D
      exact ⟨rfl, by unfold execOp; simp only [ev e57]; rfl⟩
    refine StepsP.cons ?_ ?_
    · refine step_val (fun a wx hB O D => ?_)
      have e3 : a.tmps[3]? = some (.pointer (some ⟨w.heap.size, 0, none⟩)) := O 3 (by rfl)
      obtain ⟨_, e58, rfl⟩ := D 10 _ _ _ (by decide) rfl rfl rfl
      obtain ⟨c0, c1, _⟩ := X0.out.below hB
      clear O D
      exact ⟨wanted_of rfl rfl e58 rfl, by go_simp⟩
    refine StepsP.cons ?_ ?_
    · refine step_val (fun a wx hB O D => ?_)
      have e4 : a.tmps[4]? = some (.pointer (some ⟨w.heap.size + 1, 0, none⟩)) := O 4 (by rfl)
      obtain ⟨_, e58, rfl⟩ := D 10 _ _ _ (by decide) rfl rfl rfl
      obtain ⟨c0, c1, _⟩ := X1.out.below hB
      clear O D
      exact ⟨wanted_of rfl rfl e58 rfl, by go_simp⟩
    refine StepsP.cons ?_ ?_
    · refine step_val (fun a wx hB O D => ?_)
      have e2 : a.tmps[2]? = some (.slice A T.length cap) := O 2 (by rfl)
      obtain ⟨_, e58, rfl⟩ := D 10 _ _ _ (by decide) rfl rfl rfl
      clear O D
      exact ⟨wanted_of rfl rfl e58 rfl, by unfold execOp; simp only [ev e2]; rfl⟩
    refine StepsP.cons ?_ ?_
    · refine step_call (enters_of Try.func14 (by kernel_rfl) rfl) rfl rfl (fun a wx hB O D => ?_)
      obtain ⟨_, e59, rfl⟩ := D 11 _ _ _ (by decide) rfl rfl rfl
      obtain ⟨_, e60, rfl⟩ := D 12 _ _ _ (by decide) rfl rfl rfl
      obtain ⟨_, e61, rfl⟩ := D 13 _ _ _ (by decide) rfl rfl rfl
      obtain ⟨_, e58, rfl⟩ := D 10 _ _ _ (by decide) rfl rfl rfl
      refine ⟨wanted_of rfl rfl e58 rfl, #[.agg #[.int .i64 g.n, .slice Ae g.e.length ce], .agg #[.slice Av p.v.length cv, .slice Ap p.e.length cp], .slice A T.length cap], by simp only [List.map_toArray, List.map_cons, List.map_nil, ev e59, ev e60, ev e61] <;> rfl, ?_⟩
      exact (HSP.out _ (trans2 HB5.out hB)).mono fun _ _ ⟨he, hb⟩ => ⟨_, he, hb, rfl⟩
    refine StepsP.cons ?_ ?_
    · refine step_val (fun a wx hB O D => ?_)
      have e3 : a.tmps[3]? = some (.pointer (some ⟨w.heap.size, 0, none⟩)) := O 3 (by rfl)
      obtain ⟨_, e58, rfl⟩ := D 10 _ _ _ (by decide) rfl rfl rfl
      obtain ⟨c0, c1, _⟩ := X0.out.below hB
      clear O D
      exact ⟨wanted_of rfl rfl e58 rfl, by go_simp⟩
    refine StepsP.cons ?_ ?_
    · refine step_val (fun a wx hB O D => ?_)
      have e4 : a.tmps[4]? = some (.pointer (some ⟨w.heap.size + 1, 0, none⟩)) := O 4 (by rfl)
      obtain ⟨_, e58, rfl⟩ := D 10 _ _ _ (by decide) rfl rfl rfl
      obtain ⟨c0, c1, _⟩ := X1.out.below hB
      clear O D
      exact ⟨wanted_of rfl rfl e58 rfl, by go_simp⟩
    refine StepsP.cons ?_ ?_
    · refine step_val (fun a wx hB O D => ?_)
      have e2 : a.tmps[2]? = some (.slice A T.length cap) := O 2 (by rfl)
      obtain ⟨_, e58, rfl⟩ := D 10 _ _ _ (by decide) rfl rfl rfl
      clear O D
      exact ⟨wanted_of rfl rfl e58 rfl, by unfold execOp; simp only [ev e2]; rfl⟩
    refine StepsP.cons ?_ ?_
    · refine step_call (enters_of Try.func23 (by kernel_rfl) rfl) rfl rfl (fun a wx hB O D => ?_)
      obtain ⟨_, e63, rfl⟩ := D 15 _ _ _ (by decide) rfl rfl rfl
      obtain ⟨_, e64, rfl⟩ := D 16 _ _ _ (by decide) rfl rfl rfl
      obtain ⟨_, e65, rfl⟩ := D 17 _ _ _ (by decide) rfl rfl rfl
      obtain ⟨_, e58, rfl⟩ := D 10 _ _ _ (by decide) rfl rfl rfl
      refine ⟨wanted_of rfl rfl e58 rfl, #[.agg #[.int .i64 g.n, .slice Ae g.e.length ce], .agg #[.slice Av p.v.length cv, .slice Ap p.e.length cp], .slice A T.length cap], by simp only [List.map_toArray, List.map_cons, List.map_nil, ev e63, ev e64, ev e65] <;> rfl, ?_⟩
      exact (HRS.out _ (trans2 HB5.out hB)).mono fun _ _ ⟨he, hb⟩ => ⟨_, he, hb, rfl⟩
    refine StepsP.cons ?_ ?_
    · refine step_val (fun a wx hB O D => ?_)
      obtain ⟨_, e62, rfl⟩ := D 14 _ _ _ (by decide) rfl rfl rfl
      obtain ⟨_, e66, rfl⟩ := D 18 _ _ _ (by decide) rfl rfl rfl
      obtain ⟨_, e58, rfl⟩ := D 10 _ _ _ (by decide) rfl rfl rfl
      clear O D
      exact ⟨wanted_of rfl rfl e58 rfl, by go_simp⟩
    refine StepsP.cons ?_ ?_
    · refine step_val (fun a wx hB O D => ?_)
      obtain ⟨_, e58, rfl⟩ := D 10 _ _ _ (by decide) rfl rfl rfl
      obtain ⟨_, e67, rfl⟩ := D 19 _ _ _ (by decide) rfl rfl rfl
      clear O D
      exact ⟨rfl, by go_simp⟩
    refine StepsP.cons ?_ ?_
    · refine step_val (fun a wx hB O D => ?_)
      obtain ⟨_, e68, rfl⟩ := D 20 _ _ _ (by decide) rfl rfl rfl
      clear O D
      exact ⟨rfl, by unfold execOp; simp only [ev e68]; rfl⟩
    exact StepsP.nil
  · intro wz hZ
    refine EndP.is ?_
    refine EndP.is ?_
    refine EndP.is ?_
    refine EndP.is ?_
    refine EndP.is ?_
    refine EndP.is ?_
    refine EndP.is ?_
    refine EndP.sp rfl (fun v55 s55 => ?_)
    refine EndP.is ?_
    refine EndP.is ?_
    refine EndP.is ?_
    refine EndP.is ?_
    refine EndP.is ?_
    refine EndP.is ?_
    refine EndP.is ?_
    refine EndP.is ?_
    refine EndP.is ?_
    refine EndP.is ?_
    refine EndP.is ?_
    refine EndP.is ?_
    refine EndP.is ?_
    refine EndP.is ?_
    refine EndP.nil ?_
  -- behind seven
    refine wpList_nil ?_
    simp only [Act.put, List.setIfInBounds_toArray, List.set_cons_zero, List.set_cons_succ]
    have HZ := Lib.hid (trans2 HM.out (trans2 HB5.out hZ))
    clear hZ
    go_wp2
    go_ret
    exact ⟨rfl, HZ.out⟩
end Go.Proofs.Ytmbcjilkcbcaiaa.Fc
