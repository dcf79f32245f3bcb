/-
  GraphPuts: an edge that was dropped, with its ends, put in again, leaves a part as it was: the law's call answers true at every input.
-/
import Derived.Test.YtpcjdkldonikfaaGrX
import Derived.Test.YtpcjdkldonikfaaLawGS
namespace Go.Proofs.Ytpcjdkldonikfaa
open Go.RowKit

theorem pt_snd {w : World} {a b : Value} {p : Prt} (h : Pt w (.agg #[a, b]) p) : Ints w b p.e := by
  obtain ⟨vv, ve, e, _, h2⟩ := h
  simp only [Value.agg.injEq, Array.mk.injEq, List.cons.injEq, and_true] at e
  rw [e.2]; exact h2
theorem pt_fst {w : World} {a b : Value} {p : Prt} (h : Pt w (.agg #[a, b]) p) : Ints w a p.v := by
  obtain ⟨vv, ve, e, h1, _⟩ := h
  simp only [Value.agg.injEq, Array.mk.injEq, List.cons.injEq, and_true] at e
  rw [e.1]; exact h1

set_option maxRecDepth 100000 in
set_option maxHeartbeats 4000000 in
theorem graphPuts_any (v : Value) (g : Gph) (u : Value) (p : Prt) (e : Int) (w : World) (h : Gr w v g) (h' : Pt w u p) :
    Calls Try.prog 8 #[v, u, .int .i64 e] w fun o w' => o = .returned (.bool true) ∧ Below w.heap.size w w' := by
  have HG := Lib.hid h
  have HP := Lib.hid h'
  obtain ⟨ve, rfl, h1⟩ := h
  obtain ⟨Ae, ce, rfl⟩ := h1.form
  obtain ⟨vv, vp, rfl, h2, h3⟩ := h'
  obtain ⟨A1, k1, rfl⟩ := ints_form h2
  obtain ⟨A2, k2, rfl⟩ := ints_form h3
  obtain ⟨b1, b2, hm⟩ := two_boxes w (.int .i64 g.n) (.slice Ae g.e.length ce) (.slice A1 p.v.length k1) (.slice A2 p.e.length k2) 24 29
  have HX1 := Lib.hid b1
  have HX2 := Lib.hid b2
  have HM := Lib.hid hm
  replace HG := Lib.hid (HG.out.below hm)
  replace HP := Lib.hid (HP.out.below hm)
  clear b1 b2 hm h1 h2 h3
  go_enter Try.func8, Try.ntmps8
  go_wp2_with fail
  generalize (w.alloc (.cells #[.int .i64 g.n, .slice Ae g.e.length ce] 24)).alloc (.cells #[.slice A1 p.v.length k1, .slice A2 p.e.length k2] 29) = w1 at *
  refine (awake_any w1).mono ?_
  rintro o w2 ⟨rfl, hB⟩
  replace HG := Lib.hid (HG.out.below hB)
  replace HP := Lib.hid (HP.out.below hB)
  replace HX1 := Lib.hid (HX1.out.below hB)
  replace HX2 := Lib.hid (HX2.out.below hB)
  replace HM := Lib.hid (trans2 HM.out hB)
  have c0 := HX1.out.c0
  have c1 := HX1.out.c1
  have d0 := HX2.out.c0
  have d1 := HX2.out.c1
  clear hB
  go_wp2_with fail
  refine (small_any _ _ g p w2 HG.out HP.out).mono ?_
  rintro o w3 ⟨rfl, hB⟩
  replace HG := Lib.hid (HG.out.below hB)
  replace HP := Lib.hid (HP.out.below hB)
  replace HX1 := Lib.hid (HX1.out.below hB)
  replace HX2 := Lib.hid (HX2.out.below hB)
  replace HM := Lib.hid (trans2 HM.out hB)
  clear hB c0 c1 d0 d1
  by_cases hs : smallB g p = true
  case neg =>
    have e1 : smallI g p = 0 := if_neg hs
    rw [e1]
    clear e1 hs
    go_wp2_with fail
    refine (awake_any w3).mono ?_
    rintro o w4 ⟨rfl, hB4⟩
    go_wp2
    go_ret
    exact ⟨rfl, trans2 HM.out hB4⟩
  have e1 : smallI g p = 1 := if_pos hs
  obtain ⟨hlen, hlv, hle, hn60⟩ := of_decide_eq_true hs
  have HPF := Lib.hid (show p.few from ⟨by omega, by omega⟩)
  rw [e1]
  have c0 := HX1.out.c0
  have c1 := HX1.out.c1
  have d0 := HX2.out.c0
  have d1 := HX2.out.c1
  clear e1 hs
  go_wp2_with fail
  refine (rightPart_any _ _ g p w3 HG.out HP.out (by omega) (by omega) (by omega)).mono ?_
  rintro o w4 ⟨rfl, hB⟩
  replace HG := Lib.hid (HG.out.below hB)
  replace HP := Lib.hid (HP.out.below hB)
  replace HX1 := Lib.hid (HX1.out.below hB)
  replace HX2 := Lib.hid (HX2.out.below hB)
  replace HM := Lib.hid (trans2 HM.out hB)
  clear hB c0 c1 d0 d1
  by_cases hr : perr g p = 0
  case neg =>
    have he' : (perr g p != 0) = true := by simpa using hr
    clear hr
    generalize perr g p = pe at *
    go_wp2_with fail
    refine (awake_any w4).mono ?_
    rintro o w5 ⟨rfl, hB4⟩
    go_wp2
    go_ret
    exact ⟨rfl, trans2 HM.out hB4⟩
  have HPR := Lib.hid hr
  rw [hr]
  have d0 := HX2.out.c0
  have d1 := HX2.out.c1
  clear hr
  go_wp2_with fail
  refine (drop_any _ p e w4 HP.out HPF.out).mono ?_
  rintro o w5 ⟨r, rfl, hB, hD⟩
  obtain ⟨vv, vp, rfl, i1, i2⟩ := hD
  obtain ⟨A3, k3, rfl⟩ := ints_form i1
  obtain ⟨A4, k4, rfl⟩ := ints_form i2
  have hBa := below_alloc (w := w5) (.cells #[.slice A3 (p.drop e).v.length k3, .slice A4 (p.drop e).e.length k4] 29)
  have HX7 := Lib.hid (one_box w5 (.slice A3 (p.drop e).v.length k3) (.slice A4 (p.drop e).e.length k4) 29).1
  have HD := Lib.hid (i2.below hBa)
  have HDP := Lib.hid (show Pt (w5.alloc (.cells #[.slice A3 (p.drop e).v.length k3, .slice A4 (p.drop e).e.length k4] 29)) (.agg #[.slice A3 (p.drop e).v.length k3, .slice A4 (p.drop e).e.length k4]) (p.drop e) from ⟨_, _, rfl, i1.below hBa, i2.below hBa⟩)
  have hBB := trans2 hB hBa
  replace HG := Lib.hid (HG.out.below hBB)
  replace HP := Lib.hid (HP.out.below hBB)
  replace HX1 := Lib.hid (HX1.out.below hBB)
  replace HX2 := Lib.hid (HX2.out.below hBB)
  replace HM := Lib.hid (trans2 HM.out hBB)
  have c0 := HX1.out.c0
  have c1 := HX1.out.c1
  clear hB hBa hBB i1 i2 d0 d1
  have hsp := span_any (.agg #[.int .i64 g.n, .slice Ae g.e.length ce]) (.slice (some ⟨(w5.alloc (.cells #[.slice A3 (p.drop e).v.length k3, .slice A4 (p.drop e).e.length k4] 29)).heap.size, 0, none⟩) 1 1) g [e] _ (HG.out.below (below_alloc (.cells #[.int .i64 e] 3))) (ints_lit1 _ e) (by omega) (by simp)
  rw [show (w5.alloc (.cells #[.slice A3 (p.drop e).v.length k3, .slice A4 (p.drop e).e.length k4] 29)).heap.size = w5.heap.size + 1 by simp] at hsp
  have HSP := Lib.hid hsp
  clear hsp
  go_wp2_with fail
  generalize w5.alloc (.cells #[.slice A3 (p.drop e).v.length k3, .slice A4 (p.drop e).e.length k4] 29) = w6 at *
  refine HSP.out.mono ?_
  rintro o w7 ⟨r, rfl, hB, hS⟩
  obtain ⟨vv, vp, rfl, i1, i2⟩ := hS
  obtain ⟨A5, k5, rfl⟩ := ints_form i1
  obtain ⟨A6, k6, rfl⟩ := ints_form i2
  have hBa := below_alloc (w := w7) (.cells #[.slice A5 (spanOf g [e]).v.length k5, .slice A6 (spanOf g [e]).e.length k6] 29)
  have HX8 := Lib.hid (one_box w7 (.slice A5 (spanOf g [e]).v.length k5) (.slice A6 (spanOf g [e]).e.length k6) 29).1
  have HQ0 := Lib.hid (show Pt (w7.alloc (.cells #[.slice A5 (spanOf g [e]).v.length k5, .slice A6 (spanOf g [e]).e.length k6] 29)) (.agg #[.slice A5 (spanOf g [e]).v.length k5, .slice A6 (spanOf g [e]).e.length k6]) (spanOf g [e]) from ⟨_, _, rfl, i1.below hBa, i2.below hBa⟩)
  have hBB := trans2 (trans2 (below_alloc (.cells #[.int .i64 e] 3)) hB) hBa
  replace HG := Lib.hid (HG.out.below hBB)
  replace HP := Lib.hid (HP.out.below hBB)
  replace HX1 := Lib.hid (HX1.out.below hBB)
  replace HX2 := Lib.hid (HX2.out.below hBB)
  replace HD := Lib.hid (HD.out.below hBB)
  replace HDP := Lib.hid (HDP.out.below hBB)
  replace HX7 := Lib.hid (HX7.out.below hBB)
  replace HM := Lib.hid (trans2 HM.out hBB)
  clear hB hBa hBB i1 i2 c0 c1 HSP
  have HDF := Lib.hid (drop_few HPF.out e)
  by_cases hm : e ∈ p.e
  · have HSE := Lib.hid (span_err_one HPR.out hm)
    have HSO := Lib.hid (show spanOf g [e] = g.span [e] from if_pos HSE.out)
    have HMM := Lib.hid (decide_eq_true hm)
    have HPB := Lib.hid (put_back HPR.out hm)
    have HWI := Lib.hid (within_true (span_up (g := g) e) (perr_up HPR.out) (span_sub HPR.out hm))
    have HNP := Lib.hid (not_put (p := p) (e := e) HPR.out)
    have HNI := Lib.hid (show decide (e ∈ (p.drop e).e) = false from decide_eq_false (fun h => ((mem_dropL p.e e e).1 h).2 rfl))
    have HDU := Lib.hid (drop_up (perr_up HPR.out) e).2
    have HQF := Lib.hid (span_few g [e] (by simp) (perr_rises HPR.out).1)
    have HQ := Lib.hid (show Pt _ _ (g.span [e]) by rw [← HSO.out]; exact HQ0.out)
    have HOF := Lib.hid (show ((p.drop e).or (g.span [e])).v.length ≤ 1000000 ∧ ((p.drop e).or (g.span [e])).e.length ≤ 1000000 by
      have h1 := HPB.out
      rw [sameB_iff] at h1
      rw [h1]; exact HPF.out)
    have HIP := Lib.hid (show Ints _ _ p.e from pt_snd HP.out)
    rw [HSE.out]
    have d0 := HX2.out.c0
    have d1 := HX2.out.c1
    clear hm HQ0
    go_wp2_with fail
    generalize w7.alloc (.cells #[.slice A5 (spanOf g [e]).v.length k5, .slice A6 (spanOf g [e]).e.length k6] 29) = w8 at *
    refine (has_any _ p.e e w8 HIP.out (perr_up HPR.out).2 (by omega)).mono ?_
    rintro o w9 ⟨rfl, hB⟩
    rw [HMM.out]
    replace HP := Lib.hid (HP.out.below hB)
    replace HX2 := Lib.hid (HX2.out.below hB)
    replace HX7 := Lib.hid (HX7.out.below hB)
    replace HX8 := Lib.hid (HX8.out.below hB)
    replace HD := Lib.hid (HD.out.below hB)
    replace HDP := Lib.hid (HDP.out.below hB)
    replace HQ := Lib.hid (HQ.out.below hB)
    replace HM := Lib.hid (trans2 HM.out hB)
    clear hB d0 d1 HG HX1 HIP
    go_wp2_with fail
    refine wp_region_plan [is (.pointer (some ⟨w5.heap.size, 1, none⟩)), is (.slice A4 (p.drop e).e.length k4), is (.int .i64 e), is (.bool false), is (.bool true), is (.bool true), is (.agg #[.slice A3 (p.drop e).v.length k3, .slice A4 (p.drop e).e.length k4]), is (.agg #[.slice A5 (spanOf g [e]).v.length k5, .slice A6 (spanOf g [e]).e.length k6]), spPt ((p.drop e).or (g.span [e])), is (.agg #[.slice A1 p.v.length k1, .slice A2 p.e.length k2]), is (.bool true), is (.bool true), is (.bool true), is (.agg #[.slice A5 (spanOf g [e]).v.length k5, .slice A6 (spanOf g [e]).e.length k6]), is (.agg #[.slice A1 p.v.length k1, .slice A2 p.e.length k2]), is (.bool true), is (.bool true), is (.bool true), is (.agg #[.slice A5 (spanOf g [e]).v.length k5, .slice A6 (spanOf g [e]).e.length k6]), is (.agg #[.slice A3 (p.drop e).v.length k3, .slice A4 (p.drop e).e.length k4]), is (.bool false), is (.bool true), is (.bool true), is (.bool true)] (by kernel_rfl) (by kernel_rfl) ?_ ?_
    · skip
      refine StepsP.cons ?_ ?_
      · refine step_val (fun a wx hB O D => ?_)
        have e7 : a.tmps[7]? = some (.pointer (some ⟨w5.heap.size, 0, none⟩)) := O 7 (by rfl)
        clear O D
        exact ⟨rfl, by go_simp⟩
      refine StepsP.cons ?_ ?_
      · refine step_val (fun a wx hB O D => ?_)
        obtain ⟨_, e53, rfl⟩ := D 0 _ _ _ (by decide) rfl rfl rfl
        obtain ⟨c0, c1, _⟩ := HX7.out.below hB
        clear O D
        exact ⟨rfl, by go_simp⟩
      refine StepsP.cons ?_ ?_
      · refine step_val (fun a wx hB O D => ?_)
        have e2 : a.tmps[2]? = some (.int .i64 e) := O 2 (by rfl)
        clear O D
        exact ⟨rfl, by unfold execOp; simp only [ev e2]; rfl⟩
      refine StepsP.cons ?_ ?_
      · refine step_call (enters_of Try.func23 (by kernel_rfl) rfl) rfl rfl (fun a wx hB O D => ?_)
        obtain ⟨_, e54, rfl⟩ := D 1 _ _ _ (by decide) rfl rfl rfl
        obtain ⟨_, e55, rfl⟩ := D 2 _ _ _ (by decide) rfl rfl rfl
        refine ⟨rfl, #[.slice A4 (p.drop e).e.length k4, .int .i64 e], by simp only [List.map_toArray, List.map_cons, List.map_nil, ev e54, ev e55] <;> rfl, ?_⟩
        exact (has_any _ (p.drop e).e e _ (HD.out.below hB) HDU.out (by have := (drop_few HPF.out e).2; omega)).mono fun _ _ ⟨he, hb⟩ => ⟨_, by rw [he, HNI.out], hb, rfl⟩
      refine StepsP.cons ?_ ?_
      · refine step_val (fun a wx hB O D => ?_)
        obtain ⟨_, e56, rfl⟩ := D 3 _ _ _ (by decide) rfl rfl rfl
        clear O D
        exact ⟨rfl, by go_simp⟩
      refine StepsP.cons ?_ ?_
      · refine step_val (fun a wx hB O D => ?_)
        obtain ⟨_, e57, rfl⟩ := D 4 _ _ _ (by decide) rfl rfl rfl
        clear O D
        exact ⟨rfl, by unfold execOp; simp only [ev e57]; rfl⟩
      refine StepsP.cons ?_ ?_
      · refine step_val (fun a wx hB O D => ?_)
        have e7 : a.tmps[7]? = some (.pointer (some ⟨w5.heap.size, 0, none⟩)) := O 7 (by rfl)
        obtain ⟨_, e58, rfl⟩ := D 5 _ _ _ (by decide) rfl rfl rfl
        obtain ⟨c0, c1, _⟩ := HX7.out.below hB
        clear O D
        exact ⟨wanted_of rfl rfl e58 rfl, by go_simp⟩
      refine StepsP.cons ?_ ?_
      · refine step_val (fun a wx hB O D => ?_)
        have e8 : a.tmps[8]? = some (.pointer (some ⟨w7.heap.size, 0, none⟩)) := O 8 (by rfl)
        obtain ⟨_, e58, rfl⟩ := D 5 _ _ _ (by decide) rfl rfl rfl
        obtain ⟨c0, c1, _⟩ := HX8.out.below hB
        clear O D
        exact ⟨wanted_of rfl rfl e58 rfl, by go_simp⟩
      refine StepsP.cons ?_ ?_
      · refine step_call (enters_of Try.func20 (by kernel_rfl) rfl) rfl rfl (fun a wx hB O D => ?_)
        obtain ⟨_, e59, rfl⟩ := D 6 _ _ _ (by decide) rfl rfl rfl
        obtain ⟨_, e60, rfl⟩ := D 7 _ _ _ (by decide) rfl rfl rfl
        obtain ⟨_, e58, rfl⟩ := D 5 _ _ _ (by decide) rfl rfl rfl
        refine ⟨wanted_of rfl rfl e58 rfl, #[.agg #[.slice A3 (p.drop e).v.length k3, .slice A4 (p.drop e).e.length k4], .agg #[.slice A5 (spanOf g [e]).v.length k5, .slice A6 (spanOf g [e]).e.length k6]], by simp only [List.map_toArray, List.map_cons, List.map_nil, ev e59, ev e60] <;> rfl, ?_⟩
        exact or_any _ _ (p.drop e) (g.span [e]) _ (HDP.out.below hB) (HQ.out.below hB) (drop_few HPF.out e) HQF.out
      refine StepsP.cons ?_ ?_
      · refine step_val (fun a wx hB O D => ?_)
        have e4 : a.tmps[4]? = some (.pointer (some ⟨w.heap.size + 1, 0, none⟩)) := O 4 (by rfl)
        obtain ⟨_, e58, rfl⟩ := D 5 _ _ _ (by decide) rfl rfl rfl
        obtain ⟨c0, c1, _⟩ := HX2.out.below hB
        clear O D
        exact ⟨wanted_of rfl rfl e58 rfl, by go_simp⟩
      refine StepsP.cons ?_ ?_
      · refine step_call (enters_of Try.func24 (by kernel_rfl) rfl) rfl rfl (fun a wx hB O D => ?_)
        obtain ⟨v61, e61, s61⟩ := D 8 _ _ _ (by decide) rfl rfl rfl
        obtain ⟨_, e62, rfl⟩ := D 9 _ _ _ (by decide) rfl rfl rfl
        obtain ⟨_, e58, rfl⟩ := D 5 _ _ _ (by decide) rfl rfl rfl
        refine ⟨wanted_of rfl rfl e58 rfl, #[v61, .agg #[.slice A1 p.v.length k1, .slice A2 p.e.length k2]], by simp only [List.map_toArray, List.map_cons, List.map_nil, ev e61, ev e62] <;> rfl, ?_⟩
        exact (same_any _ _ ((p.drop e).or (g.span [e])) p _ s61 (HP.out.below hB) HOF.out.1 HOF.out.2 HPF.out.1 HPF.out.2).mono fun _ _ ⟨he, hb⟩ => ⟨_, by rw [he, HPB.out], hb, rfl⟩
      refine StepsP.cons ?_ ?_
      · refine step_val (fun a wx hB O D => ?_)
        obtain ⟨_, e58, rfl⟩ := D 5 _ _ _ (by decide) rfl rfl rfl
        obtain ⟨_, e63, rfl⟩ := D 10 _ _ _ (by decide) rfl rfl rfl
        clear O D
        exact ⟨rfl, by go_simp⟩
      refine StepsP.cons ?_ ?_
      · refine step_val (fun a wx hB O D => ?_)
        obtain ⟨_, e64, rfl⟩ := D 11 _ _ _ (by decide) rfl rfl rfl
        clear O D
        exact ⟨rfl, by unfold execOp; simp only [ev e64]; rfl⟩
      refine StepsP.cons ?_ ?_
      · refine step_val (fun a wx hB O D => ?_)
        have e8 : a.tmps[8]? = some (.pointer (some ⟨w7.heap.size, 0, none⟩)) := O 8 (by rfl)
        obtain ⟨_, e65, rfl⟩ := D 12 _ _ _ (by decide) rfl rfl rfl
        obtain ⟨c0, c1, _⟩ := HX8.out.below hB
        clear O D
        exact ⟨wanted_of rfl rfl e65 rfl, by go_simp⟩
      refine StepsP.cons ?_ ?_
      · refine step_val (fun a wx hB O D => ?_)
        have e4 : a.tmps[4]? = some (.pointer (some ⟨w.heap.size + 1, 0, none⟩)) := O 4 (by rfl)
        obtain ⟨_, e65, rfl⟩ := D 12 _ _ _ (by decide) rfl rfl rfl
        obtain ⟨c0, c1, _⟩ := HX2.out.below hB
        clear O D
        exact ⟨wanted_of rfl rfl e65 rfl, by go_simp⟩
      refine StepsP.cons ?_ ?_
      · refine step_call (enters_of Try.func22 (by kernel_rfl) rfl) rfl rfl (fun a wx hB O D => ?_)
        obtain ⟨_, e66, rfl⟩ := D 13 _ _ _ (by decide) rfl rfl rfl
        obtain ⟨_, e67, rfl⟩ := D 14 _ _ _ (by decide) rfl rfl rfl
        obtain ⟨_, e65, rfl⟩ := D 12 _ _ _ (by decide) rfl rfl rfl
        refine ⟨wanted_of rfl rfl e65 rfl, #[.agg #[.slice A5 (spanOf g [e]).v.length k5, .slice A6 (spanOf g [e]).e.length k6], .agg #[.slice A1 p.v.length k1, .slice A2 p.e.length k2]], by simp only [List.map_toArray, List.map_cons, List.map_nil, ev e66, ev e67] <;> rfl, ?_⟩
        exact (within_any _ _ (g.span [e]) p _ (HQ.out.below hB) (HP.out.below hB) HQF.out HPF.out).mono fun _ _ ⟨he, hb⟩ => ⟨_, by rw [he, HWI.out], hb, rfl⟩
      refine StepsP.cons ?_ ?_
      · refine step_val (fun a wx hB O D => ?_)
        obtain ⟨_, e65, rfl⟩ := D 12 _ _ _ (by decide) rfl rfl rfl
        obtain ⟨_, e68, rfl⟩ := D 15 _ _ _ (by decide) rfl rfl rfl
        clear O D
        exact ⟨rfl, by go_simp⟩
      refine StepsP.cons ?_ ?_
      · refine step_val (fun a wx hB O D => ?_)
        obtain ⟨_, e69, rfl⟩ := D 16 _ _ _ (by decide) rfl rfl rfl
        clear O D
        exact ⟨rfl, by unfold execOp; simp only [ev e69]; rfl⟩
      refine StepsP.cons ?_ ?_
      · refine step_val (fun a wx hB O D => ?_)
        have e8 : a.tmps[8]? = some (.pointer (some ⟨w7.heap.size, 0, none⟩)) := O 8 (by rfl)
        obtain ⟨_, e70, rfl⟩ := D 17 _ _ _ (by decide) rfl rfl rfl
        obtain ⟨c0, c1, _⟩ := HX8.out.below hB
        clear O D
        exact ⟨wanted_of rfl rfl e70 rfl, by go_simp⟩
      refine StepsP.cons ?_ ?_
      · refine step_val (fun a wx hB O D => ?_)
        have e7 : a.tmps[7]? = some (.pointer (some ⟨w5.heap.size, 0, none⟩)) := O 7 (by rfl)
        obtain ⟨_, e70, rfl⟩ := D 17 _ _ _ (by decide) rfl rfl rfl
        obtain ⟨c0, c1, _⟩ := HX7.out.below hB
        clear O D
        exact ⟨wanted_of rfl rfl e70 rfl, by go_simp⟩
      refine StepsP.cons ?_ ?_
      · refine step_call (enters_of Try.func22 (by kernel_rfl) rfl) rfl rfl (fun a wx hB O D => ?_)
        obtain ⟨_, e71, rfl⟩ := D 18 _ _ _ (by decide) rfl rfl rfl
        obtain ⟨_, e72, rfl⟩ := D 19 _ _ _ (by decide) rfl rfl rfl
        obtain ⟨_, e70, rfl⟩ := D 17 _ _ _ (by decide) rfl rfl rfl
        refine ⟨wanted_of rfl rfl e70 rfl, #[.agg #[.slice A5 (spanOf g [e]).v.length k5, .slice A6 (spanOf g [e]).e.length k6], .agg #[.slice A3 (p.drop e).v.length k3, .slice A4 (p.drop e).e.length k4]], by simp only [List.map_toArray, List.map_cons, List.map_nil, ev e71, ev e72] <;> rfl, ?_⟩
        exact (within_any _ _ (g.span [e]) (p.drop e) _ (HQ.out.below hB) (HDP.out.below hB) HQF.out (drop_few HPF.out e)).mono fun _ _ ⟨he, hb⟩ => ⟨_, by rw [he, HNP.out], hb, rfl⟩
      refine StepsP.cons ?_ ?_
      · refine step_val (fun a wx hB O D => ?_)
        obtain ⟨_, e73, rfl⟩ := D 20 _ _ _ (by decide) rfl rfl rfl
        obtain ⟨_, e70, rfl⟩ := D 17 _ _ _ (by decide) rfl rfl rfl
        clear O D
        exact ⟨wanted_of rfl rfl e70 rfl, by go_simp⟩
      refine StepsP.cons ?_ ?_
      · refine step_val (fun a wx hB O D => ?_)
        obtain ⟨_, e70, rfl⟩ := D 17 _ _ _ (by decide) rfl rfl rfl
        obtain ⟨_, e74, rfl⟩ := D 21 _ _ _ (by decide) rfl rfl rfl
        clear O D
        exact ⟨rfl, by go_simp⟩
      refine StepsP.cons ?_ ?_
      · refine step_val (fun a wx hB O D => ?_)
        obtain ⟨_, e75, rfl⟩ := D 22 _ _ _ (by decide) rfl rfl rfl
        clear O D
        exact ⟨rfl, by unfold execOp; simp only [ev e75]; rfl⟩
      exact StepsP.nil
    · intro wz hZ
      refine EndP.is ?_
      refine EndP.is ?_
      refine EndP.is ?_
      refine EndP.is ?_
      refine EndP.is ?_
      refine EndP.is ?_
      refine EndP.is ?_
      refine EndP.is ?_
      refine EndP.sp rfl (fun v61 s61 => ?_)
      refine EndP.is ?_
      refine EndP.is ?_
      refine EndP.is ?_
      refine EndP.is ?_
      refine EndP.is ?_
      refine EndP.is ?_
      refine EndP.is ?_
      refine EndP.is ?_
      refine EndP.is ?_
      refine EndP.is ?_
      refine EndP.is ?_
      refine EndP.is ?_
      refine EndP.is ?_
      refine EndP.is ?_
      refine EndP.is ?_
      refine EndP.nil ?_
      have HZ := Lib.hid (trans2 HM.out hZ)
      refine wpList_nil ?_
      simp only [Act.put, List.setIfInBounds_toArray, List.set_cons_zero, List.set_cons_succ]
      go_wp2
      go_ret
      exact ⟨rfl, HZ.out⟩
  · have HMM := Lib.hid (decide_eq_false hm)
    have HDS := Lib.hid (drop_same hm)
    have HIP := Lib.hid (show Ints _ _ p.e from pt_snd HP.out)
    by_cases hse : spanErr g [e] = 0
    · rw [hse]
      have d0 := HX2.out.c0
      have d1 := HX2.out.c1
      clear hm HQ0 hse
      go_wp2_with fail
      generalize w7.alloc (.cells #[.slice A5 (spanOf g [e]).v.length k5, .slice A6 (spanOf g [e]).e.length k6] 29) = w8 at *
      refine (has_any _ p.e e w8 HIP.out (perr_up HPR.out).2 (by omega)).mono ?_
      rintro o w9 ⟨rfl, hB⟩
      rw [HMM.out]
      replace HP := Lib.hid (HP.out.below hB)
      replace HX2 := Lib.hid (HX2.out.below hB)
      replace HX7 := Lib.hid (HX7.out.below hB)
      replace HDP := Lib.hid (HDP.out.below hB)
      replace HM := Lib.hid (trans2 HM.out hB)
      clear hB d0 d1 HG HX1 HIP HX8 HD
      have d0 := HX2.out.c0
      have d1 := HX2.out.c1
      have x0 := HX7.out.c0
      have x1 := HX7.out.c1
      go_wp2_with fail
      refine (same_any _ _ (p.drop e) p w9 HDP.out HP.out HDF.out.1 HDF.out.2 HPF.out.1 HPF.out.2).mono ?_
      rintro o w10 ⟨rfl, hB⟩
      rw [HDS.out]
      go_wp2
      go_ret
      exact ⟨rfl, trans2 HM.out hB⟩
    · obtain ⟨se, hs2⟩ : ∃ se, spanErr g [e] = se := ⟨_, rfl⟩
      rw [hs2] at hse ⊢
      have he' : (se != 0) = true := by simpa using hse
      clear hm HQ0 hse hs2
      have d0 := HX2.out.c0
      have d1 := HX2.out.c1
      have x0 := HX7.out.c0
      have x1 := HX7.out.c1
      go_wp2_with fail
      generalize w7.alloc (.cells #[.slice A5 (spanOf g [e]).v.length k5, .slice A6 (spanOf g [e]).e.length k6] 29) = w8 at *
      refine (same_any _ _ (p.drop e) p w8 HDP.out HP.out HDF.out.1 HDF.out.2 HPF.out.1 HPF.out.2).mono ?_
      rintro o w10 ⟨rfl, hB⟩
      rw [HDS.out]
      go_wp2
      go_ret
      exact ⟨rfl, trans2 HM.out hB⟩

end Go.Proofs.Ytpcjdkldonikfaa
