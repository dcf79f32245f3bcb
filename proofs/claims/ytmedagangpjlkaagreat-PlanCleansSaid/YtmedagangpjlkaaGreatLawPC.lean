/-
  PlanCleans: a plan's clean form begins each turn with its least dart; which plans are alike is the document's: the law's call answers true at every input.
-/
import Derived.Test.YtmedagangpjlkaaGreatM55
import Derived.Test.YtmedagangpjlkaaGreatM57
import Derived.Test.YtmedagangpjlkaaGreatM56
namespace Go.Proofs.YtmedagangpjlkaaGreat.Pl
open Go.Proofs.YtmedagangpjlkaaGreat Go.Proofs.YtmedagangpjlkaaGreat.Fc Go.Proofs.YtmedagangpjlkaaGreat.Rt Go.RowKit Go.Maps

set_option maxRecDepth 100000 in
set_option maxHeartbeats 16000000 in
theorem planCleans_any (v : Value) (q : List (List Int) × List (List Int)) (u : Value) (r : List (List Int) × List (List Int)) (w : World) (hx : PlanIn w v q.1 q.2) (hy : PlanIn w u r.1 r.2) :
    Calls Tryz.prog 7 #[v, u] w fun e w' => e = .returned (.bool true) ∧ Below w.heap.size w w' := by
  obtain ⟨T, S⟩ := q
  obtain ⟨U, R⟩ := r
  have HX := Lib.hid hx.pn
  have HY := Lib.hid hy.pn
  have HWT := Lib.hid (show ∀ j, ∀ y ∈ getT T j, (Lit.int .i64 y).wf = true from hx.wT)
  have HWS := Lib.hid (show ∀ j, ∀ y ∈ getT S j, (Lit.int .i64 y).wf = true from hx.wS)
  have HWU := Lib.hid (show ∀ j, ∀ y ∈ getT U j, (Lit.int .i64 y).wf = true from hy.wT)
  have HWR := Lib.hid (show ∀ j, ∀ y ∈ getT R j, (Lit.int .i64 y).wf = true from hy.wS)
  obtain ⟨⟨vT, vS, rfl, h4, h5⟩, _, _⟩ := hx
  obtain ⟨⟨vU, vR, rfl, h6, h7⟩, _, _⟩ := hy
  have h4 : LL w vT T := h4
  have h5 : LL w vS S := h5
  have h6 : LL w vU U := h6
  have h7 : LL w vR R := h7
  obtain ⟨AT, cT, rfl, _, _⟩ := h4.form
  obtain ⟨AS, cS, rfl, _, _⟩ := h5.form
  obtain ⟨AU, cU, rfl, _, _⟩ := h6.form
  obtain ⟨AR, cR, rfl, _, _⟩ := h7.form
  obtain ⟨b1, b2, hm⟩ := two_boxes w (.slice AT T.length cT) (.slice AS S.length cS) (.slice AU U.length cU) (.slice AR R.length cR) 30 30
  have HB1 := Lib.hid b1
  have HB2 := Lib.hid b2
  have HM := Lib.hid hm
  have HX1 := Lib.hid (show Pn _ (.agg #[.slice AT T.length cT, .slice AS S.length cS]) T S from HX.out.below hm)
  have HY1 := Lib.hid (show Pn _ (.agg #[.slice AU U.length cU, .slice AR R.length cR]) U R from HY.out.below hm)
  clear b1 b2 hm h4 h5 h6 h7 HX HY
  go_enter Tryz.func7, Tryz.ntmps7
  go_wp2_with fail
  generalize (w.alloc (.cells #[.slice AT T.length cT, .slice AS S.length cS] 30)).alloc (.cells #[.slice AU U.length cU, .slice AR R.length cR] 30) = w1 at *
  refine (pawake_any w1).mono ?_
  rintro e w2 ⟨rfl, hB2⟩
  have HQ1 := Lib.hid (HB1.out.below hB2)
  have c0 := HQ1.out.c0
  have c1 := HQ1.out.c1
  have HBB2 := Lib.hid hB2
  have HS1 := Lib.hid (small8_any _ _ _ w2 (show Gr w2 (.agg #[.int .i64 0, .slice none 0 0]) ⟨0, []⟩ from ⟨_, rfl, Edges.nil⟩) (show Pt w2 (.agg #[.slice none 0 0, .slice none 0 0]) ⟨[], []⟩ from Pt.nil) (HX1.out.below hB2))
  clear hB2
  go_wp2_with fail
  refine HS1.out.mono ?_
  rintro e w3 ⟨rfl, hB3⟩
  have HBB3 := Lib.hid (trans2 HBB2.out hB3)
  clear hB3 c0 c1 HS1 HQ1
  by_cases hs : small8 ⟨0, []⟩ ⟨[], []⟩ T S = true
  case neg =>
    have e : small8I ⟨0, []⟩ ⟨[], []⟩ T S = 0 := if_neg hs
    rw [e]
    clear e hs
    go_wp2_with fail
    refine (pawake_any w3).mono ?_
    rintro e w4 ⟨rfl, hB4⟩
    go_wp2
    go_ret
    exact ⟨rfl, trans2 HM.out (trans2 HBB3.out hB4)⟩
  have e : small8I ⟨0, []⟩ ⟨[], []⟩ T S = 1 := if_pos hs
  rw [e]
  obtain ⟨_, _, _, _, hlT, hrT, hlS, hrS⟩ := small8_facts hs HWT.out HWS.out
  have HRT := Lib.hid (show (∀ j, (getT T j).length ≤ 1000000) ∧ ∀ j, (getT S j).length ≤ 1000000 from ⟨fun j => Nat.le_trans (hrT j) (by decide), fun j => Nat.le_trans (hrS j) (by decide)⟩)
  have HLT := Lib.hid (show T.length ≤ 1000000 ∧ S.length ≤ 1000000 from ⟨by omega, by omega⟩)
  clear e hs hlT hrT hlS hrS
  have HQ2 := Lib.hid (HB2.out.below HBB3.out)
  have c0 := HQ2.out.c0
  have c1 := HQ2.out.c1
  have HS2 := Lib.hid (small8_any _ _ _ w3 (show Gr w3 (.agg #[.int .i64 0, .slice none 0 0]) ⟨0, []⟩ from ⟨_, rfl, Edges.nil⟩) (show Pt w3 (.agg #[.slice none 0 0, .slice none 0 0]) ⟨[], []⟩ from Pt.nil) (HY1.out.below HBB3.out))
  go_wp2_with fail
  refine HS2.out.mono ?_
  rintro e w4 ⟨rfl, hB4⟩
  have HBB4 := Lib.hid (trans2 HBB3.out hB4)
  clear hB4 c0 c1 HS2 HQ2
  by_cases hs : small8 ⟨0, []⟩ ⟨[], []⟩ U R = true
  case neg =>
    have e : small8I ⟨0, []⟩ ⟨[], []⟩ U R = 0 := if_neg hs
    rw [e]
    clear e hs
    go_wp2_with fail
    refine (pawake_any w4).mono ?_
    rintro e w5 ⟨rfl, hB5⟩
    go_wp2
    go_ret
    exact ⟨rfl, trans2 HM.out (trans2 HBB4.out hB5)⟩
  have e : small8I ⟨0, []⟩ ⟨[], []⟩ U R = 1 := if_pos hs
  rw [e]
  obtain ⟨_, _, _, _, hlT, hrT, hlS, hrS⟩ := small8_facts hs HWU.out HWR.out
  have HRU := Lib.hid (show (∀ j, (getT U j).length ≤ 1000000) ∧ ∀ j, (getT R j).length ≤ 1000000 from ⟨fun j => Nat.le_trans (hrT j) (by decide), fun j => Nat.le_trans (hrS j) (by decide)⟩)
  have HLU := Lib.hid (show U.length ≤ 1000000 ∧ R.length ≤ 1000000 from ⟨by omega, by omega⟩)
  clear e hs hlT hrT hlS hrS
  have HQ1 := Lib.hid (HB1.out.below HBB4.out)
  have c0 := HQ1.out.c0
  have c1 := HQ1.out.c1
  have HCL := Lib.hid (clean_any _ T S w4 (HX1.out.below HBB4.out) HLT.out.1 HRT.out.1 HLT.out.2 HRT.out.2)
  go_wp2_with fail
  refine HCL.out.mono ?_
  clear HCL HQ1 c0 c1
  rintro e w5 ⟨u5, rfl, hMP, hB5⟩
  have HPC := Lib.hid hMP.pn
  obtain ⟨a5, b5, us5, ts5, rfl, hMa, hMb⟩ := hMP
  obtain ⟨Ac, cc, rfl⟩ := hMa.shape
  obtain ⟨Ad, cd, rfl⟩ := hMb.shape
  have hlm : (T.map fst).length = T.length := List.length_map _
  rw [hlm] at HPC ⊢
  obtain ⟨o1, o2⟩ := one_box w5 (.slice Ac T.length cc) (.slice Ad S.length cd) 30
  have HBC := Lib.hid o1
  have HB56 := Lib.hid o2
  have HBB5 := Lib.hid (trans2 HBB4.out hB5)
  clear hMa hMb o1 o2 hB5 hlm
  go_wp2_with fail
  have X0 := Lib.hid ((HB1.out.below HBB5.out).below HB56.out)
  have X1 := Lib.hid ((HB2.out.below HBB5.out).below HB56.out)
  have HPC6 := Lib.hid (HPC.out.below HB56.out)
  have HBB6 := Lib.hid (trans2 HBB5.out HB56.out)
  clear HPC HB56 HBB2 HBB3 HBB4 HBB5 h4 h5 h6 h7
  generalize w5.alloc (.cells #[.slice Ac T.length cc, .slice Ad S.length cd] 30) = w6 at *
  have X2 := Lib.hid HBC.out
  clear HBC
  generalize w5.heap.size = cb at *
  have HX6 := Lib.hid (HX1.out.below HBB6.out)
  have HY6 := Lib.hid (HY1.out.below HBB6.out)
  have hru : ∀ j, (getT (T.map fst) j).length ≤ 1000000 := fun j => by rw [getT_map fst fst_nil, fst_len]; exact HRT.out.1 j
  have hlu : (T.map fst).length ≤ 1000000 := by rw [List.length_map]; exact HLT.out.1
  have HLE := Lib.hid (show ∀ j, (getT (T.map fst) j).length ≤ 4000000 from fun j => Nat.le_trans (hru j) (by decide))
  have HF1 := Lib.hid (fun (W : World) (hW : Below w6.heap.size w6 W) => r6First_any (.slice AT T.length cT) T W (by obtain ⟨_, _, e, h1, _⟩ := HX6.out.below hW; cases e; exact h1) HLT.out.1 HRT.out.1)
  have LC := Lib.hid (show LL w6 (.slice Ac T.length cc) (T.map fst) from by obtain ⟨_, _, e, h1, _⟩ := HPC6.out; cases e; exact h1)
  have HSR := Lib.hid (fun (W : World) (hW : Below w6.heap.size w6 W) => r6Equal_any (.slice Ad S.length cd) (.slice AS S.length cS) S S W (by obtain ⟨_, _, e, _, h1⟩ := HPC6.out.below hW; cases e; exact h1) (by obtain ⟨_, _, e, _, h1⟩ := HX6.out.below hW; cases e; exact h1) (fun j => Nat.le_trans (HRT.out.2 j) (by decide)))
  have HS1 := Lib.hid (fun (W : World) (hW : Below w6.heap.size w6 W) => same_any _ _ T S U R W (HX6.out.below hW) (HY6.out.below hW) HLT.out.1 HRT.out.1 HLT.out.2 HRT.out.2 HLU.out.1 HRU.out.1 HLU.out.2 HRU.out.2)
  have HS2 := Lib.hid (fun (W : World) (hW : Below w6.heap.size w6 W) => rsame_any _ _ T S U R W (HX6.out.below hW) (HY6.out.below hW) HLT.out.1 HRT.out.1 HLT.out.2 HRT.out.2 HLU.out.1 HRU.out.1)
  have HS3 := Lib.hid (fun (W : World) (hW : Below w6.heap.size w6 W) => same_any _ _ T S (T.map fst) S W (HX6.out.below hW) (HPC6.out.below hW) HLT.out.1 HRT.out.1 HLT.out.2 HRT.out.2 hlu hru HLT.out.2 HRT.out.2)
  have HS4 := Lib.hid (fun (W : World) (hW : Below w6.heap.size w6 W) => rsame_any _ _ T S (T.map fst) S W (HX6.out.below hW) (HPC6.out.below hW) HLT.out.1 HRT.out.1 HLT.out.2 HRT.out.2 hlu hru)
  generalize (decide (T.map fst = U.map fst) && decide (S = R)) = b1 at HS1 HS2
  generalize (decide (T.map fst = (T.map fst).map fst) && decide (S = S)) = b2 at HS3 HS4
  clear hru hlu HX1 HY1 HX6 HY6 HPC6 HWT HWS HWU HWR HRT HLT HRU HLU
  -- region 4
  refine wp_region_plan [is (.pointer (some ⟨cb, 0, none⟩)), is (.slice Ac T.length cc), is (.pointer (some ⟨w.heap.size, 0, none⟩)), is (.slice AT T.length cT), spMade w6.heap.size (T.map fst), is (.bool true), is (.bool true), is (.pointer (some ⟨cb, 1, none⟩)), is (.slice Ad S.length cd), is (.pointer (some ⟨w.heap.size, 1, none⟩)), is (.slice AS S.length cS), is (.bool true), is (.bool true), is (.bool true), is (.agg #[.slice AT T.length cT, .slice AS S.length cS]), is (.agg #[.slice AU U.length cU, .slice AR R.length cR]), is (.bool b1), is (.agg #[.slice AT T.length cT, .slice AS S.length cS]), is (.agg #[.slice AU U.length cU, .slice AR R.length cR]), is (.bool b1), is (.bool true), is (.bool true), is (.bool true), is (.agg #[.slice AT T.length cT, .slice AS S.length cS]), is (.agg #[.slice Ac T.length cc, .slice Ad S.length cd]), is (.bool b2), is (.agg #[.slice AT T.length cT, .slice AS S.length cS]), is (.agg #[.slice Ac T.length cc, .slice Ad S.length cd]), is (.bool b2), is (.bool true), is (.bool true)] (by kernel_rfl) (by kernel_rfl) ?_ ?_
  · skip
    refine StepsP.cons ?_ ?_
    · refine step_val (fun a wx hB O D => ?_)
      have e5 : a.tmps[5]? = some (.pointer (some ⟨cb, 0, none⟩)) := O 5 (by rfl)
      clear O D
      exact ⟨rfl, by go_simp⟩
    refine StepsP.cons ?_ ?_
    · refine step_val (fun a wx hB O D => ?_)
      obtain ⟨_, e25, rfl⟩ := D 0 _ _ _ (by decide) rfl rfl rfl
      obtain ⟨c0, c1, _⟩ := X2.out.below hB
      clear O D
      exact ⟨rfl, by go_simp⟩
    refine StepsP.cons ?_ ?_
    · refine step_val (fun a wx hB O D => ?_)
      have e2 : a.tmps[2]? = some (.pointer (some ⟨w.heap.size, 0, none⟩)) := O 2 (by rfl)
      clear O D
      exact ⟨rfl, by go_simp⟩
    refine StepsP.cons ?_ ?_
    · refine step_val (fun a wx hB O D => ?_)
      obtain ⟨_, e27, rfl⟩ := D 2 _ _ _ (by decide) rfl rfl rfl
      obtain ⟨c0, c1, _⟩ := X0.out.below hB
      clear O D
      exact ⟨rfl, by go_simp⟩
    refine StepsP.cons ?_ ?_
    · refine step_call (enters_of Tryz.func15 (by kernel_rfl) rfl) rfl rfl (fun a wx hB O D => ?_)
      obtain ⟨_, e28, rfl⟩ := D 3 _ _ _ (by decide) rfl rfl rfl
      refine ⟨rfl, #[.slice AT T.length cT], by simp only [List.map_toArray, List.map_cons, List.map_nil, ev e28] <;> rfl, ?_⟩
      exact (HF1.out _ hB).mono fun _ _ ⟨u, us, he, hm, hb⟩ => ⟨u, he, hb, us, Made.le hm hB.size⟩
    refine StepsP.cons ?_ ?_
    · refine step_call (enters_of Tryz.func14 (by kernel_rfl) rfl) rfl rfl (fun a wx hB O D => ?_)
      obtain ⟨_, e26, rfl⟩ := D 1 _ _ _ (by decide) rfl rfl rfl
      obtain ⟨v29, e29, s29⟩ := D 4 _ _ _ (by decide) rfl rfl rfl
      refine ⟨rfl, #[.slice Ac T.length cc, v29], by simp only [List.map_toArray, List.map_cons, List.map_nil, ev e26, ev e29] <;> rfl, ?_⟩
      obtain ⟨us29, h29⟩ := s29
      exact (r6Equal_any _ _ (T.map fst) (T.map fst) _ (LC.out.below hB) h29.reads HLE.out).mono fun _ _ ⟨he, n, hn⟩ => ⟨_, by rw [he, decide_eq_true rfl], by rw [hn]; exact below_drewN' _ _, rfl⟩
    refine StepsP.cons ?_ ?_
    · refine step_val (fun a wx hB O D => ?_)
      obtain ⟨_, e30, rfl⟩ := D 5 _ _ _ (by decide) rfl rfl rfl
      clear O D
      exact ⟨rfl, by unfold execOp; simp only [ev e30]; rfl⟩
    refine StepsP.cons ?_ ?_
    · refine step_val (fun a wx hB O D => ?_)
      have e5 : a.tmps[5]? = some (.pointer (some ⟨cb, 0, none⟩)) := O 5 (by rfl)
      obtain ⟨_, e31, rfl⟩ := D 6 _ _ _ (by decide) rfl rfl rfl
      clear O D
      exact ⟨wanted_of rfl rfl e31 rfl, by go_simp⟩
    refine StepsP.cons ?_ ?_
    · refine step_val (fun a wx hB O D => ?_)
      obtain ⟨_, e32, rfl⟩ := D 7 _ _ _ (by decide) rfl rfl rfl
      obtain ⟨_, e31, rfl⟩ := D 6 _ _ _ (by decide) rfl rfl rfl
      obtain ⟨c0, c1, _⟩ := X2.out.below hB
      clear O D
      exact ⟨wanted_of rfl rfl e31 rfl, by go_simp⟩
    refine StepsP.cons ?_ ?_
    · refine step_val (fun a wx hB O D => ?_)
      have e2 : a.tmps[2]? = some (.pointer (some ⟨w.heap.size, 0, none⟩)) := O 2 (by rfl)
      obtain ⟨_, e31, rfl⟩ := D 6 _ _ _ (by decide) rfl rfl rfl
      clear O D
      exact ⟨wanted_of rfl rfl e31 rfl, by go_simp⟩
    refine StepsP.cons ?_ ?_
    · refine step_val (fun a wx hB O D => ?_)
      obtain ⟨_, e34, rfl⟩ := D 9 _ _ _ (by decide) rfl rfl rfl
      obtain ⟨_, e31, rfl⟩ := D 6 _ _ _ (by decide) rfl rfl rfl
      obtain ⟨c0, c1, _⟩ := X0.out.below hB
      clear O D
      exact ⟨wanted_of rfl rfl e31 rfl, by go_simp⟩
    refine StepsP.cons ?_ ?_
    · refine step_call (enters_of Tryz.func14 (by kernel_rfl) rfl) rfl rfl (fun a wx hB O D => ?_)
      obtain ⟨_, e33, rfl⟩ := D 8 _ _ _ (by decide) rfl rfl rfl
      obtain ⟨_, e35, rfl⟩ := D 10 _ _ _ (by decide) rfl rfl rfl
      obtain ⟨_, e31, rfl⟩ := D 6 _ _ _ (by decide) rfl rfl rfl
      refine ⟨wanted_of rfl rfl e31 rfl, #[.slice Ad S.length cd, .slice AS S.length cS], by simp only [List.map_toArray, List.map_cons, List.map_nil, ev e33, ev e35] <;> rfl, ?_⟩
      exact (HSR.out _ hB).mono fun _ _ ⟨he, n, hn⟩ => ⟨_, by rw [he, decide_eq_true rfl], by rw [hn]; exact below_drewN' _ _, rfl⟩
    refine StepsP.cons ?_ ?_
    · refine step_val (fun a wx hB O D => ?_)
      obtain ⟨_, e31, rfl⟩ := D 6 _ _ _ (by decide) rfl rfl rfl
      obtain ⟨_, e36, rfl⟩ := D 11 _ _ _ (by decide) rfl rfl rfl
      clear O D
      exact ⟨rfl, by go_simp⟩
    refine StepsP.cons ?_ ?_
    · refine step_val (fun a wx hB O D => ?_)
      obtain ⟨_, e37, rfl⟩ := D 12 _ _ _ (by decide) rfl rfl rfl
      clear O D
      exact ⟨rfl, by unfold execOp; simp only [ev e37]; rfl⟩
    refine StepsP.cons ?_ ?_
    · refine step_val (fun a wx hB O D => ?_)
      have e2 : a.tmps[2]? = some (.pointer (some ⟨w.heap.size, 0, none⟩)) := O 2 (by rfl)
      obtain ⟨_, e38, rfl⟩ := D 13 _ _ _ (by decide) rfl rfl rfl
      obtain ⟨c0, c1, _⟩ := X0.out.below hB
      clear O D
      exact ⟨wanted_of rfl rfl e38 rfl, by go_simp⟩
    refine StepsP.cons ?_ ?_
    · refine step_val (fun a wx hB O D => ?_)
      have e3 : a.tmps[3]? = some (.pointer (some ⟨w.heap.size + 1, 0, none⟩)) := O 3 (by rfl)
      obtain ⟨_, e38, rfl⟩ := D 13 _ _ _ (by decide) rfl rfl rfl
      obtain ⟨c0, c1, _⟩ := X1.out.below hB
      clear O D
      exact ⟨wanted_of rfl rfl e38 rfl, by go_simp⟩
    refine StepsP.cons ?_ ?_
    · refine step_call (enters_of Tryz.func13 (by kernel_rfl) rfl) rfl rfl (fun a wx hB O D => ?_)
      obtain ⟨_, e39, rfl⟩ := D 14 _ _ _ (by decide) rfl rfl rfl
      obtain ⟨_, e40, rfl⟩ := D 15 _ _ _ (by decide) rfl rfl rfl
      obtain ⟨_, e38, rfl⟩ := D 13 _ _ _ (by decide) rfl rfl rfl
      refine ⟨wanted_of rfl rfl e38 rfl, #[.agg #[.slice AT T.length cT, .slice AS S.length cS], .agg #[.slice AU U.length cU, .slice AR R.length cR]], by simp only [List.map_toArray, List.map_cons, List.map_nil, ev e39, ev e40] <;> rfl, ?_⟩
      exact (HS1.out _ hB).mono fun _ _ ⟨he, hb⟩ => ⟨_, he, hb, rfl⟩
    refine StepsP.cons ?_ ?_
    · refine step_val (fun a wx hB O D => ?_)
      have e2 : a.tmps[2]? = some (.pointer (some ⟨w.heap.size, 0, none⟩)) := O 2 (by rfl)
      obtain ⟨_, e38, rfl⟩ := D 13 _ _ _ (by decide) rfl rfl rfl
      obtain ⟨c0, c1, _⟩ := X0.out.below hB
      clear O D
      exact ⟨wanted_of rfl rfl e38 rfl, by go_simp⟩
    refine StepsP.cons ?_ ?_
    · refine step_val (fun a wx hB O D => ?_)
      have e3 : a.tmps[3]? = some (.pointer (some ⟨w.heap.size + 1, 0, none⟩)) := O 3 (by rfl)
      obtain ⟨_, e38, rfl⟩ := D 13 _ _ _ (by decide) rfl rfl rfl
      obtain ⟨c0, c1, _⟩ := X1.out.below hB
      clear O D
      exact ⟨wanted_of rfl rfl e38 rfl, by go_simp⟩
    refine StepsP.cons ?_ ?_
    · refine step_call (enters_of Tryz.func24 (by kernel_rfl) rfl) rfl rfl (fun a wx hB O D => ?_)
      obtain ⟨_, e42, rfl⟩ := D 17 _ _ _ (by decide) rfl rfl rfl
      obtain ⟨_, e43, rfl⟩ := D 18 _ _ _ (by decide) rfl rfl rfl
      obtain ⟨_, e38, rfl⟩ := D 13 _ _ _ (by decide) rfl rfl rfl
      refine ⟨wanted_of rfl rfl e38 rfl, #[.agg #[.slice AT T.length cT, .slice AS S.length cS], .agg #[.slice AU U.length cU, .slice AR R.length cR]], by simp only [List.map_toArray, List.map_cons, List.map_nil, ev e42, ev e43] <;> rfl, ?_⟩
      exact (HS2.out _ hB).mono fun _ _ ⟨he, hb⟩ => ⟨_, he, hb, rfl⟩
    refine StepsP.cons ?_ ?_
    · refine step_val (fun a wx hB O D => ?_)
      obtain ⟨_, e41, rfl⟩ := D 16 _ _ _ (by decide) rfl rfl rfl
      obtain ⟨_, e44, rfl⟩ := D 19 _ _ _ (by decide) rfl rfl rfl
      obtain ⟨_, e38, rfl⟩ := D 13 _ _ _ (by decide) rfl rfl rfl
      have hbb := beq_self_eq_true b1
      clear O D
      exact ⟨wanted_of rfl rfl e38 rfl, by go_simp⟩
    refine StepsP.cons ?_ ?_
    · refine step_val (fun a wx hB O D => ?_)
      obtain ⟨_, e38, rfl⟩ := D 13 _ _ _ (by decide) rfl rfl rfl
      obtain ⟨_, e45, rfl⟩ := D 20 _ _ _ (by decide) rfl rfl rfl
      clear O D
      exact ⟨rfl, by go_simp⟩
    refine StepsP.cons ?_ ?_
    · refine step_val (fun a wx hB O D => ?_)
      obtain ⟨_, e46, rfl⟩ := D 21 _ _ _ (by decide) rfl rfl rfl
      clear O D
      exact ⟨rfl, by unfold execOp; simp only [ev e46]; rfl⟩
    refine StepsP.cons ?_ ?_
    · refine step_val (fun a wx hB O D => ?_)
      have e2 : a.tmps[2]? = some (.pointer (some ⟨w.heap.size, 0, none⟩)) := O 2 (by rfl)
      obtain ⟨_, e47, rfl⟩ := D 22 _ _ _ (by decide) rfl rfl rfl
      obtain ⟨c0, c1, _⟩ := X0.out.below hB
      clear O D
      exact ⟨wanted_of rfl rfl e47 rfl, by go_simp⟩
    refine StepsP.cons ?_ ?_
    · refine step_val (fun a wx hB O D => ?_)
      have e5 : a.tmps[5]? = some (.pointer (some ⟨cb, 0, none⟩)) := O 5 (by rfl)
      obtain ⟨_, e47, rfl⟩ := D 22 _ _ _ (by decide) rfl rfl rfl
      obtain ⟨c0, c1, _⟩ := X2.out.below hB
      clear O D
      exact ⟨wanted_of rfl rfl e47 rfl, by go_simp⟩
    refine StepsP.cons ?_ ?_
    · refine step_call (enters_of Tryz.func13 (by kernel_rfl) rfl) rfl rfl (fun a wx hB O D => ?_)
      obtain ⟨_, e48, rfl⟩ := D 23 _ _ _ (by decide) rfl rfl rfl
      obtain ⟨_, e49, rfl⟩ := D 24 _ _ _ (by decide) rfl rfl rfl
      obtain ⟨_, e47, rfl⟩ := D 22 _ _ _ (by decide) rfl rfl rfl
      refine ⟨wanted_of rfl rfl e47 rfl, #[.agg #[.slice AT T.length cT, .slice AS S.length cS], .agg #[.slice Ac T.length cc, .slice Ad S.length cd]], by simp only [List.map_toArray, List.map_cons, List.map_nil, ev e48, ev e49] <;> rfl, ?_⟩
      exact (HS3.out _ hB).mono fun _ _ ⟨he, hb⟩ => ⟨_, he, hb, rfl⟩
    refine StepsP.cons ?_ ?_
    · refine step_val (fun a wx hB O D => ?_)
      have e2 : a.tmps[2]? = some (.pointer (some ⟨w.heap.size, 0, none⟩)) := O 2 (by rfl)
      obtain ⟨_, e47, rfl⟩ := D 22 _ _ _ (by decide) rfl rfl rfl
      obtain ⟨c0, c1, _⟩ := X0.out.below hB
      clear O D
      exact ⟨wanted_of rfl rfl e47 rfl, by go_simp⟩
    refine StepsP.cons ?_ ?_
    · refine step_val (fun a wx hB O D => ?_)
      have e5 : a.tmps[5]? = some (.pointer (some ⟨cb, 0, none⟩)) := O 5 (by rfl)
      obtain ⟨_, e47, rfl⟩ := D 22 _ _ _ (by decide) rfl rfl rfl
      obtain ⟨c0, c1, _⟩ := X2.out.below hB
      clear O D
      exact ⟨wanted_of rfl rfl e47 rfl, by go_simp⟩
    refine StepsP.cons ?_ ?_
    · refine step_call (enters_of Tryz.func24 (by kernel_rfl) rfl) rfl rfl (fun a wx hB O D => ?_)
      obtain ⟨_, e51, rfl⟩ := D 26 _ _ _ (by decide) rfl rfl rfl
      obtain ⟨_, e52, rfl⟩ := D 27 _ _ _ (by decide) rfl rfl rfl
      obtain ⟨_, e47, rfl⟩ := D 22 _ _ _ (by decide) rfl rfl rfl
      refine ⟨wanted_of rfl rfl e47 rfl, #[.agg #[.slice AT T.length cT, .slice AS S.length cS], .agg #[.slice Ac T.length cc, .slice Ad S.length cd]], by simp only [List.map_toArray, List.map_cons, List.map_nil, ev e51, ev e52] <;> rfl, ?_⟩
      exact (HS4.out _ hB).mono fun _ _ ⟨he, hb⟩ => ⟨_, he, hb, rfl⟩
    refine StepsP.cons ?_ ?_
    · refine step_val (fun a wx hB O D => ?_)
      obtain ⟨_, e50, rfl⟩ := D 25 _ _ _ (by decide) rfl rfl rfl
      obtain ⟨_, e53, rfl⟩ := D 28 _ _ _ (by decide) rfl rfl rfl
      obtain ⟨_, e47, rfl⟩ := D 22 _ _ _ (by decide) rfl rfl rfl
      have hbb := beq_self_eq_true b2
      clear O D
      exact ⟨wanted_of rfl rfl e47 rfl, by go_simp⟩
    refine StepsP.cons ?_ ?_
    · refine step_val (fun a wx hB O D => ?_)
      obtain ⟨_, e47, rfl⟩ := D 22 _ _ _ (by decide) rfl rfl rfl
      obtain ⟨_, e54, rfl⟩ := D 29 _ _ _ (by decide) rfl rfl rfl
      clear O D
      exact ⟨rfl, by go_simp⟩
    exact StepsP.nil
  · intro wz hZ
    refine EndP.is ?_
    refine EndP.is ?_
    refine EndP.is ?_
    refine EndP.is ?_
    refine EndP.sp rfl (fun v29 s29 => ?_)
    refine EndP.is ?_
    refine EndP.is ?_
    refine EndP.is ?_
    refine EndP.is ?_
    refine EndP.is ?_
    refine EndP.is ?_
    refine EndP.is ?_
    refine EndP.is ?_
    refine EndP.is ?_
    refine EndP.is ?_
    refine EndP.is ?_
    refine EndP.is ?_
    refine EndP.is ?_
    refine EndP.is ?_
    refine EndP.is ?_
    refine EndP.is ?_
    refine EndP.is ?_
    refine EndP.is ?_
    refine EndP.is ?_
    refine EndP.is ?_
    refine EndP.is ?_
    refine EndP.is ?_
    refine EndP.is ?_
    refine EndP.is ?_
    refine EndP.is ?_
    refine EndP.is ?_
    refine EndP.nil ?_
  -- behind 4
    have HZ := Lib.hid (trans2 HM.out (trans2 HBB6.out hZ))
    clear hZ
    change wpList _ _ _ [_] _ _
    go_wp2
    go_ret
    exact ⟨rfl, HZ.out⟩
end Go.Proofs.YtmedagangpjlkaaGreat.Pl
