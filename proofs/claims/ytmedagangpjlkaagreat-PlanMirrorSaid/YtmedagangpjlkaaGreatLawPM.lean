/-
  PlanMirror: the mirror of a drawing is one; mirrored twice it is as it was, clean: the law's call answers true at every input.
-/
import Derived.Test.YtmedagangpjlkaaGreatM55
import Derived.Test.YtmedagangpjlkaaGreatM57
import Derived.Test.YtmedagangpjlkaaGreatM60
import Derived.Test.YtmedagangpjlkaaGreatM56
namespace Go.Proofs.YtmedagangpjlkaaGreat.Pl
open Go.Proofs.YtmedagangpjlkaaGreat Go.Proofs.YtmedagangpjlkaaGreat.Fc Go.Proofs.YtmedagangpjlkaaGreat.Rt Go.RowKit Go.Maps

set_option maxRecDepth 100000 in
set_option maxHeartbeats 16000000 in
theorem planMirror_any (v : Value) (g : Gph) (u : Value) (p : Prt) (x : Value) (q : List (List Int) × List (List Int)) (w : World) (h : Gr w v g) (h' : Pt w u p) (hx : PlanIn w x q.1 q.2) :
    Calls Tryz.prog 3 #[v, u, x] w fun e w' => e = .returned (.bool true) ∧ Below w.heap.size w w' := by
  obtain ⟨T, S⟩ := q
  have HG := Lib.hid h
  have HP := Lib.hid h'
  have HX := Lib.hid hx.pn
  have HWT := Lib.hid (show ∀ j, ∀ y ∈ getT T j, (Lit.int .i64 y).wf = true from hx.wT)
  have HWS := Lib.hid (show ∀ j, ∀ y ∈ getT S j, (Lit.int .i64 y).wf = true from hx.wS)
  obtain ⟨⟨vT, vS, rfl, h4, h5⟩, _, _⟩ := hx
  have h4 : LL w vT T := h4
  have h5 : LL w vS S := h5
  obtain ⟨ve, rfl, h1⟩ := h
  obtain ⟨vv, vp, rfl, h2, h3⟩ := h'
  obtain ⟨Ae, ce, rfl⟩ := h1.form
  obtain ⟨Av, cv, rfl⟩ := ints_form h2
  obtain ⟨Ap, cp, rfl⟩ := ints_form h3
  obtain ⟨AT, cT, rfl, _, _⟩ := h4.form
  obtain ⟨AS, cS, rfl, _, _⟩ := h5.form
  obtain ⟨b1, b2, b3, hm⟩ := three_boxes w (.int .i64 g.n) (.slice Ae g.e.length ce) (.slice Av p.v.length cv) (.slice Ap p.e.length cp) (.slice AT T.length cT) (.slice AS S.length cS) 24 27 30
  have HB1 := Lib.hid b1
  have HB2 := Lib.hid b2
  have HB3' := Lib.hid b3
  have HM := Lib.hid hm
  have HG1 := Lib.hid (HG.out.below hm)
  have HP1 := Lib.hid (HP.out.below hm)
  have HX1 := Lib.hid (show Pn _ (.agg #[.slice AT T.length cT, .slice AS S.length cS]) T S from HX.out.below hm)
  clear b1 b2 b3 hm h1 h2 h3 h4 h5 HG HP HX
  go_enter Tryz.func3, Tryz.ntmps3
  go_wp2_with fail
  generalize ((w.alloc (.cells #[.int .i64 g.n, .slice Ae g.e.length ce] 24)).alloc (.cells #[.slice Av p.v.length cv, .slice Ap p.e.length cp] 27)).alloc (.cells #[.slice AT T.length cT, .slice AS S.length cS] 30) = w1 at *
  have HCB := Lib.hid (fun (W : World) (hW : Below w1.heap.size w1 W) => (⟨(HB1.out.below hW).c0, (HB1.out.below hW).c1, (HB2.out.below hW).c0, (HB2.out.below hW).c1, (HB3'.out.below hW).c0, (HB3'.out.below hW).c1⟩ :
    W.cell? ⟨w.heap.size, 0, none⟩ = some (.int .i64 g.n) ∧ W.cell? ⟨w.heap.size, 1, none⟩ = some (.slice Ae g.e.length ce) ∧ W.cell? ⟨w.heap.size + 1, 0, none⟩ = some (.slice Av p.v.length cv) ∧ W.cell? ⟨w.heap.size + 1, 1, none⟩ = some (.slice Ap p.e.length cp) ∧ W.cell? ⟨w.heap.size + 2, 0, none⟩ = some (.slice AT T.length cT) ∧ W.cell? ⟨w.heap.size + 2, 1, none⟩ = some (.slice AS S.length cS)))
  refine (pawake_any w1).mono ?_
  rintro e w2 ⟨rfl, hB2⟩
  obtain ⟨c0, c1, d0, d1, e0, e1⟩ := HCB.out w2 hB2
  have HBB2 := Lib.hid hB2
  clear hB2
  go_wp2_with fail
  refine (small8_any _ _ _ w2 (HG1.out.below HBB2.out) (HP1.out.below HBB2.out) (HX1.out.below HBB2.out)).mono ?_
  rintro e w3 ⟨rfl, hB3⟩
  have HB3 := Lib.hid (trans2 HBB2.out hB3)
  clear hB3 c0 c1 d0 d1 e0 e1 HBB2
  by_cases hs : small8 g p T S = true
  case neg =>
    have e : small8I g p T S = 0 := if_neg hs
    rw [e]
    clear e hs
    go_wp2_with fail
    refine (pawake_any w3).mono ?_
    rintro e w4 ⟨rfl, hB4⟩
    go_wp2
    go_ret
    exact ⟨rfl, trans2 HM.out (trans2 HB3.out hB4)⟩
  have e : small8I g p T S = 1 := if_pos hs
  obtain ⟨hf, hl, hp1, hp2, hlT, hrT, hlS, hrS⟩ := small8_facts hs HWT.out HWS.out
  have HF := Lib.hid hf
  have HRT := Lib.hid hrT
  have HRS := Lib.hid hrS
  obtain ⟨er, hE⟩ := perr_ex g p T S
  have HE := Lib.hid hE
  rw [e]
  obtain ⟨c0, c1, d0, d1, e0, e1⟩ := HCB.out w3 HB3.out
  clear e hs hf hE hrT hrS
  have HLM := Lib.hid (show (∀ j, (getT T j).length ≤ 1000000) ∧ (∀ j, (getT S j).length ≤ 1000000) ∧ T.length ≤ 1000000 ∧ S.length ≤ 1000000 from ⟨fun j => Nat.le_trans (HRT.out j) (by decide), fun j => Nat.le_trans (HRS.out j) (by decide), by omega, by omega⟩)
  have HMI := Lib.hid (mirror_plan _ _ _ w3 (HG1.out.below HB3.out) (HP1.out.below HB3.out) (HX1.out.below HB3.out) HF.out HE.out)
  go_wp2_with fail
  clear c0 c1 d0 d1 e0 e1
  refine HMI.out.mono ?_
  clear HMI
  rintro e w4 ⟨hB4, ⟨hne, rfl⟩ | ⟨h0, r, rfl, hMP⟩⟩
  · obtain ⟨o1, o2⟩ := one_box w4 (.slice none 0 0) (.slice none 0 0) 30
    have HBC := Lib.hid o1
    have HB5 := Lib.hid (trans2 (trans2 HB3.out hB4) o2)
    have t1 : (er != 0) = true := by simpa using hne
    have t2 : (er != er) = false := by simp
    obtain ⟨c0, c1, d0, d1, e0, e1⟩ := HCB.out _ HB5.out
    clear o1 o2 hB4 hne
    go_wp2_with fail
    generalize w4.alloc (.cells #[.slice none 0 0, .slice none 0 0] 30) = w5 at *
    generalize w4.heap.size = cb at *
    refine (right_any _ _ _ w5 (HG1.out.below HB5.out) (HP1.out.below HB5.out) (HX1.out.below HB5.out) HF.out HE.out).mono ?_
    rintro e w6 ⟨rfl, hB6⟩
    have z0 := (HBC.out.below hB6).c0
    have z1 := (HBC.out.below hB6).c1
    have HZ := Lib.hid (trans2 HM.out (trans2 HB5.out hB6))
    clear hB6 c0 c1 d0 d1 e0 e1
    go_wp2
    go_ret
    exact ⟨rfl, HZ.out⟩
  subst h0
  obtain ⟨hsp, hHu⟩ := HE.out.zero.1 rfl
  have hTu := (sphE_iff.1 hsp).1
  rw [mir_fst hTu] at hMP
  have hMP : MadeP w4 w3.heap.size r (mirF T) (mirP g p T S) := hMP
  have HPC := Lib.hid hMP.pn
  obtain ⟨a, b, us, ts, rfl, hMa, hMb⟩ := hMP
  obtain ⟨Ac, cc, rfl⟩ := hMa.shape
  obtain ⟨Ad, cd, rfl⟩ := hMb.shape
  have HF2 := Lib.hid (mirF_fits HF.out hsp hHu)
  have HE2 := Lib.hid (mirF_perr hsp hHu)
  have HY1 := Lib.hid (mirF_again hTu)
  have HY2 := Lib.hid (mirP_back hTu hHu.lists)
  have HFF := Lib.hid (fst_fst hTu)
  clear hMa hMb hsp hHu hTu
  generalize mirF T = V at *
  generalize mirP g p T S = S2 at *
  obtain ⟨o1, o2⟩ := one_box w4 (.slice Ac V.length cc) (.slice Ad S2.length cd) 30
  have HBC := Lib.hid o1
  have HB5 := Lib.hid (trans2 (trans2 HB3.out hB4) o2)
  have HPC5 := Lib.hid (HPC.out.below o2)
  obtain ⟨c0, c1, d0, d1, e0, e1⟩ := HCB.out _ HB5.out
  clear o1 o2 hB4 HPC
  go_wp2_with fail
  generalize w4.alloc (.cells #[.slice Ac V.length cc, .slice Ad S2.length cd] 30) = w5 at *
  generalize w4.heap.size = mb at *
  refine (right_any _ _ _ w5 (HG1.out.below HB5.out) (HP1.out.below HB5.out) (HX1.out.below HB5.out) HF.out HE.out).mono ?_
  rintro e w6 ⟨rfl, hB6⟩
  have HB6 := Lib.hid (trans2 HB5.out hB6)
  have HBC6 := Lib.hid (HBC.out.below hB6)
  have HPC6 := Lib.hid (HPC5.out.below hB6)
  clear hB6 c0 c1 d0 d1 e0 e1 HBC HPC5
  obtain ⟨c0, c1, d0, d1, e0, e1⟩ := HCB.out _ HB6.out
  have z0 := HBC6.out.c0
  have z1 := HBC6.out.c1
  have HMI := Lib.hid (mirror_plan _ _ _ w6 (HG1.out.below HB6.out) (HP1.out.below HB6.out) HPC6.out HF2.out HE2.out)
  go_wp2_with fail
  clear c0 c1 d0 d1 e0 e1 z0 z1
  refine HMI.out.mono ?_
  clear HMI
  rintro e w7 ⟨hB7, ⟨hne, _⟩ | ⟨_, r, rfl, hMP⟩⟩
  · exact absurd rfl hne
  rw [HY1.out, HY2.out] at hMP
  have HPY := Lib.hid hMP.pn
  obtain ⟨a, b, us, ts, rfl, hMa, hMb⟩ := hMP
  obtain ⟨Ay, cy, rfl⟩ := hMa.shape
  obtain ⟨Az, cz, rfl⟩ := hMb.shape
  have hlm : (T.map fst).length = T.length := List.length_map _
  rw [hlm] at HPY ⊢
  obtain ⟨o1, o2⟩ := one_box w7 (.slice Ay T.length cy) (.slice Az S.length cz) 30
  have HBY := Lib.hid o1
  have HB8 := Lib.hid (trans2 (trans2 HB6.out hB7) o2)
  have HBC8 := Lib.hid ((HBC6.out.below hB7).below o2)
  have HPC8 := Lib.hid ((HPC6.out.below hB7).below o2)
  have HPY8 := Lib.hid (HPY.out.below o2)
  clear o1 o2 hB7 HPY hMa hMb hlm HBC6 HPC6
  go_wp2_with fail
  generalize w7.alloc (.cells #[.slice Ay T.length cy, .slice Az S.length cz] 30) = w8 at *
  generalize w7.heap.size = yb at *
  have X0 := Lib.hid (HB1.out.below HB8.out)
  have X1 := Lib.hid (HB2.out.below HB8.out)
  have X2 := Lib.hid (HB3'.out.below HB8.out)
  have hru : ∀ j, (getT (T.map fst) j).length ≤ 1000000 := fun j => by rw [getT_map fst fst_nil, fst_len]; exact HLM.out.1 j
  have hlu : (T.map fst).length ≤ 1000000 := by rw [List.length_map]; exact HLM.out.2.2.1
  have HLE := Lib.hid (show ∀ j, (getT (T.map fst) j).length ≤ 4000000 from fun j => Nat.le_trans (hru j) (by decide))
  have HF1 := Lib.hid (fun (W : World) (hW : Below w8.heap.size w8 W) => r6First_any (.slice AT T.length cT) T W (by obtain ⟨_, _, e, h1, _⟩ := HX1.out.below (trans2 HB8.out hW); cases e; exact h1) HLM.out.2.2.1 HLM.out.1)
  have LY := Lib.hid (show LL w8 (.slice Ay T.length cy) (T.map fst) from by obtain ⟨_, _, e, h1, _⟩ := HPY8.out; cases e; exact h1)
  have HRG := Lib.hid (fun (W : World) (hW : Below w8.heap.size w8 W) => right_any _ _ _ W (HG1.out.below (trans2 HB8.out hW)) (HP1.out.below (trans2 HB8.out hW)) (HPC8.out.below hW) HF2.out HE2.out)
  have HSM := Lib.hid (fun (W : World) (hW : Below w8.heap.size w8 W) => same_any _ _ T S (T.map fst) S W (HX1.out.below (trans2 HB8.out hW)) (HPY8.out.below hW) HLM.out.2.2.1 HLM.out.1 HLM.out.2.2.2 HLM.out.2.1 hlu hru HLM.out.2.2.2 HLM.out.2.1)
  have hb : (decide (T.map fst = (T.map fst).map fst) && decide (S = S)) = true := by rw [HFF.out]; simp
  rw [hb] at HSM
  clear hru hlu hb HE HF HF2 HE2 HY1 HY2 HFF HCB HWT HWS HRT HRS HPC8 HPY8
  refine wp_region_plan [is (.agg #[.int .i64 g.n, .slice Ae g.e.length ce]), is (.agg #[.slice Av p.v.length cv, .slice Ap p.e.length cp]), is (.agg #[.slice Ac V.length cc, .slice Ad S2.length cd]), is (.int .i64 (0)), is (.bool true), is (.bool true), is (.int .i64 (0)), is (.bool true), is (.bool true), is (.bool true), is (.agg #[.slice AT T.length cT, .slice AS S.length cS]), is (.agg #[.slice Ay T.length cy, .slice Az S.length cz]), is (.bool true), is (.bool true), is (.bool true), is (.pointer (some ⟨yb, 0, none⟩)), is (.slice Ay T.length cy), is (.pointer (some ⟨w.heap.size + 2, 0, none⟩)), is (.slice AT T.length cT), spMade w8.heap.size (T.map fst), is (.bool true), is (.bool true)] (by kernel_rfl) (by kernel_rfl) ?_ ?_
  · skip
    refine StepsP.cons ?_ ?_
    · refine step_val (fun a wx hB O D => ?_)
      have e3 : a.tmps[3]? = some (.pointer (some ⟨w.heap.size, 0, none⟩)) := O 3 (by rfl)
      obtain ⟨c0, c1, _⟩ := X0.out.below hB
      clear O D
      exact ⟨rfl, by go_simp⟩
    refine StepsP.cons ?_ ?_
    · refine step_val (fun a wx hB O D => ?_)
      have e4 : a.tmps[4]? = some (.pointer (some ⟨w.heap.size + 1, 0, none⟩)) := O 4 (by rfl)
      obtain ⟨c0, c1, _⟩ := X1.out.below hB
      clear O D
      exact ⟨rfl, by go_simp⟩
    refine StepsP.cons ?_ ?_
    · refine step_val (fun a wx hB O D => ?_)
      have e7 : a.tmps[7]? = some (.pointer (some ⟨mb, 0, none⟩)) := O 7 (by rfl)
      obtain ⟨c0, c1, _⟩ := HBC8.out.below hB
      clear O D
      exact ⟨rfl, by go_simp⟩
    refine StepsP.cons ?_ ?_
    · refine step_call (enters_of Tryz.func12 (by kernel_rfl) rfl) rfl rfl (fun a wx hB O D => ?_)
      obtain ⟨_, e53, rfl⟩ := D 0 _ _ _ (by decide) rfl rfl rfl
      obtain ⟨_, e54, rfl⟩ := D 1 _ _ _ (by decide) rfl rfl rfl
      obtain ⟨_, e55, rfl⟩ := D 2 _ _ _ (by decide) rfl rfl rfl
      refine ⟨rfl, #[.agg #[.int .i64 g.n, .slice Ae g.e.length ce], .agg #[.slice Av p.v.length cv, .slice Ap p.e.length cp], .agg #[.slice Ac V.length cc, .slice Ad S2.length cd]], by simp only [List.map_toArray, List.map_cons, List.map_nil, ev e53, ev e54, ev e55] <;> rfl, ?_⟩
      exact (HRG.out _ hB).mono fun _ _ ⟨he, hb⟩ => ⟨_, he, hb, rfl⟩
    refine StepsP.cons ?_ ?_
    · refine step_val (fun a wx hB O D => ?_)
      obtain ⟨_, e56, rfl⟩ := D 3 _ _ _ (by decide) rfl rfl rfl
      clear O D
      exact ⟨rfl, by go_simp⟩
    refine StepsP.cons ?_ ?_
    · refine step_val (fun a wx hB O D => ?_)
      obtain ⟨_, e57, rfl⟩ := D 4 _ _ _ (by decide) rfl rfl rfl
      clear O D
      exact ⟨rfl, by unfold execOp; simp only [ev e57]; rfl⟩
    refine StepsP.cons ?_ ?_
    · refine step_val (fun a wx hB O D => ?_)
      have e10 : a.tmps[10]? = some (.int .i64 (0)) := O 10 (by rfl)
      obtain ⟨_, e58, rfl⟩ := D 5 _ _ _ (by decide) rfl rfl rfl
      clear O D
      exact ⟨wanted_of rfl rfl e58 rfl, by unfold execOp; simp only [ev e10]; rfl⟩
    refine StepsP.cons ?_ ?_
    · refine step_val (fun a wx hB O D => ?_)
      obtain ⟨_, e59, rfl⟩ := D 6 _ _ _ (by decide) rfl rfl rfl
      obtain ⟨_, e58, rfl⟩ := D 5 _ _ _ (by decide) rfl rfl rfl
      clear O D
      exact ⟨wanted_of rfl rfl e58 rfl, by go_simp⟩
    refine StepsP.cons ?_ ?_
    · refine step_val (fun a wx hB O D => ?_)
      obtain ⟨_, e58, rfl⟩ := D 5 _ _ _ (by decide) rfl rfl rfl
      obtain ⟨_, e60, rfl⟩ := D 7 _ _ _ (by decide) rfl rfl rfl
      clear O D
      exact ⟨rfl, by go_simp⟩
    refine StepsP.cons ?_ ?_
    · refine step_val (fun a wx hB O D => ?_)
      obtain ⟨_, e61, rfl⟩ := D 8 _ _ _ (by decide) rfl rfl rfl
      clear O D
      exact ⟨rfl, by unfold execOp; simp only [ev e61]; rfl⟩
    refine StepsP.cons ?_ ?_
    · refine step_val (fun a wx hB O D => ?_)
      have e5 : a.tmps[5]? = some (.pointer (some ⟨w.heap.size + 2, 0, none⟩)) := O 5 (by rfl)
      obtain ⟨_, e62, rfl⟩ := D 9 _ _ _ (by decide) rfl rfl rfl
      obtain ⟨c0, c1, _⟩ := X2.out.below hB
      clear O D
      exact ⟨wanted_of rfl rfl e62 rfl, by go_simp⟩
    refine StepsP.cons ?_ ?_
    · refine step_val (fun a wx hB O D => ?_)
      have e9 : a.tmps[9]? = some (.pointer (some ⟨yb, 0, none⟩)) := O 9 (by rfl)
      obtain ⟨_, e62, rfl⟩ := D 9 _ _ _ (by decide) rfl rfl rfl
      obtain ⟨c0, c1, _⟩ := HBY.out.below hB
      clear O D
      exact ⟨wanted_of rfl rfl e62 rfl, by go_simp⟩
    refine StepsP.cons ?_ ?_
    · refine step_call (enters_of Tryz.func13 (by kernel_rfl) rfl) rfl rfl (fun a wx hB O D => ?_)
      obtain ⟨_, e63, rfl⟩ := D 10 _ _ _ (by decide) rfl rfl rfl
      obtain ⟨_, e64, rfl⟩ := D 11 _ _ _ (by decide) rfl rfl rfl
      obtain ⟨_, e62, rfl⟩ := D 9 _ _ _ (by decide) rfl rfl rfl
      refine ⟨wanted_of rfl rfl e62 rfl, #[.agg #[.slice AT T.length cT, .slice AS S.length cS], .agg #[.slice Ay T.length cy, .slice Az S.length cz]], by simp only [List.map_toArray, List.map_cons, List.map_nil, ev e63, ev e64] <;> rfl, ?_⟩
      exact (HSM.out _ hB).mono fun _ _ ⟨he, hb⟩ => ⟨_, he, hb, rfl⟩
    refine StepsP.cons ?_ ?_
    · refine step_val (fun a wx hB O D => ?_)
      obtain ⟨_, e62, rfl⟩ := D 9 _ _ _ (by decide) rfl rfl rfl
      obtain ⟨_, e65, rfl⟩ := D 12 _ _ _ (by decide) rfl rfl rfl
      clear O D
      exact ⟨rfl, by go_simp⟩
    refine StepsP.cons ?_ ?_
    · refine step_val (fun a wx hB O D => ?_)
      obtain ⟨_, e66, rfl⟩ := D 13 _ _ _ (by decide) rfl rfl rfl
      clear O D
      exact ⟨rfl, by unfold execOp; simp only [ev e66]; rfl⟩
    refine StepsP.cons ?_ ?_
    · refine step_val (fun a wx hB O D => ?_)
      have e9 : a.tmps[9]? = some (.pointer (some ⟨yb, 0, none⟩)) := O 9 (by rfl)
      obtain ⟨_, e67, rfl⟩ := D 14 _ _ _ (by decide) rfl rfl rfl
      clear O D
      exact ⟨wanted_of rfl rfl e67 rfl, by go_simp⟩
    refine StepsP.cons ?_ ?_
    · refine step_val (fun a wx hB O D => ?_)
      obtain ⟨_, e68, rfl⟩ := D 15 _ _ _ (by decide) rfl rfl rfl
      obtain ⟨_, e67, rfl⟩ := D 14 _ _ _ (by decide) rfl rfl rfl
      obtain ⟨c0, c1, _⟩ := HBY.out.below hB
      clear O D
      exact ⟨wanted_of rfl rfl e67 rfl, by go_simp⟩
    refine StepsP.cons ?_ ?_
    · refine step_val (fun a wx hB O D => ?_)
      have e5 : a.tmps[5]? = some (.pointer (some ⟨w.heap.size + 2, 0, none⟩)) := O 5 (by rfl)
      obtain ⟨_, e67, rfl⟩ := D 14 _ _ _ (by decide) rfl rfl rfl
      clear O D
      exact ⟨wanted_of rfl rfl e67 rfl, by go_simp⟩
    refine StepsP.cons ?_ ?_
    · refine step_val (fun a wx hB O D => ?_)
      obtain ⟨_, e70, rfl⟩ := D 17 _ _ _ (by decide) rfl rfl rfl
      obtain ⟨_, e67, rfl⟩ := D 14 _ _ _ (by decide) rfl rfl rfl
      obtain ⟨c0, c1, _⟩ := X2.out.below hB
      clear O D
      exact ⟨wanted_of rfl rfl e67 rfl, by go_simp⟩
    refine StepsP.cons ?_ ?_
    · refine step_call (enters_of Tryz.func15 (by kernel_rfl) rfl) rfl rfl (fun a wx hB O D => ?_)
      obtain ⟨_, e71, rfl⟩ := D 18 _ _ _ (by decide) rfl rfl rfl
      obtain ⟨_, e67, rfl⟩ := D 14 _ _ _ (by decide) rfl rfl rfl
      refine ⟨wanted_of rfl rfl e67 rfl, #[.slice AT T.length cT], by simp only [List.map_toArray, List.map_cons, List.map_nil, ev e71] <;> rfl, ?_⟩
      exact (HF1.out _ hB).mono fun _ _ ⟨u, us, he, hm, hb⟩ => ⟨u, he, hb, us, Made.le hm hB.size⟩
    refine StepsP.cons ?_ ?_
    · refine step_call (enters_of Tryz.func14 (by kernel_rfl) rfl) rfl rfl (fun a wx hB O D => ?_)
      obtain ⟨_, e69, rfl⟩ := D 16 _ _ _ (by decide) rfl rfl rfl
      obtain ⟨v72, e72, s72⟩ := D 19 _ _ _ (by decide) rfl rfl rfl
      obtain ⟨_, e67, rfl⟩ := D 14 _ _ _ (by decide) rfl rfl rfl
      refine ⟨wanted_of rfl rfl e67 rfl, #[.slice Ay T.length cy, v72], by simp only [List.map_toArray, List.map_cons, List.map_nil, ev e69, ev e72] <;> rfl, ?_⟩
      obtain ⟨us72, h72⟩ := s72
      exact (r6Equal_any _ _ (T.map fst) (T.map fst) _ (LY.out.below hB) h72.reads HLE.out).mono fun _ _ ⟨he, n, hn⟩ => ⟨_, by rw [he, decide_eq_true rfl], by rw [hn]; exact below_drewN' _ _, rfl⟩
    refine StepsP.cons ?_ ?_
    · refine step_val (fun a wx hB O D => ?_)
      obtain ⟨_, e67, rfl⟩ := D 14 _ _ _ (by decide) rfl rfl rfl
      obtain ⟨_, e73, rfl⟩ := D 20 _ _ _ (by decide) rfl rfl rfl
      clear O D
      exact ⟨rfl, by go_simp⟩
    exact StepsP.nil
  · intro wz hZ
    refine EndP.is ?_
    refine EndP.is ?_
    refine EndP.is ?_
    refine EndP.is ?_
    refine EndP.is ?_
    refine EndP.is ?_
    refine EndP.is ?_
    refine EndP.is ?_
    refine EndP.is ?_
    refine EndP.is ?_
    refine EndP.is ?_
    refine EndP.is ?_
    refine EndP.is ?_
    refine EndP.is ?_
    refine EndP.is ?_
    refine EndP.is ?_
    refine EndP.is ?_
    refine EndP.is ?_
    refine EndP.is ?_
    refine EndP.sp rfl (fun v72 s72 => ?_)
    refine EndP.is ?_
    refine EndP.is ?_
    refine EndP.nil ?_
    have HZ := Lib.hid (trans2 HM.out (trans2 HB8.out hZ))
    clear hZ
    change wpList _ _ _ [_] _ _
    go_wp2
    go_ret
    exact ⟨rfl, HZ.out⟩
end Go.Proofs.YtmedagangpjlkaaGreat.Pl
