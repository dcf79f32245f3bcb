/-
  PlanLone: the drawing of one piece's turns has no lists; others are refused: the law's call answers true at every input.
-/
import Derived.Test.YtmedagangpjlkaaGreatM55
import Derived.Test.YtmedagangpjlkaaGreatM57
import Derived.Test.YtmedagangpjlkaaGreatM58
import Derived.Test.YtmedagangpjlkaaGreatM37
namespace Go.Proofs.YtmedagangpjlkaaGreat.Pl
open Go.Proofs.YtmedagangpjlkaaGreat Go.Proofs.YtmedagangpjlkaaGreat.Fc Go.Proofs.YtmedagangpjlkaaGreat.Rt Go.RowKit Go.Maps

theorem small6_fits {g : Gph} {p : Prt} {T : List (List Int)} (h : small6 g p T = true) (hw : ∀ j, ∀ x ∈ getT T j, (Lit.int .i64 x).wf = true) :
    Fits g p (T.map fst) [] ∧ g.e.length ≤ 60 ∧ p.v.length ≤ 60 ∧ p.e.length ≤ 60 ∧ T.length ≤ 100 ∧ ∀ j, (getT T j).length ≤ 200 := by
  have h8 : small8 g p T [] = true := by
    unfold small8
    rw [h]
    simp
  obtain ⟨hf, hl, hp1, hp2, hlT, hrT, _, _⟩ := small8_facts h8 hw (fun j x hx => by rw [getT_out _ _ (by simp)] at hx; exact absurd hx List.not_mem_nil)
  refine ⟨⟨hf.hl, hf.hp1, hf.hp2, by rw [List.length_map]; exact hf.hlT, fun j => by rw [getT_map fst fst_nil, fst_len]; exact hf.hr j, fun j x hx => by rw [getT_map fst fst_nil] at hx; exact hw j x ((fst_in _ _).1 hx), hf.hlS, hf.hrS, hf.hwS⟩, hl, hp1, hp2, hlT, hrT⟩

set_option maxRecDepth 100000 in
set_option maxHeartbeats 16000000 in
theorem planLone_any (v : Value) (g : Gph) (u : Value) (p : Prt) (x : Value) (T : List (List Int)) (w : World) (h : Gr w v g) (h' : Pt w u p) (hT : LL w x T) (hw : ∀ j, ∀ y ∈ getT T j, (Lit.int .i64 y).wf = true) :
    Calls Tryz.prog 8 #[v, u, x] w fun e w' => e = .returned (.bool true) ∧ Below w.heap.size w w' := by
  have HG := Lib.hid h
  have HP := Lib.hid h'
  have HL := Lib.hid hT
  have HW := Lib.hid hw
  obtain ⟨ve, rfl, h1⟩ := h
  obtain ⟨vv, vp, rfl, h2, h3⟩ := h'
  obtain ⟨Ae, ce, rfl⟩ := h1.form
  obtain ⟨Av, cv, rfl⟩ := ints_form h2
  obtain ⟨Ap, cp, rfl⟩ := ints_form h3
  obtain ⟨AT, cT, rfl, _, _⟩ := hT.form
  obtain ⟨b1, b2, hm⟩ := two_boxes w (.int .i64 g.n) (.slice Ae g.e.length ce) (.slice Av p.v.length cv) (.slice Ap p.e.length cp) 24 27
  have HB1 := Lib.hid b1
  have HB2 := Lib.hid b2
  have HM := Lib.hid hm
  have HG1 := Lib.hid (HG.out.below hm)
  have HP1 := Lib.hid (HP.out.below hm)
  have HL1 := Lib.hid (HL.out.below hm)
  clear b1 b2 hm h1 h2 h3 hT HG HP HL hw
  go_enter Tryz.func8, Tryz.ntmps8
  go_wp2_with fail
  generalize (w.alloc (.cells #[.int .i64 g.n, .slice Ae g.e.length ce] 24)).alloc (.cells #[.slice Av p.v.length cv, .slice Ap p.e.length cp] 27) = w1 at *
  have HCB := Lib.hid (fun (W : World) (hW : Below w1.heap.size w1 W) => (⟨(HB1.out.below hW).c0, (HB1.out.below hW).c1, (HB2.out.below hW).c0, (HB2.out.below hW).c1⟩ :
    W.cell? ⟨w.heap.size, 0, none⟩ = some (.int .i64 g.n) ∧ W.cell? ⟨w.heap.size, 1, none⟩ = some (.slice Ae g.e.length ce) ∧ W.cell? ⟨w.heap.size + 1, 0, none⟩ = some (.slice Av p.v.length cv) ∧ W.cell? ⟨w.heap.size + 1, 1, none⟩ = some (.slice Ap p.e.length cp)))
  refine (pawake_any w1).mono ?_
  rintro e w2 ⟨rfl, hB2⟩
  obtain ⟨c0, c1, d0, d1⟩ := HCB.out w2 hB2
  have HBB2 := Lib.hid hB2
  clear hB2
  go_wp2_with fail
  refine (small6_any _ _ _ g p T w2 (HG1.out.below HBB2.out) (HP1.out.below HBB2.out) (HL1.out.below HBB2.out)).mono ?_
  rintro e w3 ⟨rfl, hB3⟩
  have HB3 := Lib.hid (trans2 HBB2.out hB3)
  clear hB3 c0 c1 d0 d1 HBB2
  by_cases hs : small6 g p T = true
  case neg =>
    have e : small6I g p T = 0 := if_neg hs
    rw [e]
    clear e hs
    go_wp2_with fail
    refine (pawake_any w3).mono ?_
    rintro e w4 ⟨rfl, hB4⟩
    go_wp2
    go_ret
    exact ⟨rfl, trans2 HM.out (trans2 HB3.out hB4)⟩
  have e : small6I g p T = 1 := if_pos hs
  obtain ⟨hf, hl, hp1, hp2, hlT, hrT⟩ := small6_fits hs HW.out
  have HF := Lib.hid hf
  have HRT := Lib.hid hrT
  rw [e]
  obtain ⟨c0, c1, d0, d1⟩ := HCB.out w3 HB3.out
  have HLN := Lib.hid (lone_any _ _ _ w3 (HG1.out.below HB3.out) (HP1.out.below HB3.out) (HL1.out.below HB3.out) (by omega) (by omega) (by omega) (by omega) (fun j => Nat.le_trans (hrT j) (by decide)) HW.out)
  clear e hs hf hrT
  go_wp2_with fail
  refine HLN.out.mono ?_
  clear HLN c0 c1 d0 d1
  rintro e w4 ⟨hB4, ⟨hne, rfl⟩ | ⟨h0, r, rfl, hMP⟩⟩
  · obtain ⟨o1, o2⟩ := one_box w4 (.slice none 0 0) (.slice none 0 0) 30
    have HBC := Lib.hid o1
    have HB5 := Lib.hid (trans2 (trans2 HB3.out hB4) o2)
    have HNE := Lib.hid hne
    obtain ⟨c0, c1, d0, d1⟩ := HCB.out _ HB5.out
    clear o1 o2 hB4 hne
    generalize hle : loneE g p T = le at *
    have HLE := Lib.hid hle
    clear hle
    go_wp2_with fail
    generalize w4.alloc (.cells #[.slice none 0 0, .slice none 0 0] 30) = w5 at *
    generalize w4.heap.size = cb at *
    refine (r6Right_any _ _ _ g p T w5 (HG1.out.below HB5.out) (HP1.out.below HB5.out) (HL1.out.below HB5.out) (by omega) (by omega) (by omega) (fun j => Nat.le_trans (HRT.out j) (by decide))).mono ?_
    rintro e w6 ⟨rfl, hB6⟩
    have HB6 := Lib.hid (trans2 HB5.out hB6)
    have HBC6 := Lib.hid (HBC.out.below hB6)
    clear hB6 c0 c1 d0 d1 HBC
    by_cases ht : terr g p T = 0
    case neg =>
      have hE : le = terr g p T := by
        rw [← HLE.out]
        unfold loneE sphE
        rw [if_neg ht, if_neg ht]
      have t0 : (terr g p T == 0) = false := by simpa using ht
      have t1 : (terr g p T != 0) = true := by simpa using ht
      have z0 := HBC6.out.c0
      have HZ := Lib.hid (trans2 HM.out HB6.out)
      rw [hE]
      clear ht hE HLE HNE
      generalize terr g p T = te at *
      go_wp2
      go_ret
      exact ⟨by simp, HZ.out⟩
    have hn : g.n ≤ 100000 := by have := (terr_iff.1 ht).len; omega
    rw [ht]
    obtain ⟨c0, c1, d0, d1⟩ := HCB.out _ HB6.out
    have HSP := Lib.hid (rsphere_any _ _ _ g p T w6 (HG1.out.below HB6.out) (HP1.out.below HB6.out) (HL1.out.below HB6.out) (by omega) hn (by omega) (by omega) (fun j => Nat.le_trans (HRT.out j) (by decide)))
    rw [ht] at HSP
    have HT0 := Lib.hid ht
    clear ht
    go_wp2_with fail
    refine HSP.out.mono ?_
    clear HSP c0 c1 d0 d1
    rintro e w7 ⟨rfl, hB7⟩
    have HB7 := Lib.hid (trans2 HB6.out hB7)
    have HBC7 := Lib.hid (HBC6.out.below hB7)
    have z0 := HBC7.out.c0
    clear hB7 HBC6
    cases hsb : sphB (genL g p T)
    · have hE : le = 6 := by
        rw [← HLE.out]
        unfold loneE sphE
        rw [if_pos HT0.out, hsb]
        rfl
      have HZ := Lib.hid (trans2 HM.out HB7.out)
      subst hE
      clear HLE HNE hsb
      go_wp2
      go_ret
      exact ⟨rfl, HZ.out⟩
    have HTU : Turns g p T := (sphE_iff.1 (show sphE g p T = 0 by unfold sphE; rw [if_pos HT0.out, hsb]; rfl)).1
    have hFP := pcs_facts HTU.right
    have hJ : joinedB g p = false := by
      cases hj : joinedB g p
      · rfl
      · refine absurd ?_ HNE.out
        rw [← HLE.out]
        unfold loneE sphE
        rw [if_pos HT0.out, hsb, hj]
        rfl
    have hE : le = 10 := by
      rw [← HLE.out]
      unfold loneE sphE
      rw [if_pos HT0.out, hsb, hJ]
      rfl
    have hgt : 1 < (pcs g p).length := by
      have h1 := hFP.one
      rw [hJ] at h1
      have h2 := of_decide_eq_false h1.symm
      omega
    have hpl := hFP.len
    have HPI := Lib.hid (rpieces_any _ _ g p w7 (HG1.out.below HB7.out) (HP1.out.below HB7.out) HTU.right (by omega) (by omega))
    subst hE
    clear HLE HNE hsb hJ HTU hFP
    obtain ⟨c0, c1, d0, d1⟩ := HCB.out _ HB7.out
    go_wp2_with fail
    refine HPI.out.mono ?_
    clear HPI c0 c1 d0 d1 z0
    rintro e w8 ⟨mp, usp, rfl, hTw, hB8⟩
    obtain ⟨A5, k5, rfl⟩ := hTw.shape
    have hlm : ((pcs g p).map cmpP).length = (pcs g p).length := List.length_map _
    rw [hlm]
    have HB8 := Lib.hid (trans2 HB7.out hB8)
    have z0 := (HBC7.out.below hB8).c0
    have HZ := Lib.hid (trans2 HM.out HB8.out)
    have hgi : (1 : Int) < ((pcs g p).length : Nat) := by omega
    clear hTw hB8 hlm
    generalize (pcs g p).length = np at *
    go_wp2
    go_ret
    exact ⟨rfl, HZ.out⟩
  · have HPC := Lib.hid (hMP.pn)
    obtain ⟨a, b, us, ts, rfl, hMa, hMb⟩ := hMP
    obtain ⟨Ac, cc, rfl⟩ := hMa.shape
    obtain ⟨Ad, cd, rfl⟩ := hMb.shape
    have hlm : (T.map fst).length = T.length := List.length_map _
    rw [hlm] at HPC ⊢
    have hl0 : ([] : List (List Int)).length = 0 := rfl
    rw [hl0] at HPC ⊢
    have hs : sphE g p T = 0 := by
      unfold loneE at h0
      split at h0
      · assumption
      · exact h0
    obtain ⟨hTU, hsb⟩ := sphE_iff.1 hs
    have hFP := pcs_facts hTU.right
    have hj : joinedB g p = true := by
      unfold loneE at h0
      rw [if_pos hs] at h0
      split at h0
      · assumption
      · cases h0
    have hle : ¬ 1 < (pcs g p).length := by
      have h1 := hFP.one
      rw [hj] at h1
      have h2 := of_decide_eq_true h1.symm
      omega
    have HPE := Lib.hid (lone_perr h0)
    have HT0 := Lib.hid (show terr g p T = 0 from by
      unfold sphE at hs
      split at hs
      · assumption
      · exact hs)
    have hpl := hFP.len
    have hn : g.n ≤ 100000 := by have := hTU.len; omega
    obtain ⟨o1, o2⟩ := one_box w4 (.slice Ac T.length cc) (.slice Ad 0 cd) 30
    have HBC := Lib.hid o1
    have HB5 := Lib.hid (trans2 (trans2 HB3.out hB4) o2)
    have HPC5 := Lib.hid (HPC.out.below o2)
    obtain ⟨c0, c1, d0, d1⟩ := HCB.out _ HB5.out
    have HTR := Lib.hid hTU.right
    have HSB := Lib.hid hsb
    clear o1 o2 hB4 hMa hMb hlm hl0 HPC hs hTU hFP hj hsb h0
    go_wp2_with fail
    generalize w4.alloc (.cells #[.slice Ac T.length cc, .slice Ad 0 cd] 30) = w5 at *
    generalize w4.heap.size = cb at *
    refine (r6Right_any _ _ _ g p T w5 (HG1.out.below HB5.out) (HP1.out.below HB5.out) (HL1.out.below HB5.out) (by omega) (by omega) (by omega) (fun j => Nat.le_trans (HRT.out j) (by decide))).mono ?_
    rintro e w6 ⟨rfl, hB6⟩
    have HB6 := Lib.hid (trans2 HB5.out hB6)
    have HBC6 := Lib.hid (HBC.out.below hB6)
    have HPC6 := Lib.hid (HPC5.out.below hB6)
    clear hB6 c0 c1 d0 d1 HBC HPC5
    rw [HT0.out]
    obtain ⟨c0, c1, d0, d1⟩ := HCB.out _ HB6.out
    have HSP := Lib.hid (rsphere_any _ _ _ g p T w6 (HG1.out.below HB6.out) (HP1.out.below HB6.out) (HL1.out.below HB6.out) (by omega) hn (by omega) (by omega) (fun j => Nat.le_trans (HRT.out j) (by decide)))
    rw [HT0.out, HSB.out] at HSP
    go_wp2_with fail
    refine HSP.out.mono ?_
    clear HSP c0 c1 d0 d1
    rintro e w7 ⟨rfl, hB7⟩
    have HB7 := Lib.hid (trans2 HB6.out hB7)
    have HBC7 := Lib.hid (HBC6.out.below hB7)
    have HPC7 := Lib.hid (HPC6.out.below hB7)
    clear hB7 HBC6 HPC6
    have HPI := Lib.hid (rpieces_any _ _ g p w7 (HG1.out.below HB7.out) (HP1.out.below HB7.out) HTR.out (by omega) (by omega))
    obtain ⟨c0, c1, d0, d1⟩ := HCB.out _ HB7.out
    go_wp2_with fail
    refine HPI.out.mono ?_
    clear HPI c0 c1 d0 d1
    rintro e wr ⟨mp, usp, rfl, hTw, hB8⟩
    obtain ⟨A5, k5, rfl⟩ := hTw.shape
    have hlm : ((pcs g p).map cmpP).length = (pcs g p).length := List.length_map _
    rw [hlm]
    have HB8 := Lib.hid (trans2 HB7.out hB8)
    have X0 := Lib.hid (HB1.out.below HB8.out)
    have X1 := Lib.hid (HB2.out.below HB8.out)
    have X2 := Lib.hid (HBC7.out.below hB8)
    have HPC8 := Lib.hid (HPC7.out.below hB8)
    have hgi : ¬ (1 : Int) < ((pcs g p).length : Nat) := by omega
    clear hTw hB8 hlm
    generalize (pcs g p).length = np at *
    go_wp2_with fail
    have hru : ∀ j, (getT (T.map fst) j).length ≤ 4000000 := fun j => by rw [getT_map fst fst_nil, fst_len]; exact Nat.le_trans (HRT.out j) (by decide)
    have HLE := Lib.hid hru
    have HF1 := Lib.hid (fun (W : World) (hW : Below wr.heap.size wr W) => r6First_any (.slice AT T.length cT) T W (HL1.out.below (trans2 HB8.out hW)) (by omega) (fun j => Nat.le_trans (HRT.out j) (by decide)))
    have LC := Lib.hid (show LL wr (.slice Ac T.length cc) (T.map fst) from by obtain ⟨_, _, e, h1, _⟩ := HPC8.out; cases e; exact h1)
    have HRG := Lib.hid (fun (W : World) (hW : Below wr.heap.size wr W) => right_any _ _ _ W (HG1.out.below (trans2 HB8.out hW)) (HP1.out.below (trans2 HB8.out hW)) (HPC8.out.below hW) HF.out HPE.out)
    clear hru HPC7 HPC8 HW HBC7 HRT HTR HSB HT0 HPE HF HCB
    -- region 11
    refine wp_region_plan [is (.int .i64 (0)), is (.bool true), is (.bool true), is (.pointer (some ⟨cb, 1, none⟩)), is (.slice Ad 0 cd), is (.int .i64 (0)), is (.bool true), is (.bool true), is (.bool true), is (.pointer (some ⟨cb, 0, none⟩)), is (.slice Ac T.length cc), is (.slice AT T.length cT), spMade wr.heap.size (T.map fst), is (.bool true), is (.bool true), is (.bool true), is (.agg #[.int .i64 g.n, .slice Ae g.e.length ce]), is (.agg #[.slice Av p.v.length cv, .slice Ap p.e.length cp]), is (.agg #[.slice Ac T.length cc, .slice Ad 0 cd]), is (.int .i64 (0)), is (.bool true), is (.bool true)] (by kernel_rfl) (by kernel_rfl) ?_ ?_
    · skip
      refine StepsP.cons ?_ ?_
      · refine step_val (fun a wx hB O D => ?_)
        have e8 : a.tmps[8]? = some (.int .i64 (0)) := O 8 (by rfl)
        clear O D
        exact ⟨rfl, by unfold execOp; simp only [ev e8]; rfl⟩
      refine StepsP.cons ?_ ?_
      · refine step_val (fun a wx hB O D => ?_)
        obtain ⟨_, e60, rfl⟩ := D 0 _ _ _ (by decide) rfl rfl rfl
        clear O D
        exact ⟨rfl, by go_simp⟩
      refine StepsP.cons ?_ ?_
      · refine step_val (fun a wx hB O D => ?_)
        obtain ⟨_, e61, rfl⟩ := D 1 _ _ _ (by decide) rfl rfl rfl
        clear O D
        exact ⟨rfl, by unfold execOp; simp only [ev e61]; rfl⟩
      refine StepsP.cons ?_ ?_
      · refine step_val (fun a wx hB O D => ?_)
        have e7 : a.tmps[7]? = some (.pointer (some ⟨cb, 0, none⟩)) := O 7 (by rfl)
        obtain ⟨_, e62, rfl⟩ := D 2 _ _ _ (by decide) rfl rfl rfl
        clear O D
        exact ⟨wanted_of rfl rfl e62 rfl, by go_simp⟩
      refine StepsP.cons ?_ ?_
      · refine step_val (fun a wx hB O D => ?_)
        obtain ⟨_, e63, rfl⟩ := D 3 _ _ _ (by decide) rfl rfl rfl
        obtain ⟨_, e62, rfl⟩ := D 2 _ _ _ (by decide) rfl rfl rfl
        obtain ⟨c0, c1, _⟩ := X2.out.below hB
        clear O D
        exact ⟨wanted_of rfl rfl e62 rfl, by go_simp⟩
      refine StepsP.cons ?_ ?_
      · refine step_val (fun a wx hB O D => ?_)
        obtain ⟨_, e64, rfl⟩ := D 4 _ _ _ (by decide) rfl rfl rfl
        obtain ⟨_, e62, rfl⟩ := D 2 _ _ _ (by decide) rfl rfl rfl
        clear O D
        exact ⟨wanted_of rfl rfl e62 rfl, by go_simp⟩
      refine StepsP.cons ?_ ?_
      · refine step_val (fun a wx hB O D => ?_)
        obtain ⟨_, e65, rfl⟩ := D 5 _ _ _ (by decide) rfl rfl rfl
        obtain ⟨_, e62, rfl⟩ := D 2 _ _ _ (by decide) rfl rfl rfl
        clear O D
        exact ⟨wanted_of rfl rfl e62 rfl, by go_simp⟩
      refine StepsP.cons ?_ ?_
      · refine step_val (fun a wx hB O D => ?_)
        obtain ⟨_, e62, rfl⟩ := D 2 _ _ _ (by decide) rfl rfl rfl
        obtain ⟨_, e66, rfl⟩ := D 6 _ _ _ (by decide) rfl rfl rfl
        clear O D
        exact ⟨rfl, by go_simp⟩
      refine StepsP.cons ?_ ?_
      · refine step_val (fun a wx hB O D => ?_)
        obtain ⟨_, e67, rfl⟩ := D 7 _ _ _ (by decide) rfl rfl rfl
        clear O D
        exact ⟨rfl, by unfold execOp; simp only [ev e67]; rfl⟩
      refine StepsP.cons ?_ ?_
      · refine step_val (fun a wx hB O D => ?_)
        have e7 : a.tmps[7]? = some (.pointer (some ⟨cb, 0, none⟩)) := O 7 (by rfl)
        obtain ⟨_, e68, rfl⟩ := D 8 _ _ _ (by decide) rfl rfl rfl
        clear O D
        exact ⟨wanted_of rfl rfl e68 rfl, by go_simp⟩
      refine StepsP.cons ?_ ?_
      · refine step_val (fun a wx hB O D => ?_)
        obtain ⟨_, e69, rfl⟩ := D 9 _ _ _ (by decide) rfl rfl rfl
        obtain ⟨_, e68, rfl⟩ := D 8 _ _ _ (by decide) rfl rfl rfl
        obtain ⟨c0, c1, _⟩ := X2.out.below hB
        clear O D
        exact ⟨wanted_of rfl rfl e68 rfl, by go_simp⟩
      refine StepsP.cons ?_ ?_
      · refine step_val (fun a wx hB O D => ?_)
        have e2 : a.tmps[2]? = some (.slice AT T.length cT) := O 2 (by rfl)
        obtain ⟨_, e68, rfl⟩ := D 8 _ _ _ (by decide) rfl rfl rfl
        clear O D
        exact ⟨wanted_of rfl rfl e68 rfl, by unfold execOp; simp only [ev e2]; rfl⟩
      refine StepsP.cons ?_ ?_
      · refine step_call (enters_of Tryz.func15 (by kernel_rfl) rfl) rfl rfl (fun a wx hB O D => ?_)
        obtain ⟨_, e71, rfl⟩ := D 11 _ _ _ (by decide) rfl rfl rfl
        obtain ⟨_, e68, rfl⟩ := D 8 _ _ _ (by decide) rfl rfl rfl
        refine ⟨wanted_of rfl rfl e68 rfl, #[.slice AT T.length cT], by simp only [List.map_toArray, List.map_cons, List.map_nil, ev e71] <;> rfl, ?_⟩
        exact (HF1.out _ hB).mono fun _ _ ⟨u, us, he, hm, hb⟩ => ⟨u, he, hb, us, Made.le hm hB.size⟩
      refine StepsP.cons ?_ ?_
      · refine step_call (enters_of Tryz.func14 (by kernel_rfl) rfl) rfl rfl (fun a wx hB O D => ?_)
        obtain ⟨_, e70, rfl⟩ := D 10 _ _ _ (by decide) rfl rfl rfl
        obtain ⟨v72, e72, s72⟩ := D 12 _ _ _ (by decide) rfl rfl rfl
        obtain ⟨_, e68, rfl⟩ := D 8 _ _ _ (by decide) rfl rfl rfl
        refine ⟨wanted_of rfl rfl e68 rfl, #[.slice Ac T.length cc, v72], by simp only [List.map_toArray, List.map_cons, List.map_nil, ev e70, ev e72] <;> rfl, ?_⟩
        obtain ⟨us72, h72⟩ := s72
        exact (r6Equal_any _ _ (T.map fst) (T.map fst) _ (LC.out.below hB) h72.reads HLE.out).mono fun _ _ ⟨he, n, hn⟩ => ⟨_, by rw [he, decide_eq_true rfl], by rw [hn]; exact below_drewN' _ _, rfl⟩
      refine StepsP.cons ?_ ?_
      · refine step_val (fun a wx hB O D => ?_)
        obtain ⟨_, e68, rfl⟩ := D 8 _ _ _ (by decide) rfl rfl rfl
        obtain ⟨_, e73, rfl⟩ := D 13 _ _ _ (by decide) rfl rfl rfl
        clear O D
        exact ⟨rfl, by go_simp⟩
      refine StepsP.cons ?_ ?_
      · refine step_val (fun a wx hB O D => ?_)
        obtain ⟨_, e74, rfl⟩ := D 14 _ _ _ (by decide) rfl rfl rfl
        clear O D
        exact ⟨rfl, by unfold execOp; simp only [ev e74]; rfl⟩
      refine StepsP.cons ?_ ?_
      · refine step_val (fun a wx hB O D => ?_)
        have e3 : a.tmps[3]? = some (.pointer (some ⟨w.heap.size, 0, none⟩)) := O 3 (by rfl)
        obtain ⟨_, e75, rfl⟩ := D 15 _ _ _ (by decide) rfl rfl rfl
        obtain ⟨c0, c1, _⟩ := X0.out.below hB
        clear O D
        exact ⟨wanted_of rfl rfl e75 rfl, by go_simp⟩
      refine StepsP.cons ?_ ?_
      · refine step_val (fun a wx hB O D => ?_)
        have e4 : a.tmps[4]? = some (.pointer (some ⟨w.heap.size + 1, 0, none⟩)) := O 4 (by rfl)
        obtain ⟨_, e75, rfl⟩ := D 15 _ _ _ (by decide) rfl rfl rfl
        obtain ⟨c0, c1, _⟩ := X1.out.below hB
        clear O D
        exact ⟨wanted_of rfl rfl e75 rfl, by go_simp⟩
      refine StepsP.cons ?_ ?_
      · refine step_val (fun a wx hB O D => ?_)
        have e7 : a.tmps[7]? = some (.pointer (some ⟨cb, 0, none⟩)) := O 7 (by rfl)
        obtain ⟨_, e75, rfl⟩ := D 15 _ _ _ (by decide) rfl rfl rfl
        obtain ⟨c0, c1, _⟩ := X2.out.below hB
        clear O D
        exact ⟨wanted_of rfl rfl e75 rfl, by go_simp⟩
      refine StepsP.cons ?_ ?_
      · refine step_call (enters_of Tryz.func12 (by kernel_rfl) rfl) rfl rfl (fun a wx hB O D => ?_)
        obtain ⟨_, e76, rfl⟩ := D 16 _ _ _ (by decide) rfl rfl rfl
        obtain ⟨_, e77, rfl⟩ := D 17 _ _ _ (by decide) rfl rfl rfl
        obtain ⟨_, e78, rfl⟩ := D 18 _ _ _ (by decide) rfl rfl rfl
        obtain ⟨_, e75, rfl⟩ := D 15 _ _ _ (by decide) rfl rfl rfl
        refine ⟨wanted_of rfl rfl e75 rfl, #[.agg #[.int .i64 g.n, .slice Ae g.e.length ce], .agg #[.slice Av p.v.length cv, .slice Ap p.e.length cp], .agg #[.slice Ac T.length cc, .slice Ad 0 cd]], by simp only [List.map_toArray, List.map_cons, List.map_nil, ev e76, ev e77, ev e78] <;> rfl, ?_⟩
        exact (HRG.out _ hB).mono fun _ _ ⟨he, hb⟩ => ⟨_, he, hb, rfl⟩
      refine StepsP.cons ?_ ?_
      · refine step_val (fun a wx hB O D => ?_)
        obtain ⟨_, e79, rfl⟩ := D 19 _ _ _ (by decide) rfl rfl rfl
        obtain ⟨_, e75, rfl⟩ := D 15 _ _ _ (by decide) rfl rfl rfl
        clear O D
        exact ⟨wanted_of rfl rfl e75 rfl, by go_simp⟩
      refine StepsP.cons ?_ ?_
      · refine step_val (fun a wx hB O D => ?_)
        obtain ⟨_, e75, rfl⟩ := D 15 _ _ _ (by decide) rfl rfl rfl
        obtain ⟨_, e80, rfl⟩ := D 20 _ _ _ (by decide) rfl rfl rfl
        clear O D
        exact ⟨rfl, by go_simp⟩
      exact StepsP.nil
    · intro wz hZ
      refine EndP.is ?_
      refine EndP.is ?_
      refine EndP.is ?_
      refine EndP.is ?_
      refine EndP.is ?_
      refine EndP.is ?_
      refine EndP.is ?_
      refine EndP.is ?_
      refine EndP.is ?_
      refine EndP.is ?_
      refine EndP.is ?_
      refine EndP.is ?_
      refine EndP.sp rfl (fun v72 s72 => ?_)
      refine EndP.is ?_
      refine EndP.is ?_
      refine EndP.is ?_
      refine EndP.is ?_
      refine EndP.is ?_
      refine EndP.is ?_
      refine EndP.is ?_
      refine EndP.is ?_
      refine EndP.is ?_
      refine EndP.nil ?_
    -- behind 11
      have HZ := Lib.hid (trans2 HM.out (trans2 HB8.out hZ))
      clear hZ
      change wpList _ _ _ [_] _ _
      go_wp2
      go_ret
      exact ⟨rfl, HZ.out⟩
end Go.Proofs.YtmedagangpjlkaaGreat.Pl
