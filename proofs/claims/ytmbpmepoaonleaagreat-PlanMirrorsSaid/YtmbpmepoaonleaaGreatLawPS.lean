/-
  PlanMirrors: the mirror of any drawing is the document's: the law's call answers true at every input.
-/
import Derived.Test.YtmbpmepoaonleaaGreatM55
import Derived.Test.YtmbpmepoaonleaaGreatM59
import Derived.Test.YtmbpmepoaonleaaGreatM65
import Derived.Test.YtmbpmepoaonleaaGreatM66
import Derived.Test.YtmbpmepoaonleaaGreatM56
namespace Go.Proofs.YtmbpmepoaonleaaGreat.Pl
open Go.Proofs.YtmbpmepoaonleaaGreat Go.Proofs.YtmbpmepoaonleaaGreat.Fc Go.Proofs.YtmbpmepoaonleaaGreat.Rt Go.RowKit Go.Maps

set_option maxRecDepth 100000 in
set_option maxHeartbeats 16000000 in
theorem planMirrors_any (v : Value) (g : Gph) (u : Value) (p : Prt) (x : Value) (q : List (List Int) × List (List Int)) (w : World) (h : Gr w v g) (h' : Pt w u p) (hx : PlanIn w x q.1 q.2) :
    Calls Tryz.prog 6 #[v, u, x] w fun e w' => e = .returned (.bool true) ∧ Below w.heap.size w w' := by
  obtain ⟨T, S⟩ := q
  have HG := Lib.hid h
  have HP := Lib.hid h'
  have HX := Lib.hid hx.pn
  have HWT := Lib.hid (show ∀ j, ∀ y ∈ getT T j, (Lit.int .i64 y).wf = true from hx.wT)
  have HWS := Lib.hid (show ∀ j, ∀ y ∈ getT S j, (Lit.int .i64 y).wf = true from hx.wS)
  obtain ⟨⟨vT, vS, rfl, h4, h5⟩, _, _⟩ := hx
  have h4 : LL w vT T := h4
  have h5 : LL w vS S := h5
  obtain ⟨ve, rfl, h1⟩ := h
  obtain ⟨vv, vp, rfl, h2, h3⟩ := h'
  obtain ⟨Ae, ce, rfl⟩ := h1.form
  obtain ⟨Av, cv, rfl⟩ := ints_form h2
  obtain ⟨Ap, cp, rfl⟩ := ints_form h3
  obtain ⟨AT, cT, rfl, _, _⟩ := h4.form
  obtain ⟨AS, cS, rfl, _, _⟩ := h5.form
  obtain ⟨b1, b2, b3, hm⟩ := three_boxes w (.int .i64 g.n) (.slice Ae g.e.length ce) (.slice Av p.v.length cv) (.slice Ap p.e.length cp) (.slice AT T.length cT) (.slice AS S.length cS) 24 27 30
  have HB1 := Lib.hid b1
  have HB2 := Lib.hid b2
  have HB3 := Lib.hid b3
  have HM := Lib.hid hm
  have HG1 := Lib.hid (HG.out.below hm)
  have HP1 := Lib.hid (HP.out.below hm)
  have HX1 := Lib.hid (show Pn _ (.agg #[.slice AT T.length cT, .slice AS S.length cS]) T S from HX.out.below hm)
  clear b1 b2 b3 hm h1 h2 h3 h4 h5 HG HP HX
  go_enter Tryz.func6, Tryz.ntmps6
  go_wp2_with fail
  generalize ((w.alloc (.cells #[.int .i64 g.n, .slice Ae g.e.length ce] 24)).alloc (.cells #[.slice Av p.v.length cv, .slice Ap p.e.length cp] 27)).alloc (.cells #[.slice AT T.length cT, .slice AS S.length cS] 30) = w1 at *
  have HCB := Lib.hid (fun (W : World) (hW : Below w1.heap.size w1 W) => (⟨(HB1.out.below hW).c0, (HB1.out.below hW).c1, (HB2.out.below hW).c0, (HB2.out.below hW).c1, (HB3.out.below hW).c0, (HB3.out.below hW).c1⟩ :
    W.cell? ⟨w.heap.size, 0, none⟩ = some (.int .i64 g.n) ∧ W.cell? ⟨w.heap.size, 1, none⟩ = some (.slice Ae g.e.length ce) ∧ W.cell? ⟨w.heap.size + 1, 0, none⟩ = some (.slice Av p.v.length cv) ∧ W.cell? ⟨w.heap.size + 1, 1, none⟩ = some (.slice Ap p.e.length cp) ∧ W.cell? ⟨w.heap.size + 2, 0, none⟩ = some (.slice AT T.length cT) ∧ W.cell? ⟨w.heap.size + 2, 1, none⟩ = some (.slice AS S.length cS)))
  clear HB1 HB2 HB3
  refine (pawake_any w1).mono ?_
  rintro e w2 ⟨rfl, hB2⟩
  obtain ⟨c0, c1, d0, d1, e0, e1⟩ := HCB.out w2 hB2
  have HBB2 := Lib.hid hB2
  clear hB2
  go_wp2_with fail
  refine (small8_any _ _ _ w2 (HG1.out.below HBB2.out) (HP1.out.below HBB2.out) (HX1.out.below HBB2.out)).mono ?_
  rintro e w3 ⟨rfl, hB3⟩
  have HB3 := Lib.hid (trans2 HBB2.out hB3)
  clear hB3 c0 c1 d0 d1 e0 e1 HBB2
  by_cases hs : small8 g p T S = true
  case neg =>
    have e : small8I g p T S = 0 := if_neg hs
    rw [e]
    clear e hs
    go_wp2_with fail
    refine (pawake_any w3).mono ?_
    rintro e w4 ⟨rfl, hB4⟩
    go_wp2
    go_ret
    exact ⟨rfl, trans2 HM.out (trans2 HB3.out hB4)⟩
  have e : small8I g p T S = 1 := if_pos hs
  obtain ⟨hf, hl, hp1, hp2, hlT, hrT, hlS, hrS⟩ := small8_facts hs HWT.out HWS.out
  have HF := Lib.hid hf
  have HRT := Lib.hid hrT
  have HRS := Lib.hid hrS
  obtain ⟨er, hE⟩ := perr_ex g p T S
  have HE := Lib.hid hE
  rw [e]
  obtain ⟨c0, c1, d0, d1, e0, e1⟩ := HCB.out w3 HB3.out
  clear e hs hf hE hrT hrS
  have HRR := Lib.hid (fun (W : World) (hW : Below w1.heap.size w1 W) => rright_any _ _ _ W (HG1.out.below hW) (HP1.out.below hW) (HX1.out.below hW) (by omega) (by omega) (by omega) hlT HRT.out hlS HRS.out HE.out)
  have HMI := Lib.hid (mirror_plan _ _ _ w3 (HG1.out.below HB3.out) (HP1.out.below HB3.out) (HX1.out.below HB3.out) HF.out HE.out)
  go_wp2_with fail
  clear c0 c1 d0 d1 e0 e1
  refine HMI.out.mono ?_
  clear HMI
  rintro e w4 ⟨hB4, ⟨hne, rfl⟩ | ⟨h0, r, rfl, hMP⟩⟩
  · obtain ⟨o1, o2⟩ := one_box w4 (.slice none 0 0) (.slice none 0 0) 30
    have HB5 := Lib.hid (trans2 (trans2 HB3.out hB4) o2)
    have t1 : (er != 0) = true := by simpa using hne
    have t2 : (er == er) = true := by simp
    obtain ⟨c0, c1, d0, d1, e0, e1⟩ := HCB.out _ HB5.out
    clear o1 o2 hB4 hne
    go_wp2_with fail
    generalize w4.alloc (.cells #[.slice none 0 0, .slice none 0 0] 30) = w5 at *
    generalize w4.heap.size = cb at *
    refine (HRR.out w5 HB5.out).mono ?_
    rintro e w6 ⟨rfl, hB6⟩
    have HB6 := Lib.hid (trans2 HB5.out hB6)
    clear hB6 c0 c1 d0 d1 e0 e1
    obtain ⟨c0, c1, d0, d1, e0, e1⟩ := HCB.out w6 HB6.out
    go_wp2_with fail
    refine (HRR.out w6 HB6.out).mono ?_
    rintro e w7 ⟨rfl, hB7⟩
    have HZ := Lib.hid (trans2 HM.out (trans2 HB6.out hB7))
    clear hB7 c0 c1 d0 d1 e0 e1
    go_wp2
    go_ret
    exact ⟨rfl, HZ.out⟩
  subst h0
  obtain ⟨hsp, hHu⟩ := HE.out.zero.1 rfl
  have hTu := (sphE_iff.1 hsp).1
  rw [mir_fst hTu] at hMP
  have hMP : MadeP w4 w3.heap.size r (mirF T) (mirP g p T S) := hMP
  obtain ⟨a, b, us, ts, rfl, hMa, hMb⟩ := hMP
  obtain ⟨Ac, cc, rfl⟩ := hMa.shape
  obtain ⟨Ad, cd, rfl⟩ := hMb.shape
  have HLA := Lib.hid hMa.reads
  have HLB := Lib.hid hMb.reads
  obtain ⟨o1, o2⟩ := one_box w4 (.slice Ac (mirF T).length cc) (.slice Ad (mirP g p T S).length cd) 30
  have HBC := Lib.hid o1
  have HB45 := Lib.hid o2
  have HB5 := Lib.hid (trans2 (trans2 HB3.out hB4) o2)
  have HF2 := Lib.hid (mirF_fits HF.out hsp hHu)
  have hn : g.n ≤ 100000 := by have := hTu.len; omega
  have HRM := Lib.hid (fun (W : World) (hW : Below w1.heap.size w1 W) => rmirror_any _ _ _ W (HG1.out.below hW) (HP1.out.below hW) (HX1.out.below hW) hTu hHu.lists (by omega) hn (by omega) (by omega) (by omega) HRT.out hlS HRS.out)
  have HLA5 := Lib.hid (HLA.out.below o2)
  have HLB5 := Lib.hid (HLB.out.below o2)
  obtain ⟨c0, c1, d0, d1, e0, e1⟩ := HCB.out _ HB5.out
  clear o1 o2 hB4 hsp hHu hTu hMa hMb hn HLA HLB HB45
  generalize mirF T = V at *
  generalize mirP g p T S = S2 at *
  go_wp2_with fail
  generalize w4.alloc (.cells #[.slice Ac V.length cc, .slice Ad S2.length cd] 30) = w5 at *
  generalize w4.heap.size = mb at *
  refine (HRR.out w5 HB5.out).mono ?_
  rintro e w6 ⟨rfl, hB6⟩
  have HB6 := Lib.hid (trans2 HB5.out hB6)
  have HBC6 := Lib.hid (HBC.out.below hB6)
  have HLA6 := Lib.hid (HLA5.out.below hB6)
  have HLB6 := Lib.hid (HLB5.out.below hB6)
  clear hB6 c0 c1 d0 d1 e0 e1 HBC HLA5 HLB5 HRR
  obtain ⟨c0, c1, d0, d1, e0, e1⟩ := HCB.out w6 HB6.out
  have z0 := HBC6.out.c0
  have z1 := HBC6.out.c1
  go_wp2_with fail
  refine (HRM.out w6 HB6.out).mono ?_
  clear HRM c0 c1 d0 d1 e0 e1 z0 z1
  rintro e w7 ⟨_, rfl, ⟨m, b, rfl, hL1, hL2⟩, hB7⟩
  obtain ⟨Ay, cy, rfl, _, _⟩ := id hL1.form
  obtain ⟨Az, cz, rfl, _, _⟩ := id hL2.form
  obtain ⟨o1, o2⟩ := one_box w7 (.slice Ay V.length cy) (.slice Az S2.length cz) 30
  have HBY := Lib.hid o1
  have HB8 := Lib.hid (trans2 (trans2 HB6.out hB7) o2)
  have HBC8 := Lib.hid ((HBC6.out.below hB7).below o2)
  have HLA8 := Lib.hid ((HLA6.out.below hB7).below o2)
  have HLB8 := Lib.hid ((HLB6.out.below hB7).below o2)
  have HYA8 := Lib.hid (hL1.below o2)
  have HYB8 := Lib.hid (hL2.below o2)
  clear o1 o2 hB7 hL1 hL2 HBC6 HLA6 HLB6
  have HVR := Lib.hid (fun j => Nat.le_trans (HF2.out.hr j) (by decide) : ∀ j, (getT V j).length ≤ 4000000)
  have HSR := Lib.hid (fun j => Nat.le_trans (HF2.out.hrS j) (by decide) : ∀ j, (getT S2 j).length ≤ 4000000)
  have z0 := HBC8.out.c0
  have z1 := HBC8.out.c1
  have y0 := HBY.out.c0
  have y1 := HBY.out.c1
  clear HE HF HF2 HWT HWS
  have HQ1 := Lib.hid (fun (W : World) (hW : Below (w7.alloc (.cells #[.slice Ay V.length cy, .slice Az S2.length cz] 30)).heap.size (w7.alloc (.cells #[.slice Ay V.length cy, .slice Az S2.length cz] 30)) W) => r6Equal_any _ _ V V W (HLA8.out.below hW) (HYA8.out.below hW) HVR.out)
  have HQ2 := Lib.hid (fun (W : World) (hW : Below (w7.alloc (.cells #[.slice Ay V.length cy, .slice Az S2.length cz] 30)).heap.size (w7.alloc (.cells #[.slice Ay V.length cy, .slice Az S2.length cz] 30)) W) => r6Equal_any _ _ S2 S2 W (HLB8.out.below hW) (HYB8.out.below hW) HSR.out)
  rw [decide_eq_true rfl] at HQ1 HQ2
  go_wp2_with fail
  generalize w7.alloc (.cells #[.slice Ay V.length cy, .slice Az S2.length cz] 30) = w8 at *
  generalize w7.heap.size = yb at *
  refine (HQ1.out w8 (Below.refl _ _)).mono ?_
  clear HQ1 z0 z1 y0 y1
  rintro e w9 ⟨rfl, n9, rfl⟩
  have HW9 := Lib.hid (below_drewN' w8 n9)
  generalize w8.drewN n9 = w9 at *
  have z0 := (HBC8.out.below HW9.out).c0
  have z1 := (HBC8.out.below HW9.out).c1
  have y0 := (HBY.out.below HW9.out).c0
  have y1 := (HBY.out.below HW9.out).c1
  go_wp2_with fail
  refine (HQ2.out w9 HW9.out).mono ?_
  clear z0 z1 y0 y1
  rintro e w10 ⟨rfl, n10, rfl⟩
  have HZ := Lib.hid (below_drewN (trans2 HM.out (trans2 HB8.out HW9.out)) n10)
  go_wp2
  go_ret
  exact ⟨rfl, HZ.out⟩
end Go.Proofs.YtmbpmepoaonleaaGreat.Pl
