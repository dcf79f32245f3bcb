/-
  RotaSteps: Before undoes After, Back undoes Next: the law's call answers true at every input.
-/
import Derived.Test.YtohaopfpjkhheaaRuC
namespace Go.Proofs.Ytohaopfpjkhheaa.Rt
open Go.Proofs.Ytohaopfpjkhheaa Go.RowKit Go.Maps

theorem dart_wf {g : Gph} {p : Prt} (hp : perr g p = 0) (hl : g.e.length ≤ 1000000) {d : Int} (h : Dart p d) : (Lit.int .i64 d).wf = true := by
  have h1 := h.1
  have h2 := ints g p hp h.2
  exact WalkArith.wf_i64 (by omega)

theorem small6_facts {g : Gph} {p : Prt} {T : List (List Int)} (h : small6 g p T = true) : g.e.length ≤ 60 ∧ p.v.length ≤ 60 ∧ p.e.length ≤ 60 ∧ T.length ≤ 100 ∧ ∀ j, (getT T j).length ≤ 200 := by
  unfold small6 smallB at h
  rw [Bool.and_eq_true, Bool.and_eq_true, decide_eq_true_iff, decide_eq_true_iff, decide_eq_true_iff] at h
  refine ⟨h.1.1, h.1.2.1, h.1.2.2.1, h.2.1, fun j => ?_⟩
  by_cases hj : j < T.length
  · exact h.2.2 j hj
  · rw [getT_out _ _ hj]; exact Nat.zero_le _

set_option maxRecDepth 100000 in
set_option maxHeartbeats 8000000 in
theorem rotaSteps_any (v : Value) (g : Gph) (u : Value) (p : Prt) (x : Value) (T : List (List Int)) (d : Int) (w : World) (h : Gr w v g) (h' : Pt w u p) (hT : LL w x T) (hw : ∀ j, ∀ y ∈ getT T j, (Lit.int .i64 y).wf = true) (hwd : (Lit.int .i64 d).wf = true) :
    Calls Try.prog 3 #[v, u, x, .int .i64 d] w fun e w' => e = .returned (.bool true) ∧ Below w.heap.size w w' := by
  have HG := Lib.hid h
  have HP := Lib.hid h'
  obtain ⟨ve, rfl, h1⟩ := h
  obtain ⟨vv, vp, rfl, h2, h3⟩ := h'
  obtain ⟨Ae, ce, rfl⟩ := h1.form
  obtain ⟨Av, cv, rfl⟩ := ints_form h2
  obtain ⟨Ap, cp, rfl⟩ := ints_form h3
  obtain ⟨A, cap, rfl, _, _⟩ := hT.form
  obtain ⟨b1, b2, hm⟩ := two_boxes w (.int .i64 g.n) (.slice Ae g.e.length ce) (.slice Av p.v.length cv) (.slice Ap p.e.length cp) 24 27
  have HB1 := Lib.hid b1
  have HB2 := Lib.hid b2
  have HM := Lib.hid hm
  have HG1 := Lib.hid (HG.out.below hm)
  have HP1 := Lib.hid (HP.out.below hm)
  have HT1 := Lib.hid (hT.below hm)
  have HI3 := Lib.hid (h3.below hm)
  have HW := Lib.hid hw
  clear b1 b2 hm h1 h2 h3 HG HP hT hw
  go_enter Try.func3, Try.ntmps3
  go_wp2_with fail
  generalize (w.alloc (.cells #[.int .i64 g.n, .slice Ae g.e.length ce] 24)).alloc (.cells #[.slice Av p.v.length cv, .slice Ap p.e.length cp] 27) = w1 at *
  refine (tawake_any w1).mono ?_
  rintro e w2 ⟨rfl, hB2⟩
  have c0 := (HB1.out.below hB2).c0
  have c1 := (HB1.out.below hB2).c1
  have d0 := (HB2.out.below hB2).c0
  have d1 := (HB2.out.below hB2).c1
  have HBB2 := Lib.hid hB2
  clear hB2
  go_wp2_with fail
  refine (small6_any _ _ _ g p T w2 (HG1.out.below HBB2.out) (HP1.out.below HBB2.out) (HT1.out.below HBB2.out)).mono ?_
  rintro e w3 ⟨rfl, hB3⟩
  have HB3 := Lib.hid (trans2 HBB2.out hB3)
  clear hB3 c0 c1 d0 d1 HBB2
  by_cases hs : small6 g p T = true
  case neg =>
    have e : small6I g p T = 0 := if_neg hs
    rw [e]
    clear e hs
    go_wp2_with fail
    refine (tawake_any w3).mono ?_
    rintro e w4 ⟨rfl, hB4⟩
    go_wp2
    go_ret
    exact ⟨rfl, trans2 HM.out (trans2 HB3.out hB4)⟩
  have e : small6I g p T = 1 := if_pos hs
  obtain ⟨hl, hp1, hp2, hlT, hrT⟩ := small6_facts hs
  rw [e]
  have c0 := (HB1.out.below HB3.out).c0
  have c1 := (HB1.out.below HB3.out).c1
  have d0 := (HB2.out.below HB3.out).c0
  have d1 := (HB2.out.below HB3.out).c1
  clear e hs
  have HN := Lib.hid (new_any _ _ _ g p T w3 (HG1.out.below HB3.out) (HP1.out.below HB3.out) (HT1.out.below HB3.out) (by omega) (by omega) (by omega) (by omega) (fun j => by have := hrT j; omega) HW.out)
  go_wp2_with fail
  refine HN.out.mono ?_
  clear HN c0 c1 d0 d1
  rintro e w4 ⟨hB4, ⟨hne, rfl⟩ | ⟨hTu, rb, rfl, hRo⟩⟩
  · have HZ := Lib.hid (trans2 HM.out (trans2 HB3.out hB4))
    have hne' : (terr g p T != 0) = true := by simpa using hne
    clear hB4 hne
    generalize terr g p T = te at *
    go_wp2
    go_ret
    exact ⟨rfl, HZ.out⟩
  have HB4 := Lib.hid (trans2 HB3.out hB4)
  have HR := Lib.hid hRo
  have HU := Lib.hid (hTu.alike (alike_fst T))
  have HP0 := Lib.hid hTu.right
  have hrU : ∀ j, (getT (T.map fst) j).length ≤ 1000000 := fun j => by
    rw [getT_map fst fst_nil, fst_len]
    have := hrT j
    omega
  have HRL := Lib.hid hrU
  clear hB4 hRo hTu hrU hrT
  generalize T.map fst = U at *
  have HA := Lib.hid (after_any rb g p U w4 d HR.out HU.out hwd HRL.out)
  by_cases hd : Dart p d
  case neg =>
    rw [stp_no hd, decide_eq_false hd] at HA
    have HX1 := Lib.hid (fun W hW => before_any rb g p U W d (HR.out.below hW) HU.out hwd HRL.out)
    have HX2 := Lib.hid (fun W hW => next_any rb g p U W d (HR.out.below hW) HU.out hwd HRL.out)
    have HX3 := Lib.hid (fun W hW => back_any rb g p U W d (HR.out.below hW) HU.out hwd HRL.out (by omega))
    simp only [stp_no hd, decide_eq_false hd] at HX1 HX2 HX3
    have HND := Lib.hid hd
    clear hd
    go_wp2_with fail
    refine HA.out.mono ?_
    rintro e w5 ⟨rfl, hB5⟩
    have HB5 := Lib.hid hB5
    clear hB5 HA
    go_wp2_with fail
    refine (HX1.out _ HB5.out).mono ?_
    rintro e w6 ⟨rfl, hB6⟩
    have HB6 := Lib.hid (trans2 HB5.out hB6)
    clear hB6 HX1
    go_wp2_with fail
    refine (HX2.out _ HB6.out).mono ?_
    rintro e w7 ⟨rfl, hB7⟩
    have HB7 := Lib.hid (trans2 HB6.out hB7)
    clear hB7 HX2
    go_wp2_with fail
    refine (HX3.out _ HB7.out).mono ?_
    rintro e w8 ⟨rfl, hB8⟩
    have HB8 := Lib.hid (trans2 HB4.out (trans2 HB7.out hB8))
    have HZ := Lib.hid (trans2 HM.out HB8.out)
    clear hB8 HX3 HB5 HB6 HB7 HR
    by_cases h0 : d < 0
    · go_wp2
      go_ret
      exact ⟨rfl, HZ.out⟩
    · have hbd := wf_bounds hwd
      obtain ⟨q, hqe⟩ : ∃ q, d / 2 = q := ⟨_, rfl⟩
      have hq : (d : Int).tdiv 2 = q := by rw [Int.tdiv_eq_ediv_of_nonneg (by omega)]; exact hqe
      have hq0 : 0 ≤ q := by omega
      have hq1 : q ≤ 4611686018427387904 := by omega
      have HIN := Lib.hid (in_any _ p.e q w8 (HI3.out.below HB8.out) (by omega))
      rw [decide_eq_false (show ¬ q ∈ p.e from fun e => HND.out ⟨by omega, by rw [hqe]; exact e⟩)] at HIN
      have d1 := (HB2.out.below HB8.out).c1
      clear hqe hbd hwd
      go_wp2_with fail
      refine HIN.out.mono ?_
      rintro e w9 ⟨rfl, rfl⟩
      clear d1 HIN
      go_wp2
      go_ret
      exact ⟨rfl, HZ.out⟩
  obtain ⟨ha1, ha2, ha3⟩ := HU.out.aft hd
  obtain ⟨hn1, hn2⟩ := HU.out.nxt hd
  obtain ⟨hb1, hb2⟩ := HU.out.bak hd
  rw [stp_yes hd, decide_eq_true hd] at HA
  have HX1 := Lib.hid (fun W hW => before_any rb g p U W (aftT g U d) (HR.out.below hW) HU.out (dart_wf HP0.out (by omega) ha1) HRL.out)
  have HX2 := Lib.hid (fun W hW => next_any rb g p U W d (HR.out.below hW) HU.out hwd HRL.out)
  have HX3 := Lib.hid (fun W hW => back_any rb g p U W (nxt g U d) (HR.out.below hW) HU.out (dart_wf HP0.out (by omega) hn1) HRL.out (by omega))
  have HX4 := Lib.hid (fun W hW => back_any rb g p U W d (HR.out.below hW) HU.out hwd HRL.out (by omega))
  have HX5 := Lib.hid (fun W hW => next_any rb g p U W (bak g U d) (HR.out.below hW) HU.out (dart_wf HP0.out (by omega) hb1) HRL.out)
  simp only [stp_yes ha1, decide_eq_true ha1, ha3] at HX1
  simp only [stp_yes hd, decide_eq_true hd] at HX2 HX4
  simp only [stp_yes hn1, decide_eq_true hn1, hn2] at HX3
  simp only [stp_yes hb1, decide_eq_true hb1, hb2] at HX5
  clear ha1 ha2 ha3 hn1 hn2 hb1 hb2 hd
  generalize aftT g U d = a at *
  generalize nxt g U d = n at *
  generalize bak g U d = c at *
  go_wp2_with fail
  refine HA.out.mono ?_
  rintro e w5 ⟨rfl, hB5⟩
  have HB5 := Lib.hid hB5
  clear hB5 HA
  go_wp2_with fail
  refine (HX1.out _ HB5.out).mono ?_
  rintro e w6 ⟨rfl, hB6⟩
  have HB6 := Lib.hid (trans2 HB5.out hB6)
  clear hB6 HX1
  go_wp2_with fail
  refine (HX2.out _ HB6.out).mono ?_
  rintro e w7 ⟨rfl, hB7⟩
  have HB7 := Lib.hid (trans2 HB6.out hB7)
  clear hB7 HX2
  go_wp2_with fail
  refine (HX3.out _ HB7.out).mono ?_
  rintro e w8 ⟨rfl, hB8⟩
  have HB8 := Lib.hid (trans2 HB7.out hB8)
  clear hB8 HX3
  go_wp2_with fail
  refine (HX4.out _ HB8.out).mono ?_
  rintro e w9 ⟨rfl, hB9⟩
  have HB9 := Lib.hid (trans2 HB8.out hB9)
  clear hB9 HX4
  go_wp2_with fail
  refine (HX5.out _ HB9.out).mono ?_
  rintro e w10 ⟨rfl, hB10⟩
  have HZ := Lib.hid (trans2 HM.out (trans2 HB4.out (trans2 HB9.out hB10)))
  clear hB10 HX5
  go_wp2
  go_ret
  exact ⟨rfl, HZ.out⟩

end Go.Proofs.Ytohaopfpjkhheaa.Rt
