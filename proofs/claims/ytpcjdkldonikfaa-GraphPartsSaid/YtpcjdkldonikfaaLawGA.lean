/-
  GraphParts: of right parts And, Or and Drop make right parts: the law's call answers true at every input.
-/
import Derived.Test.YtpcjdkldonikfaaGrY
import Derived.Test.YtpcjdkldonikfaaLawGP
namespace Go.Proofs.Ytpcjdkldonikfaa
open Go.RowKit

theorem gpp_boxes (w : World) (u v u' v' u2 v2 : Value) :
    Box (((w.alloc (.cells #[u, v] 24)).alloc (.cells #[u', v'] 29)).alloc (.cells #[u2, v2] 29)) w.heap.size u v ∧ Box (((w.alloc (.cells #[u, v] 24)).alloc (.cells #[u', v'] 29)).alloc (.cells #[u2, v2] 29)) (w.heap.size + 1) u' v' ∧
      Box (((w.alloc (.cells #[u, v] 24)).alloc (.cells #[u', v'] 29)).alloc (.cells #[u2, v2] 29)) (w.heap.size + 2) u2 v2 ∧
      Below w.heap.size w (((w.alloc (.cells #[u, v] 24)).alloc (.cells #[u', v'] 29)).alloc (.cells #[u2, v2] 29)) := three_boxes _ _ _ _ _ _ _ _ _ _

set_option maxRecDepth 100000 in
set_option maxHeartbeats 8000000 in
theorem graphParts_any (v : Value) (g : Gph) (u : Value) (p : Prt) (u' : Value) (q : Prt) (e : Int) (w : World) (h : Gr w v g) (h' : Pt w u p) (h'' : Pt w u' q) :
    Calls Try.prog 4 #[v, u, u', .int .i64 e] w fun o w' => o = .returned (.bool true) ∧ Below w.heap.size w w' := by
  have HG := Lib.hid h
  have HP := Lib.hid h'
  have HQ := Lib.hid h''
  obtain ⟨ve, rfl, h1⟩ := h
  obtain ⟨Ae, ce, rfl⟩ := h1.form
  obtain ⟨vv, vp, rfl, h2, h3⟩ := h'
  obtain ⟨A1, k1, rfl⟩ := ints_form h2
  obtain ⟨A2, k2, rfl⟩ := ints_form h3
  obtain ⟨vv, vp, rfl, h4, h5⟩ := h''
  obtain ⟨A3, k3, rfl⟩ := ints_form h4
  obtain ⟨A4, k4, rfl⟩ := ints_form h5
  obtain ⟨b1, b2, b3, hm⟩ := gpp_boxes w (.int .i64 g.n) (.slice Ae g.e.length ce) (.slice A1 p.v.length k1) (.slice A2 p.e.length k2) (.slice A3 q.v.length k3) (.slice A4 q.e.length k4)
  have X0 := Lib.hid b1
  have X1 := Lib.hid b2
  have X2 := Lib.hid b3
  have HM := Lib.hid hm
  replace HG := Lib.hid (HG.out.below hm)
  replace HP := Lib.hid (HP.out.below hm)
  replace HQ := Lib.hid (HQ.out.below hm)
  clear b1 b2 b3 hm h1 h2 h3 h4 h5
  go_enter Try.func4, Try.ntmps4
  go_wp2_with fail
  generalize ((w.alloc (.cells #[.int .i64 g.n, .slice Ae g.e.length ce] 24)).alloc (.cells #[.slice A1 p.v.length k1, .slice A2 p.e.length k2] 29)).alloc (.cells #[.slice A3 q.v.length k3, .slice A4 q.e.length k4] 29) = w1 at *
  refine (awake_any w1).mono ?_
  rintro o w2 ⟨rfl, hB⟩
  replace HG := Lib.hid (HG.out.below hB)
  replace HP := Lib.hid (HP.out.below hB)
  replace HQ := Lib.hid (HQ.out.below hB)
  replace X0 := Lib.hid (X0.out.below hB)
  replace X1 := Lib.hid (X1.out.below hB)
  replace X2 := Lib.hid (X2.out.below hB)
  replace HM := Lib.hid (trans2 HM.out hB)
  clear hB
  have c0 := X0.out.c0
  have c1 := X0.out.c1
  have d0 := X1.out.c0
  have d1 := X1.out.c1
  have f0 := X2.out.c0
  have f1 := X2.out.c1
  go_wp2_with fail
  refine (small_any _ _ g p w2 HG.out HP.out).mono ?_
  rintro o w3 ⟨rfl, hB⟩
  replace HG := Lib.hid (HG.out.below hB)
  replace HP := Lib.hid (HP.out.below hB)
  replace HQ := Lib.hid (HQ.out.below hB)
  replace X0 := Lib.hid (X0.out.below hB)
  replace X1 := Lib.hid (X1.out.below hB)
  replace X2 := Lib.hid (X2.out.below hB)
  replace HM := Lib.hid (trans2 HM.out hB)
  clear hB c0 c1 d0 d1 f0 f1
  by_cases hs : smallB g p = true
  case neg =>
    have e1 : smallI g p = 0 := if_neg hs
    rw [e1]
    clear e1 hs
    go_wp2_with fail
    refine (awake_any w3).mono ?_
    rintro o wq ⟨rfl, hB4⟩
    go_wp2
    go_ret
    exact ⟨rfl, trans2 HM.out hB4⟩
  have e1 : smallI g p = 1 := if_pos hs
  obtain ⟨hlen, hlv, hle, hn60⟩ := of_decide_eq_true hs
  have HPF := Lib.hid (show p.few from ⟨by omega, by omega⟩)
  rw [e1]
  clear e1 hs
  have c0 := X0.out.c0
  have c1 := X0.out.c1
  have d0 := X1.out.c0
  have d1 := X1.out.c1
  have f0 := X2.out.c0
  have f1 := X2.out.c1
  go_wp2_with fail
  refine (small_any _ _ g q w3 HG.out HQ.out).mono ?_
  rintro o w4 ⟨rfl, hB⟩
  replace HG := Lib.hid (HG.out.below hB)
  replace HP := Lib.hid (HP.out.below hB)
  replace HQ := Lib.hid (HQ.out.below hB)
  replace X0 := Lib.hid (X0.out.below hB)
  replace X1 := Lib.hid (X1.out.below hB)
  replace X2 := Lib.hid (X2.out.below hB)
  replace HM := Lib.hid (trans2 HM.out hB)
  clear hB c0 c1 d0 d1 f0 f1
  by_cases hs : smallB g q = true
  case neg =>
    have e1 : smallI g q = 0 := if_neg hs
    rw [e1]
    clear e1 hs
    go_wp2_with fail
    refine (awake_any w4).mono ?_
    rintro o wq ⟨rfl, hB4⟩
    go_wp2
    go_ret
    exact ⟨rfl, trans2 HM.out hB4⟩
  have e1 : smallI g q = 1 := if_pos hs
  obtain ⟨_, hlv2, hle2, _⟩ := of_decide_eq_true hs
  have HQF := Lib.hid (show q.few from ⟨by omega, by omega⟩)
  rw [e1]
  clear e1 hs
  have c0 := X0.out.c0
  have c1 := X0.out.c1
  have d0 := X1.out.c0
  have d1 := X1.out.c1
  have f0 := X2.out.c0
  have f1 := X2.out.c1
  go_wp2_with fail
  refine (rightPart_any _ _ g p w4 HG.out HP.out (by omega) (by omega) (by omega)).mono ?_
  rintro o w5 ⟨rfl, hB⟩
  replace HG := Lib.hid (HG.out.below hB)
  replace HP := Lib.hid (HP.out.below hB)
  replace HQ := Lib.hid (HQ.out.below hB)
  replace X0 := Lib.hid (X0.out.below hB)
  replace X1 := Lib.hid (X1.out.below hB)
  replace X2 := Lib.hid (X2.out.below hB)
  replace HM := Lib.hid (trans2 HM.out hB)
  clear hB c0 c1 d0 d1 f0 f1
  by_cases hr : perr g p = 0
  case neg =>
    have he' : (perr g p != 0) = true := by simpa using hr
    clear hr
    generalize perr g p = pe at *
    go_wp2_with fail
    refine (awake_any w5).mono ?_
    rintro o wq ⟨rfl, hB4⟩
    go_wp2
    go_ret
    exact ⟨rfl, trans2 HM.out hB4⟩
  have HPR := Lib.hid hr
  rw [hr]
  clear hr
  have c0 := X0.out.c0
  have c1 := X0.out.c1
  have d0 := X1.out.c0
  have d1 := X1.out.c1
  have f0 := X2.out.c0
  have f1 := X2.out.c1
  go_wp2_with fail
  refine (rightPart_any _ _ g q w5 HG.out HQ.out (by omega) (by omega) (by omega)).mono ?_
  rintro o w6 ⟨rfl, hB⟩
  replace HG := Lib.hid (HG.out.below hB)
  replace HP := Lib.hid (HP.out.below hB)
  replace HQ := Lib.hid (HQ.out.below hB)
  replace X0 := Lib.hid (X0.out.below hB)
  replace X1 := Lib.hid (X1.out.below hB)
  replace X2 := Lib.hid (X2.out.below hB)
  replace HM := Lib.hid (trans2 HM.out hB)
  clear hB c0 c1 d0 d1 f0 f1
  by_cases hr : perr g q = 0
  case neg =>
    have he' : (perr g q != 0) = true := by simpa using hr
    clear hr
    generalize perr g q = pe at *
    go_wp2_with fail
    refine (awake_any w6).mono ?_
    rintro o wq ⟨rfl, hB4⟩
    go_wp2
    go_ret
    exact ⟨rfl, trans2 HM.out hB4⟩
  have HQR := Lib.hid hr
  rw [hr]
  clear hr
  go_wp2_with fail
  refine wp_region_plan [is (.agg #[.slice A1 p.v.length k1, .slice A2 p.e.length k2]), is (.agg #[.slice A3 q.v.length k3, .slice A4 q.e.length k4]), spPair w6.heap.size (p.and q), is (.agg #[.slice A1 p.v.length k1, .slice A2 p.e.length k2]), is (.agg #[.slice A3 q.v.length k3, .slice A4 q.e.length k4]), spPair w6.heap.size (p.or q), is (.agg #[.slice A1 p.v.length k1, .slice A2 p.e.length k2]), is (.int .i64 e), spPair w6.heap.size (p.drop e), spBox (.slice none 0 0) (.slice none 0 0), spBox (.slice none 0 0) (.slice none 0 0), spBox (.slice none 0 0) (.slice none 0 0)] (by kernel_rfl) (by kernel_rfl) ?_ ?_
  · skip
    refine StepsP.cons ?_ ?_
    · refine step_val (fun a wx hB O D => ?_)
      have e5 : a.tmps[5]? = some (.pointer (some ⟨w.heap.size + 1, 0, none⟩)) := O 5 (by rfl)
      obtain ⟨c0, c1, _⟩ := X1.out.below hB
      clear O D
      exact ⟨rfl, by go_simp⟩
    refine StepsP.cons ?_ ?_
    · refine step_val (fun a wx hB O D => ?_)
      have e6 : a.tmps[6]? = some (.pointer (some ⟨w.heap.size + 2, 0, none⟩)) := O 6 (by rfl)
      obtain ⟨c0, c1, _⟩ := X2.out.below hB
      clear O D
      exact ⟨rfl, by go_simp⟩
    refine StepsP.cons ?_ ?_
    · refine step_call (enters_of Try.func19 (by kernel_rfl) rfl) rfl rfl (fun a wx hB O D => ?_)
      obtain ⟨_, e39, rfl⟩ := D 0 _ _ _ (by decide) rfl rfl rfl
      obtain ⟨_, e40, rfl⟩ := D 1 _ _ _ (by decide) rfl rfl rfl
      refine ⟨rfl, #[.agg #[.slice A1 p.v.length k1, .slice A2 p.e.length k2], .agg #[.slice A3 q.v.length k3, .slice A4 q.e.length k4]], by simp only [List.map_toArray, List.map_cons, List.map_nil, ev e39, ev e40] <;> rfl, ?_⟩
      exact (and_own _ _ p q _ (HP.out.below hB) (HQ.out.below hB) HPF.out HQF.out).mono fun _ _ ⟨r, he, hb, hr⟩ => ⟨r, he, hb, pair_le hr hB.size⟩
    refine StepsP.cons ?_ ?_
    · refine step_val (fun a wx hB O D => ?_)
      have e5 : a.tmps[5]? = some (.pointer (some ⟨w.heap.size + 1, 0, none⟩)) := O 5 (by rfl)
      obtain ⟨c0, c1, _⟩ := X1.out.below hB
      clear O D
      exact ⟨rfl, by go_simp⟩
    refine StepsP.cons ?_ ?_
    · refine step_val (fun a wx hB O D => ?_)
      have e6 : a.tmps[6]? = some (.pointer (some ⟨w.heap.size + 2, 0, none⟩)) := O 6 (by rfl)
      obtain ⟨c0, c1, _⟩ := X2.out.below hB
      clear O D
      exact ⟨rfl, by go_simp⟩
    refine StepsP.cons ?_ ?_
    · refine step_call (enters_of Try.func20 (by kernel_rfl) rfl) rfl rfl (fun a wx hB O D => ?_)
      obtain ⟨_, e42, rfl⟩ := D 3 _ _ _ (by decide) rfl rfl rfl
      obtain ⟨_, e43, rfl⟩ := D 4 _ _ _ (by decide) rfl rfl rfl
      refine ⟨rfl, #[.agg #[.slice A1 p.v.length k1, .slice A2 p.e.length k2], .agg #[.slice A3 q.v.length k3, .slice A4 q.e.length k4]], by simp only [List.map_toArray, List.map_cons, List.map_nil, ev e42, ev e43] <;> rfl, ?_⟩
      exact (or_own _ _ p q _ (HP.out.below hB) (HQ.out.below hB) HPF.out HQF.out).mono fun _ _ ⟨r, he, hb, hr⟩ => ⟨r, he, hb, pair_le hr hB.size⟩
    refine StepsP.cons ?_ ?_
    · refine step_val (fun a wx hB O D => ?_)
      have e5 : a.tmps[5]? = some (.pointer (some ⟨w.heap.size + 1, 0, none⟩)) := O 5 (by rfl)
      obtain ⟨c0, c1, _⟩ := X1.out.below hB
      clear O D
      exact ⟨rfl, by go_simp⟩
    refine StepsP.cons ?_ ?_
    · refine step_val (fun a wx hB O D => ?_)
      have e3 : a.tmps[3]? = some (.int .i64 e) := O 3 (by rfl)
      clear O D
      exact ⟨rfl, by unfold execOp; simp only [ev e3]; rfl⟩
    refine StepsP.cons ?_ ?_
    · refine step_call (enters_of Try.func21 (by kernel_rfl) rfl) rfl rfl (fun a wx hB O D => ?_)
      obtain ⟨_, e45, rfl⟩ := D 6 _ _ _ (by decide) rfl rfl rfl
      obtain ⟨_, e46, rfl⟩ := D 7 _ _ _ (by decide) rfl rfl rfl
      refine ⟨rfl, #[.agg #[.slice A1 p.v.length k1, .slice A2 p.e.length k2], .int .i64 e], by simp only [List.map_toArray, List.map_cons, List.map_nil, ev e45, ev e46] <;> rfl, ?_⟩
      exact (drop_own _ p e _ (HP.out.below hB) HPF.out).mono fun _ _ ⟨r, he, hb, hr⟩ => ⟨r, he, hb, pair_le hr hB.size⟩
    refine StepsP.cons ?_ ?_
    · exact step_alloc rfl rfl zeroPart spBox_new
    refine StepsP.cons ?_ ?_
    · exact step_alloc rfl rfl zeroPart spBox_new
    refine StepsP.cons ?_ ?_
    · exact step_alloc rfl rfl zeroPart spBox_new
    exact StepsP.nil
  · intro wz hZ
    refine EndP.is ?_
    refine EndP.is ?_
    refine EndP.sp rfl (fun v41 s41 => ?_)
    refine EndP.is ?_
    refine EndP.is ?_
    refine EndP.sp rfl (fun v44 s44 => ?_)
    refine EndP.is ?_
    refine EndP.is ?_
    refine EndP.sp rfl (fun v47 s47 => ?_)
    refine EndP.new rfl (fun g9 s9 l9 n9 => ?_)
    refine EndP.new rfl (fun g10 s10 l10 n10 => ?_)
    refine EndP.new rfl (fun g11 s11 l11 n11 => ?_)
    refine EndP.nil ?_
    have p9 := spBox_at s9
    have p10 := spBox_at s10
    have p11 := spBox_at s11
    have n1 : g10 ≠ g9 := fun h => n10 _ (List.mem_singleton.2 rfl) (by rw [h])
    have n2 : g11 ≠ g9 := fun h => n11 _ (List.mem_cons_of_mem _ (List.mem_singleton.2 rfl)) (by rw [h])
    have n3 : g11 ≠ g10 := fun h => n11 _ (List.mem_cons_self) (by rw [h])
    obtain ⟨a1, a2, rfl, ra1, ra2⟩ := s41
    obtain ⟨B1, m1, rfl⟩ := ints_form ra1.ints
    obtain ⟨B2, m2, rfl⟩ := ints_form ra2.ints
    obtain ⟨a3, a4, rfl, ra3, ra4⟩ := s44
    obtain ⟨B3, m3, rfl⟩ := ints_form ra3.ints
    obtain ⟨B4, m4, rfl⟩ := ints_form ra4.ints
    obtain ⟨a5, a6, rfl, ra5, ra6⟩ := s47
    obtain ⟨B5, m5, rfl⟩ := ints_form ra5.ints
    obtain ⟨B6, m6, rfl⟩ := ints_form ra6.ints
    have fa : (spPair w6.heap.size (p.and q)).p wz (.agg #[.slice B1 (p.and q).v.length m1, .slice B2 (p.and q).e.length m2]) := ⟨_, _, rfl, ra1, ra2⟩
    have fo : (spPair w6.heap.size (p.or q)).p wz (.agg #[.slice B3 (p.or q).v.length m3, .slice B4 (p.or q).e.length m4]) := ⟨_, _, rfl, ra3, ra4⟩
    have fd : (spPair w6.heap.size (p.drop e)).p wz (.agg #[.slice B5 (p.drop e).v.length m5, .slice B6 (p.drop e).e.length m6]) := ⟨_, _, rfl, ra5, ra6⟩
    have HZB := Lib.hid (put_below (put_below (put_below hZ l9.1 (.slice B1 (p.and q).v.length m1) (.slice B2 (p.and q).e.length m2)) l10.1 (.slice B3 (p.or q).v.length m3) (.slice B4 (p.or q).e.length m4)) l11.1 (.slice B5 (p.drop e).v.length m5) (.slice B6 (p.drop e).e.length m6))
    have q9 := p9.put (.slice B1 (p.and q).v.length m1) (.slice B2 (p.and q).e.length m2)
    have q10 := p10.other n1 (.slice B1 (p.and q).v.length m1) (.slice B2 (p.and q).e.length m2)
    have q11 := p11.other n2 (.slice B1 (p.and q).v.length m1) (.slice B2 (p.and q).e.length m2)
    have fa1 := pair_put fa p9 (.slice B1 (p.and q).v.length m1) (.slice B2 (p.and q).e.length m2)
    have fo1 := pair_put fo p9 (.slice B1 (p.and q).v.length m1) (.slice B2 (p.and q).e.length m2)
    have fd1 := pair_put fd p9 (.slice B1 (p.and q).v.length m1) (.slice B2 (p.and q).e.length m2)
    have r9 := q9.other n1.symm (.slice B3 (p.or q).v.length m3) (.slice B4 (p.or q).e.length m4)
    have r10 := q10.put (.slice B3 (p.or q).v.length m3) (.slice B4 (p.or q).e.length m4)
    have r11 := q11.other n3 (.slice B3 (p.or q).v.length m3) (.slice B4 (p.or q).e.length m4)
    have fa2 := pair_put fa1 q10 (.slice B3 (p.or q).v.length m3) (.slice B4 (p.or q).e.length m4)
    have fo2 := pair_put fo1 q10 (.slice B3 (p.or q).v.length m3) (.slice B4 (p.or q).e.length m4)
    have fd2 := pair_put fd1 q10 (.slice B3 (p.or q).v.length m3) (.slice B4 (p.or q).e.length m4)
    have X9 := Lib.hid (r9.other n2.symm (.slice B5 (p.drop e).v.length m5) (.slice B6 (p.drop e).e.length m6)).box
    have X10 := Lib.hid (r10.other n3.symm (.slice B5 (p.drop e).v.length m5) (.slice B6 (p.drop e).e.length m6)).box
    have X11 := Lib.hid (r11.put (.slice B5 (p.drop e).v.length m5) (.slice B6 (p.drop e).e.length m6)).box
    have HA := Lib.hid (pair_pt (pair_put fa2 r11 (.slice B5 (p.drop e).v.length m5) (.slice B6 (p.drop e).e.length m6)))
    have HO := Lib.hid (pair_pt (pair_put fo2 r11 (.slice B5 (p.drop e).v.length m5) (.slice B6 (p.drop e).e.length m6)))
    have HD := Lib.hid (pair_pt (pair_put fd2 r11 (.slice B5 (p.drop e).v.length m5) (.slice B6 (p.drop e).e.length m6)))
    replace HG := Lib.hid (HG.out.below HZB.out)
    replace HP := Lib.hid (HP.out.below HZB.out)
    replace HQ := Lib.hid (HQ.out.below HZB.out)
    replace X0 := Lib.hid (X0.out.below HZB.out)
    replace X1 := Lib.hid (X1.out.below HZB.out)
    replace X2 := Lib.hid (X2.out.below HZB.out)
    replace HM := Lib.hid (trans2 HM.out HZB.out)
    have HAF := Lib.hid (and_few HPF.out q)
    have HOF := Lib.hid (or_few (p := p) (q := q) ⟨by omega, by omega⟩ ⟨by omega, by omega⟩)
    have HDF := Lib.hid (drop_few HPF.out e)
    have HAU := Lib.hid (perr_up HPR.out)
    have HBU := Lib.hid (perr_up HQR.out)
    simp only [Act.put, List.setIfInBounds_toArray, List.set_cons_zero, List.set_cons_succ]
    refine wpList_store_part rfl rfl (k := 9) (j := 41) rfl rfl rfl p9 ?_
    refine wpList_store_part rfl rfl (k := 10) (j := 44) rfl rfl rfl q10 ?_
    refine wpList_store_part rfl rfl (k := 11) (j := 47) rfl rfl rfl r11 ?_
    refine wpList_nil ?_
    clear hZ p9 p10 p11 q9 q10 q11 r9 r10 r11 n1 n2 n3 n9 n10 n11 l9 l10 l11 s9 s10 s11 ra1 ra2 ra3 ra4 ra5 ra6 fa fo fd fa1 fo1 fd1 fa2 fo2 fd2 HZB
    generalize putPart (putPart (putPart wz g9 (.slice B1 (p.and q).v.length m1) (.slice B2 (p.and q).e.length m2)) g10 (.slice B3 (p.or q).v.length m3) (.slice B4 (p.or q).e.length m4)) g11 (.slice B5 (p.drop e).v.length m5) (.slice B6 (p.drop e).e.length m6) = w7 at *
    have cX00 := X0.out.c0
    have cX01 := X0.out.c1
    have cX90 := X9.out.c0
    have cX91 := X9.out.c1
    go_wp2_with fail
    refine (rightPart_any _ _ g (p.and q) w7 HG.out HA.out (by omega) (by have := HAF.out.1; omega) (by have := HAF.out.2; omega)).mono ?_
    rintro o w8 ⟨rfl, hB⟩
    rw [and_ok HPR.out HQR.out]
    replace HG := Lib.hid (HG.out.below hB)
    replace HP := Lib.hid (HP.out.below hB)
    replace HQ := Lib.hid (HQ.out.below hB)
    replace X0 := Lib.hid (X0.out.below hB)
    replace X1 := Lib.hid (X1.out.below hB)
    replace X2 := Lib.hid (X2.out.below hB)
    replace X9 := Lib.hid (X9.out.below hB)
    replace X10 := Lib.hid (X10.out.below hB)
    replace X11 := Lib.hid (X11.out.below hB)
    replace HA := Lib.hid (HA.out.below hB)
    replace HO := Lib.hid (HO.out.below hB)
    replace HD := Lib.hid (HD.out.below hB)
    replace HM := Lib.hid (trans2 HM.out hB)
    clear hB cX00 cX01 cX90 cX91
    have cX00 := X0.out.c0
    have cX01 := X0.out.c1
    have cX100 := X10.out.c0
    have cX101 := X10.out.c1
    go_wp2_with fail
    refine (rightPart_any _ _ g (p.or q) w8 HG.out HO.out (by omega) (by have := HOF.out.1; omega) (by have := HOF.out.2; omega)).mono ?_
    rintro o w9 ⟨rfl, hB⟩
    rw [or_ok HPR.out HQR.out]
    replace HG := Lib.hid (HG.out.below hB)
    replace HP := Lib.hid (HP.out.below hB)
    replace HQ := Lib.hid (HQ.out.below hB)
    replace X0 := Lib.hid (X0.out.below hB)
    replace X1 := Lib.hid (X1.out.below hB)
    replace X2 := Lib.hid (X2.out.below hB)
    replace X9 := Lib.hid (X9.out.below hB)
    replace X10 := Lib.hid (X10.out.below hB)
    replace X11 := Lib.hid (X11.out.below hB)
    replace HA := Lib.hid (HA.out.below hB)
    replace HO := Lib.hid (HO.out.below hB)
    replace HD := Lib.hid (HD.out.below hB)
    replace HM := Lib.hid (trans2 HM.out hB)
    clear hB cX00 cX01 cX100 cX101
    have cX00 := X0.out.c0
    have cX01 := X0.out.c1
    have cX110 := X11.out.c0
    have cX111 := X11.out.c1
    go_wp2_with fail
    refine (rightPart_any _ _ g (p.drop e) w9 HG.out HD.out (by omega) (by have := HDF.out.1; omega) (by have := HDF.out.2; omega)).mono ?_
    rintro o w10 ⟨rfl, hB⟩
    rw [drop_ok HPR.out e]
    replace HG := Lib.hid (HG.out.below hB)
    replace HP := Lib.hid (HP.out.below hB)
    replace HQ := Lib.hid (HQ.out.below hB)
    replace X0 := Lib.hid (X0.out.below hB)
    replace X1 := Lib.hid (X1.out.below hB)
    replace X2 := Lib.hid (X2.out.below hB)
    replace X9 := Lib.hid (X9.out.below hB)
    replace X10 := Lib.hid (X10.out.below hB)
    replace X11 := Lib.hid (X11.out.below hB)
    replace HA := Lib.hid (HA.out.below hB)
    replace HO := Lib.hid (HO.out.below hB)
    replace HD := Lib.hid (HD.out.below hB)
    replace HM := Lib.hid (trans2 HM.out hB)
    clear hB cX00 cX01 cX110 cX111
    have HW1 := Lib.hid (within_true (and_up HAU.out HBU.out) HAU.out (and_sub_left HAU.out HBU.out))
    have HW2 := Lib.hid (within_true (and_up HAU.out HBU.out) HBU.out (and_sub_right HAU.out HBU.out))
    have HW3 := Lib.hid (within_true HAU.out (or_up HAU.out HBU.out) (sub_or_left p q))
    have HW4 := Lib.hid (within_true HBU.out (or_up HAU.out HBU.out) (sub_or_right p q))
    have HW5 := Lib.hid (within_true (drop_up HAU.out e) HAU.out (drop_sub p e))
    have HNI := Lib.hid (show decide (e ∈ (p.drop e).e) = false from decide_eq_false (fun h => ((mem_dropL p.e e e).1 h).2 rfl))
    have HDU := Lib.hid (drop_up HAU.out e).2
    have HDE := Lib.hid (pt_snd HD.out)
    have HOA := Lib.hid (or_and HAU.out HBU.out)
    have HOOF := Lib.hid (show ((p.and q).or (p.or q)).v.length ≤ 1000000 ∧ ((p.and q).or (p.or q)).e.length ≤ 1000000 by
      have h1 := HOA.out
      rw [sameB_iff] at h1
      rw [h1]; exact HOF.out)
    have HWF := Lib.hid (whole_few (g := g) (by omega))
    have HWW := Lib.hid (within_true HAU.out (whole_up (perr_rises HPR.out).1) (sub_whole HPR.out))
    go_wp2_with fail
    refine wp_region_plan [is (.agg #[.slice B1 (p.and q).v.length m1, .slice B2 (p.and q).e.length m2]), is (.agg #[.slice A1 p.v.length k1, .slice A2 p.e.length k2]), is (.bool true), is (.bool true), is (.agg #[.slice B1 (p.and q).v.length m1, .slice B2 (p.and q).e.length m2]), is (.agg #[.slice A3 q.v.length k3, .slice A4 q.e.length k4]), is (.bool true), is (.bool true), is (.bool true), is (.agg #[.slice A1 p.v.length k1, .slice A2 p.e.length k2]), is (.agg #[.slice B3 (p.or q).v.length m3, .slice B4 (p.or q).e.length m4]), is (.bool true), is (.bool true), is (.bool true), is (.agg #[.slice A3 q.v.length k3, .slice A4 q.e.length k4]), is (.agg #[.slice B3 (p.or q).v.length m3, .slice B4 (p.or q).e.length m4]), is (.bool true), is (.bool true), is (.bool true), is (.agg #[.slice B5 (p.drop e).v.length m5, .slice B6 (p.drop e).e.length m6]), is (.agg #[.slice A1 p.v.length k1, .slice A2 p.e.length k2]), is (.bool true), is (.bool true), is (.bool true), is (.pointer (some ⟨g11, 1, none⟩)), is (.slice B6 (p.drop e).e.length m6), is (.int .i64 e), is (.bool false), is (.bool true), is (.bool true), is (.bool true), is (.agg #[.slice B1 (p.and q).v.length m1, .slice B2 (p.and q).e.length m2]), is (.agg #[.slice B3 (p.or q).v.length m3, .slice B4 (p.or q).e.length m4]), spPt ((p.and q).or (p.or q)), is (.agg #[.slice B3 (p.or q).v.length m3, .slice B4 (p.or q).e.length m4]), is (.bool true), is (.bool true), is (.bool true), is (.agg #[.slice A1 p.v.length k1, .slice A2 p.e.length k2]), is (.agg #[.int .i64 g.n, .slice Ae g.e.length ce]), spPt g.whole, is (.bool true), is (.bool true), is (.bool true)] (by kernel_rfl) (by kernel_rfl) ?_ ?_
    · skip
      refine StepsP.cons ?_ ?_
      · refine step_val (fun a wx hB O D => ?_)
        have e9 : a.tmps[9]? = some (.pointer (some ⟨g9, 0, none⟩)) := O 9 (by rfl)
        obtain ⟨c0, c1, _⟩ := X9.out.below hB
        clear O D
        exact ⟨rfl, by go_simp⟩
      refine StepsP.cons ?_ ?_
      · refine step_val (fun a wx hB O D => ?_)
        have e5 : a.tmps[5]? = some (.pointer (some ⟨w.heap.size + 1, 0, none⟩)) := O 5 (by rfl)
        obtain ⟨c0, c1, _⟩ := X1.out.below hB
        clear O D
        exact ⟨rfl, by go_simp⟩
      refine StepsP.cons ?_ ?_
      · refine step_call (enters_of Try.func22 (by kernel_rfl) rfl) rfl rfl (fun a wx hB O D => ?_)
        obtain ⟨_, e64, rfl⟩ := D 0 _ _ _ (by decide) rfl rfl rfl
        obtain ⟨_, e65, rfl⟩ := D 1 _ _ _ (by decide) rfl rfl rfl
        refine ⟨rfl, #[.agg #[.slice B1 (p.and q).v.length m1, .slice B2 (p.and q).e.length m2], .agg #[.slice A1 p.v.length k1, .slice A2 p.e.length k2]], by simp only [List.map_toArray, List.map_cons, List.map_nil, ev e64, ev e65] <;> rfl, ?_⟩
        exact (within_any _ _ (p.and q) p _ (HA.out.below hB) (HP.out.below hB) HAF.out HPF.out).mono fun _ _ ⟨he, hb⟩ => ⟨_, by rw [he, HW1.out], hb, rfl⟩
      refine StepsP.cons ?_ ?_
      · refine step_val (fun a wx hB O D => ?_)
        obtain ⟨_, e66, rfl⟩ := D 2 _ _ _ (by decide) rfl rfl rfl
        clear O D
        exact ⟨rfl, by unfold execOp; simp only [ev e66]; rfl⟩
      refine StepsP.cons ?_ ?_
      · refine step_val (fun a wx hB O D => ?_)
        have e9 : a.tmps[9]? = some (.pointer (some ⟨g9, 0, none⟩)) := O 9 (by rfl)
        obtain ⟨_, e67, rfl⟩ := D 3 _ _ _ (by decide) rfl rfl rfl
        obtain ⟨c0, c1, _⟩ := X9.out.below hB
        clear O D
        exact ⟨wanted_of rfl rfl e67 rfl, by go_simp⟩
      refine StepsP.cons ?_ ?_
      · refine step_val (fun a wx hB O D => ?_)
        have e6 : a.tmps[6]? = some (.pointer (some ⟨w.heap.size + 2, 0, none⟩)) := O 6 (by rfl)
        obtain ⟨_, e67, rfl⟩ := D 3 _ _ _ (by decide) rfl rfl rfl
        obtain ⟨c0, c1, _⟩ := X2.out.below hB
        clear O D
        exact ⟨wanted_of rfl rfl e67 rfl, by go_simp⟩
      refine StepsP.cons ?_ ?_
      · refine step_call (enters_of Try.func22 (by kernel_rfl) rfl) rfl rfl (fun a wx hB O D => ?_)
        obtain ⟨_, e68, rfl⟩ := D 4 _ _ _ (by decide) rfl rfl rfl
        obtain ⟨_, e69, rfl⟩ := D 5 _ _ _ (by decide) rfl rfl rfl
        obtain ⟨_, e67, rfl⟩ := D 3 _ _ _ (by decide) rfl rfl rfl
        refine ⟨wanted_of rfl rfl e67 rfl, #[.agg #[.slice B1 (p.and q).v.length m1, .slice B2 (p.and q).e.length m2], .agg #[.slice A3 q.v.length k3, .slice A4 q.e.length k4]], by simp only [List.map_toArray, List.map_cons, List.map_nil, ev e68, ev e69] <;> rfl, ?_⟩
        exact (within_any _ _ (p.and q) q _ (HA.out.below hB) (HQ.out.below hB) HAF.out HQF.out).mono fun _ _ ⟨he, hb⟩ => ⟨_, by rw [he, HW2.out], hb, rfl⟩
      refine StepsP.cons ?_ ?_
      · refine step_val (fun a wx hB O D => ?_)
        obtain ⟨_, e67, rfl⟩ := D 3 _ _ _ (by decide) rfl rfl rfl
        obtain ⟨_, e70, rfl⟩ := D 6 _ _ _ (by decide) rfl rfl rfl
        clear O D
        exact ⟨rfl, by go_simp⟩
      refine StepsP.cons ?_ ?_
      · refine step_val (fun a wx hB O D => ?_)
        obtain ⟨_, e71, rfl⟩ := D 7 _ _ _ (by decide) rfl rfl rfl
        clear O D
        exact ⟨rfl, by unfold execOp; simp only [ev e71]; rfl⟩
      refine StepsP.cons ?_ ?_
      · refine step_val (fun a wx hB O D => ?_)
        have e5 : a.tmps[5]? = some (.pointer (some ⟨w.heap.size + 1, 0, none⟩)) := O 5 (by rfl)
        obtain ⟨_, e72, rfl⟩ := D 8 _ _ _ (by decide) rfl rfl rfl
        obtain ⟨c0, c1, _⟩ := X1.out.below hB
        clear O D
        exact ⟨wanted_of rfl rfl e72 rfl, by go_simp⟩
      refine StepsP.cons ?_ ?_
      · refine step_val (fun a wx hB O D => ?_)
        have e10 : a.tmps[10]? = some (.pointer (some ⟨g10, 0, none⟩)) := O 10 (by rfl)
        obtain ⟨_, e72, rfl⟩ := D 8 _ _ _ (by decide) rfl rfl rfl
        obtain ⟨c0, c1, _⟩ := X10.out.below hB
        clear O D
        exact ⟨wanted_of rfl rfl e72 rfl, by go_simp⟩
      refine StepsP.cons ?_ ?_
      · refine step_call (enters_of Try.func22 (by kernel_rfl) rfl) rfl rfl (fun a wx hB O D => ?_)
        obtain ⟨_, e73, rfl⟩ := D 9 _ _ _ (by decide) rfl rfl rfl
        obtain ⟨_, e74, rfl⟩ := D 10 _ _ _ (by decide) rfl rfl rfl
        obtain ⟨_, e72, rfl⟩ := D 8 _ _ _ (by decide) rfl rfl rfl
        refine ⟨wanted_of rfl rfl e72 rfl, #[.agg #[.slice A1 p.v.length k1, .slice A2 p.e.length k2], .agg #[.slice B3 (p.or q).v.length m3, .slice B4 (p.or q).e.length m4]], by simp only [List.map_toArray, List.map_cons, List.map_nil, ev e73, ev e74] <;> rfl, ?_⟩
        exact (within_any _ _ p (p.or q) _ (HP.out.below hB) (HO.out.below hB) HPF.out HOF.out).mono fun _ _ ⟨he, hb⟩ => ⟨_, by rw [he, HW3.out], hb, rfl⟩
      refine StepsP.cons ?_ ?_
      · refine step_val (fun a wx hB O D => ?_)
        obtain ⟨_, e72, rfl⟩ := D 8 _ _ _ (by decide) rfl rfl rfl
        obtain ⟨_, e75, rfl⟩ := D 11 _ _ _ (by decide) rfl rfl rfl
        clear O D
        exact ⟨rfl, by go_simp⟩
      refine StepsP.cons ?_ ?_
      · refine step_val (fun a wx hB O D => ?_)
        obtain ⟨_, e76, rfl⟩ := D 12 _ _ _ (by decide) rfl rfl rfl
        clear O D
        exact ⟨rfl, by unfold execOp; simp only [ev e76]; rfl⟩
      refine StepsP.cons ?_ ?_
      · refine step_val (fun a wx hB O D => ?_)
        have e6 : a.tmps[6]? = some (.pointer (some ⟨w.heap.size + 2, 0, none⟩)) := O 6 (by rfl)
        obtain ⟨_, e77, rfl⟩ := D 13 _ _ _ (by decide) rfl rfl rfl
        obtain ⟨c0, c1, _⟩ := X2.out.below hB
        clear O D
        exact ⟨wanted_of rfl rfl e77 rfl, by go_simp⟩
      refine StepsP.cons ?_ ?_
      · refine step_val (fun a wx hB O D => ?_)
        have e10 : a.tmps[10]? = some (.pointer (some ⟨g10, 0, none⟩)) := O 10 (by rfl)
        obtain ⟨_, e77, rfl⟩ := D 13 _ _ _ (by decide) rfl rfl rfl
        obtain ⟨c0, c1, _⟩ := X10.out.below hB
        clear O D
        exact ⟨wanted_of rfl rfl e77 rfl, by go_simp⟩
      refine StepsP.cons ?_ ?_
      · refine step_call (enters_of Try.func22 (by kernel_rfl) rfl) rfl rfl (fun a wx hB O D => ?_)
        obtain ⟨_, e78, rfl⟩ := D 14 _ _ _ (by decide) rfl rfl rfl
        obtain ⟨_, e79, rfl⟩ := D 15 _ _ _ (by decide) rfl rfl rfl
        obtain ⟨_, e77, rfl⟩ := D 13 _ _ _ (by decide) rfl rfl rfl
        refine ⟨wanted_of rfl rfl e77 rfl, #[.agg #[.slice A3 q.v.length k3, .slice A4 q.e.length k4], .agg #[.slice B3 (p.or q).v.length m3, .slice B4 (p.or q).e.length m4]], by simp only [List.map_toArray, List.map_cons, List.map_nil, ev e78, ev e79] <;> rfl, ?_⟩
        exact (within_any _ _ q (p.or q) _ (HQ.out.below hB) (HO.out.below hB) HQF.out HOF.out).mono fun _ _ ⟨he, hb⟩ => ⟨_, by rw [he, HW4.out], hb, rfl⟩
      refine StepsP.cons ?_ ?_
      · refine step_val (fun a wx hB O D => ?_)
        obtain ⟨_, e77, rfl⟩ := D 13 _ _ _ (by decide) rfl rfl rfl
        obtain ⟨_, e80, rfl⟩ := D 16 _ _ _ (by decide) rfl rfl rfl
        clear O D
        exact ⟨rfl, by go_simp⟩
      refine StepsP.cons ?_ ?_
      · refine step_val (fun a wx hB O D => ?_)
        obtain ⟨_, e81, rfl⟩ := D 17 _ _ _ (by decide) rfl rfl rfl
        clear O D
        exact ⟨rfl, by unfold execOp; simp only [ev e81]; rfl⟩
      refine StepsP.cons ?_ ?_
      · refine step_val (fun a wx hB O D => ?_)
        have e11 : a.tmps[11]? = some (.pointer (some ⟨g11, 0, none⟩)) := O 11 (by rfl)
        obtain ⟨_, e82, rfl⟩ := D 18 _ _ _ (by decide) rfl rfl rfl
        obtain ⟨c0, c1, _⟩ := X11.out.below hB
        clear O D
        exact ⟨wanted_of rfl rfl e82 rfl, by go_simp⟩
      refine StepsP.cons ?_ ?_
      · refine step_val (fun a wx hB O D => ?_)
        have e5 : a.tmps[5]? = some (.pointer (some ⟨w.heap.size + 1, 0, none⟩)) := O 5 (by rfl)
        obtain ⟨_, e82, rfl⟩ := D 18 _ _ _ (by decide) rfl rfl rfl
        obtain ⟨c0, c1, _⟩ := X1.out.below hB
        clear O D
        exact ⟨wanted_of rfl rfl e82 rfl, by go_simp⟩
      refine StepsP.cons ?_ ?_
      · refine step_call (enters_of Try.func22 (by kernel_rfl) rfl) rfl rfl (fun a wx hB O D => ?_)
        obtain ⟨_, e83, rfl⟩ := D 19 _ _ _ (by decide) rfl rfl rfl
        obtain ⟨_, e84, rfl⟩ := D 20 _ _ _ (by decide) rfl rfl rfl
        obtain ⟨_, e82, rfl⟩ := D 18 _ _ _ (by decide) rfl rfl rfl
        refine ⟨wanted_of rfl rfl e82 rfl, #[.agg #[.slice B5 (p.drop e).v.length m5, .slice B6 (p.drop e).e.length m6], .agg #[.slice A1 p.v.length k1, .slice A2 p.e.length k2]], by simp only [List.map_toArray, List.map_cons, List.map_nil, ev e83, ev e84] <;> rfl, ?_⟩
        exact (within_any _ _ (p.drop e) p _ (HD.out.below hB) (HP.out.below hB) HDF.out HPF.out).mono fun _ _ ⟨he, hb⟩ => ⟨_, by rw [he, HW5.out], hb, rfl⟩
      refine StepsP.cons ?_ ?_
      · refine step_val (fun a wx hB O D => ?_)
        obtain ⟨_, e82, rfl⟩ := D 18 _ _ _ (by decide) rfl rfl rfl
        obtain ⟨_, e85, rfl⟩ := D 21 _ _ _ (by decide) rfl rfl rfl
        clear O D
        exact ⟨rfl, by go_simp⟩
      refine StepsP.cons ?_ ?_
      · refine step_val (fun a wx hB O D => ?_)
        obtain ⟨_, e86, rfl⟩ := D 22 _ _ _ (by decide) rfl rfl rfl
        clear O D
        exact ⟨rfl, by unfold execOp; simp only [ev e86]; rfl⟩
      refine StepsP.cons ?_ ?_
      · refine step_val (fun a wx hB O D => ?_)
        have e11 : a.tmps[11]? = some (.pointer (some ⟨g11, 0, none⟩)) := O 11 (by rfl)
        obtain ⟨_, e87, rfl⟩ := D 23 _ _ _ (by decide) rfl rfl rfl
        clear O D
        exact ⟨wanted_of rfl rfl e87 rfl, by go_simp⟩
      refine StepsP.cons ?_ ?_
      · refine step_val (fun a wx hB O D => ?_)
        obtain ⟨_, e88, rfl⟩ := D 24 _ _ _ (by decide) rfl rfl rfl
        obtain ⟨_, e87, rfl⟩ := D 23 _ _ _ (by decide) rfl rfl rfl
        obtain ⟨c0, c1, _⟩ := X11.out.below hB
        clear O D
        exact ⟨wanted_of rfl rfl e87 rfl, by go_simp⟩
      refine StepsP.cons ?_ ?_
      · refine step_val (fun a wx hB O D => ?_)
        have e3 : a.tmps[3]? = some (.int .i64 e) := O 3 (by rfl)
        obtain ⟨_, e87, rfl⟩ := D 23 _ _ _ (by decide) rfl rfl rfl
        clear O D
        exact ⟨wanted_of rfl rfl e87 rfl, by unfold execOp; simp only [ev e3]; rfl⟩
      refine StepsP.cons ?_ ?_
      · refine step_call (enters_of Try.func23 (by kernel_rfl) rfl) rfl rfl (fun a wx hB O D => ?_)
        obtain ⟨_, e89, rfl⟩ := D 25 _ _ _ (by decide) rfl rfl rfl
        obtain ⟨_, e90, rfl⟩ := D 26 _ _ _ (by decide) rfl rfl rfl
        obtain ⟨_, e87, rfl⟩ := D 23 _ _ _ (by decide) rfl rfl rfl
        refine ⟨wanted_of rfl rfl e87 rfl, #[.slice B6 (p.drop e).e.length m6, .int .i64 e], by simp only [List.map_toArray, List.map_cons, List.map_nil, ev e89, ev e90] <;> rfl, ?_⟩
        exact (has_any _ (p.drop e).e e _ (HDE.out.below hB) HDU.out (by have := HDF.out.2; omega)).mono fun _ _ ⟨he, hb⟩ => ⟨_, by rw [he, HNI.out], hb, rfl⟩
      refine StepsP.cons ?_ ?_
      · refine step_val (fun a wx hB O D => ?_)
        obtain ⟨_, e91, rfl⟩ := D 27 _ _ _ (by decide) rfl rfl rfl
        obtain ⟨_, e87, rfl⟩ := D 23 _ _ _ (by decide) rfl rfl rfl
        clear O D
        exact ⟨wanted_of rfl rfl e87 rfl, by go_simp⟩
      refine StepsP.cons ?_ ?_
      · refine step_val (fun a wx hB O D => ?_)
        obtain ⟨_, e87, rfl⟩ := D 23 _ _ _ (by decide) rfl rfl rfl
        obtain ⟨_, e92, rfl⟩ := D 28 _ _ _ (by decide) rfl rfl rfl
        clear O D
        exact ⟨rfl, by go_simp⟩
      refine StepsP.cons ?_ ?_
      · refine step_val (fun a wx hB O D => ?_)
        obtain ⟨_, e93, rfl⟩ := D 29 _ _ _ (by decide) rfl rfl rfl
        clear O D
        exact ⟨rfl, by unfold execOp; simp only [ev e93]; rfl⟩
      refine StepsP.cons ?_ ?_
      · refine step_val (fun a wx hB O D => ?_)
        have e9 : a.tmps[9]? = some (.pointer (some ⟨g9, 0, none⟩)) := O 9 (by rfl)
        obtain ⟨_, e94, rfl⟩ := D 30 _ _ _ (by decide) rfl rfl rfl
        obtain ⟨c0, c1, _⟩ := X9.out.below hB
        clear O D
        exact ⟨wanted_of rfl rfl e94 rfl, by go_simp⟩
      refine StepsP.cons ?_ ?_
      · refine step_val (fun a wx hB O D => ?_)
        have e10 : a.tmps[10]? = some (.pointer (some ⟨g10, 0, none⟩)) := O 10 (by rfl)
        obtain ⟨_, e94, rfl⟩ := D 30 _ _ _ (by decide) rfl rfl rfl
        obtain ⟨c0, c1, _⟩ := X10.out.below hB
        clear O D
        exact ⟨wanted_of rfl rfl e94 rfl, by go_simp⟩
      refine StepsP.cons ?_ ?_
      · refine step_call (enters_of Try.func20 (by kernel_rfl) rfl) rfl rfl (fun a wx hB O D => ?_)
        obtain ⟨_, e95, rfl⟩ := D 31 _ _ _ (by decide) rfl rfl rfl
        obtain ⟨_, e96, rfl⟩ := D 32 _ _ _ (by decide) rfl rfl rfl
        obtain ⟨_, e94, rfl⟩ := D 30 _ _ _ (by decide) rfl rfl rfl
        refine ⟨wanted_of rfl rfl e94 rfl, #[.agg #[.slice B1 (p.and q).v.length m1, .slice B2 (p.and q).e.length m2], .agg #[.slice B3 (p.or q).v.length m3, .slice B4 (p.or q).e.length m4]], by simp only [List.map_toArray, List.map_cons, List.map_nil, ev e95, ev e96] <;> rfl, ?_⟩
        exact or_any _ _ (p.and q) (p.or q) _ (HA.out.below hB) (HO.out.below hB) HAF.out HOF.out
      refine StepsP.cons ?_ ?_
      · refine step_val (fun a wx hB O D => ?_)
        have e10 : a.tmps[10]? = some (.pointer (some ⟨g10, 0, none⟩)) := O 10 (by rfl)
        obtain ⟨_, e94, rfl⟩ := D 30 _ _ _ (by decide) rfl rfl rfl
        obtain ⟨c0, c1, _⟩ := X10.out.below hB
        clear O D
        exact ⟨wanted_of rfl rfl e94 rfl, by go_simp⟩
      refine StepsP.cons ?_ ?_
      · refine step_call (enters_of Try.func24 (by kernel_rfl) rfl) rfl rfl (fun a wx hB O D => ?_)
        obtain ⟨v97, e97, s97⟩ := D 33 _ _ _ (by decide) rfl rfl rfl
        obtain ⟨_, e98, rfl⟩ := D 34 _ _ _ (by decide) rfl rfl rfl
        obtain ⟨_, e94, rfl⟩ := D 30 _ _ _ (by decide) rfl rfl rfl
        refine ⟨wanted_of rfl rfl e94 rfl, #[v97, .agg #[.slice B3 (p.or q).v.length m3, .slice B4 (p.or q).e.length m4]], by simp only [List.map_toArray, List.map_cons, List.map_nil, ev e97, ev e98] <;> rfl, ?_⟩
        exact (same_any _ _ ((p.and q).or (p.or q)) (p.or q) _ s97 (HO.out.below hB) HOOF.out.1 HOOF.out.2 HOF.out.1 HOF.out.2).mono fun _ _ ⟨he, hb⟩ => ⟨_, by rw [he, HOA.out], hb, rfl⟩
      refine StepsP.cons ?_ ?_
      · refine step_val (fun a wx hB O D => ?_)
        obtain ⟨_, e94, rfl⟩ := D 30 _ _ _ (by decide) rfl rfl rfl
        obtain ⟨_, e99, rfl⟩ := D 35 _ _ _ (by decide) rfl rfl rfl
        clear O D
        exact ⟨rfl, by go_simp⟩
      refine StepsP.cons ?_ ?_
      · refine step_val (fun a wx hB O D => ?_)
        obtain ⟨_, e100, rfl⟩ := D 36 _ _ _ (by decide) rfl rfl rfl
        clear O D
        exact ⟨rfl, by unfold execOp; simp only [ev e100]; rfl⟩
      refine StepsP.cons ?_ ?_
      · refine step_val (fun a wx hB O D => ?_)
        have e5 : a.tmps[5]? = some (.pointer (some ⟨w.heap.size + 1, 0, none⟩)) := O 5 (by rfl)
        obtain ⟨_, e101, rfl⟩ := D 37 _ _ _ (by decide) rfl rfl rfl
        obtain ⟨c0, c1, _⟩ := X1.out.below hB
        clear O D
        exact ⟨wanted_of rfl rfl e101 rfl, by go_simp⟩
      refine StepsP.cons ?_ ?_
      · refine step_val (fun a wx hB O D => ?_)
        have e4 : a.tmps[4]? = some (.pointer (some ⟨w.heap.size, 0, none⟩)) := O 4 (by rfl)
        obtain ⟨_, e101, rfl⟩ := D 37 _ _ _ (by decide) rfl rfl rfl
        obtain ⟨c0, c1, _⟩ := X0.out.below hB
        clear O D
        exact ⟨wanted_of rfl rfl e101 rfl, by go_simp⟩
      refine StepsP.cons ?_ ?_
      · refine step_call (enters_of Try.func15 (by kernel_rfl) rfl) rfl rfl (fun a wx hB O D => ?_)
        obtain ⟨_, e103, rfl⟩ := D 39 _ _ _ (by decide) rfl rfl rfl
        obtain ⟨_, e101, rfl⟩ := D 37 _ _ _ (by decide) rfl rfl rfl
        refine ⟨wanted_of rfl rfl e101 rfl, #[.agg #[.int .i64 g.n, .slice Ae g.e.length ce]], by simp only [List.map_toArray, List.map_cons, List.map_nil, ev e103] <;> rfl, ?_⟩
        exact whole_any _ g _ (HG.out.below hB) (by omega)
      refine StepsP.cons ?_ ?_
      · refine step_call (enters_of Try.func22 (by kernel_rfl) rfl) rfl rfl (fun a wx hB O D => ?_)
        obtain ⟨_, e102, rfl⟩ := D 38 _ _ _ (by decide) rfl rfl rfl
        obtain ⟨v104, e104, s104⟩ := D 40 _ _ _ (by decide) rfl rfl rfl
        obtain ⟨_, e101, rfl⟩ := D 37 _ _ _ (by decide) rfl rfl rfl
        refine ⟨wanted_of rfl rfl e101 rfl, #[.agg #[.slice A1 p.v.length k1, .slice A2 p.e.length k2], v104], by simp only [List.map_toArray, List.map_cons, List.map_nil, ev e102, ev e104] <;> rfl, ?_⟩
        exact (within_any _ _ p g.whole _ (HP.out.below hB) s104 HPF.out HWF.out).mono fun _ _ ⟨he, hb⟩ => ⟨_, by rw [he, HWW.out], hb, rfl⟩
      refine StepsP.cons ?_ ?_
      · refine step_val (fun a wx hB O D => ?_)
        obtain ⟨_, e101, rfl⟩ := D 37 _ _ _ (by decide) rfl rfl rfl
        obtain ⟨_, e105, rfl⟩ := D 41 _ _ _ (by decide) rfl rfl rfl
        clear O D
        exact ⟨rfl, by go_simp⟩
      refine StepsP.cons ?_ ?_
      · refine step_val (fun a wx hB O D => ?_)
        obtain ⟨_, e106, rfl⟩ := D 42 _ _ _ (by decide) rfl rfl rfl
        clear O D
        exact ⟨rfl, by unfold execOp; simp only [ev e106]; rfl⟩
      exact StepsP.nil
    · intro wz hZ
      refine EndP.is ?_
      refine EndP.is ?_
      refine EndP.is ?_
      refine EndP.is ?_
      refine EndP.is ?_
      refine EndP.is ?_
      refine EndP.is ?_
      refine EndP.is ?_
      refine EndP.is ?_
      refine EndP.is ?_
      refine EndP.is ?_
      refine EndP.is ?_
      refine EndP.is ?_
      refine EndP.is ?_
      refine EndP.is ?_
      refine EndP.is ?_
      refine EndP.is ?_
      refine EndP.is ?_
      refine EndP.is ?_
      refine EndP.is ?_
      refine EndP.is ?_
      refine EndP.is ?_
      refine EndP.is ?_
      refine EndP.is ?_
      refine EndP.is ?_
      refine EndP.is ?_
      refine EndP.is ?_
      refine EndP.is ?_
      refine EndP.is ?_
      refine EndP.is ?_
      refine EndP.is ?_
      refine EndP.is ?_
      refine EndP.is ?_
      refine EndP.sp rfl (fun v97 s97 => ?_)
      refine EndP.is ?_
      refine EndP.is ?_
      refine EndP.is ?_
      refine EndP.is ?_
      refine EndP.is ?_
      refine EndP.is ?_
      refine EndP.sp rfl (fun v104 s104 => ?_)
      refine EndP.is ?_
      refine EndP.is ?_
      refine EndP.is ?_
      refine EndP.nil ?_
      have HZ := Lib.hid (trans2 HM.out hZ)
      refine wpList_nil ?_
      simp only [Act.put, List.setIfInBounds_toArray, List.set_cons_zero, List.set_cons_succ]
      go_wp2
      go_ret
      exact ⟨rfl, HZ.out⟩

end Go.Proofs.Ytpcjdkldonikfaa
