/-
  GraphLists: And, Or, Drop, Has, Same and Within of any lists that rise are the document's: the law's call answers true at every input.
-/
import Derived.Test.YtpcjdkldonikfaaGrY
import Derived.Test.YtpcjdkldonikfaaLawGP
namespace Go.Proofs.Ytpcjdkldonikfaa
open Go.RowKit

theorem dropL_succ (l : List Int) (x : Int) (k : Nat) (h : k < l.length) : dropL (l.take (k + 1)) x = dropL (l.take k) x ++ (if getI l k = x then [] else [getI l k]) := by
  unfold dropL
  rw [take_succ_getI l k h, List.filter_append]
  congr 1
  by_cases e : getI l k = x
  · rw [if_pos e, List.filter_cons, if_neg (by simp [e])]; rfl
  · rw [if_neg e, List.filter_cons, if_pos (by simp [e])]; rfl

theorem within_len {p q : Prt} (hp : p.up) (hq : q.up) : sameB (p.and q) p = (((p.and q).v.length : Int) == (p.v.length : Int) && ((p.and q).e.length : Int) == (p.e.length : Int)) := by
  have key : ∀ l m : List Int, Up l → Up m → (mrg 2 l m = l ↔ (mrg 2 l m).length = l.length) := fun l m hl hm => by
    refine ⟨fun h => by rw [h], fun h => ?_⟩
    rw [and_filter l m hl hm] at h ⊢
    exact List.filter_eq_self.2 (List.length_filter_eq_length_iff.1 h)
  rw [Bool.eq_iff_iff, sameB_iff, Bool.and_eq_true, beq_iff_eq, beq_iff_eq]
  constructor
  · intro h; rw [h]; exact ⟨rfl, rfl⟩
  · rintro ⟨h1, h2⟩
    cases p
    simp only [Prt.and] at h1 h2 ⊢
    rw [(key _ _ hp.1 hq.1).2 (by exact_mod_cast h1), (key _ _ hp.2 hq.2).2 (by exact_mod_cast h2)]

set_option maxRecDepth 100000 in
set_option maxHeartbeats 8000000 in
theorem graphLists_any (v : Value) (p : Prt) (u : Value) (q : Prt) (x : Int) (w : World) (h : Pt w v p) (h' : Pt w u q) :
    Calls Try.prog 6 #[v, u, .int .i64 x] w fun o w' => o = .returned (.bool true) ∧ Below w.heap.size w w' := by
  have HP := Lib.hid h
  have HQ := Lib.hid h'
  obtain ⟨vv, vp, rfl, h2, h3⟩ := h
  obtain ⟨A1, k1, rfl⟩ := ints_form h2
  obtain ⟨A2, k2, rfl⟩ := ints_form h3
  obtain ⟨vv, vp, rfl, h4, h5⟩ := h'
  obtain ⟨A3, k3, rfl⟩ := ints_form h4
  obtain ⟨A4, k4, rfl⟩ := ints_form h5
  obtain ⟨b1, b2, hm⟩ := two_boxes w (.slice A1 p.v.length k1) (.slice A2 p.e.length k2) (.slice A3 q.v.length k3) (.slice A4 q.e.length k4) 29 29
  have X0 := Lib.hid b1
  have X1 := Lib.hid b2
  have HM := Lib.hid hm
  have IPv := Lib.hid h2
  have IPe := Lib.hid h3
  have IQv := Lib.hid h4
  have IQe := Lib.hid h5
  replace HP := Lib.hid (HP.out.below hm)
  replace HQ := Lib.hid (HQ.out.below hm)
  replace IPv := Lib.hid (IPv.out.below hm)
  replace IPe := Lib.hid (IPe.out.below hm)
  replace IQv := Lib.hid (IQv.out.below hm)
  replace IQe := Lib.hid (IQe.out.below hm)
  clear b1 b2 hm h2 h3 h4 h5
  go_enter Try.func6, Try.ntmps6
  go_wp2_with fail
  generalize (w.alloc (.cells #[.slice A1 p.v.length k1, .slice A2 p.e.length k2] 29)).alloc (.cells #[.slice A3 q.v.length k3, .slice A4 q.e.length k4] 29) = w1 at *
  refine (awake_any w1).mono ?_
  rintro o w2 ⟨rfl, hB⟩
  replace HP := Lib.hid (HP.out.below hB)
  replace HQ := Lib.hid (HQ.out.below hB)
  replace IPv := Lib.hid (IPv.out.below hB)
  replace IPe := Lib.hid (IPe.out.below hB)
  replace IQv := Lib.hid (IQv.out.below hB)
  replace IQe := Lib.hid (IQe.out.below hB)
  replace X0 := Lib.hid (X0.out.below hB)
  replace X1 := Lib.hid (X1.out.below hB)
  replace HM := Lib.hid (trans2 HM.out hB)
  clear hB
  have c0 := X0.out.c0
  have c1 := X0.out.c1
  have d0 := X1.out.c0
  have d1 := X1.out.c1
  go_wp2_with fail
  refine (small_any _ _ ⟨0, []⟩ p w2 ⟨_, rfl, Edges.nil⟩ HP.out).mono ?_
  rintro o w3 ⟨rfl, hB⟩
  replace HP := Lib.hid (HP.out.below hB)
  replace HQ := Lib.hid (HQ.out.below hB)
  replace IPv := Lib.hid (IPv.out.below hB)
  replace IPe := Lib.hid (IPe.out.below hB)
  replace IQv := Lib.hid (IQv.out.below hB)
  replace IQe := Lib.hid (IQe.out.below hB)
  replace X0 := Lib.hid (X0.out.below hB)
  replace X1 := Lib.hid (X1.out.below hB)
  replace HM := Lib.hid (trans2 HM.out hB)
  clear hB c0 c1 d0 d1
  by_cases hs : smallB ⟨0, []⟩ p = true
  case neg =>
    have e1 : smallI ⟨0, []⟩ p = 0 := if_neg hs
    rw [e1]
    clear e1 hs
    go_wp2_with fail
    refine (awake_any w3).mono ?_
    rintro o wq ⟨rfl, hB4⟩
    go_wp2
    go_ret
    exact ⟨rfl, trans2 HM.out hB4⟩
  have e1 : smallI ⟨0, []⟩ p = 1 := if_pos hs
  obtain ⟨_, hlv, hle, _⟩ := of_decide_eq_true hs
  have HPF := Lib.hid (show p.few from ⟨by omega, by omega⟩)
  rw [e1]
  clear e1 hs
  have c0 := X0.out.c0
  have c1 := X0.out.c1
  have d0 := X1.out.c0
  have d1 := X1.out.c1
  go_wp2_with fail
  refine (small_any _ _ ⟨0, []⟩ q w3 ⟨_, rfl, Edges.nil⟩ HQ.out).mono ?_
  rintro o w4 ⟨rfl, hB⟩
  replace HP := Lib.hid (HP.out.below hB)
  replace HQ := Lib.hid (HQ.out.below hB)
  replace IPv := Lib.hid (IPv.out.below hB)
  replace IPe := Lib.hid (IPe.out.below hB)
  replace IQv := Lib.hid (IQv.out.below hB)
  replace IQe := Lib.hid (IQe.out.below hB)
  replace X0 := Lib.hid (X0.out.below hB)
  replace X1 := Lib.hid (X1.out.below hB)
  replace HM := Lib.hid (trans2 HM.out hB)
  clear hB c0 c1 d0 d1
  by_cases hs : smallB ⟨0, []⟩ q = true
  case neg =>
    have e1 : smallI ⟨0, []⟩ q = 0 := if_neg hs
    rw [e1]
    clear e1 hs
    go_wp2_with fail
    refine (awake_any w4).mono ?_
    rintro o wq ⟨rfl, hB4⟩
    go_wp2
    go_ret
    exact ⟨rfl, trans2 HM.out hB4⟩
  have e1 : smallI ⟨0, []⟩ q = 1 := if_pos hs
  obtain ⟨_, hlv2, hle2, _⟩ := of_decide_eq_true hs
  have HQF := Lib.hid (show q.few from ⟨by omega, by omega⟩)
  rw [e1]
  clear e1 hs
  have c0 := X0.out.c0
  have c1 := X0.out.c1
  have d0 := X1.out.c0
  have d1 := X1.out.c1
  go_wp2_with fail
  refine (rrises_any _ p.v 1099511627776 _ IPv.out HPF.out.1).mono ?_
  rintro o wr ⟨rfl, n, rfl⟩
  have hB := below_drewN' w4 n
  replace HP := Lib.hid (HP.out.below hB)
  replace HQ := Lib.hid (HQ.out.below hB)
  replace IPv := Lib.hid (IPv.out.below hB)
  replace IPe := Lib.hid (IPe.out.below hB)
  replace IQv := Lib.hid (IQv.out.below hB)
  replace IQe := Lib.hid (IQe.out.below hB)
  replace X0 := Lib.hid (X0.out.below hB)
  replace X1 := Lib.hid (X1.out.below hB)
  replace HM := Lib.hid (trans2 HM.out hB)
  clear hB c0 c1 d0 d1
  by_cases hr : riseB p.v 1099511627776 = true
  case neg =>
    rw [Bool.eq_false_iff.2 hr]
    go_wp2
    go_ret
    exact ⟨rfl, HM.out⟩
  rw [hr]
  have U0 := Lib.hid (Rises.up (of_decide_eq_true hr))
  clear hr
  generalize w4.drewN n = wn0 at *
  have c0 := X0.out.c0
  have c1 := X0.out.c1
  have d0 := X1.out.c0
  have d1 := X1.out.c1
  go_wp2_with fail
  refine (rrises_any _ p.e 1099511627776 _ IPe.out HPF.out.2).mono ?_
  rintro o wr ⟨rfl, n, rfl⟩
  have hB := below_drewN' wn0 n
  replace HP := Lib.hid (HP.out.below hB)
  replace HQ := Lib.hid (HQ.out.below hB)
  replace IPv := Lib.hid (IPv.out.below hB)
  replace IPe := Lib.hid (IPe.out.below hB)
  replace IQv := Lib.hid (IQv.out.below hB)
  replace IQe := Lib.hid (IQe.out.below hB)
  replace X0 := Lib.hid (X0.out.below hB)
  replace X1 := Lib.hid (X1.out.below hB)
  replace HM := Lib.hid (trans2 HM.out hB)
  clear hB c0 c1 d0 d1
  by_cases hr : riseB p.e 1099511627776 = true
  case neg =>
    rw [Bool.eq_false_iff.2 hr]
    go_wp2
    go_ret
    exact ⟨rfl, HM.out⟩
  rw [hr]
  have U1 := Lib.hid (Rises.up (of_decide_eq_true hr))
  clear hr
  generalize wn0.drewN n = wn1 at *
  have c0 := X0.out.c0
  have c1 := X0.out.c1
  have d0 := X1.out.c0
  have d1 := X1.out.c1
  go_wp2_with fail
  refine (rrises_any _ q.v 1099511627776 _ IQv.out HQF.out.1).mono ?_
  rintro o wr ⟨rfl, n, rfl⟩
  have hB := below_drewN' wn1 n
  replace HP := Lib.hid (HP.out.below hB)
  replace HQ := Lib.hid (HQ.out.below hB)
  replace IPv := Lib.hid (IPv.out.below hB)
  replace IPe := Lib.hid (IPe.out.below hB)
  replace IQv := Lib.hid (IQv.out.below hB)
  replace IQe := Lib.hid (IQe.out.below hB)
  replace X0 := Lib.hid (X0.out.below hB)
  replace X1 := Lib.hid (X1.out.below hB)
  replace HM := Lib.hid (trans2 HM.out hB)
  clear hB c0 c1 d0 d1
  by_cases hr : riseB q.v 1099511627776 = true
  case neg =>
    rw [Bool.eq_false_iff.2 hr]
    go_wp2
    go_ret
    exact ⟨rfl, HM.out⟩
  rw [hr]
  have U2 := Lib.hid (Rises.up (of_decide_eq_true hr))
  clear hr
  generalize wn1.drewN n = wn2 at *
  have c0 := X0.out.c0
  have c1 := X0.out.c1
  have d0 := X1.out.c0
  have d1 := X1.out.c1
  go_wp2_with fail
  refine (rrises_any _ q.e 1099511627776 _ IQe.out HQF.out.2).mono ?_
  rintro o wr ⟨rfl, n, rfl⟩
  have hB := below_drewN' wn2 n
  replace HP := Lib.hid (HP.out.below hB)
  replace HQ := Lib.hid (HQ.out.below hB)
  replace IPv := Lib.hid (IPv.out.below hB)
  replace IPe := Lib.hid (IPe.out.below hB)
  replace IQv := Lib.hid (IQv.out.below hB)
  replace IQe := Lib.hid (IQe.out.below hB)
  replace X0 := Lib.hid (X0.out.below hB)
  replace X1 := Lib.hid (X1.out.below hB)
  replace HM := Lib.hid (trans2 HM.out hB)
  clear hB c0 c1 d0 d1
  by_cases hr : riseB q.e 1099511627776 = true
  case neg =>
    rw [Bool.eq_false_iff.2 hr]
    go_wp2
    go_ret
    exact ⟨rfl, HM.out⟩
  rw [hr]
  have U3 := Lib.hid (Rises.up (of_decide_eq_true hr))
  clear hr
  generalize wn2.drewN n = wn3 at *
  have HUP := Lib.hid (show p.up from ⟨U0.out, U1.out⟩)
  have HUQ := Lib.hid (show q.up from ⟨U2.out, U3.out⟩)
  clear U0 U1 U2 U3
  go_wp2_with fail
  refine wp_region_plan [is (.agg #[.slice A1 p.v.length k1, .slice A2 p.e.length k2]), is (.agg #[.slice A3 q.v.length k3, .slice A4 q.e.length k4]), spPair wn3.heap.size (p.and q), is (.agg #[.slice A1 p.v.length k1, .slice A2 p.e.length k2]), is (.agg #[.slice A3 q.v.length k3, .slice A4 q.e.length k4]), spPair wn3.heap.size (p.or q), spBox (.slice none 0 0) (.slice none 0 0), spBox (.slice none 0 0) (.slice none 0 0)] (by kernel_rfl) (by kernel_rfl) ?_ ?_
  · skip
    refine StepsP.cons ?_ ?_
    · refine step_val (fun a wx hB O D => ?_)
      have e3 : a.tmps[3]? = some (.pointer (some ⟨w.heap.size, 0, none⟩)) := O 3 (by rfl)
      obtain ⟨c0, c1, _⟩ := X0.out.below hB
      clear O D
      exact ⟨rfl, by go_simp⟩
    refine StepsP.cons ?_ ?_
    · refine step_val (fun a wx hB O D => ?_)
      have e4 : a.tmps[4]? = some (.pointer (some ⟨w.heap.size + 1, 0, none⟩)) := O 4 (by rfl)
      obtain ⟨c0, c1, _⟩ := X1.out.below hB
      clear O D
      exact ⟨rfl, by go_simp⟩
    refine StepsP.cons ?_ ?_
    · refine step_call (enters_of Try.func19 (by kernel_rfl) rfl) rfl rfl (fun a wx hB O D => ?_)
      obtain ⟨_, e49, rfl⟩ := D 0 _ _ _ (by decide) rfl rfl rfl
      obtain ⟨_, e50, rfl⟩ := D 1 _ _ _ (by decide) rfl rfl rfl
      refine ⟨rfl, #[.agg #[.slice A1 p.v.length k1, .slice A2 p.e.length k2], .agg #[.slice A3 q.v.length k3, .slice A4 q.e.length k4]], by simp only [List.map_toArray, List.map_cons, List.map_nil, ev e49, ev e50] <;> rfl, ?_⟩
      exact (and_own _ _ p q _ (HP.out.below hB) (HQ.out.below hB) HPF.out HQF.out).mono fun _ _ ⟨r, he, hb, hr⟩ => ⟨r, he, hb, pair_le hr hB.size⟩
    refine StepsP.cons ?_ ?_
    · refine step_val (fun a wx hB O D => ?_)
      have e3 : a.tmps[3]? = some (.pointer (some ⟨w.heap.size, 0, none⟩)) := O 3 (by rfl)
      obtain ⟨c0, c1, _⟩ := X0.out.below hB
      clear O D
      exact ⟨rfl, by go_simp⟩
    refine StepsP.cons ?_ ?_
    · refine step_val (fun a wx hB O D => ?_)
      have e4 : a.tmps[4]? = some (.pointer (some ⟨w.heap.size + 1, 0, none⟩)) := O 4 (by rfl)
      obtain ⟨c0, c1, _⟩ := X1.out.below hB
      clear O D
      exact ⟨rfl, by go_simp⟩
    refine StepsP.cons ?_ ?_
    · refine step_call (enters_of Try.func20 (by kernel_rfl) rfl) rfl rfl (fun a wx hB O D => ?_)
      obtain ⟨_, e52, rfl⟩ := D 3 _ _ _ (by decide) rfl rfl rfl
      obtain ⟨_, e53, rfl⟩ := D 4 _ _ _ (by decide) rfl rfl rfl
      refine ⟨rfl, #[.agg #[.slice A1 p.v.length k1, .slice A2 p.e.length k2], .agg #[.slice A3 q.v.length k3, .slice A4 q.e.length k4]], by simp only [List.map_toArray, List.map_cons, List.map_nil, ev e52, ev e53] <;> rfl, ?_⟩
      exact (or_own _ _ p q _ (HP.out.below hB) (HQ.out.below hB) HPF.out HQF.out).mono fun _ _ ⟨r, he, hb, hr⟩ => ⟨r, he, hb, pair_le hr hB.size⟩
    refine StepsP.cons ?_ ?_
    · exact step_alloc rfl rfl zeroPart spBox_new
    refine StepsP.cons ?_ ?_
    · exact step_alloc rfl rfl zeroPart spBox_new
    exact StepsP.nil
  · intro wz hZ
    refine EndP.is ?_
    refine EndP.is ?_
    refine EndP.sp rfl (fun v51 s51 => ?_)
    refine EndP.is ?_
    refine EndP.is ?_
    refine EndP.sp rfl (fun v54 s54 => ?_)
    refine EndP.new rfl (fun g7 s7 l7 n7 => ?_)
    refine EndP.new rfl (fun g8 s8 l8 n8 => ?_)
    refine EndP.nil ?_
    have p7 := spBox_at s7
    have p8 := spBox_at s8
    have n1 : g8 ≠ g7 := fun h => n8 _ (List.mem_singleton.2 rfl) (by rw [h])
    obtain ⟨a1, a2, rfl, ra1, ra2⟩ := s51
    obtain ⟨B1, m1, rfl⟩ := ints_form ra1.ints
    obtain ⟨B2, m2, rfl⟩ := ints_form ra2.ints
    obtain ⟨a3, a4, rfl, ra3, ra4⟩ := s54
    obtain ⟨B3, m3, rfl⟩ := ints_form ra3.ints
    obtain ⟨B4, m4, rfl⟩ := ints_form ra4.ints
    have fa : (spPair wn3.heap.size (p.and q)).p wz (.agg #[.slice B1 (p.and q).v.length m1, .slice B2 (p.and q).e.length m2]) := ⟨_, _, rfl, ra1, ra2⟩
    have fo : (spPair wn3.heap.size (p.or q)).p wz (.agg #[.slice B3 (p.or q).v.length m3, .slice B4 (p.or q).e.length m4]) := ⟨_, _, rfl, ra3, ra4⟩
    have HZB := Lib.hid (put_below (put_below hZ l7.1 (.slice B1 (p.and q).v.length m1) (.slice B2 (p.and q).e.length m2)) l8.1 (.slice B3 (p.or q).v.length m3) (.slice B4 (p.or q).e.length m4))
    have q7 := p7.put (.slice B1 (p.and q).v.length m1) (.slice B2 (p.and q).e.length m2)
    have q8 := p8.other n1 (.slice B1 (p.and q).v.length m1) (.slice B2 (p.and q).e.length m2)
    have fa1 := pair_put fa p7 (.slice B1 (p.and q).v.length m1) (.slice B2 (p.and q).e.length m2)
    have fo1 := pair_put fo p7 (.slice B1 (p.and q).v.length m1) (.slice B2 (p.and q).e.length m2)
    have X7 := Lib.hid (q7.other n1.symm (.slice B3 (p.or q).v.length m3) (.slice B4 (p.or q).e.length m4)).box
    have X8 := Lib.hid (q8.put (.slice B3 (p.or q).v.length m3) (.slice B4 (p.or q).e.length m4)).box
    have HA := Lib.hid (pair_pt (pair_put fa1 q8 (.slice B3 (p.or q).v.length m3) (.slice B4 (p.or q).e.length m4)))
    have HO := Lib.hid (pair_pt (pair_put fo1 q8 (.slice B3 (p.or q).v.length m3) (.slice B4 (p.or q).e.length m4)))
    replace HP := Lib.hid (HP.out.below HZB.out)
    replace HQ := Lib.hid (HQ.out.below HZB.out)
    replace IPv := Lib.hid (IPv.out.below HZB.out)
    replace IPe := Lib.hid (IPe.out.below HZB.out)
    replace IQv := Lib.hid (IQv.out.below HZB.out)
    replace IQe := Lib.hid (IQe.out.below HZB.out)
    replace X0 := Lib.hid (X0.out.below HZB.out)
    replace X1 := Lib.hid (X1.out.below HZB.out)
    replace HM := Lib.hid (trans2 HM.out HZB.out)
    have IAv := Lib.hid (pt_fst HA.out)
    have IAe := Lib.hid (pt_snd HA.out)
    have IOv := Lib.hid (pt_fst HO.out)
    have IOe := Lib.hid (pt_snd HO.out)
    have HAF := Lib.hid (and_few HPF.out q)
    have HOF := Lib.hid (or_few (p := p) (q := q) ⟨by omega, by omega⟩ ⟨by omega, by omega⟩)
    have HDF := Lib.hid (drop_few HPF.out x)
    have HE1 := Lib.hid (show decide ((p.and q).v = andL p.v q.v) = true from decide_eq_true (and_filter _ _ HUP.out.1 HUQ.out.1))
    have HE2 := Lib.hid (show decide ((p.and q).e = andL p.e q.e) = true from decide_eq_true (and_filter _ _ HUP.out.2 HUQ.out.2))
    have HE3 := Lib.hid (show decide ((p.or q).v = mrg 1 p.v q.v) = true from decide_eq_true rfl)
    have HE4 := Lib.hid (show decide ((p.or q).e = mrg 1 p.e q.e) = true from decide_eq_true rfl)
    simp only [Act.put, List.setIfInBounds_toArray, List.set_cons_zero, List.set_cons_succ]
    refine wpList_store_part rfl rfl (k := 7) (j := 51) rfl rfl rfl p7 ?_
    refine wpList_store_part rfl rfl (k := 8) (j := 54) rfl rfl rfl q8 ?_
    refine wpList_nil ?_
    clear hZ p7 p8 q7 q8 n1 n7 n8 l7 l8 s7 s8 ra1 ra2 ra3 ra4 fa fo fa1 fo1 HZB
    generalize putPart (putPart wz g7 (.slice B1 (p.and q).v.length m1) (.slice B2 (p.and q).e.length m2)) g8 (.slice B3 (p.or q).v.length m3) (.slice B4 (p.or q).e.length m4) = w7 at *
    go_wp2_with fail
    refine wp_region_plan [is (.pointer (some ⟨g7, 0, none⟩)), is (.slice B1 (p.and q).v.length m1), is (.pointer (some ⟨w.heap.size, 0, none⟩)), is (.slice A1 p.v.length k1), is (.pointer (some ⟨w.heap.size + 1, 0, none⟩)), is (.slice A3 q.v.length k3), spInts (andL p.v q.v), is (.bool true), is (.bool false), is (.bool false), is (.pointer (some ⟨g7, 1, none⟩)), is (.slice B2 (p.and q).e.length m2), is (.pointer (some ⟨w.heap.size, 1, none⟩)), is (.slice A2 p.e.length k2), is (.pointer (some ⟨w.heap.size + 1, 1, none⟩)), is (.slice A4 q.e.length k4), spInts (andL p.e q.e), is (.bool true), is (.bool false), is (.bool false), is (.bool false), is (.pointer (some ⟨g8, 0, none⟩)), is (.slice B3 (p.or q).v.length m3), is (.pointer (some ⟨w.heap.size, 0, none⟩)), is (.slice A1 p.v.length k1), is (.pointer (some ⟨w.heap.size + 1, 0, none⟩)), is (.slice A3 q.v.length k3), spInts (mrg 1 p.v q.v), is (.bool true), is (.bool false), is (.bool false), is (.bool false), is (.pointer (some ⟨g8, 1, none⟩)), is (.slice B4 (p.or q).e.length m4), is (.pointer (some ⟨w.heap.size, 1, none⟩)), is (.slice A2 p.e.length k2), is (.pointer (some ⟨w.heap.size + 1, 1, none⟩)), is (.slice A4 q.e.length k4), spInts (mrg 1 p.e q.e), is (.bool true), is (.bool false), is (.bool false)] (by kernel_rfl) (by kernel_rfl) ?_ ?_
    · skip
      refine StepsP.cons ?_ ?_
      · refine step_val (fun a wx hB O D => ?_)
        have e7 : a.tmps[7]? = some (.pointer (some ⟨g7, 0, none⟩)) := O 7 (by rfl)
        clear O D
        exact ⟨rfl, by go_simp⟩
      refine StepsP.cons ?_ ?_
      · refine step_val (fun a wx hB O D => ?_)
        obtain ⟨_, e55, rfl⟩ := D 0 _ _ _ (by decide) rfl rfl rfl
        obtain ⟨c0, c1, _⟩ := X7.out.below hB
        clear O D
        exact ⟨rfl, by go_simp⟩
      refine StepsP.cons ?_ ?_
      · refine step_val (fun a wx hB O D => ?_)
        have e3 : a.tmps[3]? = some (.pointer (some ⟨w.heap.size, 0, none⟩)) := O 3 (by rfl)
        clear O D
        exact ⟨rfl, by go_simp⟩
      refine StepsP.cons ?_ ?_
      · refine step_val (fun a wx hB O D => ?_)
        obtain ⟨_, e57, rfl⟩ := D 2 _ _ _ (by decide) rfl rfl rfl
        obtain ⟨c0, c1, _⟩ := X0.out.below hB
        clear O D
        exact ⟨rfl, by go_simp⟩
      refine StepsP.cons ?_ ?_
      · refine step_val (fun a wx hB O D => ?_)
        have e4 : a.tmps[4]? = some (.pointer (some ⟨w.heap.size + 1, 0, none⟩)) := O 4 (by rfl)
        clear O D
        exact ⟨rfl, by go_simp⟩
      refine StepsP.cons ?_ ?_
      · refine step_val (fun a wx hB O D => ?_)
        obtain ⟨_, e59, rfl⟩ := D 4 _ _ _ (by decide) rfl rfl rfl
        obtain ⟨c0, c1, _⟩ := X1.out.below hB
        clear O D
        exact ⟨rfl, by go_simp⟩
      refine StepsP.cons ?_ ?_
      · refine step_call (enters_of Try.func33 (by kernel_rfl) rfl) rfl rfl (fun a wx hB O D => ?_)
        obtain ⟨_, e58, rfl⟩ := D 3 _ _ _ (by decide) rfl rfl rfl
        obtain ⟨_, e60, rfl⟩ := D 5 _ _ _ (by decide) rfl rfl rfl
        refine ⟨rfl, #[.slice A1 p.v.length k1, .slice A3 q.v.length k3], by simp only [List.map_toArray, List.map_cons, List.map_nil, ev e58, ev e60] <;> rfl, ?_⟩
        exact (rand_any _ _ p.v q.v _ (IPv.out.below hB) (IQv.out.below hB) HPF.out.1 HQF.out.1).mono fun _ _ ⟨r, he, hb, hr⟩ => ⟨r, he, hb, Row.ints hr⟩
      refine StepsP.cons ?_ ?_
      · refine step_call (enters_of Try.func31 (by kernel_rfl) rfl) rfl rfl (fun a wx hB O D => ?_)
        obtain ⟨_, e56, rfl⟩ := D 1 _ _ _ (by decide) rfl rfl rfl
        obtain ⟨v61, e61, s61⟩ := D 6 _ _ _ (by decide) rfl rfl rfl
        refine ⟨rfl, #[.slice B1 (p.and q).v.length m1, v61], by simp only [List.map_toArray, List.map_cons, List.map_nil, ev e56, ev e61] <;> rfl, ?_⟩
        exact (requal_any _ ((p.and q).v) _ (andL p.v q.v) _ (IAv.out.below hB) s61 (by have := HAF.out; have := HOF.out; unfold Prt.few at *; omega)).mono fun _ _ ⟨he, n, hw⟩ => ⟨_, by rw [he, HE1.out], by rw [hw]; exact below_drewN' _ _, rfl⟩
      refine StepsP.cons ?_ ?_
      · refine step_val (fun a wx hB O D => ?_)
        obtain ⟨_, e62, rfl⟩ := D 7 _ _ _ (by decide) rfl rfl rfl
        clear O D
        exact ⟨rfl, by go_simp⟩
      refine StepsP.cons ?_ ?_
      · refine step_val (fun a wx hB O D => ?_)
        obtain ⟨_, e63, rfl⟩ := D 8 _ _ _ (by decide) rfl rfl rfl
        clear O D
        exact ⟨rfl, by unfold execOp; simp only [ev e63]; rfl⟩
      refine StepsP.cons ?_ ?_
      · refine step_val (fun a wx hB O D => ?_)
        have e7 : a.tmps[7]? = some (.pointer (some ⟨g7, 0, none⟩)) := O 7 (by rfl)
        obtain ⟨_, e64, rfl⟩ := D 9 _ _ _ (by decide) rfl rfl rfl
        clear O D
        exact ⟨wanted_of rfl rfl e64 rfl, by go_simp⟩
      refine StepsP.cons ?_ ?_
      · refine step_val (fun a wx hB O D => ?_)
        obtain ⟨_, e65, rfl⟩ := D 10 _ _ _ (by decide) rfl rfl rfl
        obtain ⟨_, e64, rfl⟩ := D 9 _ _ _ (by decide) rfl rfl rfl
        obtain ⟨c0, c1, _⟩ := X7.out.below hB
        clear O D
        exact ⟨wanted_of rfl rfl e64 rfl, by go_simp⟩
      refine StepsP.cons ?_ ?_
      · refine step_val (fun a wx hB O D => ?_)
        have e3 : a.tmps[3]? = some (.pointer (some ⟨w.heap.size, 0, none⟩)) := O 3 (by rfl)
        obtain ⟨_, e64, rfl⟩ := D 9 _ _ _ (by decide) rfl rfl rfl
        clear O D
        exact ⟨wanted_of rfl rfl e64 rfl, by go_simp⟩
      refine StepsP.cons ?_ ?_
      · refine step_val (fun a wx hB O D => ?_)
        obtain ⟨_, e67, rfl⟩ := D 12 _ _ _ (by decide) rfl rfl rfl
        obtain ⟨_, e64, rfl⟩ := D 9 _ _ _ (by decide) rfl rfl rfl
        obtain ⟨c0, c1, _⟩ := X0.out.below hB
        clear O D
        exact ⟨wanted_of rfl rfl e64 rfl, by go_simp⟩
      refine StepsP.cons ?_ ?_
      · refine step_val (fun a wx hB O D => ?_)
        have e4 : a.tmps[4]? = some (.pointer (some ⟨w.heap.size + 1, 0, none⟩)) := O 4 (by rfl)
        obtain ⟨_, e64, rfl⟩ := D 9 _ _ _ (by decide) rfl rfl rfl
        clear O D
        exact ⟨wanted_of rfl rfl e64 rfl, by go_simp⟩
      refine StepsP.cons ?_ ?_
      · refine step_val (fun a wx hB O D => ?_)
        obtain ⟨_, e69, rfl⟩ := D 14 _ _ _ (by decide) rfl rfl rfl
        obtain ⟨_, e64, rfl⟩ := D 9 _ _ _ (by decide) rfl rfl rfl
        obtain ⟨c0, c1, _⟩ := X1.out.below hB
        clear O D
        exact ⟨wanted_of rfl rfl e64 rfl, by go_simp⟩
      refine StepsP.cons ?_ ?_
      · refine step_call (enters_of Try.func33 (by kernel_rfl) rfl) rfl rfl (fun a wx hB O D => ?_)
        obtain ⟨_, e68, rfl⟩ := D 13 _ _ _ (by decide) rfl rfl rfl
        obtain ⟨_, e70, rfl⟩ := D 15 _ _ _ (by decide) rfl rfl rfl
        obtain ⟨_, e64, rfl⟩ := D 9 _ _ _ (by decide) rfl rfl rfl
        refine ⟨wanted_of rfl rfl e64 rfl, #[.slice A2 p.e.length k2, .slice A4 q.e.length k4], by simp only [List.map_toArray, List.map_cons, List.map_nil, ev e68, ev e70] <;> rfl, ?_⟩
        exact (rand_any _ _ p.e q.e _ (IPe.out.below hB) (IQe.out.below hB) HPF.out.2 HQF.out.2).mono fun _ _ ⟨r, he, hb, hr⟩ => ⟨r, he, hb, Row.ints hr⟩
      refine StepsP.cons ?_ ?_
      · refine step_call (enters_of Try.func31 (by kernel_rfl) rfl) rfl rfl (fun a wx hB O D => ?_)
        obtain ⟨_, e66, rfl⟩ := D 11 _ _ _ (by decide) rfl rfl rfl
        obtain ⟨v71, e71, s71⟩ := D 16 _ _ _ (by decide) rfl rfl rfl
        obtain ⟨_, e64, rfl⟩ := D 9 _ _ _ (by decide) rfl rfl rfl
        refine ⟨wanted_of rfl rfl e64 rfl, #[.slice B2 (p.and q).e.length m2, v71], by simp only [List.map_toArray, List.map_cons, List.map_nil, ev e66, ev e71] <;> rfl, ?_⟩
        exact (requal_any _ ((p.and q).e) _ (andL p.e q.e) _ (IAe.out.below hB) s71 (by have := HAF.out; have := HOF.out; unfold Prt.few at *; omega)).mono fun _ _ ⟨he, n, hw⟩ => ⟨_, by rw [he, HE2.out], by rw [hw]; exact below_drewN' _ _, rfl⟩
      refine StepsP.cons ?_ ?_
      · refine step_val (fun a wx hB O D => ?_)
        obtain ⟨_, e72, rfl⟩ := D 17 _ _ _ (by decide) rfl rfl rfl
        obtain ⟨_, e64, rfl⟩ := D 9 _ _ _ (by decide) rfl rfl rfl
        clear O D
        exact ⟨wanted_of rfl rfl e64 rfl, by go_simp⟩
      refine StepsP.cons ?_ ?_
      · refine step_val (fun a wx hB O D => ?_)
        obtain ⟨_, e64, rfl⟩ := D 9 _ _ _ (by decide) rfl rfl rfl
        obtain ⟨_, e73, rfl⟩ := D 18 _ _ _ (by decide) rfl rfl rfl
        clear O D
        exact ⟨rfl, by go_simp⟩
      refine StepsP.cons ?_ ?_
      · refine step_val (fun a wx hB O D => ?_)
        obtain ⟨_, e74, rfl⟩ := D 19 _ _ _ (by decide) rfl rfl rfl
        clear O D
        exact ⟨rfl, by unfold execOp; simp only [ev e74]; rfl⟩
      refine StepsP.cons ?_ ?_
      · refine step_val (fun a wx hB O D => ?_)
        have e8 : a.tmps[8]? = some (.pointer (some ⟨g8, 0, none⟩)) := O 8 (by rfl)
        obtain ⟨_, e75, rfl⟩ := D 20 _ _ _ (by decide) rfl rfl rfl
        clear O D
        exact ⟨wanted_of rfl rfl e75 rfl, by go_simp⟩
      refine StepsP.cons ?_ ?_
      · refine step_val (fun a wx hB O D => ?_)
        obtain ⟨_, e76, rfl⟩ := D 21 _ _ _ (by decide) rfl rfl rfl
        obtain ⟨_, e75, rfl⟩ := D 20 _ _ _ (by decide) rfl rfl rfl
        obtain ⟨c0, c1, _⟩ := X8.out.below hB
        clear O D
        exact ⟨wanted_of rfl rfl e75 rfl, by go_simp⟩
      refine StepsP.cons ?_ ?_
      · refine step_val (fun a wx hB O D => ?_)
        have e3 : a.tmps[3]? = some (.pointer (some ⟨w.heap.size, 0, none⟩)) := O 3 (by rfl)
        obtain ⟨_, e75, rfl⟩ := D 20 _ _ _ (by decide) rfl rfl rfl
        clear O D
        exact ⟨wanted_of rfl rfl e75 rfl, by go_simp⟩
      refine StepsP.cons ?_ ?_
      · refine step_val (fun a wx hB O D => ?_)
        obtain ⟨_, e78, rfl⟩ := D 23 _ _ _ (by decide) rfl rfl rfl
        obtain ⟨_, e75, rfl⟩ := D 20 _ _ _ (by decide) rfl rfl rfl
        obtain ⟨c0, c1, _⟩ := X0.out.below hB
        clear O D
        exact ⟨wanted_of rfl rfl e75 rfl, by go_simp⟩
      refine StepsP.cons ?_ ?_
      · refine step_val (fun a wx hB O D => ?_)
        have e4 : a.tmps[4]? = some (.pointer (some ⟨w.heap.size + 1, 0, none⟩)) := O 4 (by rfl)
        obtain ⟨_, e75, rfl⟩ := D 20 _ _ _ (by decide) rfl rfl rfl
        clear O D
        exact ⟨wanted_of rfl rfl e75 rfl, by go_simp⟩
      refine StepsP.cons ?_ ?_
      · refine step_val (fun a wx hB O D => ?_)
        obtain ⟨_, e80, rfl⟩ := D 25 _ _ _ (by decide) rfl rfl rfl
        obtain ⟨_, e75, rfl⟩ := D 20 _ _ _ (by decide) rfl rfl rfl
        obtain ⟨c0, c1, _⟩ := X1.out.below hB
        clear O D
        exact ⟨wanted_of rfl rfl e75 rfl, by go_simp⟩
      refine StepsP.cons ?_ ?_
      · refine step_call (enters_of Try.func34 (by kernel_rfl) rfl) rfl rfl (fun a wx hB O D => ?_)
        obtain ⟨_, e79, rfl⟩ := D 24 _ _ _ (by decide) rfl rfl rfl
        obtain ⟨_, e81, rfl⟩ := D 26 _ _ _ (by decide) rfl rfl rfl
        obtain ⟨_, e75, rfl⟩ := D 20 _ _ _ (by decide) rfl rfl rfl
        refine ⟨wanted_of rfl rfl e75 rfl, #[.slice A1 p.v.length k1, .slice A3 q.v.length k3], by simp only [List.map_toArray, List.map_cons, List.map_nil, ev e79, ev e81] <;> rfl, ?_⟩
        exact (ror_any _ _ p.v q.v _ (IPv.out.below hB) (IQv.out.below hB) HPF.out.1 HQF.out.1).mono fun _ _ ⟨r, he, hb, hr⟩ => ⟨r, he, hb, Row.ints hr⟩
      refine StepsP.cons ?_ ?_
      · refine step_call (enters_of Try.func31 (by kernel_rfl) rfl) rfl rfl (fun a wx hB O D => ?_)
        obtain ⟨_, e77, rfl⟩ := D 22 _ _ _ (by decide) rfl rfl rfl
        obtain ⟨v82, e82, s82⟩ := D 27 _ _ _ (by decide) rfl rfl rfl
        obtain ⟨_, e75, rfl⟩ := D 20 _ _ _ (by decide) rfl rfl rfl
        refine ⟨wanted_of rfl rfl e75 rfl, #[.slice B3 (p.or q).v.length m3, v82], by simp only [List.map_toArray, List.map_cons, List.map_nil, ev e77, ev e82] <;> rfl, ?_⟩
        exact (requal_any _ ((p.or q).v) _ (mrg 1 p.v q.v) _ (IOv.out.below hB) s82 (by have := HAF.out; have := HOF.out; unfold Prt.few at *; omega)).mono fun _ _ ⟨he, n, hw⟩ => ⟨_, by rw [he, HE3.out], by rw [hw]; exact below_drewN' _ _, rfl⟩
      refine StepsP.cons ?_ ?_
      · refine step_val (fun a wx hB O D => ?_)
        obtain ⟨_, e83, rfl⟩ := D 28 _ _ _ (by decide) rfl rfl rfl
        obtain ⟨_, e75, rfl⟩ := D 20 _ _ _ (by decide) rfl rfl rfl
        clear O D
        exact ⟨wanted_of rfl rfl e75 rfl, by go_simp⟩
      refine StepsP.cons ?_ ?_
      · refine step_val (fun a wx hB O D => ?_)
        obtain ⟨_, e75, rfl⟩ := D 20 _ _ _ (by decide) rfl rfl rfl
        obtain ⟨_, e84, rfl⟩ := D 29 _ _ _ (by decide) rfl rfl rfl
        clear O D
        exact ⟨rfl, by go_simp⟩
      refine StepsP.cons ?_ ?_
      · refine step_val (fun a wx hB O D => ?_)
        obtain ⟨_, e85, rfl⟩ := D 30 _ _ _ (by decide) rfl rfl rfl
        clear O D
        exact ⟨rfl, by unfold execOp; simp only [ev e85]; rfl⟩
      refine StepsP.cons ?_ ?_
      · refine step_val (fun a wx hB O D => ?_)
        have e8 : a.tmps[8]? = some (.pointer (some ⟨g8, 0, none⟩)) := O 8 (by rfl)
        obtain ⟨_, e86, rfl⟩ := D 31 _ _ _ (by decide) rfl rfl rfl
        clear O D
        exact ⟨wanted_of rfl rfl e86 rfl, by go_simp⟩
      refine StepsP.cons ?_ ?_
      · refine step_val (fun a wx hB O D => ?_)
        obtain ⟨_, e87, rfl⟩ := D 32 _ _ _ (by decide) rfl rfl rfl
        obtain ⟨_, e86, rfl⟩ := D 31 _ _ _ (by decide) rfl rfl rfl
        obtain ⟨c0, c1, _⟩ := X8.out.below hB
        clear O D
        exact ⟨wanted_of rfl rfl e86 rfl, by go_simp⟩
      refine StepsP.cons ?_ ?_
      · refine step_val (fun a wx hB O D => ?_)
        have e3 : a.tmps[3]? = some (.pointer (some ⟨w.heap.size, 0, none⟩)) := O 3 (by rfl)
        obtain ⟨_, e86, rfl⟩ := D 31 _ _ _ (by decide) rfl rfl rfl
        clear O D
        exact ⟨wanted_of rfl rfl e86 rfl, by go_simp⟩
      refine StepsP.cons ?_ ?_
      · refine step_val (fun a wx hB O D => ?_)
        obtain ⟨_, e89, rfl⟩ := D 34 _ _ _ (by decide) rfl rfl rfl
        obtain ⟨_, e86, rfl⟩ := D 31 _ _ _ (by decide) rfl rfl rfl
        obtain ⟨c0, c1, _⟩ := X0.out.below hB
        clear O D
        exact ⟨wanted_of rfl rfl e86 rfl, by go_simp⟩
      refine StepsP.cons ?_ ?_
      · refine step_val (fun a wx hB O D => ?_)
        have e4 : a.tmps[4]? = some (.pointer (some ⟨w.heap.size + 1, 0, none⟩)) := O 4 (by rfl)
        obtain ⟨_, e86, rfl⟩ := D 31 _ _ _ (by decide) rfl rfl rfl
        clear O D
        exact ⟨wanted_of rfl rfl e86 rfl, by go_simp⟩
      refine StepsP.cons ?_ ?_
      · refine step_val (fun a wx hB O D => ?_)
        obtain ⟨_, e91, rfl⟩ := D 36 _ _ _ (by decide) rfl rfl rfl
        obtain ⟨_, e86, rfl⟩ := D 31 _ _ _ (by decide) rfl rfl rfl
        obtain ⟨c0, c1, _⟩ := X1.out.below hB
        clear O D
        exact ⟨wanted_of rfl rfl e86 rfl, by go_simp⟩
      refine StepsP.cons ?_ ?_
      · refine step_call (enters_of Try.func34 (by kernel_rfl) rfl) rfl rfl (fun a wx hB O D => ?_)
        obtain ⟨_, e90, rfl⟩ := D 35 _ _ _ (by decide) rfl rfl rfl
        obtain ⟨_, e92, rfl⟩ := D 37 _ _ _ (by decide) rfl rfl rfl
        obtain ⟨_, e86, rfl⟩ := D 31 _ _ _ (by decide) rfl rfl rfl
        refine ⟨wanted_of rfl rfl e86 rfl, #[.slice A2 p.e.length k2, .slice A4 q.e.length k4], by simp only [List.map_toArray, List.map_cons, List.map_nil, ev e90, ev e92] <;> rfl, ?_⟩
        exact (ror_any _ _ p.e q.e _ (IPe.out.below hB) (IQe.out.below hB) HPF.out.2 HQF.out.2).mono fun _ _ ⟨r, he, hb, hr⟩ => ⟨r, he, hb, Row.ints hr⟩
      refine StepsP.cons ?_ ?_
      · refine step_call (enters_of Try.func31 (by kernel_rfl) rfl) rfl rfl (fun a wx hB O D => ?_)
        obtain ⟨_, e88, rfl⟩ := D 33 _ _ _ (by decide) rfl rfl rfl
        obtain ⟨v93, e93, s93⟩ := D 38 _ _ _ (by decide) rfl rfl rfl
        obtain ⟨_, e86, rfl⟩ := D 31 _ _ _ (by decide) rfl rfl rfl
        refine ⟨wanted_of rfl rfl e86 rfl, #[.slice B4 (p.or q).e.length m4, v93], by simp only [List.map_toArray, List.map_cons, List.map_nil, ev e88, ev e93] <;> rfl, ?_⟩
        exact (requal_any _ ((p.or q).e) _ (mrg 1 p.e q.e) _ (IOe.out.below hB) s93 (by have := HAF.out; have := HOF.out; unfold Prt.few at *; omega)).mono fun _ _ ⟨he, n, hw⟩ => ⟨_, by rw [he, HE4.out], by rw [hw]; exact below_drewN' _ _, rfl⟩
      refine StepsP.cons ?_ ?_
      · refine step_val (fun a wx hB O D => ?_)
        obtain ⟨_, e94, rfl⟩ := D 39 _ _ _ (by decide) rfl rfl rfl
        obtain ⟨_, e86, rfl⟩ := D 31 _ _ _ (by decide) rfl rfl rfl
        clear O D
        exact ⟨wanted_of rfl rfl e86 rfl, by go_simp⟩
      refine StepsP.cons ?_ ?_
      · refine step_val (fun a wx hB O D => ?_)
        obtain ⟨_, e86, rfl⟩ := D 31 _ _ _ (by decide) rfl rfl rfl
        obtain ⟨_, e95, rfl⟩ := D 40 _ _ _ (by decide) rfl rfl rfl
        clear O D
        exact ⟨rfl, by go_simp⟩
      exact StepsP.nil
    · intro wz hZ
      refine EndP.is ?_
      refine EndP.is ?_
      refine EndP.is ?_
      refine EndP.is ?_
      refine EndP.is ?_
      refine EndP.is ?_
      refine EndP.sp rfl (fun v61 s61 => ?_)
      refine EndP.is ?_
      refine EndP.is ?_
      refine EndP.is ?_
      refine EndP.is ?_
      refine EndP.is ?_
      refine EndP.is ?_
      refine EndP.is ?_
      refine EndP.is ?_
      refine EndP.is ?_
      refine EndP.sp rfl (fun v71 s71 => ?_)
      refine EndP.is ?_
      refine EndP.is ?_
      refine EndP.is ?_
      refine EndP.is ?_
      refine EndP.is ?_
      refine EndP.is ?_
      refine EndP.is ?_
      refine EndP.is ?_
      refine EndP.is ?_
      refine EndP.is ?_
      refine EndP.sp rfl (fun v82 s82 => ?_)
      refine EndP.is ?_
      refine EndP.is ?_
      refine EndP.is ?_
      refine EndP.is ?_
      refine EndP.is ?_
      refine EndP.is ?_
      refine EndP.is ?_
      refine EndP.is ?_
      refine EndP.is ?_
      refine EndP.is ?_
      refine EndP.sp rfl (fun v93 s93 => ?_)
      refine EndP.is ?_
      refine EndP.is ?_
      refine EndP.is ?_
      refine EndP.nil ?_
      refine wpList_nil ?_
      simp only [Act.put, List.setIfInBounds_toArray, List.set_cons_zero, List.set_cons_succ]
      replace HP := Lib.hid (HP.out.below hZ)
      replace HQ := Lib.hid (HQ.out.below hZ)
      replace IPv := Lib.hid (IPv.out.below hZ)
      replace IPe := Lib.hid (IPe.out.below hZ)
      replace IQv := Lib.hid (IQv.out.below hZ)
      replace IQe := Lib.hid (IQe.out.below hZ)
      replace X0 := Lib.hid (X0.out.below hZ)
      replace X1 := Lib.hid (X1.out.below hZ)
      replace X7 := Lib.hid (X7.out.below hZ)
      replace X8 := Lib.hid (X8.out.below hZ)
      replace HA := Lib.hid (HA.out.below hZ)
      replace HO := Lib.hid (HO.out.below hZ)
      replace HM := Lib.hid (trans2 HM.out hZ)
      clear hZ s61 s71 s82 s93 IAv IAe IOv IOe HE1 HE2 HE3 HE4
      obtain ⟨w8, hw8⟩ : ∃ z, z = wz := ⟨_, rfl⟩
      subst hw8
      go_wp2
      go_loopw [9, 10] (fun o i wr => ∃ k : Nat, k ≤ p.e.length ∧ i = .int .i64 k ∧ Hid (Below w8.heap.size w8 wr) ∧ Hid (Row wr w8.heap.size o (dropL (p.e.take k) x))) (fun _ i _ => p.e.length - (intOf i).toNat)
      case atStart => exact ⟨0, Nat.zero_le _, rfl, Lib.hid (Below.refl _ _), Lib.hid (Row.nil _ _)⟩
      case round =>
        obtain ⟨k, hk, rfl, hL, hO⟩ := hrel
        have hb0 := X0.out.below hL.out
        have c1 := hb0.c1
        by_cases hlt : k < p.e.length
        · obtain ⟨b, off, rfl, hb, hck⟩ := ints_at (IPe.out.below hL.out) hlt
          have HS := Lib.hid (dropL_succ p.e x k hlt)
          have HLN := Lib.hid (show (dropL (p.e.take k) x).length ≤ 4000000 by have := dropL_len (p.e.take k) x; simp at this; omega)
          clear hb hb0
          by_cases he : getI p.e k = x
          · have HS2 := Lib.hid (show dropL (p.e.take (k + 1)) x = dropL (p.e.take k) x by rw [HS.out, if_pos he, List.append_nil])
            have he' : (getI p.e k != x) = false := by simpa using he
            clear he
            go_wp2
            go_roundw
            case rel => exact ⟨k + 1, by omega, by go_num, hL, by rw [HS2.out]; exact hO⟩
            case measure => simp [intOf]; omega
          · have HS2 := Lib.hid (show dropL (p.e.take (k + 1)) x = dropL (p.e.take k) x ++ [getI p.e k] by rw [HS.out, if_neg he])
            have he' : (getI p.e k != x) = true := by simpa using he
            clear he
            generalize getI p.e k = y at *
            go_wp2_with (at_builtin; refine wpList_append1 rfl _ _ rfl rfl rfl hO.out hL.out.size HLN.out ?_)
            intro v7 w9 hO7 hB7
            have HO7 := Lib.hid hO7
            have HL7 := Lib.hid (hL.out.trans hB7)
            clear hO7 hB7
            go_wp2
            go_roundw
            case rel => exact ⟨k + 1, by omega, by go_num, HL7, by rw [HS2.out]; exact HO7⟩
            case measure => simp [intOf]; omega
        · obtain rfl : k = p.e.length := by omega
          have HT := Lib.hid (List.take_length (l := p.e))
          rw [HT.out] at hO
          have HW := Lib.hid (Row.ints hO.out)
          obtain ⟨Aw, kw, hv⟩ := ints_form HW.out
          subst hv
          replace HP := Lib.hid (HP.out.below hL.out)
          replace HQ := Lib.hid (HQ.out.below hL.out)
          replace IPv := Lib.hid (IPv.out.below hL.out)
          replace IPe := Lib.hid (IPe.out.below hL.out)
          replace IQv := Lib.hid (IQv.out.below hL.out)
          replace IQe := Lib.hid (IQe.out.below hL.out)
          replace X0 := Lib.hid (X0.out.below hL.out)
          replace X1 := Lib.hid (X1.out.below hL.out)
          replace X7 := Lib.hid (X7.out.below hL.out)
          replace X8 := Lib.hid (X8.out.below hL.out)
          replace HA := Lib.hid (HA.out.below hL.out)
          replace HO := Lib.hid (HO.out.below hL.out)
          replace HM := Lib.hid (trans2 HM.out hL.out)
          have c0 := X0.out.c0
          clear c1 hb0
          have c1 := X0.out.c1
          clear hL hO
          go_wp2_with fail
          refine (drop_any _ p x _ HP.out HPF.out).mono ?_
          rintro o w9 ⟨r, rfl, hB, hD⟩
          obtain ⟨vv, vp, rfl, i1, i2⟩ := hD
          obtain ⟨D1, n1, rfl⟩ := ints_form i1
          obtain ⟨D2, n2, rfl⟩ := ints_form i2
          have hBa := below_alloc (w := w9) (.cells #[.slice D1 (p.drop x).v.length n1, .slice D2 (p.drop x).e.length n2] 29)
          have X11 := Lib.hid (one_box w9 (.slice D1 (p.drop x).v.length n1) (.slice D2 (p.drop x).e.length n2) 29).1
          have IDv := Lib.hid (i1.below hBa)
          have IDe := Lib.hid (i2.below hBa)
          have hBB := trans2 hB hBa
          replace HP := Lib.hid (HP.out.below hBB)
          replace HQ := Lib.hid (HQ.out.below hBB)
          replace IPv := Lib.hid (IPv.out.below hBB)
          replace IPe := Lib.hid (IPe.out.below hBB)
          replace IQv := Lib.hid (IQv.out.below hBB)
          replace IQe := Lib.hid (IQe.out.below hBB)
          replace X0 := Lib.hid (X0.out.below hBB)
          replace X1 := Lib.hid (X1.out.below hBB)
          replace X7 := Lib.hid (X7.out.below hBB)
          replace X8 := Lib.hid (X8.out.below hBB)
          replace HA := Lib.hid (HA.out.below hBB)
          replace HO := Lib.hid (HO.out.below hBB)
          replace HW := Lib.hid (HW.out.below hBB)
          replace HM := Lib.hid (trans2 HM.out hBB)
          clear hB hBa hBB i1 i2 c0 c1
          obtain ⟨bi, hbi⟩ : ∃ b, decide (x ∈ p.v) = b := ⟨_, rfl⟩
          obtain ⟨bs, hbs⟩ : ∃ b, sameB p q = b := ⟨_, rfl⟩
          obtain ⟨be, hbe⟩ : ∃ b, sameB (p.and q) p = b := ⟨_, rfl⟩
          have HBI := Lib.hid hbi
          have HBS := Lib.hid hbs
          have HBE := Lib.hid hbe
          have hwl := within_len HUP.out HUQ.out
          rw [hbe] at hwl
          clear hbi hbs hbe
          go_wp2_with fail
          generalize w9.alloc (.cells #[.slice D1 (p.drop x).v.length n1, .slice D2 (p.drop x).e.length n2] 29) = w10 at *
          by_cases hl : (((p.and q).v.length : Int) == (p.v.length : Int)) = true
          · have HL1 := Lib.hid hl
            have HL2 := Lib.hid (show (((p.and q).e.length : Int) == (p.e.length : Int)) = be by rw [hwl, hl, Bool.true_and])
            clear hl hwl
            refine wp_region_plan [is (.pointer (some ⟨w9.heap.size, 1, none⟩)), is (.slice D2 (p.drop x).e.length n2), is (.slice Aw (dropL p.e x).length kw), is (.bool true), is (.bool true), is (.pointer (some ⟨w9.heap.size, 0, none⟩)), is (.slice D1 (p.drop x).v.length n1), is (.pointer (some ⟨w.heap.size, 0, none⟩)), is (.slice A1 p.v.length k1), is (.bool true), is (.bool true), is (.bool true), is (.pointer (some ⟨w.heap.size, 0, none⟩)), is (.slice A1 p.v.length k1), is (.int .i64 x), is (.bool bi), is (.pointer (some ⟨w.heap.size, 0, none⟩)), is (.slice A1 p.v.length k1), is (.int .i64 x), is (.bool bi), is (.bool true), is (.bool true), is (.bool true), is (.agg #[.slice A1 p.v.length k1, .slice A2 p.e.length k2]), is (.agg #[.slice A3 q.v.length k3, .slice A4 q.e.length k4]), is (.bool bs), is (.agg #[.slice A1 p.v.length k1, .slice A2 p.e.length k2]), is (.agg #[.slice A3 q.v.length k3, .slice A4 q.e.length k4]), is (.bool bs), is (.bool true), is (.bool true), is (.bool true), is (.agg #[.slice A1 p.v.length k1, .slice A2 p.e.length k2]), is (.agg #[.slice A3 q.v.length k3, .slice A4 q.e.length k4]), is (.bool be), is (.pointer (some ⟨g7, 0, none⟩)), is (.slice B1 (p.and q).v.length m1), is (.int .i64 ((p.and q).v.length : Int)), is (.pointer (some ⟨w.heap.size, 0, none⟩)), is (.slice A1 p.v.length k1), is (.int .i64 (p.v.length : Int)), is (.bool true), is (.bool true), is (.pointer (some ⟨g7, 1, none⟩)), is (.slice B2 (p.and q).e.length m2), is (.int .i64 ((p.and q).e.length : Int)), is (.pointer (some ⟨w.heap.size, 1, none⟩)), is (.slice A2 p.e.length k2), is (.int .i64 (p.e.length : Int)), is (.bool be), is (.bool be), is (.bool true), is (.bool true), is (.bool true)] (by kernel_rfl) (by kernel_rfl) ?_ ?_
            · skip
              refine StepsP.cons ?_ ?_
              · refine step_val (fun a wx hB O D => ?_)
                have e11 : a.tmps[11]? = some (.pointer (some ⟨w9.heap.size, 0, none⟩)) := O 11 (by rfl)
                clear O D
                exact ⟨rfl, by go_simp⟩
              refine StepsP.cons ?_ ?_
              · refine step_val (fun a wx hB O D => ?_)
                obtain ⟨_, e122, rfl⟩ := D 0 _ _ _ (by decide) rfl rfl rfl
                obtain ⟨c0, c1, _⟩ := X11.out.below hB
                clear O D
                exact ⟨rfl, by go_simp⟩
              refine StepsP.cons ?_ ?_
              · refine step_val (fun a wx hB O D => ?_)
                have e9 : a.tmps[9]? = some (.slice Aw (dropL p.e x).length kw) := O 9 (by rfl)
                clear O D
                exact ⟨rfl, by unfold execOp; simp only [ev e9]; rfl⟩
              refine StepsP.cons ?_ ?_
              · refine step_call (enters_of Try.func31 (by kernel_rfl) rfl) rfl rfl (fun a wx hB O D => ?_)
                obtain ⟨_, e123, rfl⟩ := D 1 _ _ _ (by decide) rfl rfl rfl
                obtain ⟨_, e124, rfl⟩ := D 2 _ _ _ (by decide) rfl rfl rfl
                refine ⟨rfl, #[.slice D2 (p.drop x).e.length n2, .slice Aw (dropL p.e x).length kw], by simp only [List.map_toArray, List.map_cons, List.map_nil, ev e123, ev e124] <;> rfl, ?_⟩
                exact (requal_any _ ((p.drop x).e) _ (dropL p.e x) _ (IDe.out.below hB) (HW.out.below hB) (by have := HDF.out; unfold Prt.few at *; omega)).mono fun _ _ ⟨he, n, hw⟩ => ⟨_, by rw [he, show decide ((p.drop x).e = dropL p.e x) = true from decide_eq_true rfl], by rw [hw]; exact below_drewN' _ _, rfl⟩
              refine StepsP.cons ?_ ?_
              · refine step_val (fun a wx hB O D => ?_)
                obtain ⟨_, e125, rfl⟩ := D 3 _ _ _ (by decide) rfl rfl rfl
                clear O D
                exact ⟨rfl, by unfold execOp; simp only [ev e125]; rfl⟩
              refine StepsP.cons ?_ ?_
              · refine step_val (fun a wx hB O D => ?_)
                have e11 : a.tmps[11]? = some (.pointer (some ⟨w9.heap.size, 0, none⟩)) := O 11 (by rfl)
                obtain ⟨_, e126, rfl⟩ := D 4 _ _ _ (by decide) rfl rfl rfl
                clear O D
                exact ⟨wanted_of rfl rfl e126 rfl, by go_simp⟩
              refine StepsP.cons ?_ ?_
              · refine step_val (fun a wx hB O D => ?_)
                obtain ⟨_, e127, rfl⟩ := D 5 _ _ _ (by decide) rfl rfl rfl
                obtain ⟨_, e126, rfl⟩ := D 4 _ _ _ (by decide) rfl rfl rfl
                obtain ⟨c0, c1, _⟩ := X11.out.below hB
                clear O D
                exact ⟨wanted_of rfl rfl e126 rfl, by go_simp⟩
              refine StepsP.cons ?_ ?_
              · refine step_val (fun a wx hB O D => ?_)
                have e3 : a.tmps[3]? = some (.pointer (some ⟨w.heap.size, 0, none⟩)) := O 3 (by rfl)
                obtain ⟨_, e126, rfl⟩ := D 4 _ _ _ (by decide) rfl rfl rfl
                clear O D
                exact ⟨wanted_of rfl rfl e126 rfl, by go_simp⟩
              refine StepsP.cons ?_ ?_
              · refine step_val (fun a wx hB O D => ?_)
                obtain ⟨_, e129, rfl⟩ := D 7 _ _ _ (by decide) rfl rfl rfl
                obtain ⟨_, e126, rfl⟩ := D 4 _ _ _ (by decide) rfl rfl rfl
                obtain ⟨c0, c1, _⟩ := X0.out.below hB
                clear O D
                exact ⟨wanted_of rfl rfl e126 rfl, by go_simp⟩
              refine StepsP.cons ?_ ?_
              · refine step_call (enters_of Try.func31 (by kernel_rfl) rfl) rfl rfl (fun a wx hB O D => ?_)
                obtain ⟨_, e128, rfl⟩ := D 6 _ _ _ (by decide) rfl rfl rfl
                obtain ⟨_, e130, rfl⟩ := D 8 _ _ _ (by decide) rfl rfl rfl
                obtain ⟨_, e126, rfl⟩ := D 4 _ _ _ (by decide) rfl rfl rfl
                refine ⟨wanted_of rfl rfl e126 rfl, #[.slice D1 (p.drop x).v.length n1, .slice A1 p.v.length k1], by simp only [List.map_toArray, List.map_cons, List.map_nil, ev e128, ev e130] <;> rfl, ?_⟩
                exact (requal_any _ ((p.drop x).v) _ (p.v) _ (IDv.out.below hB) (IPv.out.below hB) (by have := HDF.out; unfold Prt.few at *; omega)).mono fun _ _ ⟨he, n, hw⟩ => ⟨_, by rw [he, show decide ((p.drop x).v = p.v) = true from decide_eq_true rfl], by rw [hw]; exact below_drewN' _ _, rfl⟩
              refine StepsP.cons ?_ ?_
              · refine step_val (fun a wx hB O D => ?_)
                obtain ⟨_, e126, rfl⟩ := D 4 _ _ _ (by decide) rfl rfl rfl
                obtain ⟨_, e131, rfl⟩ := D 9 _ _ _ (by decide) rfl rfl rfl
                clear O D
                exact ⟨rfl, by go_simp⟩
              refine StepsP.cons ?_ ?_
              · refine step_val (fun a wx hB O D => ?_)
                obtain ⟨_, e132, rfl⟩ := D 10 _ _ _ (by decide) rfl rfl rfl
                clear O D
                exact ⟨rfl, by unfold execOp; simp only [ev e132]; rfl⟩
              refine StepsP.cons ?_ ?_
              · refine step_val (fun a wx hB O D => ?_)
                have e3 : a.tmps[3]? = some (.pointer (some ⟨w.heap.size, 0, none⟩)) := O 3 (by rfl)
                obtain ⟨_, e133, rfl⟩ := D 11 _ _ _ (by decide) rfl rfl rfl
                clear O D
                exact ⟨wanted_of rfl rfl e133 rfl, by go_simp⟩
              refine StepsP.cons ?_ ?_
              · refine step_val (fun a wx hB O D => ?_)
                obtain ⟨_, e134, rfl⟩ := D 12 _ _ _ (by decide) rfl rfl rfl
                obtain ⟨_, e133, rfl⟩ := D 11 _ _ _ (by decide) rfl rfl rfl
                obtain ⟨c0, c1, _⟩ := X0.out.below hB
                clear O D
                exact ⟨wanted_of rfl rfl e133 rfl, by go_simp⟩
              refine StepsP.cons ?_ ?_
              · refine step_val (fun a wx hB O D => ?_)
                have e2 : a.tmps[2]? = some (.int .i64 x) := O 2 (by rfl)
                obtain ⟨_, e133, rfl⟩ := D 11 _ _ _ (by decide) rfl rfl rfl
                clear O D
                exact ⟨wanted_of rfl rfl e133 rfl, by unfold execOp; simp only [ev e2]; rfl⟩
              refine StepsP.cons ?_ ?_
              · refine step_call (enters_of Try.func23 (by kernel_rfl) rfl) rfl rfl (fun a wx hB O D => ?_)
                obtain ⟨_, e135, rfl⟩ := D 13 _ _ _ (by decide) rfl rfl rfl
                obtain ⟨_, e136, rfl⟩ := D 14 _ _ _ (by decide) rfl rfl rfl
                obtain ⟨_, e133, rfl⟩ := D 11 _ _ _ (by decide) rfl rfl rfl
                refine ⟨wanted_of rfl rfl e133 rfl, #[.slice A1 p.v.length k1, .int .i64 x], by simp only [List.map_toArray, List.map_cons, List.map_nil, ev e135, ev e136] <;> rfl, ?_⟩
                exact (has_any _ p.v x _ (IPv.out.below hB) HUP.out.1 HPF.out.1).mono fun _ _ ⟨he, hb⟩ => ⟨_, by rw [he, HBI.out], hb, rfl⟩
              refine StepsP.cons ?_ ?_
              · refine step_val (fun a wx hB O D => ?_)
                have e3 : a.tmps[3]? = some (.pointer (some ⟨w.heap.size, 0, none⟩)) := O 3 (by rfl)
                obtain ⟨_, e133, rfl⟩ := D 11 _ _ _ (by decide) rfl rfl rfl
                clear O D
                exact ⟨wanted_of rfl rfl e133 rfl, by go_simp⟩
              refine StepsP.cons ?_ ?_
              · refine step_val (fun a wx hB O D => ?_)
                obtain ⟨_, e138, rfl⟩ := D 16 _ _ _ (by decide) rfl rfl rfl
                obtain ⟨_, e133, rfl⟩ := D 11 _ _ _ (by decide) rfl rfl rfl
                obtain ⟨c0, c1, _⟩ := X0.out.below hB
                clear O D
                exact ⟨wanted_of rfl rfl e133 rfl, by go_simp⟩
              refine StepsP.cons ?_ ?_
              · refine step_val (fun a wx hB O D => ?_)
                have e2 : a.tmps[2]? = some (.int .i64 x) := O 2 (by rfl)
                obtain ⟨_, e133, rfl⟩ := D 11 _ _ _ (by decide) rfl rfl rfl
                clear O D
                exact ⟨wanted_of rfl rfl e133 rfl, by unfold execOp; simp only [ev e2]; rfl⟩
              refine StepsP.cons ?_ ?_
              · refine step_call (enters_of Try.func16 (by kernel_rfl) rfl) rfl rfl (fun a wx hB O D => ?_)
                obtain ⟨_, e139, rfl⟩ := D 17 _ _ _ (by decide) rfl rfl rfl
                obtain ⟨_, e140, rfl⟩ := D 18 _ _ _ (by decide) rfl rfl rfl
                obtain ⟨_, e133, rfl⟩ := D 11 _ _ _ (by decide) rfl rfl rfl
                refine ⟨wanted_of rfl rfl e133 rfl, #[.slice A1 p.v.length k1, .int .i64 x], by simp only [List.map_toArray, List.map_cons, List.map_nil, ev e139, ev e140] <;> rfl, ?_⟩
                exact (in_any _ p.v x _ (IPv.out.below hB) HPF.out.1).mono fun _ _ ⟨he, hw⟩ => ⟨_, by rw [he, HBI.out], hw ▸ Below.refl _ _, rfl⟩
              refine StepsP.cons ?_ ?_
              · refine step_val (fun a wx hB O D => ?_)
                obtain ⟨_, e137, rfl⟩ := D 15 _ _ _ (by decide) rfl rfl rfl
                obtain ⟨_, e141, rfl⟩ := D 19 _ _ _ (by decide) rfl rfl rfl
                obtain ⟨_, e133, rfl⟩ := D 11 _ _ _ (by decide) rfl rfl rfl
                have hbb : (bi == bi) = true := by simp
                clear O D
                exact ⟨wanted_of rfl rfl e133 rfl, by go_simp⟩
              refine StepsP.cons ?_ ?_
              · refine step_val (fun a wx hB O D => ?_)
                obtain ⟨_, e133, rfl⟩ := D 11 _ _ _ (by decide) rfl rfl rfl
                obtain ⟨_, e142, rfl⟩ := D 20 _ _ _ (by decide) rfl rfl rfl
                clear O D
                exact ⟨rfl, by go_simp⟩
              refine StepsP.cons ?_ ?_
              · refine step_val (fun a wx hB O D => ?_)
                obtain ⟨_, e143, rfl⟩ := D 21 _ _ _ (by decide) rfl rfl rfl
                clear O D
                exact ⟨rfl, by unfold execOp; simp only [ev e143]; rfl⟩
              refine StepsP.cons ?_ ?_
              · refine step_val (fun a wx hB O D => ?_)
                have e3 : a.tmps[3]? = some (.pointer (some ⟨w.heap.size, 0, none⟩)) := O 3 (by rfl)
                obtain ⟨_, e144, rfl⟩ := D 22 _ _ _ (by decide) rfl rfl rfl
                obtain ⟨c0, c1, _⟩ := X0.out.below hB
                clear O D
                exact ⟨wanted_of rfl rfl e144 rfl, by go_simp⟩
              refine StepsP.cons ?_ ?_
              · refine step_val (fun a wx hB O D => ?_)
                have e4 : a.tmps[4]? = some (.pointer (some ⟨w.heap.size + 1, 0, none⟩)) := O 4 (by rfl)
                obtain ⟨_, e144, rfl⟩ := D 22 _ _ _ (by decide) rfl rfl rfl
                obtain ⟨c0, c1, _⟩ := X1.out.below hB
                clear O D
                exact ⟨wanted_of rfl rfl e144 rfl, by go_simp⟩
              refine StepsP.cons ?_ ?_
              · refine step_call (enters_of Try.func24 (by kernel_rfl) rfl) rfl rfl (fun a wx hB O D => ?_)
                obtain ⟨_, e145, rfl⟩ := D 23 _ _ _ (by decide) rfl rfl rfl
                obtain ⟨_, e146, rfl⟩ := D 24 _ _ _ (by decide) rfl rfl rfl
                obtain ⟨_, e144, rfl⟩ := D 22 _ _ _ (by decide) rfl rfl rfl
                refine ⟨wanted_of rfl rfl e144 rfl, #[.agg #[.slice A1 p.v.length k1, .slice A2 p.e.length k2], .agg #[.slice A3 q.v.length k3, .slice A4 q.e.length k4]], by simp only [List.map_toArray, List.map_cons, List.map_nil, ev e145, ev e146] <;> rfl, ?_⟩
                exact (same_any _ _ p q _ (HP.out.below hB) (HQ.out.below hB) HPF.out.1 HPF.out.2 HQF.out.1 HQF.out.2).mono fun _ _ ⟨he, hb⟩ => ⟨_, by rw [he, HBS.out], hb, rfl⟩
              refine StepsP.cons ?_ ?_
              · refine step_val (fun a wx hB O D => ?_)
                have e3 : a.tmps[3]? = some (.pointer (some ⟨w.heap.size, 0, none⟩)) := O 3 (by rfl)
                obtain ⟨_, e144, rfl⟩ := D 22 _ _ _ (by decide) rfl rfl rfl
                obtain ⟨c0, c1, _⟩ := X0.out.below hB
                clear O D
                exact ⟨wanted_of rfl rfl e144 rfl, by go_simp⟩
              refine StepsP.cons ?_ ?_
              · refine step_val (fun a wx hB O D => ?_)
                have e4 : a.tmps[4]? = some (.pointer (some ⟨w.heap.size + 1, 0, none⟩)) := O 4 (by rfl)
                obtain ⟨_, e144, rfl⟩ := D 22 _ _ _ (by decide) rfl rfl rfl
                obtain ⟨c0, c1, _⟩ := X1.out.below hB
                clear O D
                exact ⟨wanted_of rfl rfl e144 rfl, by go_simp⟩
              refine StepsP.cons ?_ ?_
              · refine step_call (enters_of Try.func27 (by kernel_rfl) rfl) rfl rfl (fun a wx hB O D => ?_)
                obtain ⟨_, e148, rfl⟩ := D 26 _ _ _ (by decide) rfl rfl rfl
                obtain ⟨_, e149, rfl⟩ := D 27 _ _ _ (by decide) rfl rfl rfl
                obtain ⟨_, e144, rfl⟩ := D 22 _ _ _ (by decide) rfl rfl rfl
                refine ⟨wanted_of rfl rfl e144 rfl, #[.agg #[.slice A1 p.v.length k1, .slice A2 p.e.length k2], .agg #[.slice A3 q.v.length k3, .slice A4 q.e.length k4]], by simp only [List.map_toArray, List.map_cons, List.map_nil, ev e148, ev e149] <;> rfl, ?_⟩
                exact (rsame_any _ _ p q _ (HP.out.below hB) (HQ.out.below hB) (by have := HPF.out.1; omega) (by have := HPF.out.2; omega)).mono fun _ _ ⟨he, hb⟩ => ⟨_, by rw [he, HBS.out], hb, rfl⟩
              refine StepsP.cons ?_ ?_
              · refine step_val (fun a wx hB O D => ?_)
                obtain ⟨_, e147, rfl⟩ := D 25 _ _ _ (by decide) rfl rfl rfl
                obtain ⟨_, e150, rfl⟩ := D 28 _ _ _ (by decide) rfl rfl rfl
                obtain ⟨_, e144, rfl⟩ := D 22 _ _ _ (by decide) rfl rfl rfl
                have hbb : (bs == bs) = true := by simp
                clear O D
                exact ⟨wanted_of rfl rfl e144 rfl, by go_simp⟩
              refine StepsP.cons ?_ ?_
              · refine step_val (fun a wx hB O D => ?_)
                obtain ⟨_, e144, rfl⟩ := D 22 _ _ _ (by decide) rfl rfl rfl
                obtain ⟨_, e151, rfl⟩ := D 29 _ _ _ (by decide) rfl rfl rfl
                clear O D
                exact ⟨rfl, by go_simp⟩
              refine StepsP.cons ?_ ?_
              · refine step_val (fun a wx hB O D => ?_)
                obtain ⟨_, e152, rfl⟩ := D 30 _ _ _ (by decide) rfl rfl rfl
                clear O D
                exact ⟨rfl, by unfold execOp; simp only [ev e152]; rfl⟩
              refine StepsP.cons ?_ ?_
              · refine step_val (fun a wx hB O D => ?_)
                have e3 : a.tmps[3]? = some (.pointer (some ⟨w.heap.size, 0, none⟩)) := O 3 (by rfl)
                obtain ⟨_, e153, rfl⟩ := D 31 _ _ _ (by decide) rfl rfl rfl
                obtain ⟨c0, c1, _⟩ := X0.out.below hB
                clear O D
                exact ⟨wanted_of rfl rfl e153 rfl, by go_simp⟩
              refine StepsP.cons ?_ ?_
              · refine step_val (fun a wx hB O D => ?_)
                have e4 : a.tmps[4]? = some (.pointer (some ⟨w.heap.size + 1, 0, none⟩)) := O 4 (by rfl)
                obtain ⟨_, e153, rfl⟩ := D 31 _ _ _ (by decide) rfl rfl rfl
                obtain ⟨c0, c1, _⟩ := X1.out.below hB
                clear O D
                exact ⟨wanted_of rfl rfl e153 rfl, by go_simp⟩
              refine StepsP.cons ?_ ?_
              · refine step_call (enters_of Try.func22 (by kernel_rfl) rfl) rfl rfl (fun a wx hB O D => ?_)
                obtain ⟨_, e154, rfl⟩ := D 32 _ _ _ (by decide) rfl rfl rfl
                obtain ⟨_, e155, rfl⟩ := D 33 _ _ _ (by decide) rfl rfl rfl
                obtain ⟨_, e153, rfl⟩ := D 31 _ _ _ (by decide) rfl rfl rfl
                refine ⟨wanted_of rfl rfl e153 rfl, #[.agg #[.slice A1 p.v.length k1, .slice A2 p.e.length k2], .agg #[.slice A3 q.v.length k3, .slice A4 q.e.length k4]], by simp only [List.map_toArray, List.map_cons, List.map_nil, ev e154, ev e155] <;> rfl, ?_⟩
                exact (within_any _ _ p q _ (HP.out.below hB) (HQ.out.below hB) HPF.out HQF.out).mono fun _ _ ⟨he, hb⟩ => ⟨_, by rw [he, HBE.out], hb, rfl⟩
              refine StepsP.cons ?_ ?_
              · refine step_val (fun a wx hB O D => ?_)
                have e7 : a.tmps[7]? = some (.pointer (some ⟨g7, 0, none⟩)) := O 7 (by rfl)
                obtain ⟨_, e153, rfl⟩ := D 31 _ _ _ (by decide) rfl rfl rfl
                clear O D
                exact ⟨wanted_of rfl rfl e153 rfl, by go_simp⟩
              refine StepsP.cons ?_ ?_
              · refine step_val (fun a wx hB O D => ?_)
                obtain ⟨_, e157, rfl⟩ := D 35 _ _ _ (by decide) rfl rfl rfl
                obtain ⟨_, e153, rfl⟩ := D 31 _ _ _ (by decide) rfl rfl rfl
                obtain ⟨c0, c1, _⟩ := X7.out.below hB
                clear O D
                exact ⟨wanted_of rfl rfl e153 rfl, by go_simp⟩
              refine StepsP.cons ?_ ?_
              · refine step_val (fun a wx hB O D => ?_)
                obtain ⟨_, e158, rfl⟩ := D 36 _ _ _ (by decide) rfl rfl rfl
                obtain ⟨_, e153, rfl⟩ := D 31 _ _ _ (by decide) rfl rfl rfl
                clear O D
                exact ⟨wanted_of rfl rfl e153 rfl, by go_simp⟩
              refine StepsP.cons ?_ ?_
              · refine step_val (fun a wx hB O D => ?_)
                have e3 : a.tmps[3]? = some (.pointer (some ⟨w.heap.size, 0, none⟩)) := O 3 (by rfl)
                obtain ⟨_, e153, rfl⟩ := D 31 _ _ _ (by decide) rfl rfl rfl
                clear O D
                exact ⟨wanted_of rfl rfl e153 rfl, by go_simp⟩
              refine StepsP.cons ?_ ?_
              · refine step_val (fun a wx hB O D => ?_)
                obtain ⟨_, e160, rfl⟩ := D 38 _ _ _ (by decide) rfl rfl rfl
                obtain ⟨_, e153, rfl⟩ := D 31 _ _ _ (by decide) rfl rfl rfl
                obtain ⟨c0, c1, _⟩ := X0.out.below hB
                clear O D
                exact ⟨wanted_of rfl rfl e153 rfl, by go_simp⟩
              refine StepsP.cons ?_ ?_
              · refine step_val (fun a wx hB O D => ?_)
                obtain ⟨_, e161, rfl⟩ := D 39 _ _ _ (by decide) rfl rfl rfl
                obtain ⟨_, e153, rfl⟩ := D 31 _ _ _ (by decide) rfl rfl rfl
                clear O D
                exact ⟨wanted_of rfl rfl e153 rfl, by go_simp⟩
              refine StepsP.cons ?_ ?_
              · refine step_val (fun a wx hB O D => ?_)
                obtain ⟨_, e159, rfl⟩ := D 37 _ _ _ (by decide) rfl rfl rfl
                obtain ⟨_, e162, rfl⟩ := D 40 _ _ _ (by decide) rfl rfl rfl
                obtain ⟨_, e153, rfl⟩ := D 31 _ _ _ (by decide) rfl rfl rfl
                have h41 := HL1.out
                clear O D
                exact ⟨wanted_of rfl rfl e153 rfl, by go_simp⟩
              refine StepsP.cons ?_ ?_
              · refine step_val (fun a wx hB O D => ?_)
                obtain ⟨_, e163, rfl⟩ := D 41 _ _ _ (by decide) rfl rfl rfl
                obtain ⟨_, e153, rfl⟩ := D 31 _ _ _ (by decide) rfl rfl rfl
                clear O D
                exact ⟨wanted_of rfl rfl e153 rfl, by unfold execOp; simp only [ev e163]; rfl⟩
              refine StepsP.cons ?_ ?_
              · refine step_val (fun a wx hB O D => ?_)
                have e7 : a.tmps[7]? = some (.pointer (some ⟨g7, 0, none⟩)) := O 7 (by rfl)
                obtain ⟨_, e164, rfl⟩ := D 42 _ _ _ (by decide) rfl rfl rfl
                clear O D
                exact ⟨wanted_of rfl rfl e164 rfl, by go_simp⟩
              refine StepsP.cons ?_ ?_
              · refine step_val (fun a wx hB O D => ?_)
                obtain ⟨_, e165, rfl⟩ := D 43 _ _ _ (by decide) rfl rfl rfl
                obtain ⟨_, e164, rfl⟩ := D 42 _ _ _ (by decide) rfl rfl rfl
                obtain ⟨c0, c1, _⟩ := X7.out.below hB
                clear O D
                exact ⟨wanted_of rfl rfl e164 rfl, by go_simp⟩
              refine StepsP.cons ?_ ?_
              · refine step_val (fun a wx hB O D => ?_)
                obtain ⟨_, e166, rfl⟩ := D 44 _ _ _ (by decide) rfl rfl rfl
                obtain ⟨_, e164, rfl⟩ := D 42 _ _ _ (by decide) rfl rfl rfl
                clear O D
                exact ⟨wanted_of rfl rfl e164 rfl, by go_simp⟩
              refine StepsP.cons ?_ ?_
              · refine step_val (fun a wx hB O D => ?_)
                have e3 : a.tmps[3]? = some (.pointer (some ⟨w.heap.size, 0, none⟩)) := O 3 (by rfl)
                obtain ⟨_, e164, rfl⟩ := D 42 _ _ _ (by decide) rfl rfl rfl
                clear O D
                exact ⟨wanted_of rfl rfl e164 rfl, by go_simp⟩
              refine StepsP.cons ?_ ?_
              · refine step_val (fun a wx hB O D => ?_)
                obtain ⟨_, e168, rfl⟩ := D 46 _ _ _ (by decide) rfl rfl rfl
                obtain ⟨_, e164, rfl⟩ := D 42 _ _ _ (by decide) rfl rfl rfl
                obtain ⟨c0, c1, _⟩ := X0.out.below hB
                clear O D
                exact ⟨wanted_of rfl rfl e164 rfl, by go_simp⟩
              refine StepsP.cons ?_ ?_
              · refine step_val (fun a wx hB O D => ?_)
                obtain ⟨_, e169, rfl⟩ := D 47 _ _ _ (by decide) rfl rfl rfl
                obtain ⟨_, e164, rfl⟩ := D 42 _ _ _ (by decide) rfl rfl rfl
                clear O D
                exact ⟨wanted_of rfl rfl e164 rfl, by go_simp⟩
              refine StepsP.cons ?_ ?_
              · refine step_val (fun a wx hB O D => ?_)
                obtain ⟨_, e167, rfl⟩ := D 45 _ _ _ (by decide) rfl rfl rfl
                obtain ⟨_, e170, rfl⟩ := D 48 _ _ _ (by decide) rfl rfl rfl
                obtain ⟨_, e164, rfl⟩ := D 42 _ _ _ (by decide) rfl rfl rfl
                have h49 := HL2.out
                clear O D
                exact ⟨wanted_of rfl rfl e164 rfl, by go_simp⟩
              refine StepsP.cons ?_ ?_
              · refine step_val (fun a wx hB O D => ?_)
                obtain ⟨_, e164, rfl⟩ := D 42 _ _ _ (by decide) rfl rfl rfl
                obtain ⟨_, e171, rfl⟩ := D 49 _ _ _ (by decide) rfl rfl rfl
                obtain ⟨_, e153, rfl⟩ := D 31 _ _ _ (by decide) rfl rfl rfl
                clear O D
                exact ⟨wanted_of rfl rfl e153 rfl, by go_simp⟩
              refine StepsP.cons ?_ ?_
              · refine step_val (fun a wx hB O D => ?_)
                obtain ⟨_, e156, rfl⟩ := D 34 _ _ _ (by decide) rfl rfl rfl
                obtain ⟨_, e172, rfl⟩ := D 50 _ _ _ (by decide) rfl rfl rfl
                obtain ⟨_, e153, rfl⟩ := D 31 _ _ _ (by decide) rfl rfl rfl
                have hbb : (be == be) = true := by simp
                clear O D
                exact ⟨wanted_of rfl rfl e153 rfl, by go_simp⟩
              refine StepsP.cons ?_ ?_
              · refine step_val (fun a wx hB O D => ?_)
                obtain ⟨_, e153, rfl⟩ := D 31 _ _ _ (by decide) rfl rfl rfl
                obtain ⟨_, e173, rfl⟩ := D 51 _ _ _ (by decide) rfl rfl rfl
                clear O D
                exact ⟨rfl, by go_simp⟩
              refine StepsP.cons ?_ ?_
              · refine step_val (fun a wx hB O D => ?_)
                obtain ⟨_, e174, rfl⟩ := D 52 _ _ _ (by decide) rfl rfl rfl
                clear O D
                exact ⟨rfl, by unfold execOp; simp only [ev e174]; rfl⟩
              exact StepsP.nil
            · intro wz hZ
              refine EndP.is ?_
              refine EndP.is ?_
              refine EndP.is ?_
              refine EndP.is ?_
              refine EndP.is ?_
              refine EndP.is ?_
              refine EndP.is ?_
              refine EndP.is ?_
              refine EndP.is ?_
              refine EndP.is ?_
              refine EndP.is ?_
              refine EndP.is ?_
              refine EndP.is ?_
              refine EndP.is ?_
              refine EndP.is ?_
              refine EndP.is ?_
              refine EndP.is ?_
              refine EndP.is ?_
              refine EndP.is ?_
              refine EndP.is ?_
              refine EndP.is ?_
              refine EndP.is ?_
              refine EndP.is ?_
              refine EndP.is ?_
              refine EndP.is ?_
              refine EndP.is ?_
              refine EndP.is ?_
              refine EndP.is ?_
              refine EndP.is ?_
              refine EndP.is ?_
              refine EndP.is ?_
              refine EndP.is ?_
              refine EndP.is ?_
              refine EndP.is ?_
              refine EndP.is ?_
              refine EndP.is ?_
              refine EndP.is ?_
              refine EndP.is ?_
              refine EndP.is ?_
              refine EndP.is ?_
              refine EndP.is ?_
              refine EndP.is ?_
              refine EndP.is ?_
              refine EndP.is ?_
              refine EndP.is ?_
              refine EndP.is ?_
              refine EndP.is ?_
              refine EndP.is ?_
              refine EndP.is ?_
              refine EndP.is ?_
              refine EndP.is ?_
              refine EndP.is ?_
              refine EndP.is ?_
              refine EndP.is ?_
              refine EndP.nil ?_
              have HZ := Lib.hid (trans2 HM.out hZ)
              refine wpList_nil ?_
              simp only [Act.put, List.setIfInBounds_toArray, List.set_cons_zero, List.set_cons_succ]
              go_wp2
              go_ret
              exact ⟨rfl, HZ.out⟩
          · have HL1 := Lib.hid (Bool.eq_false_iff.2 hl)
            have HBF := Lib.hid (show be = false by rw [hwl, HL1.out, Bool.false_and])
            clear hl hwl
            refine wp_region_plan [is (.pointer (some ⟨w9.heap.size, 1, none⟩)), is (.slice D2 (p.drop x).e.length n2), is (.slice Aw (dropL p.e x).length kw), is (.bool true), is (.bool true), is (.pointer (some ⟨w9.heap.size, 0, none⟩)), is (.slice D1 (p.drop x).v.length n1), is (.pointer (some ⟨w.heap.size, 0, none⟩)), is (.slice A1 p.v.length k1), is (.bool true), is (.bool true), is (.bool true), is (.pointer (some ⟨w.heap.size, 0, none⟩)), is (.slice A1 p.v.length k1), is (.int .i64 x), is (.bool bi), is (.pointer (some ⟨w.heap.size, 0, none⟩)), is (.slice A1 p.v.length k1), is (.int .i64 x), is (.bool bi), is (.bool true), is (.bool true), is (.bool true), is (.agg #[.slice A1 p.v.length k1, .slice A2 p.e.length k2]), is (.agg #[.slice A3 q.v.length k3, .slice A4 q.e.length k4]), is (.bool bs), is (.agg #[.slice A1 p.v.length k1, .slice A2 p.e.length k2]), is (.agg #[.slice A3 q.v.length k3, .slice A4 q.e.length k4]), is (.bool bs), is (.bool true), is (.bool true), is (.bool true), is (.agg #[.slice A1 p.v.length k1, .slice A2 p.e.length k2]), is (.agg #[.slice A3 q.v.length k3, .slice A4 q.e.length k4]), is (.bool be), is (.pointer (some ⟨g7, 0, none⟩)), is (.slice B1 (p.and q).v.length m1), is (.int .i64 ((p.and q).v.length : Int)), is (.pointer (some ⟨w.heap.size, 0, none⟩)), is (.slice A1 p.v.length k1), is (.int .i64 (p.v.length : Int)), is (.bool false), is (.bool false), is undef, is undef, is undef, is undef, is undef, is undef, is undef, is (.bool false), is (.bool true), is (.bool true), is (.bool true)] (by kernel_rfl) (by kernel_rfl) ?_ ?_
            · skip
              refine StepsP.cons ?_ ?_
              · refine step_val (fun a wx hB O D => ?_)
                have e11 : a.tmps[11]? = some (.pointer (some ⟨w9.heap.size, 0, none⟩)) := O 11 (by rfl)
                clear O D
                exact ⟨rfl, by go_simp⟩
              refine StepsP.cons ?_ ?_
              · refine step_val (fun a wx hB O D => ?_)
                obtain ⟨_, e122, rfl⟩ := D 0 _ _ _ (by decide) rfl rfl rfl
                obtain ⟨c0, c1, _⟩ := X11.out.below hB
                clear O D
                exact ⟨rfl, by go_simp⟩
              refine StepsP.cons ?_ ?_
              · refine step_val (fun a wx hB O D => ?_)
                have e9 : a.tmps[9]? = some (.slice Aw (dropL p.e x).length kw) := O 9 (by rfl)
                clear O D
                exact ⟨rfl, by unfold execOp; simp only [ev e9]; rfl⟩
              refine StepsP.cons ?_ ?_
              · refine step_call (enters_of Try.func31 (by kernel_rfl) rfl) rfl rfl (fun a wx hB O D => ?_)
                obtain ⟨_, e123, rfl⟩ := D 1 _ _ _ (by decide) rfl rfl rfl
                obtain ⟨_, e124, rfl⟩ := D 2 _ _ _ (by decide) rfl rfl rfl
                refine ⟨rfl, #[.slice D2 (p.drop x).e.length n2, .slice Aw (dropL p.e x).length kw], by simp only [List.map_toArray, List.map_cons, List.map_nil, ev e123, ev e124] <;> rfl, ?_⟩
                exact (requal_any _ ((p.drop x).e) _ (dropL p.e x) _ (IDe.out.below hB) (HW.out.below hB) (by have := HDF.out; unfold Prt.few at *; omega)).mono fun _ _ ⟨he, n, hw⟩ => ⟨_, by rw [he, show decide ((p.drop x).e = dropL p.e x) = true from decide_eq_true rfl], by rw [hw]; exact below_drewN' _ _, rfl⟩
              refine StepsP.cons ?_ ?_
              · refine step_val (fun a wx hB O D => ?_)
                obtain ⟨_, e125, rfl⟩ := D 3 _ _ _ (by decide) rfl rfl rfl
                clear O D
                exact ⟨rfl, by unfold execOp; simp only [ev e125]; rfl⟩
              refine StepsP.cons ?_ ?_
              · refine step_val (fun a wx hB O D => ?_)
                have e11 : a.tmps[11]? = some (.pointer (some ⟨w9.heap.size, 0, none⟩)) := O 11 (by rfl)
                obtain ⟨_, e126, rfl⟩ := D 4 _ _ _ (by decide) rfl rfl rfl
                clear O D
                exact ⟨wanted_of rfl rfl e126 rfl, by go_simp⟩
              refine StepsP.cons ?_ ?_
              · refine step_val (fun a wx hB O D => ?_)
                obtain ⟨_, e127, rfl⟩ := D 5 _ _ _ (by decide) rfl rfl rfl
                obtain ⟨_, e126, rfl⟩ := D 4 _ _ _ (by decide) rfl rfl rfl
                obtain ⟨c0, c1, _⟩ := X11.out.below hB
                clear O D
                exact ⟨wanted_of rfl rfl e126 rfl, by go_simp⟩
              refine StepsP.cons ?_ ?_
              · refine step_val (fun a wx hB O D => ?_)
                have e3 : a.tmps[3]? = some (.pointer (some ⟨w.heap.size, 0, none⟩)) := O 3 (by rfl)
                obtain ⟨_, e126, rfl⟩ := D 4 _ _ _ (by decide) rfl rfl rfl
                clear O D
                exact ⟨wanted_of rfl rfl e126 rfl, by go_simp⟩
              refine StepsP.cons ?_ ?_
              · refine step_val (fun a wx hB O D => ?_)
                obtain ⟨_, e129, rfl⟩ := D 7 _ _ _ (by decide) rfl rfl rfl
                obtain ⟨_, e126, rfl⟩ := D 4 _ _ _ (by decide) rfl rfl rfl
                obtain ⟨c0, c1, _⟩ := X0.out.below hB
                clear O D
                exact ⟨wanted_of rfl rfl e126 rfl, by go_simp⟩
              refine StepsP.cons ?_ ?_
              · refine step_call (enters_of Try.func31 (by kernel_rfl) rfl) rfl rfl (fun a wx hB O D => ?_)
                obtain ⟨_, e128, rfl⟩ := D 6 _ _ _ (by decide) rfl rfl rfl
                obtain ⟨_, e130, rfl⟩ := D 8 _ _ _ (by decide) rfl rfl rfl
                obtain ⟨_, e126, rfl⟩ := D 4 _ _ _ (by decide) rfl rfl rfl
                refine ⟨wanted_of rfl rfl e126 rfl, #[.slice D1 (p.drop x).v.length n1, .slice A1 p.v.length k1], by simp only [List.map_toArray, List.map_cons, List.map_nil, ev e128, ev e130] <;> rfl, ?_⟩
                exact (requal_any _ ((p.drop x).v) _ (p.v) _ (IDv.out.below hB) (IPv.out.below hB) (by have := HDF.out; unfold Prt.few at *; omega)).mono fun _ _ ⟨he, n, hw⟩ => ⟨_, by rw [he, show decide ((p.drop x).v = p.v) = true from decide_eq_true rfl], by rw [hw]; exact below_drewN' _ _, rfl⟩
              refine StepsP.cons ?_ ?_
              · refine step_val (fun a wx hB O D => ?_)
                obtain ⟨_, e126, rfl⟩ := D 4 _ _ _ (by decide) rfl rfl rfl
                obtain ⟨_, e131, rfl⟩ := D 9 _ _ _ (by decide) rfl rfl rfl
                clear O D
                exact ⟨rfl, by go_simp⟩
              refine StepsP.cons ?_ ?_
              · refine step_val (fun a wx hB O D => ?_)
                obtain ⟨_, e132, rfl⟩ := D 10 _ _ _ (by decide) rfl rfl rfl
                clear O D
                exact ⟨rfl, by unfold execOp; simp only [ev e132]; rfl⟩
              refine StepsP.cons ?_ ?_
              · refine step_val (fun a wx hB O D => ?_)
                have e3 : a.tmps[3]? = some (.pointer (some ⟨w.heap.size, 0, none⟩)) := O 3 (by rfl)
                obtain ⟨_, e133, rfl⟩ := D 11 _ _ _ (by decide) rfl rfl rfl
                clear O D
                exact ⟨wanted_of rfl rfl e133 rfl, by go_simp⟩
              refine StepsP.cons ?_ ?_
              · refine step_val (fun a wx hB O D => ?_)
                obtain ⟨_, e134, rfl⟩ := D 12 _ _ _ (by decide) rfl rfl rfl
                obtain ⟨_, e133, rfl⟩ := D 11 _ _ _ (by decide) rfl rfl rfl
                obtain ⟨c0, c1, _⟩ := X0.out.below hB
                clear O D
                exact ⟨wanted_of rfl rfl e133 rfl, by go_simp⟩
              refine StepsP.cons ?_ ?_
              · refine step_val (fun a wx hB O D => ?_)
                have e2 : a.tmps[2]? = some (.int .i64 x) := O 2 (by rfl)
                obtain ⟨_, e133, rfl⟩ := D 11 _ _ _ (by decide) rfl rfl rfl
                clear O D
                exact ⟨wanted_of rfl rfl e133 rfl, by unfold execOp; simp only [ev e2]; rfl⟩
              refine StepsP.cons ?_ ?_
              · refine step_call (enters_of Try.func23 (by kernel_rfl) rfl) rfl rfl (fun a wx hB O D => ?_)
                obtain ⟨_, e135, rfl⟩ := D 13 _ _ _ (by decide) rfl rfl rfl
                obtain ⟨_, e136, rfl⟩ := D 14 _ _ _ (by decide) rfl rfl rfl
                obtain ⟨_, e133, rfl⟩ := D 11 _ _ _ (by decide) rfl rfl rfl
                refine ⟨wanted_of rfl rfl e133 rfl, #[.slice A1 p.v.length k1, .int .i64 x], by simp only [List.map_toArray, List.map_cons, List.map_nil, ev e135, ev e136] <;> rfl, ?_⟩
                exact (has_any _ p.v x _ (IPv.out.below hB) HUP.out.1 HPF.out.1).mono fun _ _ ⟨he, hb⟩ => ⟨_, by rw [he, HBI.out], hb, rfl⟩
              refine StepsP.cons ?_ ?_
              · refine step_val (fun a wx hB O D => ?_)
                have e3 : a.tmps[3]? = some (.pointer (some ⟨w.heap.size, 0, none⟩)) := O 3 (by rfl)
                obtain ⟨_, e133, rfl⟩ := D 11 _ _ _ (by decide) rfl rfl rfl
                clear O D
                exact ⟨wanted_of rfl rfl e133 rfl, by go_simp⟩
              refine StepsP.cons ?_ ?_
              · refine step_val (fun a wx hB O D => ?_)
                obtain ⟨_, e138, rfl⟩ := D 16 _ _ _ (by decide) rfl rfl rfl
                obtain ⟨_, e133, rfl⟩ := D 11 _ _ _ (by decide) rfl rfl rfl
                obtain ⟨c0, c1, _⟩ := X0.out.below hB
                clear O D
                exact ⟨wanted_of rfl rfl e133 rfl, by go_simp⟩
              refine StepsP.cons ?_ ?_
              · refine step_val (fun a wx hB O D => ?_)
                have e2 : a.tmps[2]? = some (.int .i64 x) := O 2 (by rfl)
                obtain ⟨_, e133, rfl⟩ := D 11 _ _ _ (by decide) rfl rfl rfl
                clear O D
                exact ⟨wanted_of rfl rfl e133 rfl, by unfold execOp; simp only [ev e2]; rfl⟩
              refine StepsP.cons ?_ ?_
              · refine step_call (enters_of Try.func16 (by kernel_rfl) rfl) rfl rfl (fun a wx hB O D => ?_)
                obtain ⟨_, e139, rfl⟩ := D 17 _ _ _ (by decide) rfl rfl rfl
                obtain ⟨_, e140, rfl⟩ := D 18 _ _ _ (by decide) rfl rfl rfl
                obtain ⟨_, e133, rfl⟩ := D 11 _ _ _ (by decide) rfl rfl rfl
                refine ⟨wanted_of rfl rfl e133 rfl, #[.slice A1 p.v.length k1, .int .i64 x], by simp only [List.map_toArray, List.map_cons, List.map_nil, ev e139, ev e140] <;> rfl, ?_⟩
                exact (in_any _ p.v x _ (IPv.out.below hB) HPF.out.1).mono fun _ _ ⟨he, hw⟩ => ⟨_, by rw [he, HBI.out], hw ▸ Below.refl _ _, rfl⟩
              refine StepsP.cons ?_ ?_
              · refine step_val (fun a wx hB O D => ?_)
                obtain ⟨_, e137, rfl⟩ := D 15 _ _ _ (by decide) rfl rfl rfl
                obtain ⟨_, e141, rfl⟩ := D 19 _ _ _ (by decide) rfl rfl rfl
                obtain ⟨_, e133, rfl⟩ := D 11 _ _ _ (by decide) rfl rfl rfl
                have hbb : (bi == bi) = true := by simp
                clear O D
                exact ⟨wanted_of rfl rfl e133 rfl, by go_simp⟩
              refine StepsP.cons ?_ ?_
              · refine step_val (fun a wx hB O D => ?_)
                obtain ⟨_, e133, rfl⟩ := D 11 _ _ _ (by decide) rfl rfl rfl
                obtain ⟨_, e142, rfl⟩ := D 20 _ _ _ (by decide) rfl rfl rfl
                clear O D
                exact ⟨rfl, by go_simp⟩
              refine StepsP.cons ?_ ?_
              · refine step_val (fun a wx hB O D => ?_)
                obtain ⟨_, e143, rfl⟩ := D 21 _ _ _ (by decide) rfl rfl rfl
                clear O D
                exact ⟨rfl, by unfold execOp; simp only [ev e143]; rfl⟩
              refine StepsP.cons ?_ ?_
              · refine step_val (fun a wx hB O D => ?_)
                have e3 : a.tmps[3]? = some (.pointer (some ⟨w.heap.size, 0, none⟩)) := O 3 (by rfl)
                obtain ⟨_, e144, rfl⟩ := D 22 _ _ _ (by decide) rfl rfl rfl
                obtain ⟨c0, c1, _⟩ := X0.out.below hB
                clear O D
                exact ⟨wanted_of rfl rfl e144 rfl, by go_simp⟩
              refine StepsP.cons ?_ ?_
              · refine step_val (fun a wx hB O D => ?_)
                have e4 : a.tmps[4]? = some (.pointer (some ⟨w.heap.size + 1, 0, none⟩)) := O 4 (by rfl)
                obtain ⟨_, e144, rfl⟩ := D 22 _ _ _ (by decide) rfl rfl rfl
                obtain ⟨c0, c1, _⟩ := X1.out.below hB
                clear O D
                exact ⟨wanted_of rfl rfl e144 rfl, by go_simp⟩
              refine StepsP.cons ?_ ?_
              · refine step_call (enters_of Try.func24 (by kernel_rfl) rfl) rfl rfl (fun a wx hB O D => ?_)
                obtain ⟨_, e145, rfl⟩ := D 23 _ _ _ (by decide) rfl rfl rfl
                obtain ⟨_, e146, rfl⟩ := D 24 _ _ _ (by decide) rfl rfl rfl
                obtain ⟨_, e144, rfl⟩ := D 22 _ _ _ (by decide) rfl rfl rfl
                refine ⟨wanted_of rfl rfl e144 rfl, #[.agg #[.slice A1 p.v.length k1, .slice A2 p.e.length k2], .agg #[.slice A3 q.v.length k3, .slice A4 q.e.length k4]], by simp only [List.map_toArray, List.map_cons, List.map_nil, ev e145, ev e146] <;> rfl, ?_⟩
                exact (same_any _ _ p q _ (HP.out.below hB) (HQ.out.below hB) HPF.out.1 HPF.out.2 HQF.out.1 HQF.out.2).mono fun _ _ ⟨he, hb⟩ => ⟨_, by rw [he, HBS.out], hb, rfl⟩
              refine StepsP.cons ?_ ?_
              · refine step_val (fun a wx hB O D => ?_)
                have e3 : a.tmps[3]? = some (.pointer (some ⟨w.heap.size, 0, none⟩)) := O 3 (by rfl)
                obtain ⟨_, e144, rfl⟩ := D 22 _ _ _ (by decide) rfl rfl rfl
                obtain ⟨c0, c1, _⟩ := X0.out.below hB
                clear O D
                exact ⟨wanted_of rfl rfl e144 rfl, by go_simp⟩
              refine StepsP.cons ?_ ?_
              · refine step_val (fun a wx hB O D => ?_)
                have e4 : a.tmps[4]? = some (.pointer (some ⟨w.heap.size + 1, 0, none⟩)) := O 4 (by rfl)
                obtain ⟨_, e144, rfl⟩ := D 22 _ _ _ (by decide) rfl rfl rfl
                obtain ⟨c0, c1, _⟩ := X1.out.below hB
                clear O D
                exact ⟨wanted_of rfl rfl e144 rfl, by go_simp⟩
              refine StepsP.cons ?_ ?_
              · refine step_call (enters_of Try.func27 (by kernel_rfl) rfl) rfl rfl (fun a wx hB O D => ?_)
                obtain ⟨_, e148, rfl⟩ := D 26 _ _ _ (by decide) rfl rfl rfl
                obtain ⟨_, e149, rfl⟩ := D 27 _ _ _ (by decide) rfl rfl rfl
                obtain ⟨_, e144, rfl⟩ := D 22 _ _ _ (by decide) rfl rfl rfl
                refine ⟨wanted_of rfl rfl e144 rfl, #[.agg #[.slice A1 p.v.length k1, .slice A2 p.e.length k2], .agg #[.slice A3 q.v.length k3, .slice A4 q.e.length k4]], by simp only [List.map_toArray, List.map_cons, List.map_nil, ev e148, ev e149] <;> rfl, ?_⟩
                exact (rsame_any _ _ p q _ (HP.out.below hB) (HQ.out.below hB) (by have := HPF.out.1; omega) (by have := HPF.out.2; omega)).mono fun _ _ ⟨he, hb⟩ => ⟨_, by rw [he, HBS.out], hb, rfl⟩
              refine StepsP.cons ?_ ?_
              · refine step_val (fun a wx hB O D => ?_)
                obtain ⟨_, e147, rfl⟩ := D 25 _ _ _ (by decide) rfl rfl rfl
                obtain ⟨_, e150, rfl⟩ := D 28 _ _ _ (by decide) rfl rfl rfl
                obtain ⟨_, e144, rfl⟩ := D 22 _ _ _ (by decide) rfl rfl rfl
                have hbb : (bs == bs) = true := by simp
                clear O D
                exact ⟨wanted_of rfl rfl e144 rfl, by go_simp⟩
              refine StepsP.cons ?_ ?_
              · refine step_val (fun a wx hB O D => ?_)
                obtain ⟨_, e144, rfl⟩ := D 22 _ _ _ (by decide) rfl rfl rfl
                obtain ⟨_, e151, rfl⟩ := D 29 _ _ _ (by decide) rfl rfl rfl
                clear O D
                exact ⟨rfl, by go_simp⟩
              refine StepsP.cons ?_ ?_
              · refine step_val (fun a wx hB O D => ?_)
                obtain ⟨_, e152, rfl⟩ := D 30 _ _ _ (by decide) rfl rfl rfl
                clear O D
                exact ⟨rfl, by unfold execOp; simp only [ev e152]; rfl⟩
              refine StepsP.cons ?_ ?_
              · refine step_val (fun a wx hB O D => ?_)
                have e3 : a.tmps[3]? = some (.pointer (some ⟨w.heap.size, 0, none⟩)) := O 3 (by rfl)
                obtain ⟨_, e153, rfl⟩ := D 31 _ _ _ (by decide) rfl rfl rfl
                obtain ⟨c0, c1, _⟩ := X0.out.below hB
                clear O D
                exact ⟨wanted_of rfl rfl e153 rfl, by go_simp⟩
              refine StepsP.cons ?_ ?_
              · refine step_val (fun a wx hB O D => ?_)
                have e4 : a.tmps[4]? = some (.pointer (some ⟨w.heap.size + 1, 0, none⟩)) := O 4 (by rfl)
                obtain ⟨_, e153, rfl⟩ := D 31 _ _ _ (by decide) rfl rfl rfl
                obtain ⟨c0, c1, _⟩ := X1.out.below hB
                clear O D
                exact ⟨wanted_of rfl rfl e153 rfl, by go_simp⟩
              refine StepsP.cons ?_ ?_
              · refine step_call (enters_of Try.func22 (by kernel_rfl) rfl) rfl rfl (fun a wx hB O D => ?_)
                obtain ⟨_, e154, rfl⟩ := D 32 _ _ _ (by decide) rfl rfl rfl
                obtain ⟨_, e155, rfl⟩ := D 33 _ _ _ (by decide) rfl rfl rfl
                obtain ⟨_, e153, rfl⟩ := D 31 _ _ _ (by decide) rfl rfl rfl
                refine ⟨wanted_of rfl rfl e153 rfl, #[.agg #[.slice A1 p.v.length k1, .slice A2 p.e.length k2], .agg #[.slice A3 q.v.length k3, .slice A4 q.e.length k4]], by simp only [List.map_toArray, List.map_cons, List.map_nil, ev e154, ev e155] <;> rfl, ?_⟩
                exact (within_any _ _ p q _ (HP.out.below hB) (HQ.out.below hB) HPF.out HQF.out).mono fun _ _ ⟨he, hb⟩ => ⟨_, by rw [he, HBE.out], hb, rfl⟩
              refine StepsP.cons ?_ ?_
              · refine step_val (fun a wx hB O D => ?_)
                have e7 : a.tmps[7]? = some (.pointer (some ⟨g7, 0, none⟩)) := O 7 (by rfl)
                obtain ⟨_, e153, rfl⟩ := D 31 _ _ _ (by decide) rfl rfl rfl
                clear O D
                exact ⟨wanted_of rfl rfl e153 rfl, by go_simp⟩
              refine StepsP.cons ?_ ?_
              · refine step_val (fun a wx hB O D => ?_)
                obtain ⟨_, e157, rfl⟩ := D 35 _ _ _ (by decide) rfl rfl rfl
                obtain ⟨_, e153, rfl⟩ := D 31 _ _ _ (by decide) rfl rfl rfl
                obtain ⟨c0, c1, _⟩ := X7.out.below hB
                clear O D
                exact ⟨wanted_of rfl rfl e153 rfl, by go_simp⟩
              refine StepsP.cons ?_ ?_
              · refine step_val (fun a wx hB O D => ?_)
                obtain ⟨_, e158, rfl⟩ := D 36 _ _ _ (by decide) rfl rfl rfl
                obtain ⟨_, e153, rfl⟩ := D 31 _ _ _ (by decide) rfl rfl rfl
                clear O D
                exact ⟨wanted_of rfl rfl e153 rfl, by go_simp⟩
              refine StepsP.cons ?_ ?_
              · refine step_val (fun a wx hB O D => ?_)
                have e3 : a.tmps[3]? = some (.pointer (some ⟨w.heap.size, 0, none⟩)) := O 3 (by rfl)
                obtain ⟨_, e153, rfl⟩ := D 31 _ _ _ (by decide) rfl rfl rfl
                clear O D
                exact ⟨wanted_of rfl rfl e153 rfl, by go_simp⟩
              refine StepsP.cons ?_ ?_
              · refine step_val (fun a wx hB O D => ?_)
                obtain ⟨_, e160, rfl⟩ := D 38 _ _ _ (by decide) rfl rfl rfl
                obtain ⟨_, e153, rfl⟩ := D 31 _ _ _ (by decide) rfl rfl rfl
                obtain ⟨c0, c1, _⟩ := X0.out.below hB
                clear O D
                exact ⟨wanted_of rfl rfl e153 rfl, by go_simp⟩
              refine StepsP.cons ?_ ?_
              · refine step_val (fun a wx hB O D => ?_)
                obtain ⟨_, e161, rfl⟩ := D 39 _ _ _ (by decide) rfl rfl rfl
                obtain ⟨_, e153, rfl⟩ := D 31 _ _ _ (by decide) rfl rfl rfl
                clear O D
                exact ⟨wanted_of rfl rfl e153 rfl, by go_simp⟩
              refine StepsP.cons ?_ ?_
              · refine step_val (fun a wx hB O D => ?_)
                obtain ⟨_, e159, rfl⟩ := D 37 _ _ _ (by decide) rfl rfl rfl
                obtain ⟨_, e162, rfl⟩ := D 40 _ _ _ (by decide) rfl rfl rfl
                obtain ⟨_, e153, rfl⟩ := D 31 _ _ _ (by decide) rfl rfl rfl
                have h41 := HL1.out
                clear O D
                exact ⟨wanted_of rfl rfl e153 rfl, by go_simp⟩
              refine StepsP.cons ?_ ?_
              · refine step_val (fun a wx hB O D => ?_)
                obtain ⟨_, e163, rfl⟩ := D 41 _ _ _ (by decide) rfl rfl rfl
                obtain ⟨_, e153, rfl⟩ := D 31 _ _ _ (by decide) rfl rfl rfl
                clear O D
                exact ⟨wanted_of rfl rfl e153 rfl, by unfold execOp; simp only [ev e163]; rfl⟩
              refine StepsP.cons ?_ ?_
              · exact step_skip rfl rfl rfl (by decide) rfl rfl rfl
              refine StepsP.cons ?_ ?_
              · exact step_skip rfl rfl rfl (by decide) rfl rfl rfl
              refine StepsP.cons ?_ ?_
              · exact step_skip rfl rfl rfl (by decide) rfl rfl rfl
              refine StepsP.cons ?_ ?_
              · exact step_skip rfl rfl rfl (by decide) rfl rfl rfl
              refine StepsP.cons ?_ ?_
              · exact step_skip rfl rfl rfl (by decide) rfl rfl rfl
              refine StepsP.cons ?_ ?_
              · exact step_skip rfl rfl rfl (by decide) rfl rfl rfl
              refine StepsP.cons ?_ ?_
              · exact step_skip rfl rfl rfl (by decide) rfl rfl rfl
              refine StepsP.cons ?_ ?_
              · refine step_val (fun a wx hB O D => ?_)
                obtain ⟨_, e164, rfl⟩ := D 42 _ _ _ (by decide) rfl rfl rfl
                obtain ⟨_, e171, rfl⟩ := D 49 _ _ _ (by decide) rfl rfl rfl
                obtain ⟨_, e153, rfl⟩ := D 31 _ _ _ (by decide) rfl rfl rfl
                clear O D
                exact ⟨wanted_of rfl rfl e153 rfl, by go_simp⟩
              refine StepsP.cons ?_ ?_
              · refine step_val (fun a wx hB O D => ?_)
                obtain ⟨_, e156, rfl⟩ := D 34 _ _ _ (by decide) rfl rfl rfl
                obtain ⟨_, e172, rfl⟩ := D 50 _ _ _ (by decide) rfl rfl rfl
                obtain ⟨_, e153, rfl⟩ := D 31 _ _ _ (by decide) rfl rfl rfl
                have hbb : be = false := HBF.out
                clear O D
                exact ⟨wanted_of rfl rfl e153 rfl, by go_simp⟩
              refine StepsP.cons ?_ ?_
              · refine step_val (fun a wx hB O D => ?_)
                obtain ⟨_, e153, rfl⟩ := D 31 _ _ _ (by decide) rfl rfl rfl
                obtain ⟨_, e173, rfl⟩ := D 51 _ _ _ (by decide) rfl rfl rfl
                clear O D
                exact ⟨rfl, by go_simp⟩
              refine StepsP.cons ?_ ?_
              · refine step_val (fun a wx hB O D => ?_)
                obtain ⟨_, e174, rfl⟩ := D 52 _ _ _ (by decide) rfl rfl rfl
                clear O D
                exact ⟨rfl, by unfold execOp; simp only [ev e174]; rfl⟩
              exact StepsP.nil
            · intro wz hZ
              refine EndP.is ?_
              refine EndP.is ?_
              refine EndP.is ?_
              refine EndP.is ?_
              refine EndP.is ?_
              refine EndP.is ?_
              refine EndP.is ?_
              refine EndP.is ?_
              refine EndP.is ?_
              refine EndP.is ?_
              refine EndP.is ?_
              refine EndP.is ?_
              refine EndP.is ?_
              refine EndP.is ?_
              refine EndP.is ?_
              refine EndP.is ?_
              refine EndP.is ?_
              refine EndP.is ?_
              refine EndP.is ?_
              refine EndP.is ?_
              refine EndP.is ?_
              refine EndP.is ?_
              refine EndP.is ?_
              refine EndP.is ?_
              refine EndP.is ?_
              refine EndP.is ?_
              refine EndP.is ?_
              refine EndP.is ?_
              refine EndP.is ?_
              refine EndP.is ?_
              refine EndP.is ?_
              refine EndP.is ?_
              refine EndP.is ?_
              refine EndP.is ?_
              refine EndP.is ?_
              refine EndP.is ?_
              refine EndP.is ?_
              refine EndP.is ?_
              refine EndP.is ?_
              refine EndP.is ?_
              refine EndP.is ?_
              refine EndP.is ?_
              refine EndP.is ?_
              refine EndP.is ?_
              refine EndP.is ?_
              refine EndP.is ?_
              refine EndP.is ?_
              refine EndP.is ?_
              refine EndP.is ?_
              refine EndP.is ?_
              refine EndP.is ?_
              refine EndP.is ?_
              refine EndP.is ?_
              refine EndP.is ?_
              refine EndP.nil ?_
              have HZ := Lib.hid (trans2 HM.out hZ)
              refine wpList_nil ?_
              simp only [Act.put, List.setIfInBounds_toArray, List.set_cons_zero, List.set_cons_succ]
              go_wp2
              go_ret
              exact ⟨rfl, HZ.out⟩

end Go.Proofs.Ytpcjdkldonikfaa
