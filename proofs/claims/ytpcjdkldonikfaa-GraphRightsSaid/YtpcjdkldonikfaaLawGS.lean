/-
  GraphSpans: any edges with their ends are the document's, or refused: the law's call answers true at every input.
-/
import Derived.Test.YtpcjdkldonikfaaGrW
namespace Go.Proofs.Ytpcjdkldonikfaa
open Go.RowKit

theorem span_few (g : Gph) (l : List Int) (hl : l.length ≤ 1000000) (h : g.err = 0) : (g.span l).few := by
  have := filter_len g l g.n.toNat
  have := err_n h
  exact ⟨Nat.le_trans (filter_len g l g.n.toNat) (by omega), hl⟩
theorem sameB_self (p : Prt) : sameB p p = true := (sameB_iff p p).2 rfl

set_option maxRecDepth 100000 in
set_option maxHeartbeats 4000000 in
theorem graphSpans_any (v : Value) (g : Gph) (u : Value) (l : List Int) (w : World) (h : Gr w v g) (h' : Ints w u l) :
    Calls Try.prog 7 #[v, u] w fun e w' => e = .returned (.bool true) ∧ Below w.heap.size w w' := by
  have HG := Lib.hid h
  obtain ⟨ve, rfl, h1⟩ := h
  obtain ⟨Ae, ce, rfl⟩ := h1.form
  obtain ⟨Al, cl, rfl⟩ := ints_form h'
  obtain ⟨b1, hm⟩ := one_box w (.int .i64 g.n) (.slice Ae g.e.length ce) 24
  have HB1 := Lib.hid b1
  have HG1 := Lib.hid (HG.out.below hm)
  have HL1 := Lib.hid (h'.below hm)
  have HM := Lib.hid hm
  clear b1 hm h1 HG h'
  go_enter Try.func7, Try.ntmps7
  go_wp2_with fail
  generalize w.alloc (.cells #[.int .i64 g.n, .slice Ae g.e.length ce] 24) = w1 at *
  refine (awake_any w1).mono ?_
  rintro e w2 ⟨rfl, hB2⟩
  have c0 := (HB1.out.below hB2).c0
  have c1 := (HB1.out.below hB2).c1
  have HG2 := Lib.hid (HG1.out.below hB2)
  have HL2 := Lib.hid (HL1.out.below hB2)
  have HB2 := Lib.hid hB2
  clear hB2
  go_wp2_with fail
  refine (small_any _ _ g ⟨[], l⟩ w2 HG2.out ⟨_, _, rfl, Ints.nil, HL2.out⟩).mono ?_
  rintro e w3 ⟨rfl, hB3⟩
  have HB3 := Lib.hid (trans2 HB2.out hB3)
  have HG3 := Lib.hid (HG2.out.below hB3)
  have HL3 := Lib.hid (HL2.out.below hB3)
  clear hB3 c0 c1 HB2 HG2 HL2
  by_cases hs : smallB g ⟨[], l⟩ = true
  case neg =>
    have e : smallI g ⟨[], l⟩ = 0 := if_neg hs
    rw [e]
    clear e hs
    go_wp2_with fail
    refine (awake_any w3).mono ?_
    rintro e w4 ⟨rfl, hB4⟩
    go_wp2
    go_ret
    exact ⟨rfl, trans2 HM.out (trans2 HB3.out hB4)⟩
  have e : smallI g ⟨[], l⟩ = 1 := if_pos hs
  obtain ⟨hlen, _, hll, hn60⟩ := of_decide_eq_true hs
  simp only at hll
  rw [e]
  have BB3 := HB1.out.below HB3.out
  have c0 := BB3.c0
  have c1 := BB3.c1
  clear e hs BB3
  go_wp2_with fail
  refine (span_any _ _ g l w3 HG3.out HL3.out (by omega) (by omega)).mono ?_
  rintro e w4 ⟨r, rfl, hB4, hP⟩
  obtain ⟨vv, vp, rfl, i1, i2⟩ := hP
  obtain ⟨A1, k1, rfl⟩ := ints_form i1
  obtain ⟨A2, k2, rfl⟩ := ints_form i2
  have hB5 := below_alloc (w := w4) (.cells #[.slice A1 (spanOf g l).v.length k1, .slice A2 (spanOf g l).e.length k2] 29)
  have hbx := (one_box w4 (.slice A1 (spanOf g l).v.length k1) (.slice A2 (spanOf g l).e.length k2) 29).1
  have HB5 := Lib.hid (trans2 (trans2 HB3.out hB4) hB5)
  have HG5 := Lib.hid (HG3.out.below (trans2 hB4 hB5))
  have HL5 := Lib.hid (HL3.out.below (trans2 hB4 hB5))
  have HP5 := Lib.hid (show Pt (w4.alloc (.cells #[.slice A1 (spanOf g l).v.length k1, .slice A2 (spanOf g l).e.length k2] 29)) (.agg #[.slice A1 (spanOf g l).v.length k1, .slice A2 (spanOf g l).e.length k2]) (spanOf g l) from ⟨_, _, rfl, i1.below hB5, i2.below hB5⟩)
  have HX5 := Lib.hid hbx
  have HX1 := Lib.hid (HB1.out.below HB5.out)
  have d0 := HX1.out.c0
  have d1 := HX1.out.c1
  clear hB4 hB5 hbx i1 i2 c0 c1 HB3 HG3 HL3
  go_wp2_with fail
  generalize w4.alloc (.cells #[.slice A1 (spanOf g l).v.length k1, .slice A2 (spanOf g l).e.length k2] 29) = w5 at *
  refine (rright_any _ g w5 HG5.out (by omega)).mono ?_
  rintro e w6 ⟨rfl, hB6⟩
  have HB6 := Lib.hid (trans2 HB5.out hB6)
  have HG6 := Lib.hid (HG5.out.below hB6)
  have HL6 := Lib.hid (HL5.out.below hB6)
  have HP6 := Lib.hid (HP5.out.below hB6)
  have HY5 := Lib.hid (HX5.out.below hB6)
  have HY1 := Lib.hid (HX1.out.below hB6)
  clear hB6 d0 d1 HB5 HG5 HL5 HP5 HX5 HX1
  by_cases he : g.err = 0
  · rw [he]
    have HN60 := Lib.hid (show g.n ≤ 60 by have := err_n he; omega)
    have d1 := HY1.out.c1
    go_wp2_with fail
    refine (rrises_any _ l g.e.length w6 HL6.out (by omega)).mono ?_
    rintro e w7 ⟨rfl, q, rfl⟩
    have hD := below_drewN' w6 q
    have HB5 := Lib.hid (trans2 HB6.out hD)
    have HG5 := Lib.hid (HG6.out.below hD)
    have HL5 := Lib.hid (HL6.out.below hD)
    have HP5 := Lib.hid (HP6.out.below hD)
    have HX5 := Lib.hid (HY5.out.below hD)
    have HX1 := Lib.hid (HY1.out.below hD)
    clear hD d1 HB6 HG6 HL6 HP6 HY5 HY1
    generalize w6.drewN q = w7 at *
    by_cases hr : riseB l g.e.length = true
    · have HSE := Lib.hid (show spanErr g l = 0 by unfold spanErr; rw [if_pos he, if_pos hr])
      have HSO := Lib.hid (show spanOf g l = g.span l from if_pos HSE.out)
      have HNN := Lib.hid (show g.n = (g.n.toNat : Int) by have := err_n0 he; omega)
      have HRL := Lib.hid (of_decide_eq_true hr : Rises l g.e.length)
      have hfw := span_few g l (by omega) he
      have HFL := Lib.hid (show (spanOf g l).v.length ≤ 4000000 ∧ (spanOf g l).e.length ≤ 4000000 by rw [HSO.out]; exact ⟨Nat.le_trans hfw.1 (by omega), Nat.le_trans hfw.2 (by omega)⟩)
      have HSM := Lib.hid (show sameB (spanOf g l) (g.span l) = true by rw [HSO.out]; exact sameB_self _)
      rw [hr, HSE.out]
      clear hfw hr he
      go_wp2_with fail
      · skip
        refine wp_region_plan [is (.int .i64 0), is (.bool true), is (.bool true), is (.agg #[.slice A1 (spanOf g l).v.length k1, .slice A2 (spanOf g l).e.length k2]), is (.agg #[.int .i64 g.n, .slice Ae g.e.length ce]), is (.slice Al l.length cl), spPt (g.span l), is (.bool true), is (.bool true), is (.bool true)] (by kernel_rfl) (by kernel_rfl) ?_ ?_
        · skip
          refine StepsP.cons ?_ ?_
          · refine step_val (fun a wx hB O D => ?_)
            have e6 : a.tmps[6]? = some (.int .i64 0) := O 6 (by rfl)
            clear O D
            exact ⟨rfl, by unfold execOp; simp only [ev e6]; rfl⟩
          refine StepsP.cons ?_ ?_
          · refine step_val (fun a wx hB O D => ?_)
            obtain ⟨_, e48, rfl⟩ := D 0 _ _ _ (by decide) rfl rfl rfl
            clear O D
            exact ⟨rfl, by go_simp⟩
          refine StepsP.cons ?_ ?_
          · refine step_val (fun a wx hB O D => ?_)
            obtain ⟨_, e49, rfl⟩ := D 1 _ _ _ (by decide) rfl rfl rfl
            clear O D
            exact ⟨rfl, by unfold execOp; simp only [ev e49]; rfl⟩
          refine StepsP.cons ?_ ?_
          · refine step_val (fun a wx hB O D => ?_)
            have e5 : a.tmps[5]? = some (.pointer (some ⟨w4.heap.size, 0, none⟩)) := O 5 (by rfl)
            obtain ⟨_, e50, rfl⟩ := D 2 _ _ _ (by decide) rfl rfl rfl
            obtain ⟨c0, c1, _⟩ := HX5.out.below hB
            clear O D
            exact ⟨wanted_of rfl rfl e50 rfl, by go_simp⟩
          refine StepsP.cons ?_ ?_
          · refine step_val (fun a wx hB O D => ?_)
            have e2 : a.tmps[2]? = some (.pointer (some ⟨w.heap.size, 0, none⟩)) := O 2 (by rfl)
            obtain ⟨_, e50, rfl⟩ := D 2 _ _ _ (by decide) rfl rfl rfl
            obtain ⟨c0, c1, _⟩ := HX1.out.below hB
            clear O D
            exact ⟨wanted_of rfl rfl e50 rfl, by go_simp⟩
          refine StepsP.cons ?_ ?_
          · refine step_val (fun a wx hB O D => ?_)
            have e1 : a.tmps[1]? = some (.slice Al l.length cl) := O 1 (by rfl)
            obtain ⟨_, e50, rfl⟩ := D 2 _ _ _ (by decide) rfl rfl rfl
            clear O D
            exact ⟨wanted_of rfl rfl e50 rfl, by unfold execOp; simp only [ev e1]; rfl⟩
          refine StepsP.cons ?_ ?_
          · refine step_call (enters_of Try.func36 (by kernel_rfl) rfl) rfl rfl (fun a wx hB O D => ?_)
            obtain ⟨_, e52, rfl⟩ := D 4 _ _ _ (by decide) rfl rfl rfl
            obtain ⟨_, e53, rfl⟩ := D 5 _ _ _ (by decide) rfl rfl rfl
            obtain ⟨_, e50, rfl⟩ := D 2 _ _ _ (by decide) rfl rfl rfl
            refine ⟨wanted_of rfl rfl e50 rfl, #[.agg #[.int .i64 g.n, .slice Ae g.e.length ce], .slice Al l.length cl], by simp only [List.map_toArray, List.map_cons, List.map_nil, ev e52, ev e53] <;> rfl, ?_⟩
            exact rspan_any _ _ g l g.n.toNat _ (HG5.out.below hB) (HL5.out.below hB) HNN.out (by have := HN60.out; omega) (by omega) HRL.out
          refine StepsP.cons ?_ ?_
          · refine step_call (enters_of Try.func27 (by kernel_rfl) rfl) rfl rfl (fun a wx hB O D => ?_)
            obtain ⟨_, e51, rfl⟩ := D 3 _ _ _ (by decide) rfl rfl rfl
            obtain ⟨v54, e54, s54⟩ := D 6 _ _ _ (by decide) rfl rfl rfl
            obtain ⟨_, e50, rfl⟩ := D 2 _ _ _ (by decide) rfl rfl rfl
            refine ⟨wanted_of rfl rfl e50 rfl, #[.agg #[.slice A1 (spanOf g l).v.length k1, .slice A2 (spanOf g l).e.length k2], v54], by simp only [List.map_toArray, List.map_cons, List.map_nil, ev e51, ev e54] <;> rfl, ?_⟩
            exact (rsame_any _ _ (spanOf g l) (g.span l) _ (HP5.out.below hB) s54 HFL.out.1 HFL.out.2).mono fun e w2 ⟨he, hw⟩ => ⟨_, by rw [he, HSM.out], hw, rfl⟩
          refine StepsP.cons ?_ ?_
          · refine step_val (fun a wx hB O D => ?_)
            obtain ⟨_, e50, rfl⟩ := D 2 _ _ _ (by decide) rfl rfl rfl
            obtain ⟨_, e55, rfl⟩ := D 7 _ _ _ (by decide) rfl rfl rfl
            clear O D
            exact ⟨rfl, by go_simp⟩
          refine StepsP.cons ?_ ?_
          · refine step_val (fun a wx hB O D => ?_)
            obtain ⟨_, e56, rfl⟩ := D 8 _ _ _ (by decide) rfl rfl rfl
            clear O D
            exact ⟨rfl, by unfold execOp; simp only [ev e56]; rfl⟩
          exact StepsP.nil
        · intro wz hZ
          refine EndP.is ?_
          refine EndP.is ?_
          refine EndP.is ?_
          refine EndP.is ?_
          refine EndP.is ?_
          refine EndP.is ?_
          refine EndP.sp rfl (fun v54 s54 => ?_)
          refine EndP.is ?_
          refine EndP.is ?_
          refine EndP.is ?_
          refine EndP.nil ?_
          have HZ := Lib.hid (trans2 HB5.out hZ)
          refine wpList_nil ?_
          simp only [Act.put, List.setIfInBounds_toArray, List.set_cons_zero, List.set_cons_succ]
          go_wp2
          go_ret
          exact ⟨rfl, trans2 HM.out HZ.out⟩
    · have HSE := Lib.hid (show spanErr g l = 4 by unfold spanErr; rw [if_pos he, if_neg hr])
      have HSO := Lib.hid (show spanOf g l = ⟨[], []⟩ from if_neg (by rw [HSE.out]; decide))
      rw [Bool.eq_false_iff.2 hr, HSE.out]
      have c0 := HX5.out.c0
      have c1 := HX5.out.c1
      have HPN := HP5
      clear hr he
      go_wp2_with fail
      refine (same_any _ _ (spanOf g l) ⟨[], []⟩ w7 HPN.out Pt.nil (by rw [HSO.out]; simp) (by rw [HSO.out]; simp) (by simp) (by simp)).mono ?_
      rintro e w8 ⟨rfl, hB8⟩
      rw [show sameB (spanOf g l) ⟨[], []⟩ = true by rw [HSO.out]; rfl]
      go_wp2
      go_ret
      exact ⟨rfl, trans2 HM.out (trans2 HB5.out hB8)⟩
  · have HSE := Lib.hid (show spanErr g l = g.err from if_neg he)
    have HSO := Lib.hid (show spanOf g l = ⟨[], []⟩ from if_neg (by rw [HSE.out]; exact he))
    have he' : (g.err != 0) = true := by simpa using he
    have d0 := HY1.out.c0
    have d1 := HY1.out.c1
    rw [HSE.out]
    obtain ⟨ge, hge⟩ : ∃ ge, g.err = ge := ⟨_, rfl⟩
    have HGE := Lib.hid hge
    rw [hge] at he' ⊢
    have hself : (ge == ge) = true := by simp
    clear he hge
    go_wp2_with fail
    refine (rright_any _ g w6 HG6.out (by omega)).mono ?_
    rintro e w7 ⟨rfl, hB7⟩
    rw [HGE.out]
    have hX := HY5.out.below hB7
    have x0 := hX.c0
    have x1 := hX.c1
    have HB7 := Lib.hid (trans2 HB6.out hB7)
    have HP7 := Lib.hid (HP6.out.below hB7)
    clear hB7 hX d0 d1
    go_wp2_with fail
    refine (same_any _ _ (spanOf g l) ⟨[], []⟩ w7 HP7.out Pt.nil (by rw [HSO.out]; simp) (by rw [HSO.out]; simp) (by simp) (by simp)).mono ?_
    rintro e w8 ⟨rfl, hB8⟩
    rw [show sameB (spanOf g l) ⟨[], []⟩ = true by rw [HSO.out]; rfl]
    go_wp2
    go_ret
    exact ⟨rfl, trans2 HM.out (trans2 HB7.out hB8)⟩

end Go.Proofs.Ytpcjdkldonikfaa
