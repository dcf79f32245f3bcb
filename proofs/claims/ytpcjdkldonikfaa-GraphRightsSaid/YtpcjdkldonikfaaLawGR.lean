/-
  GraphRights: whether any graph, and any part, is right is the document's; so are the darts, and the ends: the law's call answers true at every input.
-/
import Derived.Test.YtpcjdkldonikfaaLawGP
import Derived.Test.YtpcjdkldonikfaaLawGT
namespace Go.Proofs.Ytpcjdkldonikfaa
open Go.RowKit

set_option maxRecDepth 100000 in
set_option maxHeartbeats 8000000 in
theorem graphRights_any (v : Value) (g : Gph) (u : Value) (p : Prt) (x d : Int) (w : World) (h : Gr w v g) (h' : Pt w u p) (hlo : -9223372036854775808 ≤ d) (hhi : d ≤ 9223372036854775807) :
    Calls Try.prog 5 #[v, u, .int .i64 x, .int .i64 d] w fun o w' => o = .returned (.bool true) ∧ Below w.heap.size w w' := by
  have HG := Lib.hid h
  have HP := Lib.hid h'
  obtain ⟨ve, rfl, h1⟩ := h
  obtain ⟨Ae, ce, rfl⟩ := h1.form
  obtain ⟨vv, vp, rfl, h2, h3⟩ := h'
  obtain ⟨A1, k1, rfl⟩ := ints_form h2
  obtain ⟨A2, k2, rfl⟩ := ints_form h3
  obtain ⟨b1, b2, hm⟩ := two_boxes w (.int .i64 g.n) (.slice Ae g.e.length ce) (.slice A1 p.v.length k1) (.slice A2 p.e.length k2) 24 29
  have X0 := Lib.hid b1
  have X1 := Lib.hid b2
  have HM := Lib.hid hm
  replace HG := Lib.hid (HG.out.below hm)
  replace HP := Lib.hid (HP.out.below hm)
  clear b1 b2 hm h1 h2 h3
  go_enter Try.func5, Try.ntmps5
  go_wp2_with fail
  generalize (w.alloc (.cells #[.int .i64 g.n, .slice Ae g.e.length ce] 24)).alloc (.cells #[.slice A1 p.v.length k1, .slice A2 p.e.length k2] 29) = w1 at *
  refine (awake_any w1).mono ?_
  rintro o w2 ⟨rfl, hB⟩
  replace HG := Lib.hid (HG.out.below hB)
  replace HP := Lib.hid (HP.out.below hB)
  replace X0 := Lib.hid (X0.out.below hB)
  replace X1 := Lib.hid (X1.out.below hB)
  replace HM := Lib.hid (trans2 HM.out hB)
  clear hB
  have c0 := X0.out.c0
  have c1 := X0.out.c1
  have d0 := X1.out.c0
  have d1 := X1.out.c1
  go_wp2_with fail
  refine (small_any _ _ g p w2 HG.out HP.out).mono ?_
  rintro o w3 ⟨rfl, hB⟩
  replace HG := Lib.hid (HG.out.below hB)
  replace HP := Lib.hid (HP.out.below hB)
  replace X0 := Lib.hid (X0.out.below hB)
  replace X1 := Lib.hid (X1.out.below hB)
  replace HM := Lib.hid (trans2 HM.out hB)
  clear hB c0 c1 d0 d1
  by_cases hs : smallB g p = true
  case neg =>
    have e1 : smallI g p = 0 := if_neg hs
    rw [e1]
    clear e1 hs
    go_wp2_with fail
    refine (awake_any w3).mono ?_
    rintro o w4 ⟨rfl, hB4⟩
    go_wp2
    go_ret
    exact ⟨rfl, trans2 HM.out hB4⟩
  have e1 : smallI g p = 1 := if_pos hs
  obtain ⟨hlen, hlv, hle, hn60⟩ := of_decide_eq_true hs
  rw [e1]
  clear e1 hs
  go_wp2_with fail
  refine wp_region_plan [is (.agg #[.int .i64 g.n, .slice Ae g.e.length ce]), is (.int .i64 g.err), is (.agg #[.int .i64 g.n, .slice Ae g.e.length ce]), is (.int .i64 g.err), is (.bool false), is (.bool false), is (.agg #[.int .i64 g.n, .slice Ae g.e.length ce]), is (.agg #[.slice A1 p.v.length k1, .slice A2 p.e.length k2]), is (.int .i64 (perr g p)), is (.agg #[.int .i64 g.n, .slice Ae g.e.length ce]), is (.agg #[.slice A1 p.v.length k1, .slice A2 p.e.length k2]), is (.int .i64 (perr g p)), is (.bool false), is (.bool false)] (by kernel_rfl) (by kernel_rfl) ?_ ?_
  · skip
    refine StepsP.cons ?_ ?_
    · refine step_val (fun a wx hB O D => ?_)
      have e4 : a.tmps[4]? = some (.pointer (some ⟨w.heap.size, 0, none⟩)) := O 4 (by rfl)
      obtain ⟨c0, c1, _⟩ := X0.out.below hB
      clear O D
      exact ⟨rfl, by go_simp⟩
    refine StepsP.cons ?_ ?_
    · refine step_call (enters_of Try.func12 (by kernel_rfl) rfl) rfl rfl (fun a wx hB O D => ?_)
      obtain ⟨_, e22, rfl⟩ := D 0 _ _ _ (by decide) rfl rfl rfl
      refine ⟨rfl, #[.agg #[.int .i64 g.n, .slice Ae g.e.length ce]], by simp only [List.map_toArray, List.map_cons, List.map_nil, ev e22] <;> rfl, ?_⟩
      exact (right_any _ g _ (HG.out.below hB) (by omega)).mono fun _ _ ⟨he, hb⟩ => ⟨_, he, hb, rfl⟩
    refine StepsP.cons ?_ ?_
    · refine step_val (fun a wx hB O D => ?_)
      have e4 : a.tmps[4]? = some (.pointer (some ⟨w.heap.size, 0, none⟩)) := O 4 (by rfl)
      obtain ⟨c0, c1, _⟩ := X0.out.below hB
      clear O D
      exact ⟨rfl, by go_simp⟩
    refine StepsP.cons ?_ ?_
    · refine step_call (enters_of Try.func25 (by kernel_rfl) rfl) rfl rfl (fun a wx hB O D => ?_)
      obtain ⟨_, e24, rfl⟩ := D 2 _ _ _ (by decide) rfl rfl rfl
      refine ⟨rfl, #[.agg #[.int .i64 g.n, .slice Ae g.e.length ce]], by simp only [List.map_toArray, List.map_cons, List.map_nil, ev e24] <;> rfl, ?_⟩
      exact (rright_any _ g _ (HG.out.below hB) (by omega)).mono fun _ _ ⟨he, hb⟩ => ⟨_, he, hb, rfl⟩
    refine StepsP.cons ?_ ?_
    · refine step_val (fun a wx hB O D => ?_)
      obtain ⟨_, e23, rfl⟩ := D 1 _ _ _ (by decide) rfl rfl rfl
      obtain ⟨_, e25, rfl⟩ := D 3 _ _ _ (by decide) rfl rfl rfl
      clear O D
      exact ⟨rfl, by go_simp⟩
    refine StepsP.cons ?_ ?_
    · refine step_val (fun a wx hB O D => ?_)
      obtain ⟨_, e26, rfl⟩ := D 4 _ _ _ (by decide) rfl rfl rfl
      clear O D
      exact ⟨rfl, by unfold execOp; simp only [ev e26]; rfl⟩
    refine StepsP.cons ?_ ?_
    · refine step_val (fun a wx hB O D => ?_)
      have e4 : a.tmps[4]? = some (.pointer (some ⟨w.heap.size, 0, none⟩)) := O 4 (by rfl)
      obtain ⟨_, e27, rfl⟩ := D 5 _ _ _ (by decide) rfl rfl rfl
      obtain ⟨c0, c1, _⟩ := X0.out.below hB
      clear O D
      exact ⟨wanted_of rfl rfl e27 rfl, by go_simp⟩
    refine StepsP.cons ?_ ?_
    · refine step_val (fun a wx hB O D => ?_)
      have e5 : a.tmps[5]? = some (.pointer (some ⟨w.heap.size + 1, 0, none⟩)) := O 5 (by rfl)
      obtain ⟨_, e27, rfl⟩ := D 5 _ _ _ (by decide) rfl rfl rfl
      obtain ⟨c0, c1, _⟩ := X1.out.below hB
      clear O D
      exact ⟨wanted_of rfl rfl e27 rfl, by go_simp⟩
    refine StepsP.cons ?_ ?_
    · refine step_call (enters_of Try.func18 (by kernel_rfl) rfl) rfl rfl (fun a wx hB O D => ?_)
      obtain ⟨_, e28, rfl⟩ := D 6 _ _ _ (by decide) rfl rfl rfl
      obtain ⟨_, e29, rfl⟩ := D 7 _ _ _ (by decide) rfl rfl rfl
      obtain ⟨_, e27, rfl⟩ := D 5 _ _ _ (by decide) rfl rfl rfl
      refine ⟨wanted_of rfl rfl e27 rfl, #[.agg #[.int .i64 g.n, .slice Ae g.e.length ce], .agg #[.slice A1 p.v.length k1, .slice A2 p.e.length k2]], by simp only [List.map_toArray, List.map_cons, List.map_nil, ev e28, ev e29] <;> rfl, ?_⟩
      exact (rightPart_any _ _ g p _ (HG.out.below hB) (HP.out.below hB) (by omega) (by omega) (by omega)).mono fun _ _ ⟨he, hb⟩ => ⟨_, he, hb, rfl⟩
    refine StepsP.cons ?_ ?_
    · refine step_val (fun a wx hB O D => ?_)
      have e4 : a.tmps[4]? = some (.pointer (some ⟨w.heap.size, 0, none⟩)) := O 4 (by rfl)
      obtain ⟨_, e27, rfl⟩ := D 5 _ _ _ (by decide) rfl rfl rfl
      obtain ⟨c0, c1, _⟩ := X0.out.below hB
      clear O D
      exact ⟨wanted_of rfl rfl e27 rfl, by go_simp⟩
    refine StepsP.cons ?_ ?_
    · refine step_val (fun a wx hB O D => ?_)
      have e5 : a.tmps[5]? = some (.pointer (some ⟨w.heap.size + 1, 0, none⟩)) := O 5 (by rfl)
      obtain ⟨_, e27, rfl⟩ := D 5 _ _ _ (by decide) rfl rfl rfl
      obtain ⟨c0, c1, _⟩ := X1.out.below hB
      clear O D
      exact ⟨wanted_of rfl rfl e27 rfl, by go_simp⟩
    refine StepsP.cons ?_ ?_
    · refine step_call (enters_of Try.func26 (by kernel_rfl) rfl) rfl rfl (fun a wx hB O D => ?_)
      obtain ⟨_, e31, rfl⟩ := D 9 _ _ _ (by decide) rfl rfl rfl
      obtain ⟨_, e32, rfl⟩ := D 10 _ _ _ (by decide) rfl rfl rfl
      obtain ⟨_, e27, rfl⟩ := D 5 _ _ _ (by decide) rfl rfl rfl
      refine ⟨wanted_of rfl rfl e27 rfl, #[.agg #[.int .i64 g.n, .slice Ae g.e.length ce], .agg #[.slice A1 p.v.length k1, .slice A2 p.e.length k2]], by simp only [List.map_toArray, List.map_cons, List.map_nil, ev e31, ev e32] <;> rfl, ?_⟩
      exact (rrightPart_any _ _ g p _ (HG.out.below hB) (HP.out.below hB) (by omega) (by omega) (by omega)).mono fun _ _ ⟨he, hb⟩ => ⟨_, he, hb, rfl⟩
    refine StepsP.cons ?_ ?_
    · refine step_val (fun a wx hB O D => ?_)
      obtain ⟨_, e30, rfl⟩ := D 8 _ _ _ (by decide) rfl rfl rfl
      obtain ⟨_, e33, rfl⟩ := D 11 _ _ _ (by decide) rfl rfl rfl
      obtain ⟨_, e27, rfl⟩ := D 5 _ _ _ (by decide) rfl rfl rfl
      clear O D
      exact ⟨wanted_of rfl rfl e27 rfl, by go_simp⟩
    refine StepsP.cons ?_ ?_
    · refine step_val (fun a wx hB O D => ?_)
      obtain ⟨_, e27, rfl⟩ := D 5 _ _ _ (by decide) rfl rfl rfl
      obtain ⟨_, e34, rfl⟩ := D 12 _ _ _ (by decide) rfl rfl rfl
      clear O D
      exact ⟨rfl, by go_simp⟩
    exact StepsP.nil
  · intro wz hZ
    refine EndP.is ?_
    refine EndP.is ?_
    refine EndP.is ?_
    refine EndP.is ?_
    refine EndP.is ?_
    refine EndP.is ?_
    refine EndP.is ?_
    refine EndP.is ?_
    refine EndP.is ?_
    refine EndP.is ?_
    refine EndP.is ?_
    refine EndP.is ?_
    refine EndP.is ?_
    refine EndP.is ?_
    refine EndP.nil ?_
    refine wpList_nil ?_
    simp only [Act.put, List.setIfInBounds_toArray, List.set_cons_zero, List.set_cons_succ]
    replace HG := Lib.hid (HG.out.below hZ)
    replace HP := Lib.hid (HP.out.below hZ)
    replace X0 := Lib.hid (X0.out.below hZ)
    replace X1 := Lib.hid (X1.out.below hZ)
    replace HM := Lib.hid (trans2 HM.out hZ)
    clear hZ
    have c0 := X0.out.c0
    have c1 := X0.out.c1
    have d0 := X1.out.c0
    have d1 := X1.out.c1
    go_wp2_with fail
    refine (darts_any _ _ g p x wz HG.out HP.out (by omega) (by omega) (by omega)).mono ?_
    rintro o w5 ⟨r, rfl, hB, hR⟩
    have HR := Lib.hid (Row.ints hR)
    obtain ⟨Ar, kr, rfl⟩ := ints_form HR.out
    replace HG := Lib.hid (HG.out.below hB)
    replace HP := Lib.hid (HP.out.below hB)
    replace X0 := Lib.hid (X0.out.below hB)
    replace X1 := Lib.hid (X1.out.below hB)
    replace HM := Lib.hid (trans2 HM.out hB)
    clear hB hR c0 c1 d0 d1
    have c0 := X0.out.c0
    have c1 := X0.out.c1
    have HDL := Lib.hid (show (dartsOf g p x).length ≤ 4000000 by
      unfold dartsOf
      split
      · have := dartsL_len g x p.e; omega
      · simp)
    go_wp2_with fail
    refine (ends_any _ g d w5 HG.out (by omega)).mono ?_
    rintro o w6 ⟨rfl, hB⟩
    replace HG := Lib.hid (HG.out.below hB)
    replace HP := Lib.hid (HP.out.below hB)
    replace X0 := Lib.hid (X0.out.below hB)
    replace X1 := Lib.hid (X1.out.below hB)
    replace HR := Lib.hid (HR.out.below hB)
    replace HM := Lib.hid (trans2 HM.out hB)
    clear hB c0 c1
    have c0 := X0.out.c0
    have c1 := X0.out.c1
    by_cases he : g.err = 0
    case neg =>
      have HEN := Lib.hid (show endsOf g d = .tuple #[.int .i64 0, .int .i64 0, .bool false] from if_neg (fun h => he h.1))
      have HPE := Lib.hid (show perr g p = g.err from if_neg he)
      have HDZ := Lib.hid (show dartsOf g p x = [] from if_neg (by rw [HPE.out]; exact he))
      have HWZ := Lib.hid (show g.whole = ⟨[], []⟩ from if_neg he)
      rw [HEN.out]
      go_wp2_with fail
      refine (rright_any _ g w6 HG.out (by omega)).mono ?_
      rintro o w7 ⟨rfl, hB⟩
      have he' : (g.err != 0) = true := by simpa using he
      replace HG := Lib.hid (HG.out.below hB)
      replace X0 := Lib.hid (X0.out.below hB)
      replace HR := Lib.hid (HR.out.below hB)
      replace HM := Lib.hid (trans2 HM.out hB)
      clear hB c0 c1 he
      generalize g.err = ge at *
      have c0 := X0.out.c0
      have c1 := X0.out.c1
      rw [HDZ.out]
      simp only [List.length_nil]
      go_wp2_with fail
      refine (whole_any _ g w7 HG.out (by omega)).mono ?_
      rintro o w8 ⟨r, rfl, hB, hW⟩
      have HB8 := Lib.hid (trans2 HM.out hB)
      have HW := Lib.hid (show Pt w8 r g.whole from hW)
      clear hB hW
      go_wp2_with fail
      refine (same_any _ _ g.whole ⟨[], []⟩ w8 HW.out Pt.nil (by rw [HWZ.out]; simp) (by rw [HWZ.out]; simp) (by simp) (by simp)).mono ?_
      rintro o w9 ⟨rfl, hB⟩
      rw [show sameB g.whole ⟨[], []⟩ = true by rw [HWZ.out]; rfl]
      go_wp2
      go_ret
      exact ⟨rfl, trans2 HB8.out hB⟩
    have HN60 := Lib.hid (show g.n ≤ 60 by have := err_n he; omega)
    have hn60' := HN60.out
    have HNN := Lib.hid (show g.n = (g.n.toNat : Int) by have := err_n0 he; omega)
    have HWH := Lib.hid (show g.whole = ⟨countTo g.n.toNat, countTo g.e.length⟩ from if_pos he)
    have HWF := Lib.hid (whole_few (g := g) (by omega))
    obtain ⟨ea, eb, ok, HEQ, HOK⟩ : ∃ (ea eb : Int) (ok : Bool), Hid (endsOf g d = .tuple #[.int .i64 ea, .int .i64 eb, .bool ok]) ∧ Hid ((ok = true ∧ 0 ≤ d ∧ d < 2 * (g.e.length : Int) ∧ ea = tailOf g d.toNat ∧ eb = headOf g d.toNat) ∨ (ok = false ∧ (d < 0 ∨ 2 * (g.e.length : Int) ≤ d))) := by
      by_cases hd : 0 ≤ d ∧ d < 2 * (g.e.length : Int)
      · exact ⟨_, _, true, if_pos ⟨he, hd⟩, .inl ⟨rfl, hd.1, hd.2, rfl, rfl⟩⟩
      · exact ⟨0, 0, false, if_neg (fun h => hd h.2), .inr ⟨rfl, by omega⟩⟩
    rw [HEQ.out]
    go_wp2_with fail
    refine (rright_any _ g w6 HG.out (by omega)).mono ?_
    rintro o w7 ⟨rfl, hB⟩
    rw [he]
    replace HG := Lib.hid (HG.out.below hB)
    replace HP := Lib.hid (HP.out.below hB)
    replace X0 := Lib.hid (X0.out.below hB)
    replace X1 := Lib.hid (X1.out.below hB)
    replace HR := Lib.hid (HR.out.below hB)
    replace HM := Lib.hid (trans2 HM.out hB)
    clear hB c0 c1
    go_wp2_with fail
    refine wp_region_plan [is (.pointer (some ⟨w.heap.size, 0, none⟩)), is (.int .i64 g.n), is (.bool true), is (.bool true), is (.agg #[.int .i64 g.n, .slice Ae g.e.length ce]), spPt g.whole, is (.agg #[.int .i64 g.n, .slice Ae g.e.length ce]), spPt g.whole, is (.bool true), is (.bool false), is (.bool false)] (by kernel_rfl) (by kernel_rfl) ?_ ?_
    · skip
      refine StepsP.cons ?_ ?_
      · refine step_val (fun a wx hB O D => ?_)
        have e4 : a.tmps[4]? = some (.pointer (some ⟨w.heap.size, 0, none⟩)) := O 4 (by rfl)
        clear O D
        exact ⟨rfl, by go_simp⟩
      refine StepsP.cons ?_ ?_
      · refine step_val (fun a wx hB O D => ?_)
        obtain ⟨_, e63, rfl⟩ := D 0 _ _ _ (by decide) rfl rfl rfl
        obtain ⟨c0, c1, _⟩ := X0.out.below hB
        clear O D
        exact ⟨rfl, by go_simp⟩
      refine StepsP.cons ?_ ?_
      · refine step_val (fun a wx hB O D => ?_)
        obtain ⟨_, e64, rfl⟩ := D 1 _ _ _ (by decide) rfl rfl rfl
        have h60 := HN60.out
        clear O D
        exact ⟨rfl, by go_simp⟩
      refine StepsP.cons ?_ ?_
      · refine step_val (fun a wx hB O D => ?_)
        obtain ⟨_, e65, rfl⟩ := D 2 _ _ _ (by decide) rfl rfl rfl
        clear O D
        exact ⟨rfl, by unfold execOp; simp only [ev e65]; rfl⟩
      refine StepsP.cons ?_ ?_
      · refine step_val (fun a wx hB O D => ?_)
        have e4 : a.tmps[4]? = some (.pointer (some ⟨w.heap.size, 0, none⟩)) := O 4 (by rfl)
        obtain ⟨_, e66, rfl⟩ := D 3 _ _ _ (by decide) rfl rfl rfl
        obtain ⟨c0, c1, _⟩ := X0.out.below hB
        clear O D
        exact ⟨wanted_of rfl rfl e66 rfl, by go_simp⟩
      refine StepsP.cons ?_ ?_
      · refine step_call (enters_of Try.func15 (by kernel_rfl) rfl) rfl rfl (fun a wx hB O D => ?_)
        obtain ⟨_, e67, rfl⟩ := D 4 _ _ _ (by decide) rfl rfl rfl
        obtain ⟨_, e66, rfl⟩ := D 3 _ _ _ (by decide) rfl rfl rfl
        refine ⟨wanted_of rfl rfl e66 rfl, #[.agg #[.int .i64 g.n, .slice Ae g.e.length ce]], by simp only [List.map_toArray, List.map_cons, List.map_nil, ev e67] <;> rfl, ?_⟩
        exact whole_any _ g _ (HG.out.below hB) (by omega)
      refine StepsP.cons ?_ ?_
      · refine step_val (fun a wx hB O D => ?_)
        have e4 : a.tmps[4]? = some (.pointer (some ⟨w.heap.size, 0, none⟩)) := O 4 (by rfl)
        obtain ⟨_, e66, rfl⟩ := D 3 _ _ _ (by decide) rfl rfl rfl
        obtain ⟨c0, c1, _⟩ := X0.out.below hB
        clear O D
        exact ⟨wanted_of rfl rfl e66 rfl, by go_simp⟩
      refine StepsP.cons ?_ ?_
      · refine step_call (enters_of Try.func28 (by kernel_rfl) rfl) rfl rfl (fun a wx hB O D => ?_)
        obtain ⟨_, e69, rfl⟩ := D 6 _ _ _ (by decide) rfl rfl rfl
        obtain ⟨_, e66, rfl⟩ := D 3 _ _ _ (by decide) rfl rfl rfl
        refine ⟨wanted_of rfl rfl e66 rfl, #[.agg #[.int .i64 g.n, .slice Ae g.e.length ce]], by simp only [List.map_toArray, List.map_cons, List.map_nil, ev e69] <;> rfl, ?_⟩
        rw [HWH.out]; exact rwhole_any _ g g.n.toNat _ (HG.out.below hB) HNN.out (by omega) (by omega)
      refine StepsP.cons ?_ ?_
      · refine step_call (enters_of Try.func27 (by kernel_rfl) rfl) rfl rfl (fun a wx hB O D => ?_)
        obtain ⟨v68, e68, s68⟩ := D 5 _ _ _ (by decide) rfl rfl rfl
        obtain ⟨v70, e70, s70⟩ := D 7 _ _ _ (by decide) rfl rfl rfl
        obtain ⟨_, e66, rfl⟩ := D 3 _ _ _ (by decide) rfl rfl rfl
        refine ⟨wanted_of rfl rfl e66 rfl, #[v68, v70], by simp only [List.map_toArray, List.map_cons, List.map_nil, ev e68, ev e70] <;> rfl, ?_⟩
        exact (rsame_any _ _ g.whole g.whole _ s68 s70 (by have := HWF.out.1; omega) (by have := HWF.out.2; omega)).mono fun _ _ ⟨he, hb⟩ => ⟨_, by rw [he, sameB_self], hb, rfl⟩
      refine StepsP.cons ?_ ?_
      · refine step_val (fun a wx hB O D => ?_)
        obtain ⟨_, e71, rfl⟩ := D 8 _ _ _ (by decide) rfl rfl rfl
        obtain ⟨_, e66, rfl⟩ := D 3 _ _ _ (by decide) rfl rfl rfl
        clear O D
        exact ⟨wanted_of rfl rfl e66 rfl, by go_simp⟩
      refine StepsP.cons ?_ ?_
      · refine step_val (fun a wx hB O D => ?_)
        obtain ⟨_, e66, rfl⟩ := D 3 _ _ _ (by decide) rfl rfl rfl
        obtain ⟨_, e72, rfl⟩ := D 9 _ _ _ (by decide) rfl rfl rfl
        clear O D
        exact ⟨rfl, by go_simp⟩
      exact StepsP.nil
    · intro wz hZ
      refine EndP.is ?_
      refine EndP.is ?_
      refine EndP.is ?_
      refine EndP.is ?_
      refine EndP.is ?_
      refine EndP.sp rfl (fun v68 s68 => ?_)
      refine EndP.is ?_
      refine EndP.sp rfl (fun v70 s70 => ?_)
      refine EndP.is ?_
      refine EndP.is ?_
      refine EndP.is ?_
      refine EndP.nil ?_
      refine wpList_nil ?_
      simp only [Act.put, List.setIfInBounds_toArray, List.set_cons_zero, List.set_cons_succ]
      replace HG := Lib.hid (HG.out.below hZ)
      replace HP := Lib.hid (HP.out.below hZ)
      replace X0 := Lib.hid (X0.out.below hZ)
      replace X1 := Lib.hid (X1.out.below hZ)
      replace HR := Lib.hid (HR.out.below hZ)
      replace HM := Lib.hid (trans2 HM.out hZ)
      clear hZ s68 s70
      have c0 := X0.out.c0
      have c1 := X0.out.c1
      rcases HOK.out with ⟨rfl, q0, q1, rfl, rfl⟩ | ⟨rfl, q0⟩
      · obtain ⟨k, rfl⟩ : ∃ k : Nat, d = (k : Int) := ⟨d.toNat, by omega⟩
        simp only [Int.toNat_natCast]
        have hq : (k : Int).tdiv 2 = ((k / 2 : Nat) : Int) := quo_nat k
        have hlt : ((k / 2 : Nat) : Int) < (g.e.length : Int) := by omega
        have hlt' : k / 2 < g.e.length := by omega
        have hk2 : k < 2 * g.e.length := by omega
        have ht : (tailOf g k != tailOf g k) = false := by simp
        have hh : (headOf g k != headOf g k) = false := by simp
        have HTL := Lib.hid (fun (v : Value) w (h : Gr w v g) => tail_any v g k w h hk2 (by omega))
        have HHD := Lib.hid (fun (v : Value) w (h : Gr w v g) => head_any v g k w h hk2 (by omega))
        clear q0 q1 HEQ HOK
        generalize tailOf g k = ta at *
        generalize headOf g k = hd at *
        generalize k / 2 = k2 at *
        go_wp2_with fail
        refine (HTL.out _ _ HG.out).mono ?_
        rintro o w10 ⟨rfl, hB⟩
        replace HG := Lib.hid (HG.out.below hB)
        replace HP := Lib.hid (HP.out.below hB)
        replace X0 := Lib.hid (X0.out.below hB)
        replace X1 := Lib.hid (X1.out.below hB)
        replace HR := Lib.hid (HR.out.below hB)
        replace HM := Lib.hid (trans2 HM.out hB)
        clear hB c0 c1
        have c0 := X0.out.c0
        have c1 := X0.out.c1
        go_wp2_with fail
        refine (HHD.out _ _ HG.out).mono ?_
        rintro o w11 ⟨rfl, hB⟩
        replace HG := Lib.hid (HG.out.below hB)
        replace HP := Lib.hid (HP.out.below hB)
        replace X0 := Lib.hid (X0.out.below hB)
        replace X1 := Lib.hid (X1.out.below hB)
        replace HR := Lib.hid (HR.out.below hB)
        replace HM := Lib.hid (trans2 HM.out hB)
        clear hB c0 c1 HTL HHD
        have c0 := X0.out.c0
        have c1 := X0.out.c1
        have d0 := X1.out.c0
        have d1 := X1.out.c1
        go_wp2_with fail
        refine (rrightPart_any _ _ g p w11 HG.out HP.out (by omega) (by omega) (by omega)).mono ?_
        rintro o w20 ⟨rfl, hB⟩
        replace HG := Lib.hid (HG.out.below hB)
        replace HP := Lib.hid (HP.out.below hB)
        replace X0 := Lib.hid (X0.out.below hB)
        replace X1 := Lib.hid (X1.out.below hB)
        replace HR := Lib.hid (HR.out.below hB)
        replace HM := Lib.hid (trans2 HM.out hB)
        clear hB c0 c1 d0 d1
        by_cases hr : perr g p = 0
        · rw [hr]
          have HRR := Lib.hid (perr_rises hr).2.2.1
          have HDE := Lib.hid (show dartsOf g p x = dartsL g x p.e from if_pos hr)
          have c0 := X0.out.c0
          have c1 := X0.out.c1
          have d0 := X1.out.c0
          have d1 := X1.out.c1
          clear hr
          go_wp2_with fail
          refine (rdarts_any _ _ g p x w20 HG.out HP.out (by omega) (by omega) HRR.out).mono ?_
          rintro o w21 ⟨r, rfl, hB, hR2⟩
          replace HR := Lib.hid (HR.out.below hB)
          replace HM := Lib.hid (trans2 HM.out hB)
          have HR2 := Lib.hid (Row.ints hR2)
          clear hB hR2
          go_wp2_with fail
          refine (requal_any _ (dartsOf g p x) _ (dartsL g x p.e) w21 HR.out HR2.out HDL.out).mono ?_
          rintro o w22 ⟨rfl, q, rfl⟩
          rw [show decide (dartsOf g p x = dartsL g x p.e) = true from decide_eq_true HDE.out]
          go_wp2
          go_ret
          exact ⟨rfl, below_drewN HM.out q⟩
        · have HDZ := Lib.hid (show dartsOf g p x = [] from if_neg hr)
          have hr' : (perr g p != 0) = true := by simpa using hr
          clear hr
          generalize perr g p = pe at *
          rw [HDZ.out]
          simp only [List.length_nil]
          go_wp2
          go_ret
          exact ⟨rfl, HM.out⟩
      · clear HEQ HOK
        by_cases hd : d < 0
        · have hdn : decide (0 ≤ d) = false := decide_eq_false (by omega)
          have c0 := X0.out.c0
          have c1 := X0.out.c1
          have d0 := X1.out.c0
          have d1 := X1.out.c1
          go_wp2_with fail
          refine (rrightPart_any _ _ g p wz HG.out HP.out (by omega) (by omega) (by omega)).mono ?_
          rintro o w20 ⟨rfl, hB⟩
          replace HG := Lib.hid (HG.out.below hB)
          replace HP := Lib.hid (HP.out.below hB)
          replace X0 := Lib.hid (X0.out.below hB)
          replace X1 := Lib.hid (X1.out.below hB)
          replace HR := Lib.hid (HR.out.below hB)
          replace HM := Lib.hid (trans2 HM.out hB)
          clear hB c0 c1 d0 d1
          by_cases hr : perr g p = 0
          · rw [hr]
            have HRR := Lib.hid (perr_rises hr).2.2.1
            have HDE := Lib.hid (show dartsOf g p x = dartsL g x p.e from if_pos hr)
            have c0 := X0.out.c0
            have c1 := X0.out.c1
            have d0 := X1.out.c0
            have d1 := X1.out.c1
            clear hr
            go_wp2_with fail
            refine (rdarts_any _ _ g p x w20 HG.out HP.out (by omega) (by omega) HRR.out).mono ?_
            rintro o w21 ⟨r, rfl, hB, hR2⟩
            replace HR := Lib.hid (HR.out.below hB)
            replace HM := Lib.hid (trans2 HM.out hB)
            have HR2 := Lib.hid (Row.ints hR2)
            clear hB hR2
            go_wp2_with fail
            refine (requal_any _ (dartsOf g p x) _ (dartsL g x p.e) w21 HR.out HR2.out HDL.out).mono ?_
            rintro o w22 ⟨rfl, q, rfl⟩
            rw [show decide (dartsOf g p x = dartsL g x p.e) = true from decide_eq_true HDE.out]
            go_wp2
            go_ret
            exact ⟨rfl, below_drewN HM.out q⟩
          · have HDZ := Lib.hid (show dartsOf g p x = [] from if_neg hr)
            have hr' : (perr g p != 0) = true := by simpa using hr
            clear hr
            generalize perr g p = pe at *
            rw [HDZ.out]
            simp only [List.length_nil]
            go_wp2
            go_ret
            exact ⟨rfl, HM.out⟩
        · have hdn : decide (0 ≤ d) = true := decide_eq_true (by omega)
          have hq : d.tdiv 2 = d / 2 := Int.tdiv_eq_ediv_of_nonneg (by omega)
          have hd0 : 0 ≤ d := by omega
          have hq2 : d / 2 ≤ 9223372036854775807 := by omega
          have hdx : decide (d / 2 < (g.e.length : Int)) = false := decide_eq_false (by omega)
          have hdy : ¬ d / 2 < (g.e.length : Int) := by omega
          have c0 := X0.out.c0
          have c1 := X0.out.c1
          have d0 := X1.out.c0
          have d1 := X1.out.c1
          go_wp2_with fail
          refine (rrightPart_any _ _ g p wz HG.out HP.out (by omega) (by omega) (by omega)).mono ?_
          rintro o w20 ⟨rfl, hB⟩
          replace HG := Lib.hid (HG.out.below hB)
          replace HP := Lib.hid (HP.out.below hB)
          replace X0 := Lib.hid (X0.out.below hB)
          replace X1 := Lib.hid (X1.out.below hB)
          replace HR := Lib.hid (HR.out.below hB)
          replace HM := Lib.hid (trans2 HM.out hB)
          clear hB c0 c1 d0 d1
          by_cases hr : perr g p = 0
          · rw [hr]
            have HRR := Lib.hid (perr_rises hr).2.2.1
            have HDE := Lib.hid (show dartsOf g p x = dartsL g x p.e from if_pos hr)
            have c0 := X0.out.c0
            have c1 := X0.out.c1
            have d0 := X1.out.c0
            have d1 := X1.out.c1
            clear hr
            go_wp2_with fail
            refine (rdarts_any _ _ g p x w20 HG.out HP.out (by omega) (by omega) HRR.out).mono ?_
            rintro o w21 ⟨r, rfl, hB, hR2⟩
            replace HR := Lib.hid (HR.out.below hB)
            replace HM := Lib.hid (trans2 HM.out hB)
            have HR2 := Lib.hid (Row.ints hR2)
            clear hB hR2
            go_wp2_with fail
            refine (requal_any _ (dartsOf g p x) _ (dartsL g x p.e) w21 HR.out HR2.out HDL.out).mono ?_
            rintro o w22 ⟨rfl, q, rfl⟩
            rw [show decide (dartsOf g p x = dartsL g x p.e) = true from decide_eq_true HDE.out]
            go_wp2
            go_ret
            exact ⟨rfl, below_drewN HM.out q⟩
          · have HDZ := Lib.hid (show dartsOf g p x = [] from if_neg hr)
            have hr' : (perr g p != 0) = true := by simpa using hr
            clear hr
            generalize perr g p = pe at *
            rw [HDZ.out]
            simp only [List.length_nil]
            go_wp2
            go_ret
            exact ⟨rfl, HM.out⟩

end Go.Proofs.Ytpcjdkldonikfaa
