/-
  GraphTwins: each dart leaves what its twin comes to: the law's call answers true at every input.
-/
import Derived.Test.YtpcjdkldonikfaaGrW
namespace Go.Proofs.Ytpcjdkldonikfaa
open Go.RowKit

theorem ends_ok {g : Gph} {k : Nat} (he : g.err = 0) (hk : k < 2 * g.e.length) : endsOf g (k : Int) = .tuple #[.int .i64 (tailOf g k), .int .i64 (headOf g k), .bool true] := by
  unfold endsOf
  rw [if_pos ⟨he, by omega, by omega⟩, Int.toNat_natCast]

set_option maxRecDepth 100000 in
set_option maxHeartbeats 4000000 in
theorem graphTwins_any (v : Value) (g : Gph) (d : Int) (w : World) (h : Gr w v g) (hlo : -9223372036854775808 ≤ d) (hhi : d ≤ 9223372036854775807) :
    Calls Try.prog 3 #[v, .int .i64 d] w fun e w' => e = .returned (.bool true) ∧ Below w.heap.size w w' := by
  have HG := Lib.hid h
  obtain ⟨ve, rfl, h1⟩ := h
  obtain ⟨Ae, ce, rfl⟩ := h1.form
  obtain ⟨b1, hm⟩ := one_box w (.int .i64 g.n) (.slice Ae g.e.length ce) 24
  have HB1 := Lib.hid b1
  have HG1 := Lib.hid (HG.out.below hm)
  have HM := Lib.hid hm
  clear b1 hm h1 HG
  go_enter Try.func3, Try.ntmps3
  go_wp2_with fail
  generalize w.alloc (.cells #[.int .i64 g.n, .slice Ae g.e.length ce] 24) = w1 at *
  refine (awake_any w1).mono ?_
  rintro e w2 ⟨rfl, hB2⟩
  have c0 := (HB1.out.below hB2).c0
  have c1 := (HB1.out.below hB2).c1
  have HG2 := Lib.hid (HG1.out.below hB2)
  have HB2 := Lib.hid hB2
  clear hB2
  go_wp2_with fail
  refine (small_any _ _ g ⟨[], []⟩ w2 HG2.out Pt.nil).mono ?_
  rintro e w3 ⟨rfl, hB3⟩
  have HB3 := Lib.hid (trans2 HB2.out hB3)
  have HG3 := Lib.hid (HG2.out.below hB3)
  clear hB3 c0 c1 HB2 HG2
  by_cases hs : smallB g ⟨[], []⟩ = true
  case neg =>
    have e : smallI g ⟨[], []⟩ = 0 := if_neg hs
    rw [e]
    clear e hs
    go_wp2_with fail
    refine (awake_any w3).mono ?_
    rintro e w4 ⟨rfl, hB4⟩
    go_wp2
    go_ret
    exact ⟨rfl, trans2 HM.out (trans2 HB3.out hB4)⟩
  have e : smallI g ⟨[], []⟩ = 1 := if_pos hs
  have hlen : g.e.length ≤ 60 := (of_decide_eq_true hs).1
  rw [e]
  have BB3 := HB1.out.below HB3.out
  have c0 := BB3.c0
  have c1 := BB3.c1
  clear e hs BB3
  go_wp2_with fail
  refine (ends_any _ g d w3 HG3.out (by omega)).mono ?_
  rintro e w4 ⟨rfl, hB4⟩
  have HB4 := Lib.hid (trans2 HB3.out hB4)
  have HG4 := Lib.hid (HG3.out.below hB4)
  clear hB4 HB3 HG3 c0 c1
  by_cases hok : g.err = 0 ∧ 0 ≤ d ∧ d < 2 * (g.e.length : Int)
  · obtain ⟨he, d0, d1⟩ := hok
    obtain ⟨k, rfl⟩ : ∃ k : Nat, d = (k : Int) := ⟨d.toNat, by omega⟩
    have hk : k < 2 * g.e.length := by omega
    rw [ends_ok he hk]
    have HEX := Lib.hid (ends_ok (k := twin k) he (twin_lt hk))
    have HFW := Lib.hid (whole_few (g := g) (by omega))
    have BX := Lib.hid (HB1.out.below HB4.out)
    have HGB := HG4
    have HTT := Lib.hid (show headOf g (twin k) = tailOf g k by unfold headOf; rw [twin_twin])
    have HHT := Lib.hid (show tailOf g (twin k) = headOf g k from rfl)
    have ew : g.whole = ⟨countTo g.n.toNat, countTo g.e.length⟩ := if_pos he
    have ed : dartsOf g g.whole (tailOf g k) = dartsL g (tailOf g k) (countTo g.e.length) := by
      unfold dartsOf
      rw [if_pos (whole_ok he), ew]
    have HIN := Lib.hid (show decide ((k : Int) ∈ dartsOf g g.whole (tailOf g k)) = true by rw [ed]; exact decide_eq_true (mem_darts g k hk))
    have HRS := Lib.hid (show riseB (dartsOf g g.whole (tailOf g k)) (2 * (g.e.length : Int)) = true by rw [ed]; exact decide_eq_true (rises_darts g _ _ _ (rises_countTo _)))
    have HDL := Lib.hid (show (dartsOf g g.whole (tailOf g k)).length ≤ 1000000 by rw [ed]; have := dartsL_len g (tailOf g k) (countTo g.e.length); rw [countTo_length] at this; omega)
    clear ew ed d0 d1
    go_wp2_with fail
    · skip
      refine wp_region_plan [is (.agg #[.int .i64 g.n, .slice Ae g.e.length ce]), is (.int .i64 (k : Int)), is (.int .i64 ((twin k : Nat) : Int)), is (.tuple #[.int .i64 (tailOf g (twin k)), .int .i64 (headOf g (twin k)), .bool true]), is (.tuple #[.int .i64 (tailOf g (twin k)), .int .i64 (headOf g (twin k)), .bool true]), is (.int .i64 (tailOf g (twin k))), is (.int .i64 (headOf g (twin k))), is (.bool true), is (.int .i64 (tailOf g (twin k))), is (.int .i64 (headOf g (twin k))), is (.bool true)] (by kernel_rfl) (by kernel_rfl) ?_ ?_
      · skip
        refine StepsP.cons ?_ ?_
        · refine step_val (fun a wx hB O D => ?_)
          have e2 : a.tmps[2]? = some (.pointer (some ⟨w.heap.size, 0, none⟩)) := O 2 (by rfl)
          obtain ⟨c0, c1, _⟩ := BX.out.below hB
          clear O D
          exact ⟨rfl, by go_simp⟩
        refine StepsP.cons ?_ ?_
        · refine step_val (fun a wx hB O D => ?_)
          have e1 : a.tmps[1]? = some (.int .i64 (k : Int)) := O 1 (by rfl)
          clear O D
          exact ⟨rfl, by unfold execOp; simp only [ev e1]; rfl⟩
        refine StepsP.cons ?_ ?_
        · refine step_call (enters_of Try.func13 (by kernel_rfl) rfl) rfl rfl (fun a wx hB O D => ?_)
          obtain ⟨_, e55, rfl⟩ := D 1 _ _ _ (by decide) rfl rfl rfl
          refine ⟨rfl, #[.int .i64 (k : Int)], by simp only [List.map_toArray, List.map_cons, List.map_nil, ev e55] <;> rfl, ?_⟩
          exact (twin_any k _ (by omega)).mono fun e w2 ⟨he, hw⟩ => ⟨_, he, hw ▸ Below.refl _ _, rfl⟩
        refine StepsP.cons ?_ ?_
        · refine step_call (enters_of Try.func11 (by kernel_rfl) rfl) rfl rfl (fun a wx hB O D => ?_)
          obtain ⟨_, e54, rfl⟩ := D 0 _ _ _ (by decide) rfl rfl rfl
          obtain ⟨_, e56, rfl⟩ := D 2 _ _ _ (by decide) rfl rfl rfl
          refine ⟨rfl, #[.agg #[.int .i64 g.n, .slice Ae g.e.length ce], .int .i64 ((twin k : Nat) : Int)], by simp only [List.map_toArray, List.map_cons, List.map_nil, ev e54, ev e56] <;> rfl, ?_⟩
          exact (ends_any _ g ((twin k : Nat) : Int) _ (HGB.out.below hB) (by omega)).mono fun e w2 ⟨he, hw⟩ => ⟨_, he, hw, HEX.out⟩
        refine StepsP.cons ?_ ?_
        · refine step_val (fun a wx hB O D => ?_)
          obtain ⟨_, e57, rfl⟩ := D 3 _ _ _ (by decide) rfl rfl rfl
          clear O D
          exact ⟨rfl, by unfold execOp; simp only [ev e57]; rfl⟩
        refine StepsP.cons ?_ ?_
        · refine step_val (fun a wx hB O D => ?_)
          obtain ⟨_, e53, rfl⟩ := D 4 _ _ _ (by decide) rfl rfl rfl
          clear O D
          exact ⟨rfl, by go_simp⟩
        refine StepsP.cons ?_ ?_
        · refine step_val (fun a wx hB O D => ?_)
          obtain ⟨_, e53, rfl⟩ := D 4 _ _ _ (by decide) rfl rfl rfl
          clear O D
          exact ⟨rfl, by go_simp⟩
        refine StepsP.cons ?_ ?_
        · refine step_val (fun a wx hB O D => ?_)
          obtain ⟨_, e53, rfl⟩ := D 4 _ _ _ (by decide) rfl rfl rfl
          clear O D
          exact ⟨rfl, by go_simp⟩
        refine StepsP.cons ?_ ?_
        · refine step_val (fun a wx hB O D => ?_)
          obtain ⟨_, e58, rfl⟩ := D 5 _ _ _ (by decide) rfl rfl rfl
          clear O D
          exact ⟨rfl, by unfold execOp; simp only [ev e58]; rfl⟩
        refine StepsP.cons ?_ ?_
        · refine step_val (fun a wx hB O D => ?_)
          obtain ⟨_, e59, rfl⟩ := D 6 _ _ _ (by decide) rfl rfl rfl
          clear O D
          exact ⟨rfl, by unfold execOp; simp only [ev e59]; rfl⟩
        refine StepsP.cons ?_ ?_
        · refine step_val (fun a wx hB O D => ?_)
          obtain ⟨_, e60, rfl⟩ := D 7 _ _ _ (by decide) rfl rfl rfl
          clear O D
          exact ⟨rfl, by unfold execOp; simp only [ev e60]; rfl⟩
        exact StepsP.nil
      · intro wz hZ
        refine EndP.is ?_
        refine EndP.is ?_
        refine EndP.is ?_
        refine EndP.is ?_
        refine EndP.is ?_
        refine EndP.is ?_
        refine EndP.is ?_
        refine EndP.is ?_
        refine EndP.is ?_
        refine EndP.is ?_
        refine EndP.is ?_
        refine EndP.nil ?_
        refine wpList_nil ?_
        have HB5 := Lib.hid (trans2 HB4.out hZ)
        have HGC := Lib.hid (HG4.out.below hZ)
        have BY := Lib.hid (BX.out.below hZ)
        clear hZ HB4 HG4 HGB BX
        simp only [Act.put, List.setIfInBounds_toArray, List.set_cons_zero, List.set_cons_succ]
        rw [HTT.out, HHT.out]
        go_wp2_with fail
        refine wp_region_plan [is (.agg #[.int .i64 g.n, .slice Ae g.e.length ce]), is (.agg #[.int .i64 g.n, .slice Ae g.e.length ce]), spPt g.whole, is (.int .i64 (tailOf g k)), spInts (dartsOf g g.whole (tailOf g k)), spInts (dartsOf g g.whole (tailOf g k))] (by kernel_rfl) (by kernel_rfl) ?_ ?_
        · skip
          refine StepsP.cons ?_ ?_
          · refine step_val (fun a wx hB O D => ?_)
            have e2 : a.tmps[2]? = some (.pointer (some ⟨w.heap.size, 0, none⟩)) := O 2 (by rfl)
            obtain ⟨c0, c1, _⟩ := BY.out.below hB
            clear O D
            exact ⟨rfl, by go_simp⟩
          refine StepsP.cons ?_ ?_
          · refine step_val (fun a wx hB O D => ?_)
            have e2 : a.tmps[2]? = some (.pointer (some ⟨w.heap.size, 0, none⟩)) := O 2 (by rfl)
            obtain ⟨c0, c1, _⟩ := BY.out.below hB
            clear O D
            exact ⟨rfl, by go_simp⟩
          refine StepsP.cons ?_ ?_
          · refine step_call (enters_of Try.func15 (by kernel_rfl) rfl) rfl rfl (fun a wx hB O D => ?_)
            obtain ⟨_, e62, rfl⟩ := D 1 _ _ _ (by decide) rfl rfl rfl
            refine ⟨rfl, #[.agg #[.int .i64 g.n, .slice Ae g.e.length ce]], by simp only [List.map_toArray, List.map_cons, List.map_nil, ev e62] <;> rfl, ?_⟩
            exact whole_any _ g _ (HGC.out.below hB) (by omega)
          refine StepsP.cons ?_ ?_
          · refine step_val (fun a wx hB O D => ?_)
            have e5 : a.tmps[5]? = some (.int .i64 (tailOf g k)) := O 5 (by rfl)
            clear O D
            exact ⟨rfl, by unfold execOp; simp only [ev e5]; rfl⟩
          refine StepsP.cons ?_ ?_
          · refine step_call (enters_of Try.func14 (by kernel_rfl) rfl) rfl rfl (fun a wx hB O D => ?_)
            obtain ⟨_, e61, rfl⟩ := D 0 _ _ _ (by decide) rfl rfl rfl
            obtain ⟨v63, e63, s63⟩ := D 2 _ _ _ (by decide) rfl rfl rfl
            obtain ⟨_, e64, rfl⟩ := D 3 _ _ _ (by decide) rfl rfl rfl
            refine ⟨rfl, #[.agg #[.int .i64 g.n, .slice Ae g.e.length ce], v63, .int .i64 (tailOf g k)], by simp only [List.map_toArray, List.map_cons, List.map_nil, ev e61, ev e63, ev e64] <;> rfl, ?_⟩
            exact (darts_any _ _ g g.whole (tailOf g k) _ (HGC.out.below hB) s63 (by omega) HFW.out.1 HFW.out.2).mono fun _ _ ⟨u, he, hb, hr⟩ => ⟨u, he, hb, Row.ints hr⟩
          refine StepsP.cons ?_ ?_
          · refine step_op rfl (fun a wx hB O D => ?_)
            obtain ⟨v65, e65, s65⟩ := D 4 _ _ _ (by decide) rfl rfl rfl
            exact ⟨rfl, v65, by unfold execOp; simp only [ev e65]; rfl, s65⟩
          exact StepsP.nil
        · intro wz hZ
          refine EndP.is ?_
          refine EndP.is ?_
          refine EndP.sp rfl (fun v63 s63 => ?_)
          refine EndP.is ?_
          refine EndP.sp rfl (fun v65 s65 => ?_)
          refine EndP.sp rfl (fun v11 s11 => ?_)
          refine EndP.nil ?_
          refine wpList_nil ?_
          have HB6 := Lib.hid (trans2 HB5.out hZ)
          have hbz := BY.out.below hZ
          have c0 := hbz.c0
          have c1 := hbz.c1
          have HI := Lib.hid s11
          clear hZ s63 s65 hbz
          simp only [Act.put, List.setIfInBounds_toArray, List.set_cons_zero, List.set_cons_succ]
          have e1 : (tailOf g k == tailOf g k) = true := by simp
          have e2 : (headOf g k == headOf g k) = true := by simp
          generalize tailOf g k = ta at *
          generalize headOf g k = hd at *
          go_wp2_with fail
          refine (in_any _ (dartsOf g g.whole ta) (k : Int) wz HI.out HDL.out).mono ?_
          rintro e w7 ⟨rfl, rfl⟩
          rw [HIN.out]
          go_wp2_with fail
          refine (rrises_any _ (dartsOf g g.whole ta) (2 * (g.e.length : Int)) wz HI.out HDL.out).mono ?_
          rintro e w7 ⟨rfl, q, rfl⟩
          rw [HRS.out]
          go_wp2
          go_ret
          exact ⟨rfl, below_drewN (trans2 HM.out HB6.out) q⟩
  · have HEN := Lib.hid (show endsOf g d = .tuple #[.int .i64 0, .int .i64 0, .bool false] from if_neg hok)
    rw [HEN.out]
    have hbz := HB1.out.below HB4.out
    have c0 := hbz.c0
    have c1 := hbz.c1
    clear hbz
    go_wp2_with fail
    refine (right_any _ g w4 HG4.out (by omega)).mono ?_
    rintro e w5 ⟨rfl, hB5⟩
    have HB5 := Lib.hid (trans2 HB4.out hB5)
    have d0 := ((HB1.out.below HB5.out)).c0
    have d1 := ((HB1.out.below HB5.out)).c1
    clear hB5 c0 c1
    by_cases he : g.err = 0
    · rw [he]
      by_cases hd : d < 0
      · clear hok HEN
        go_wp2
        go_ret
        exact ⟨rfl, trans2 HM.out HB5.out⟩
      · have hd2 : 2 * (g.e.length : Int) ≤ d := by
          rcases Int.lt_or_le d (2 * (g.e.length : Int)) with h | h
          · exact absurd ⟨he, by omega, h⟩ hok
          · exact h
        have hq : d.tdiv 2 = d / 2 := Int.tdiv_eq_ediv_of_nonneg (by omega)
        have hge : (g.e.length : Int) ≤ d / 2 := by omega
        have hdn : decide (d < 0) = false := decide_eq_false hd
        have hq2 : d / 2 ≤ 9223372036854775807 := by omega
        have hdx : decide ((g.e.length : Int) ≤ d / 2) = true := decide_eq_true hge
        clear hok HEN hd2
        go_wp2
        go_ret
        exact ⟨rfl, trans2 HM.out HB5.out⟩
    · have he' : (g.err != 0) = true := by simpa using he
      clear hok HEN
      generalize g.err = ge at *
      go_wp2
      go_ret
      exact ⟨rfl, trans2 HM.out HB5.out⟩

end Go.Proofs.Ytpcjdkldonikfaa
