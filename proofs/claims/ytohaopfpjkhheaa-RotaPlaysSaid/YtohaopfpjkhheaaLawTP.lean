/-
  RotaPlays: whether any lists are turns, and every step, is the document's: the law's call answers true at every input.
-/
import Derived.Test.YtohaopfpjkhheaaLawTS
import Derived.Test.YtohaopfpjkhheaaRuE
namespace Go.Proofs.Ytohaopfpjkhheaa.Rt
open Go.Proofs.Ytohaopfpjkhheaa Go.RowKit Go.Maps Go.Shelf

attribute [local go_sem] Oper.semAt_some

set_option maxRecDepth 100000 in
set_option maxHeartbeats 16000000 in
theorem rotaPlays_any (v : Value) (g : Gph) (u : Value) (p : Prt) (x : Value) (T : List (List Int)) (w : World) (h : Gr w v g) (h' : Pt w u p) (hT : LL w x T) (hw : ∀ j, ∀ y ∈ getT T j, (Lit.int .i64 y).wf = true) :
    Calls Try.prog 5 #[v, u, x] w fun e w' => e = .returned (.bool true) ∧ Below w.heap.size w w' := by
  have HG := Lib.hid h
  have HP := Lib.hid h'
  obtain ⟨ve, rfl, h1⟩ := h
  obtain ⟨vv, vp, rfl, h2, h3⟩ := h'
  obtain ⟨Ae, ce, rfl⟩ := h1.form
  obtain ⟨Av, cv, rfl⟩ := ints_form h2
  obtain ⟨Ap, cp, rfl⟩ := ints_form h3
  obtain ⟨A, cap, rfl, _, _⟩ := hT.form
  obtain ⟨b1, b2, hm⟩ := two_boxes w (.int .i64 g.n) (.slice Ae g.e.length ce) (.slice Av p.v.length cv) (.slice Ap p.e.length cp) 24 27
  have hsz : ((w.alloc (.cells #[.int .i64 g.n, .slice Ae g.e.length ce] 24)).alloc (.cells #[.slice Av p.v.length cv, .slice Ap p.e.length cp] 27)).heap.size = w.heap.size + 1 + 1 := by simp
  obtain ⟨wa, hwa⟩ : ∃ wa, (w.alloc (.cells #[.int .i64 g.n, .slice Ae g.e.length ce] 24)).alloc (.cells #[.slice Av p.v.length cv, .slice Ap p.e.length cp] 27) = wa := ⟨_, rfl⟩
  have HWA := Lib.hid hwa
  rw [hwa] at b1 b2 hm hsz
  have hn5 := new_cell wa (.slice A T.length cap) 28
  have hb5 := below_alloc (w := wa) (.cells #[.slice A T.length cap] 28)
  have hs5 : (wa.alloc (.cells #[.slice A T.length cap] 28)).heap.size = w.heap.size + 1 + 1 + 1 := by rw [World.size_alloc, hsz]
  have hn := new_cell (wa.alloc (.cells #[.slice A T.length cap] 28)) (.bool false) 4
  have hf := new_thaw (wa.alloc (.cells #[.slice A T.length cap] 28)) #[.bool false] 4 0
  have hb6 := below_alloc (w := wa.alloc (.cells #[.slice A T.length cap] 28)) (.cells #[.bool false] 4)
  have hs6 : ((wa.alloc (.cells #[.slice A T.length cap] 28)).alloc (.cells #[.bool false] 4)).heap.size = w.heap.size + 1 + 1 + 1 + 1 := by rw [World.size_alloc, hs5]
  rw [hsz] at hn5
  rw [hs5] at hn hf
  have hb3 := trans2 hb5 hb6
  have HB1 := Lib.hid (b1.below hb3)
  have HB2 := Lib.hid (b2.below hb3)
  have HM := Lib.hid (trans2 hm hb3)
  have HG1 := Lib.hid ((HG.out.below hm).below hb3)
  have HP1 := Lib.hid ((HP.out.below hm).below hb3)
  have HT1 := Lib.hid ((hT.below hm).below hb3)
  have HI3 := Lib.hid ((h3.below hm).below hb3)
  have HC5 := Lib.hid ((hb6.cell (p := ⟨w.heap.size + 1 + 1, 0, none⟩) (by show w.heap.size + 1 + 1 < _; rw [hs5]; omega)).trans hn5)
  have HC6 := Lib.hid hn
  have HF6 := Lib.hid hf
  have HW := Lib.hid hw
  have HS6 := Lib.hid hs6
  clear b1 b2 hm h1 h2 h3 HG HP hT hw hn hf hb3 hsz hn5 hb5 hs5 hb6 hs6
  subst hwa
  clear HWA
  refine (callsIn_wide (n := 6)).1 ?_
  refine callsIn_of_wp_marks Try.func5 rfl trivial ?_ rfl
  simp only [Try.ntmps5, List.size_toArray, List.length_cons, List.length_nil, Nat.reduceAdd, Nat.reduceSub, Array.replicate_succ, Array.replicate_zero, List.push_toArray, List.append_toArray, List.nil_append, List.cons_append]
  gi_wp2_with fail
  generalize (((w.alloc (.cells #[.int .i64 g.n, .slice Ae g.e.length ce] 24)).alloc (.cells #[.slice Av p.v.length cv, .slice Ap p.e.length cp] 27)).alloc (.cells #[.slice A T.length cap] 28)).alloc (.cells #[.bool false] 4) = w1 at *
  refine ⟨trivial, (callsIn_wide.2 (tawake_any w1)).mono ?_⟩
  rintro e w2 ⟨rfl, hB2⟩
  have HL6 := Lib.hid (show w.heap.size + 1 + 1 + 1 < w1.heap.size by rw [HS6.out]; omega)
  have HL5 := Lib.hid (show w.heap.size + 1 + 1 < w1.heap.size by rw [HS6.out]; omega)
  have c0 := (HB1.out.below hB2).c0
  have c1 := (HB1.out.below hB2).c1
  have d0 := (HB2.out.below hB2).c0
  have d1 := (HB2.out.below hB2).c1
  have k5 := (hB2.cell (p := ⟨w.heap.size + 1 + 1, 0, none⟩) HL5.out).trans HC5.out
  have HBB2 := Lib.hid hB2
  clear hB2
  gi_wp2_with fail
  refine ⟨trivial, (callsIn_wide.2 (small6_any _ _ _ g p T w2 (HG1.out.below HBB2.out) (HP1.out.below HBB2.out) (HT1.out.below HBB2.out))).mono ?_⟩
  rintro e w3 ⟨rfl, hB3⟩
  have HB3 := Lib.hid (trans2 HBB2.out hB3)
  clear hB3 c0 c1 d0 d1 k5 HBB2
  have HST := Lib.hid (fun (W : World) (hW : Below w1.heap.size w1 W) => show Below w.heap.size w (W.setCell ⟨w.heap.size + 1 + 1 + 1, 0, none⟩ (.bool true)) ∧ (W.setCell ⟨w.heap.size + 1 + 1 + 1, 0, none⟩ (.bool true)).cell? ⟨w.heap.size + 1 + 1 + 1, 0, none⟩ = some (.bool true) from
    ⟨(trans2 HM.out hW).setCell (p := ⟨w.heap.size + 1 + 1 + 1, 0, none⟩) (by show w.heap.size ≤ w.heap.size + 1 + 1 + 1; omega) _, World.cell?_setCell_same' W ⟨w.heap.size + 1 + 1 + 1, 0, none⟩ (.bool true) (by rw [(hW.cell (p := ⟨w.heap.size + 1 + 1 + 1, 0, none⟩) HL6.out).trans HC6.out]; rfl)⟩)
  have HC66 := Lib.hid (fun (W : World) (hW : Below w1.heap.size w1 W) => (⟨(hW.cell (p := ⟨w.heap.size + 1 + 1 + 1, 0, none⟩) HL6.out).trans HC6.out, (hW.frozen (p := ⟨w.heap.size + 1 + 1 + 1, 0, none⟩) HL6.out).trans HF6.out⟩ : W.cell? ⟨w.heap.size + 1 + 1 + 1, 0, none⟩ = some (.bool false) ∧ W.frozen? ⟨w.heap.size + 1 + 1 + 1, 0, none⟩ = false))
  have HCB := Lib.hid (fun (W : World) (hW : Below w1.heap.size w1 W) => (⟨(HB1.out.below hW).c0, (HB1.out.below hW).c1, (HB2.out.below hW).c0, (HB2.out.below hW).c1, (hW.cell (p := ⟨w.heap.size + 1 + 1, 0, none⟩) HL5.out).trans HC5.out⟩ :
    W.cell? ⟨w.heap.size, 0, none⟩ = some (.int .i64 g.n) ∧ W.cell? ⟨w.heap.size, 1, none⟩ = some (.slice Ae g.e.length ce) ∧ W.cell? ⟨w.heap.size + 1, 0, none⟩ = some (.slice Av p.v.length cv) ∧ W.cell? ⟨w.heap.size + 1, 1, none⟩ = some (.slice Ap p.e.length cp) ∧ W.cell? ⟨w.heap.size + 1 + 1, 0, none⟩ = some (.slice A T.length cap)))
  by_cases hs : small6 g p T = true
  case neg =>
    have e : small6I g p T = 0 := if_neg hs
    rw [e]
    clear e hs
    gi_wp2_with fail
    refine ⟨trivial, (callsIn_wide.2 (tawake_any w3)).mono ?_⟩
    rintro e w4 ⟨rfl, hB4⟩
    have HZ := Lib.hid (HST.out w4 (trans2 HB3.out hB4))
    obtain ⟨k6, f6⟩ := HC66.out w4 (trans2 HB3.out hB4)
    clear hB4
    gi_wp2
    refine ⟨.bool true, ?_, rfl, HZ.out.1⟩
    simp [results, Try.f5, go_sem, HZ.out.2]
  have e : small6I g p T = 1 := if_pos hs
  obtain ⟨hl, hp1, hp2, hlT, hrT⟩ := small6_facts hs
  rw [e]
  obtain ⟨c0, c1, d0, d1, k5⟩ := HCB.out w3 HB3.out
  clear e hs
  have HN := Lib.hid (new_any _ _ _ g p T w3 (HG1.out.below HB3.out) (HP1.out.below HB3.out) (HT1.out.below HB3.out) (by omega) (by omega) (by omega) (by omega) (fun j => by have := hrT j; omega) HW.out)
  have HRR := Lib.hid (fun (W : World) (hW : Below w1.heap.size w1 W) => r6Right_any _ _ _ g p T W (HG1.out.below hW) (HP1.out.below hW) (HT1.out.below hW) (by omega) (by omega) (by omega) (fun j => by have := hrT j; omega))
  gi_wp2_with fail
  refine ⟨trivial, (callsIn_wide.2 HN.out).mono ?_⟩
  clear HN c0 c1 d0 d1 k5
  rintro e w4 ⟨hB4, ⟨hne, rfl⟩ | ⟨hTu, rb, rfl, hRo⟩⟩
  · have hB5 := trans2 (trans2 HB3.out hB4) (below_alloc (w := w4) (.cells #[.pointer none] 31))
    have HB5 := Lib.hid hB5
    have HR5 := Lib.hid (HRR.out _ hB5)
    obtain ⟨c0, c1, d0, d1, k5⟩ := HCB.out _ hB5
    have HC7 := Lib.hid (new_cell w4 (.pointer none) 31)
    have HL7 := Lib.hid (show w4.heap.size < (w4.alloc (.cells #[.pointer none] 31)).heap.size by simp)
    have hne' : (terr g p T != 0) = true := by simpa using hne
    clear hB4 hne hB5
    generalize terr g p T = te at *
    gi_wp2_with fail
    generalize w4.alloc (.cells #[.pointer none] 31) = w5 at *
    refine ⟨trivial, (callsIn_wide.2 HR5.out).mono ?_⟩
    rintro e w6 ⟨rfl, hB6⟩
    have k7 := (hB6.cell (p := ⟨w4.heap.size, 0, none⟩) HL7.out).trans HC7.out
    have HZ := Lib.hid (HST.out _ (trans2 HB5.out hB6))
    obtain ⟨k6, f6⟩ := HC66.out _ (trans2 HB5.out hB6)
    clear hB6 HR5 c0 c1 d0 d1 k5
    gi_wp2
    refine ⟨.bool true, ?_, rfl, HZ.out.1⟩
    simp [results, Try.f5, go_sem, HZ.out.2]
  -- the turns are turns
  have HB4 := Lib.hid (trans2 HB3.out hB4)
  have hb5 := below_alloc (w := w4) (.cells #[.pointer (some ⟨rb, 0, none⟩)] 31)
  have HR := Lib.hid (hRo.below hb5)
  have HTU := Lib.hid hTu
  have HU := Lib.hid (hTu.alike (alike_fst T))
  have HAL := Lib.hid (alike_fst T)
  have HP0 := Lib.hid hTu.right
  have hlU : (T.map fst).length = T.length := List.length_map _
  have hrT2 : ∀ j, (getT T j).length ≤ 1000000 := fun j => by have := hrT j; omega
  have hrU : ∀ j, (getT (T.map fst) j).length ≤ 500 := fun j => by
    rw [getT_map fst fst_nil, fst_len]
    have := hrT j
    omega
  have HLU := Lib.hid (show (∀ j, (getT (T.map fst) j).length ≤ 1000000) ∧ ∀ j, (getT (T.map fst) j).length ≤ 4000000 from ⟨fun j => by have := hrU j; omega, fun j => by have := hrU j; omega⟩)
  have HLT := Lib.hid hrT2
  have HGT := Lib.hid (fun v => getT_map fst fst_nil T v)
  have HGN := Lib.hid hTu.len
  have HB5 := Lib.hid (trans2 HB4.out hb5)
  have HC7 := Lib.hid (new_cell w4 (.pointer (some ⟨rb, 0, none⟩)) 31)
  have HL7 := Lib.hid (show w4.heap.size < (w4.alloc (.cells #[.pointer (some ⟨rb, 0, none⟩)] 31)).heap.size by simp)
  have HR5 := Lib.hid (HRR.out _ HB5.out)
  rw [terr_iff.2 hTu] at HR5
  obtain ⟨c0, c1, d0, d1, k5⟩ := HCB.out _ HB5.out
  have hc7 := HC7.out
  have hlU2 : T.length ≤ 1000000 := by omega
  have hlE : g.e.length ≤ 1000000 := by omega
  clear hB4 hRo hTu hb5 hrT hrU hrT2 HRR
  gi_wp2_with fail
  generalize w4.alloc (.cells #[.pointer (some ⟨rb, 0, none⟩)] 31) = w5 at *
  clear hc7 c0 c1 d0 d1 k5
  refine ⟨trivial, (callsIn_wide.2 HR5.out).mono ?_⟩
  clear HR5
  rintro e w6 ⟨rfl, hB6⟩
  replace HR := Lib.hid (HR.out.below hB6)
  replace HB5 := Lib.hid (trans2 HB5.out hB6)
  replace HC7 := Lib.hid ((hB6.cell (p := ⟨w4.heap.size, 0, none⟩) HL7.out).trans HC7.out)
  replace HL7 := Lib.hid (Nat.lt_of_lt_of_le HL7.out hB6.size)
  clear hB6
  gi_wp2_with fail
  have HTT := Lib.hid (fun W (hW : Below w6.heap.size w6 W) => turn_any rb g p _ W (HR.out.below hW) (by rw [hlU]; exact hlU2) HLU.out.1)
  have HFT := Lib.hid (fun W (hW : Below w6.heap.size w6 W) => r6First_any _ T W ((HT1.out.below HB5.out).below hW) hlU2 HLT.out)
  have HQ := Lib.hid (fun (a b : Value) W (ha : LL W a (T.map fst)) (hb : LL W b (T.map fst)) => r6Equal_any a b _ _ W ha hb HLU.out.2)
  have HC5b := Lib.hid ((HB5.out.cell (p := ⟨w.heap.size + 1 + 1, 0, none⟩) HL5.out).trans HC5.out)
  replace HL5 := Lib.hid (Nat.lt_of_lt_of_le HL5.out HB5.out.size)
  generalize T.map fst = U at *
  -- region seven
  refine wpIn_region_plan [is (.int .i64 0), is (.bool false), is (.bool false), is (.pointer (some ⟨rb, 0, none⟩)), spLL U, is (.slice A T.length cap), spLL U, is (.bool true), is (.bool false), is (.bool false)] (by kernel_rfl) (by kernel_rfl) ?_ ?_
  · skip
    refine StepsP.cons ?_ ?_
    · refine step_val (fun a wx hB O D => ?_)
      have e8 : a.tmps[8]? = some (.int .i64 0) := O 8 (by rfl)
      clear O D
      exact ⟨rfl, by unfold execOp; simp only [ev e8]; rfl⟩
    refine StepsP.cons ?_ ?_
    · refine step_val (fun a wx hB O D => ?_)
      obtain ⟨_, e50, rfl⟩ := D 0 _ _ _ (by decide) rfl rfl rfl
      clear O D
      exact ⟨rfl, by go_simp⟩
    refine StepsP.cons ?_ ?_
    · refine step_val (fun a wx hB O D => ?_)
      obtain ⟨_, e51, rfl⟩ := D 1 _ _ _ (by decide) rfl rfl rfl
      clear O D
      exact ⟨rfl, by unfold execOp; simp only [ev e51]; rfl⟩
    refine StepsP.cons ?_ ?_
    · refine step_val (fun a wx hB O D => ?_)
      have e7 : a.tmps[7]? = some (.pointer (some ⟨w4.heap.size, 0, none⟩)) := O 7 (by rfl)
      obtain ⟨_, e52, rfl⟩ := D 2 _ _ _ (by decide) rfl rfl rfl
      have q7 := (hB.cell (p := ⟨w4.heap.size, 0, none⟩) HL7.out).trans HC7.out
      clear O D
      exact ⟨wanted_of rfl rfl e52 rfl, by go_simp⟩
    refine StepsP.cons ?_ ?_
    · refine step_call (enters_of Try.func18 (by kernel_rfl) rfl) rfl rfl (fun a wx hB O D => ?_)
      obtain ⟨_, e53, rfl⟩ := D 3 _ _ _ (by decide) rfl rfl rfl
      obtain ⟨_, e52, rfl⟩ := D 2 _ _ _ (by decide) rfl rfl rfl
      refine ⟨wanted_of rfl rfl e52 rfl, #[.pointer (some ⟨rb, 0, none⟩)], by simp only [List.map_toArray, List.map_cons, List.map_nil, ev e53] <;> rfl, ?_⟩
      exact (HTT.out _ hB).mono fun _ _ ⟨u, us, he, hm, hb⟩ => ⟨u, he, hb, hm.reads⟩
    refine StepsP.cons ?_ ?_
    · refine step_val (fun a wx hB O D => ?_)
      have e5 : a.tmps[5]? = some (.pointer (some ⟨w.heap.size + 1 + 1, 0, none⟩)) := O 5 (by rfl)
      obtain ⟨_, e52, rfl⟩ := D 2 _ _ _ (by decide) rfl rfl rfl
      have q5 := (hB.cell (p := ⟨w.heap.size + 1 + 1, 0, none⟩) HL5.out).trans HC5b.out
      clear O D
      exact ⟨wanted_of rfl rfl e52 rfl, by go_simp⟩
    refine StepsP.cons ?_ ?_
    · refine step_call (enters_of Try.func22 (by kernel_rfl) rfl) rfl rfl (fun a wx hB O D => ?_)
      obtain ⟨_, e55, rfl⟩ := D 5 _ _ _ (by decide) rfl rfl rfl
      obtain ⟨_, e52, rfl⟩ := D 2 _ _ _ (by decide) rfl rfl rfl
      refine ⟨wanted_of rfl rfl e52 rfl, #[.slice A T.length cap], by simp only [List.map_toArray, List.map_cons, List.map_nil, ev e55] <;> rfl, ?_⟩
      exact (HFT.out _ hB).mono fun _ _ ⟨u, us, he, hm, hb⟩ => ⟨u, he, hb, hm.reads⟩
    refine StepsP.cons ?_ ?_
    · refine step_call (enters_of Try.func17 (by kernel_rfl) rfl) rfl rfl (fun a wx hB O D => ?_)
      obtain ⟨v54, e54, s54⟩ := D 4 _ _ _ (by decide) rfl rfl rfl
      obtain ⟨v56, e56, s56⟩ := D 6 _ _ _ (by decide) rfl rfl rfl
      obtain ⟨_, e52, rfl⟩ := D 2 _ _ _ (by decide) rfl rfl rfl
      refine ⟨wanted_of rfl rfl e52 rfl, #[v54, v56], by simp only [List.map_toArray, List.map_cons, List.map_nil, ev e54, ev e56] <;> rfl, ?_⟩
      exact (HQ.out _ _ _ s54 s56).mono fun _ _ ⟨he, n, hw⟩ => ⟨_, he, hw ▸ below_drewN' wx n, congrArg Value.bool (decide_eq_true rfl)⟩
    refine StepsP.cons ?_ ?_
    · refine step_val (fun a wx hB O D => ?_)
      obtain ⟨_, e57, rfl⟩ := D 7 _ _ _ (by decide) rfl rfl rfl
      obtain ⟨_, e52, rfl⟩ := D 2 _ _ _ (by decide) rfl rfl rfl
      clear O D
      exact ⟨wanted_of rfl rfl e52 rfl, by go_simp⟩
    refine StepsP.cons ?_ ?_
    · refine step_val (fun a wx hB O D => ?_)
      obtain ⟨_, e52, rfl⟩ := D 2 _ _ _ (by decide) rfl rfl rfl
      obtain ⟨_, e58, rfl⟩ := D 8 _ _ _ (by decide) rfl rfl rfl
      clear O D
      exact ⟨rfl, by go_simp⟩
    exact StepsP.nil
  · intro wz hZ
    refine EndP.is ?_
    refine EndP.is ?_
    refine EndP.is ?_
    refine EndP.is ?_
    refine EndP.sp rfl (fun v54 s54 => ?_)
    refine EndP.is ?_
    refine EndP.sp rfl (fun v56 s56 => ?_)
    refine EndP.is ?_
    refine EndP.is ?_
    refine EndP.is ?_
    refine EndP.nil ?_
  -- behind seven
    refine wpListIn_nil ?_
    simp only [Act.put, List.setIfInBounds_toArray, List.set_cons_zero, List.set_cons_succ]
    replace HR := Lib.hid (HR.out.below hZ)
    replace HB5 := Lib.hid (trans2 HB5.out hZ)
    replace HC7 := Lib.hid ((hZ.cell (p := ⟨w4.heap.size, 0, none⟩) HL7.out).trans HC7.out)
    replace HL7 := Lib.hid (Nat.lt_of_lt_of_le HL7.out hZ.size)
    have hbn := below_alloc (w := wz) (.cells #[.int .i64 0] 3)
    have HCN := Lib.hid (new_cell wz (.int .i64 0) 3)
    have HFN := Lib.hid (new_thaw wz #[.int .i64 0] 3 0)
    have HSN := Lib.hid (show (wz.alloc (.cells #[.int .i64 0] 3)).heap.size = wz.heap.size + 1 by simp)
    have HDT := Lib.hid (darts_row rb g p U _ (HR.out.below hbn) HP0.out)
    have q7 := (hbn.cell (p := ⟨w4.heap.size, 0, none⟩) HL7.out).trans HC7.out
    have HBN := Lib.hid hbn
    clear hZ hbn HTT HFT HQ HC5b HL5 s54 s56
    gi_wp2_with fail
    generalize wz.alloc (.cells #[.int .i64 0] 3) = wn at *
    clear q7
    refine ⟨trivial, (callsIn_wide.2 HDT.out).mono ?_⟩
    clear HDT
    rintro e w8 ⟨Bs, sv, rfl, hBs1, hBs2, hBs3, hRow, _, hB8⟩
    have HB8 := Lib.hid (HBN.out.trans (hB8.mono HBN.out.size))
    have hnl : wz.heap.size < wn.heap.size := by rw [HSN.out]; omega
    have HNC := Lib.hid ((hB8.cell (p := ⟨wz.heap.size, 0, none⟩) hnl).trans HCN.out)
    have HNF := Lib.hid ((hB8.frozen (p := ⟨wz.heap.size, 0, none⟩) hnl).trans HFN.out)
    have HNE := Lib.hid (show sv.ownBlock ≠ some wz.heap.size from fun e => by
      have := (World.ownsRow.lt hRow _ e).1
      rw [HSN.out] at this
      omega)
    have HIT := Lib.hid (iter_stops Fence.wide 5 trivial rfl (by omega) Bs sv (allD p) (by rw [allD_len]; omega) w8 hBs2 hBs3 (Row.ints hRow))
    have HL8 := Lib.hid (show wz.heap.size < w8.heap.size from Nat.lt_of_lt_of_le hnl hB8.size)
    clear hBs1 hBs2 hBs3 hRow hB8 hnl HCN HFN HBN
    gi_wp2_with fail
    refine' wpIn_rangeFunc_ownF rfl (by omega) (gf := 39) (lb := #[.pointer (some ⟨Bs, 0, none⟩)]) rfl trivial (enters_of Try.func39 (by kernel_rfl) rfl)
      HIT.out (fun h k => KpD.trans h k) (fun W l o o' _ ho hc _ => KpD.obj W l o o' ho hc) (Below.refl _ _) (fun _ => rfl)
      (fun pre W => (W.cell? ⟨wz.heap.size, 0, none⟩ = some (.int .i64 (pre.length : Int)) ∧ W.frozen? ⟨wz.heap.size, 0, none⟩ = false ∧ pre <+: (allD p).attach) ∧ Below wz.heap.size wz W)
      (fun c pre _ => c = .ret ∧ ¬ pre <+: (allD p).attach)
      (OwnFrom.and (Own.from (fun pre A B row hs hg hr => ⟨cell_kept hs.1 hg hr, (frozen_kept hs.1 hg hr).trans hs.2.1, hs.2.2⟩) _) (ownFrom_below (Nat.le_refl _) (Nat.le_of_lt HL8.out)))
      (fun _ _ _ _ _ hs _ _ => hs) ⟨⟨HNC.out, HNF.out, List.nil_prefix⟩, HB8.out⟩ _ ?assign ?body ?done ?stop
    case assign =>
      intro l x W K hK
      gi_wp2
      exact hK
    case stop =>
      rintro D c pre W hD hpre ⟨_, hn⟩ hK
      exact absurd hpre hn
    case done =>
      rintro D ys W hD rfl ⟨⟨hcn, hfn, _⟩, hBW⟩ hK
      rw [att_len, allD_len, show (((2 * p.e.length : Nat)) : Int) = 2 * (p.e.length : Int) by omega] at hcn
      have HBW := Lib.hid (trans2 HB5.out hBW)
      have HRW := Lib.hid (HR.out.below hBW)
      have HNW := Lib.hid hcn
      have HNL := Lib.hid (World.block_lt_of_cell? W _ hcn)
      have HC7W := Lib.hid ((hBW.cell (p := ⟨w4.heap.size, 0, none⟩) HL7.out).trans HC7.out)
      have HL7W := Lib.hid (Nat.lt_of_lt_of_le HL7.out hBW.size)
      have HKD := Lib.hid hK
      have hDl : D < W.heap.size := (Array.getElem?_eq_some_iff.1 hK).1
      have hDw : w.heap.size ≤ D := Nat.le_trans (Nat.le_trans HM.out.size (Nat.le_trans HB5.out.size (Nat.le_of_lt HL8.out))) hD
      have HGN := Lib.hid HGN.out
      clear hcn hfn hBW
      gi_wp2
      gi_loopw [18] (fun i wr => ∃ k : Nat, k ≤ T.length + 2 ∧ i = .int .i64 ((k : Int) - 1) ∧ Hid (Below W.heap.size W wr)) (fun i _ => T.length + 2 - (Go.RowKit.intOf i + 1).toNat)
      case atStart => exact ⟨0, Nat.zero_le _, rfl, Lib.hid (Below.refl _ _)⟩
      case round =>
        obtain ⟨k, hk, rfl, hB⟩ := hrel
        rename_i wr
        obtain ⟨c0, c1, d0, d1, k5⟩ := HCB.out wr (trans2 HBW.out hB.out)
        have hgn := HGN.out
        obtain ⟨vv, hvv⟩ : ∃ vv : Int, (k : Int) - 1 = vv := ⟨_, rfl⟩
        have HVV := Lib.hid hvv
        rw [hvv]
        by_cases hlt : k < T.length + 2
        · have hle : vv ≤ g.n := by omega
          have q7 := (hB.out.cell (p := ⟨w4.heap.size, 0, none⟩) HL7W.out).trans HC7W.out
          have hvb : -1 ≤ vv ∧ vv ≤ 1000 := by omega
          by_cases hin : 0 ≤ vv ∧ vv < g.n
          · obtain ⟨hv0, hvn⟩ := hin
            obtain ⟨j, rfl⟩ : ∃ j : Nat, vv = (j : Int) := ⟨vv.toNat, by omega⟩
            have hjT : j < T.length := by omega
            obtain ⟨bT, oT, rfl, hbT, A1, cc, hcT, hi⟩ := (HT1.out.below (trans2 HBW.out hB.out)).get hjT
            have HF := Lib.hid (refFst_any _ _ wr hi (HLT.out j))
            have HA := Lib.hid (fun (W' : World) (hW : Below wr.heap.size wr W') => at_any rb g p U W' (j : Int) ((HRW.out.below hB.out).below hW) HLU.out.1)
            have HAE := Lib.hid (show atL U (j : Int) = fst (getT T j) by unfold atL; rw [if_pos (by rw [hlU]; omega), Int.toNat_natCast, HGT.out])
            rw [HAE.out] at HA
            have hfl : (fst (getT T j)).length ≤ 4000000 := by rw [fst_len]; have := HLT.out j; omega
            have hjT' : (j : Int) < (T.length : Int) := by omega
            clear hi hbT hvv hgn hjT HAE d0 d1 c1
            generalize (getT T j).length = nj at *
            generalize fst (getT T j) = fl at *
            gi_wp2_with fail
            refine ⟨trivial, (callsIn_wide.2 HF.out).mono ?_⟩
            rintro e wf ⟨uf, rfl, hu, hBf⟩
            obtain ⟨Au, cu, rfl⟩ := ints_form (Row.ints hu)
            have HU1 := Lib.hid hu
            have q7' := (hBf.cell (p := ⟨w4.heap.size, 0, none⟩) (World.block_lt_of_cell? wr _ q7)).trans q7
            have HAf := Lib.hid (HA.out wf hBf)
            have HBf := Lib.hid (trans2 hB.out hBf)
            clear hu hBf HF HA q7 c0 k5 hcT
            gi_wp2_with fail
            refine ⟨trivial, (callsIn_wide.2 HAf.out).mono ?_⟩
            rintro e wg ⟨ug, rfl, hug, hBg⟩
            have HQ := Lib.hid (requal_any _ fl _ fl wg (Row.ints hug) ((Row.ints HU1.out).below hBg) hfl)
            rw [decide_eq_true rfl] at HQ
            obtain ⟨Ag, cg, rfl⟩ := ints_form (Row.ints hug)
            have HBg := Lib.hid (trans2 HBf.out hBg)
            clear hug hBg HAf q7'
            gi_wp2_with fail
            refine ⟨trivial, (callsIn_wide.2 HQ.out).mono ?_⟩
            rintro e wh ⟨rfl, nq, rfl⟩
            have HBh := Lib.hid (below_drewN HBg.out nq)
            clear HQ
            gi_wp2
            go_roundw
            case rel => exact ⟨k + 1, by omega, by have := HVV.out; congr 1; omega, HBh⟩
            case measure => have := HVV.out; simp [Go.RowKit.intOf]; omega
          · have HA := Lib.hid (at_any rb g p U wr vv (HRW.out.below hB.out) HLU.out.1)
            have HAE := Lib.hid (show atL U vv = [] by unfold atL; rw [if_neg (by rw [hlU]; omega)])
            rw [HAE.out] at HA
            have hcase : (¬ 0 ≤ vv) ∨ (0 ≤ vv ∧ ¬ vv < g.n) := by omega
            clear hvv hgn HAE d0 d1 c1 hin
            rcases hcase with hv0 | ⟨hv0, hvn⟩
            · gi_wp2_with fail
              refine ⟨trivial, (callsIn_wide.2 HA.out).mono ?_⟩
              rintro e wg ⟨ug, rfl, hug, hBg⟩
              have HQ := Lib.hid (requal_any _ [] _ [] wg (Row.ints hug) Ints.nil (by simp))
              rw [decide_eq_true rfl] at HQ
              obtain ⟨Ag, cg, rfl⟩ := ints_form (Row.ints hug)
              have HBg := Lib.hid (trans2 hB.out hBg)
              clear hug hBg HA q7 c0 k5
              gi_wp2_with fail
              refine ⟨trivial, (callsIn_wide.2 HQ.out).mono ?_⟩
              rintro e wh ⟨rfl, nq, rfl⟩
              have HBh := Lib.hid (below_drewN HBg.out nq)
              clear HQ
              gi_wp2
              go_roundw
              case rel => exact ⟨k + 1, by omega, by have := HVV.out; congr 1; omega, HBh⟩
              case measure => have := HVV.out; simp [Go.RowKit.intOf]; omega
            · gi_wp2_with fail
              refine ⟨trivial, (callsIn_wide.2 HA.out).mono ?_⟩
              rintro e wg ⟨ug, rfl, hug, hBg⟩
              have HQ := Lib.hid (requal_any _ [] _ [] wg (Row.ints hug) Ints.nil (by simp))
              rw [decide_eq_true rfl] at HQ
              obtain ⟨Ag, cg, rfl⟩ := ints_form (Row.ints hug)
              have HBg := Lib.hid (trans2 hB.out hBg)
              clear hug hBg HA q7 c0 k5
              gi_wp2_with fail
              refine ⟨trivial, (callsIn_wide.2 HQ.out).mono ?_⟩
              rintro e wh ⟨rfl, nq, rfl⟩
              have HBh := Lib.hid (below_drewN HBg.out nq)
              clear HQ
              gi_wp2
              go_roundw
              case rel => exact ⟨k + 1, by omega, by have := HVV.out; congr 1; omega, HBh⟩
              case measure => have := HVV.out; simp [Go.RowKit.intOf]; omega
        · have hle : ¬ vv ≤ g.n := by omega
          have HZ := Lib.hid (HST.out wr (trans2 HBW.out hB.out))
          obtain ⟨k6, f6⟩ := HC66.out wr (trans2 HBW.out hB.out)
          have qn := (hB.out.cell (p := ⟨wz.heap.size, 0, none⟩) HNL.out).trans HNW.out
          have hKr := (hB.out.block D hDl).trans HKD.out
          have HKR := Lib.hid hKr
          clear hvv hgn hKr c1 d0 k5
          gi_wp2
          have hK' := (KeepsOthers.setCell wr ⟨w.heap.size + 1 + 1 + 1, 0, none⟩ (.bool true)).same D _ HKR.out rfl
          refine ⟨by simp, .inl ⟨_, _, rfl, run_takeDeferred hK', ?_⟩⟩
          have hc6 := cell_kept HZ.out.2 (grownBy_putObj' _ D (.deferred none)) (fun r e => by cases e; exact ⟨_, hK', rfl⟩)
          refine ⟨.bool true, ?_, rfl, HZ.out.1.trans (belowK_b (w := w) (Nat.le_refl _) _ D _ _ hDw hK' rfl rfl)⟩
          simp [results, Try.f5, go_sem, hc6]
    case body =>
      rintro l pre ⟨y, hy⟩ W ⟨⟨hcn, hfn, hpre⟩, hBW⟩ hpl
      have hdy := (mem_allD HP0.out y).1 hy
      obtain ⟨k, rfl⟩ : ∃ k : Nat, y = (k : Int) := ⟨y.toNat, by have := hdy.1; omega⟩
      have hwk := dart_wf HP0.out hlE hdy
      have hib := ints g p HP0.out hdy.2
      have HNP := Lib.hid (fun (hx : (k : Int) = getI (allD p) pre.length) => att_more (x := ⟨(k : Int), hy⟩) hpre hpl hx)
      have HNQ := Lib.hid (fun (hx : ¬ (k : Int) = getI (allD p) pre.length) (hp : pre ++ [⟨(k : Int), hy⟩] <+: (allD p).attach) => hx (att_get hp).2)
      have HLN := Lib.hid (show ((pre ++ [⟨(k : Int), hy⟩] : List (In (allD p))).length : Int) = (pre.length : Int) + 1 by rw [List.length_append]; rfl)
      have hBA := trans2 HB5.out hBW
      obtain ⟨c0, c1, d0, d1, k5⟩ := HCB.out W hBA
      obtain ⟨k6, f6⟩ := HC66.out W hBA
      rw [allD_len] at hpl
      generalize hnn : pre.length = nn at *
      have hnh : nn / 2 < p.e.length := by omega
      obtain ⟨bp, op, rfl, hbp, hcp⟩ := ints_at (HI3.out.below hBA) hnh
      have hie := ints g p HP0.out (getI_in _ _ hnh)
      have HGE := Lib.hid (allD_get p nn hpl)
      have hq := quo_nat nn
      have hr := rem_nat nn
      have hr2 : nn % 2 < 2 := Nat.mod_lt _ (by omega)
      have hge : decide ((2 * (p.e.length : Int)) ≤ (nn : Int)) = false := decide_eq_false (by omega)
      have hnle : nn ≤ 1000 := by omega
      have hnh' : ((nn / 2 : Nat) : Int) < (p.e.length : Int) := by omega
      have hnh0 : (0 : Int) ≤ ((nn / 2 : Nat) : Int) := by omega
      have HWF := Lib.hid hwk
      have HDY := Lib.hid hdy
      have HBW := Lib.hid hBW
      have HCN := Lib.hid hcn
      have HFN := Lib.hid hfn
      have HPR := Lib.hid hpre
      dsimp only
      clear hdy hwk hib hpre hBA hnn hBW hpl
      generalize hgh : nn / 2 = nh at *
      generalize hgr : nn % 2 = nr at *
      generalize hEE : getI p.e nh = E at *
      have hEb : 0 ≤ E ∧ E ≤ 100 := by omega
      by_cases hyE : (k : Int) = 2 * E + (nr : Int)
      case neg =>
        have HNO := Lib.hid (HNQ.out (fun e => hyE (e.trans HGE.out)))
        have hne : ((k : Int) != 2 * E + (nr : Int)) = true := by simpa using hyE
        clear hyE HNP HNQ HGE hie hbp hgh hgr hEE
        gi_wp2_with fail
        refine region_quiet_round rfl (by kernel_rfl) (by kernel_rfl) (by kernel_rfl) ?_
        repeat (gi_big_quiet_step (fail))
        refine wpQuietIn_nil ?_
        intro _ hw'
        obtain ⟨nq, hw''⟩ := hw'
        subst hw''
        gi_wp2
        exact ⟨(keepsOthers_drewN W _).trans (KeepsOthers.setCell _ _ _), rfl, HNO.out⟩
      have HYP := Lib.hid (HNP.out (hyE.trans HGE.out.symm))
      have hne : ((k : Int) != 2 * E + (nr : Int)) = false := by simpa using hyE
      clear hyE HNP HNQ HGE hie hbp hgh hgr hEE
      gi_wp2_with fail
      refine region_quiet_round rfl (by kernel_rfl) (by kernel_rfl) (by kernel_rfl) ?_
      repeat (gi_big_quiet_step (fail))
      refine wpQuietIn_nil ?_
      intro _ hw'
      obtain ⟨nq, hw''⟩ := hw'
      subst hw''
      clear c0 c1 d0 d1 k5 k6 f6 hcp hne hge hq hr hnh' hnh0
      have HB2 := Lib.hid ((below_drewN HBW.out nq).setCell (p := ⟨wz.heap.size, 0, none⟩) (Nat.le_refl _) (.int .i64 ((nn : Int) + 1)))
      have HC2 := Lib.hid (World.cell?_setCell_same' (W.drewN nq) ⟨wz.heap.size, 0, none⟩ (.int .i64 ((nn : Int) + 1)) (by rw [World.cell?_drewN, HCN.out]; rfl))
      have HF2 := Lib.hid (show ((W.drewN nq).setCell ⟨wz.heap.size, 0, none⟩ (.int .i64 ((nn : Int) + 1))).frozen? ⟨wz.heap.size, 0, none⟩ = false from (World.frozen?_setCell _ _ _ _).trans HFN.out)
      have HK2 := Lib.hid ((keepsOthers_drewN W nq).trans (KeepsOthers.setCell (W.drewN nq) ⟨wz.heap.size, 0, none⟩ (.int .i64 ((nn : Int) + 1))))
      have HS2 := Lib.hid (show ∀ i, i ≠ wz.heap.size → ((W.drewN nq).setCell ⟨wz.heap.size, 0, none⟩ (.int .i64 ((nn : Int) + 1))).heap[i]? = W.heap[i]? from fun i hi => Below.heap_setCell (W.drewN nq) _ _ _ hi)
      have HZ2 := Lib.hid (show W.heap.size ≤ ((W.drewN nq).setCell ⟨wz.heap.size, 0, none⟩ (.int .i64 ((nn : Int) + 1))).heap.size from HK2.out.size)
      have q7 := (HB2.out.cell (p := ⟨w4.heap.size, 0, none⟩) HL7.out).trans HC7.out
      have hcn' := (World.cell?_drewN W nq ⟨wz.heap.size, 0, none⟩).trans HCN.out
      have hfn' : (W.drewN nq).frozen? ⟨wz.heap.size, 0, none⟩ = false := HFN.out
      clear hcn hfn
      have HX1 := Lib.hid (fun W' (hW : Below wz.heap.size wz W') => after_any rb g p U W' (k : Int) (HR.out.below hW) HU.out HWF.out HLU.out.1)
      have HX2 := Lib.hid (fun W' (hW : Below wz.heap.size wz W') => before_any rb g p U W' (k : Int) (HR.out.below hW) HU.out HWF.out HLU.out.1)
      have HX3 := Lib.hid (fun W' (hW : Below wz.heap.size wz W') => next_any rb g p U W' (k : Int) (HR.out.below hW) HU.out HWF.out HLU.out.1)
      simp only [stp_yes HDY.out, decide_eq_true HDY.out, HTU.out.aft_alike HAL.out HDY.out] at HX1
      simp only [stp_yes HDY.out, decide_eq_true HDY.out, HTU.out.bef_alike HAL.out HDY.out] at HX2
      simp only [stp_yes HDY.out, decide_eq_true HDY.out, HTU.out.nxt_alike HAL.out HDY.out] at HX3
      have HY1 := Lib.hid (fun W' (hW : Below wz.heap.size wz W') => r6After_any _ _ g p T k W' (HG1.out.below (trans2 HB5.out hW)) (HT1.out.below (trans2 HB5.out hW)) HTU.out HDY.out hlE HLT.out)
      have HY2 := Lib.hid (fun W' (hW : Below wz.heap.size wz W') => r6Before_any _ _ g p T k W' (HG1.out.below (trans2 HB5.out hW)) (HT1.out.below (trans2 HB5.out hW)) HTU.out HDY.out hlE HLT.out)
      have HY3 := Lib.hid (fun W' (hW : Below wz.heap.size wz W') => r6Next_any _ _ g p T k W' (HG1.out.below (trans2 HB5.out hW)) (HT1.out.below (trans2 HB5.out hW)) HTU.out HDY.out hlE HLT.out)
      generalize aftT g T (k : Int) = ra at *
      generalize befT g T (k : Int) = rbb at *
      generalize nxt g T (k : Int) = rn at *
      gi_wp2_with fail
      generalize (W.drewN nq).setCell ⟨wz.heap.size, 0, none⟩ (.int .i64 ((nn : Int) + 1)) = W2 at *
      clear hcn' hfn' q7
      refine ⟨trivial, ((callsIn_wide.2 (HX1.out _ HB2.out)).inRound l).mono ?_⟩
      rintro e W3 ⟨rfl, hB3⟩
      have HT3 := Lib.hid hB3
      have HB3 := Lib.hid (trans2 HB2.out hB3)
      have q7 := (HB3.out.cell (p := ⟨w4.heap.size, 0, none⟩) HL7.out).trans HC7.out
      clear hB3 HX1
      gi_wp2_with fail
      clear q7
      refine ⟨trivial, ((callsIn_wide.2 (HX2.out _ HB3.out)).inRound l).mono ?_⟩
      rintro e W4 ⟨rfl, hB4⟩
      have HT4 := Lib.hid (trans2 HT3.out hB4)
      have HB4' := Lib.hid (trans2 HB3.out hB4)
      have q7 := (HB4'.out.cell (p := ⟨w4.heap.size, 0, none⟩) HL7.out).trans HC7.out
      clear hB4 HX2
      gi_wp2_with fail
      clear q7
      refine ⟨trivial, ((callsIn_wide.2 (HX3.out _ HB4'.out)).inRound l).mono ?_⟩
      rintro e W5 ⟨rfl, hB5⟩
      have HT5 := Lib.hid (trans2 HT4.out hB5)
      have HB5' := Lib.hid (trans2 HB4'.out hB5)
      obtain ⟨c0, c1, d0, d1, k5⟩ := HCB.out W5 (trans2 HB5.out HB5'.out)
      clear hB5 HX3
      gi_wp2_with fail
      clear c0 c1 d0 d1 k5
      refine ⟨trivial, ((callsIn_wide.2 (HY1.out _ HB5'.out)).inRound l).mono ?_⟩
      rintro e W6 ⟨rfl, hB6⟩
      have HT6 := Lib.hid (trans2 HT5.out hB6)
      have HB6 := Lib.hid (trans2 HB5'.out hB6)
      obtain ⟨c0, c1, d0, d1, k5⟩ := HCB.out W6 (trans2 HB5.out HB6.out)
      clear hB6 HY1
      gi_wp2_with fail
      clear c0 c1 d0 d1 k5
      refine ⟨trivial, ((callsIn_wide.2 (HY2.out _ HB6.out)).inRound l).mono ?_⟩
      rintro e W7 ⟨rfl, hB7⟩
      have HT7 := Lib.hid (trans2 HT6.out hB7)
      have HB7 := Lib.hid (trans2 HB6.out hB7)
      obtain ⟨c0, c1, d0, d1, k5⟩ := HCB.out W7 (trans2 HB5.out HB7.out)
      clear hB7 HY2
      gi_wp2_with fail
      clear c0 c1 d0 d1 k5
      refine ⟨trivial, ((callsIn_wide.2 (HY3.out _ HB7.out)).inRound l).mono ?_⟩
      rintro e W8 ⟨rfl, hB8⟩
      have HT8 := Lib.hid (trans2 HT7.out hB8)
      have HB8' := Lib.hid (trans2 HB7.out hB8)
      clear hB8 HY3
      have HN2 := Lib.hid (World.block_lt_of_cell? W2 _ HC2.out)
      gi_wp2
      refine ⟨HK2.out.trans (keepsOthers_below HT8.out), KpD.beside HNE.out (fun i hi hne => (HT8.out.block i (Nat.lt_of_lt_of_le hi HZ2.out)).trans (HS2.out i hne)), ⟨?_, ?_, HYP.out⟩, HB8'.out⟩
      · rw [HLN.out]
        exact (HT8.out.cell (p := ⟨wz.heap.size, 0, none⟩) HN2.out).trans HC2.out
      · exact (HT8.out.frozen (p := ⟨wz.heap.size, 0, none⟩) HN2.out).trans HF2.out

end Go.Proofs.Ytohaopfpjkhheaa.Rt
