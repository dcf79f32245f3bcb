/-
  RotaMirror: mirrored twice turns are as they were; what comes behind around a face, of the mirrored ones, is the twin of what comes ahead of the twin: the law's call answers true at every input.
-/
import Derived.Test.YtohaopfpjkhheaaLawTS
import Derived.Test.YtohaopfpjkhheaaRuD
namespace Go.Proofs.Ytohaopfpjkhheaa.Rt
open Go.Proofs.Ytohaopfpjkhheaa Go.RowKit Go.Maps Go.Shelf

attribute [local go_sem] Oper.semAt_some

theorem rtwin_any (k : Nat) (w : World) (hk : k ≤ 4000000) : Calls Try.prog 20 #[.int .i64 (k : Int)] w fun e w' => e = .returned (.int .i64 (twi (k : Int))) ∧ w = w' := by
  rw [twi_nat]; exact twin_any k w hk

/-- Turns, each begun with its least, begun so again. -/
theorem fst_same {g : Gph} {p : Prt} {T : List (List Int)} (h : Turns g p T) : (T.map fst).map fst = T.map fst := h.fst_alike (alike_fst T)
/-- Mirrored twice they are as they were. -/
theorem mir_twice {g : Gph} {p : Prt} {T : List (List Int)} (h : Turns g p T) : (mir ((mir (T.map fst)).map fst)).map fst = T.map fst := by
  have hU := h.alike (alike_fst T)
  have h1 := alike_mir_mir (T := T.map fst) (alike_fst (mir (T.map fst))) (Alike.refl (mir ((mir (T.map fst)).map fst)))
  exact (hU.fst_alike h1).trans (fst_same h)
theorem nxt_mirror {g : Gph} {p : Prt} {U : List (List Int)} (h : Turns g p U) {d : Int} (hd : Dart p d) : nxt g ((mir U).map fst) d = twi (bak g U (twi d)) :=
  (h.mir.nxt_alike (alike_fst (mir U)) hd).trans (h.nxt_mir hd)

set_option maxRecDepth 100000 in
set_option maxHeartbeats 8000000 in
theorem rotaMirror_any (v : Value) (g : Gph) (u : Value) (p : Prt) (x : Value) (T : List (List Int)) (w : World) (h : Gr w v g) (h' : Pt w u p) (hT : LL w x T) (hw : ∀ j, ∀ y ∈ getT T j, (Lit.int .i64 y).wf = true) :
    Calls Try.prog 4 #[v, u, x] w fun e w' => e = .returned (.bool true) ∧ Below w.heap.size w w' := by
  have HG := Lib.hid h
  have HP := Lib.hid h'
  obtain ⟨ve, rfl, h1⟩ := h
  obtain ⟨vv, vp, rfl, h2, h3⟩ := h'
  obtain ⟨Ae, ce, rfl⟩ := h1.form
  obtain ⟨Av, cv, rfl⟩ := ints_form h2
  obtain ⟨Ap, cp, rfl⟩ := ints_form h3
  obtain ⟨A, cap, rfl, _, _⟩ := hT.form
  obtain ⟨b1, b2, hm⟩ := two_boxes w (.int .i64 g.n) (.slice Ae g.e.length ce) (.slice Av p.v.length cv) (.slice Ap p.e.length cp) 24 27
  have hsz : ((w.alloc (.cells #[.int .i64 g.n, .slice Ae g.e.length ce] 24)).alloc (.cells #[.slice Av p.v.length cv, .slice Ap p.e.length cp] 27)).heap.size = w.heap.size + 1 + 1 := by simp
  have hn := new_cell ((w.alloc (.cells #[.int .i64 g.n, .slice Ae g.e.length ce] 24)).alloc (.cells #[.slice Av p.v.length cv, .slice Ap p.e.length cp] 27)) (.bool false) 4
  have hf := new_thaw ((w.alloc (.cells #[.int .i64 g.n, .slice Ae g.e.length ce] 24)).alloc (.cells #[.slice Av p.v.length cv, .slice Ap p.e.length cp] 27)) #[.bool false] 4 0
  have hb3 := below_alloc (w := (w.alloc (.cells #[.int .i64 g.n, .slice Ae g.e.length ce] 24)).alloc (.cells #[.slice Av p.v.length cv, .slice Ap p.e.length cp] 27)) (.cells #[.bool false] 4)
  rw [hsz] at hn hf
  have HB1 := Lib.hid (b1.below hb3)
  have HB2 := Lib.hid (b2.below hb3)
  have HM := Lib.hid (trans2 hm hb3)
  have HG1 := Lib.hid ((HG.out.below hm).below hb3)
  have HP1 := Lib.hid ((HP.out.below hm).below hb3)
  have HT1 := Lib.hid ((hT.below hm).below hb3)
  have HC6 := Lib.hid hn
  have HF6 := Lib.hid hf
  have HW := Lib.hid hw
  have HL6 := Lib.hid (show w.heap.size + 1 + 1 < (((w.alloc (.cells #[.int .i64 g.n, .slice Ae g.e.length ce] 24)).alloc (.cells #[.slice Av p.v.length cv, .slice Ap p.e.length cp] 27)).alloc (.cells #[.bool false] 4)).heap.size by simp)
  clear b1 b2 hm h1 h2 h3 HG HP hT hw hn hf hb3 hsz
  refine (callsIn_wide (n := 6)).1 ?_
  refine callsIn_of_wp_marks Try.func4 rfl trivial ?_ rfl
  simp only [Try.ntmps4, List.size_toArray, List.length_cons, List.length_nil, Nat.reduceAdd, Nat.reduceSub, Array.replicate_succ, Array.replicate_zero, List.push_toArray, List.append_toArray, List.nil_append, List.cons_append]
  gi_wp2_with fail
  generalize ((w.alloc (.cells #[.int .i64 g.n, .slice Ae g.e.length ce] 24)).alloc (.cells #[.slice Av p.v.length cv, .slice Ap p.e.length cp] 27)).alloc (.cells #[.bool false] 4) = w1 at *
  refine ⟨trivial, (callsIn_wide.2 (tawake_any w1)).mono ?_⟩
  rintro e w2 ⟨rfl, hB2⟩
  have c0 := (HB1.out.below hB2).c0
  have c1 := (HB1.out.below hB2).c1
  have d0 := (HB2.out.below hB2).c0
  have d1 := (HB2.out.below hB2).c1
  have HBB2 := Lib.hid hB2
  clear hB2
  gi_wp2_with fail
  refine ⟨trivial, (callsIn_wide.2 (small6_any _ _ _ g p T w2 (HG1.out.below HBB2.out) (HP1.out.below HBB2.out) (HT1.out.below HBB2.out))).mono ?_⟩
  rintro e w3 ⟨rfl, hB3⟩
  have HB3 := Lib.hid (trans2 HBB2.out hB3)
  clear hB3 c0 c1 d0 d1 HBB2
  have HST := Lib.hid (fun (W : World) (hW : Below w1.heap.size w1 W) => show Below w.heap.size w (W.setCell ⟨w.heap.size + 1 + 1, 0, none⟩ (.bool true)) ∧ (W.setCell ⟨w.heap.size + 1 + 1, 0, none⟩ (.bool true)).cell? ⟨w.heap.size + 1 + 1, 0, none⟩ = some (.bool true) from
    ⟨(trans2 HM.out hW).setCell (p := ⟨w.heap.size + 1 + 1, 0, none⟩) (by show w.heap.size ≤ w.heap.size + 1 + 1; omega) _, World.cell?_setCell_same' W ⟨w.heap.size + 1 + 1, 0, none⟩ (.bool true) (by rw [(hW.cell (p := ⟨w.heap.size + 1 + 1, 0, none⟩) HL6.out).trans HC6.out]; rfl)⟩)
  have HC66 := Lib.hid (fun (W : World) (hW : Below w1.heap.size w1 W) => (⟨(hW.cell (p := ⟨w.heap.size + 1 + 1, 0, none⟩) HL6.out).trans HC6.out, (hW.frozen (p := ⟨w.heap.size + 1 + 1, 0, none⟩) HL6.out).trans HF6.out⟩ : W.cell? ⟨w.heap.size + 1 + 1, 0, none⟩ = some (.bool false) ∧ W.frozen? ⟨w.heap.size + 1 + 1, 0, none⟩ = false))
  by_cases hs : small6 g p T = true
  case neg =>
    have e : small6I g p T = 0 := if_neg hs
    rw [e]
    clear e hs
    gi_wp2_with fail
    refine ⟨trivial, (callsIn_wide.2 (tawake_any w3)).mono ?_⟩
    rintro e w4 ⟨rfl, hB4⟩
    have HZ := Lib.hid (HST.out w4 (trans2 HB3.out hB4))
    obtain ⟨k6, f6⟩ := HC66.out w4 (trans2 HB3.out hB4)
    clear hB4
    gi_wp2
    refine ⟨.bool true, ?_, rfl, HZ.out.1⟩
    simp [results, Try.f4, go_sem, HZ.out.2]
  have e : small6I g p T = 1 := if_pos hs
  obtain ⟨hl, hp1, hp2, hlT, hrT⟩ := small6_facts hs
  rw [e]
  have c0 := (HB1.out.below HB3.out).c0
  have c1 := (HB1.out.below HB3.out).c1
  have d0 := (HB2.out.below HB3.out).c0
  have d1 := (HB2.out.below HB3.out).c1
  clear e hs
  have HN := Lib.hid (new_any _ _ _ g p T w3 (HG1.out.below HB3.out) (HP1.out.below HB3.out) (HT1.out.below HB3.out) (by omega) (by omega) (by omega) (by omega) (fun j => by have := hrT j; omega) HW.out)
  gi_wp2_with fail
  refine ⟨trivial, (callsIn_wide.2 HN.out).mono ?_⟩
  clear HN c0 c1 d0 d1
  rintro e w4 ⟨hB4, ⟨hne, rfl⟩ | ⟨hTu, rb, rfl, hRo⟩⟩
  · have hB5 := trans2 (trans2 HB3.out hB4) (below_alloc (w := w4) (.cells #[.pointer none] 31))
    have HZ := Lib.hid (HST.out _ hB5)
    obtain ⟨k6, f6⟩ := HC66.out _ hB5
    have k7 := new_cell w4 (.pointer none) 31
    have hne' : (terr g p T != 0) = true := by simpa using hne
    clear hB4 hne hB5
    generalize terr g p T = te at *
    gi_wp2
    refine ⟨.bool true, ?_, rfl, HZ.out.1⟩
    simp [results, Try.f4, go_sem, HZ.out.2]
  -- the turns are turns
  have HB4 := Lib.hid (trans2 HB3.out hB4)
  have hb5 := below_alloc (w := w4) (.cells #[.pointer (some ⟨rb, 0, none⟩)] 31)
  have HR := Lib.hid (hRo.below hb5)
  have HU := Lib.hid (hTu.alike (alike_fst T))
  have HP0 := Lib.hid hTu.right
  have hlU : (T.map fst).length ≤ 1000 := by rw [List.length_map]; omega
  have hrU : ∀ j, (getT (T.map fst) j).length ≤ 500 := fun j => by
    rw [getT_map fst fst_nil, fst_len]
    have := hrT j
    omega
  have hwU : ∀ j, ∀ y ∈ getT (T.map fst) j, (Lit.int .i64 y).wf = true := fun j y hy => by
    rw [getT_map fst fst_nil] at hy
    exact HW.out j y ((fst_in _ _).1 hy)
  have hlV : ((mir (T.map fst)).map fst).length ≤ 1000 := by rw [List.length_map, mir, List.length_map]; exact hlU
  have hrV : ∀ j, (getT ((mir (T.map fst)).map fst) j).length ≤ 500 := fun j => by
    rw [getT_map fst fst_nil, fst_len, getT_mir, List.length_reverse]
    exact hrU j
  have hwV : ∀ j, ∀ y ∈ getT ((mir (T.map fst)).map fst) j, (Lit.int .i64 y).wf = true := fun j y hy => by
    rw [getT_map fst fst_nil] at hy
    have := (fst_in _ _).1 hy
    rw [getT_mir, List.mem_reverse] at this
    exact hwU j y this
  have HEQ := Lib.hid (mir_twice hTu)
  have HNX := Lib.hid (fun d (hd : Dart p d) => nxt_mirror HU.out hd)
  have HUV := Lib.hid (HU.out.mir.alike (alike_fst (mir (T.map fst))))
  have HLU := Lib.hid (show (∀ j, (getT (T.map fst) j).length ≤ 1000000) ∧ ∀ j, (getT (T.map fst) j).length ≤ 4000000 from ⟨fun j => by have := hrU j; omega, fun j => by have := hrU j; omega⟩)
  have HLV := Lib.hid (show ∀ j, (getT ((mir (T.map fst)).map fst) j).length ≤ 1000000 from fun j => by have := hrV j; omega)
  have HLW := Lib.hid (show (∀ j, (getT ((mir ((mir (T.map fst)).map fst)).map fst) j).length ≤ 1000000) ∧ (∀ j, (getT ((mir ((mir (T.map fst)).map fst)).map fst) j).length ≤ 4000000) ∧ ((mir ((mir (T.map fst)).map fst)).map fst).length ≤ 1000000 from by
    rw [HEQ.out]
    exact ⟨HLU.out.1, HLU.out.2, by omega⟩)
  have HMI := Lib.hid (mirror_any rb g p (T.map fst) _ HR.out HU.out hlU hrU hwU)
  have HMM := Lib.hid (fun (m : Nat) (W W' : World) (hr : Ro W m g p ((mir (T.map fst)).map fst)) (hW : Below W.heap.size W W') => mirror_any m g p _ W' (hr.below hW) HUV.out hlV hrV hwV)
  have HB5 := Lib.hid (trans2 HB4.out hb5)
  have HC7 := Lib.hid (new_cell w4 (.pointer (some ⟨rb, 0, none⟩)) 31)
  have HL7 := Lib.hid (show w4.heap.size < (w4.alloc (.cells #[.pointer (some ⟨rb, 0, none⟩)] 31)).heap.size by simp)
  have hc7 := HC7.out
  have hlU2 : (T.map fst).length ≤ 1000000 := by omega
  have hlE : g.e.length ≤ 1000000 := by omega
  clear hB4 hRo hTu hb5 hrT hrU hwU hrV hwV hlV hlT
  generalize T.map fst = U at *
  generalize (mir U).map fst = V at *
  gi_wp2_with fail
  generalize w4.alloc (.cells #[.pointer (some ⟨rb, 0, none⟩)] 31) = w5 at *
  clear hc7
  refine ⟨trivial, (callsIn_wide.2 HMI.out).mono ?_⟩
  rintro e w6 ⟨mb, rfl, hRm, hB6⟩
  have hb7 := below_alloc (w := w6) (.cells #[.pointer (some ⟨mb, 0, none⟩)] 31)
  have HRm := Lib.hid (hRm.below hb7)
  replace HR := Lib.hid ((HR.out.below hB6).below hb7)
  replace HB5 := Lib.hid (trans2 HB5.out (trans2 hB6 hb7))
  replace HC7 := Lib.hid ((((trans2 hB6 hb7).cell (p := ⟨w4.heap.size, 0, none⟩) HL7.out)).trans HC7.out)
  replace HL7 := Lib.hid (Nat.lt_of_lt_of_le HL7.out (trans2 hB6 hb7).size)
  have HC9 := Lib.hid (new_cell w6 (.pointer (some ⟨mb, 0, none⟩)) 31)
  have HL9 := Lib.hid (show w6.heap.size < (w6.alloc (.cells #[.pointer (some ⟨mb, 0, none⟩)] 31)).heap.size by simp)
  clear hRm hB6 hb7 HMI
  replace HMM := Lib.hid (fun W hW => HMM.out mb _ W HRm.out hW)
  gi_wp2_with fail
  generalize w6.alloc (.cells #[.pointer (some ⟨mb, 0, none⟩)] 31) = w7 at *
  have HT2 := Lib.hid (fun b W (hr : Ro W b g p ((mir V).map fst)) => turn_any b g p _ W hr HLW.out.2.2 HLW.out.1)
  have HTT := Lib.hid (fun W (hW : Below w7.heap.size w7 W) => turn_any rb g p U W (HR.out.below hW) hlU2 HLU.out.1)
  have HQ := Lib.hid (fun (a b : Value) W (ha : LL W a ((mir V).map fst)) (hb : LL W b U) => r6Equal_any a b _ _ W ha hb HLW.out.2.1)
  have HT1 := HTT
  -- region seven
  refine wpIn_region_plan [is (.pointer (some ⟨mb, 0, none⟩)), spRo g p ((mir V).map fst), spLL ((mir V).map fst), is (.pointer (some ⟨rb, 0, none⟩)), spLL U, is (.bool true), is (.bool false)] (by kernel_rfl) (by kernel_rfl) ?_ ?_
  · skip
    refine StepsP.cons ?_ ?_
    · refine step_val (fun a wx hB O D => ?_)
      have e9 : a.tmps[9]? = some (.pointer (some ⟨w6.heap.size, 0, none⟩)) := O 9 (by rfl)
      have q9 := (hB.cell (p := ⟨w6.heap.size, 0, none⟩) HL9.out).trans HC9.out
      clear O D
      exact ⟨rfl, by go_simp⟩
    refine StepsP.cons ?_ ?_
    · refine step_call (enters_of Try.func16 (by kernel_rfl) rfl) rfl rfl (fun a wx hB O D => ?_)
      obtain ⟨_, e38, rfl⟩ := D 0 _ _ _ (by decide) rfl rfl rfl
      refine ⟨rfl, #[.pointer (some ⟨mb, 0, none⟩)], by simp only [List.map_toArray, List.map_cons, List.map_nil, ev e38] <;> rfl, ?_⟩
      exact (HMM.out _ hB).mono fun _ _ ⟨m, he, hr, hb⟩ => ⟨_, he, hb, m, rfl, hr⟩
    refine StepsP.cons ?_ ?_
    · refine step_call (enters_of Try.func18 (by kernel_rfl) rfl) rfl rfl (fun a wx hB O D => ?_)
      obtain ⟨v39, e39, s39⟩ := D 1 _ _ _ (by decide) rfl rfl rfl
      refine ⟨rfl, #[v39], by simp only [List.map_toArray, List.map_cons, List.map_nil, ev e39] <;> rfl, ?_⟩
      obtain ⟨b39, rfl, r39⟩ := s39; exact (HT2.out _ _ r39).mono fun _ _ ⟨u, us, he, hm, hb⟩ => ⟨u, he, hb, hm.reads⟩
    refine StepsP.cons ?_ ?_
    · refine step_val (fun a wx hB O D => ?_)
      have e7 : a.tmps[7]? = some (.pointer (some ⟨w4.heap.size, 0, none⟩)) := O 7 (by rfl)
      have q7 := (hB.cell (p := ⟨w4.heap.size, 0, none⟩) HL7.out).trans HC7.out
      clear O D
      exact ⟨rfl, by go_simp⟩
    refine StepsP.cons ?_ ?_
    · refine step_call (enters_of Try.func18 (by kernel_rfl) rfl) rfl rfl (fun a wx hB O D => ?_)
      obtain ⟨_, e41, rfl⟩ := D 3 _ _ _ (by decide) rfl rfl rfl
      refine ⟨rfl, #[.pointer (some ⟨rb, 0, none⟩)], by simp only [List.map_toArray, List.map_cons, List.map_nil, ev e41] <;> rfl, ?_⟩
      exact (HT1.out _ hB).mono fun _ _ ⟨u, us, he, hm, hb⟩ => ⟨u, he, hb, hm.reads⟩
    refine StepsP.cons ?_ ?_
    · refine step_call (enters_of Try.func17 (by kernel_rfl) rfl) rfl rfl (fun a wx hB O D => ?_)
      obtain ⟨v40, e40, s40⟩ := D 2 _ _ _ (by decide) rfl rfl rfl
      obtain ⟨v42, e42, s42⟩ := D 4 _ _ _ (by decide) rfl rfl rfl
      refine ⟨rfl, #[v40, v42], by simp only [List.map_toArray, List.map_cons, List.map_nil, ev e40, ev e42] <;> rfl, ?_⟩
      exact (HQ.out _ _ _ s40 s42).mono fun _ _ ⟨he, n, hw⟩ => ⟨_, he, hw ▸ below_drewN' wx n, congrArg Value.bool (decide_eq_true HEQ.out)⟩
    refine StepsP.cons ?_ ?_
    · refine step_val (fun a wx hB O D => ?_)
      obtain ⟨_, e43, rfl⟩ := D 5 _ _ _ (by decide) rfl rfl rfl
      clear O D
      exact ⟨rfl, by go_simp⟩
    exact StepsP.nil
  · intro wz hZ
    refine EndP.is ?_
    refine EndP.sp rfl (fun v39 s39 => ?_)
    refine EndP.sp rfl (fun v40 s40 => ?_)
    refine EndP.is ?_
    refine EndP.sp rfl (fun v42 s42 => ?_)
    refine EndP.is ?_
    refine EndP.is ?_
    refine EndP.nil ?_
  -- behind seven
    refine wpListIn_nil ?_
    simp only [Act.put, List.setIfInBounds_toArray, List.set_cons_zero, List.set_cons_succ]
    have q7 := (hZ.cell (p := ⟨w4.heap.size, 0, none⟩) HL7.out).trans HC7.out
    have HDT := Lib.hid (darts_any' rb g p U wz (HR.out.below hZ) HP0.out)
    have HZ := Lib.hid hZ
    clear hZ HT1 HT2 HTT HQ HMM
    gi_wp2_with fail
    refine ⟨trivial, (callsIn_wide.2 HDT.out).mono ?_⟩
    clear HDT q7
    rintro e w8 ⟨Bs, sv, rfl, hBs1, hBs2, hBs3, hI, hB8⟩
    have HB8 := Lib.hid (trans2 HZ.out hB8)
    have HIT := Lib.hid (iter_stops Fence.wide 5 trivial rfl (by omega) Bs sv (allD p) (by rw [allD_len]; omega) w8 hBs2 hBs3 hI)
    have HII := Lib.hid hI
    have HC7b := Lib.hid ((HB8.out.cell (p := ⟨w4.heap.size, 0, none⟩) HL7.out).trans HC7.out)
    have HC9b := Lib.hid ((HB8.out.cell (p := ⟨w6.heap.size, 0, none⟩) HL9.out).trans HC9.out)
    have HL7b := Lib.hid (Nat.lt_of_lt_of_le HL7.out HB8.out.size)
    have HL9b := Lib.hid (Nat.lt_of_lt_of_le HL9.out HB8.out.size)
    have HRb := Lib.hid (HR.out.below HB8.out)
    have HRmb := Lib.hid (HRm.out.below HB8.out)
    have HB58 := Lib.hid (trans2 HB5.out HB8.out)
    clear hBs1 hBs2 hBs3 hI hB8 HZ
    gi_wp2_with fail
    refine' wpIn_rangeFunc_ownF rfl (by omega) (gf := 39) (lb := #[.pointer (some ⟨Bs, 0, none⟩)]) rfl trivial (enters_of Try.func39 (by kernel_rfl) rfl)
      HIT.out (fun h k => KpD.trans h k) (fun W l o o' _ ho hc _ => KpD.obj W l o o' ho hc) (Below.refl _ _) (fun _ => rfl)
      (fun _ W => Below w8.heap.size w8 W) (fun _ _ _ => False) (ownFrom_below (Nat.le_refl _) (Nat.le_refl _)) (fun _ _ _ _ _ hs _ _ => hs) (Below.refl _ _) _ ?assign ?body ?done ?stop
    case assign =>
      intro l x W K hK
      gi_wp2
      exact hK
    case stop =>
      rintro D c pre W hD hpre h hK
      exact h.elim
    case done =>
      rintro D ys W hD hys hBW hK
      have hBA := trans2 HB58.out hBW
      have HZ := Lib.hid (HST.out W hBA)
      obtain ⟨k6, f6⟩ := HC66.out W hBA
      clear hys hBW hBA
      gi_wp2
      have hK' := (KeepsOthers.setCell W ⟨w.heap.size + 1 + 1, 0, none⟩ (.bool true)).same D _ hK rfl
      have hDw : w.heap.size ≤ D := Nat.le_trans (Nat.le_trans HM.out.size HB58.out.size) hD
      refine ⟨by simp, .inl ⟨_, _, rfl, run_takeDeferred hK', ?_⟩⟩
      have hc6 := cell_kept HZ.out.2 (grownBy_putObj' _ D (.deferred none)) (fun r e => by cases e; exact ⟨_, hK', rfl⟩)
      refine ⟨.bool true, ?_, rfl, HZ.out.1.trans (belowK_b (w := w) (Nat.le_refl _) _ D _ _ hDw hK' rfl rfl)⟩
      simp [results, Try.f4, go_sem, hc6]
    case body =>
      rintro l pre ⟨y, hy⟩ W hBW hpl
      have hdy := (mem_allD HP0.out y).1 hy
      obtain ⟨k, rfl⟩ : ∃ k : Nat, y = (k : Int) := ⟨y.toNat, by have := hdy.1; omega⟩
      have hib := ints g p HP0.out hdy.2
      have hk4 : k ≤ 4000000 := by omega
      obtain ⟨hbk1, _⟩ := HU.out.bak hdy.twi
      have hib2 := ints g p HP0.out hbk1.2
      obtain ⟨kb, hkb⟩ : ∃ kb : Nat, bak g U (twi (k : Int)) = (kb : Int) := ⟨(bak g U (twi (k : Int))).toNat, by have := hbk1.1; omega⟩
      have hkb4 : kb ≤ 4000000 := by have := hbk1.1; rw [hkb] at hib2; omega
      have hwk := dart_wf HP0.out hlE hdy
      have HNC := Lib.hid (next_any mb g p V W (k : Int) (HRmb.out.below hBW) HUV.out hwk HLV.out)
      rw [stp_yes hdy, decide_eq_true hdy, HNX.out _ hdy, hkb] at HNC
      have HTW := Lib.hid (fun W => rtwin_any k W hk4)
      have HBK := Lib.hid (fun (W W' : World) (hW : Below w8.heap.size w8 W) (hW' : Below W.heap.size W W') => back_any rb g p U W' (twi (k : Int)) ((HRb.out.below hW).below hW') HU.out (wf_twi hwk) HLU.out.1 hlE)
      simp only [stp_yes hdy.twi, decide_eq_true hdy.twi, hkb] at HBK
      have HT2 := Lib.hid (fun W => rtwin_any kb W hkb4)
      have HBW := Lib.hid hBW
      have q9 := (hBW.cell (p := ⟨w6.heap.size, 0, none⟩) HL9b.out).trans HC9b.out
      dsimp only
      clear hdy hib hib2 hbk1 hkb hwk hpl hBW hk4 hkb4
      generalize twi (k : Int) = tk at *
      generalize htb : twi (kb : Int) = tb at *
      have HTB := Lib.hid htb
      clear htb
      gi_wp2_with fail
      refine ⟨trivial, ((callsIn_wide.2 HNC.out).inRound l).mono ?_⟩
      clear HNC q9
      rintro e W2 ⟨rfl, hB2⟩
      have HBW2 := Lib.hid (trans2 HBW.out hB2)
      have HC7W := Lib.hid ((HBW2.out.cell (p := ⟨w4.heap.size, 0, none⟩) HL7b.out).trans HC7b.out)
      have HL7W := Lib.hid (Nat.lt_of_lt_of_le HL7b.out HBW2.out.size)
      replace HBK := Lib.hid (fun W' hW' => HBK.out W2 W' HBW2.out hW')
      have HWB2 := Lib.hid hB2
      clear hB2
      gi_wp2_with fail
      -- region twelve
      refine wpIn_round_plan [is (.pointer (some ⟨rb, 0, none⟩)), is (.int .i64 (k : Int)), is (.int .i64 tk), is (.tuple #[.int .i64 (kb : Int), .bool true]), is (.tuple #[.int .i64 (kb : Int), .bool true]), is (.int .i64 (kb : Int)), is (.bool true), is (.int .i64 (kb : Int)), is (.bool true)] (by kernel_rfl) (by kernel_rfl) (by kernel_rfl) ?_ ?_
      · skip
        refine StepsP.cons ?_ ?_
        · refine step_val (fun a wx hB O D => ?_)
          have e7 : a.tmps[7]? = some (.pointer (some ⟨w4.heap.size, 0, none⟩)) := O 7 (by rfl)
          have q7 := (hB.cell (p := ⟨w4.heap.size, 0, none⟩) HL7W.out).trans HC7W.out
          clear O D
          exact ⟨rfl, by go_simp⟩
        refine StepsP.cons ?_ ?_
        · refine step_val (fun a wx hB O D => ?_)
          have e10 : a.tmps[10]? = some (.int .i64 (k : Int)) := O 10 (by rfl)
          clear O D
          exact ⟨rfl, by unfold execOp; simp only [ev e10]; rfl⟩
        refine StepsP.cons ?_ ?_
        · refine step_call (enters_of Try.func20 (by kernel_rfl) rfl) rfl rfl (fun a wx hB O D => ?_)
          obtain ⟨_, e56, rfl⟩ := D 1 _ _ _ (by decide) rfl rfl rfl
          refine ⟨rfl, #[.int .i64 (k : Int)], by simp only [List.map_toArray, List.map_cons, List.map_nil, ev e56] <;> rfl, ?_⟩
          exact (HTW.out _).mono fun _ _ ⟨he, hw⟩ => ⟨_, he, hw ▸ Below.refl _ _, rfl⟩
        refine StepsP.cons ?_ ?_
        · refine step_call (enters_of Try.func14 (by kernel_rfl) rfl) rfl rfl (fun a wx hB O D => ?_)
          obtain ⟨_, e55, rfl⟩ := D 0 _ _ _ (by decide) rfl rfl rfl
          obtain ⟨_, e57, rfl⟩ := D 2 _ _ _ (by decide) rfl rfl rfl
          refine ⟨rfl, #[.pointer (some ⟨rb, 0, none⟩), .int .i64 tk], by simp only [List.map_toArray, List.map_cons, List.map_nil, ev e55, ev e57] <;> rfl, ?_⟩
          exact (HBK.out _ hB).mono fun _ _ ⟨he, hb⟩ => ⟨_, he, hb, rfl⟩
        refine StepsP.cons ?_ ?_
        · refine step_val (fun a wx hB O D => ?_)
          obtain ⟨_, e58, rfl⟩ := D 3 _ _ _ (by decide) rfl rfl rfl
          clear O D
          exact ⟨rfl, by unfold execOp; simp only [ev e58]; rfl⟩
        refine StepsP.cons ?_ ?_
        · refine step_val (fun a wx hB O D => ?_)
          obtain ⟨_, e54, rfl⟩ := D 4 _ _ _ (by decide) rfl rfl rfl
          clear O D
          exact ⟨rfl, by go_simp⟩
        refine StepsP.cons ?_ ?_
        · refine step_val (fun a wx hB O D => ?_)
          obtain ⟨_, e54, rfl⟩ := D 4 _ _ _ (by decide) rfl rfl rfl
          clear O D
          exact ⟨rfl, by go_simp⟩
        refine StepsP.cons ?_ ?_
        · refine step_val (fun a wx hB O D => ?_)
          obtain ⟨_, e59, rfl⟩ := D 5 _ _ _ (by decide) rfl rfl rfl
          clear O D
          exact ⟨rfl, by unfold execOp; simp only [ev e59]; rfl⟩
        refine StepsP.cons ?_ ?_
        · refine step_val (fun a wx hB O D => ?_)
          obtain ⟨_, e60, rfl⟩ := D 6 _ _ _ (by decide) rfl rfl rfl
          clear O D
          exact ⟨rfl, by unfold execOp; simp only [ev e60]; rfl⟩
        exact StepsP.nil
      · intro wz hZ
        refine EndP.is ?_
        refine EndP.is ?_
        refine EndP.is ?_
        refine EndP.is ?_
        refine EndP.is ?_
        refine EndP.is ?_
        refine EndP.is ?_
        refine EndP.is ?_
        refine EndP.is ?_
        refine EndP.nil ?_
      -- behind twelve
        refine wpListIn_nil ?_
        simp only [Act.put, List.setIfInBounds_toArray, List.set_cons_zero, List.set_cons_succ]
        have HZ2 := Lib.hid (trans2 HWB2.out hZ)
        clear hZ
        gi_wp2_with fail
        refine ⟨trivial, ((callsIn_wide.2 (HT2.out wz)).inRound l).mono ?_⟩
        rintro e W' ⟨rfl, rfl⟩
        gi_wp2
        exact ⟨keepsOthers_below HZ2.out, KpD.below HII.out (trans2 HBW.out HZ2.out), trans2 HBW.out HZ2.out⟩

end Go.Proofs.Ytohaopfpjkhheaa.Rt
