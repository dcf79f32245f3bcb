/-
  RotaAgain: turns, told and taken again, are the same; so is each step: the law's call answers true at every input.
-/
import Derived.Test.YtohaopfpjkhheaaLawTM
import Derived.Test.YtohaopfpjkhheaaPlanL
namespace Go.Proofs.Ytohaopfpjkhheaa.Rt
open Go.Proofs.Ytohaopfpjkhheaa Go.RowKit Go.Maps Go.Shelf

attribute [local go_sem] Oper.semAt_some

/-! ### What a variable that holds a pointer leaves alone -/

section
variable {w w' : World} {k : Nat} {t : TypeId}
theorem cell_not {a : Addr} {v : Value} (hk : w.heap[k]? = some (.cells #[.pointer none] t (0, 0))) (h : w.cell? a = some v) (hv : v ≠ .pointer none) : a.block ≠ k := by
  intro e
  obtain ⟨b, o, sp⟩ := a
  simp only at e
  subst e
  have hs := World.cell?_spot h
  simp only at hs
  subst hs
  rw [cell_of_row w b o _ _ (0, 0) hk] at h
  rcases Nat.eq_zero_or_pos o with h0 | h0
  · subst h0
    simp at h
    exact hv h.symm
  · rw [Array.getElem?_eq_none (by show 1 ≤ o; omega)] at h
    cases h
theorem Ints.aside {v : Value} {l : List Int} (h : Ints w v l) (hk : w.heap[k]? = some (.cells #[.pointer none] t (0, 0))) (hs : ∀ i, i ≠ k → w'.heap[i]? = w.heap[i]?) (hz : w.heap.size ≤ w'.heap.size) : Ints w' v l := by
  obtain ⟨A, cap, rfl, hc, hm, hr⟩ := h
  refine ⟨A, cap, rfl, hc, hm, fun h0 => ?_⟩
  obtain ⟨b, off, hA, hlt, hg⟩ := hr h0
  refine ⟨b, off, hA, Nat.lt_of_lt_of_le hlt hz, fun j hj => ?_⟩
  have hne := cell_not hk (hg j hj) (by simp)
  exact (World.cell?_of_block (a := ⟨b, off + j, none⟩) (hs b hne)).trans (hg j hj)
theorem LL.aside {v : Value} {T : List (List Int)} (h : LL w v T) (hk : w.heap[k]? = some (.cells #[.pointer none] t (0, 0))) (hs : ∀ i, i ≠ k → w'.heap[i]? = w.heap[i]?) (hz : w.heap.size ≤ w'.heap.size) : LL w' v T := by
  obtain ⟨A, cap, rfl, hc, hm, hr⟩ := h
  refine ⟨A, cap, rfl, hc, hm, fun h0 => ?_⟩
  obtain ⟨b, off, hA, hlt, hg⟩ := hr h0
  refine ⟨b, off, hA, Nat.lt_of_lt_of_le hlt hz, fun j hj => ?_⟩
  obtain ⟨u, h1, h2⟩ := hg j hj
  have h3 := h2
  obtain ⟨A', c', e, _⟩ := h3
  have hne := cell_not hk h1 (by rw [e]; simp)
  exact ⟨u, (World.cell?_of_block (a := ⟨b, off + j, none⟩) (hs b hne)).trans h1, Ints.aside h2 hk hs hz⟩
theorem Ro.aside {b : Nat} {g : Gph} {p : Prt} {U : List (List Int)} (h : Ro w b g p U) (hk : w.heap[k]? = some (.cells #[.pointer none] t (0, 0))) (hs : ∀ i, i ≠ k → w'.heap[i]? = w.heap[i]?) (hz : w.heap.size ≤ w'.heap.size) : Ro w' b g p U := by
  obtain ⟨sv, mb, n, D, h1, h2, h3, h4, h5⟩ := h
  have n1 : b ≠ k := fun e => by rw [e, hk] at h1; simp at h1
  have n2 : mb ≠ k := fun e => by
    obtain ⟨es, clock, hb, _⟩ := h4
    rw [e, hk] at hb
    cases hb
  exact ⟨sv, mb, n, D, (hs b n1).trans h1, LL.aside h2 hk hs hz, h3, map_at h4 (hs mb n2), h5⟩
end

set_option maxRecDepth 100000 in
set_option maxHeartbeats 8000000 in
theorem rotaAgain_any (v : Value) (g : Gph) (u : Value) (p : Prt) (x : Value) (T : List (List Int)) (w : World) (h : Gr w v g) (h' : Pt w u p) (hT : LL w x T) (hw : ∀ j, ∀ y ∈ getT T j, (Lit.int .i64 y).wf = true) :
    Calls Try.prog 7 #[v, u, x] w fun e w' => e = .returned (.bool true) ∧ Below w.heap.size w w' := by
  have HG := Lib.hid h
  have HP := Lib.hid h'
  obtain ⟨ve, rfl, h1⟩ := h
  obtain ⟨vv, vp, rfl, h2, h3⟩ := h'
  obtain ⟨Ae, ce, rfl⟩ := h1.form
  obtain ⟨Av, cv, rfl⟩ := ints_form h2
  obtain ⟨Ap, cp, rfl⟩ := ints_form h3
  obtain ⟨A, cap, rfl, _, _⟩ := hT.form
  obtain ⟨b1, b2, hm⟩ := two_boxes w (.int .i64 g.n) (.slice Ae g.e.length ce) (.slice Av p.v.length cv) (.slice Ap p.e.length cp) 24 27
  have hsz : ((w.alloc (.cells #[.int .i64 g.n, .slice Ae g.e.length ce] 24)).alloc (.cells #[.slice Av p.v.length cv, .slice Ap p.e.length cp] 27)).heap.size = w.heap.size + 1 + 1 := by simp
  have hn := new_cell ((w.alloc (.cells #[.int .i64 g.n, .slice Ae g.e.length ce] 24)).alloc (.cells #[.slice Av p.v.length cv, .slice Ap p.e.length cp] 27)) (.bool false) 4
  have hf := new_thaw ((w.alloc (.cells #[.int .i64 g.n, .slice Ae g.e.length ce] 24)).alloc (.cells #[.slice Av p.v.length cv, .slice Ap p.e.length cp] 27)) #[.bool false] 4 0
  have hb3 := below_alloc (w := (w.alloc (.cells #[.int .i64 g.n, .slice Ae g.e.length ce] 24)).alloc (.cells #[.slice Av p.v.length cv, .slice Ap p.e.length cp] 27)) (.cells #[.bool false] 4)
  rw [hsz] at hn hf
  have HB1 := Lib.hid (b1.below hb3)
  have HB2 := Lib.hid (b2.below hb3)
  have HM := Lib.hid (trans2 hm hb3)
  have HG1 := Lib.hid ((HG.out.below hm).below hb3)
  have HP1 := Lib.hid ((HP.out.below hm).below hb3)
  have HT1 := Lib.hid ((hT.below hm).below hb3)
  have HC6 := Lib.hid hn
  have HF6 := Lib.hid hf
  have HW := Lib.hid hw
  have HL6 := Lib.hid (show w.heap.size + 1 + 1 < (((w.alloc (.cells #[.int .i64 g.n, .slice Ae g.e.length ce] 24)).alloc (.cells #[.slice Av p.v.length cv, .slice Ap p.e.length cp] 27)).alloc (.cells #[.bool false] 4)).heap.size by simp)
  clear b1 b2 hm h1 h2 h3 HG HP hT hw hn hf hb3 hsz
  refine (callsIn_wide (n := 6)).1 ?_
  refine callsIn_of_wp_marks Try.func7 rfl trivial ?_ rfl
  simp only [Try.ntmps7, List.size_toArray, List.length_cons, List.length_nil, Nat.reduceAdd, Nat.reduceSub, Array.replicate_succ, Array.replicate_zero, List.push_toArray, List.append_toArray, List.nil_append, List.cons_append]
  gi_wp2_with fail
  generalize ((w.alloc (.cells #[.int .i64 g.n, .slice Ae g.e.length ce] 24)).alloc (.cells #[.slice Av p.v.length cv, .slice Ap p.e.length cp] 27)).alloc (.cells #[.bool false] 4) = w1 at *
  refine ⟨trivial, (callsIn_wide.2 (tawake_any w1)).mono ?_⟩
  rintro e w2 ⟨rfl, hB2⟩
  have c0 := (HB1.out.below hB2).c0
  have c1 := (HB1.out.below hB2).c1
  have d0 := (HB2.out.below hB2).c0
  have d1 := (HB2.out.below hB2).c1
  have HBB2 := Lib.hid hB2
  clear hB2
  gi_wp2_with fail
  refine ⟨trivial, (callsIn_wide.2 (small6_any _ _ _ g p T w2 (HG1.out.below HBB2.out) (HP1.out.below HBB2.out) (HT1.out.below HBB2.out))).mono ?_⟩
  rintro e w3 ⟨rfl, hB3⟩
  have HB3 := Lib.hid (trans2 HBB2.out hB3)
  clear hB3 c0 c1 d0 d1 HBB2
  have HST := Lib.hid (fun (W : World) (hW : Below w1.heap.size w1 W) => show Below w.heap.size w (W.setCell ⟨w.heap.size + 1 + 1, 0, none⟩ (.bool true)) ∧ (W.setCell ⟨w.heap.size + 1 + 1, 0, none⟩ (.bool true)).cell? ⟨w.heap.size + 1 + 1, 0, none⟩ = some (.bool true) from
    ⟨(trans2 HM.out hW).setCell (p := ⟨w.heap.size + 1 + 1, 0, none⟩) (by show w.heap.size ≤ w.heap.size + 1 + 1; omega) _, World.cell?_setCell_same' W ⟨w.heap.size + 1 + 1, 0, none⟩ (.bool true) (by rw [(hW.cell (p := ⟨w.heap.size + 1 + 1, 0, none⟩) HL6.out).trans HC6.out]; rfl)⟩)
  have HC66 := Lib.hid (fun (W : World) (hW : Below w1.heap.size w1 W) => (⟨(hW.cell (p := ⟨w.heap.size + 1 + 1, 0, none⟩) HL6.out).trans HC6.out, (hW.frozen (p := ⟨w.heap.size + 1 + 1, 0, none⟩) HL6.out).trans HF6.out⟩ : W.cell? ⟨w.heap.size + 1 + 1, 0, none⟩ = some (.bool false) ∧ W.frozen? ⟨w.heap.size + 1 + 1, 0, none⟩ = false))
  by_cases hs : small6 g p T = true
  case neg =>
    have e : small6I g p T = 0 := if_neg hs
    rw [e]
    clear e hs
    gi_wp2_with fail
    refine ⟨trivial, (callsIn_wide.2 (tawake_any w3)).mono ?_⟩
    rintro e w4 ⟨rfl, hB4⟩
    have HZ := Lib.hid (HST.out w4 (trans2 HB3.out hB4))
    obtain ⟨k6, f6⟩ := HC66.out w4 (trans2 HB3.out hB4)
    clear hB4
    gi_wp2
    refine ⟨.bool true, ?_, rfl, HZ.out.1⟩
    simp [results, Try.f7, go_sem, HZ.out.2]
  have e : small6I g p T = 1 := if_pos hs
  obtain ⟨hl, hp1, hp2, hlT, hrT⟩ := small6_facts hs
  rw [e]
  have c0 := (HB1.out.below HB3.out).c0
  have c1 := (HB1.out.below HB3.out).c1
  have d0 := (HB2.out.below HB3.out).c0
  have d1 := (HB2.out.below HB3.out).c1
  clear e hs
  have HN := Lib.hid (new_any _ _ _ g p T w3 (HG1.out.below HB3.out) (HP1.out.below HB3.out) (HT1.out.below HB3.out) (by omega) (by omega) (by omega) (by omega) (fun j => by have := hrT j; omega) HW.out)
  gi_wp2_with fail
  refine ⟨trivial, (callsIn_wide.2 HN.out).mono ?_⟩
  clear HN c0 c1 d0 d1
  rintro e w4 ⟨hB4, ⟨hne, rfl⟩ | ⟨hTu, rb, rfl, hRo⟩⟩
  · have hB5 := trans2 (trans2 HB3.out hB4) (below_alloc (w := w4) (.cells #[.pointer none] 31))
    have HZ := Lib.hid (HST.out _ hB5)
    obtain ⟨k6, f6⟩ := HC66.out _ hB5
    have k7 := new_cell w4 (.pointer none) 31
    have hne' : (terr g p T != 0) = true := by simpa using hne
    clear hB4 hne hB5
    generalize terr g p T = te at *
    gi_wp2
    refine ⟨.bool true, ?_, rfl, HZ.out.1⟩
    simp [results, Try.f7, go_sem, HZ.out.2]
  -- the turns are turns
  have HB4 := Lib.hid (trans2 HB3.out hB4)
  have hb5 := below_alloc (w := w4) (.cells #[.pointer (some ⟨rb, 0, none⟩)] 31)
  have HR := Lib.hid (hRo.below hb5)
  have HU := Lib.hid (hTu.alike (alike_fst T))
  have HP0 := Lib.hid hTu.right
  have HSM := Lib.hid (fst_same hTu)
  have hlU : (T.map fst).length ≤ 1000 := by rw [List.length_map]; omega
  have hrU : ∀ j, (getT (T.map fst) j).length ≤ 500 := fun j => by
    rw [getT_map fst fst_nil, fst_len]
    have := hrT j
    omega
  have hwU : ∀ j, ∀ y ∈ getT (T.map fst) j, (Lit.int .i64 y).wf = true := fun j y hy => by
    rw [getT_map fst fst_nil] at hy
    exact HW.out j y ((fst_in _ _).1 hy)
  have HLU := Lib.hid (show (∀ j, (getT (T.map fst) j).length ≤ 1000000) ∧ ∀ j, (getT (T.map fst) j).length ≤ 4000000 from ⟨fun j => by have := hrU j; omega, fun j => by have := hrU j; omega⟩)
  have HB5 := Lib.hid (trans2 HB4.out hb5)
  have HC7 := Lib.hid (new_cell w4 (.pointer (some ⟨rb, 0, none⟩)) 31)
  have HL7 := Lib.hid (show w4.heap.size < (w4.alloc (.cells #[.pointer (some ⟨rb, 0, none⟩)] 31)).heap.size by simp)
  have hc7 := HC7.out
  have hlU2 : (T.map fst).length ≤ 1000000 := by omega
  have hlE : g.e.length ≤ 1000000 := by omega
  have HXN := Lib.hid (fun (a b c : Value) (W : World) (ha : Gr W a g) (hb : Pt W b p) (hc : LL W c (T.map fst)) => new_any a b c g p (T.map fst) W ha hb hc (by omega) (by omega) (by omega) hlU hrU hwU)
  clear hB4 hRo hTu hb5 hrT hrU hwU hlT
  generalize T.map fst = U at *
  gi_wp2_with fail
  generalize w4.alloc (.cells #[.pointer (some ⟨rb, 0, none⟩)] 31) = w5 at *
  clear hc7
  have HTT := Lib.hid (fun W (hW : Below w5.heap.size w5 W) => turn_any rb g p U W (HR.out.below hW) hlU2 HLU.out.1)
  have HX1 := Lib.hid (HB1.out.below HB5.out)
  have HX2 := Lib.hid (HB2.out.below HB5.out)
  have HG5 := Lib.hid (HG1.out.below HB5.out)
  have HP5 := Lib.hid (HP1.out.below HB5.out)
  -- region six
  refine wpIn_region_planL [is (.agg #[.int .i64 g.n, .slice Ae g.e.length ce]), is (.agg #[.slice Av p.v.length cv, .slice Ap p.e.length cp]), is (.pointer (some ⟨rb, 0, none⟩)), spLL U, spNew g p U, spNew g p U, spRo g p U, is (.int .i64 0), spVar1 31 (.pointer none)] 7 (by kernel_rfl) (by kernel_rfl) rfl rfl rfl rfl rfl rfl rfl ?_ (fun a => store_blind (i := 9) (j := 43) rfl (by decide) (by decide) a) ?_ ?_
  · intro a wx D w'
    obtain ⟨v37, e37, b12, rfl, r12⟩ := D 5 _ _ _ (by decide) rfl rfl rfl
    clear D
    go_simp
  · skip
    refine StepsP.cons ?_ ?_
    · refine step_val (fun a wx hB O D => ?_)
      have e3 : a.tmps[3]? = some (.pointer (some ⟨w.heap.size, 0, none⟩)) := O 3 (by rfl)
      obtain ⟨c0, c1, _⟩ := HX1.out.below hB
      clear O D
      exact ⟨rfl, by go_simp⟩
    refine StepsP.cons ?_ ?_
    · refine step_val (fun a wx hB O D => ?_)
      have e4 : a.tmps[4]? = some (.pointer (some ⟨w.heap.size + 1, 0, none⟩)) := O 4 (by rfl)
      obtain ⟨c0, c1, _⟩ := HX2.out.below hB
      clear O D
      exact ⟨rfl, by go_simp⟩
    refine StepsP.cons ?_ ?_
    · refine step_val (fun a wx hB O D => ?_)
      have e7 : a.tmps[7]? = some (.pointer (some ⟨w4.heap.size, 0, none⟩)) := O 7 (by rfl)
      have q7 := (hB.cell (p := ⟨w4.heap.size, 0, none⟩) HL7.out).trans HC7.out
      clear O D
      exact ⟨rfl, by go_simp⟩
    refine StepsP.cons ?_ ?_
    · refine step_call (enters_of Try.func18 (by kernel_rfl) rfl) rfl rfl (fun a wx hB O D => ?_)
      obtain ⟨_, e40, rfl⟩ := D 2 _ _ _ (by decide) rfl rfl rfl
      refine ⟨rfl, #[.pointer (some ⟨rb, 0, none⟩)], by simp only [List.map_toArray, List.map_cons, List.map_nil, ev e40] <;> rfl, ?_⟩
      exact (HTT.out _ hB).mono fun _ _ ⟨u, us, he, hm, hb⟩ => ⟨u, he, hb, hm.reads⟩
    refine StepsP.cons ?_ ?_
    · refine step_call (enters_of Try.func10 (by kernel_rfl) rfl) rfl rfl (fun a wx hB O D => ?_)
      obtain ⟨_, e38, rfl⟩ := D 0 _ _ _ (by decide) rfl rfl rfl
      obtain ⟨_, e39, rfl⟩ := D 1 _ _ _ (by decide) rfl rfl rfl
      obtain ⟨v41, e41, s41⟩ := D 3 _ _ _ (by decide) rfl rfl rfl
      refine ⟨rfl, #[.agg #[.int .i64 g.n, .slice Ae g.e.length ce], .agg #[.slice Av p.v.length cv, .slice Ap p.e.length cp], v41], by simp only [List.map_toArray, List.map_cons, List.map_nil, ev e38, ev e39, ev e41] <;> rfl, ?_⟩
      exact (HXN.out _ _ _ _ (HG5.out.below hB) (HP5.out.below hB) s41).mono fun _ _ h => by have := newAns h HU.out; rw [HSM.out] at this; exact this
    refine StepsP.cons ?_ ?_
    · refine step_op rfl (fun a wx hB O D => ?_)
      obtain ⟨v42, e42, s42⟩ := D 4 _ _ _ (by decide) rfl rfl rfl
      exact ⟨rfl, v42, by unfold execOp; simp only [ev e42]; rfl, s42⟩
    refine StepsP.cons ?_ ?_
    · refine step_op rfl (fun a wx hB O D => ?_)
      obtain ⟨v37, e37, s37⟩ := D 5 _ _ _ (by decide) rfl rfl rfl
      obtain ⟨b12, rfl, r12⟩ := s37
      clear O D
      exact ⟨rfl, .pointer (some ⟨b12, 0, none⟩), by go_simp, b12, rfl, r12⟩
    refine StepsP.cons ?_ ?_
    · refine step_val (fun a wx hB O D => ?_)
      obtain ⟨v37, e37, s37⟩ := D 5 _ _ _ (by decide) rfl rfl rfl
      obtain ⟨b12, rfl, r12⟩ := s37
      clear O D
      exact ⟨rfl, by go_simp⟩
    refine StepsP.cons ?_ ?_
    · refine step_new (fun a wx => ?_)
      exact ⟨rfl, wx.alloc (.cells #[.pointer none] 31), by go_simp, below_alloc _, by simp, wx.heap.size, rfl, heap_alloc_new wx _⟩
    exact StepsP.nil
  · intro wz hZ
    refine EndP.is ?_
    refine EndP.is ?_
    refine EndP.is ?_
    refine EndP.sp rfl (fun v41 s41 => ?_)
    refine EndP.sp rfl (fun v42 s42 => ?_)
    refine EndP.sp rfl (fun v37 s37 => ?_)
    refine EndP.sp rfl (fun v43 s43 => ?_)
    refine EndP.is ?_
    refine EndP.new rfl (fun g9 s9 l9 n9 => ?_)
    refine EndP.nil ?_
  -- behind six
    simp only [Act.put, List.setIfInBounds_toArray, List.set_cons_zero, List.set_cons_succ]
    obtain ⟨sb, rfl, hRs⟩ := s43
    obtain ⟨_, e9, h9⟩ := s9
    cases e9
    have d9 := cell_of_row wz g9 0 _ _ (0, 0) h9
    have f9 := frozen_of_row wz g9 0 _ _ h9
    have HRs := Lib.hid (Ro.aside (w' := wz.setCell ⟨g9, 0, none⟩ (.pointer (some ⟨sb, 0, none⟩))) hRs h9 (fun i hi => Below.heap_setCell _ _ _ _ hi) (by simp [World.setCell]))
    have hB9 := hZ.setCell (p := ⟨g9, 0, none⟩) l9.1 (.pointer (some ⟨sb, 0, none⟩))
    have HC9 := Lib.hid (World.cell?_setCell_same wz ⟨g9, 0, none⟩ (.pointer (some ⟨sb, 0, none⟩)) d9)
    have HL9 := Lib.hid (show g9 < (wz.setCell ⟨g9, 0, none⟩ (.pointer (some ⟨sb, 0, none⟩))).heap.size by simpa [World.setCell] using l9.2)
    replace HR := Lib.hid (HR.out.below hB9)
    replace HC7 := Lib.hid ((hB9.cell (p := ⟨w4.heap.size, 0, none⟩) HL7.out).trans HC7.out)
    replace HL7 := Lib.hid (Nat.lt_of_lt_of_le HL7.out hB9.size)
    replace HB5 := Lib.hid (trans2 HB5.out hB9)
    clear hRs h9 s41 s42 s37 n9 l9 hZ HTT HXN HX1 HX2 HG5 HP5
    refine ⟨wz.setCell ⟨g9, 0, none⟩ (.pointer (some ⟨sb, 0, none⟩)), by go_simp, ?_⟩
    clear d9 f9 hB9
    generalize wz.setCell ⟨g9, 0, none⟩ (.pointer (some ⟨sb, 0, none⟩)) = w9 at *
    gi_wp2_with fail
    have HTT := Lib.hid (fun W (hW : Below w9.heap.size w9 W) => turn_any rb g p U W (HR.out.below hW) hlU2 HLU.out.1)
    have HTS := Lib.hid (fun W (hW : Below w9.heap.size w9 W) => turn_any sb g p U W (HRs.out.below hW) hlU2 HLU.out.1)
    have HQ := Lib.hid (fun (a b : Value) W (ha : LL W a U) (hb : LL W b U) => r6Equal_any a b _ _ W ha hb HLU.out.2)
    -- region seven
    refine wpIn_region_plan [is (.int .i64 0), is (.bool false), is (.bool false), is (.pointer (some ⟨sb, 0, none⟩)), spLL U, is (.pointer (some ⟨rb, 0, none⟩)), spLL U, is (.bool true), is (.bool false), is (.bool false)] (by kernel_rfl) (by kernel_rfl) ?_ ?_
    · skip
      refine StepsP.cons ?_ ?_
      · refine step_val (fun a wx hB O D => ?_)
        have e10 : a.tmps[10]? = some (.int .i64 0) := O 10 (by rfl)
        clear O D
        exact ⟨rfl, by unfold execOp; simp only [ev e10]; rfl⟩
      refine StepsP.cons ?_ ?_
      · refine step_val (fun a wx hB O D => ?_)
        obtain ⟨_, e45, rfl⟩ := D 0 _ _ _ (by decide) rfl rfl rfl
        clear O D
        exact ⟨rfl, by go_simp⟩
      refine StepsP.cons ?_ ?_
      · refine step_val (fun a wx hB O D => ?_)
        obtain ⟨_, e46, rfl⟩ := D 1 _ _ _ (by decide) rfl rfl rfl
        clear O D
        exact ⟨rfl, by unfold execOp; simp only [ev e46]; rfl⟩
      refine StepsP.cons ?_ ?_
      · refine step_val (fun a wx hB O D => ?_)
        have e9 : a.tmps[9]? = some (.pointer (some ⟨g9, 0, none⟩)) := O 9 (by rfl)
        obtain ⟨_, e47, rfl⟩ := D 2 _ _ _ (by decide) rfl rfl rfl
        have q9 := (hB.cell (p := ⟨g9, 0, none⟩) HL9.out).trans HC9.out
        clear O D
        exact ⟨wanted_of rfl rfl e47 rfl, by go_simp⟩
      refine StepsP.cons ?_ ?_
      · refine step_call (enters_of Try.func18 (by kernel_rfl) rfl) rfl rfl (fun a wx hB O D => ?_)
        obtain ⟨_, e48, rfl⟩ := D 3 _ _ _ (by decide) rfl rfl rfl
        obtain ⟨_, e47, rfl⟩ := D 2 _ _ _ (by decide) rfl rfl rfl
        refine ⟨wanted_of rfl rfl e47 rfl, #[.pointer (some ⟨sb, 0, none⟩)], by simp only [List.map_toArray, List.map_cons, List.map_nil, ev e48] <;> rfl, ?_⟩
        exact (HTS.out _ hB).mono fun _ _ ⟨u, us, he, hm, hb⟩ => ⟨u, he, hb, hm.reads⟩
      refine StepsP.cons ?_ ?_
      · refine step_val (fun a wx hB O D => ?_)
        have e7 : a.tmps[7]? = some (.pointer (some ⟨w4.heap.size, 0, none⟩)) := O 7 (by rfl)
        obtain ⟨_, e47, rfl⟩ := D 2 _ _ _ (by decide) rfl rfl rfl
        have q7 := (hB.cell (p := ⟨w4.heap.size, 0, none⟩) HL7.out).trans HC7.out
        clear O D
        exact ⟨wanted_of rfl rfl e47 rfl, by go_simp⟩
      refine StepsP.cons ?_ ?_
      · refine step_call (enters_of Try.func18 (by kernel_rfl) rfl) rfl rfl (fun a wx hB O D => ?_)
        obtain ⟨_, e50, rfl⟩ := D 5 _ _ _ (by decide) rfl rfl rfl
        obtain ⟨_, e47, rfl⟩ := D 2 _ _ _ (by decide) rfl rfl rfl
        refine ⟨wanted_of rfl rfl e47 rfl, #[.pointer (some ⟨rb, 0, none⟩)], by simp only [List.map_toArray, List.map_cons, List.map_nil, ev e50] <;> rfl, ?_⟩
        exact (HTT.out _ hB).mono fun _ _ ⟨u, us, he, hm, hb⟩ => ⟨u, he, hb, hm.reads⟩
      refine StepsP.cons ?_ ?_
      · refine step_call (enters_of Try.func17 (by kernel_rfl) rfl) rfl rfl (fun a wx hB O D => ?_)
        obtain ⟨v49, e49, s49⟩ := D 4 _ _ _ (by decide) rfl rfl rfl
        obtain ⟨v51, e51, s51⟩ := D 6 _ _ _ (by decide) rfl rfl rfl
        obtain ⟨_, e47, rfl⟩ := D 2 _ _ _ (by decide) rfl rfl rfl
        refine ⟨wanted_of rfl rfl e47 rfl, #[v49, v51], by simp only [List.map_toArray, List.map_cons, List.map_nil, ev e49, ev e51] <;> rfl, ?_⟩
        exact (HQ.out _ _ _ s49 s51).mono fun _ _ ⟨he, n, hw⟩ => ⟨_, he, hw ▸ below_drewN' wx n, congrArg Value.bool (decide_eq_true rfl)⟩
      refine StepsP.cons ?_ ?_
      · refine step_val (fun a wx hB O D => ?_)
        obtain ⟨_, e52, rfl⟩ := D 7 _ _ _ (by decide) rfl rfl rfl
        obtain ⟨_, e47, rfl⟩ := D 2 _ _ _ (by decide) rfl rfl rfl
        clear O D
        exact ⟨wanted_of rfl rfl e47 rfl, by go_simp⟩
      refine StepsP.cons ?_ ?_
      · refine step_val (fun a wx hB O D => ?_)
        obtain ⟨_, e47, rfl⟩ := D 2 _ _ _ (by decide) rfl rfl rfl
        obtain ⟨_, e53, rfl⟩ := D 8 _ _ _ (by decide) rfl rfl rfl
        clear O D
        exact ⟨rfl, by go_simp⟩
      exact StepsP.nil
    · intro wz hZ
      refine EndP.is ?_
      refine EndP.is ?_
      refine EndP.is ?_
      refine EndP.is ?_
      refine EndP.sp rfl (fun v49 s49 => ?_)
      refine EndP.is ?_
      refine EndP.sp rfl (fun v51 s51 => ?_)
      refine EndP.is ?_
      refine EndP.is ?_
      refine EndP.is ?_
      refine EndP.nil ?_
    -- behind seven
      refine wpListIn_nil ?_
      simp only [Act.put, List.setIfInBounds_toArray, List.set_cons_zero, List.set_cons_succ]
      have q7 := (hZ.cell (p := ⟨w4.heap.size, 0, none⟩) HL7.out).trans HC7.out
      have HDT := Lib.hid (darts_any' rb g p U wz (HR.out.below hZ) HP0.out)
      have HZ := Lib.hid hZ
      clear hZ HTT HTS HQ
      gi_wp2_with fail
      refine ⟨trivial, (callsIn_wide.2 HDT.out).mono ?_⟩
      clear HDT q7
      rintro e w8 ⟨Bs, sv, rfl, hBs1, hBs2, hBs3, hI, hB8⟩
      have HB8 := Lib.hid (trans2 HZ.out hB8)
      have HIT := Lib.hid (iter_stops Fence.wide 5 trivial rfl (by omega) Bs sv (allD p) (by rw [allD_len]; omega) w8 hBs2 hBs3 hI)
      have HII := Lib.hid hI
      have HC7b := Lib.hid ((HB8.out.cell (p := ⟨w4.heap.size, 0, none⟩) HL7.out).trans HC7.out)
      have HC9b := Lib.hid ((HB8.out.cell (p := ⟨g9, 0, none⟩) HL9.out).trans HC9.out)
      have HL7b := Lib.hid (Nat.lt_of_lt_of_le HL7.out HB8.out.size)
      have HL9b := Lib.hid (Nat.lt_of_lt_of_le HL9.out HB8.out.size)
      have HRb := Lib.hid (HR.out.below HB8.out)
      have HRsb := Lib.hid (HRs.out.below HB8.out)
      have HB58 := Lib.hid (trans2 HB5.out HB8.out)
      clear hBs1 hBs2 hBs3 hI hB8 HZ
      gi_wp2_with fail
      refine' wpIn_rangeFunc_ownF rfl (by omega) (gf := 39) (lb := #[.pointer (some ⟨Bs, 0, none⟩)]) rfl trivial (enters_of Try.func39 (by kernel_rfl) rfl)
        HIT.out (fun h k => KpD.trans h k) (fun W l o o' _ ho hc _ => KpD.obj W l o o' ho hc) (Below.refl _ _) (fun _ => rfl)
        (fun _ W => Below w8.heap.size w8 W) (fun _ _ _ => False) (ownFrom_below (Nat.le_refl _) (Nat.le_refl _)) (fun _ _ _ _ _ hs _ _ => hs) (Below.refl _ _) _ ?assign ?body ?done ?stop
      case assign =>
        intro l x W K hK
        gi_wp2
        exact hK
      case stop =>
        rintro D c pre W hD hpre h hK
        exact h.elim
      case done =>
        rintro D ys W hD hys hBW hK
        have hBA := trans2 HB58.out hBW
        have HZ := Lib.hid (HST.out W hBA)
        obtain ⟨k6, f6⟩ := HC66.out W hBA
        clear hys hBW hBA
        gi_wp2
        have hK' := (KeepsOthers.setCell W ⟨w.heap.size + 1 + 1, 0, none⟩ (.bool true)).same D _ hK rfl
        have hDw : w.heap.size ≤ D := Nat.le_trans (Nat.le_trans HM.out.size HB58.out.size) hD
        refine ⟨by simp, .inl ⟨_, _, rfl, run_takeDeferred hK', ?_⟩⟩
        have hc6 := cell_kept HZ.out.2 (grownBy_putObj' _ D (.deferred none)) (fun r e => by cases e; exact ⟨_, hK', rfl⟩)
        refine ⟨.bool true, ?_, rfl, HZ.out.1.trans (belowK_b (w := w) (Nat.le_refl _) _ D _ _ hDw hK' rfl rfl)⟩
        simp [results, Try.f7, go_sem, hc6]
      case body =>
        rintro l pre ⟨y, hy⟩ W hBW hpl
        have hdy := (mem_allD HP0.out y).1 hy
        have hwk := dart_wf HP0.out hlE hdy
        have HNR := Lib.hid (next_any rb g p U W y (HRb.out.below hBW) HU.out hwk HLU.out.1)
        have HNS := Lib.hid (fun (W W' : World) (hW : Below w8.heap.size w8 W) (hW' : Below W.heap.size W W') => next_any sb g p U W' y ((HRsb.out.below hW).below hW') HU.out hwk HLU.out.1)
        rw [stp_yes hdy, decide_eq_true hdy] at HNR
        simp only [stp_yes hdy, decide_eq_true hdy] at HNS
        have HBW := Lib.hid hBW
        have q7 := (hBW.cell (p := ⟨w4.heap.size, 0, none⟩) HL7b.out).trans HC7b.out
        dsimp only
        clear hdy hwk hpl hBW
        generalize nxt g U y = n at *
        gi_wp2_with fail
        refine ⟨trivial, ((callsIn_wide.2 HNR.out).inRound l).mono ?_⟩
        clear HNR q7
        rintro e W2 ⟨rfl, hB2⟩
        have HWB2 := Lib.hid hB2
        have HBW2 := Lib.hid (trans2 HBW.out hB2)
        have q9 := (HBW2.out.cell (p := ⟨g9, 0, none⟩) HL9b.out).trans HC9b.out
        replace HNS := Lib.hid (HNS.out W W2 HBW.out hB2)
        clear hB2
        gi_wp2_with fail
        refine ⟨trivial, ((callsIn_wide.2 HNS.out).inRound l).mono ?_⟩
        clear HNS q9
        rintro e W3 ⟨rfl, hB3⟩
        have HZ2 := Lib.hid (trans2 HWB2.out hB3)
        clear hB3
        gi_wp2
        exact ⟨keepsOthers_below HZ2.out, KpD.below HII.out (trans2 HBW.out HZ2.out), trans2 HBW.out HZ2.out⟩

end Go.Proofs.Ytohaopfpjkhheaa.Rt
