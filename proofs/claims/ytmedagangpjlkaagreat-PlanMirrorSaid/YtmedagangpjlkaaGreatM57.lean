/-
  PlS, PlT, PlU, in one text.
-/
import Derived.Test.YtmedagangpjlkaaGreatM54
import Derived.Test.YtmedagangpjlkaaGreatM24
import Derived.Test.YtmedagangpjlkaaGreatM34
import Derived.Test.YtmedagangpjlkaaGreatPlan
/-! The program's Clean: each turn begun with its least dart, the lists as they are; in memory of its own. -/
namespace Go.Proofs.YtmedagangpjlkaaGreat.Pl
open Go.Proofs.YtmedagangpjlkaaGreat Go.Proofs.YtmedagangpjlkaaGreat.Rt Go.RowKit

variable {w w' : World}
theorem Made.set {base : Nat} {v : Value} {us : List Value} {U : List (List Int)} (h : Made w base v us U) {b : Nat} (hb : b < base) (i : Nat) (u : Value) : Made (w.setCell ⟨b, i, none⟩ u) base v us U :=
  h.same fun g hg _ => Below.heap_setCell _ _ _ _ (fun e => by simp only at e; omega)
/-- A plan in memory of its own. -/
def MadeP (w : World) (base : Nat) (v : Value) (T S : List (List Int)) : Prop := ∃ a b us ts, v = .agg #[a, b] ∧ Made w base a us T ∧ Made w base b ts S
theorem MadeP.pn {base : Nat} {v : Value} {T S : List (List Int)} (h : MadeP w base v T S) : Pn w v T S := by
  obtain ⟨a, b, us, ts, rfl, h1, h2⟩ := h
  exact ⟨a, b, rfl, h1.reads, h2.reads⟩
theorem MadeP.below {base : Nat} {v : Value} {T S : List (List Int)} (h : MadeP w base v T S) (hb : Below w.heap.size w w') : MadeP w' base v T S := by
  obtain ⟨a, b, us, ts, rfl, h1, h2⟩ := h
  exact ⟨a, b, us, ts, rfl, h1.below hb, h2.below hb⟩
theorem MadeP.le {base base' : Nat} {v : Value} {T S : List (List Int)} (h : MadeP w base v T S) (hb : base' ≤ base) : MadeP w base' v T S := by
  obtain ⟨a, b, us, ts, rfl, h1, h2⟩ := h
  exact ⟨a, b, us, ts, rfl, Made.le h1 hb, Made.le h2 hb⟩

set_option maxRecDepth 100000 in
set_option maxHeartbeats 4000000 in
theorem clean_any (v : Value) (T S : List (List Int)) (w : World) (h : Pn w v T S) (hl : T.length ≤ 1000000) (hr : ∀ j, (getT T j).length ≤ 1000000) (hlS : S.length ≤ 1000000) (hrS : ∀ j, (getT S j).length ≤ 1000000) :
    Calls Tryz.prog 23 #[v] w fun e w' => ∃ u, e = .returned u ∧ MadeP w' w.heap.size u (T.map fst) S ∧ Below w.heap.size w w' := by
  have HX := Lib.hid h
  obtain ⟨vT, vS, rfl, h4, h5⟩ := h
  obtain ⟨AT, cT, rfl, _, _⟩ := h4.form
  obtain ⟨AS, cS, rfl, _, _⟩ := h5.form
  obtain ⟨b1, b2, hm⟩ := two_boxes w (.slice AT T.length cT) (.slice AS S.length cS) (.slice none 0 0) (.slice none 0 0) 30 30
  have HB1 := Lib.hid b1
  have HB2 := Lib.hid b2
  have HM := Lib.hid hm
  have HV := Lib.hid (h4.below hm)
  have HW := Lib.hid (h5.below hm)
  have c0 := b1.c0
  have c1 := b1.c1
  clear b1 b2 hm h4 h5 HX
  go_enter Tryz.func23, Tryz.ntmps23
  go_wp2_with fail
  have hsz : ((w.alloc (.cells #[.slice AT T.length cT, .slice AS S.length cS] 30)).alloc (.cells #[.slice none 0 0, .slice none 0 0] 30)).heap.size = w.heap.size + 2 := by simp
  generalize (w.alloc (.cells #[.slice AT T.length cT, .slice AS S.length cS] 30)).alloc (.cells #[.slice none 0 0, .slice none 0 0] 30) = w1 at *
  have HSZ := Lib.hid hsz
  clear hsz c0 c1
  go_loopw [3, 9] (fun o i wr => ∃ k us, k ≤ T.length ∧ i = .int .i64 (k : Nat) ∧ Hid (Below w1.heap.size w1 wr) ∧ Hid (Made wr w1.heap.size o us ((T.take k).map fst))) (fun _ i _ => T.length - (Go.RowKit.intOf i).toNat)
  case atStart => exact ⟨0, [], Nat.zero_le _, rfl, Lib.hid (Below.refl _ _), Lib.hid (Made.start _ _)⟩
  case round =>
    obtain ⟨k, us, hk, rfl, hB, hM⟩ := hrel
    rename_i o wr
    by_cases hlt : k < T.length
    · obtain ⟨b, off, rfl, hb, A1, c1, hck, hi⟩ := (HV.out.below hB.out).get hlt
      obtain ⟨Ao, co, hso⟩ := hM.out.shape
      have HS := Lib.hid (show (T.take (k + 1)).map fst = (T.take k).map fst ++ [fst (getT T k)] by rw [take_getT T k hlt]; simp)
      have HN := Lib.hid (show ((T.take k).map fst).length ≤ 1000000 by simp; omega)
      have HF := Lib.hid (first_row _ _ wr hi (hr k))
      have hne : ((T.take k).map fst).length = k := by simp; omega
      rw [hne] at hso
      subst hso
      clear hi hne
      generalize (getT T k).length = n1 at *
      go_wp2_with fail
      refine HF.out.mono ?_
      rintro e w2 ⟨u, rfl, hu, hB1⟩
      have HB1 := Lib.hid (hB.out.trans (hB1.mono hB.out.size))
      have HM1 := Lib.hid (hM.out.below hB1)
      have HU := Lib.hid (Row.le hu hB.out.size)
      obtain ⟨Au, cu, rfl⟩ := ints_form (Row.ints hu)
      clear hu hB1 hM
      generalize fst (getT T k) = fl at *
      go_wp2_with (at_builtin; refine wpList_append_list rfl _ _ rfl (v := .slice Ao k co) rfl rfl HM1.out HU.out HB1.out.size HN.out ?_; intro v' us' w3 hM2 hG2 hB2)
      have HM2 := Lib.hid hM2
      have HB3 := Lib.hid (HB1.out.trans hB2)
      obtain ⟨Av, cv, hsv⟩ := hM2.shape
      subst hsv
      clear hM2 hG2 hB2
      go_wp2
      go_roundw
      case rel => exact ⟨k + 1, _, by omega, by go_num, HB3, Lib.hid (by rw [HS.out]; exact HM2.out)⟩
      case measure => simp [Go.RowKit.intOf]; omega
    · obtain rfl : k = T.length := by omega
      rw [List.take_length] at hM
      obtain ⟨Ao, co, rfl⟩ := hM.out.shape
      have hlm : (T.map fst).length = T.length := List.length_map _
      rw [hlm] at hM ⊢
      have HCP := Lib.hid (copies_any _ S wr (HW.out.below hB.out) hlS hrS)
      have HBX := Lib.hid (HB1.out.below hB.out)
      have HBY := Lib.hid (HB2.out.below hB.out)
      have c0 := HBX.out.c0
      have c1 := HBX.out.c1
      clear hlm
      go_wp2_with fail
      refine HCP.out.mono ?_
      clear HCP c0 c1 HBX
      rintro e w2 ⟨u, ts, rfl, hMS, hB2⟩
      obtain ⟨Au, cu, rfl⟩ := hMS.shape
      have HBZ := Lib.hid (HBY.out.below hB2)
      have HMS := Lib.hid (Made.le hMS hB.out.size)
      have HMT := Lib.hid (hM.out.below hB2)
      have HBB := Lib.hid (trans2 (trans2 HM.out hB.out) hB2)
      have d0 := HBZ.out.c0
      have d1 := HBZ.out.c1
      have d2 := HBZ.out.thaw 0
      have d3 := HBZ.out.thaw 1
      have W2 := Lib.hid (HBZ.out.stored (.slice Ao T.length co) (.slice Au S.length cu))
      have HZB := Lib.hid (below_stored (b := w.heap.size + 1) (u' := .slice Ao T.length co) (v' := .slice Au S.length cu) HBB.out (Nat.le_succ _))
      have HB12 : w.heap.size + 1 < w1.heap.size := by rw [HSZ.out]; omega
      have HR1 := Lib.hid (Made.le (Made.set (Made.set HMT.out HB12 0 (.slice Ao T.length co)) HB12 1 (.slice Au S.length cu)) (show w.heap.size ≤ w1.heap.size by omega))
      have HR2 := Lib.hid (Made.le (Made.set (Made.set HMS.out HB12 0 (.slice Ao T.length co)) HB12 1 (.slice Au S.length cu)) (show w.heap.size ≤ w1.heap.size by omega))
      clear hMS hB2 hM HMT HMS HB12
      go_wp2
      refine bodyPost_ret (v := .agg #[.slice Ao T.length co, .slice Au S.length cu]) ?_ rfl ⟨_, rfl, ⟨_, _, _, _, rfl, HR1.out, HR2.out⟩, HZB.out⟩
      simp [results, Tryz.results23, go_sem, W2.out.c0, W2.out.c1]
end Go.Proofs.YtmedagangpjlkaaGreat.Pl

/-! The program's Same: are two plans alike, once clean? -/
namespace Go.Proofs.YtmedagangpjlkaaGreat.Pl
open Go.Proofs.YtmedagangpjlkaaGreat Go.Proofs.YtmedagangpjlkaaGreat.Rt Go.RowKit

def spMP (base : Nat) (T S : List (List Int)) : Sp := ⟨fun w v => MadeP w base v T S, false, fun _ _ _ hb h => h.below hb⟩

/-- Another block's cells are written. -/
theorem Box.apart2 {w : World} {b b' : Nat} {u v : Value} (h : Box w b u v) (hne : b ≠ b') (u' v' : Value) : Box ((w.setCell ⟨b', 0, none⟩ u').setCell ⟨b', 1, none⟩ v') b u v := by
  refine ⟨?_, ?_, by simpa [World.setCell] using h.lt, fun i => ?_⟩
  · exact (World.cell?_setCell_other _ _ _ _ (by intro e; have h := congrArg Addr.block e; first | exact hne h | exact hne h.symm)).trans ((World.cell?_setCell_other _ _ _ _ (by intro e; have h := congrArg Addr.block e; first | exact hne h | exact hne h.symm)).trans h.c0)
  · exact (World.cell?_setCell_other _ _ _ _ (by intro e; have h := congrArg Addr.block e; first | exact hne h | exact hne h.symm)).trans ((World.cell?_setCell_other _ _ _ _ (by intro e; have h := congrArg Addr.block e; first | exact hne h | exact hne h.symm)).trans h.c1)
  · rw [World.frozen?_setCell, World.frozen?_setCell]
    exact h.thaw i

set_option maxRecDepth 100000 in
set_option maxHeartbeats 8000000 in
theorem same_any (v u : Value) (T S U R : List (List Int)) (w : World) (h : Pn w v T S) (h' : Pn w u U R) (hl : T.length ≤ 1000000) (hr : ∀ j, (getT T j).length ≤ 1000000) (hlS : S.length ≤ 1000000) (hrS : ∀ j, (getT S j).length ≤ 1000000)
    (hl2 : U.length ≤ 1000000) (hr2 : ∀ j, (getT U j).length ≤ 1000000) (hlS2 : R.length ≤ 1000000) (hrS2 : ∀ j, (getT R j).length ≤ 1000000) :
    Calls Tryz.prog 13 #[v, u] w fun e w' => e = .returned (.bool (decide (T.map fst = U.map fst) && decide (S = R))) ∧ Below w.heap.size w w' := by
  have HX := Lib.hid h
  have HY := Lib.hid h'
  obtain ⟨vT, vS, rfl, h4, h5⟩ := h
  obtain ⟨vU, vR, rfl, h6, h7⟩ := h'
  obtain ⟨AT, cT, rfl, _, _⟩ := h4.form
  obtain ⟨AS, cS, rfl, _, _⟩ := h5.form
  obtain ⟨AU, cU, rfl, _, _⟩ := h6.form
  obtain ⟨AR, cR, rfl, _, _⟩ := h7.form
  obtain ⟨b1, b2, hm⟩ := two_boxes w (.slice AT T.length cT) (.slice AS S.length cS) (.slice AU U.length cU) (.slice AR R.length cR) 30 30
  have HB1 := Lib.hid b1
  have HB2 := Lib.hid b2
  have HM := Lib.hid hm
  have HX1 := Lib.hid (HX.out.below hm)
  have HY1 := Lib.hid (HY.out.below hm)
  clear b1 b2 hm h4 h5 h6 h7 HX HY
  go_enter Tryz.func13, Tryz.ntmps13
  go_wp2_with fail
  have hsz : ((w.alloc (.cells #[.slice AT T.length cT, .slice AS S.length cS] 30)).alloc (.cells #[.slice AU U.length cU, .slice AR R.length cR] 30)).heap.size = w.heap.size + 2 := by simp
  generalize (w.alloc (.cells #[.slice AT T.length cT, .slice AS S.length cS] 30)).alloc (.cells #[.slice AU U.length cU, .slice AR R.length cR] 30) = w1 at *
  have HSZ := Lib.hid hsz
  clear hsz
  have HC1 := Lib.hid (fun (W : World) (hW : Below w1.heap.size w1 W) => clean_any _ T S W (HX1.out.below hW) hl hr hlS hrS)
  have HC2 := Lib.hid (fun (W : World) (hW : Below w1.heap.size w1 W) => clean_any _ U R W (HY1.out.below hW) hl2 hr2 hlS2 hrS2)
  -- region 1
  refine wp_region_plan [is (.agg #[.slice AT T.length cT, .slice AS S.length cS]), spMP w1.heap.size (T.map fst) S, is (.agg #[.slice AU U.length cU, .slice AR R.length cR]), spMP w1.heap.size (U.map fst) R] (by kernel_rfl) (by kernel_rfl) ?_ ?_
  · skip
    refine StepsP.cons ?_ ?_
    · refine step_val (fun a wx hB O D => ?_)
      have e2 : a.tmps[2]? = some (.pointer (some ⟨w.heap.size, 0, none⟩)) := O 2 (by rfl)
      obtain ⟨c0, c1, _⟩ := HB1.out.below hB
      clear O D
      exact ⟨rfl, by go_simp⟩
    refine StepsP.cons ?_ ?_
    · refine step_call (enters_of Tryz.func23 (by kernel_rfl) rfl) rfl rfl (fun a wx hB O D => ?_)
      obtain ⟨_, e5, rfl⟩ := D 0 _ _ _ (by decide) rfl rfl rfl
      refine ⟨rfl, #[.agg #[.slice AT T.length cT, .slice AS S.length cS]], by simp only [List.map_toArray, List.map_cons, List.map_nil, ev e5] <;> rfl, ?_⟩
      exact (HC1.out _ hB).mono fun _ _ ⟨u, he, hm, hb⟩ => ⟨u, he, hb, hm.le hB.size⟩
    refine StepsP.cons ?_ ?_
    · refine step_val (fun a wx hB O D => ?_)
      have e3 : a.tmps[3]? = some (.pointer (some ⟨w.heap.size + 1, 0, none⟩)) := O 3 (by rfl)
      obtain ⟨c0, c1, _⟩ := HB2.out.below hB
      clear O D
      exact ⟨rfl, by go_simp⟩
    refine StepsP.cons ?_ ?_
    · refine step_call (enters_of Tryz.func23 (by kernel_rfl) rfl) rfl rfl (fun a wx hB O D => ?_)
      obtain ⟨_, e7, rfl⟩ := D 2 _ _ _ (by decide) rfl rfl rfl
      refine ⟨rfl, #[.agg #[.slice AU U.length cU, .slice AR R.length cR]], by simp only [List.map_toArray, List.map_cons, List.map_nil, ev e7] <;> rfl, ?_⟩
      exact (HC2.out _ hB).mono fun _ _ ⟨u, he, hm, hb⟩ => ⟨u, he, hb, hm.le hB.size⟩
    exact StepsP.nil
  · intro wz hZ
    refine EndP.is ?_
    refine EndP.sp rfl (fun v6 s6 => ?_)
    refine EndP.is ?_
    refine EndP.sp rfl (fun v8 s8 => ?_)
    refine EndP.nil ?_
  -- behind 1
    obtain ⟨va, vb, us, ts, rfl, hMa, hMb⟩ := s6
    obtain ⟨vc, vd, us', ts', rfl, hMc, hMd⟩ := s8
    obtain ⟨Aa, ca, rfl⟩ := hMa.shape
    obtain ⟨Ab, cb, rfl⟩ := hMb.shape
    obtain ⟨Ac, cc, rfl⟩ := hMc.shape
    obtain ⟨Ad, cd, rfl⟩ := hMd.shape
    have HZ1 := Lib.hid (HB1.out.below hZ)
    have HZ2 := Lib.hid (HB2.out.below hZ)
    have hlT : (T.map fst).length = T.length := List.length_map _
    have hlU : (U.map fst).length = U.length := List.length_map _
    rw [hlT] at hMa
    rw [hlU] at hMc
    rw [hlT, hlU]
    have z0 := HZ1.out.c0
    have z1 := HZ1.out.c1
    have z2 := HZ1.out.thaw 0
    have z3 := HZ1.out.thaw 1
    have y0 := HZ2.out.c0
    have y1 := HZ2.out.c1
    have y2 := HZ2.out.thaw 0
    have y3 := HZ2.out.thaw 1
    change wpList _ _ _ [_, _] _ _
    go_wp2_with fail
    have hlt0 : w.heap.size < w1.heap.size := by rw [HSZ.out]; omega
    have hlt1 : w.heap.size + 1 < w1.heap.size := by rw [HSZ.out]; omega
    have V1 := (HZ1.out.stored (.slice Aa T.length ca) (.slice Ab S.length cb))
    have V2 := (Box.apart2 HZ2.out (b' := w.heap.size) (Nat.succ_ne_self _) (.slice Aa T.length ca) (.slice Ab S.length cb)).stored (.slice Ac U.length cc) (.slice Ad R.length cd)
    have V3 := Box.apart2 V1 (b' := w.heap.size + 1) (Nat.succ_ne_self _).symm (.slice Ac U.length cc) (.slice Ad R.length cd)
    have HV2 := Lib.hid V2
    have HV3 := Lib.hid V3
    have L1 := Lib.hid ((Made.set (Made.set (Made.set (Made.set hMa hlt0 0 (.slice Aa T.length ca)) hlt0 1 (.slice Ab S.length cb)) hlt1 0 (.slice Ac U.length cc)) hlt1 1 (.slice Ad R.length cd)).reads)
    have L2 := Lib.hid ((Made.set (Made.set (Made.set (Made.set hMb hlt0 0 (.slice Aa T.length ca)) hlt0 1 (.slice Ab S.length cb)) hlt1 0 (.slice Ac U.length cc)) hlt1 1 (.slice Ad R.length cd)).reads)
    have L3 := Lib.hid ((Made.set (Made.set (Made.set (Made.set hMc hlt0 0 (.slice Aa T.length ca)) hlt0 1 (.slice Ab S.length cb)) hlt1 0 (.slice Ac U.length cc)) hlt1 1 (.slice Ad R.length cd)).reads)
    have L4 := Lib.hid ((Made.set (Made.set (Made.set (Made.set hMd hlt0 0 (.slice Aa T.length ca)) hlt0 1 (.slice Ab S.length cb)) hlt1 0 (.slice Ac U.length cc)) hlt1 1 (.slice Ad R.length cd)).reads)
    have HBB := Lib.hid (below_stored (u' := .slice Ac U.length cc) (v' := .slice Ad R.length cd) (below_stored (u' := .slice Aa T.length ca) (v' := .slice Ab S.length cb) (trans2 HM.out hZ) (Nat.le_refl _)) (Nat.le_succ _))
    clear V1 V2 V3 hMa hMb hMc hMd hZ z0 z1 z2 z3 y0 y1 y2 y3 HZ1 HZ2 HC1 HC2 hlt0 hlt1
    generalize (((wz.setCell ⟨w.heap.size, 0, none⟩ (.slice Aa T.length ca)).setCell ⟨w.heap.size, 1, none⟩ (.slice Ab S.length cb)).setCell ⟨w.heap.size + 1, 0, none⟩ (.slice Ac U.length cc)).setCell ⟨w.heap.size + 1, 1, none⟩ (.slice Ad R.length cd) = w2 at *
    refine (equalFunc_any _ _ (T.map fst) (U.map fst) w2 L1.out L3.out ?_).mono ?_
    · intro j
      rw [getT_map fst fst_nil, fst_len]
      exact Nat.le_trans (hr j) (by decide)
    rintro e w3 ⟨rfl, n3, hw3⟩
    have hb3 : Below w2.heap.size w2 w3 := by rw [hw3]; exact below_drewN' _ _
    have c0 := (HV3.out.below hb3).c0
    have c1 := (HV3.out.below hb3).c1
    have d0 := (HV2.out.below hb3).c0
    have d1 := (HV2.out.below hb3).c1
    have HB3 := Lib.hid (trans2 HBB.out hb3)
    have HE := Lib.hid (equalFunc_any _ _ S R w3 (L2.out.below hb3) (L4.out.below hb3) (fun j => Nat.le_trans (hrS j) (by decide)))
    clear hw3 hb3 HV2 HV3
    by_cases hE : T.map fst = U.map fst
    · have HD := Lib.hid (decide_eq_true hE)
      rw [HD.out]
      clear hE
      go_wp2_with fail
      refine HE.out.mono ?_
      rintro e w4 ⟨rfl, n4, hw4⟩
      have hb4 : Below w3.heap.size w3 w4 := by rw [hw4]; exact below_drewN' _ _
      have HB4 := Lib.hid (trans2 HB3.out hb4)
      clear hw4 hb4 c0 c1 d0 d1
      go_wp2
      go_ret
      exact ⟨by rw [HD.out]; rfl, HB4.out⟩
    · have HD := Lib.hid (decide_eq_false hE)
      rw [HD.out]
      clear hE c0 c1 d0 d1
      go_wp2
      go_ret
      exact ⟨by rw [HD.out]; rfl, HB3.out⟩
end Go.Proofs.YtmedagangpjlkaaGreat.Pl

/-! The document's Same: are two plans alike, once clean? -/
namespace Go.Proofs.YtmedagangpjlkaaGreat.Pl
open Go.Proofs.YtmedagangpjlkaaGreat Go.Proofs.YtmedagangpjlkaaGreat.Rt Go.RowKit

def spMade (base : Nat) (U : List (List Int)) : Sp := ⟨fun w v => ∃ us, Made w base v us U, false, fun _ _ _ hb ⟨us, h⟩ => ⟨us, h.below hb⟩⟩

set_option maxRecDepth 100000 in
set_option maxHeartbeats 8000000 in
theorem rsame_any (v u : Value) (T S U R : List (List Int)) (w : World) (h : Pn w v T S) (h' : Pn w u U R) (hl : T.length ≤ 1000000) (hr : ∀ j, (getT T j).length ≤ 1000000) (_ : S.length ≤ 1000000) (hrS : ∀ j, (getT S j).length ≤ 1000000)
    (hl2 : U.length ≤ 1000000) (hr2 : ∀ j, (getT U j).length ≤ 1000000) :
    Calls Tryz.prog 24 #[v, u] w fun e w' => e = .returned (.bool (decide (T.map fst = U.map fst) && decide (S = R))) ∧ Below w.heap.size w w' := by
  have HX := Lib.hid h
  have HY := Lib.hid h'
  obtain ⟨vT, vS, rfl, h4, h5⟩ := h
  obtain ⟨vU, vR, rfl, h6, h7⟩ := h'
  obtain ⟨AT, cT, rfl, _, _⟩ := h4.form
  obtain ⟨AS, cS, rfl, _, _⟩ := h5.form
  obtain ⟨AU, cU, rfl, _, _⟩ := h6.form
  obtain ⟨AR, cR, rfl, _, _⟩ := h7.form
  obtain ⟨b1, b2, hm⟩ := two_boxes w (.slice AT T.length cT) (.slice AS S.length cS) (.slice AU U.length cU) (.slice AR R.length cR) 30 30
  have HB1 := Lib.hid b1
  have HB2 := Lib.hid b2
  have HM := Lib.hid hm
  have L1 := Lib.hid (h4.below hm)
  have L2 := Lib.hid (h5.below hm)
  have L3 := Lib.hid (h6.below hm)
  have L4 := Lib.hid (h7.below hm)
  clear b1 b2 hm h4 h5 h6 h7 HX HY
  go_enter Tryz.func24, Tryz.ntmps24
  go_wp2_with fail
  generalize (w.alloc (.cells #[.slice AT T.length cT, .slice AS S.length cS] 30)).alloc (.cells #[.slice AU U.length cU, .slice AR R.length cR] 30) = w1 at *
  have HF1 := Lib.hid (fun (W : World) (hW : Below w1.heap.size w1 W) => r6First_any _ T W (L1.out.below hW) hl hr)
  have HF2 := Lib.hid (fun (W : World) (hW : Below w1.heap.size w1 W) => r6First_any _ U W (L3.out.below hW) hl2 hr2)
  have HSR := Lib.hid (fun (W : World) (hW : Below w1.heap.size w1 W) => r6Equal_any _ _ S R W (L2.out.below hW) (L4.out.below hW) (fun j => Nat.le_trans (hrS j) (by decide)))
  have HLE := Lib.hid (show ∀ j, (getT (T.map fst) j).length ≤ 4000000 from fun j => by rw [getT_map fst fst_nil, fst_len]; exact Nat.le_trans (hr j) (by decide))
  clear hl hr hrS hl2 hr2 L1 L2 L3 L4
  by_cases hE : T.map fst = U.map fst
  · have HD := Lib.hid (decide_eq_true hE)
    clear hE
    -- region A
    refine wp_region_plan [is (.pointer (some ⟨w.heap.size, 0, none⟩)), is (.slice AT T.length cT), spMade w1.heap.size (T.map fst), is (.pointer (some ⟨w.heap.size + 1, 0, none⟩)), is (.slice AU U.length cU), spMade w1.heap.size (U.map fst), is (.bool true), is (.bool true), is (.pointer (some ⟨w.heap.size, 1, none⟩)), is (.slice AS S.length cS), is (.pointer (some ⟨w.heap.size + 1, 1, none⟩)), is (.slice AR R.length cR), is (.bool (decide (S = R))), is (.bool (decide (S = R)))] (by kernel_rfl) (by kernel_rfl) ?_ ?_
    · skip
      refine StepsP.cons ?_ ?_
      · refine step_val (fun a wx hB O D => ?_)
        have e2 : a.tmps[2]? = some (.pointer (some ⟨w.heap.size, 0, none⟩)) := O 2 (by rfl)
        clear O D
        exact ⟨rfl, by go_simp⟩
      refine StepsP.cons ?_ ?_
      · refine step_val (fun a wx hB O D => ?_)
        obtain ⟨_, e5, rfl⟩ := D 0 _ _ _ (by decide) rfl rfl rfl
        obtain ⟨c0, c1, _⟩ := HB1.out.below hB
        clear O D
        exact ⟨rfl, by go_simp⟩
      refine StepsP.cons ?_ ?_
      · refine step_call (enters_of Tryz.func15 (by kernel_rfl) rfl) rfl rfl (fun a wx hB O D => ?_)
        obtain ⟨_, e6, rfl⟩ := D 1 _ _ _ (by decide) rfl rfl rfl
        refine ⟨rfl, #[.slice AT T.length cT], by simp only [List.map_toArray, List.map_cons, List.map_nil, ev e6] <;> rfl, ?_⟩
        exact (HF1.out _ hB).mono fun _ _ ⟨u, us, he, hm, hb⟩ => ⟨u, he, hb, us, Made.le hm hB.size⟩
      refine StepsP.cons ?_ ?_
      · refine step_val (fun a wx hB O D => ?_)
        have e3 : a.tmps[3]? = some (.pointer (some ⟨w.heap.size + 1, 0, none⟩)) := O 3 (by rfl)
        clear O D
        exact ⟨rfl, by go_simp⟩
      refine StepsP.cons ?_ ?_
      · refine step_val (fun a wx hB O D => ?_)
        obtain ⟨_, e8, rfl⟩ := D 3 _ _ _ (by decide) rfl rfl rfl
        obtain ⟨c0, c1, _⟩ := HB2.out.below hB
        clear O D
        exact ⟨rfl, by go_simp⟩
      refine StepsP.cons ?_ ?_
      · refine step_call (enters_of Tryz.func15 (by kernel_rfl) rfl) rfl rfl (fun a wx hB O D => ?_)
        obtain ⟨_, e9, rfl⟩ := D 4 _ _ _ (by decide) rfl rfl rfl
        refine ⟨rfl, #[.slice AU U.length cU], by simp only [List.map_toArray, List.map_cons, List.map_nil, ev e9] <;> rfl, ?_⟩
        exact (HF2.out _ hB).mono fun _ _ ⟨u, us, he, hm, hb⟩ => ⟨u, he, hb, us, Made.le hm hB.size⟩
      refine StepsP.cons ?_ ?_
      · refine step_call (enters_of Tryz.func14 (by kernel_rfl) rfl) rfl rfl (fun a wx hB O D => ?_)
        obtain ⟨v7, e7, s7⟩ := D 2 _ _ _ (by decide) rfl rfl rfl
        obtain ⟨v10, e10, s10⟩ := D 5 _ _ _ (by decide) rfl rfl rfl
        refine ⟨rfl, #[v7, v10], by simp only [List.map_toArray, List.map_cons, List.map_nil, ev e7, ev e10] <;> rfl, ?_⟩
        obtain ⟨us7, h7⟩ := s7
        obtain ⟨us10, h10⟩ := s10
        exact (r6Equal_any _ _ (T.map fst) (U.map fst) _ h7.reads h10.reads HLE.out).mono fun _ _ ⟨he, n, hn⟩ => ⟨_, by rw [he, HD.out], by rw [hn]; exact below_drewN' _ _, rfl⟩
      refine StepsP.cons ?_ ?_
      · refine step_val (fun a wx hB O D => ?_)
        obtain ⟨_, e11, rfl⟩ := D 6 _ _ _ (by decide) rfl rfl rfl
        clear O D
        exact ⟨rfl, by unfold execOp; simp only [ev e11]; rfl⟩
      refine StepsP.cons ?_ ?_
      · refine step_val (fun a wx hB O D => ?_)
        have e2 : a.tmps[2]? = some (.pointer (some ⟨w.heap.size, 0, none⟩)) := O 2 (by rfl)
        obtain ⟨_, e12, rfl⟩ := D 7 _ _ _ (by decide) rfl rfl rfl
        clear O D
        exact ⟨wanted_of rfl rfl e12 rfl, by go_simp⟩
      refine StepsP.cons ?_ ?_
      · refine step_val (fun a wx hB O D => ?_)
        obtain ⟨_, e13, rfl⟩ := D 8 _ _ _ (by decide) rfl rfl rfl
        obtain ⟨_, e12, rfl⟩ := D 7 _ _ _ (by decide) rfl rfl rfl
        obtain ⟨c0, c1, _⟩ := HB1.out.below hB
        clear O D
        exact ⟨wanted_of rfl rfl e12 rfl, by go_simp⟩
      refine StepsP.cons ?_ ?_
      · refine step_val (fun a wx hB O D => ?_)
        have e3 : a.tmps[3]? = some (.pointer (some ⟨w.heap.size + 1, 0, none⟩)) := O 3 (by rfl)
        obtain ⟨_, e12, rfl⟩ := D 7 _ _ _ (by decide) rfl rfl rfl
        clear O D
        exact ⟨wanted_of rfl rfl e12 rfl, by go_simp⟩
      refine StepsP.cons ?_ ?_
      · refine step_val (fun a wx hB O D => ?_)
        obtain ⟨_, e15, rfl⟩ := D 10 _ _ _ (by decide) rfl rfl rfl
        obtain ⟨_, e12, rfl⟩ := D 7 _ _ _ (by decide) rfl rfl rfl
        obtain ⟨c0, c1, _⟩ := HB2.out.below hB
        clear O D
        exact ⟨wanted_of rfl rfl e12 rfl, by go_simp⟩
      refine StepsP.cons ?_ ?_
      · refine step_call (enters_of Tryz.func14 (by kernel_rfl) rfl) rfl rfl (fun a wx hB O D => ?_)
        obtain ⟨_, e14, rfl⟩ := D 9 _ _ _ (by decide) rfl rfl rfl
        obtain ⟨_, e16, rfl⟩ := D 11 _ _ _ (by decide) rfl rfl rfl
        obtain ⟨_, e12, rfl⟩ := D 7 _ _ _ (by decide) rfl rfl rfl
        refine ⟨wanted_of rfl rfl e12 rfl, #[.slice AS S.length cS, .slice AR R.length cR], by simp only [List.map_toArray, List.map_cons, List.map_nil, ev e14, ev e16] <;> rfl, ?_⟩
        exact (HSR.out _ hB).mono fun _ _ ⟨he, n, hn⟩ => ⟨_, he, by rw [hn]; exact below_drewN' _ _, rfl⟩
      refine StepsP.cons ?_ ?_
      · refine step_val (fun a wx hB O D => ?_)
        obtain ⟨_, e12, rfl⟩ := D 7 _ _ _ (by decide) rfl rfl rfl
        obtain ⟨_, e17, rfl⟩ := D 12 _ _ _ (by decide) rfl rfl rfl
        clear O D
        exact ⟨rfl, by go_simp⟩
      exact StepsP.nil
    · intro wz hZ
      refine EndP.is ?_
      refine EndP.is ?_
      refine EndP.sp rfl (fun v7 s7 => ?_)
      refine EndP.is ?_
      refine EndP.is ?_
      refine EndP.sp rfl (fun v10 s10 => ?_)
      refine EndP.is ?_
      refine EndP.is ?_
      refine EndP.is ?_
      refine EndP.is ?_
      refine EndP.is ?_
      refine EndP.is ?_
      refine EndP.is ?_
      refine EndP.is ?_
      refine EndP.nil ?_
    -- behind A
      have HZ := Lib.hid (trans2 HM.out hZ)
      clear hZ
      change wpList _ _ _ [_] _ _
      go_wp2
      go_ret
      exact ⟨by rw [HD.out]; rfl, HZ.out⟩
  · have HD := Lib.hid (decide_eq_false hE)
    clear hE
    -- region B
    refine wp_region_plan [is (.pointer (some ⟨w.heap.size, 0, none⟩)), is (.slice AT T.length cT), spMade w1.heap.size (T.map fst), is (.pointer (some ⟨w.heap.size + 1, 0, none⟩)), is (.slice AU U.length cU), spMade w1.heap.size (U.map fst), is (.bool false), is (.bool false), is undef, is undef, is undef, is undef, is undef, is (.bool false)] (by kernel_rfl) (by kernel_rfl) ?_ ?_
    · skip
      refine StepsP.cons ?_ ?_
      · refine step_val (fun a wx hB O D => ?_)
        have e2 : a.tmps[2]? = some (.pointer (some ⟨w.heap.size, 0, none⟩)) := O 2 (by rfl)
        clear O D
        exact ⟨rfl, by go_simp⟩
      refine StepsP.cons ?_ ?_
      · refine step_val (fun a wx hB O D => ?_)
        obtain ⟨_, e5, rfl⟩ := D 0 _ _ _ (by decide) rfl rfl rfl
        obtain ⟨c0, c1, _⟩ := HB1.out.below hB
        clear O D
        exact ⟨rfl, by go_simp⟩
      refine StepsP.cons ?_ ?_
      · refine step_call (enters_of Tryz.func15 (by kernel_rfl) rfl) rfl rfl (fun a wx hB O D => ?_)
        obtain ⟨_, e6, rfl⟩ := D 1 _ _ _ (by decide) rfl rfl rfl
        refine ⟨rfl, #[.slice AT T.length cT], by simp only [List.map_toArray, List.map_cons, List.map_nil, ev e6] <;> rfl, ?_⟩
        exact (HF1.out _ hB).mono fun _ _ ⟨u, us, he, hm, hb⟩ => ⟨u, he, hb, us, Made.le hm hB.size⟩
      refine StepsP.cons ?_ ?_
      · refine step_val (fun a wx hB O D => ?_)
        have e3 : a.tmps[3]? = some (.pointer (some ⟨w.heap.size + 1, 0, none⟩)) := O 3 (by rfl)
        clear O D
        exact ⟨rfl, by go_simp⟩
      refine StepsP.cons ?_ ?_
      · refine step_val (fun a wx hB O D => ?_)
        obtain ⟨_, e8, rfl⟩ := D 3 _ _ _ (by decide) rfl rfl rfl
        obtain ⟨c0, c1, _⟩ := HB2.out.below hB
        clear O D
        exact ⟨rfl, by go_simp⟩
      refine StepsP.cons ?_ ?_
      · refine step_call (enters_of Tryz.func15 (by kernel_rfl) rfl) rfl rfl (fun a wx hB O D => ?_)
        obtain ⟨_, e9, rfl⟩ := D 4 _ _ _ (by decide) rfl rfl rfl
        refine ⟨rfl, #[.slice AU U.length cU], by simp only [List.map_toArray, List.map_cons, List.map_nil, ev e9] <;> rfl, ?_⟩
        exact (HF2.out _ hB).mono fun _ _ ⟨u, us, he, hm, hb⟩ => ⟨u, he, hb, us, Made.le hm hB.size⟩
      refine StepsP.cons ?_ ?_
      · refine step_call (enters_of Tryz.func14 (by kernel_rfl) rfl) rfl rfl (fun a wx hB O D => ?_)
        obtain ⟨v7, e7, s7⟩ := D 2 _ _ _ (by decide) rfl rfl rfl
        obtain ⟨v10, e10, s10⟩ := D 5 _ _ _ (by decide) rfl rfl rfl
        refine ⟨rfl, #[v7, v10], by simp only [List.map_toArray, List.map_cons, List.map_nil, ev e7, ev e10] <;> rfl, ?_⟩
        obtain ⟨us7, h7⟩ := s7
        obtain ⟨us10, h10⟩ := s10
        exact (r6Equal_any _ _ (T.map fst) (U.map fst) _ h7.reads h10.reads HLE.out).mono fun _ _ ⟨he, n, hn⟩ => ⟨_, by rw [he, HD.out], by rw [hn]; exact below_drewN' _ _, rfl⟩
      refine StepsP.cons ?_ ?_
      · refine step_val (fun a wx hB O D => ?_)
        obtain ⟨_, e11, rfl⟩ := D 6 _ _ _ (by decide) rfl rfl rfl
        clear O D
        exact ⟨rfl, by unfold execOp; simp only [ev e11]; rfl⟩
      refine StepsP.cons ?_ ?_
      · exact step_skip rfl rfl rfl (by decide) rfl rfl rfl
      refine StepsP.cons ?_ ?_
      · exact step_skip rfl rfl rfl (by decide) rfl rfl rfl
      refine StepsP.cons ?_ ?_
      · exact step_skip rfl rfl rfl (by decide) rfl rfl rfl
      refine StepsP.cons ?_ ?_
      · exact step_skip rfl rfl rfl (by decide) rfl rfl rfl
      refine StepsP.cons ?_ ?_
      · exact step_skip rfl rfl rfl (by decide) rfl rfl rfl
      refine StepsP.cons ?_ ?_
      · refine step_val (fun a wx hB O D => ?_)
        obtain ⟨_, e12, rfl⟩ := D 7 _ _ _ (by decide) rfl rfl rfl
        obtain ⟨_, e17, rfl⟩ := D 12 _ _ _ (by decide) rfl rfl rfl
        clear O D
        exact ⟨rfl, by go_simp⟩
      exact StepsP.nil
    · intro wz hZ
      refine EndP.is ?_
      refine EndP.is ?_
      refine EndP.sp rfl (fun v7 s7 => ?_)
      refine EndP.is ?_
      refine EndP.is ?_
      refine EndP.sp rfl (fun v10 s10 => ?_)
      refine EndP.is ?_
      refine EndP.is ?_
      refine EndP.is ?_
      refine EndP.is ?_
      refine EndP.is ?_
      refine EndP.is ?_
      refine EndP.is ?_
      refine EndP.is ?_
      refine EndP.nil ?_
    -- behind B
      have HZ := Lib.hid (trans2 HM.out hZ)
      clear hZ
      change wpList _ _ _ [_] _ _
      go_wp2
      go_ret
      exact ⟨by rw [HD.out]; rfl, HZ.out⟩
end Go.Proofs.YtmedagangpjlkaaGreat.Pl
