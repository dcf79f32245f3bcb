/-
  FrE, in one text.
-/
import Derived.Test.YtmbpmepoaonleaaGreatM32
/-! The document's Sphere. -/
namespace Go.Proofs.YtmbpmepoaonleaaGreat.Fc
open Go.Proofs.YtmbpmepoaonleaaGreat Go.RowKit

theorem sph_no {l : List Int} {k : Nat} (hk : k < l.length) (h : getI l k ≠ 0) : sphB l = false := by
  unfold sphB
  rw [Bool.eq_false_iff]
  intro ha
  rw [List.all_eq_true] at ha
  exact h (by simpa using ha _ ((mem_getI l _).2 ⟨k, hk, rfl⟩))
theorem sph_yes {l : List Int} (h : ∀ j, j < l.length → getI l j = 0) : sphB l = true := by
  unfold sphB
  rw [List.all_eq_true]
  intro x hx
  obtain ⟨j, hj, rfl⟩ := (mem_getI l x).1 hx
  rw [h j hj]; rfl

set_option maxRecDepth 100000 in
set_option maxHeartbeats 8000000 in
theorem rsphere_any (v u x : Value) (g : Gph) (p : Prt) (T : List (List Int)) (w : World) (h : Gr w v g) (h' : Pt w u p) (hT : LL w x T) (hl : g.e.length ≤ 100000) (hn : g.n ≤ 100000) (hp1 : p.v.length ≤ 400) (hp2 : p.e.length ≤ 1000) (hr : ∀ j, (Rt.getT T j).length ≤ 1000000) :
    Calls Tryz.prog 29 #[v, u, x] w fun e w' => e = .returned (.bool (decide (Rt.terr g p T = 0) && sphB (genL g p T))) ∧ Below w.heap.size w w' := by
  have HG := Lib.hid h
  have HP := Lib.hid h'
  have HRR := Lib.hid hr
  generalize hsb : (decide (Rt.terr g p T = 0) && sphB (genL g p T)) = sb
  have HSB := Lib.hid hsb
  clear hsb
  obtain ⟨ve, rfl, h1⟩ := h
  obtain ⟨vv, vp, rfl, h2, h3⟩ := h'
  obtain ⟨Ae, ce, rfl⟩ := h1.form
  obtain ⟨Av, cv, rfl⟩ := ints_form h2
  obtain ⟨Ap, cp, rfl⟩ := ints_form h3
  obtain ⟨A, cap, rfl, hcap, hmx⟩ := hT.form
  obtain ⟨b1, b2, hm⟩ := two_boxes w (.int .i64 g.n) (.slice Ae g.e.length ce) (.slice Av p.v.length cv) (.slice Ap p.e.length cp) 24 27
  have HB1 := Lib.hid b1
  have HB2 := Lib.hid b2
  have HM := Lib.hid hm
  have HG1 := Lib.hid (HG.out.below hm)
  have HP1 := Lib.hid (HP.out.below hm)
  have HT1 := Lib.hid (hT.below hm)
  have HN := Lib.hid (Rt.r6Right_any _ _ _ g p T _ (HG.out.below hm) (HP.out.below hm) (hT.below hm) (by omega) (by omega) (by omega) hr)
  have c0 := b1.c0
  have c1 := b1.c1
  have d0 := b2.c0
  have d1 := b2.c1
  clear b1 b2 hm h1 h2 h3 hT HG HP hr hcap hmx
  go_enter Tryz.func29, Tryz.ntmps29
  go_wp2_with fail
  generalize (w.alloc (.cells #[.int .i64 g.n, .slice Ae g.e.length ce] 24)).alloc (.cells #[.slice Av p.v.length cv, .slice Ap p.e.length cp] 27) = w1 at *
  refine HN.out.mono ?_
  clear c0 c1 d0 d1 HN
  rintro e w2 ⟨rfl, hB2⟩
  have HMW := Lib.hid (trans2 HM.out hB2)
  by_cases hte : Rt.terr g p T = 0
  case neg =>
    have HNE := Lib.hid (show sb = false by rw [← HSB.out, decide_eq_false hte]; rfl)
    clear HSB
    have t1 : (Rt.terr g p T != 0) = true := by simpa using hte
    generalize Rt.terr g p T = te at *
    clear hB2
    go_wp2
    go_ret
    exact ⟨by rw [HNE.out]; rfl, HMW.out⟩
  have HTE := Lib.hid (show sb = sphB (genL g p T) by rw [← HSB.out, decide_eq_true hte]; rfl)
  clear HSB
  have hTu := Rt.terr_iff.1 hte
  have HC := Lib.hid (rgenus_any _ _ _ g p T w2 (HG1.out.below hB2) (HP1.out.below hB2) (HT1.out.below hB2) hTu hl hn hp1 hp2 HRR.out)
  have HGL := Lib.hid (show (genL g p T).length ≤ 1000 by rw [genL_len]; have := pcs_few hTu.right; omega)
  have c0 := (HB1.out.below hB2).c0
  have c1 := (HB1.out.below hB2).c1
  have d0 := (HB2.out.below hB2).c0
  have d1 := (HB2.out.below hB2).c1
  rw [hte]
  clear hte hTu hB2 HRR HT1 HG1 HP1 HB1 HB2
  go_wp2_with fail
  refine HC.out.mono ?_
  clear c0 c1 d0 d1 HC
  rintro e w3 ⟨m, rfl, hR, hB3⟩
  have HM3 := Lib.hid (trans2 HMW.out hB3)
  have HI := Lib.hid (Row.ints hR)
  obtain ⟨Aa, ca, rfl⟩ := ints_form (Row.ints hR)
  clear hB3 hR HMW
  generalize genL g p T = l at *
  go_wp2
  go_loopw [8] (fun i wr => ∃ k : Nat, k ≤ l.length ∧ i = .int .i64 (k : Nat) ∧ Hid (∀ j, j < k → getI l j = 0) ∧ wr = w3) (fun i _ => l.length - (Go.RowKit.intOf i).toNat)
  case atStart => exact ⟨0, Nat.zero_le _, rfl, Lib.hid (fun j hj => absurd hj (Nat.not_lt_zero _)), rfl⟩
  case round =>
    obtain ⟨k, hk, rfl, hH, rfl⟩ := hrel
    have hgl := HGL.out
    by_cases hlt : k < l.length
    · obtain ⟨lb, lo, rfl, hlb, hlc⟩ := ints_at HI.out hlt
      have HNO := Lib.hid (fun h => sph_no hlt h)
      by_cases h0 : getI l k = 0
      · have HHN := Lib.hid (show ∀ j, j < k + 1 → getI l j = 0 from fun j hj => by
          rcases Nat.lt_or_eq_of_le (Nat.le_of_lt_succ hj) with hj | rfl
          · exact hH.out j hj
          · exact h0)
        rw [h0] at hlc
        clear h0 HNO
        go_wp2
        go_roundw
        case rel => exact ⟨k + 1, by omega, by go_num, HHN, trivial⟩
        case measure => simp [Go.RowKit.intOf]; omega
      · have HF := Lib.hid (HNO.out h0)
        have t1 : (getI l k != 0) = true := by simpa using h0
        clear h0 HNO
        generalize getI l k = y at *
        go_wp2
        go_ret
        exact ⟨by rw [HTE.out, HF.out]; rfl, HM3.out⟩
    · obtain rfl : k = l.length := by omega
      have HF := Lib.hid (sph_yes hH.out)
      clear hH
      go_wp2
      go_ret
      exact ⟨by rw [HTE.out, HF.out]; rfl, HM3.out⟩
end Go.Proofs.YtmbpmepoaonleaaGreat.Fc
