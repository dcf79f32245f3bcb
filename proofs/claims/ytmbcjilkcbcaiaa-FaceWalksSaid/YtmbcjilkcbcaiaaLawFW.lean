/-
  FaceWalks: the walks of any turns, and their keys, are the document's: the law's call answers true at every input.
-/
import Derived.Test.YtmbcjilkcbcaiaaM32
namespace Go.Proofs.Ytmbcjilkcbcaiaa.Fc
open Go.Proofs.Ytmbcjilkcbcaiaa Go.RowKit Go.Maps

set_option maxRecDepth 100000 in
set_option maxHeartbeats 16000000 in
theorem faceWalks_any (v : Value) (g : Gph) (u : Value) (p : Prt) (x : Value) (T : List (List Int)) (d : Int) (w : World) (h : Gr w v g) (h' : Pt w u p) (hT : LL w x T) (hw : ∀ j, ∀ y ∈ Rt.getT T j, (Lit.int .i64 y).wf = true) (hwd : (Lit.int .i64 d).wf = true) :
    Calls Try.prog 5 #[v, u, x, .int .i64 d] w fun e w' => e = .returned (.bool true) ∧ Below w.heap.size w w' := by
  have HG := Lib.hid h
  have HP := Lib.hid h'
  obtain ⟨ve, rfl, h1⟩ := h
  obtain ⟨vv, vp, rfl, h2, h3⟩ := h'
  obtain ⟨Ae, ce, rfl⟩ := h1.form
  obtain ⟨Av, cv, rfl⟩ := ints_form h2
  obtain ⟨Ap, cp, rfl⟩ := ints_form h3
  obtain ⟨A, cap, rfl, _, _⟩ := hT.form
  obtain ⟨b1, b2, hm⟩ := two_boxes w (.int .i64 g.n) (.slice Ae g.e.length ce) (.slice Av p.v.length cv) (.slice Ap p.e.length cp) 24 27
  have HB1 := Lib.hid b1
  have HB2 := Lib.hid b2
  have HM := Lib.hid hm
  have HG1 := Lib.hid (HG.out.below hm)
  have HP1 := Lib.hid (HP.out.below hm)
  have HT1 := Lib.hid (hT.below hm)
  have HW := Lib.hid hw
  clear b1 b2 hm h1 h2 h3 HG HP hT hw
  go_enter Try.func5, Try.ntmps5
  go_wp2_with fail
  generalize (w.alloc (.cells #[.int .i64 g.n, .slice Ae g.e.length ce] 24)).alloc (.cells #[.slice Av p.v.length cv, .slice Ap p.e.length cp] 27) = w1 at *
  refine (fawake_any w1).mono ?_
  rintro e w2 ⟨rfl, hB2⟩
  have c0 := (HB1.out.below hB2).c0
  have c1 := (HB1.out.below hB2).c1
  have d0 := (HB2.out.below hB2).c0
  have d1 := (HB2.out.below hB2).c1
  have HBB2 := Lib.hid hB2
  clear hB2
  go_wp2_with fail
  refine (Rt.small6_any _ _ _ g p T w2 (HG1.out.below HBB2.out) (HP1.out.below HBB2.out) (HT1.out.below HBB2.out)).mono ?_
  rintro e w3 ⟨rfl, hB3⟩
  have HB3 := Lib.hid (trans2 HBB2.out hB3)
  clear hB3 c0 c1 d0 d1 HBB2
  by_cases hs : Rt.small6 g p T = true
  case neg =>
    have e : Rt.small6I g p T = 0 := if_neg hs
    rw [e]
    clear e hs
    go_wp2_with fail
    refine (fawake_any w3).mono ?_
    rintro e w4 ⟨rfl, hB4⟩
    go_wp2
    go_ret
    exact ⟨rfl, trans2 HM.out (trans2 HB3.out hB4)⟩
  have e : Rt.small6I g p T = 1 := if_pos hs
  obtain ⟨hl, hp1, hp2, hlT, hrT⟩ := small_facts hs
  rw [e]
  have c0 := (HB1.out.below HB3.out).c0
  have c1 := (HB1.out.below HB3.out).c1
  have d0 := (HB2.out.below HB3.out).c0
  have d1 := (HB2.out.below HB3.out).c1
  clear e hs
  have HRT := Lib.hid hrT
  have HCB := Lib.hid (fun (W : World) (hW : Below w1.heap.size w1 W) => (⟨(HB1.out.below hW).c0, (HB1.out.below hW).c1, (HB2.out.below hW).c0, (HB2.out.below hW).c1⟩ :
    W.cell? ⟨w.heap.size, 0, none⟩ = some (.int .i64 g.n) ∧ W.cell? ⟨w.heap.size, 1, none⟩ = some (.slice Ae g.e.length ce) ∧ W.cell? ⟨w.heap.size + 1, 0, none⟩ = some (.slice Av p.v.length cv) ∧ W.cell? ⟨w.heap.size + 1, 1, none⟩ = some (.slice Ap p.e.length cp)))
  have HKY := Lib.hid (fun (W : World) (hW : Below w1.heap.size w1 W) => key_any _ _ _ g p T d W (HG1.out.below hW) (HP1.out.below hW) (HT1.out.below hW) (by omega) (by omega) (by omega) (by omega) (fun j => by have := HRT.out j; omega) HW.out hwd)
  have HRR := Lib.hid (fun (W : World) (hW : Below w1.heap.size w1 W) => Rt.r6Right_any _ _ _ g p T W (HG1.out.below hW) (HP1.out.below hW) (HT1.out.below hW) (by omega) (by omega) (by omega) (fun j => by have := HRT.out j; omega))
  have HN := Lib.hid (walks_any _ _ _ g p T w3 (HG1.out.below HB3.out) (HP1.out.below HB3.out) (HT1.out.below HB3.out) (by omega) (by omega) (by omega) (by omega) (fun j => by have := HRT.out j; omega) HW.out)
  go_wp2_with fail
  refine HN.out.mono ?_
  clear HN c0 c1 d0 d1
  rintro e w4 ⟨hB4, ⟨hne, rfl⟩ | ⟨hTu, m1, us1, rfl, hT1⟩⟩
  · have HB4 := Lib.hid (trans2 HB3.out hB4)
    have HK4 := Lib.hid (HKY.out w4 HB4.out)
    rw [show keyA g p T d = 0 from if_neg hne, show keyAB g p T d = false from if_neg hne] at HK4
    have t1 : (Rt.terr g p T != 0) = true := by simpa using hne
    obtain ⟨c0, c1, d0, d1⟩ := HCB.out w4 HB4.out
    clear hB4 hne HKY
    go_wp2_with fail
    refine HK4.out.mono ?_
    clear c0 c1 d0 d1
    rintro e w5 ⟨rfl, hB5⟩
    have HB5 := Lib.hid (trans2 HB4.out hB5)
    have HR5 := Lib.hid (HRR.out w5 HB5.out)
    obtain ⟨c0, c1, d0, d1⟩ := HCB.out w5 HB5.out
    clear hB5 HK4 HRR
    generalize Rt.terr g p T = te at *
    go_wp2_with fail
    refine HR5.out.mono ?_
    rintro e w6 ⟨rfl, hB6⟩
    have HZ := Lib.hid (trans2 HM.out (trans2 HB5.out hB6))
    clear hB6 HR5 c0 c1 d0 d1
    go_wp2
    go_ret
    exact ⟨rfl, HZ.out⟩
  have HB4 := Lib.hid (trans2 HB3.out hB4)
  have ht : Rt.terr g p T = 0 := Rt.terr_iff.2 hTu
  have HTU := Lib.hid hTu
  have HTW := Lib.hid hT1.reads
  have HK4 := Lib.hid (HKY.out w4 HB4.out)
  rw [show keyA g p T d = keyI (walksOf g p T) d from if_pos ht, show keyAB g p T d = keyB (walksOf g p T) d from if_pos ht] at HK4
  simp only [ht] at HRR
  have HLl := Lib.hid (show (walksOf g p T).length ≤ 180 by have := walksOf_len g p T; omega)
  have HRW := Lib.hid (fun (W : World) (hW : Below w1.heap.size w1 W) => rwalks_any _ _ _ g p T W (HG1.out.below hW) (HP1.out.below hW) (HT1.out.below hW) HTU.out (by omega) (by omega) (by omega) (by have := HTU.out.len; omega) (fun j => by have := HRT.out j; omega))
  have HLD := Lib.hid (show ∀ x ∈ walksOf g p T, x.2.length ≤ 1000 from fun x hx => by
    rcases walk_facts HTU.out hx with ⟨h1, _⟩ | ⟨_, _, _, _, _, h1⟩
    · rw [h1]; simp
    · omega)
  obtain ⟨Am, cm, rfl⟩ := hT1.shape
  rw [List.length_map] at HTW ⊢
  obtain ⟨c0, c1, d0, d1⟩ := HCB.out w4 HB4.out
  clear hB4 hTu hT1 ht HKY
  generalize walksOf g p T = L at *
  go_wp2_with fail
  refine HK4.out.mono ?_
  clear c0 c1 d0 d1
  rintro e w5 ⟨rfl, hB5⟩
  have HB5 := Lib.hid (trans2 HB4.out hB5)
  have HTW5 := Lib.hid (HTW.out.below hB5)
  have HR5 := Lib.hid (HRR.out w5 HB5.out)
  obtain ⟨c0, c1, d0, d1⟩ := HCB.out w5 HB5.out
  clear hB5 HK4 HRR HTW
  obtain ⟨kb, hkb⟩ : ∃ kb, keyB L d = kb := ⟨_, rfl⟩
  obtain ⟨ki, hki⟩ : ∃ ki, keyI L d = ki := ⟨_, rfl⟩
  have HKB := Lib.hid hkb
  have HKI := Lib.hid hki
  rw [hkb, hki]
  clear hkb hki
  go_wp2_with fail
  refine HR5.out.mono ?_
  clear c0 c1 d0 d1
  rintro e w6 ⟨rfl, hB6⟩
  have HB6 := Lib.hid (trans2 HB5.out hB6)
  have HTW6 := Lib.hid (HTW5.out.below hB6)
  have HM6 := Lib.hid (HRW.out w6 HB6.out)
  obtain ⟨c0, c1, d0, d1⟩ := HCB.out w6 HB6.out
  clear hB6 HR5 HRW HTW5
  go_wp2_with fail
  refine HM6.out.mono ?_
  clear c0 c1 d0 d1
  rintro e w7 ⟨m2, us2, rfl, hT2, hB7⟩
  have HB7 := Lib.hid (trans2 HM.out (trans2 HB6.out hB7))
  have HTW7 := Lib.hid (HTW6.out.below hB7)
  have HTR7 := Lib.hid hT2.reads
  have HRK := Lib.hid (fun W (hW : Below w7.heap.size w7 W) => rkey_any m2 L d W (hT2.reads.below hW) (by have := HLl.out; omega) (fun x hx => by have := HLD.out x hx; omega))
  obtain ⟨A2, c2, rfl⟩ := hT2.shape
  rw [List.length_map] at HTR7 HRK ⊢
  have hll := HLl.out
  have t2 : ((L.length : Int) != (L.length : Int)) = false := by simp
  clear hT2 hB7 HM6 HTW6 HCB HB1 HB2 HG1 HP1 HT1
  go_wp2
  go_loopw [15] (fun i wr => ∃ k : Nat, k ≤ L.length ∧ i = .int .i64 (k : Nat) ∧ Hid (Below w7.heap.size w7 wr)) (fun i _ => L.length - (Go.RowKit.intOf i).toNat)
  case atStart => exact ⟨0, Nat.zero_le _, rfl, Lib.hid (Below.refl _ _)⟩
  case round =>
    obtain ⟨i, hi, rfl, hB⟩ := hrel
    obtain ⟨wi, hwi⟩ : ∃ z, z = wr := ⟨_, rfl⟩
    subst hwi
    by_cases hlt : i < L.length
    · obtain ⟨b1, rfl, hb1, k1, A3, c3, k2, hI3⟩ := walk_at (HTW7.out.below hB.out) hlt
      obtain ⟨b2, rfl, hb2, k3, A4, c4, k4, hI4⟩ := walk_at (HTR7.out.below hB.out) hlt
      have HQ := Lib.hid (fun n => requal_any _ (getW L i).2 _ (getW L i).2 (wi.drewN n) (hI3.drewN n) (hI4.drewN n) (by have := HLD.out _ (getW_in hlt); omega))
      simp only at HQ
      have HBN := Lib.hid (fun n => below_drewN hB.out n)
      have hi0 : (0 : Int) ≤ (i : Int) := by omega
      have hi1 : (i : Int) < (L.length : Int) := by omega
      clear hI3 hI4 hb1 hb2 hB
      generalize (getW L i).1 = K at *
      generalize (getW L i).2.length = nd at *
      have t3 : (K != K) = false := by simp
      go_wp2_with fail
      go_quiet ((go_at_call 17; exact Calls.quiet_of (HQ.out _)))
      go_wp2
      go_roundw
      case rel => exact ⟨i + 1, by omega, by go_num, Lib.hid (HBN.out _)⟩
      case measure => simp [Go.RowKit.intOf]; omega
    · obtain rfl : i = L.length := by omega
      have HK9 := Lib.hid (HRK.out wi hB.out)
      rw [HKB.out, HKI.out] at HK9
      have HZ := Lib.hid (trans2 HB7.out hB.out)
      clear hB HRK
      go_wp2_with fail
      refine HK9.out.mono ?_
      rintro e w9 ⟨rfl, rfl⟩
      clear HK9
      cases kb with
      | true =>
        go_wp2
        go_ret
        exact ⟨rfl, HZ.out⟩
      | false =>
        go_wp2
        go_ret
        exact ⟨rfl, HZ.out⟩
end Go.Proofs.Ytmbcjilkcbcaiaa.Fc
