/-
  FaceGenus: a genus is 0 or more; mirrored turns have the same, and as many walks: the law's call answers true at every input.
-/
import Derived.Test.YtmbcjilkcbcaiaaM32
import Derived.Test.YtmbcjilkcbcaiaaM25
namespace Go.Proofs.Ytmbcjilkcbcaiaa.Fc
open Go.Proofs.Ytmbcjilkcbcaiaa Go.RowKit Go.Maps

set_option maxRecDepth 100000 in
set_option maxHeartbeats 16000000 in
theorem faceGenus_any (v : Value) (g : Gph) (u : Value) (p : Prt) (x : Value) (T : List (List Int)) (w : World) (h : Gr w v g) (h' : Pt w u p) (hT : LL w x T) (hw : ∀ j, ∀ y ∈ Rt.getT T j, (Lit.int .i64 y).wf = true) :
    Calls Try.prog 4 #[v, u, x] w fun e w' => e = .returned (.bool true) ∧ Below w.heap.size w w' := by
  have HG := Lib.hid h
  have HP := Lib.hid h'
  obtain ⟨ve, rfl, h1⟩ := h
  obtain ⟨vv, vp, rfl, h2, h3⟩ := h'
  obtain ⟨Ae, ce, rfl⟩ := h1.form
  obtain ⟨Av, cv, rfl⟩ := ints_form h2
  obtain ⟨Ap, cp, rfl⟩ := ints_form h3
  obtain ⟨A, cap, rfl, _, _⟩ := hT.form
  obtain ⟨b1, b2, hm⟩ := two_boxes w (.int .i64 g.n) (.slice Ae g.e.length ce) (.slice Av p.v.length cv) (.slice Ap p.e.length cp) 24 27
  have HB1 := Lib.hid b1
  have HB2 := Lib.hid b2
  have HM := Lib.hid hm
  have HG1 := Lib.hid (HG.out.below hm)
  have HP1 := Lib.hid (HP.out.below hm)
  have HT1 := Lib.hid (hT.below hm)
  have HW := Lib.hid hw
  clear b1 b2 hm h1 h2 h3 HG HP hT hw
  go_enter Try.func4, Try.ntmps4
  go_wp2_with fail
  generalize (w.alloc (.cells #[.int .i64 g.n, .slice Ae g.e.length ce] 24)).alloc (.cells #[.slice Av p.v.length cv, .slice Ap p.e.length cp] 27) = w1 at *
  refine (fawake_any w1).mono ?_
  rintro e w2 ⟨rfl, hB2⟩
  have c0 := (HB1.out.below hB2).c0
  have c1 := (HB1.out.below hB2).c1
  have d0 := (HB2.out.below hB2).c0
  have d1 := (HB2.out.below hB2).c1
  have HBB2 := Lib.hid hB2
  clear hB2
  go_wp2_with fail
  refine (Rt.small6_any _ _ _ g p T w2 (HG1.out.below HBB2.out) (HP1.out.below HBB2.out) (HT1.out.below HBB2.out)).mono ?_
  rintro e w3 ⟨rfl, hB3⟩
  have HB3 := Lib.hid (trans2 HBB2.out hB3)
  clear hB3 c0 c1 d0 d1 HBB2
  by_cases hs : Rt.small6 g p T = true
  case neg =>
    have e : Rt.small6I g p T = 0 := if_neg hs
    rw [e]
    clear e hs
    go_wp2_with fail
    refine (fawake_any w3).mono ?_
    rintro e w4 ⟨rfl, hB4⟩
    go_wp2
    go_ret
    exact ⟨rfl, trans2 HM.out (trans2 HB3.out hB4)⟩
  have e : Rt.small6I g p T = 1 := if_pos hs
  obtain ⟨hl, hp1, hp2, hlT, hrT⟩ := small_facts hs
  rw [e]
  have c0 := (HB1.out.below HB3.out).c0
  have c1 := (HB1.out.below HB3.out).c1
  have d0 := (HB2.out.below HB3.out).c0
  have d1 := (HB2.out.below HB3.out).c1
  clear e hs
  have HRT := Lib.hid hrT
  have HGE := Lib.hid (fun (W : World) (hW : Below w1.heap.size w1 W) => genus_any _ _ _ g p T W (HG1.out.below hW) (HP1.out.below hW) (HT1.out.below hW) (by omega) (by omega) (by omega) (by omega) (fun j => by have := HRT.out j; omega) HW.out)
  have HNW := Lib.hid (fun (W : World) (hW : Below w1.heap.size w1 W) => Rt.new_any _ _ _ g p T W (HG1.out.below hW) (HP1.out.below hW) (HT1.out.below hW) (by omega) (by omega) (by omega) (by omega) (fun j => by have := HRT.out j; omega) HW.out)
  have HSP := Lib.hid (fun (W : World) (hW : Below w1.heap.size w1 W) => sphere_any _ _ _ g p T W (HG1.out.below hW) (HP1.out.below hW) (HT1.out.below hW) (by omega) (by omega) (by omega) (by omega) (fun j => by have := HRT.out j; omega) HW.out)
  have HWK := Lib.hid (fun (W : World) (hW : Below w1.heap.size w1 W) => walks_any _ _ _ g p T W (HG1.out.below hW) (HP1.out.below hW) (HT1.out.below hW) (by omega) (by omega) (by omega) (by omega) (fun j => by have := HRT.out j; omega) HW.out)
  have HCB := Lib.hid (fun (W : World) (hW : Below w1.heap.size w1 W) => (⟨(HB1.out.below hW).c0, (HB1.out.below hW).c1, (HB2.out.below hW).c0, (HB2.out.below hW).c1⟩ :
    W.cell? ⟨w.heap.size, 0, none⟩ = some (.int .i64 g.n) ∧ W.cell? ⟨w.heap.size, 1, none⟩ = some (.slice Ae g.e.length ce) ∧ W.cell? ⟨w.heap.size + 1, 0, none⟩ = some (.slice Av p.v.length cv) ∧ W.cell? ⟨w.heap.size + 1, 1, none⟩ = some (.slice Ap p.e.length cp)))
  have HN := Lib.hid (HGE.out w3 HB3.out)
  go_wp2_with fail
  refine HN.out.mono ?_
  clear HN c0 c1 d0 d1
  rintro e w4 ⟨hB4, ⟨hne, rfl⟩ | ⟨hTu, a, rfl, hR⟩⟩
  · have HB4 := Lib.hid (trans2 HB3.out hB4)
    have HN4 := Lib.hid (HNW.out w4 HB4.out)
    have HNE := Lib.hid hne
    have t1 : (Rt.terr g p T != 0) = true := by simpa using hne
    have HTE := Lib.hid (show (decide (Rt.terr g p T = 0) && sphB (genL g p T)) = false by rw [decide_eq_false hne]; rfl)
    obtain ⟨c0, c1, d0, d1⟩ := HCB.out w4 HB4.out
    clear hB4 hne HGE HWK
    go_wp2_with fail
    refine HN4.out.mono ?_
    clear HN4 c0 c1 d0 d1
    rintro e w5 ⟨hB5, ⟨_, rfl⟩ | ⟨hTu, _⟩⟩
    · have HB5 := Lib.hid (trans2 HB4.out hB5)
      have HS5 := Lib.hid (HSP.out w5 HB5.out)
      rw [HTE.out] at HS5
      obtain ⟨c0, c1, d0, d1⟩ := HCB.out w5 HB5.out
      clear hB5 HTE HSP HNW
      generalize Rt.terr g p T = te at *
      go_wp2_with fail
      refine HS5.out.mono ?_
      rintro e w6 ⟨rfl, hB6⟩
      have HZ := Lib.hid (trans2 HM.out (trans2 HB5.out hB6))
      clear hB6 HS5 c0 c1 d0 d1
      go_wp2
      go_ret
      exact ⟨rfl, HZ.out⟩
    · exact absurd (Rt.terr_iff.2 hTu) HNE.out
  have HB4 := Lib.hid (trans2 HB3.out hB4)
  have HN4 := Lib.hid (HNW.out w4 HB4.out)
  have HTU := Lib.hid hTu
  have HRA := Lib.hid hR
  have HGL := Lib.hid (show (genL g p T).length ≤ 1000 by rw [genL_len]; have := pcs_few hTu.right; omega)
  have HNN := Lib.hid (genL_nn hTu)
  obtain ⟨Aa, ca, rfl⟩ := ints_form (Row.ints hR)
  obtain ⟨c0, c1, d0, d1⟩ := HCB.out w4 HB4.out
  clear hB4 hTu hR HGE HNW HSP
  go_wp2_with fail
  refine HN4.out.mono ?_
  clear HN4 c0 c1 d0 d1
  rintro e w5 ⟨hB5, ⟨hne, rfl⟩ | ⟨_, rb, rfl, hRo⟩⟩
  · exact absurd (Rt.terr_iff.2 HTU.out) hne
  have HB5 := Lib.hid (trans2 HB4.out hB5)
  have HRA5 := Lib.hid (Row.below HRA.out hB5)
  have hU := HTU.out.alike (Rt.alike_fst T)
  have hlU : (T.map Rt.fst).length ≤ 1000 := by rw [List.length_map]; omega
  have hrU : ∀ j, (Rt.getT (T.map Rt.fst) j).length ≤ 500 := fun j => by
    rw [Rt.getT_map Rt.fst Rt.fst_nil, Rt.fst_len]
    have := HRT.out j
    omega
  have hwU : ∀ j, ∀ y ∈ Rt.getT (T.map Rt.fst) j, (Lit.int .i64 y).wf = true := fun j y hy => by
    rw [Rt.getT_map Rt.fst Rt.fst_nil] at hy
    exact HW.out j y ((Rt.fst_in _ _).1 hy)
  have hlV : ((Rt.mir (T.map Rt.fst)).map Rt.fst).length ≤ 1000 := by rw [List.length_map, Rt.mir, List.length_map]; exact hlU
  have hrV : ∀ j, (Rt.getT ((Rt.mir (T.map Rt.fst)).map Rt.fst) j).length ≤ 500 := fun j => by
    rw [Rt.getT_map Rt.fst Rt.fst_nil, Rt.fst_len, Rt.getT_mir, List.length_reverse]
    exact hrU j
  have hwV : ∀ j, ∀ y ∈ Rt.getT ((Rt.mir (T.map Rt.fst)).map Rt.fst) j, (Lit.int .i64 y).wf = true := fun j y hy => by
    rw [Rt.getT_map Rt.fst Rt.fst_nil] at hy
    have := (Rt.fst_in _ _).1 hy
    rw [Rt.getT_mir, List.mem_reverse] at this
    exact hwU j y this
  have HMI := Lib.hid (Rt.mirror_any rb g p (T.map Rt.fst) w5 hRo hU hlU hrU hwU)
  have HTV := Lib.hid (hU.mir.alike (Rt.alike_fst (Rt.mir (T.map Rt.fst))))
  have HGV := Lib.hid (show genL g p ((Rt.mir (T.map Rt.fst)).map Rt.fst) = genL g p T by rw [genL_alike hU.mir, genL_mir hU, genL_alike HTU.out])
  have HWV := Lib.hid (show (walksOf g p ((Rt.mir (T.map Rt.fst)).map Rt.fst)).length = (walksOf g p T).length by rw [walks_alike hU.mir, walks_mir_len hU, walks_alike HTU.out])
  clear hU hlU hrU hwU hB5 hRo HRA
  generalize (Rt.mir (T.map Rt.fst)).map Rt.fst = V at *
  have HLV := Lib.hid hlV
  have HRV := Lib.hid hrV
  have HVW := Lib.hid hwV
  clear hlV hrV hwV
  go_wp2_with fail
  refine HMI.out.mono ?_
  rintro e w6 ⟨mb, rfl, hRm, hB6⟩
  have HTN := Lib.hid (Rt.turn_any mb g p V w6 hRm (by have := HLV.out; omega) (fun j => by have := HRV.out j; omega))
  have HB6 := Lib.hid (trans2 HB5.out hB6)
  have HRA6 := Lib.hid (Row.below HRA5.out hB6)
  clear hRm hB6 HMI HRA5
  go_wp2_with fail
  refine HTN.out.mono ?_
  rintro e w7 ⟨uV, usV, rfl, hMd, hB7⟩
  have HLL := Lib.hid hMd.reads
  have HB7 := Lib.hid (trans2 HB6.out hB7)
  have HRA7 := Lib.hid (Row.below HRA6.out hB7)
  have HG7 := Lib.hid (genus_any _ _ uV g p V w7 (HG1.out.below HB7.out) (HP1.out.below HB7.out) HLL.out (by omega) (by omega) (by omega) (by have := HLV.out; omega) HRV.out HVW.out)
  obtain ⟨c0, c1, d0, d1⟩ := HCB.out w7 HB7.out
  clear hMd hB7 HTN HRA6
  go_wp2_with fail
  refine HG7.out.mono ?_
  clear HG7 c0 c1 d0 d1
  rintro e w8 ⟨hB8, ⟨hne, rfl⟩ | ⟨_, b, rfl, hRb⟩⟩
  · exact absurd (Rt.terr_iff.2 HTV.out) hne
  rw [HGV.out] at hRb
  have HB8 := Lib.hid (trans2 HB7.out hB8)
  have HRA8 := Lib.hid (Row.below HRA7.out hB8)
  have HRB8 := Lib.hid hRb
  have HLL8 := Lib.hid (HLL.out.below hB8)
  obtain ⟨Ab, cb, rfl⟩ := ints_form (Row.ints hRb)
  have HW8 := Lib.hid (HWK.out w8 HB8.out)
  obtain ⟨c0, c1, d0, d1⟩ := HCB.out w8 HB8.out
  clear hB8 hRb HRA7 HLL HWK
  go_wp2_with fail
  refine HW8.out.mono ?_
  clear HW8 c0 c1 d0 d1
  rintro e w9 ⟨hB9, ⟨hne, rfl⟩ | ⟨_, l1, us1, rfl, hT1⟩⟩
  · exact absurd (Rt.terr_iff.2 HTU.out) hne
  have HB9 := Lib.hid (trans2 HB8.out hB9)
  have HRA9 := Lib.hid (Row.below HRA8.out hB9)
  have HRB9 := Lib.hid (Row.below HRB8.out hB9)
  have HW9 := Lib.hid (walks_any _ _ uV g p V w9 (HG1.out.below HB9.out) (HP1.out.below HB9.out) (HLL8.out.below hB9) (by omega) (by omega) (by omega) (by have := HLV.out; omega) HRV.out HVW.out)
  obtain ⟨Al, cl, rfl⟩ := hT1.shape
  rw [List.length_map]
  obtain ⟨c0, c1, d0, d1⟩ := HCB.out w9 HB9.out
  clear hB9 hT1 HRA8 HRB8 HLL8
  go_wp2_with fail
  refine HW9.out.mono ?_
  clear HW9 c0 c1 d0 d1
  rintro e w10 ⟨hB10, ⟨hne, rfl⟩ | ⟨_, l2, us2, rfl, hT2⟩⟩
  · exact absurd (Rt.terr_iff.2 HTV.out) hne
  have HB10 := Lib.hid (trans2 HM.out (trans2 HB9.out hB10))
  have HRA10 := Lib.hid (Row.below HRA9.out hB10)
  have HRB10 := Lib.hid (Row.below HRB9.out hB10)
  obtain ⟨Ak, ck, rfl⟩ := hT2.shape
  rw [List.length_map, HWV.out]
  have HQ := Lib.hid (fun W (hW : Below w10.heap.size w10 W) => requal_any _ (genL g p T) _ (genL g p T) W ((Row.ints HRA10.out).below hW) ((Row.ints HRB10.out).below hW) (by have := HGL.out; omega))
  have hgl := HGL.out
  clear hB10 hT2 HRA9 HRB9 HWV HGV HCB HB1 HB2 HG1 HP1 HT1
  generalize (walksOf g p T).length = nw at *
  generalize genL g p T = G at *
  go_wp2
  go_loopw [18] (fun i wr => ∃ k : Nat, k ≤ G.length ∧ i = .int .i64 (k : Nat) ∧ wr = w10) (fun i _ => G.length - (Go.RowKit.intOf i).toNat)
  case atStart => exact ⟨0, Nat.zero_le _, rfl, rfl⟩
  case round =>
    obtain ⟨k, hk, rfl, rfl⟩ := hrel
    by_cases hlt : k < G.length
    · obtain ⟨b1, o1, rfl, _, hc⟩ := ints_at (Row.ints HRA10.out) hlt
      have hnn := HNN.out _ (Rt.getI_in _ _ hlt)
      have t1 : decide (getI G k < 0) = false := decide_eq_false (by omega)
      generalize getI G k = x at *
      go_wp2
      go_roundw
      case rel => exact ⟨k + 1, by omega, by go_num, by first | rfl | trivial⟩
      case measure => simp [Go.RowKit.intOf]; omega
    · obtain rfl : k = G.length := by omega
      have HQ1 := Lib.hid (HQ.out wr (Below.refl _ _))
      rw [show decide True = true from rfl] at HQ1
      go_wp2_with fail
      refine HQ1.out.mono ?_
      rintro e w11 ⟨rfl, nq, rfl⟩
      have HZ := Lib.hid (below_drewN HB10.out nq)
      go_wp2
      go_ret
      exact ⟨rfl, HZ.out⟩
end Go.Proofs.Ytmbcjilkcbcaiaa.Fc
