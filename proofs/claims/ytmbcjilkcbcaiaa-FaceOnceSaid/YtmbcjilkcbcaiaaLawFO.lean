/-
  FaceOnce: each dart is in just one walk, so is each vertex without darts; keys rise: the law's call answers true at every input.
-/
import Derived.Test.YtmbcjilkcbcaiaaM32
import Derived.Deep.CutRange
namespace Go.Proofs.Ytmbcjilkcbcaiaa.Fc
open Go.Proofs.Ytmbcjilkcbcaiaa Go.RowKit Go.Maps

set_option maxRecDepth 100000 in
set_option maxHeartbeats 16000000 in
theorem faceOnce_any (v : Value) (g : Gph) (u : Value) (p : Prt) (x : Value) (T : List (List Int)) (w : World) (h : Gr w v g) (h' : Pt w u p) (hT : LL w x T) (hw : ∀ j, ∀ y ∈ Rt.getT T j, (Lit.int .i64 y).wf = true) :
    Calls Try.prog 3 #[v, u, x] w fun e w' => e = .returned (.bool true) ∧ Below w.heap.size w w' := by
  have HG := Lib.hid h
  have HP := Lib.hid h'
  obtain ⟨ve, rfl, h1⟩ := h
  obtain ⟨vv, vp, rfl, h2, h3⟩ := h'
  obtain ⟨Ae, ce, rfl⟩ := h1.form
  obtain ⟨Av, cv, rfl⟩ := ints_form h2
  obtain ⟨Ap, cp, rfl⟩ := ints_form h3
  obtain ⟨A, cap, rfl, _, _⟩ := hT.form
  obtain ⟨b1, b2, hm⟩ := two_boxes w (.int .i64 g.n) (.slice Ae g.e.length ce) (.slice Av p.v.length cv) (.slice Ap p.e.length cp) 24 27
  have HB1 := Lib.hid b1
  have HB2 := Lib.hid b2
  have HM := Lib.hid hm
  have HG1 := Lib.hid (HG.out.below hm)
  have HP1 := Lib.hid (HP.out.below hm)
  have HT1 := Lib.hid (hT.below hm)
  have HW := Lib.hid hw
  clear b1 b2 hm h1 h2 h3 HG HP hT hw
  go_enter Try.func3, Try.ntmps3
  go_wp2_with fail
  generalize (w.alloc (.cells #[.int .i64 g.n, .slice Ae g.e.length ce] 24)).alloc (.cells #[.slice Av p.v.length cv, .slice Ap p.e.length cp] 27) = w1 at *
  refine (fawake_any w1).mono ?_
  rintro e w2 ⟨rfl, hB2⟩
  have c0 := (HB1.out.below hB2).c0
  have c1 := (HB1.out.below hB2).c1
  have d0 := (HB2.out.below hB2).c0
  have d1 := (HB2.out.below hB2).c1
  have HBB2 := Lib.hid hB2
  clear hB2
  go_wp2_with fail
  refine (Rt.small6_any _ _ _ g p T w2 (HG1.out.below HBB2.out) (HP1.out.below HBB2.out) (HT1.out.below HBB2.out)).mono ?_
  rintro e w3 ⟨rfl, hB3⟩
  have HB3 := Lib.hid (trans2 HBB2.out hB3)
  clear hB3 c0 c1 d0 d1 HBB2
  by_cases hs : Rt.small6 g p T = true
  case neg =>
    have e : Rt.small6I g p T = 0 := if_neg hs
    rw [e]
    clear e hs
    go_wp2_with fail
    refine (fawake_any w3).mono ?_
    rintro e w4 ⟨rfl, hB4⟩
    go_wp2
    go_ret
    exact ⟨rfl, trans2 HM.out (trans2 HB3.out hB4)⟩
  have e : Rt.small6I g p T = 1 := if_pos hs
  obtain ⟨hl, hp1, hp2, hlT, hrT⟩ := small_facts hs
  rw [e]
  have c0 := (HB1.out.below HB3.out).c0
  have c1 := (HB1.out.below HB3.out).c1
  have d0 := (HB2.out.below HB3.out).c0
  have d1 := (HB2.out.below HB3.out).c1
  clear e hs
  have HN := Lib.hid (walks_any _ _ _ g p T w3 (HG1.out.below HB3.out) (HP1.out.below HB3.out) (HT1.out.below HB3.out) (by omega) (by omega) (by omega) (by omega) (fun j => by have := hrT j; omega) HW.out)
  go_wp2_with fail
  refine HN.out.mono ?_
  clear HN c0 c1 d0 d1
  rintro e w4 ⟨hB4, ⟨hne, rfl⟩ | ⟨hTu, m, us, rfl, hTw⟩⟩
  · have HZ := Lib.hid (trans2 HM.out (trans2 HB3.out hB4))
    have hne' : (Rt.terr g p T != 0) = true := by simpa using hne
    clear hB4 hne
    generalize Rt.terr g p T = te at *
    go_wp2
    go_ret
    exact ⟨rfl, HZ.out⟩
  have HZ := Lib.hid (trans2 HM.out (trans2 HB3.out hB4))
  have HX2 := Lib.hid (HB2.out.below (trans2 HB3.out hB4))
  have HTW := Lib.hid hTw.reads
  have HOn := Lib.hid (allDarts_once hTu)
  have HRI := Lib.hid (walks_rise hTu)
  have HWF := Lib.hid (fun y (hy : y ∈ walksOf g p T) => walk_facts hTu hy)
  have hLl : (walksOf g p T).length ≤ 180 := by have := walksOf_len g p T; omega
  obtain ⟨Am, cm, rfl⟩ := hTw.shape
  have hwl : ((walksOf g p T).map cmp).length = (walksOf g p T).length := List.length_map _
  rw [hwl] at HTW ⊢
  clear hTw hTu hwl hB4 HB3 HB1 HB2 HG1 HP1 HT1 hrT
  generalize walksOf g p T = L at *
  go_wp2
  go_loopw [9, 10] (fun o i wr => ∃ k : Nat, k ≤ L.length ∧ i = .int .i64 (k : Nat) ∧ Hid (Row wr w4.heap.size o (allTo L k)) ∧ Hid (Below w4.heap.size w4 wr)) (fun _ i _ => L.length - (Go.RowKit.intOf i).toNat)
  case atStart => exact ⟨0, Nat.zero_le _, rfl, Lib.hid (Row.nil _ _), Lib.hid (Below.refl _ _)⟩
  case round =>
    obtain ⟨i, hi, rfl, hR, hB⟩ := hrel
    obtain ⟨wo, hwo⟩ : ∃ z, z = wr := ⟨_, rfl⟩
    subst hwo
    obtain ⟨Ao, co, rfl⟩ := ints_form (Row.ints hR.out)
    by_cases hlt : i < L.length
    · obtain ⟨bL, rfl, hbL, hk1, A', c', hk2, hI⟩ := walk_at HTW.out hlt
      have hwf := HWF.out _ (getW_in hlt)
      have HFR := Lib.hid (fun k hk => fresh HOn.out.1 (k := k) hlt hk)
      have HSU := Lib.hid (allTo_succ hlt)
      have HLE := Lib.hid (show (allTo L i).length + (getW L i).2.length ≤ 200 by
        have h1 := allTo_le L (i + 1)
        rw [HSU.out, List.length_append, HOn.out.2] at h1
        omega)
      have HI4 := Lib.hid hI
      have HPV := Lib.hid (fun m (hm : m < i) => keys_rise HRI.out hm hlt)
      have HPC := Lib.hid (fun m (hm : m < i) => (walk_at (HTW.out.below hB.out) (show m < L.length by omega)))
      have HBL := Lib.hid hbL
      have HK1 := Lib.hid hk1
      have HK2 := Lib.hid hk2
      replace hk1 := (hB.out.cell (p := ⟨bL, i * 2, none⟩) hbL).trans hk1
      replace hk2 := (hB.out.cell (p := ⟨bL, i * 2 + 1, none⟩) hbL).trans hk2
      have hi0 : (0 : Int) ≤ (i : Int) := by omega
      have hi2 : (i : Int) < (L.length : Int) := by omega
      clear hI hbL
      generalize (getW L i).1 = K at *
      generalize (getW L i).2 = D at *
      have HDL := Lib.hid (show ∀ d ∈ D, K ≤ d from fun d hd => by
        rcases hwf with ⟨rfl, _⟩ | ⟨_, _, _, h, _⟩
        · exact absurd hd List.not_mem_nil
        · exact h d hd)
      have hn : (D.length = 0 ∧ K < 0 ∧ True) ∨ (0 < D.length ∧ 0 ≤ K ∧ getI D 0 = K ∧ True) := by
        rcases hwf with ⟨rfl, h1, _⟩ | ⟨h1, h2, h3, _⟩
        · exact .inl ⟨rfl, h1, trivial⟩
        · exact .inr ⟨h1, h2, h3, trivial⟩
      clear hwf
      go_upto_region 10 with fail
      go_cut [96] from 34 to 143 (fun c wx => c = .bool false ∧ Hid (∃ n, wx = wo.drewN n))
      case first =>
        rcases Nat.eq_zero_or_pos i with h0 | h0
        · have t1 : decide ((0 : Int) < (i : Int)) = false := decide_eq_false (by omega)
          have t1n : decide (0 < i) = false := decide_eq_false (by omega)
          clear HPC HPV h0
          rcases hn with hn | hn
          · obtain ⟨hD, hK, _⟩ := hn
            have t3 : decide ((0 : Int) < (D.length : Int)) = false := decide_eq_false (by omega)
            have t4 : ((D.length : Int) == 0) = true := beq_iff_eq.2 (by omega)
            have t5 : decide (0 ≤ K) = false := decide_eq_false (by omega)
            go_quiet (fail)
            go_wp2
            go_meet
            exact ⟨rfl, Lib.hid ⟨_, rfl⟩⟩
          · obtain ⟨hD, hK, hDK, _⟩ := hn
            obtain ⟨b2, o2, rfl, hb2, hc2⟩ := ints_at (HI4.out.below hB.out) hD
            rw [Nat.add_zero, hDK] at hc2
            have t3 : decide ((0 : Int) < (D.length : Int)) = true := decide_eq_true (by omega)
            have t4 : ((D.length : Int) == 0) = false := beq_eq_false_iff_ne.2 (by omega)
            clear hb2 hDK
            go_quiet (fail)
            go_wp2
            go_meet
            exact ⟨rfl, Lib.hid ⟨_, rfl⟩⟩
        · obtain ⟨m, hm⟩ : ∃ m, i = m + 1 := ⟨i - 1, by omega⟩
          have hkr := HPV.out m (by omega)
          obtain ⟨b', e', _, hk3, _⟩ := HPC.out m (by omega)
          cases e'
          generalize (getW L m).1 = K' at *
          have hi1 : (i : Int) - 1 = (m : Int) := by omega
          have t1 : decide ((0 : Int) < (i : Int)) = true := decide_eq_true (by omega)
          have t2 : decide (K ≤ K') = false := decide_eq_false (by omega)
          have hm0 : (0 : Int) ≤ (m : Int) := by omega
          have hm1 : (m : Int) < (L.length : Int) := by omega
          have t1n : decide (0 < i) = true := decide_eq_true (by omega)
          clear HPC HPV hkr hm h0
          rcases hn with hn | hn
          · obtain ⟨hD, hK, _⟩ := hn
            have t3 : decide ((0 : Int) < (D.length : Int)) = false := decide_eq_false (by omega)
            have t4 : ((D.length : Int) == 0) = true := beq_iff_eq.2 (by omega)
            have t5 : decide (0 ≤ K) = false := decide_eq_false (by omega)
            go_quiet (fail)
            go_wp2
            go_meet
            exact ⟨rfl, Lib.hid ⟨_, rfl⟩⟩
          · obtain ⟨hD, hK, hDK, _⟩ := hn
            obtain ⟨b2, o2, rfl, hb2, hc2⟩ := ints_at (HI4.out.below hB.out) hD
            rw [Nat.add_zero, hDK] at hc2
            have t3 : decide ((0 : Int) < (D.length : Int)) = true := decide_eq_true (by omega)
            have t4 : ((D.length : Int) == 0) = false := beq_eq_false_iff_ne.2 (by omega)
            clear hb2 hDK
            go_quiet (fail)
            go_wp2
            go_meet
            exact ⟨rfl, Lib.hid ⟨_, rfl⟩⟩
      case rest =>
        obtain ⟨rfl, hW⟩ := hcut
        obtain ⟨nq, hnq⟩ := hW.out
        subst hnq
        have HBD := Lib.hid (below_drewN hB.out nq)
        have HRD := Lib.hid (Row.below hR.out (below_drewN' wo nq))
        clear hk1 hk2 hB hR HPC HPV hn
        generalize wo.drewN nq = wd at *
        have q2 := (HBD.out.cell (p := ⟨bL, i * 2 + 1, none⟩) HBL.out).trans HK2.out
        go_wp2
        clear q2
        go_loopw [9, 11] (fun o kk wr => ∃ k : Nat, k ≤ D.length ∧ kk = .int .i64 (k : Nat) ∧ Hid (Row wr w4.heap.size o (allTo L i ++ D.take k)) ∧ Hid (Below w4.heap.size w4 wr)) (fun _ kk _ => D.length - (Go.RowKit.intOf kk).toNat)
        case atStart => exact ⟨0, Nat.zero_le _, rfl, Lib.hid (by rw [List.take_zero, List.append_nil]; exact HRD.out), HBD⟩
        case round =>
          obtain ⟨k, hk, rfl, hR, hB⟩ := hrel
          obtain ⟨wi, hwi⟩ : ∃ z, z = wr := ⟨_, rfl⟩
          subst hwi
          have q2 := (hB.out.cell (p := ⟨bL, i * 2 + 1, none⟩) HBL.out).trans HK2.out
          have q1 := (hB.out.cell (p := ⟨bL, i * 2, none⟩) HBL.out).trans HK1.out
          by_cases hkl : k < D.length
          · obtain ⟨b3, o3, e3, hb3, hc3⟩ := ints_at (HI4.out.below hB.out) hkl
            cases e3
            have hfr := HFR.out k hkl
            have HTK := Lib.hid (take_succ_getI D k hkl)
            have hle := HDL.out _ (Rt.getI_in _ _ hkl)
            have hml : (allTo L i ++ D.take k).length ≤ 200 := by
              have h1 := HLE.out
              rw [List.length_append, List.length_take]
              omega
            obtain ⟨M, hM⟩ : ∃ M, allTo L i ++ D.take k = M := ⟨_, rfl⟩
            have HMN := Lib.hid (show allTo L i ++ D.take (k + 1) = M ++ [getI D k] by rw [HTK.out, ← List.append_assoc, hM])
            rw [hM] at hR hfr hml
            clear hM
            obtain ⟨Am, cm', rfl⟩ := ints_form (Row.ints hR.out)
            have HIN := Lib.hid (fun n => same_of (in_any _ M (getI D k) (wi.drewN n) ((Row.ints hR.out).drewN n) (by omega)))
            rw [decide_eq_false hfr] at HIN
            have t6 : decide (getI D k < K) = false := decide_eq_false (by omega)
            have hk0 : (0 : Int) ≤ (k : Int) := by omega
            have hk1 : (k : Int) < (D.length : Int) := by omega
            have hdl : D.length ≤ 200 := by have := HLE.out; omega
            clear hfr hle hb3
            generalize getI D k = x at *
            go_wp2_with fail
            go_quiet ((go_at_call 11; exact Calls.quiet_of_same (HIN.out _)))
            have HBE := Lib.hid (below_drewN hB.out nq)
            have HRE := Lib.hid (Row.below hR.out (below_drewN' wi nq))
            have q3 := ((below_drewN' wi nq).cell (p := ⟨bL, i * 2 + 1, none⟩) (World.block_lt_of_cell? wi _ q2)).trans q2
            have q4 := ((below_drewN' wi nq).cell (World.block_lt_of_cell? wi _ hc3)).trans hc3
            clear q1 q2 hc3 hB hR HIN t6
            generalize wi.drewN nq = we at *
            have HSZ := Lib.hid HBE.out.size
            have HML := Lib.hid (show M.length ≤ 4000000 by omega)
            go_wp2_with (at_builtin; refine wpList_append1 rfl _ _ rfl rfl rfl HRE.out HSZ.out HML.out ?_)
            intro v7 w7 hR7 hB7
            have HR7 := Lib.hid (show Row w7 w4.heap.size v7 (allTo L i ++ D.take (k + 1)) by rw [HMN.out]; exact hR7)
            have HB7 := Lib.hid (HBE.out.trans hB7)
            clear hR7 hB7 HRE HBE q3 q4 HMN
            go_wp2
            go_roundw
            case rel => exact ⟨k + 1, by omega, by go_num, HR7, HB7⟩
            case measure => simp [Go.RowKit.intOf]; omega
          · obtain rfl : k = D.length := by omega
            have HRN := Lib.hid (show Row wi w4.heap.size _ (allTo L (i + 1)) by rw [HSU.out]; have h1 := hR.out; rw [List.take_length] at h1; exact h1)
            clear q1 hR
            go_wp2
            go_roundw
            case rel => exact ⟨i + 1, by omega, by go_num, HRN, hB⟩
            case measure => simp [Go.RowKit.intOf]; omega
    · obtain rfl : i = L.length := by omega
      have HZ2 := Lib.hid (trans2 HZ.out hB.out)
      have d1 := (HX2.out.below hB.out).c1
      have d0 := (HX2.out.below hB.out).c0
      have hml : (allTo L L.length).length = 2 * p.e.length := by rw [allTo_all]; exact HOn.out.2
      have t7 : (((allTo L L.length).length : Int) == 2 * (p.e.length : Int)) = true := beq_iff_eq.2 (by omega)
      clear hR hB hml
      generalize (allTo L L.length).length = nm at *
      go_wp2
      go_ret
      exact ⟨rfl, HZ2.out⟩
end Go.Proofs.Ytmbcjilkcbcaiaa.Fc
