/-
  The document's RightPart, Whole.
-/
import Derived.Test.YtjnohnbppkhbaaaGrR
namespace Go.Proofs.Ytjnohnbppkhbaaa
open Go.RowKit

set_option maxRecDepth 100000 in
set_option maxHeartbeats 2000000 in
theorem rrightPart_any (v u : Value) (g : Gph) (p : Prt) (w : World) (h : Gr w v g) (h' : Pt w u p) (hl : g.e.length ≤ 1000000) (hp1 : p.v.length ≤ 1000000) (hp2 : p.e.length ≤ 1000000) :
    Calls Try.prog 13 #[v, u] w fun e w' => e = .returned (.int .i64 (perr g p)) ∧ Below w.heap.size w w' := by
  have HG := Lib.hid h
  obtain ⟨ve, rfl, h1⟩ := h
  obtain ⟨vv, vp, rfl, h2, h3⟩ := h'
  obtain ⟨Ae, ce, rfl⟩ := h1.form
  obtain ⟨Av, cv, rfl⟩ := ints_form h2
  obtain ⟨Ap, cp, rfl⟩ := ints_form h3
  obtain ⟨b1, b2, hm⟩ := two_boxes w (.int .i64 g.n) (.slice Ae g.e.length ce) (.slice Av p.v.length cv) (.slice Ap p.e.length cp) 24 27
  have HG2 := Lib.hid (HG.out.below hm)
  have HV := Lib.hid (h2.below hm)
  have HP := Lib.hid (h3.below hm)
  have HE := Lib.hid (h1.below hm)
  have HB1 := Lib.hid b1
  have HB2 := Lib.hid b2
  have HM := Lib.hid hm
  clear b1 b2 hm h1 h2 h3 HG
  go_enter Try.func13, Try.ntmps13
  go_wp2_with fail
  generalize (w.alloc (.cells #[.int .i64 g.n, .slice Ae g.e.length ce] 24)).alloc (.cells #[.slice Av p.v.length cv, .slice Ap p.e.length cp] 27) = w1 at *
  refine (rright_any _ g _ HG2.out hl).mono ?_
  rintro e w2 ⟨rfl, hB2⟩
  have HM2 := Lib.hid (trans2 HM.out hB2)
  have HV2 := Lib.hid (HV.out.below hB2)
  have HP2 := Lib.hid (HP.out.below hB2)
  have HE2 := Lib.hid (HE.out.below hB2)
  have HX1 := Lib.hid (HB1.out.below hB2)
  have HX2 := Lib.hid (HB2.out.below hB2)
  have c10 := HX1.out.c0
  have c11 := HX1.out.c1
  have c20 := HX2.out.c0
  have c21 := HX2.out.c1
  clear HB1 HB2 HV HP HE HG2 hB2 HM
  by_cases he : g.err = 0
  · rw [he]
    go_wp2_with fail
    refine (rrises_any _ p.v g.n w2 HV2.out hp1).mono ?_
    rintro e w3 ⟨rfl, m3, rfl⟩
    have y21 := (World.cell?_drewN w2 m3 _).trans c21
    have y11 := (World.cell?_drewN w2 m3 _).trans c11
    have HP3 := Lib.hid (HP2.out.drewN m3)
    have HD3 := Lib.hid (below_drewN' w2 m3)
    clear c10 c11 c20 c21
    by_cases r1 : riseB p.v g.n = true
    · rw [r1]
      generalize w2.drewN m3 = w3 at *
      go_wp2_with fail
      refine (rrises_any _ p.e g.e.length w3 HP3.out hp2).mono ?_
      rintro e w4 ⟨rfl, m4, rfl⟩
      have HD4 := Lib.hid (trans2 HD3.out (below_drewN' w3 m4))
      clear y21 y11 HP3 HD3
      generalize w3.drewN m4 = w4 at *
      by_cases r2 : riseB p.e g.e.length = true
      · rw [r2]
        have HR2 := Lib.hid (of_decide_eq_true r2 : Rises p.e g.e.length)
        go_wp2
        go_loopw [6] (fun a wr => ∃ k : Nat, k ≤ p.e.length ∧ a = .int .i64 k ∧ Hid (Below w2.heap.size w2 wr) ∧ Hid (∀ j, j < k → endsIn g p (getI p.e j) = true)) (fun a _ => p.e.length - (Go.RowKit.intOf a).toNat)
        case atStart => exact ⟨0, Nat.zero_le _, rfl, HD4, Lib.hid (fun j hj => absurd hj (Nat.not_lt_zero _))⟩
        case round =>
          obtain ⟨k, hk, rfl, hB, hA⟩ := hrel
          rename_i wr
          have X1 := HX1.out.below hB.out
          have X2 := HX2.out.below hB.out
          have x11 := X1.c1
          have x20 := X2.c0
          have x21 := X2.c1
          by_cases hlt : k < p.e.length
          · obtain ⟨bp, op, rfl, hbp, hck⟩ := ints_at (HP2.out.below hB.out) hlt
            obtain ⟨z0, z1, _⟩ := HR2.out k hlt
            obtain ⟨i, hi⟩ : ∃ i : Nat, getI p.e k = (i : Int) := ⟨(getI p.e k).toNat, by omega⟩
            have hil : i < g.e.length := by omega
            obtain ⟨be, oe, rfl, hbe, hca, hcb⟩ := edges_at (HE2.out.below hB.out) hil
            have HO : Hid (endsIn g p (getI p.e k) = (decide ((getE g.e i).a ∈ p.v) && decide ((getE g.e i).b ∈ p.v))) := by
              rw [hi]; rfl
            have HF : Hid (endsIn g p (getI p.e k) = false → perr g p = 4) := fun h => perr_no he r1 r2 hlt h
            have HH : Hid (endsIn g p (getI p.e k) = true → ∀ j, j < k + 1 → endsIn g p (getI p.e j) = true) := fun h j hj => by
              by_cases e : j = k
              · rw [e]; exact h
              · exact hA.out j (by omega)
            have HI1 := Lib.hid (fun n => same_of (in_any _ p.v (getE g.e i).a (wr.drewN n) ((HV2.out.below hB.out).drewN n) hp1))
            have HI2 := Lib.hid (fun n => same_of (in_any _ p.v (getE g.e i).b (wr.drewN n) ((HV2.out.below hB.out).drewN n) hp1))
            rw [hi] at hck
            have hil' : (i : Int) < (g.e.length : Int) := by omega
            have hil0 : (0 : Int) ≤ (i : Int) := by omega
            have HMB := Lib.hid (fun n => below_drewN (trans2 HM2.out hB.out) n)
            have HBD := Lib.hid (fun n => below_drewN hB.out n)
            clear hi z0 z1 hbe hbp X1 X2 hA hB
            generalize (getE g.e i).a = xa at *
            generalize (getE g.e i).b = xb at *
            by_cases m1 : xa ∈ p.v
            · rw [decide_eq_true m1] at HO HI1
              by_cases m2 : xb ∈ p.v
              · rw [decide_eq_true m2] at HO HI2
                have HK := Lib.hid (HH.out (by rw [HO.out]; rfl))
                clear m1 m2
                go_wp2_with fail
                go_quiet ((go_at_call 15; first | with_reducible exact Calls.quiet_of_same (HI1.out _) | with_reducible exact Calls.quiet_of_same (HI2.out _)))
                go_wp2
                go_roundw
                case rel => exact ⟨k + 1, by omega, by go_num, HBD.out _, HK⟩
                case measure => simp [Go.RowKit.intOf]; omega
              · rw [decide_eq_false m2] at HO HI2
                have HK := Lib.hid (HF.out (by rw [HO.out]; rfl))
                clear m1 m2
                go_wp2_with fail
                go_quiet ((go_at_call 15; first | with_reducible exact Calls.quiet_of_same (HI1.out _) | with_reducible exact Calls.quiet_of_same (HI2.out _)))
                go_wp2
                go_ret
                exact ⟨ret_int HK.out.symm, HMB.out _⟩
            · rw [decide_eq_false m1] at HO HI1
              have HK := Lib.hid (HF.out (by rw [HO.out]; simp))
              clear m1
              go_wp2_with fail
              go_quiet ((go_at_call 15; first | with_reducible exact Calls.quiet_of_same (HI1.out _) | with_reducible exact Calls.quiet_of_same (HI2.out _)))
              go_wp2
              go_ret
              exact ⟨ret_int HK.out.symm, HMB.out _⟩
          · obtain rfl : k = p.e.length := by omega
            have HK := Lib.hid (perr_yes he r1 r2 hA.out)
            have HZ := Lib.hid (trans2 HM2.out hB.out)
            go_wp2
            go_ret
            exact ⟨ret_int HK.out.symm, HZ.out⟩
      · have HK : Hid (perr g p = 4) := by unfold perr; rw [if_pos he, r1, Bool.eq_false_iff.2 r2]; rfl
        rw [Bool.eq_false_iff.2 r2]
        go_wp2
        go_ret
        exact ⟨ret_int HK.out.symm, trans2 HM2.out HD4.out⟩
    · have HK : Hid (perr g p = 4) := by unfold perr; rw [if_pos he, Bool.eq_false_iff.2 r1]; rfl
      rw [Bool.eq_false_iff.2 r1]
      go_wp2
      go_ret
      exact ⟨ret_int HK.out.symm, trans2 HM2.out HD3.out⟩
  · have HK : Hid (perr g p = g.err) := if_neg he
    have he' : (g.err != 0) = true := by simpa using he
    generalize g.err = ge at *
    go_wp2
    go_ret
    exact ⟨ret_int HK.out.symm, HM2.out⟩

end Go.Proofs.Ytjnohnbppkhbaaa
