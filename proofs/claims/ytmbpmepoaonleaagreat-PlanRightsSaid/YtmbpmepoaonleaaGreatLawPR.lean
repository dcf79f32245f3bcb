/-
  PlanRights: whether any plan is a drawing is the document's; so are its regions, and which of them has a walk: the law's call answers true at every input.
-/
import Derived.Test.YtmbpmepoaonleaaGreatM55
import Derived.Test.YtmbpmepoaonleaaGreatM61
import Derived.Test.YtmbpmepoaonleaaGreatM62
import Derived.Test.YtmbpmepoaonleaaGreatM65
import Derived.Test.YtmbpmepoaonleaaGreatM56
namespace Go.Proofs.YtmbpmepoaonleaaGreat.Pl
open Go.Proofs.YtmbpmepoaonleaaGreat Go.Proofs.YtmbpmepoaonleaaGreat.Fc Go.Proofs.YtmbpmepoaonleaaGreat.Rt Go.RowKit Go.Maps

set_option maxRecDepth 100000 in
set_option maxHeartbeats 16000000 in
theorem planRights_any (v : Value) (g : Gph) (u : Value) (p : Prt) (x : Value) (q : List (List Int) × List (List Int)) (key : Int) (w : World) (h : Gr w v g) (h' : Pt w u p) (hx : PlanIn w x q.1 q.2) :
    Calls Tryz.prog 5 #[v, u, x, .int .i64 key] w fun e w' => e = .returned (.bool true) ∧ Below w.heap.size w w' := by
  obtain ⟨T, S⟩ := q
  have HG := Lib.hid h
  have HP := Lib.hid h'
  have HX := Lib.hid hx.pn
  have HWT := Lib.hid (show ∀ j, ∀ y ∈ getT T j, (Lit.int .i64 y).wf = true from hx.wT)
  have HWS := Lib.hid (show ∀ j, ∀ y ∈ getT S j, (Lit.int .i64 y).wf = true from hx.wS)
  obtain ⟨⟨vT, vS, rfl, h4, h5⟩, _, _⟩ := hx
  have h4 : LL w vT T := h4
  have h5 : LL w vS S := h5
  obtain ⟨ve, rfl, h1⟩ := h
  obtain ⟨vv, vp, rfl, h2, h3⟩ := h'
  obtain ⟨Ae, ce, rfl⟩ := h1.form
  obtain ⟨Av, cv, rfl⟩ := ints_form h2
  obtain ⟨Ap, cp, rfl⟩ := ints_form h3
  obtain ⟨AT, cT, rfl, _, _⟩ := h4.form
  obtain ⟨AS, cS, rfl, _, _⟩ := h5.form
  obtain ⟨b1, b2, b3, hm⟩ := three_boxes w (.int .i64 g.n) (.slice Ae g.e.length ce) (.slice Av p.v.length cv) (.slice Ap p.e.length cp) (.slice AT T.length cT) (.slice AS S.length cS) 24 27 30
  have HB1 := Lib.hid b1
  have HB2 := Lib.hid b2
  have HB3 := Lib.hid b3
  have HM := Lib.hid hm
  have HG1 := Lib.hid (HG.out.below hm)
  have HP1 := Lib.hid (HP.out.below hm)
  have HX1 := Lib.hid (show Pn _ (.agg #[.slice AT T.length cT, .slice AS S.length cS]) T S from HX.out.below hm)
  clear b1 b2 b3 hm h1 h2 h3 h4 h5 HG HP HX
  go_enter Tryz.func5, Tryz.ntmps5
  go_wp2_with fail
  generalize ((w.alloc (.cells #[.int .i64 g.n, .slice Ae g.e.length ce] 24)).alloc (.cells #[.slice Av p.v.length cv, .slice Ap p.e.length cp] 27)).alloc (.cells #[.slice AT T.length cT, .slice AS S.length cS] 30) = w1 at *
  have HCB := Lib.hid (fun (W : World) (hW : Below w1.heap.size w1 W) => (⟨(HB1.out.below hW).c0, (HB1.out.below hW).c1, (HB2.out.below hW).c0, (HB2.out.below hW).c1, (HB3.out.below hW).c0, (HB3.out.below hW).c1⟩ :
    W.cell? ⟨w.heap.size, 0, none⟩ = some (.int .i64 g.n) ∧ W.cell? ⟨w.heap.size, 1, none⟩ = some (.slice Ae g.e.length ce) ∧ W.cell? ⟨w.heap.size + 1, 0, none⟩ = some (.slice Av p.v.length cv) ∧ W.cell? ⟨w.heap.size + 1, 1, none⟩ = some (.slice Ap p.e.length cp) ∧ W.cell? ⟨w.heap.size + 2, 0, none⟩ = some (.slice AT T.length cT) ∧ W.cell? ⟨w.heap.size + 2, 1, none⟩ = some (.slice AS S.length cS)))
  clear HB1 HB2 HB3
  refine (pawake_any w1).mono ?_
  rintro e w2 ⟨rfl, hB2⟩
  obtain ⟨c0, c1, d0, d1, e0, e1⟩ := HCB.out w2 hB2
  have HBB2 := Lib.hid hB2
  clear hB2
  go_wp2_with fail
  refine (small8_any _ _ _ w2 (HG1.out.below HBB2.out) (HP1.out.below HBB2.out) (HX1.out.below HBB2.out)).mono ?_
  rintro e w3 ⟨rfl, hB3⟩
  have HB3 := Lib.hid (trans2 HBB2.out hB3)
  clear hB3 c0 c1 d0 d1 e0 e1 HBB2
  by_cases hs : small8 g p T S = true
  case neg =>
    have e : small8I g p T S = 0 := if_neg hs
    rw [e]
    clear e hs
    go_wp2_with fail
    refine (pawake_any w3).mono ?_
    rintro e w4 ⟨rfl, hB4⟩
    go_wp2
    go_ret
    exact ⟨rfl, trans2 HM.out (trans2 HB3.out hB4)⟩
  have e : small8I g p T S = 1 := if_pos hs
  obtain ⟨hf, hl, hp1, hp2, hlT, hrT, hlS, hrS⟩ := small8_facts hs HWT.out HWS.out
  have HF := Lib.hid hf
  have HRT := Lib.hid hrT
  have HRS := Lib.hid hrS
  obtain ⟨er, hE⟩ := perr_ex g p T S
  have HE := Lib.hid hE
  rw [e]
  obtain ⟨c0, c1, d0, d1, e0, e1⟩ := HCB.out w3 HB3.out
  clear e hs hf hE hrT hrS
  have HRI := Lib.hid (right_any _ _ _ w3 (HG1.out.below HB3.out) (HP1.out.below HB3.out) (HX1.out.below HB3.out) HF.out HE.out)
  go_wp2_with fail
  clear c0 c1 d0 d1 e0 e1
  refine HRI.out.mono ?_
  clear HRI
  rintro e w4 ⟨rfl, hB4⟩
  have HB4 := Lib.hid (trans2 HB3.out hB4)
  clear hB4
  obtain ⟨c0, c1, d0, d1, e0, e1⟩ := HCB.out w4 HB4.out
  have HR := Lib.hid (regions_any _ _ _ w4 (HG1.out.below HB4.out) (HP1.out.below HB4.out) (HX1.out.below HB4.out) HF.out HE.out)
  go_wp2_with fail
  clear c0 c1 d0 d1 e0 e1
  refine HR.out.mono ?_
  clear HR
  have hrs : er = 0 → (regs (keysOf g p T) S).length ≤ 1000000 ∧ ∀ j, (getT (regs (keysOf g p T) S) j).length ≤ 1000000 := fun h0 => by
    obtain ⟨hsp, hHu⟩ := HE.out.zero.1 h0
    have hT := (sphE_iff.1 hsp).1
    have h1 := regs_few (keysOf g p T) S
    have h2 : (keysOf g p T).length = (walksOf g p T).length := by unfold keysOf; rw [List.length_map]
    have h3 := walksOf_len g p T
    refine ⟨by omega, getT_few fun l hl => ?_⟩
    have h4 := (regs_flat (keys_up hT) hHu.lists).length_eq
    have h5 := (List.sublist_flatten_of_mem hl).length_le
    omega
  have HRL := Lib.hid hrs
  clear hrs
  rintro e w5 ⟨hB5, ⟨hne, rfl⟩ | ⟨h0, m, us, rfl, hMd⟩⟩
  · have HB5 := Lib.hid (trans2 HB4.out hB5)
    clear hB5
    obtain ⟨c0, c1, d0, d1, e0, e1⟩ := HCB.out w5 HB5.out
    have HRG := Lib.hid (region_any _ _ _ key w5 (HG1.out.below HB5.out) (HP1.out.below HB5.out) (HX1.out.below HB5.out) HF.out HE.out HRL.out)
    go_wp2_with fail
    clear c0 c1 d0 d1 e0 e1
    refine HRG.out.mono ?_
    clear HRG
    rintro e w6 ⟨hB6, i, rfl, ⟨_, rfl⟩ | ⟨h0, _⟩⟩
    case inr => exact absurd h0 hne
    have HB6 := Lib.hid (trans2 HB5.out hB6)
    clear hB6
    obtain ⟨c0, c1, d0, d1, e0, e1⟩ := HCB.out w6 HB6.out
    have HRR := Lib.hid (rright_any _ _ _ w6 (HG1.out.below HB6.out) (HP1.out.below HB6.out) (HX1.out.below HB6.out) (by omega) (by omega) (by omega) hlT HRT.out hlS HRS.out HE.out)
    have hv : regV (-1) = .tuple #[.int .i64 0, .bool false] := rfl
    rw [hv]
    clear hv
    go_wp2_with fail
    clear c0 c1 d0 d1 e0 e1
    refine HRR.out.mono ?_
    clear HRR
    rintro e w7 ⟨rfl, hB7⟩
    have HZ := Lib.hid (trans2 HM.out (trans2 HB6.out hB7))
    have t1 : (er != er) = false := by simp
    have t2 : (er != 0) = true := by simpa using hne
    clear hB7 hne HE
    go_wp2
    go_ret
    exact ⟨rfl, HZ.out⟩
  subst h0
  obtain ⟨hsp, hHu⟩ := HE.out.zero.1 rfl
  have HTU := Lib.hid (sphE_iff.1 hsp).1
  have HLI := Lib.hid hHu.lists
  clear hsp hHu
  have HB5 := Lib.hid (trans2 HB4.out hB5)
  clear hB5
  obtain ⟨Am, cm, rfl⟩ := hMd.shape
  have HMR := Lib.hid hMd.reads
  clear hMd
  obtain ⟨c0, c1, d0, d1, e0, e1⟩ := HCB.out w5 HB5.out
  have HRG := Lib.hid (region_any _ _ _ key w5 (HG1.out.below HB5.out) (HP1.out.below HB5.out) (HX1.out.below HB5.out) HF.out HE.out HRL.out)
  obtain ⟨hr1, hr2⟩ := HRL.out rfl
  have hn : g.n ≤ 100000 := by have := HTU.out.len; omega
  have HRS0 := Lib.hid (fun (W : World) (hW : Below w5.heap.size w5 W) => rregions_any _ _ _ W (HG1.out.below (trans2 HB5.out hW)) (HP1.out.below (trans2 HB5.out hW)) (HX1.out.below (trans2 HB5.out hW)) HTU.out HLI.out (by omega) hn (by omega) (by omega) (fun j => Nat.le_trans (HRT.out j) (by decide)) (by omega) (fun j => Nat.le_trans (HRS.out j) (by decide)))
  have HR1 := Lib.hid hr1
  have HR2 := Lib.hid hr2
  clear hr1 hr2 hn HRL
  generalize regs (keysOf g p T) S = R at *
  go_wp2_with fail
  clear c0 c1 d0 d1 e0 e1
  refine HRG.out.mono ?_
  clear HRG
  rintro e w6 ⟨hB6, i, rfl, ⟨h, _⟩ | ⟨_, hAt⟩⟩
  · exact absurd rfl h
  have HAT := Lib.hid hAt
  have HB6 := Lib.hid (trans2 HB5.out hB6)
  have HB56 := Lib.hid hB6
  clear hB6 hAt
  obtain ⟨c0, c1, d0, d1, e0, e1⟩ := HCB.out w6 HB6.out
  have HRR := Lib.hid (rright_any _ _ _ w6 (HG1.out.below HB6.out) (HP1.out.below HB6.out) (HX1.out.below HB6.out) (by omega) (by omega) (by omega) hlT HRT.out hlS HRS.out HE.out)
  have hans : ∃ iv io, regV i = .tuple #[.int .i64 iv, .bool io] ∧ ((iv = 0 ∧ io = false ∧ ∀ j, j < R.length → key ∉ getT R j) ∨ ∃ k0 : Nat, iv = k0 ∧ io = true ∧ k0 < R.length ∧ key ∈ getT R k0 ∧ ∀ j, j < k0 → key ∉ getT R j) := by
    rcases HAT.out with ⟨rfl, h⟩ | ⟨k0, rfl, h⟩
    · exact ⟨0, false, rfl, .inl ⟨rfl, rfl, h⟩⟩
    · have h1 : ¬ (k0 : Int) < 0 := by omega
      have h2 : (0 : Int) ≤ (k0 : Int) := by omega
      exact ⟨k0, true, by unfold regV; rw [if_neg h1, decide_eq_true h2], .inr ⟨k0, rfl, rfl, h⟩⟩
  obtain ⟨iv, io, hrv, hA⟩ := hans
  have HANS := Lib.hid hA
  rw [hrv]
  clear hrv hA HAT
  go_wp2_with fail
  clear c0 c1 d0 d1 e0 e1
  refine HRR.out.mono ?_
  clear HRR
  rintro e w7 ⟨rfl, hB7⟩
  have HB57 := Lib.hid (trans2 HB56.out hB7)
  have HB7 := Lib.hid (trans2 HB5.out HB57.out)
  clear hB7
  obtain ⟨c0, c1, d0, d1, e0, e1⟩ := HCB.out w7 HB7.out
  go_wp2_with fail
  clear c0 c1 d0 d1 e0 e1
  refine (HRS0.out w7 HB57.out).mono ?_
  rintro e w8 ⟨m, rfl, hL8, hB8⟩
  have HB8 := Lib.hid (trans2 HB7.out hB8)
  have HMR8 := Lib.hid (HMR.out.below (trans2 HB57.out hB8))
  have HL8 := Lib.hid hL8
  obtain ⟨A8, c8, rfl, _, _⟩ := hL8.form
  clear hL8 hB8
  have HEQ := Lib.hid (r6Equal_any _ _ R R w8 HMR8.out HL8.out (fun j => Nat.le_trans (HR2.out j) (by decide)))
  rw [decide_eq_true rfl] at HEQ
  go_wp2_with fail
  refine HEQ.out.mono ?_
  clear HEQ
  rintro e w9 ⟨rfl, n9, rfl⟩
  have HWN := Lib.hid (below_drewN' w8 n9)
  have HL9 := Lib.hid (HL8.out.below HWN.out)
  have HZ9 := Lib.hid (trans2 HM.out (trans2 HB8.out HWN.out))
  clear HWN HL8 HMR8
  generalize w8.drewN n9 = w9 at *
  have hr1 := HR1.out
  go_wp2
  go_loopw [16] (fun i wr => ∃ k : Nat, k ≤ R.length ∧ i = .int .i64 (k : Nat) ∧ wr = w9 ∧ Hid (∀ j, j < k → key ∉ getT R j)) (fun i _ => R.length - (Go.RowKit.intOf i).toNat)
  case atStart => exact ⟨0, Nat.zero_le _, rfl, rfl, Lib.hid (fun j hj => absurd hj (Nat.not_lt_zero _))⟩
  case round =>
    obtain ⟨k, hk, rfl, hw, hH⟩ := hrel
    subst hw
    by_cases hlt : k < R.length
    · obtain ⟨b, off, rfl, hb, A1, c1, hck, hi⟩ := HL9.out.get hlt
      have HIN := Lib.hid (in_any _ (getT R k) key _ hi (HR2.out k))
      by_cases hm : key ∈ getT R k
      · obtain ⟨h1, h2⟩ : iv = (k : Int) ∧ io = true := by
          rcases HANS.out with ⟨_, _, h⟩ | ⟨k0, h1, h2, h3, h4, h5⟩
          · exact absurd hm (h k hlt)
          · rcases Nat.lt_trichotomy k0 k with h | rfl | h
            · exact absurd h4 (hH.out k0 h)
            · exact ⟨h1, h2⟩
            · exact absurd hm (h5 k h)
        subst h1 h2
        have t1 : ((k : Int) == (k : Int)) = true := by simp
        rw [decide_eq_true hm] at HIN
        clear hm hi hH HANS
        generalize (getT R k).length = nk at *
        go_wp2_with fail
        refine HIN.out.mono ?_
        rintro e w1 ⟨rfl, rfl⟩
        go_wp2
        go_ret
        exact ⟨rfl, HZ9.out⟩
      · have HHn := Lib.hid (show ∀ j, j < k + 1 → key ∉ getT R j from fun j hj => by
          rcases Nat.lt_or_eq_of_le (Nat.le_of_lt_succ hj) with h | rfl
          · exact hH.out j h
          · exact hm)
        rw [decide_eq_false hm] at HIN
        clear hm hi hH
        generalize (getT R k).length = nk at *
        go_wp2_with fail
        refine HIN.out.mono ?_
        rintro e w1 ⟨rfl, rfl⟩
        go_wp2
        go_roundw
        case rel => exact ⟨k + 1, by omega, by go_num, by first | rfl | trivial, HHn⟩
        case measure => simp [Go.RowKit.intOf]; omega
    · obtain rfl : k = R.length := by omega
      obtain ⟨h1, h2⟩ : iv = 0 ∧ io = false := by
        rcases HANS.out with ⟨h1, h2, _⟩ | ⟨k0, _, _, h3, h4, _⟩
        · exact ⟨h1, h2⟩
        · exact absurd h4 (hH.out k0 h3)
      subst h1 h2
      clear hH HANS
      go_wp2
      go_ret
      exact ⟨rfl, HZ9.out⟩
end Go.Proofs.YtmbpmepoaonleaaGreat.Pl
