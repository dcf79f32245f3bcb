/-
  PlanParts: each walk is in just one region; of a drawing of one piece each region has one: the law's call answers true at every input.
-/
import Derived.Test.YtmbpmepoaonleaaGreatM55
import Derived.Test.YtmbpmepoaonleaaGreatM61
import Derived.Test.YtmbpmepoaonleaaGreatM56
import Derived.Test.YtmbpmepoaonleaaGreatM32
import Derived.Deep.RegionHeld3
namespace Go.Proofs.YtmbpmepoaonleaaGreat.Pl
open Go.Proofs.YtmbpmepoaonleaaGreat Go.Proofs.YtmbpmepoaonleaaGreat.Fc Go.Proofs.YtmbpmepoaonleaaGreat.Rt Go.RowKit Go.Maps

theorem regV_nat (k : Nat) : regV (k : Int) = .tuple #[.int .i64 k, .bool true] := by
  have h1 : ¬ (k : Int) < 0 := by omega
  have h2 : (0 : Int) ≤ (k : Int) := by omega
  unfold regV
  rw [if_neg h1, decide_eq_true h2]

set_option maxRecDepth 100000 in
set_option maxHeartbeats 16000000 in
theorem planParts_any (v : Value) (g : Gph) (u : Value) (p : Prt) (x : Value) (q : List (List Int) × List (List Int)) (w : World) (h : Gr w v g) (h' : Pt w u p) (hx : PlanIn w x q.1 q.2) :
    Calls Tryz.prog 9 #[v, u, x] w fun e w' => e = .returned (.bool true) ∧ Below w.heap.size w w' := by
  obtain ⟨T, S⟩ := q
  have HG := Lib.hid h
  have HP := Lib.hid h'
  have HX := Lib.hid hx.pn
  have HWT := Lib.hid (show ∀ j, ∀ y ∈ getT T j, (Lit.int .i64 y).wf = true from hx.wT)
  have HWS := Lib.hid (show ∀ j, ∀ y ∈ getT S j, (Lit.int .i64 y).wf = true from hx.wS)
  obtain ⟨⟨vT, vS, rfl, h4, h5⟩, _, _⟩ := hx
  have h4 : LL w vT T := h4
  have h5 : LL w vS S := h5
  obtain ⟨ve, rfl, h1⟩ := h
  obtain ⟨vv, vp, rfl, h2, h3⟩ := h'
  obtain ⟨Ae, ce, rfl⟩ := h1.form
  obtain ⟨Av, cv, rfl⟩ := ints_form h2
  obtain ⟨Ap, cp, rfl⟩ := ints_form h3
  obtain ⟨AT, cT, rfl, _, _⟩ := h4.form
  obtain ⟨AS, cS, rfl, _, _⟩ := h5.form
  obtain ⟨b1, b2, b3, hm⟩ := three_boxes w (.int .i64 g.n) (.slice Ae g.e.length ce) (.slice Av p.v.length cv) (.slice Ap p.e.length cp) (.slice AT T.length cT) (.slice AS S.length cS) 24 27 30
  have HB1 := Lib.hid b1
  have HB2 := Lib.hid b2
  have HB3 := Lib.hid b3
  have HM := Lib.hid hm
  have HG1 := Lib.hid (HG.out.below hm)
  have HP1 := Lib.hid (HP.out.below hm)
  have HX1 := Lib.hid (show Pn _ (.agg #[.slice AT T.length cT, .slice AS S.length cS]) T S from HX.out.below hm)
  clear b1 b2 b3 hm h1 h2 h3 h4 h5 HG HP HX
  go_enter Tryz.func9, Tryz.ntmps9
  go_wp2_with fail
  generalize ((w.alloc (.cells #[.int .i64 g.n, .slice Ae g.e.length ce] 24)).alloc (.cells #[.slice Av p.v.length cv, .slice Ap p.e.length cp] 27)).alloc (.cells #[.slice AT T.length cT, .slice AS S.length cS] 30) = w1 at *
  have HCB := Lib.hid (fun (W : World) (hW : Below w1.heap.size w1 W) => (⟨(HB1.out.below hW).c0, (HB1.out.below hW).c1, (HB2.out.below hW).c0, (HB2.out.below hW).c1, (HB3.out.below hW).c0, (HB3.out.below hW).c1⟩ :
    W.cell? ⟨w.heap.size, 0, none⟩ = some (.int .i64 g.n) ∧ W.cell? ⟨w.heap.size, 1, none⟩ = some (.slice Ae g.e.length ce) ∧ W.cell? ⟨w.heap.size + 1, 0, none⟩ = some (.slice Av p.v.length cv) ∧ W.cell? ⟨w.heap.size + 1, 1, none⟩ = some (.slice Ap p.e.length cp) ∧ W.cell? ⟨w.heap.size + 2, 0, none⟩ = some (.slice AT T.length cT) ∧ W.cell? ⟨w.heap.size + 2, 1, none⟩ = some (.slice AS S.length cS)))
  clear HB1 HB2 HB3
  refine (pawake_any w1).mono ?_
  rintro e w2 ⟨rfl, hB2⟩
  obtain ⟨c0, c1, d0, d1, e0, e1⟩ := HCB.out w2 hB2
  have HBB2 := Lib.hid hB2
  clear hB2
  go_wp2_with fail
  refine (small8_any _ _ _ w2 (HG1.out.below HBB2.out) (HP1.out.below HBB2.out) (HX1.out.below HBB2.out)).mono ?_
  rintro e w3 ⟨rfl, hB3⟩
  have HB3 := Lib.hid (trans2 HBB2.out hB3)
  clear hB3 c0 c1 d0 d1 e0 e1 HBB2
  by_cases hs : small8 g p T S = true
  case neg =>
    have e : small8I g p T S = 0 := if_neg hs
    rw [e]
    clear e hs
    go_wp2_with fail
    refine (pawake_any w3).mono ?_
    rintro e w4 ⟨rfl, hB4⟩
    go_wp2
    go_ret
    exact ⟨rfl, trans2 HM.out (trans2 HB3.out hB4)⟩
  have e : small8I g p T S = 1 := if_pos hs
  obtain ⟨hf, hl, hp1, hp2, hlT, hrT, hlS, hrS⟩ := small8_facts hs HWT.out HWS.out
  have HF := Lib.hid hf
  have HRT := Lib.hid hrT
  have HRS := Lib.hid hrS
  obtain ⟨er, hE⟩ := perr_ex g p T S
  have HE := Lib.hid hE
  rw [e]
  obtain ⟨c0, c1, d0, d1, e0, e1⟩ := HCB.out w3 HB3.out
  clear e hs hf hE hrT hrS
  have HR := Lib.hid (regions_any _ _ _ w3 (HG1.out.below HB3.out) (HP1.out.below HB3.out) (HX1.out.below HB3.out) HF.out HE.out)
  go_wp2_with fail
  clear c0 c1 d0 d1 e0 e1
  refine HR.out.mono ?_
  clear HR
  rintro e w4 ⟨hB4, ⟨hne, rfl⟩ | ⟨h0, m, us, rfl, hMd⟩⟩
  · have HZ := Lib.hid (trans2 HM.out (trans2 HB3.out hB4))
    have t1 : (er != 0) = true := by simpa using hne
    clear hB4 hne HE
    go_wp2
    go_ret
    exact ⟨rfl, HZ.out⟩
  subst h0
  have HB4 := Lib.hid (trans2 HB3.out hB4)
  obtain ⟨hsp, hHu⟩ := HE.out.zero.1 rfl
  have hTu := (sphE_iff.1 hsp).1
  have HTU := Lib.hid hTu
  obtain ⟨Am, cm, rfl⟩ := hMd.shape
  have HMR := Lib.hid hMd.reads
  have hfl := (regs_flat (keys_up hTu) hHu.lists).length_eq
  have hkl : (keysOf g p T).length = (walksOf g p T).length := by unfold keysOf; rw [List.length_map]
  have hwl := walksOf_len g p T
  have hr1 := regs_few (keysOf g p T) S
  have hr2 : ∀ j, (getT (regs (keysOf g p T) S) j).length ≤ 1000 := getT_few fun l hl => by
    have h5 := (List.sublist_flatten_of_mem hl).length_le
    omega
  have HAT := Lib.hid (fun (i k : Nat) (n : Int) (hi : i < (regs (keysOf g p T) S).length) (hk : k < (getT (regs (keysOf g p T) S) i).length) (h : At (regs (keysOf g p T) S) (getI (getT (regs (keysOf g p T) S) i) k) n) => at_own (keys_up hTu) hHu.lists hi hk h)
  have HND := Lib.hid (regs_once (keys_up hTu) hHu.lists)
  have HON := Lib.hid (fun (h1 : (pcs g p).length = 1) (i : Nat) (hi : i < (regs (keysOf g p T) S).length) => one_regs hTu hHu h1 _ (getT_mem hi))
  have HRG := Lib.hid (fun (key : Int) (W : World) (hW : Below w4.heap.size w4 W) => region_any _ _ _ key W (HG1.out.below (trans2 HB4.out hW)) (HP1.out.below (trans2 HB4.out hW)) (HX1.out.below (trans2 HB4.out hW)) HF.out HE.out (fun _ => ⟨by omega, fun j => Nat.le_trans (hr2 j) (by decide)⟩))
  have HPI := Lib.hid (fun (W : World) (hW : Below w4.heap.size w4 W) => rpieces_any _ _ g p W (HG1.out.below (trans2 HB4.out hW)) (HP1.out.below (trans2 HB4.out hW)) hTu.right (by omega) (by omega))
  have hn : g.n ≤ 100000 := by have := hTu.len; omega
  have HWK := Lib.hid (fun (W : World) (hW : Below w4.heap.size w4 W) => rwalks_any _ _ (.slice AT T.length cT) g p T W (HG1.out.below (trans2 HB4.out hW)) (HP1.out.below (trans2 HB4.out hW)) (by obtain ⟨_, _, e, h1, _⟩ := HX1.out.below (trans2 HB4.out hW); cases e; exact h1) hTu (by omega) (by omega) (by omega) hn (fun j => Nat.le_trans (HRT.out j) (by decide)))
  have HFL := Lib.hid (show (regs (keysOf g p T) S).flatten.length = (walksOf g p T).length by omega)
  have HR1 := Lib.hid (show (regs (keysOf g p T) S).length ≤ 1000 by omega)
  have HR2 := Lib.hid hr2
  have HR3 := Lib.hid (show (regs (keysOf g p T) S).flatten.length ≤ 1000 by omega)
  clear hB4 hsp hHu hTu hMd hfl hkl hwl hr1 hr2 hn HE HWT HWS HF
  generalize regs (keysOf g p T) S = R at *
  go_wp2
  go_loopw [9, 10] (fun mv i wr => ∃ k : Nat, k ≤ R.length ∧ i = .int .i64 k ∧ Hid (Row wr w4.heap.size mv (metTo R k 0)) ∧ Hid (Below w4.heap.size w4 wr)) (fun _ i _ => R.length - (Go.RowKit.intOf i).toNat)
  case atStart => exact ⟨0, Nat.zero_le _, rfl, Lib.hid (by rw [metTo_zero]; exact Row.nil _ _), Lib.hid (Below.refl _ _)⟩
  case round =>
    obtain ⟨k, hk, rfl, hR, hB⟩ := hrel
    obtain ⟨wo, hwo⟩ : ∃ z, z = wr := ⟨_, rfl⟩
    subst hwo
    by_cases hlt : k < R.length
    · have HNX := Lib.hid (metTo_next hlt)
      have HLT := Lib.hid hlt
      have HR1k := HR1.out
      go_wp2
      go_loopw [9, 11] (fun mv i wr => ∃ j : Nat, j ≤ (getT R k).length ∧ i = .int .i64 j ∧ Hid (Row wr w4.heap.size mv (metTo R k j)) ∧ Hid (Below w4.heap.size w4 wr)) (fun _ i _ => (getT R k).length - (Go.RowKit.intOf i).toNat)
      case atStart => exact ⟨0, Nat.zero_le _, rfl, hR, hB⟩
      case round =>
        obtain ⟨j, hj, rfl, hR, hB⟩ := hrel
        obtain ⟨wq, hwq⟩ : ∃ z, z = wr := ⟨_, rfl⟩
        subst hwq
        obtain ⟨b, off, rfl, hb, A1, c1, hck, hi⟩ := (HMR.out.below hB.out).get hlt
        by_cases hjt : j < (getT R k).length
        · obtain ⟨ub, uo, rfl, hub, huc⟩ := ints_at hi hjt
          have HNW := Lib.hid (metTo_new HND.out hlt hjt)
          have HSC := Lib.hid (metTo_succ hjt)
          have HLE := Lib.hid (show (metTo R k j).length ≤ 1000 from Nat.le_trans (metTo_len hk) HR3.out)
          have HONk := Lib.hid (fun h1 => HON.out h1 k hlt)
          have HREG := Lib.hid (fun (W : World) (hW : Below wq.heap.size wq W) => (HRG.out (getI (getT R k) j) W (trans2 hB.out hW)).mono (fun e w' h => show e = .returned (.tuple #[.int .i64 (k : Int), .bool true]) ∧ Below W.heap.size W w' from by
            obtain ⟨hb, i, rfl, ⟨h, _⟩ | ⟨_, h⟩⟩ := h
            · exact absurd rfl h
            · rw [HAT.out k j i hlt hjt h, regV_nat]
              exact ⟨rfl, hb⟩))
          have hjk := HR2.out k
          generalize getI (getT R k) j = y at *
          generalize hnk : (getT R k).length = nk at *
          have HNK := Lib.hid hnk
          have HBq := Lib.hid (trans2 HB4.out hB.out)
          have hst : ∀ W : World, Below wq.heap.size wq W → (W.cell? ⟨w.heap.size, 0, none⟩ = some (.int .i64 g.n) ∧ W.cell? ⟨w.heap.size, 1, none⟩ = some (.slice Ae g.e.length ce) ∧ W.cell? ⟨w.heap.size + 1, 0, none⟩ = some (.slice Av p.v.length cv) ∧ W.cell? ⟨w.heap.size + 1, 1, none⟩ = some (.slice Ap p.e.length cp) ∧ W.cell? ⟨w.heap.size + 2, 0, none⟩ = some (.slice AT T.length cT) ∧ W.cell? ⟨w.heap.size + 2, 1, none⟩ = some (.slice AS S.length cS) ∧ W.cell? ⟨b, off + k, none⟩ = some (.slice (some ⟨ub, uo, none⟩) nk c1) ∧ W.cell? ⟨ub, uo + j, none⟩ = some (.int .i64 y) ∧ Hid (Below wq.heap.size wq W)) := fun W hW => ⟨(HCB.out W (trans2 HBq.out hW)).1, (HCB.out W (trans2 HBq.out hW)).2.1, (HCB.out W (trans2 HBq.out hW)).2.2.1, (HCB.out W (trans2 HBq.out hW)).2.2.2.1, (HCB.out W (trans2 HBq.out hW)).2.2.2.2.1, (HCB.out W (trans2 HBq.out hW)).2.2.2.2.2, (hW.cell (p := ⟨b, off + k, none⟩) hb).trans hck, (hW.cell (p := ⟨ub, uo + j, none⟩) hub).trans huc, Lib.hid hW⟩
          have HST := Lib.hid hst
          have hS0 := hst wq.drew (below_drewN' wq 1)
          have HRS := Lib.hid (fun (W : World) (hS : W.cell? ⟨w.heap.size, 0, none⟩ = some (.int .i64 g.n) ∧ W.cell? ⟨w.heap.size, 1, none⟩ = some (.slice Ae g.e.length ce) ∧ W.cell? ⟨w.heap.size + 1, 0, none⟩ = some (.slice Av p.v.length cv) ∧ W.cell? ⟨w.heap.size + 1, 1, none⟩ = some (.slice Ap p.e.length cp) ∧ W.cell? ⟨w.heap.size + 2, 0, none⟩ = some (.slice AT T.length cT) ∧ W.cell? ⟨w.heap.size + 2, 1, none⟩ = some (.slice AS S.length cS) ∧ W.cell? ⟨b, off + k, none⟩ = some (.slice (some ⟨ub, uo, none⟩) nk c1) ∧ W.cell? ⟨ub, uo + j, none⟩ = some (.int .i64 y) ∧ Hid (Below wq.heap.size wq W)) => HREG.out W hS.2.2.2.2.2.2.2.2.out)
          have HCL := Lib.hid (fun (W W' : World) (hS : W.cell? ⟨w.heap.size, 0, none⟩ = some (.int .i64 g.n) ∧ W.cell? ⟨w.heap.size, 1, none⟩ = some (.slice Ae g.e.length ce) ∧ W.cell? ⟨w.heap.size + 1, 0, none⟩ = some (.slice Av p.v.length cv) ∧ W.cell? ⟨w.heap.size + 1, 1, none⟩ = some (.slice Ap p.e.length cp) ∧ W.cell? ⟨w.heap.size + 2, 0, none⟩ = some (.slice AT T.length cT) ∧ W.cell? ⟨w.heap.size + 2, 1, none⟩ = some (.slice AS S.length cS) ∧ W.cell? ⟨b, off + k, none⟩ = some (.slice (some ⟨ub, uo, none⟩) nk c1) ∧ W.cell? ⟨ub, uo + j, none⟩ = some (.int .i64 y) ∧ Hid (Below wq.heap.size wq W)) (hB : Below W.heap.size W W') => HST.out W' (trans2 hS.2.2.2.2.2.2.2.2.out hB))
          clear hst hnk HAT HRG HON
          go_wp2_with fail
          go_region_held3 (fun W => W.cell? ⟨w.heap.size, 0, none⟩ = some (.int .i64 g.n) ∧ W.cell? ⟨w.heap.size, 1, none⟩ = some (.slice Ae g.e.length ce) ∧ W.cell? ⟨w.heap.size + 1, 0, none⟩ = some (.slice Av p.v.length cv) ∧ W.cell? ⟨w.heap.size + 1, 1, none⟩ = some (.slice Ap p.e.length cp) ∧ W.cell? ⟨w.heap.size + 2, 0, none⟩ = some (.slice AT T.length cT) ∧ W.cell? ⟨w.heap.size + 2, 1, none⟩ = some (.slice AS S.length cS) ∧ W.cell? ⟨b, off + k, none⟩ = some (.slice (some ⟨ub, uo, none⟩) nk c1) ∧ W.cell? ⟨ub, uo + j, none⟩ = some (.int .i64 y) ∧ Hid (Below wq.heap.size wq W))
            (first | assumption | exact hS0)
            (first
              | (go_at_call 19; refine (HRS.out _ (by assumption)).mono ?_; rintro e w' ⟨rfl, hB'⟩; have hS' := HCL.out _ _ (by assumption) hB'))
          all_goals
            have HS' := Lib.hid hS'
            obtain ⟨c0, c1, d0, d1, e0, e1, hck', huc', hBw⟩ := hS'
            have HRw := Lib.hid (hR.out.below hBw.out)
            have HB' := Lib.hid (trans2 hB.out hBw.out)
            obtain ⟨Aq, cq, hmv⟩ := ints_form HRw.out.ints
            subst hmv
            have t1 : ((k : Int) != (k : Int)) = false := by simp
            clear hS0 hB' hck huc HRS HREG
            go_wp2_with fail
            refine (in_any _ _ y w' HRw.out.ints (by have := HLE.out; omega)).mono ?_
            rintro e w8 ⟨rfl, hw8⟩
            subst hw8
            rw [decide_eq_false HNW.out]
            go_wp2_with fail
            refine (HPI.out w' HB'.out).mono ?_
            rintro e w8 ⟨mp, usp, rfl, hTp, hB8⟩
            obtain ⟨A5, k5, rfl⟩ := hTp.shape
            have hlm : ((pcs g p).map cmpP).length = (pcs g p).length := List.length_map _
            rw [hlm]
            have HR8 := Lib.hid (HRw.out.below hB8)
            have HB8 := Lib.hid (trans2 HB'.out hB8)
            have HSZ8 := Lib.hid HB8.out.size
            clear hck' huc' c0 c1 d0 d1 e0 e1 hBw
            obtain ⟨x0, x1, x2, x3, x4, x5, x6, x7, x8⟩ := HCL.out _ _ HS'.out hB8
            have HLE := Lib.hid (show (metTo R k j).length ≤ 4000000 by have := HLE.out; omega)
            clear hTp hB8 hlm HS' HRw HB' HST HCL hi
            generalize (pcs g p).length = np at *
            by_cases h1 : np = 1
            · have hnk1 := HONk.out h1
              have t2 : ((np : Int) == 1) = true := by rw [h1]; rfl
              have t3 : decide (1 < (nk : Int)) = false := decide_eq_false (by omega)
              have t4 : decide (1 < nk) = false := decide_eq_false (by omega)
              clear h1 hnk1
              go_wp2_with (at_builtin; refine wpList_append1 rfl _ _ rfl rfl rfl HR8.out HSZ8.out HLE.out ?_)
              intro v7 w7 hR7 hB7
              rw [← HSC.out] at hR7
              have HR7 := Lib.hid hR7
              have HB7 := Lib.hid (HB8.out.trans hB7)
              obtain ⟨A7, c7, hv7⟩ := ints_form hR7.ints
              subst hv7
              clear hR7 hB7 x0 x1 x2 x3 x4 x5 x6 x7 x8
              go_wp2
              go_roundw
              case rel => exact ⟨j + 1, by have := HNK.out; omega, by go_num, HR7, HB7⟩
              case measure => have := HNK.out; simp [Go.RowKit.intOf]; omega
            · have t2 : ((np : Int) == 1) = false := by simp; omega
              clear h1
              go_wp2_with (at_builtin; refine wpList_append1 rfl _ _ rfl rfl rfl HR8.out HSZ8.out HLE.out ?_)
              intro v7 w7 hR7 hB7
              rw [← HSC.out] at hR7
              have HR7 := Lib.hid hR7
              have HB7 := Lib.hid (HB8.out.trans hB7)
              obtain ⟨A7, c7, hv7⟩ := ints_form hR7.ints
              subst hv7
              clear hR7 hB7 x0 x1 x2 x3 x4 x5 x6 x7 x8
              go_wp2
              go_roundw
              case rel => exact ⟨j + 1, by have := HNK.out; omega, by go_num, HR7, HB7⟩
              case measure => have := HNK.out; simp [Go.RowKit.intOf]; omega
        · obtain rfl : j = (getT R k).length := by omega
          have HR8 := Lib.hid (show Row wq w4.heap.size _ (metTo R (k + 1) 0) by rw [HNX.out]; exact hR.out)
          have HRR := HR2.out k
          clear hR hi
          generalize (getT R k).length = nk at *
          go_wp2
          go_roundw
          case rel => exact ⟨k + 1, by have := HLT.out; omega, by go_num, HR8, hB⟩
          case measure => have := HLT.out; simp [Go.RowKit.intOf]; omega
    · obtain rfl : k = R.length := by omega
      rw [metTo_all] at hR
      obtain ⟨c0, c1, d0, d1, e0, e1⟩ := HCB.out wo (trans2 HB4.out hB.out)
      obtain ⟨Aq, cq, hmv⟩ := ints_form hR.out.ints
      rw [HFL.out] at hmv
      subst hmv
      have HWL := Lib.hid (HWK.out wo hB.out)
      have HZ := Lib.hid (trans2 HM.out (trans2 HB4.out hB.out))
      clear hR hB HWK HPI HRG
      go_wp2_with fail
      refine HWL.out.mono ?_
      rintro e w8 ⟨m, us, rfl, hTw, hB8⟩
      obtain ⟨A8, c8, rfl⟩ := hTw.shape
      have HZ8 := Lib.hid (trans2 HZ.out hB8)
      have hlm : ((walksOf g p T).map cmp).length = (walksOf g p T).length := List.length_map _
      rw [hlm]
      clear hTw hB8 hlm HWL HFL c0 c1 d0 d1 e0 e1
      generalize (walksOf g p T).length = nw at *
      have t1 : ((nw : Int) == (nw : Int)) = true := by simp
      go_wp2
      go_ret
      exact ⟨rfl, HZ8.out⟩
end Go.Proofs.YtmbpmepoaonleaaGreat.Pl
