/-
  FpI, FpJ, in one text.
-/
import Derived.Test.YtmbpmepoaonleaaGreatM30
import Derived.StillTailTactics
/-! The program's Genus. -/
namespace Go.Proofs.YtmbpmepoaonleaaGreat.Fc
open Go.Proofs.YtmbpmepoaonleaaGreat Go.RowKit Go.Maps

variable {g : Gph} {p q : Prt} {T : List (List Int)}

theorem w64f (n : Int) (h0 : -9223372036854775808 ≤ n) (h1 : n ≤ 9223372036854775807) : IntKind.i64.wrap n = n := by
  simp [IntKind.wrap, IntKind.bits, IntKind.signed]
  omega

theorem crn_start (h : Rt.Turns g p T) {x : Wlk} (hx : x ∈ walksOf g p T) : crn g x.1 = startI g x := by
  unfold crn startI
  rcases walk_facts h hx with ⟨_, h1, _⟩ | ⟨_, h1, _, _, h2, _⟩
  · rw [if_pos h1, if_pos h1]
  · rw [if_neg (by omega), if_neg (by omega)]
    obtain ⟨h3, h4⟩ := (mem_dart h.right).1 h2
    have h5 := Rt.ints g p h.right h4
    unfold Rt.tl tailOf
    rw [show x.1.toNat / 2 = (x.1 / 2).toNat by omega]
    split <;> omega
theorem begins_cnt (h : Rt.Turns g p T) : (walksOf g p T).countP (beginsB g q) = cntW g q (walksOf g p T) := by
  unfold cntW
  refine List.countP_congr fun x hx => ?_
  unfold beginsB startsB
  rw [crn_start h hx]
theorem start_in (h : Rt.Turns g p T) {x : Wlk} (hx : x ∈ walksOf g p T) : crn g x.1 ∈ p.v := by
  rw [crn_start h hx]
  rcases mem_walks.1 hx with ⟨v, hv, _, rfl⟩ | ⟨d, hd, rfl⟩
  · have := (v_nn h.right hv).1
    unfold startI
    rw [if_pos (show -1 - v < 0 by omega)]
    show -1 - (-1 - v) ∈ p.v
    rwa [show -1 - (-1 - v) = v by omega]
  · have h0 := face_nn h hd
    have hX := (mem_dart h.right).1 ((nxt_perm h).mem_faces.1 hd).1
    have e : startI g (wlk (Rt.nxt g T) (prs p.e).length d) = (Rt.tl g d : Int) := if_neg (show ¬ d < 0 by omega)
    rw [e]
    exact (Nbr.ins h.right (dart_nbr h.right hX)).1
theorem walk_keys (h : Rt.Turns g p T) (hn : g.n ≤ 1000000) {x : Wlk} (hx : x ∈ walksOf g p T) : (x.2.length = 0 ∧ x.1 < 0 ∧ -1000000 ≤ x.1) ∨ (0 < x.2.length ∧ 0 ≤ x.1 ∧ x.1 < 2 * (g.e.length : Int)) := by
  rcases walk_facts h hx with ⟨h1, h2, h3⟩ | ⟨h1, h2, _, _, h3, _⟩
  · exact .inl ⟨by rw [h1]; rfl, h2, by omega⟩
  · have h4 := Rt.ints g p h.right ((mem_dart h.right).1 h3).2
    exact .inr ⟨h1, h2, by omega⟩
theorem genL_len : (genL g p T).length = (pcs g p).length := List.length_map _
theorem genL_get {k : Nat} (hk : k < (pcs g p).length) : getI (genL g p T) k = genI g (getP (pcs g p) k) (walksOf g p T) := by
  rw [getI_of _ _ (by rw [genL_len]; exact hk)]
  unfold genL
  rw [List.getElem_map, getP_of hk]

set_option maxRecDepth 100000 in
set_option maxHeartbeats 8000000 in
theorem genus_any (v u x : Value) (g : Gph) (p : Prt) (T : List (List Int)) (w : World) (h : Gr w v g) (h' : Pt w u p) (hT : LL w x T) (hl : g.e.length ≤ 100000) (hp1 : p.v.length ≤ 100000) (hp2 : p.e.length ≤ 100000) (hlT : T.length ≤ 1000) (hr : ∀ j, (Rt.getT T j).length ≤ 500) (hw : ∀ j, ∀ x ∈ Rt.getT T j, (Lit.int .i64 x).wf = true) :
    Calls Tryz.prog 101 #[v, u, x] w fun e w' => Below w.heap.size w w' ∧ ((¬ Rt.terr g p T = 0 ∧ e = .returned (.tuple #[.slice none 0 0, .int .i64 (Rt.terr g p T)])) ∨ (Rt.Turns g p T ∧ ∃ a, e = .returned (.tuple #[a, .int .i64 0]) ∧ Row w' w.heap.size a (genL g p T))) := by
  have HG := Lib.hid h
  have HP := Lib.hid h'
  obtain ⟨ve, rfl, h1⟩ := h
  obtain ⟨vv, vp, rfl, h2, h3⟩ := h'
  obtain ⟨Ae, ce, rfl⟩ := h1.form
  obtain ⟨Av, cv, rfl⟩ := ints_form h2
  obtain ⟨Ap, cp, rfl⟩ := ints_form h3
  obtain ⟨A, cap, rfl, hcap, hmx⟩ := hT.form
  obtain ⟨b1, b2, hm⟩ := two_boxes w (.int .i64 g.n) (.slice Ae g.e.length ce) (.slice Av p.v.length cv) (.slice Ap p.e.length cp) 24 27
  have HB1 := Lib.hid b1
  have HB2 := Lib.hid b2
  have HM := Lib.hid hm
  have HG1 := Lib.hid (HG.out.below hm)
  have HP1 := Lib.hid (HP.out.below hm)
  have HN := Lib.hid (walks_any _ _ _ g p T _ (HG.out.below hm) (HP.out.below hm) (hT.below hm) (by omega) (by omega) hp2 hlT hr hw)
  have c0 := b1.c0
  have c1 := b1.c1
  have d0 := b2.c0
  have d1 := b2.c1
  clear b1 b2 hm h1 h2 h3 hT HG HP hw hr hcap hmx
  go_enter Tryz.func101, Tryz.ntmps101
  go_wp2_with fail
  generalize (w.alloc (.cells #[.int .i64 g.n, .slice Ae g.e.length ce] 24)).alloc (.cells #[.slice Av p.v.length cv, .slice Ap p.e.length cp] 27) = w1 at *
  refine HN.out.mono ?_
  clear c0 c1 d0 d1 HN
  rintro e w2 ⟨hB2, ⟨hne, rfl⟩ | ⟨hTu, m, us, rfl, hTw⟩⟩
  · have HMW := Lib.hid (trans2 HM.out hB2)
    have HNE := Lib.hid hne
    have t1 : (Rt.terr g p T != 0) = true := by simpa using hne
    clear hne hB2
    go_wp2
    go_ret2
    exact ⟨HMW.out, .inl ⟨HNE.out, rfl⟩⟩
  have HTU := Lib.hid hTu
  have HPF := Lib.hid (pcs_facts hTu.right)
  have HX1 := Lib.hid (HB1.out.below hB2)
  have HX2 := Lib.hid (HB2.out.below hB2)
  have HG2 := Lib.hid (HG1.out.below hB2)
  have HMW := Lib.hid (trans2 HM.out hB2)
  have HTW := Lib.hid hTw.reads
  have HPI := Lib.hid (pieces_yes _ _ g p w2 HG2.out (HP1.out.below hB2) hl hp1 hp2 hTu.right)
  obtain ⟨Am, cm, rfl⟩ := hTw.shape
  have c0 := HX1.out.c0
  have c1 := HX1.out.c1
  have d0 := HX2.out.c0
  have d1 := HX2.out.c1
  have hwl : ((walksOf g p T).map cmp).length = (walksOf g p T).length := List.length_map _
  rw [hwl] at HTW ⊢
  clear hTu hTw hB2 HB1 HB2 HG1 HP1 hwl
  go_wp2_with fail
  clear c0 c1 d0 d1
  refine HPI.out.mono ?_
  intro e w3 hPO
  obtain ⟨A3, c3, rfl, hB3, hPL⟩ := hPO.list
  have HPL := Lib.hid hPL
  have HX13 := Lib.hid (HX1.out.below hB3)
  have c0 := HX13.out.c0
  have c1 := HX13.out.c1
  have HM3 := Lib.hid (trans2 HMW.out hB3)
  have hlW := walksOf_len g p T
  have HCW := Lib.hid (countWalks_any _ _ A3 c3 g (pcs g p) (walksOf g p T) w3 (HG2.out.below hB3) (by omega) hPL (Nat.le_trans HPF.out.len hp1) (fun j hj => Nat.le_trans (HPF.out.few j hj).1 hp1) HPF.out.av (fun j hj x hx => wf_in HTU.out.right ((HPF.out.reach j hj x hx x).1 hx).1)
    (HTW.out.below hB3) (by omega) (fun x hx => walk_keys HTU.out (by have := HTU.out.len; omega) hx) (fun x hx => HPF.out.covers _ (start_in HTU.out hx)))
  clear hPO hPL hB3 HPI HX1 HX2 HG2 HTW HMW
  go_wp2_with fail
  clear c0 c1
  refine HCW.out.mono ?_
  rintro e w4 ⟨uc, rfl, hRc, hB4⟩
  have HPL4 := Lib.hid (HPL.out.below hB4)
  have HRC := Lib.hid (Row.ints hRc)
  have HM4 := Lib.hid (trans2 HM3.out hB4)
  obtain ⟨Ac, cc, rfl⟩ := ints_form (Row.ints hRc)
  have hcl : ((pcs g p).map fun q => (((walksOf g p T).countP (beginsB g q) : Nat) : Int)).length = (pcs g p).length := List.length_map _
  rw [hcl] at HRC ⊢
  have HLN := Lib.hid (Nat.le_trans HPF.out.len hp1)
  clear hRc hB4 HCW HPL HM3 hcl
  go_wp2
  go_loopw [38, 13] (fun i o wr => ∃ k : Nat, k ≤ (pcs g p).length ∧ i = .int .i64 (k : Nat) ∧ Hid (Row wr w4.heap.size o ((genL g p T).take k)) ∧ Hid (Below w4.heap.size w4 wr)) (fun i _ _ => (pcs g p).length - (Go.RowKit.intOf i).toNat)
  case atStart => exact ⟨0, Nat.zero_le _, rfl, Lib.hid (by rw [List.take_zero]; exact Row.nil _ _), Lib.hid (Below.refl _ _)⟩
  case round =>
    obtain ⟨k, hk, rfl, hR, hB⟩ := hrel
    obtain ⟨wo, hwo⟩ : ∃ z, z = wr := ⟨_, rfl⟩
    subst hwo
    obtain ⟨Ao, co, hso⟩ := ints_form (Row.ints hR.out)
    have hne : ((genL g p T).take k).length = k := by rw [List.length_take, genL_len]; omega
    rw [hne] at hso
    subst hso
    have HNE := Lib.hid hne
    clear hne
    by_cases hlt : k < (pcs g p).length
    · obtain ⟨gb, A1, cv1, A2, ce1, rfl, hgb, hc1, hc2, _, _⟩ := (HPL4.out.below hB.out) k hlt
      obtain ⟨bx, hmx⟩ := one_box wo (.slice A1 (getP (pcs g p) k).v.length cv1) (.slice A2 (getP (pcs g p) k).e.length ce1) 27
      have z0 := bx.c0
      have z1 := bx.c1
      have HBX := Lib.hid (hB.out.trans (hmx.mono hB.out.size))
      obtain ⟨cb, coff, rfl, hcb, hcc⟩ := ints_at (HRC.out.below HBX.out) (show k < ((pcs g p).map fun q => (((walksOf g p T).countP (beginsB g q) : Nat) : Int)).length by rw [List.length_map]; exact hlt)
      have hcnt : getI ((pcs g p).map fun q => (((walksOf g p T).countP (beginsB g q) : Nat) : Int)) k = (cntW g (getP (pcs g p) k) (walksOf g p T) : Nat) := by
        rw [getI_of _ _ (by rw [List.length_map]; exact hlt), List.getElem_map, begins_cnt HTU.out, getP_of hlt]
      rw [hcnt] at hcc
      have hnn := gen_nn (PFacts.pce HPF.out hlt) HTU.out
      have hge := genL_get (g := g) (p := p) (T := T) hlt
      have hnv := Nat.le_trans (HPF.out.few k hlt).1 hp1
      have hnE := Nat.le_trans (HPF.out.few k hlt).2 hp2
      have hcn : cntW g (getP (pcs g p) k) (walksOf g p T) ≤ 1000000 := by
        have h1 := List.countP_le_length (p := startsB g (getP (pcs g p) k)) (l := walksOf g p T)
        have h2 := walksOf_len g p T
        unfold cntW
        omega
      unfold genI at hge
      have HTK := Lib.hid (take_succ_getI (genL g p T) k (by rw [genL_len]; exact hlt))
      have HRX := Lib.hid (Row.below hR.out hmx)
      have BX := Lib.hid bx
      clear hcnt hcb hgb bx hmx hR hB
      generalize (getP (pcs g p) k).v.length = nv at *
      generalize (getP (pcs g p) k).e.length = ne at *
      generalize cntW g (getP (pcs g p) k) (walksOf g p T) = cn at *
      obtain ⟨G, hG⟩ : ∃ G, getI (genL g p T) k = G := ⟨_, rfl⟩
      rw [hG] at hge HTK
      have hq : (2 - (nv : Int) + (ne : Int) - (cn : Int)).tdiv 2 = G := hge.symm
      have hG0 : 0 ≤ G := by rw [← hq, Int.tdiv_eq_ediv_of_nonneg hnn]; omega
      have hG1 : G ≤ 1000000 := by rw [← hq, Int.tdiv_eq_ediv_of_nonneg hnn]; omega
      have hk0 : (0 : Int) ≤ (k : Int) := by omega
      have hk1 : (k : Int) < ((pcs g p).length : Int) := by omega
      have hlen := HLN.out
      have HW1 := Lib.hid (w64f (2 - (nv : Int)) (by omega) (by omega))
      have HW2 := Lib.hid (w64f (2 - (nv : Int) + (ne : Int)) (by omega) (by omega))
      have HW3 := Lib.hid (w64f (2 - (nv : Int) + (ne : Int) - (cn : Int)) (by omega) (by omega))
      have HW4 := Lib.hid (w64f G (by omega) (by omega))
      have HQ := Lib.hid hq
      have HK0 := Lib.hid hk0
      have HK1 := Lib.hid hk1
      clear hG hge
      go_wp2
      clear hc1 hc2 z0 z1 hq hk0 hk1 hnn hG0 hG1
      generalize wo.alloc (.cells #[.slice A1 nv cv1, .slice A2 ne ce1] 27) = w6 at *
      have hcbl : cb < w6.heap.size := World.block_lt_of_cell? w6 _ hcc
      -- region ten
      refine wp_region_plan [is (.slice Ao k co), is (.pointer (some ⟨wo.heap.size, 0, none⟩)), is (.slice A1 nv cv1), is (.int .i64 (nv : Int)), is (.int .i64 (2 - (nv : Int))), is (.pointer (some ⟨wo.heap.size, 1, none⟩)), is (.slice A2 ne ce1), is (.int .i64 (ne : Int)), is (.int .i64 (2 - (nv : Int) + (ne : Int))), is (.slice (some ⟨cb, coff, none⟩) (pcs g p).length cc), is (.int .i64 (k : Int)), is (.pointer (some ⟨cb, coff + k, none⟩)), is (.int .i64 (cn : Int)), is (.int .i64 (2 - (nv : Int) + (ne : Int) - (cn : Int))), is (.int .i64 G), spInts [G]] (by kernel_rfl) (by kernel_rfl) ?_ ?_
      · skip
        refine StepsP.cons ?_ ?_
        · refine step_val (fun a wx hB O D => ?_)
          have e13 : a.tmps[13]? = some (.slice Ao k co) := O 13 (by rfl)
          clear O D
          exact ⟨rfl, by unfold execOp; simp only [ev e13]; rfl⟩
        refine StepsP.cons ?_ ?_
        · refine step_val (fun a wx hB O D => ?_)
          have e15 : a.tmps[15]? = some (.pointer (some ⟨wo.heap.size, 0, none⟩)) := O 15 (by rfl)
          clear O D
          exact ⟨rfl, by go_simp⟩
        refine StepsP.cons ?_ ?_
        · refine step_val (fun a wx hB O D => ?_)
          obtain ⟨_, e44, rfl⟩ := D 1 _ _ _ (by decide) rfl rfl rfl
          obtain ⟨c0, c1, _⟩ := BX.out.below hB
          clear O D
          exact ⟨rfl, by go_simp⟩
        refine StepsP.cons ?_ ?_
        · refine step_val (fun a wx hB O D => ?_)
          obtain ⟨_, e45, rfl⟩ := D 2 _ _ _ (by decide) rfl rfl rfl
          clear O D
          exact ⟨rfl, by go_simp⟩
        refine StepsP.cons ?_ ?_
        · refine step_val (fun a wx hB O D => ?_)
          obtain ⟨_, e46, rfl⟩ := D 3 _ _ _ (by decide) rfl rfl rfl
          have w64 := HW1.out
          clear O D
          exact ⟨rfl, by go_simp⟩
        refine StepsP.cons ?_ ?_
        · refine step_val (fun a wx hB O D => ?_)
          have e15 : a.tmps[15]? = some (.pointer (some ⟨wo.heap.size, 0, none⟩)) := O 15 (by rfl)
          clear O D
          exact ⟨rfl, by go_simp⟩
        refine StepsP.cons ?_ ?_
        · refine step_val (fun a wx hB O D => ?_)
          obtain ⟨_, e48, rfl⟩ := D 5 _ _ _ (by decide) rfl rfl rfl
          obtain ⟨c0, c1, _⟩ := BX.out.below hB
          clear O D
          exact ⟨rfl, by go_simp⟩
        refine StepsP.cons ?_ ?_
        · refine step_val (fun a wx hB O D => ?_)
          obtain ⟨_, e49, rfl⟩ := D 6 _ _ _ (by decide) rfl rfl rfl
          clear O D
          exact ⟨rfl, by go_simp⟩
        refine StepsP.cons ?_ ?_
        · refine step_val (fun a wx hB O D => ?_)
          obtain ⟨_, e47, rfl⟩ := D 4 _ _ _ (by decide) rfl rfl rfl
          obtain ⟨_, e50, rfl⟩ := D 7 _ _ _ (by decide) rfl rfl rfl
          have w64 := HW2.out
          clear O D
          exact ⟨rfl, by go_simp⟩
        refine StepsP.cons ?_ ?_
        · refine step_val (fun a wx hB O D => ?_)
          have e12 : a.tmps[12]? = some (.slice (some ⟨cb, coff, none⟩) (pcs g p).length cc) := O 12 (by rfl)
          clear O D
          exact ⟨rfl, by unfold execOp; simp only [ev e12]; rfl⟩
        refine StepsP.cons ?_ ?_
        · refine step_val (fun a wx hB O D => ?_)
          have e14 : a.tmps[14]? = some (.int .i64 (k : Int)) := O 14 (by rfl)
          clear O D
          exact ⟨rfl, by unfold execOp; simp only [ev e14]; rfl⟩
        refine StepsP.cons ?_ ?_
        · refine step_val (fun a wx hB O D => ?_)
          obtain ⟨_, e52, rfl⟩ := D 9 _ _ _ (by decide) rfl rfl rfl
          obtain ⟨_, e53, rfl⟩ := D 10 _ _ _ (by decide) rfl rfl rfl
          have hk0 := HK0.out
          have hk1 := HK1.out
          clear O D
          exact ⟨rfl, by go_simp⟩
        refine StepsP.cons ?_ ?_
        · refine step_val (fun a wx hB O D => ?_)
          obtain ⟨_, e54, rfl⟩ := D 11 _ _ _ (by decide) rfl rfl rfl
          have q := (hB.cell (p := ⟨cb, coff + k, none⟩) hcbl).trans hcc
          clear O D
          exact ⟨rfl, by go_simp⟩
        refine StepsP.cons ?_ ?_
        · refine step_val (fun a wx hB O D => ?_)
          obtain ⟨_, e51, rfl⟩ := D 8 _ _ _ (by decide) rfl rfl rfl
          obtain ⟨_, e55, rfl⟩ := D 12 _ _ _ (by decide) rfl rfl rfl
          have w64 := HW3.out
          clear O D
          exact ⟨rfl, by go_simp⟩
        refine StepsP.cons ?_ ?_
        · refine step_val (fun a wx hB O D => ?_)
          obtain ⟨_, e56, rfl⟩ := D 13 _ _ _ (by decide) rfl rfl rfl
          have w64 := HW4.out
          have hq := HQ.out
          clear O D
          exact ⟨rfl, by go_simp⟩
        refine StepsP.cons ?_ ?_
        · refine step_make rfl (fun a wx hB O D => ?_)
          obtain ⟨_, e57, rfl⟩ := D 14 _ _ _ (by decide) rfl rfl rfl
          exact ⟨rfl, .slice (some ⟨wx.heap.size, 0, none⟩) 1 1, wx.alloc (.cells #[.int .i64 G] 3), by go_simp, below_alloc _, Row.ints (row_lit1 wx G)⟩
        exact StepsP.nil
      · intro wz hZ
        refine EndP.is ?_
        refine EndP.is ?_
        refine EndP.is ?_
        refine EndP.is ?_
        refine EndP.is ?_
        refine EndP.is ?_
        refine EndP.is ?_
        refine EndP.is ?_
        refine EndP.is ?_
        refine EndP.is ?_
        refine EndP.is ?_
        refine EndP.is ?_
        refine EndP.is ?_
        refine EndP.is ?_
        refine EndP.is ?_
        refine EndP.sp rfl (fun v58 s58 => ?_)
        refine EndP.nil ?_
      -- behind ten
        have HRZ := Lib.hid (Row.below HRX.out hZ)
        have HBZ := Lib.hid (HBX.out.trans (hZ.mono HBX.out.size))
        have HSZ := Lib.hid HBZ.out.size
        have HIZ := Lib.hid (show Ints wz v58 [G] from s58)
        have HLE := Lib.hid (show ((genL g p T).take k).length + [G].length ≤ 4000000 by rw [HNE.out]; simp; omega)
        have hlen := HLN.out
        clear HRX HBX hZ s58
        change wpList _ _ _ [_, _] _ _
        simp only [Act.put, List.setIfInBounds_toArray, List.set_cons_zero, List.set_cons_succ]
        go_wp2_with (at_builtin; refine wpList_append_all rfl _ _ rfl rfl HRZ.out rfl HIZ.out HLE.out HSZ.out ?_)
        intro v7 w7 hR7 hB7
        have HR7 := Lib.hid (show Row w7 w4.heap.size v7 ((genL g p T).take (k + 1)) by rw [HTK.out]; exact hR7)
        have HB7 := Lib.hid (HBZ.out.trans hB7)
        clear hR7 hB7 HRZ HBZ
        go_wp2
        go_roundw
        case rel => exact ⟨k + 1, by omega, by go_num, HR7, HB7⟩
        case measure => simp [Go.RowKit.intOf]; omega
    · obtain rfl : k = (pcs g p).length := by omega
      have HZ := Lib.hid (trans2 HM4.out hB.out)
      have HRF := Lib.hid (show Row wo w.heap.size (.slice Ao (pcs g p).length co) (genL g p T) by
        have h1 := hR.out
        rw [List.take_of_length_le (by rw [genL_len]; exact Nat.le_refl _)] at h1
        exact h1.le HM4.out.size)
      clear hR hB
      go_wp2
      go_ret2
      exact ⟨HZ.out, .inr ⟨HTU.out, _, rfl, HRF.out⟩⟩
end Go.Proofs.YtmbpmepoaonleaaGreat.Fc

/-! The program's Sphere. -/
namespace Go.Proofs.YtmbpmepoaonleaaGreat.Fc
open Go.Proofs.YtmbpmepoaonleaaGreat Go.RowKit Go.Maps

set_option maxRecDepth 100000 in
set_option maxHeartbeats 1000000 in
theorem sph1_any (x : Int) (w : World) :
    Calls Tryz.prog 103 #[.int .i64 x] w fun e w' => e = .returned (.bool (x != 0)) ∧ w = w' := by
  by_cases h : x = 0
  · subst h
    go_enter Tryz.func103, Tryz.ntmps103
    go_wp2
    go_ret
    exact ⟨rfl, rfl⟩
  · have t1 : (x != 0) = true := by simpa using h
    rw [t1]
    clear h
    go_enter Tryz.func103, Tryz.ntmps103
    go_wp2
    go_ret
    exact ⟨rfl, rfl⟩

set_option maxRecDepth 100000 in
set_option maxHeartbeats 1000000 in
theorem indexF_any (v : Value) (l : List Int) (w : World) (h : Ints w v l) (hl : l.length ≤ 1000000) :
    Calls Tryz.prog 127 #[v, .func (.func 103) #[] #[]] w fun e w' => (∃ k : Int, -1 ≤ k ∧ k ≤ 1000000 ∧ e = .returned (.int .i64 k) ∧ decide (0 ≤ k) = !sphB l) ∧ w = w' := by
  have HI := Lib.hid h
  obtain ⟨A, c, rfl⟩ := ints_form h
  clear h
  go_enter Tryz.func127, Tryz.ntmps127
  go_wp2
  go_loopw [8] (fun i wr => ∃ j : Nat, j ≤ l.length ∧ i = .int .i64 j ∧ wr = w ∧ Hid (∀ i, i < j → getI l i = 0)) (fun i _ => l.length - (Go.RowKit.intOf i).toNat)
  case atStart => exact ⟨0, Nat.zero_le _, rfl, rfl, Lib.hid (fun i hi => absurd hi (Nat.not_lt_zero _))⟩
  case round =>
    obtain ⟨j, hj, rfl, rfl, hH⟩ := hrel
    by_cases hlt : j < l.length
    · obtain ⟨b, o, rfl, hb, hc⟩ := ints_at HI.out hlt
      have HX := Lib.hid (sph1_any (getI l j) wr)
      by_cases hx : getI l j = 0
      · have HN := Lib.hid (show ∀ i, i < j + 1 → getI l i = 0 from fun i hi => by
          rcases Nat.lt_or_eq_of_le (Nat.le_of_lt_succ hi) with h | rfl
          · exact hH.out i h
          · exact hx)
        rw [hx] at HX hc
        clear hx hH hb
        go_wp2_with fail
        refine HX.out.mono ?_
        rintro e w1 ⟨rfl, rfl⟩
        go_wp2
        go_roundw
        case rel => exact ⟨j + 1, by omega, by go_num, by first | rfl | trivial, HN⟩
        case measure => simp [Go.RowKit.intOf]; omega
      · have HK := Lib.hid (show decide ((0 : Int) ≤ (j : Int)) = !sphB l by
          have h1 : sphB l = false := by
            unfold sphB
            rw [Bool.eq_false_iff]
            intro ha
            rw [List.all_eq_true] at ha
            exact hx (by have := ha _ (Rt.getI_in _ _ hlt); simpa using this)
          rw [h1, decide_eq_true (by omega : (0 : Int) ≤ (j : Int))]
          rfl)
        have t1 : (getI l j != 0) = true := by simpa using hx
        rw [t1] at HX
        clear hx hH hb t1
        generalize getI l j = x at *
        go_wp2_with fail
        refine HX.out.mono ?_
        rintro e w1 ⟨rfl, rfl⟩
        clear HX
        go_wp2
        go_ret
        exact ⟨⟨(j : Int), by omega, by omega, rfl, HK.out⟩, rfl⟩
    · obtain rfl : j = l.length := by omega
      have HK := Lib.hid (show decide ((0 : Int) ≤ -1) = !sphB l by
        have h1 : sphB l = true := by
          unfold sphB
          rw [List.all_eq_true]
          intro x hx
          obtain ⟨i, hi, rfl⟩ := (mem_getI _ _).1 hx
          rw [hH.out i hi]
          rfl
        rw [h1]
        rfl)
      clear hH
      go_wp2
      go_ret
      exact ⟨⟨-1, by omega, by omega, rfl, HK.out⟩, rfl⟩

set_option maxRecDepth 100000 in
set_option maxHeartbeats 1000000 in
theorem containsF_any (v : Value) (l : List Int) (w : World) (h : Ints w v l) (hl : l.length ≤ 1000000) :
    Calls Tryz.prog 102 #[v, .func (.func 103) #[] #[]] w fun e w' => e = .returned (.bool (!sphB l)) ∧ w = w' := by
  have HX := Lib.hid (indexF_any v l w h hl)
  obtain ⟨A, c, rfl⟩ := ints_form h
  clear h
  generalize sphB l = sb at *
  go_enter Tryz.func102, Tryz.ntmps102
  go_wp2_with fail
  refine HX.out.mono ?_
  rintro e w1 ⟨⟨k, hk0, hk1, rfl, hk⟩, rfl⟩
  clear HX
  by_cases h0 : 0 ≤ k
  · rw [decide_eq_true h0] at hk
    have HK := Lib.hid hk
    clear hk
    go_wp2
    go_ret
    exact ⟨by rw [← HK.out]; rfl, rfl⟩
  · rw [decide_eq_false h0] at hk
    have t0 : decide (0 ≤ k) = false := decide_eq_false h0
    have HK := Lib.hid hk
    clear hk h0
    go_wp2
    go_ret
    exact ⟨by rw [← HK.out]; rfl, rfl⟩

theorem pcs_few {g : Gph} {p : Prt} (hp : perr g p = 0) : (pcs g p).length ≤ p.v.length := (pcs_facts hp).len

set_option maxRecDepth 100000 in
set_option maxHeartbeats 4000000 in
theorem sphere_any (v u x : Value) (g : Gph) (p : Prt) (T : List (List Int)) (w : World) (h : Gr w v g) (h' : Pt w u p) (hT : LL w x T) (hl : g.e.length ≤ 100000) (hp1 : p.v.length ≤ 100000) (hp2 : p.e.length ≤ 100000) (hlT : T.length ≤ 1000) (hr : ∀ j, (Rt.getT T j).length ≤ 500) (hw : ∀ j, ∀ x ∈ Rt.getT T j, (Lit.int .i64 x).wf = true) :
    Calls Tryz.prog 75 #[v, u, x] w fun e w' => e = .returned (.bool (decide (Rt.terr g p T = 0) && sphB (genL g p T))) ∧ Below w.heap.size w w' := by
  have HG := Lib.hid h
  have HP := Lib.hid h'
  obtain ⟨ve, rfl, h1⟩ := h
  obtain ⟨vv, vp, rfl, h2, h3⟩ := h'
  obtain ⟨Ae, ce, rfl⟩ := h1.form
  obtain ⟨Av, cv, rfl⟩ := ints_form h2
  obtain ⟨Ap, cp, rfl⟩ := ints_form h3
  obtain ⟨A, cap, rfl, hcap, hmx⟩ := hT.form
  obtain ⟨b1, b2, hm⟩ := two_boxes w (.int .i64 g.n) (.slice Ae g.e.length ce) (.slice Av p.v.length cv) (.slice Ap p.e.length cp) 24 27
  have HM := Lib.hid hm
  have HN := Lib.hid (genus_any _ _ _ g p T _ (HG.out.below hm) (HP.out.below hm) (hT.below hm) hl hp1 hp2 hlT hr hw)
  have c0 := b1.c0
  have c1 := b1.c1
  have d0 := b2.c0
  have d1 := b2.c1
  clear b1 b2 hm h1 h2 h3 hT HG HP hw hr hcap hmx
  go_enter Tryz.func75, Tryz.ntmps75
  go_wp2_with fail
  generalize (w.alloc (.cells #[.int .i64 g.n, .slice Ae g.e.length ce] 24)).alloc (.cells #[.slice Av p.v.length cv, .slice Ap p.e.length cp] 27) = w1 at *
  refine HN.out.mono ?_
  clear c0 c1 d0 d1 HN
  rintro e w2 ⟨hB2, ⟨hne, rfl⟩ | ⟨hTu, a, rfl, hR⟩⟩
  · have HMW := Lib.hid (trans2 HM.out hB2)
    have HNE := Lib.hid (show (decide (Rt.terr g p T = 0) && sphB (genL g p T)) = false by rw [decide_eq_false hne]; rfl)
    have t1 : (Rt.terr g p T == 0) = false := by simpa using hne
    clear hne hB2
    go_wp2
    go_ret
    exact ⟨by rw [HNE.out]; rfl, HMW.out⟩
  · have HMW := Lib.hid (trans2 HM.out hB2)
    have HTE := Lib.hid (show decide (Rt.terr g p T = 0) = true from decide_eq_true (Rt.terr_iff.2 hTu))
    have HC := Lib.hid (containsF_any a (genL g p T) w2 (Row.ints hR) (by rw [genL_len]; have := pcs_few hTu.right; omega))
    obtain ⟨Aa, ca, rfl⟩ := ints_form (Row.ints hR)
    obtain ⟨sb, hsb⟩ : ∃ sb, sphB (genL g p T) = sb := ⟨_, rfl⟩
    rw [hsb] at HC
    have HSB := Lib.hid hsb
    clear hB2 hTu hR hsb
    go_wp2_with fail
    refine HC.out.mono ?_
    rintro e w3 ⟨rfl, rfl⟩
    clear HC
    cases sb
    · go_wp2
      go_ret
      exact ⟨by rw [HTE.out, HSB.out]; rfl, HMW.out⟩
    · go_wp2
      go_ret
      exact ⟨by rw [HTE.out, HSB.out]; rfl, HMW.out⟩
end Go.Proofs.YtmbpmepoaonleaaGreat.Fc
