/-
  The law SetsPlays: its call answers yes, whatever is put in first, whatever the calls and the numbers.
-/
import Derived.Test.YtfofidbgjfmepaaStT
namespace Go.Proofs.Ytfofidbgjfmepaa
open Go.RowKit Go.Maps

set_option maxRecDepth 100000 in
set_option maxHeartbeats 8000000 in
theorem plays_law (vf : Value) (fl : List Int) (v : Value) (l : List Act1) (x y : Int) (w : World) (hf : Ints w vf fl) (hfw : ∀ z ∈ fl, (Lit.int .i64 z).wf = true) (h : Acts w v l) (hx : (Lit.int .i64 x).wf = true) (hy : (Lit.int .i64 y).wf = true) :
    Calls Try.prog 4 #[vf, v, .int .i64 x, .int .i64 y] w fun e w' => e = .returned (.bool true) ∧ Below w.heap.size w w' := by
  have HF := Lib.hid hf
  obtain ⟨Af, capf, rfl, hcapf, hmf, hcellf⟩ := hf
  have HV := Lib.hid h
  obtain ⟨A, cap, rfl, hcap, hm, hcell, hwf⟩ := h
  go_enter Try.func4, Try.ntmps4
  by_cases hlen : l.length ≤ 100
  case neg =>
    have hgt : (100 : Int) < (l.length : Int) := by omega
    go_wp2_with fail
    refine (awake_any w).mono ?_
    rintro e w1 ⟨rfl, hB1⟩
    go_wp2_with fail
    refine (awake_any w1).mono ?_
    rintro e w2 ⟨rfl, hB2⟩
    go_wp2
    go_ret
    exact ⟨rfl, trans2 hB1 hB2⟩
  have hle : (l.length : Int) ≤ 100 := by omega
  by_cases hlenf : fl.length ≤ 100
  case neg =>
    have hgt : (100 : Int) < (fl.length : Int) := by omega
    go_wp2_with fail
    refine (awake_any w).mono ?_
    rintro e w1 ⟨rfl, hB1⟩
    go_wp2_with fail
    refine (awake_any w1).mono ?_
    rintro e w2 ⟨rfl, hB2⟩
    go_wp2
    go_ret
    exact ⟨rfl, trans2 hB1 hB2⟩
  have hlef : (fl.length : Int) ≤ 100 := by omega
  go_wp2_with fail
  refine (awake_any w).mono ?_
  rintro e w1 ⟨rfl, hB1⟩
  go_wp2_with fail
  refine (new_any w1 _ fl (HF.out.below hB1) hfw (by omega)).mono ?_
  rintro e w2 ⟨sb, F2, rfl, hH2, hB2, hF2⟩
  have hP : ∃ F, Pl w F sb w2.heap.size (St.news fl) St.empty none 0 none 0 (w2.alloc (.cells #[.slice none 0 0, .slice none 0 0] 34)) := by
    refine ⟨F2, hH2.below (below_alloc _), heap_alloc_new w2 _, ⟨_, _, rfl, Ints.nil, Ints.nil, fun h => absurd h (by simp [St.empty]), fun h => absurd h (by simp [St.empty, natsI])⟩, St.ok_empty, fun hf => by have := hH2.lt _ hf; omega, (trans2 hB1 hB2).alloc (trans2 hB1 hB2).size _, fun k hk => Nat.le_trans hB1.size (hF2 k hk), (trans2 hB1 hB2).size⟩
  obtain ⟨F, hP⟩ := hP
  have HP := Lib.hid hP
  have hMB := hP.hM
  clear hP hH2 hB2 hF2 hB1
  generalize hmb : w2.heap.size = MB at *
  go_wp2
  generalize w2.alloc (.cells #[.slice none 0 0, .slice none 0 0] 34) = w3 at *
  clear hmb
  -- what is put in first
  go_loopw [11] (fun i wr => ∃ (k : Nat) (A1 : Option Addr) (c1 : Nat) (A2 : Option Addr) (c2 : Nat), k ≤ fl.length ∧ i = .int .i64 (k : Int) ∧ Hid (Pl w F sb MB (St.news fl) (St.news (fl.take k)) A1 c1 A2 c2 wr)) (fun i _ => fl.length - (intOf i).toNat)
  case atStart => exact ⟨0, _, _, _, _, Nat.zero_le _, rfl, HP⟩
  case round =>
    obtain ⟨k, A1, c1, A2, c2, hk, rfl, P⟩ := hrel
    by_cases hlt : k < fl.length
    · obtain ⟨b, off, rfl, hb, hc⟩ := hcellf (by omega)
      have hck := (P.out.below.cell (p := ⟨b, off + k, none⟩) hb).trans (hc k hlt)
      have W := hfw (getI fl k) ((mem_getI _ _).2 ⟨k, hlt, rfl⟩)
      have HN := Lib.hid (St.news_succ fl k hlt)
      have hln := St.len_news (fl.take k)
      rw [List.length_take] at hln
      obtain ⟨p0, p1, p2, p3⟩ := P.out.cells
      clear hcell hcellf hc hfw
      generalize St.news (fl.take k) = sM at *
      generalize getI fl k = z at *
      go_wp2
      go_still_tail 5, (by kernel_rfl)
      change wpList _ _ _ _ _ wr.drew
      have P' := Lib.hid P.out.drew
      clear p0 p1 p2 p3 hck P
      generalize wr.drew = wx at *
      go_wp2_with fail
      refine (radd_any wx _ _ sM z P'.out.ref P'.out.flt P'.out.ok (by omega)).mono ?_
      rintro e w4 ⟨m', rfl, hr, hB⟩
      obtain ⟨A3, c3, A4, c4, rfl, P2⟩ := P'.out.store hB hr (St.ok_add P'.out.ok W)
      obtain ⟨p0, p1, p2, p3⟩ := (P'.out.fresh hB).cells
      have HP2 := Lib.hid P2
      clear hr hB P2 P'
      go_wp2
      go_roundw
      case rel => exact ⟨k + 1, A3, c3, A4, c4, by omega, by go_num, by rw [HN.out]; exact HP2⟩
      case measure => simp [intOf]; omega
    · obtain rfl : k = fl.length := by omega
      have HT := Lib.hid (List.take_length (l := fl))
      rw [HT.out] at P
      clear HP hcellf HT
      have hln := St.len_news fl
      generalize St.news fl = s0 at *
      go_wp2
      obtain ⟨we, hwe⟩ : ∃ z, z = wr := ⟨_, rfl⟩
      subst hwe
      -- the calls
      go_loopw [12] (fun i wr => ∃ (k : Nat) (F : Nat → Prop) (A1 : Option Addr) (c1 : Nat) (A2 : Option Addr) (c2 : Nat), k ≤ l.length ∧ i = .int .i64 (k : Int) ∧ Hid (Pl w F sb MB (s0.played (l.take k)) (s0.played (l.take k)) A1 c1 A2 c2 wr)) (fun i _ => l.length - (intOf i).toNat)
      case atStart => exact ⟨0, _, _, _, _, _, Nat.zero_le _, rfl, P⟩
      case round =>
        obtain ⟨k, F, A1, c1, A2, c2, hk, rfl, P⟩ := hrel
        by_cases hlt : k < l.length
        · obtain ⟨b, off, rfl, hb, hc⟩ := hcell (by omega)
          obtain ⟨q0, q1, q2⟩ := hc k hlt
          have WX := (hwf k hlt).x
          have WY := (hwf k hlt).y
          have D0 := (hwf k hlt).d0
          have D1 := (hwf k hlt).d1
          have HN := Lib.hid (St.played_succ s0 l k hlt)
          have hlp := St.len_played (l.take k) s0
          rw [List.length_take] at hlp
          have ha0 := (P.out.below.cell (p := ⟨b, off + k * 3, none⟩) hb).trans q0
          clear hcell hc hwf hfw
          have hbM : ¬ b = MB := by omega
          have HACT := Lib.hid (show (s0.played (l.take k)).act (getA l k) = if (getA l k).d.tmod 3 = 0 then (s0.played (l.take k)).add (getA l k).x else (s0.played (l.take k)).join (getA l k).x (getA l k).y from rfl)
          generalize (s0.played (l.take k)).act (getA l k) = sN at *
          generalize s0.played (l.take k) = sM at *
          generalize (getA l k).d = d at *
          generalize (getA l k).x = gx at *
          generalize (getA l k).y = gy at *
          by_cases hd : d.tmod 3 = 0
          · -- a thing is put in
            have HA2 := HACT.out
            rw [if_pos hd] at HA2
            have HA3 := Lib.hid HA2
            have HD := Lib.hid hd
            have hd' : (d % 3 == 0) = true := beq_iff_eq.2 (by rw [← Int.tmod_eq_emod_of_nonneg D0]; exact hd)
            clear hd
            clear HA2 HACT
            obtain ⟨p0, p1, p2, p3⟩ := P.out.cells
            have a1 := (P.out.below.cell (p := ⟨b, off + k * 3 + 1, none⟩) hb).trans q1
            have P' := Lib.hid P.out.drew
            go_wp2
            go_still_tail 6, (by kernel_rfl)
            change wpList _ _ _ _ _ wr.drew
            clear p0 p1 p2 p3 a1 P ha0
            generalize wr.drew = wx at *
            have HFD := Lib.hid (rfind_any wx (.slice A1 sM.ts.length c1) (.slice A2 sM.ts.length c2) sM.ts gx (by obtain ⟨_, _, e, h1, _⟩ := P'.out.ref; cases e; exact h1) (by omega))
            by_cases mx : gx ∈ sM.ts
            · have hix := (St.find_in mx).1
              rw [hix] at HFD
              have hlt0 : ¬ ((sM.place gx : Int) < 0) := by omega
              have hno : decide (gx ∉ sM.ts) = false := by simpa using mx
              have HNO := Lib.hid hno
              clear hix hno
              have MX := Lib.hid mx
              clear mx
              go_wp2_with fail
              refine HFD.out.mono ?_
              rintro e w5 ⟨rfl, hB5⟩
              have P5 := Lib.hid (P'.out.fresh hB5)
              clear HFD hB5 P'
              obtain ⟨p0, p1, p2, p3⟩ := P5.out.cells
              have a1 := (P5.out.below.cell (p := ⟨b, off + k * 3 + 1, none⟩) hb).trans q1
              have P6 := Lib.hid P5.out.drew
              go_wp2
              go_still_tail 6, (by kernel_rfl)
              change wpList _ _ _ _ _ w5.drew
              clear p0 p1 p2 p3 a1 P5
              generalize w5.drew = wx at *
              go_wp2_with fail
              refine (radd_any wx _ _ sM gx P6.out.ref P6.out.flt P6.out.ok (by omega)).mono ?_
              rintro e w6 ⟨m', rfl, hr, hB6⟩
              obtain ⟨A3, c3, A4, c4, rfl, P7⟩ := P6.out.store hB6 hr (St.ok_add P6.out.ok WX)
              obtain ⟨p0, p1, p2, p3⟩ := (P6.out.fresh hB6).cells
              have a1 := ((P6.out.fresh hB6).below.cell (p := ⟨b, off + k * 3 + 1, none⟩) hb).trans q1
              have HP7 := Lib.hid P7
              clear hr hB6 P7 P6
              go_wp2_with fail
              generalize ((w6.setCell ⟨MB, 0, none⟩ (.slice A3 (sM.add gx).ts.length c3)).setCell ⟨MB, 1, none⟩ (.slice A4 (sM.add gx).ts.length c4)) = w7 at *
              refine (add_any w7 F sb sM gx HP7.out.hold WX (by omega)).mono ?_
              rintro e w8 ⟨rfl, hA8⟩
              obtain ⟨F8, P8⟩ := HP7.out.sets hA8
              have HP8 := Lib.hid P8
              clear hA8 P8 HP7 p0 p1 p2 p3 a1
              rw [HNO.out]
              go_wp2
              go_roundw
              case rel => exact ⟨k + 1, F8, A3, c3, A4, c4, by omega, by go_num, by rw [HN.out, HA3.out]; exact HP8⟩
              case measure => simp [intOf]; omega
            · have hix := St.find_out mx
              rw [hix] at HFD
              have hno : decide (gx ∉ sM.ts) = true := by simpa using mx
              have HNO := Lib.hid hno
              clear hix hno
              have MX := Lib.hid mx
              clear mx
              go_wp2_with fail
              refine HFD.out.mono ?_
              rintro e w5 ⟨rfl, hB5⟩
              have P5 := Lib.hid (P'.out.fresh hB5)
              clear HFD hB5 P'
              obtain ⟨p0, p1, p2, p3⟩ := P5.out.cells
              have a1 := (P5.out.below.cell (p := ⟨b, off + k * 3 + 1, none⟩) hb).trans q1
              have P6 := Lib.hid P5.out.drew
              go_wp2
              go_still_tail 6, (by kernel_rfl)
              change wpList _ _ _ _ _ w5.drew
              clear p0 p1 p2 p3 a1 P5
              generalize w5.drew = wx at *
              go_wp2_with fail
              refine (radd_any wx _ _ sM gx P6.out.ref P6.out.flt P6.out.ok (by omega)).mono ?_
              rintro e w6 ⟨m', rfl, hr, hB6⟩
              obtain ⟨A3, c3, A4, c4, rfl, P7⟩ := P6.out.store hB6 hr (St.ok_add P6.out.ok WX)
              obtain ⟨p0, p1, p2, p3⟩ := (P6.out.fresh hB6).cells
              have a1 := ((P6.out.fresh hB6).below.cell (p := ⟨b, off + k * 3 + 1, none⟩) hb).trans q1
              have HP7 := Lib.hid P7
              clear hr hB6 P7 P6
              go_wp2_with fail
              generalize ((w6.setCell ⟨MB, 0, none⟩ (.slice A3 (sM.add gx).ts.length c3)).setCell ⟨MB, 1, none⟩ (.slice A4 (sM.add gx).ts.length c4)) = w7 at *
              refine (add_any w7 F sb sM gx HP7.out.hold WX (by omega)).mono ?_
              rintro e w8 ⟨rfl, hA8⟩
              obtain ⟨F8, P8⟩ := HP7.out.sets hA8
              have HP8 := Lib.hid P8
              clear hA8 P8 HP7 p0 p1 p2 p3 a1
              rw [HNO.out]
              go_wp2
              go_roundw
              case rel => exact ⟨k + 1, F8, A3, c3, A4, c4, by omega, by go_num, by rw [HN.out, HA3.out]; exact HP8⟩
              case measure => simp [intOf]; omega
          · -- two are joined
            have HA2 := HACT.out
            rw [if_neg hd] at HA2
            have HA3 := Lib.hid HA2
            have OKJ := Lib.hid (St.ok_join (x := gx) (y := gy) P.out.ok WX WY)
            have HD := Lib.hid hd
            have hd' : (d % 3 == 0) = false := beq_eq_false_iff_ne.2 (by rw [← Int.tmod_eq_emod_of_nonneg D0]; exact hd)
            clear hd
            clear HA2 HACT
            obtain ⟨p0, p1, p2, p3⟩ := P.out.cells
            have a1 := (P.out.below.cell (p := ⟨b, off + k * 3 + 1, none⟩) hb).trans q1
            have a2 := (P.out.below.cell (p := ⟨b, off + k * 3 + 2, none⟩) hb).trans q2
            have hst : ∀ W : World, Below wr.heap.size wr W → (W.cell? ⟨MB, 0, none⟩ = some (.slice A1 sM.ts.length c1) ∧ W.cell? ⟨MB, 1, none⟩ = some (.slice A2 sM.ts.length c2) ∧ W.cell? ⟨b, off + k * 3 + 1, none⟩ = some (.int .i64 gx) ∧ W.cell? ⟨b, off + k * 3 + 2, none⟩ = some (.int .i64 gy) ∧ Hid (Below wr.heap.size wr W)) := by
              intro W hB
              exact ⟨(hB.cell (World.block_lt_of_cell? _ _ p0)).trans p0, (hB.cell (World.block_lt_of_cell? _ _ p1)).trans p1, (hB.cell (World.block_lt_of_cell? _ _ a1)).trans a1, (hB.cell (World.block_lt_of_cell? _ _ a2)).trans a2, hB⟩
            have HST := Lib.hid hst
            have HCL := Lib.hid (fun (W W' : World) (hS : W.cell? ⟨MB, 0, none⟩ = some (.slice A1 sM.ts.length c1) ∧ W.cell? ⟨MB, 1, none⟩ = some (.slice A2 sM.ts.length c2) ∧ W.cell? ⟨b, off + k * 3 + 1, none⟩ = some (.int .i64 gx) ∧ W.cell? ⟨b, off + k * 3 + 2, none⟩ = some (.int .i64 gy) ∧ Hid (Below wr.heap.size wr W)) (hB : Below W.heap.size W W') => hst W' (hS.2.2.2.2.out.trans (hB.mono hS.2.2.2.2.out.size)))
            have HAL := Lib.hid (fun (W : World) (o : Obj) (hS : W.cell? ⟨MB, 0, none⟩ = some (.slice A1 sM.ts.length c1) ∧ W.cell? ⟨MB, 1, none⟩ = some (.slice A2 sM.ts.length c2) ∧ W.cell? ⟨b, off + k * 3 + 1, none⟩ = some (.int .i64 gx) ∧ W.cell? ⟨b, off + k * 3 + 2, none⟩ = some (.int .i64 gy) ∧ Hid (Below wr.heap.size wr W)) => hst (W.alloc o) (hS.2.2.2.2.out.alloc hS.2.2.2.2.out.size o))
            have HSE := Lib.hid (fun (W : World) (p q : Addr) (u v : Value) (hS : W.cell? ⟨MB, 0, none⟩ = some (.slice A1 sM.ts.length c1) ∧ W.cell? ⟨MB, 1, none⟩ = some (.slice A2 sM.ts.length c2) ∧ W.cell? ⟨b, off + k * 3 + 1, none⟩ = some (.int .i64 gx) ∧ W.cell? ⟨b, off + k * 3 + 2, none⟩ = some (.int .i64 gy) ∧ Hid (Below wr.heap.size wr W)) (hp : wr.heap.size ≤ p.block) (hq : wr.heap.size ≤ q.block) => hst ((W.setCell p u).setCell q v) ((hS.2.2.2.2.out.setCell hp u).setCell hq v))
            have HJN := Lib.hid (fun (W : World) (hS : W.cell? ⟨MB, 0, none⟩ = some (.slice A1 sM.ts.length c1) ∧ W.cell? ⟨MB, 1, none⟩ = some (.slice A2 sM.ts.length c2) ∧ W.cell? ⟨b, off + k * 3 + 1, none⟩ = some (.int .i64 gx) ∧ W.cell? ⟨b, off + k * 3 + 2, none⟩ = some (.int .i64 gy) ∧ Hid (Below wr.heap.size wr W)) => rjoin_any W (fun k => (F k ∨ k = MB) ∨ (wr.heap.size ≤ k ∧ k < W.heap.size)) _ sM gx gy ((P.out.ref.more (G := fun k => (F k ∨ k = MB) ∨ (wr.heap.size ≤ k ∧ k < W.heap.size)) (fun q hq => hq.imp id And.left)).only (Only.of_below hS.2.2.2.2.out)) (fun q hq => hq.elim (fun h => (P.out.fresh hS.2.2.2.2.out).flt q h) And.right) P.out.ok WX WY (by omega))
            have hS0 := hst wr.drew (below_drewN' wr 1)
            have HP0 := Lib.hid P
            have n0 : (0 : Int) ≤ (k : Int) := by omega
            have n1 : (k : Int) < (l.length : Int) := by omega
            clear hst
            go_wp2
            clear p0 p1 p2 p3 a1 a2 ha0 P
            go_region_held3 (fun W => W.cell? ⟨MB, 0, none⟩ = some (.slice A1 sM.ts.length c1) ∧ W.cell? ⟨MB, 1, none⟩ = some (.slice A2 sM.ts.length c2) ∧ W.cell? ⟨b, off + k * 3 + 1, none⟩ = some (.int .i64 gx) ∧ W.cell? ⟨b, off + k * 3 + 2, none⟩ = some (.int .i64 gy) ∧ Hid (Below wr.heap.size wr W))
              (first | assumption | exact hS0 | exact HAL.out _ _ (by assumption) | exact HSE.out _ _ _ _ _ (by assumption) (Nat.le_refl _) (Nat.le_refl _))
              (first
                | (go_at_call 15; refine (HJN.out _ (by assumption)).mono ?_; rintro e w' ⟨m', rfl, hr, hB⟩; have hS' := HCL.out _ _ (by assumption) hB; obtain ⟨A3, c3, A4, c4, rfl, _⟩ := hr.open OKJ.out; have hcc := fun p hp => hB.cell (p := p) hp; have hff := fun p hp => hB.frozen (p := p) hp))
            · -- the call first, then the new variable
              have hBw : Below wr.heap.size wr (w'.alloc (.cells #[(.slice A3 (sM.join gx gy).ts.length c3), (.slice A4 (sM.join gx gy).ts.length c4)] 34)) := hS'.2.2.2.2.out.alloc hS'.2.2.2.2.out.size _
              have P3' := HP0.out.out.fresh hBw
              have hr3 := (hr.only (Only.of_below (below_alloc (.cells #[(.slice A3 (sM.join gx gy).ts.length c3), (.slice A4 (sM.join gx gy).ts.length c4)] 34)))).more (G := fun k => F k ∨ k = MB) (fun q hq => .inl (.inl hq))
              have z0 : (w'.alloc (.cells #[(.slice A3 (sM.join gx gy).ts.length c3), (.slice A4 (sM.join gx gy).ts.length c4)] 34)).cell? ⟨w'.heap.size, 0, none⟩ = some (.slice A3 (sM.join gx gy).ts.length c3) := by simp
              have z1 : (w'.alloc (.cells #[(.slice A3 (sM.join gx gy).ts.length c3), (.slice A4 (sM.join gx gy).ts.length c4)] 34)).cell? ⟨w'.heap.size, 1, none⟩ = some (.slice A4 (sM.join gx gy).ts.length c4) := by simp
              have hNM : ¬ w'.heap.size = MB := by have h1 := HP0.out.out.lt; have h2 := hS'.2.2.2.2.out.size; omega
              clear hr hB hcc hff HST HCL HAL HSE HJN hS0
              generalize w'.alloc (.cells #[(.slice A3 (sM.join gx gy).ts.length c3), (.slice A4 (sM.join gx gy).ts.length c4)] 34) = W3 at *
              generalize w'.heap.size = NB at *
              have HJB := Lib.hid (show (sM.joins gx gy != sM.joins gx gy) = false by simp)
              have hjb := HJB.out
              have P3 := Lib.hid P3'
              have P4 := Lib.hid (P3'.store' hr3 OKJ.out)
              obtain ⟨p0, p1, p2, p3⟩ := P3'.cells
              clear P3' hr3 hBw
              go_wp2
              generalize ((W3.setCell ⟨MB, 0, none⟩ (.slice A3 (sM.join gx gy).ts.length c3)).setCell ⟨MB, 1, none⟩ (.slice A4 (sM.join gx gy).ts.length c4)) = W4 at *
              have hs4 : ∀ W : World, Below w.heap.size w W → (W.cell? ⟨b, off + k * 3 + 1, none⟩ = some (.int .i64 gx) ∧ W.cell? ⟨b, off + k * 3 + 2, none⟩ = some (.int .i64 gy) ∧ Hid (Below w.heap.size w W)) := fun W hB => ⟨(hB.cell (p := ⟨b, off + k * 3 + 1, none⟩) hb).trans q1, (hB.cell (p := ⟨b, off + k * 3 + 2, none⟩) hb).trans q2, hB⟩
              have hS4 := hs4 W4.drew P4.out.drew.below
              have HS4 := Lib.hid hs4
              have HJ2 := Lib.hid (join_any W4.drew F sb sM gx gy P4.out.drew.hold WX WY (by omega))
              clear hs4 p0 p1 p2 p3 z0 z1 P3
              go_region_held3 (fun W => W.cell? ⟨b, off + k * 3 + 1, none⟩ = some (.int .i64 gx) ∧ W.cell? ⟨b, off + k * 3 + 2, none⟩ = some (.int .i64 gy) ∧ Hid (Below w.heap.size w W))
                (first | assumption | exact hS4)
                (first
                  | (go_at_call 11; refine HJ2.out.mono ?_; rintro e w8 ⟨rfl, hA8⟩; obtain ⟨F8, P8⟩ := P4.out.drew.sets hA8; have HP8 := Lib.hid P8; have hS5 := HS4.out w8 P8.below; clear P8 hA8))
              clear HJ2 HS4 hS4 P4
              go_wp2
              go_roundw
              case rel => exact ⟨k + 1, F8, A3, c3, A4, c4, by omega, by go_num, by rw [HN.out, HA3.out]; exact HP8⟩
              case measure => simp [intOf]; omega
            · -- the new variable first
              have hBw : Below wr.heap.size wr ((w'.setCell ⟨wr.heap.size, 0, none⟩ (.slice A3 (sM.join gx gy).ts.length c3)).setCell ⟨wr.heap.size, 1, none⟩ (.slice A4 (sM.join gx gy).ts.length c4)) := (hS'.2.2.2.2.out.setCell (p := ⟨wr.heap.size, 0, none⟩) (Nat.le_refl _) _).setCell (p := ⟨wr.heap.size, 1, none⟩) (Nat.le_refl _) _
              have P3' := HP0.out.out.fresh hBw
              have hOn : Only (fun q => (F q ∨ q = MB) ∨ (wr.heap.size ≤ q ∧ q < (wr.drew.alloc (.cells #[.slice none 0 0, .slice none 0 0] 34)).heap.size)) w' ((w'.setCell ⟨wr.heap.size, 0, none⟩ (.slice A3 (sM.join gx gy).ts.length c3)).setCell ⟨wr.heap.size, 1, none⟩ (.slice A4 (sM.join gx gy).ts.length c4)) :=
                (Only.setCell (F := fun q => (F q ∨ q = MB) ∨ (wr.heap.size ≤ q ∧ q < (wr.drew.alloc (.cells #[.slice none 0 0, .slice none 0 0] 34)).heap.size)) w' (a := ⟨wr.heap.size, 0, none⟩) (.inr ⟨Nat.le_refl _, by simp⟩) _).trans' (Only.setCell _ (a := ⟨wr.heap.size, 1, none⟩) (.inr ⟨Nat.le_refl _, by simp⟩) _)
              have hr3 := (RM.only hr hOn).more (G := fun k => F k ∨ k = MB) (fun q hq => .inl (.inl hq))
              have y0 : w'.cell? ⟨wr.heap.size, 0, none⟩ = some (.slice none 0 0) := (hcc ⟨wr.heap.size, 0, none⟩ (by simp)).trans (by simp)
              have y1 : w'.cell? ⟨wr.heap.size, 1, none⟩ = some (.slice none 0 0) := (hcc ⟨wr.heap.size, 1, none⟩ (by simp)).trans (by simp)
              have hA2 := After2.mk2 (w := wr) (u0 := (.slice A3 (sM.join gx gy).ts.length c3)) (u1 := (.slice A4 (sM.join gx gy).ts.length c4)) hS'.2.2.2.2.out y0 y1 (Nat.le_refl _)
              have z0 := hA2.c0
              have z1 := hA2.c1
              have hNM : ¬ wr.heap.size = MB := by have h1 := HP0.out.out.lt; omega
              clear hr hB hcc hff HST HCL HAL HSE HJN hS0 hOn y0 y1 hA2
              generalize ((w'.setCell ⟨wr.heap.size, 0, none⟩ (.slice A3 (sM.join gx gy).ts.length c3)).setCell ⟨wr.heap.size, 1, none⟩ (.slice A4 (sM.join gx gy).ts.length c4)) = W3 at *
              generalize wr.heap.size = NB at *
              have HJB := Lib.hid (show (sM.joins gx gy != sM.joins gx gy) = false by simp)
              have hjb := HJB.out
              have P3 := Lib.hid P3'
              have P4 := Lib.hid (P3'.store' hr3 OKJ.out)
              obtain ⟨p0, p1, p2, p3⟩ := P3'.cells
              clear P3' hr3 hBw
              go_wp2
              generalize ((W3.setCell ⟨MB, 0, none⟩ (.slice A3 (sM.join gx gy).ts.length c3)).setCell ⟨MB, 1, none⟩ (.slice A4 (sM.join gx gy).ts.length c4)) = W4 at *
              have hs4 : ∀ W : World, Below w.heap.size w W → (W.cell? ⟨b, off + k * 3 + 1, none⟩ = some (.int .i64 gx) ∧ W.cell? ⟨b, off + k * 3 + 2, none⟩ = some (.int .i64 gy) ∧ Hid (Below w.heap.size w W)) := fun W hB => ⟨(hB.cell (p := ⟨b, off + k * 3 + 1, none⟩) hb).trans q1, (hB.cell (p := ⟨b, off + k * 3 + 2, none⟩) hb).trans q2, hB⟩
              have hS4 := hs4 W4.drew P4.out.drew.below
              have HS4 := Lib.hid hs4
              have HJ2 := Lib.hid (join_any W4.drew F sb sM gx gy P4.out.drew.hold WX WY (by omega))
              clear hs4 p0 p1 p2 p3 z0 z1 P3
              go_region_held3 (fun W => W.cell? ⟨b, off + k * 3 + 1, none⟩ = some (.int .i64 gx) ∧ W.cell? ⟨b, off + k * 3 + 2, none⟩ = some (.int .i64 gy) ∧ Hid (Below w.heap.size w W))
                (first | assumption | exact hS4)
                (first
                  | (go_at_call 11; refine HJ2.out.mono ?_; rintro e w8 ⟨rfl, hA8⟩; obtain ⟨F8, P8⟩ := P4.out.drew.sets hA8; have HP8 := Lib.hid P8; have hS5 := HS4.out w8 P8.below; clear P8 hA8))
              clear HJ2 HS4 hS4 P4
              go_wp2
              go_roundw
              case rel => exact ⟨k + 1, F8, A3, c3, A4, c4, by omega, by go_num, by rw [HN.out, HA3.out]; exact HP8⟩
              case measure => simp [intOf]; omega
        · obtain rfl : k = l.length := by omega
          have HT := Lib.hid (List.take_length (l := l))
          rw [HT.out] at P
          have hlp := St.len_played l s0
          clear hcell hwf HV HT hfw HF
          generalize s0.played l = s at *
          obtain ⟨wg, hwg⟩ : ∃ z, z = wr := ⟨_, rfl⟩
          subst hwg
          have hsl : s.ts.length ≤ 300 := by omega
          have hstG : ∀ W : World, Pl w F sb MB s s A1 c1 A2 c2 W → (W.cell? ⟨MB, 0, none⟩ = some (.slice A1 s.ts.length c1) ∧ W.cell? ⟨MB, 1, none⟩ = some (.slice A2 s.ts.length c2) ∧ Hid (Pl w F sb MB s s A1 c1 A2 c2 W)) := fun W hP => ⟨hP.cells.1, hP.cells.2.1, hP⟩
          have HSTG := Lib.hid hstG
          have hS0 := hstG wg.drew P.out.drew
          have HPd := Lib.hid P.out.drew
          have HFR := Lib.hid (fun (W W' : World) (hS : W.cell? ⟨MB, 0, none⟩ = some (.slice A1 s.ts.length c1) ∧ W.cell? ⟨MB, 1, none⟩ = some (.slice A2 s.ts.length c2) ∧ Hid (Pl w F sb MB s s A1 c1 A2 c2 W)) (hB : Below W.heap.size W W') => hstG W' (hS.2.2.out.fresh hB))
          have HGP := Lib.hid (fun (W : World) (hS : W.cell? ⟨MB, 0, none⟩ = some (.slice A1 s.ts.length c1) ∧ W.cell? ⟨MB, 1, none⟩ = some (.slice A2 s.ts.length c2) ∧ Hid (Pl w F sb MB s s A1 c1 A2 c2 W)) => groups_any W F sb s hS.2.2.out.hold (by omega))
          have HGR := Lib.hid (fun (W : World) (hS : W.cell? ⟨MB, 0, none⟩ = some (.slice A1 s.ts.length c1) ∧ W.cell? ⟨MB, 1, none⟩ = some (.slice A2 s.ts.length c2) ∧ Hid (Pl w F sb MB s s A1 c1 A2 c2 W)) => rgroups_any W _ _ s hS.2.2.out.ref hS.2.2.out.flt hS.2.2.out.ok (by omega))
          clear hstG hlp hln
          go_wp2
          clear P
          go_region_held3 (fun W => W.cell? ⟨MB, 0, none⟩ = some (.slice A1 s.ts.length c1) ∧ W.cell? ⟨MB, 1, none⟩ = some (.slice A2 s.ts.length c2) ∧ Hid (Pl w F sb MB s s A1 c1 A2 c2 W))
            (first | assumption | exact hS0)
            (first
              | (go_at_call 16; refine (HGP.out _ (by assumption)).mono ?_; rintro e w' ⟨u, rfl, hL, hK⟩; have hS' := HSTG.out w' (HPd.out.keeps hK); obtain ⟨Ag, cg, rfl, _⟩ := id hL)
              | (go_at_call 17; refine (HGR.out _ (by assumption)).mono ?_; rintro e w'' ⟨u, rfl, hL2, hB2⟩; have hS2 := HFR.out _ _ (by assumption) hB2; obtain ⟨Ah, ch, rfl, _⟩ := id hL2))
          have HP := Lib.hid hS2.2.2.out
          have HLg := Lib.hid (hL.only (Only.of_below hB2))
          have HLh := Lib.hid (hL2.mono (F := F) (fun _ f => .inl f))
          obtain ⟨wh, hwh⟩ : ∃ z, z = w'' := ⟨_, rfl⟩
          subst hwh
          have p0 := hS2.1
          have p1 := hS2.2.1
          have hG := St.groups_count HP.out.ok
          have hgl : s.groups.length ≤ 300 := Nat.le_trans (Nat.le_trans (Nat.le_of_eq (St.groupsTo_length s s.ts.length)) (St.rank_le s _)) hsl
          have HGL3 := Lib.hid (fun i (hi : i < s.groups.length) => St.groups_len s i hi)
          have HC10 := Lib.hid (fun n => count_still' (w := wh.drewN n) (HP.out.hold.below (below_drewN' wh n)))
          have HC18 := Lib.hid (fun n => len_still (w := wh.drewN n) (HP.out.hold.below (below_drewN' wh n)))
          rw [hG] at HC10
          clear hS2 hS' hL hL2 hB2 HSTG HPd HFR HGP HGR hS0 hG hK
          go_wp2
          go_quiet (first
            | (go_at_call 10; exact Calls.quiet_of_same (HC10.out _))
            | (go_at_call 18; exact Calls.quiet_of_same (HC18.out _)))
          have P5 := Lib.hid (HP.out.fresh (below_drewN' wh nq))
          have L5g := Lib.hid (HLg.out.only (Only.of_below (below_drewN' wh nq)))
          have L5h := Lib.hid (HLh.out.only (Only.of_below (below_drewN' wh nq)))
          clear HP HLg HLh p0 p1 HC10 HC18
          generalize wh.drewN nq = wi at *
          go_wp2
          -- the groups
          go_loopw [18] (fun i wr => ∃ (k : Nat), k ≤ s.groups.length ∧ i = .int .i64 (k : Int) ∧ Hid (Pl w F sb MB s s A1 c1 A2 c2 wr) ∧ Hid (Lists wr F (.slice Ag s.groups.length cg) s.groups) ∧ Hid (Lists wr F (.slice Ah s.groups.length ch) s.groups)) (fun i _ => s.groups.length - (intOf i).toNat)
          case atStart => exact ⟨0, Nat.zero_le _, rfl, P5, L5g, L5h⟩
          case round =>
            obtain ⟨i, hi, rfl, P, Lg, Lh⟩ := hrel
            obtain ⟨wj, hwj⟩ : ∃ z, z = wr := ⟨_, rfl⟩
            subst hwj
            by_cases hil : i < s.groups.length
            · obtain ⟨gb, Ag', cg', rfl, hcg, _⟩ := Lg.out.at_ hil
              obtain ⟨hbk, Ah', ch', rfl, hch, _⟩ := Lh.out.at_ hil
              have hll : (getL s.groups i).length ≤ 300 := Nat.le_trans (HGL3.out i hil) hsl
              have HGA := Lib.hid (fun q hq => St.groups_at P.out.ok i q hil hq)
              clear P5 L5g L5h
              go_wp2
              go_quiet (fail)
              have P6 := Lib.hid (P.out.fresh (below_drewN' wj nq))
              have L6g := Lib.hid (Lg.out.only (Only.of_below (below_drewN' wj nq)))
              have L6h := Lib.hid (Lh.out.only (Only.of_below (below_drewN' wj nq)))
              clear P Lg Lh hcg hch
              generalize wj.drewN nq = wl at *
              go_wp2
              go_loopw [19] (fun q wr => ∃ (k : Nat), k ≤ (getL s.groups i).length ∧ q = .int .i64 (k : Int) ∧ Hid (Pl w F sb MB s s A1 c1 A2 c2 wr) ∧ Hid (Lists wr F (.slice (some ⟨gb, 0, none⟩) s.groups.length cg) s.groups) ∧ Hid (Lists wr F (.slice (some ⟨hbk, 0, none⟩) s.groups.length ch) s.groups)) (fun q _ => (getL s.groups i).length - (intOf q).toNat)
              case atStart => exact ⟨0, Nat.zero_le _, rfl, P6, L6g, L6h⟩
              case round =>
                obtain ⟨q, hq, rfl, P, Lg, Lh⟩ := hrel
                obtain ⟨wm, hwm⟩ : ∃ z, z = wr := ⟨_, rfl⟩
                subst hwm
                obtain ⟨gb2, Ag2, cg2, eg, hcg, hcg2⟩ := Lg.out.at_ hil
                cases eg
                by_cases hql : q < (getL s.groups i).length
                · obtain ⟨eb, eo, rfl, hce⟩ := hcg2 (by omega)
                  have hc1 := hce q hql
                  obtain ⟨hmem, hhead⟩ := HGA.out q hql
                  have HH := Lib.hid hhead
                  have hwfz := P.out.ok.wf _ hmem
                  have HHD := Lib.hid (head_any' wm F sb s (getI (getL s.groups i) q) P.out.hold hwfz)
                  have HMEM := Lib.hid hmem
                  clear hce hcg2 hmem hhead P6 L6g L6h HGA
                  go_wp2_with fail
                  refine HHD.out.mono ?_
                  rintro e w9 ⟨a, o, rfl, h1, _, _, hK⟩
                  obtain ⟨rfl, rfl⟩ := h1 HMEM.out
                  rw [HH.out]
                  have P9 := Lib.hid (P.out.keeps hK)
                  have L9g := Lib.hid (Lg.out.only hK.2)
                  have L9h := Lib.hid (Lh.out.only hK.2)
                  clear P Lg Lh h1 hK HHD hcg hc1 HH
                  obtain ⟨gb3, Ag3, cg3, eg3, k1, k2⟩ := L9g.out.at_ hil
                  cases eg3
                  obtain ⟨hb3, Ah3, ch3, eh3, k3, k4⟩ := L9h.out.at_ hil
                  cases eh3
                  obtain ⟨f1, f2, rfl, k5⟩ := k2 (by omega)
                  obtain ⟨f3, f4, rfl, k6⟩ := k4 (by omega)
                  have y1 := k5 q hql
                  have y2 := k6 q hql
                  have y3 := k6 0 (by omega)
                  rw [Nat.add_zero] at y3
                  have npos : (0 : Int) < ((getL s.groups i).length : Int) := by omega
                  clear k2 k4 k5 k6
                  generalize getI (getL s.groups i) 0 = z0 at *
                  generalize getI (getL s.groups i) q = zq at *
                  go_wp2
                  go_quiet (fail)
                  have P10 := Lib.hid (P9.out.fresh (below_drewN' w9 nq))
                  have L10g := Lib.hid (L9g.out.only (Only.of_below (below_drewN' w9 nq)))
                  have L10h := Lib.hid (L9h.out.only (Only.of_below (below_drewN' w9 nq)))
                  clear P9 L9g L9h k1 k3 y1 y2 y3
                  generalize w9.drewN nq = w10 at *
                  go_wp2
                  go_roundw
                  case rel => exact ⟨q + 1, by omega, by go_num, P10, L10g, L10h⟩
                  case measure => simp [intOf]; omega
                · obtain rfl : q = (getL s.groups i).length := by omega
                  clear hcg2 P6 L6g L6h HGA
                  go_wp2
                  go_roundw
                  case rel => exact ⟨i + 1, by omega, by go_num, P, Lg, Lh⟩
                  case measure => simp [intOf]; omega
            · obtain rfl : i = s.groups.length := by omega
              clear P5 L5g L5h Lg Lh
              have hstG : ∀ W : World, Pl w F sb MB s s A1 c1 A2 c2 W → (W.cell? ⟨MB, 0, none⟩ = some (.slice A1 s.ts.length c1) ∧ W.cell? ⟨MB, 1, none⟩ = some (.slice A2 s.ts.length c2) ∧ Hid (Pl w F sb MB s s A1 c1 A2 c2 W)) := fun W hP => ⟨hP.cells.1, hP.cells.2.1, hP⟩
              have hS0 := hstG wj.drew P.out.drew
              have HFR := Lib.hid (fun (W W' : World) (hS : W.cell? ⟨MB, 0, none⟩ = some (.slice A1 s.ts.length c1) ∧ W.cell? ⟨MB, 1, none⟩ = some (.slice A2 s.ts.length c2) ∧ Hid (Pl w F sb MB s s A1 c1 A2 c2 W)) (hB : Below W.heap.size W W') => hstG W' (hS.2.2.out.fresh hB))
              have HFD := Lib.hid (fun (W : World) (hS : W.cell? ⟨MB, 0, none⟩ = some (.slice A1 s.ts.length c1) ∧ W.cell? ⟨MB, 1, none⟩ = some (.slice A2 s.ts.length c2) ∧ Hid (Pl w F sb MB s s A1 c1 A2 c2 W)) (z : Int) => rfind_any W (.slice A1 s.ts.length c1) (.slice A2 s.ts.length c2) s.ts z (by obtain ⟨_, _, e, h1, _⟩ := hS.2.2.out.ref; cases e; exact h1) (by omega))
              clear hstG HGL3
              go_wp2
              clear P
              go_region_held3 (fun W => W.cell? ⟨MB, 0, none⟩ = some (.slice A1 s.ts.length c1) ∧ W.cell? ⟨MB, 1, none⟩ = some (.slice A2 s.ts.length c2) ∧ Hid (Pl w F sb MB s s A1 c1 A2 c2 W))
                (first | assumption | exact hS0)
                (first
                  | (go_at_call 14; refine (HFD.out _ (by assumption) _).mono ?_; rintro e w11 ⟨rfl, hB11⟩; have hS11 := HFR.out _ _ (by assumption) hB11))
              have P11 := Lib.hid hS11.2.2.out
              obtain ⟨wp, hwp⟩ : ∃ z, z = w11 := ⟨_, rfl⟩
              subst hwp
              clear hS11 HFR HFD hS0
              go_wp2_with fail
              refine (head_any' wp F sb s x P11.out.hold hx).mono ?_
              rintro e w12 ⟨ha, ho, rfl, h1, h2, _, hK12⟩
              have P12 := Lib.hid (P11.out.keeps hK12)
              have P13 := Lib.hid P12.out.drew
              have HSM := Lib.hid (same_any w12.drew F sb s x y P13.out.hold hx hy)
              clear P11 hK12
              by_cases mx : x ∈ s.ts
              · have fx := (St.find_in mx).1
                have qx := (St.find_in mx).2.1
                obtain ⟨rfl, rfl⟩ := h1 mx
                rw [fx]
                by_cases my : y ∈ s.ts
                · have fy := (St.find_in my).1
                  have qy := (St.find_in my).2.1
                  rw [fy]
                  have hsm : s.same x y = ((getN s.gr (s.place x) : Int) == (getN s.gr (s.place y) : Int)) := by
                    show s.same x y = decide ((getN s.gr (s.place x) : Int) = (getN s.gr (s.place y) : Int))
                    unfold St.same
                    refine decide_eq_decide.2 ⟨fun h => congrArg _ h.2.2, fun h => ⟨mx, my, Int.ofNat.inj h⟩⟩
                  rw [hsm] at HSM
                  obtain ⟨eb, eo, rfl, _⟩ := P13.out.grAt (by omega)
                  have nx0 : (0 : Int) ≤ (s.place x : Int) := by omega
                  have nx1 : ¬ ((s.place x : Int) < 0) := by omega
                  have ny0 : (0 : Int) ≤ (s.place y : Int) := by omega
                  have ny1 : ¬ ((s.place y : Int) < 0) := by omega
                  clear fx fy hsm h1 h2 mx my P12
                  generalize s.place x = px at *
                  generalize s.place y = py at *
                  go_wp2
                  refine wp_region_noPanic ?_
                  refine wp_region_any (by kernel_rfl) ?_
                  change wpAny _ _ _ _ _ _ _ w12.drew
                  refine wpAny_take (i := 0) (v := .pointer (some ⟨sb, 0, none⟩)) rfl (by kernel_rfl) (by kernel_rfl) (by kernel_rfl) (fun _ _ _ h => h.elim) (Or.inl ⟨by rfl, fun W => by go_simp⟩) ?_
                  refine wpAny_take (i := 1) (v := .int .i64 x) rfl (by kernel_rfl) (by kernel_rfl) (by kernel_rfl) (fun _ _ _ h => h.elim) (Or.inl ⟨by rfl, fun W => by go_simp⟩) ?_
                  refine wpAny_take (i := 2) (v := .int .i64 y) rfl (by kernel_rfl) (by kernel_rfl) (by kernel_rfl) (fun _ _ _ h => h.elim) (Or.inl ⟨by rfl, fun W => by go_simp⟩) ?_
                  refine wpAny_take (i := 4) (v := .int .i64 px) rfl (by kernel_rfl) (by kernel_rfl) (by kernel_rfl) (fun _ _ _ h => h.elim) (Or.inl ⟨by rfl, fun W => by go_simp⟩) ?_
                  refine wpAny_take (i := 5) (v := .bool true) rfl (by kernel_rfl) (by kernel_rfl) (by kernel_rfl) (fun _ _ _ h => h.elim) (Or.inl ⟨by rfl, fun W => by go_simp⟩) ?_
                  refine wpAny_ready (rs := [3]) (by kernel_rfl) (by simp) ?_
                  refine AllReady.cons rfl (fun K hK => ?_) AllReady.nil
                  go_simp
                  refine HSM.out.mono ?_
                  rintro e w14 ⟨rfl, hK14⟩
                  have P14 := Lib.hid (P13.out.keeps hK14)
                  clear hK14 HSM P13
                  have pM := P14.out.cells.2.1
                  obtain ⟨eb', eo', eA, hce⟩ := P14.out.grAt (by omega)
                  cases eA
                  have gx := hce px qx
                  have gy := hce py qy
                  clear hce
                  refine hK _ _ ?_
                  clear hK K
                  refine wpAny_rest 6 (by kernel_rfl) (by kernel_rfl) (by kernel_rfl) ?_
                  simp only [List.drop_succ_cons, List.drop_zero]
                  refine kn_start (((((((Knows.nil (n := 255) rfl rfl).also 10 (.pointer (some ⟨MB, 0, none⟩)) rfl).also 22 (.int .i64 px) rfl).also 23 (.int .i64 py) rfl).also 25 (.bool true) rfl).also 226 (.bool ((getN s.gr px : Int) == (getN s.gr py : Int))) rfl).also 228 (.bool true) rfl) (fun a K => ?_)
                  refine kn_yes K 229 (.bool true) rfl (by decide) rfl (kn_move K (.inl rfl) rfl) (fun a K => ?_)
                  refine kn_yes K 230 (.int .i64 py) rfl (by decide) (K.wanted rfl rfl rfl rfl) (kn_move K (.inl rfl) rfl) (fun a K => ?_)
                  refine kn_yes K 231 (.bool true) rfl (by decide) (K.wanted rfl rfl rfl rfl) (by have e230 := K.at_ (k := 230) rfl; clear K; go_simp) (fun a K => ?_)
                  refine kn_yes K 232 (.bool true) rfl (by decide) rfl (by have e229 := K.at_ (k := 229) rfl; have e231 := K.at_ (k := 231) rfl; clear K; go_simp) (fun a K => ?_)
                  refine kn_yes K 233 (.bool true) rfl (by decide) rfl (kn_move K (.inl rfl) rfl) (fun a K => ?_)
                  refine kn_yes K 234 (.pointer (some ⟨MB, 1, none⟩)) rfl (by decide) (K.wanted rfl rfl rfl rfl) (by have e10 := K.at_ (k := 10) rfl; clear K; go_simp) (fun a K => ?_)
                  refine kn_yes K 235 (.slice (some ⟨eb, eo, none⟩) s.ts.length c2) rfl (by decide) (K.wanted rfl rfl rfl rfl) (by have e234 := K.at_ (k := 234) rfl; clear K; go_simp) (fun a K => ?_)
                  refine kn_yes K 236 (.int .i64 px) rfl (by decide) (K.wanted rfl rfl rfl rfl) (kn_move K (.inl rfl) rfl) (fun a K => ?_)
                  refine kn_yes K 237 (.int .i64 px) rfl (by decide) (K.wanted rfl rfl rfl rfl) (by have e236 := K.at_ (k := 236) rfl; clear K; go_simp; intro h; omega) (fun a K => ?_)
                  refine kn_yes K 238 (.pointer (some ⟨eb, eo + px, none⟩)) rfl (by decide) (K.wanted rfl rfl rfl rfl) (by have e235 := K.at_ (k := 235) rfl; have e237 := K.at_ (k := 237) rfl; clear K; go_simp) (fun a K => ?_)
                  refine kn_yes K 239 (.int .i64 (getN s.gr px)) rfl (by decide) (K.wanted rfl rfl rfl rfl) (by have e238 := K.at_ (k := 238) rfl; clear K; go_simp) (fun a K => ?_)
                  refine kn_yes K 240 (.pointer (some ⟨MB, 1, none⟩)) rfl (by decide) (K.wanted rfl rfl rfl rfl) (by have e10 := K.at_ (k := 10) rfl; clear K; go_simp) (fun a K => ?_)
                  refine kn_yes K 241 (.slice (some ⟨eb, eo, none⟩) s.ts.length c2) rfl (by decide) (K.wanted rfl rfl rfl rfl) (by have e240 := K.at_ (k := 240) rfl; clear K; go_simp) (fun a K => ?_)
                  refine kn_yes K 242 (.int .i64 py) rfl (by decide) (K.wanted rfl rfl rfl rfl) (kn_move K (.inl rfl) rfl) (fun a K => ?_)
                  refine kn_yes K 243 (.int .i64 py) rfl (by decide) (K.wanted rfl rfl rfl rfl) (by have e242 := K.at_ (k := 242) rfl; clear K; go_simp; intro h; omega) (fun a K => ?_)
                  refine kn_yes K 244 (.pointer (some ⟨eb, eo + py, none⟩)) rfl (by decide) (K.wanted rfl rfl rfl rfl) (by have e241 := K.at_ (k := 241) rfl; have e243 := K.at_ (k := 243) rfl; clear K; go_simp) (fun a K => ?_)
                  refine kn_yes K 245 (.int .i64 (getN s.gr py)) rfl (by decide) (K.wanted rfl rfl rfl rfl) (by have e244 := K.at_ (k := 244) rfl; clear K; go_simp) (fun a K => ?_)
                  refine kn_yes K 246 (.bool ((getN s.gr px : Int) == (getN s.gr py : Int))) rfl (by decide) (K.wanted rfl rfl rfl rfl) (by have e239 := K.at_ (k := 239) rfl; have e245 := K.at_ (k := 245) rfl; clear K; go_simp) (fun a K => ?_)
                  refine kn_yes K 247 (.bool ((getN s.gr px : Int) == (getN s.gr py : Int))) rfl (by decide) rfl (by have e233 := K.at_ (k := 233) rfl; have e246 := K.at_ (k := 246) rfl; clear K; go_simp) (fun a K => ?_)
                  refine kn_yes K 248 (.bool true) rfl (by decide) rfl (by have e226 := K.at_ (k := 226) rfl; have e247 := K.at_ (k := 247) rfl; clear K; go_simp) (fun a K => ?_)
                  refine kn_yes K 249 (.bool true) rfl (by decide) rfl (kn_move K (.inl rfl) rfl) (fun a K => ?_)
                  refine kn_yes K 250 (.bool true) rfl (by decide) (K.wanted rfl rfl rfl rfl) (kn_move K (.inl rfl) rfl) (fun a K => ?_)
                  refine kn_yes K 251 (.int .i64 px) rfl (by decide) (K.wanted rfl rfl rfl rfl) (kn_move K (.inl rfl) rfl) (fun a K => ?_)
                  refine kn_yes K 252 (.bool true) rfl (by decide) (K.wanted rfl rfl rfl rfl) (by have e251 := K.at_ (k := 251) rfl; clear K; go_simp) (fun a K => ?_)
                  refine kn_yes K 253 (.bool true) rfl (by decide) (K.wanted rfl rfl rfl rfl) (by have e250 := K.at_ (k := 250) rfl; have e252 := K.at_ (k := 252) rfl; clear K; go_simp) (fun a K => ?_)
                  refine kn_yes K 254 (.bool true) rfl (by decide) rfl (by have e249 := K.at_ (k := 249) rfl; have e253 := K.at_ (k := 253) rfl; clear K; go_simp) (fun a K => ?_)
                  refine kn_yes K 8 (.bool true) rfl (by decide) rfl (kn_move K (.inr rfl) rfl) (fun a K => ?_)
                  refine wpStill_nil ?_
                  have e8 := K.at_ (k := 8) rfl
                  have ed := K.1
                  clear K
                  refine NoPanic.normal ?_
                  go_wp2
                  (try simp only [Exit.inBlock, Exit.then])
                  refine bodyPost_ret (v := .bool true) ?_ ed ?_
                  · exact (results_tmp rfl _ _ _).trans (by simp [e8])
                  exact ⟨rfl, P14.out.below⟩
                · have fy := St.find_out my
                  rw [fy]
                  have hsm : s.same x y = false := decide_eq_false (fun h => my h.2.1)
                  rw [hsm] at HSM
                  have nx0 : (0 : Int) ≤ (s.place x : Int) := by omega
                  have nx1 : ¬ ((s.place x : Int) < 0) := by omega
                  clear fx fy hsm h1 h2 mx my P12
                  generalize s.place x = px at *
                  go_wp2
                  refine wp_region_noPanic ?_
                  refine wp_region_any (by kernel_rfl) ?_
                  change wpAny _ _ _ _ _ _ _ w12.drew
                  refine wpAny_take (i := 0) (v := .pointer (some ⟨sb, 0, none⟩)) rfl (by kernel_rfl) (by kernel_rfl) (by kernel_rfl) (fun _ _ _ h => h.elim) (Or.inl ⟨by rfl, fun W => by go_simp⟩) ?_
                  refine wpAny_take (i := 1) (v := .int .i64 x) rfl (by kernel_rfl) (by kernel_rfl) (by kernel_rfl) (fun _ _ _ h => h.elim) (Or.inl ⟨by rfl, fun W => by go_simp⟩) ?_
                  refine wpAny_take (i := 2) (v := .int .i64 y) rfl (by kernel_rfl) (by kernel_rfl) (by kernel_rfl) (fun _ _ _ h => h.elim) (Or.inl ⟨by rfl, fun W => by go_simp⟩) ?_
                  refine wpAny_take (i := 4) (v := .int .i64 px) rfl (by kernel_rfl) (by kernel_rfl) (by kernel_rfl) (fun _ _ _ h => h.elim) (Or.inl ⟨by rfl, fun W => by go_simp⟩) ?_
                  refine wpAny_take (i := 5) (v := .bool true) rfl (by kernel_rfl) (by kernel_rfl) (by kernel_rfl) (fun _ _ _ h => h.elim) (Or.inl ⟨by rfl, fun W => by go_simp⟩) ?_
                  refine wpAny_ready (rs := [3]) (by kernel_rfl) (by simp) ?_
                  refine AllReady.cons rfl (fun K hK => ?_) AllReady.nil
                  go_simp
                  refine HSM.out.mono ?_
                  rintro e w14 ⟨rfl, hK14⟩
                  have P14 := Lib.hid (P13.out.keeps hK14)
                  clear hK14 HSM P13
                  refine hK _ _ ?_
                  clear hK K
                  refine wpAny_rest 6 (by kernel_rfl) (by kernel_rfl) (by kernel_rfl) ?_
                  simp only [List.drop_succ_cons, List.drop_zero]
                  refine kn_start (((((((Knows.nil (n := 255) rfl rfl).also 10 (.pointer (some ⟨MB, 0, none⟩)) rfl).also 22 (.int .i64 px) rfl).also 23 (.int .i64 (-1)) rfl).also 25 (.bool true) rfl).also 226 (.bool false) rfl).also 228 (.bool true) rfl) (fun a K => ?_)
                  refine kn_yes K 229 (.bool true) rfl (by decide) rfl (kn_move K (.inl rfl) rfl) (fun a K => ?_)
                  refine kn_yes K 230 (.int .i64 (-1)) rfl (by decide) (K.wanted rfl rfl rfl rfl) (kn_move K (.inl rfl) rfl) (fun a K => ?_)
                  refine kn_yes K 231 (.bool false) rfl (by decide) (K.wanted rfl rfl rfl rfl) (by have e230 := K.at_ (k := 230) rfl; clear K; go_simp) (fun a K => ?_)
                  refine kn_yes K 232 (.bool false) rfl (by decide) rfl (by have e229 := K.at_ (k := 229) rfl; have e231 := K.at_ (k := 231) rfl; clear K; go_simp) (fun a K => ?_)
                  refine kn_yes K 233 (.bool false) rfl (by decide) rfl (kn_move K (.inl rfl) rfl) (fun a K => ?_)
                  refine kn_no K 234 rfl (by decide) (K.wanted rfl rfl rfl rfl) (fun a K => ?_)
                  refine kn_no K 235 rfl (by decide) (K.wanted rfl rfl rfl rfl) (fun a K => ?_)
                  refine kn_no K 236 rfl (by decide) (K.wanted rfl rfl rfl rfl) (fun a K => ?_)
                  refine kn_no K 237 rfl (by decide) (K.wanted rfl rfl rfl rfl) (fun a K => ?_)
                  refine kn_no K 238 rfl (by decide) (K.wanted rfl rfl rfl rfl) (fun a K => ?_)
                  refine kn_no K 239 rfl (by decide) (K.wanted rfl rfl rfl rfl) (fun a K => ?_)
                  refine kn_no K 240 rfl (by decide) (K.wanted rfl rfl rfl rfl) (fun a K => ?_)
                  refine kn_no K 241 rfl (by decide) (K.wanted rfl rfl rfl rfl) (fun a K => ?_)
                  refine kn_no K 242 rfl (by decide) (K.wanted rfl rfl rfl rfl) (fun a K => ?_)
                  refine kn_no K 243 rfl (by decide) (K.wanted rfl rfl rfl rfl) (fun a K => ?_)
                  refine kn_no K 244 rfl (by decide) (K.wanted rfl rfl rfl rfl) (fun a K => ?_)
                  refine kn_no K 245 rfl (by decide) (K.wanted rfl rfl rfl rfl) (fun a K => ?_)
                  refine kn_no K 246 rfl (by decide) (K.wanted rfl rfl rfl rfl) (fun a K => ?_)
                  refine kn_yes K 247 (.bool false) rfl (by decide) rfl (by have e233 := K.at_ (k := 233) rfl; clear K; go_simp) (fun a K => ?_)
                  refine kn_yes K 248 (.bool true) rfl (by decide) rfl (by have e226 := K.at_ (k := 226) rfl; have e247 := K.at_ (k := 247) rfl; clear K; go_simp) (fun a K => ?_)
                  refine kn_yes K 249 (.bool true) rfl (by decide) rfl (kn_move K (.inl rfl) rfl) (fun a K => ?_)
                  refine kn_yes K 250 (.bool true) rfl (by decide) (K.wanted rfl rfl rfl rfl) (kn_move K (.inl rfl) rfl) (fun a K => ?_)
                  refine kn_yes K 251 (.int .i64 px) rfl (by decide) (K.wanted rfl rfl rfl rfl) (kn_move K (.inl rfl) rfl) (fun a K => ?_)
                  refine kn_yes K 252 (.bool true) rfl (by decide) (K.wanted rfl rfl rfl rfl) (by have e251 := K.at_ (k := 251) rfl; clear K; go_simp) (fun a K => ?_)
                  refine kn_yes K 253 (.bool true) rfl (by decide) (K.wanted rfl rfl rfl rfl) (by have e250 := K.at_ (k := 250) rfl; have e252 := K.at_ (k := 252) rfl; clear K; go_simp) (fun a K => ?_)
                  refine kn_yes K 254 (.bool true) rfl (by decide) rfl (by have e249 := K.at_ (k := 249) rfl; have e253 := K.at_ (k := 253) rfl; clear K; go_simp) (fun a K => ?_)
                  refine kn_yes K 8 (.bool true) rfl (by decide) rfl (kn_move K (.inr rfl) rfl) (fun a K => ?_)
                  refine wpStill_nil ?_
                  have e8 := K.at_ (k := 8) rfl
                  have ed := K.1
                  clear K
                  refine NoPanic.normal ?_
                  go_wp2
                  (try simp only [Exit.inBlock, Exit.then])
                  refine bodyPost_ret (v := .bool true) ?_ ed ?_
                  · exact (results_tmp rfl _ _ _).trans (by simp [e8])
                  exact ⟨rfl, P14.out.below⟩
              · have fx := St.find_out mx
                obtain rfl := h2 mx
                rw [fx]
                have hsm : s.same x y = false := decide_eq_false (fun h => mx h.1)
                rw [hsm] at HSM
                clear fx hsm h1 h2 mx P12
                generalize Lib.idxOf s.ts y = iy at *
                go_wp2
                refine wp_region_noPanic ?_
                refine wp_region_any (by kernel_rfl) ?_
                change wpAny _ _ _ _ _ _ _ w12.drew
                refine wpAny_take (i := 0) (v := .pointer (some ⟨sb, 0, none⟩)) rfl (by kernel_rfl) (by kernel_rfl) (by kernel_rfl) (fun _ _ _ h => h.elim) (Or.inl ⟨by rfl, fun W => by go_simp⟩) ?_
                refine wpAny_take (i := 1) (v := .int .i64 x) rfl (by kernel_rfl) (by kernel_rfl) (by kernel_rfl) (fun _ _ _ h => h.elim) (Or.inl ⟨by rfl, fun W => by go_simp⟩) ?_
                refine wpAny_take (i := 2) (v := .int .i64 y) rfl (by kernel_rfl) (by kernel_rfl) (by kernel_rfl) (fun _ _ _ h => h.elim) (Or.inl ⟨by rfl, fun W => by go_simp⟩) ?_
                refine wpAny_take (i := 4) (v := .int .i64 (-1)) rfl (by kernel_rfl) (by kernel_rfl) (by kernel_rfl) (fun _ _ _ h => h.elim) (Or.inl ⟨by rfl, fun W => by go_simp⟩) ?_
                refine wpAny_take (i := 5) (v := .bool false) rfl (by kernel_rfl) (by kernel_rfl) (by kernel_rfl) (fun _ _ _ h => h.elim) (Or.inl ⟨by rfl, fun W => by go_simp⟩) ?_
                refine wpAny_ready (rs := [3]) (by kernel_rfl) (by simp) ?_
                refine AllReady.cons rfl (fun K hK => ?_) AllReady.nil
                go_simp
                refine HSM.out.mono ?_
                rintro e w14 ⟨rfl, hK14⟩
                have P14 := Lib.hid (P13.out.keeps hK14)
                clear hK14 HSM P13
                refine hK _ _ ?_
                clear hK K
                refine wpAny_rest 6 (by kernel_rfl) (by kernel_rfl) (by kernel_rfl) ?_
                simp only [List.drop_succ_cons, List.drop_zero]
                refine kn_start (((((((Knows.nil (n := 255) rfl rfl).also 10 (.pointer (some ⟨MB, 0, none⟩)) rfl).also 22 (.int .i64 (-1)) rfl).also 23 (.int .i64 iy) rfl).also 25 (.bool false) rfl).also 226 (.bool false) rfl).also 228 (.bool false) rfl) (fun a K => ?_)
                refine kn_yes K 229 (.bool false) rfl (by decide) rfl (kn_move K (.inl rfl) rfl) (fun a K => ?_)
                refine kn_no K 230 rfl (by decide) (K.wanted rfl rfl rfl rfl) (fun a K => ?_)
                refine kn_no K 231 rfl (by decide) (K.wanted rfl rfl rfl rfl) (fun a K => ?_)
                refine kn_yes K 232 (.bool false) rfl (by decide) rfl (by have e229 := K.at_ (k := 229) rfl; clear K; go_simp) (fun a K => ?_)
                refine kn_yes K 233 (.bool false) rfl (by decide) rfl (kn_move K (.inl rfl) rfl) (fun a K => ?_)
                refine kn_no K 234 rfl (by decide) (K.wanted rfl rfl rfl rfl) (fun a K => ?_)
                refine kn_no K 235 rfl (by decide) (K.wanted rfl rfl rfl rfl) (fun a K => ?_)
                refine kn_no K 236 rfl (by decide) (K.wanted rfl rfl rfl rfl) (fun a K => ?_)
                refine kn_no K 237 rfl (by decide) (K.wanted rfl rfl rfl rfl) (fun a K => ?_)
                refine kn_no K 238 rfl (by decide) (K.wanted rfl rfl rfl rfl) (fun a K => ?_)
                refine kn_no K 239 rfl (by decide) (K.wanted rfl rfl rfl rfl) (fun a K => ?_)
                refine kn_no K 240 rfl (by decide) (K.wanted rfl rfl rfl rfl) (fun a K => ?_)
                refine kn_no K 241 rfl (by decide) (K.wanted rfl rfl rfl rfl) (fun a K => ?_)
                refine kn_no K 242 rfl (by decide) (K.wanted rfl rfl rfl rfl) (fun a K => ?_)
                refine kn_no K 243 rfl (by decide) (K.wanted rfl rfl rfl rfl) (fun a K => ?_)
                refine kn_no K 244 rfl (by decide) (K.wanted rfl rfl rfl rfl) (fun a K => ?_)
                refine kn_no K 245 rfl (by decide) (K.wanted rfl rfl rfl rfl) (fun a K => ?_)
                refine kn_no K 246 rfl (by decide) (K.wanted rfl rfl rfl rfl) (fun a K => ?_)
                refine kn_yes K 247 (.bool false) rfl (by decide) rfl (by have e233 := K.at_ (k := 233) rfl; clear K; go_simp) (fun a K => ?_)
                refine kn_yes K 248 (.bool true) rfl (by decide) rfl (by have e226 := K.at_ (k := 226) rfl; have e247 := K.at_ (k := 247) rfl; clear K; go_simp) (fun a K => ?_)
                refine kn_yes K 249 (.bool true) rfl (by decide) rfl (kn_move K (.inl rfl) rfl) (fun a K => ?_)
                refine kn_yes K 250 (.bool false) rfl (by decide) (K.wanted rfl rfl rfl rfl) (kn_move K (.inl rfl) rfl) (fun a K => ?_)
                refine kn_yes K 251 (.int .i64 (-1)) rfl (by decide) (K.wanted rfl rfl rfl rfl) (kn_move K (.inl rfl) rfl) (fun a K => ?_)
                refine kn_yes K 252 (.bool false) rfl (by decide) (K.wanted rfl rfl rfl rfl) (by have e251 := K.at_ (k := 251) rfl; clear K; go_simp) (fun a K => ?_)
                refine kn_yes K 253 (.bool true) rfl (by decide) (K.wanted rfl rfl rfl rfl) (by have e250 := K.at_ (k := 250) rfl; have e252 := K.at_ (k := 252) rfl; clear K; go_simp) (fun a K => ?_)
                refine kn_yes K 254 (.bool true) rfl (by decide) rfl (by have e249 := K.at_ (k := 249) rfl; have e253 := K.at_ (k := 253) rfl; clear K; go_simp) (fun a K => ?_)
                refine kn_yes K 8 (.bool true) rfl (by decide) rfl (kn_move K (.inr rfl) rfl) (fun a K => ?_)
                refine wpStill_nil ?_
                have e8 := K.at_ (k := 8) rfl
                have ed := K.1
                clear K
                refine NoPanic.normal ?_
                go_wp2
                (try simp only [Exit.inBlock, Exit.then])
                refine bodyPost_ret (v := .bool true) ?_ ed ?_
                · exact (results_tmp rfl _ _ _).trans (by simp [e8])
                exact ⟨rfl, P14.out.below⟩

end Go.Proofs.Ytfofidbgjfmepaa
