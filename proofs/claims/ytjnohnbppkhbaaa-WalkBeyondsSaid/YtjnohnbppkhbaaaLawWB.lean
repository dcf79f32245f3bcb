/-
  WalkBeyonds: what is beyond the darts of a vertex, all together, is its piece: the law's call answers true at every input.
-/
import Derived.Test.YtjnohnbppkhbaaaWkK
import Derived.Test.YtjnohnbppkhbaaaWkS
import Derived.Deep.RegionHeld3
namespace Go.Proofs.Ytjnohnbppkhbaaa
open Go.RowKit Go.Maps

theorem row_lit1 (w : World) (x : Int) : Row (w.alloc (.cells #[.int .i64 x] 3)) w.heap.size (.slice (some ⟨w.heap.size, 0, none⟩) 1 1) [x] := by
  refine ⟨rfl, .inr ⟨w.heap.size, 1, #[.int .i64 x], rfl, Nat.le_refl _, heap_alloc_new w _, Nat.le_refl _, by unfold maxLen; omega, rfl, rfl⟩⟩

/-- What Beyond's call answers, as a tuple. -/
noncomputable def spBey (base : Nat) (g : Gph) (p : Prt) (x d : Int) : Sp := ⟨fun w v => ∃ v1 v2, v = .tuple #[.agg #[v1, v2], .bool true] ∧ Row w base v1 (beyV g p x d) ∧ Row w base v2 (beyE g p x d), false, fun _ _ _ hb ⟨v1, v2, e, h1, h2⟩ => ⟨v1, v2, e, h1.below hb, h2.below hb⟩⟩

set_option maxRecDepth 100000 in
set_option maxHeartbeats 8000000 in
theorem walkBeyonds_any (v : Value) (g : Gph) (u : Value) (p : Prt) (x0 : Int) (w : World) (h : Gr w v g) (h' : Pt w u p) :
    Calls Try.prog 6 #[v, u, .int .i64 x0] w fun e w' => e = .returned (.bool true) ∧ Below w.heap.size w w' := by
  have HG := Lib.hid h
  have HP := Lib.hid h'
  obtain ⟨ve, rfl, h1⟩ := h
  obtain ⟨vv, vp, rfl, h2, h3⟩ := h'
  obtain ⟨Ae, ce, rfl⟩ := h1.form
  obtain ⟨Av, cv, rfl⟩ := ints_form h2
  obtain ⟨Ap, cp, rfl⟩ := ints_form h3
  obtain ⟨b1, b2, hm⟩ := two_boxes w (.int .i64 g.n) (.slice Ae g.e.length ce) (.slice Av p.v.length cv) (.slice Ap p.e.length cp) 24 27
  have HB1 := Lib.hid b1
  have HB2 := Lib.hid b2
  have HM := Lib.hid hm
  have HG1 := Lib.hid (HG.out.below hm)
  have HP1 := Lib.hid (HP.out.below hm)
  have HI2 := Lib.hid (h2.below hm)
  have HI3 := Lib.hid (h3.below hm)
  clear b1 b2 hm h1 h2 h3 HG HP
  go_enter Try.func6, Try.ntmps6
  go_wp2_with fail
  generalize (w.alloc (.cells #[.int .i64 g.n, .slice Ae g.e.length ce] 24)).alloc (.cells #[.slice Av p.v.length cv, .slice Ap p.e.length cp] 27) = w1 at *
  refine (wawake_any w1).mono ?_
  rintro e w2 ⟨rfl, hB2⟩
  have c0 := (HB1.out.below hB2).c0
  have c1 := (HB1.out.below hB2).c1
  have d0 := (HB2.out.below hB2).c0
  have d1 := (HB2.out.below hB2).c1
  have HBB2 := Lib.hid hB2
  clear hB2
  go_wp2_with fail
  refine (small_any _ _ g p w2 (HG1.out.below HBB2.out) (HP1.out.below HBB2.out)).mono ?_
  rintro e w3 ⟨rfl, hB3⟩
  have HB3 := Lib.hid (trans2 HBB2.out hB3)
  clear hB3 c0 c1 d0 d1 HBB2
  by_cases hs : smallB g p = true
  case neg =>
    have e : smallI g p = 0 := if_neg hs
    rw [e]
    clear e hs
    go_wp2_with fail
    refine (wawake_any w3).mono ?_
    rintro e w4 ⟨rfl, hB4⟩
    go_wp2
    go_ret
    exact ⟨rfl, trans2 HM.out (trans2 HB3.out hB4)⟩
  have e : smallI g p = 1 := if_pos hs
  obtain ⟨hl, hp1, hp2, _⟩ := (of_decide_eq_true hs : g.e.length ≤ 60 ∧ p.v.length ≤ 60 ∧ p.e.length ≤ 60 ∧ ¬ (60 < g.n ∧ g.n ≤ 1024))
  rw [e]
  have c0 := (HB1.out.below HB3.out).c0
  have c1 := (HB1.out.below HB3.out).c1
  have d0 := (HB2.out.below HB3.out).c0
  have d1 := (HB2.out.below HB3.out).c1
  clear e hs
  have HR := Lib.hid (rrightPart_any _ _ g p w3 (HG1.out.below HB3.out) (HP1.out.below HB3.out) (by omega) (by omega) (by omega))
  go_wp2_with fail
  refine HR.out.mono ?_
  rintro e w4 ⟨rfl, hB4⟩
  have HB4 := Lib.hid (trans2 HB3.out hB4)
  clear hB4 HR c0 c1 d0 d1 HB3
  by_cases hpp : perr g p = 0
  case neg =>
    generalize perr g p = np at *
    have h0 : (np != 0) = true := bne_iff_ne.2 hpp
    clear hpp
    go_wp2_with fail
    refine (wawake_any w4).mono ?_
    rintro e w5 ⟨rfl, hB5⟩
    go_wp2
    go_ret
    exact ⟨rfl, trans2 HM.out (trans2 HB4.out hB5)⟩
  rw [hpp]
  have HI := Lib.hid (in_any _ p.v x0 w4 (HI2.out.below HB4.out) (by omega))
  have d0 := (HB2.out.below HB4.out).c0
  by_cases hx0 : x0 ∈ p.v
  case neg =>
    rw [decide_eq_false hx0] at HI
    clear hx0
    go_wp2_with fail
    refine HI.out.mono ?_
    rintro e w' ⟨rfl, rfl⟩
    go_wp2_with fail
    refine (wawake_any w4).mono ?_
    rintro e w5 ⟨rfl, hB5⟩
    go_wp2
    go_ret
    exact ⟨rfl, trans2 HM.out (trans2 HB4.out hB5)⟩
  rw [decide_eq_true hx0] at HI
  have HPP := Lib.hid hpp
  have HX0 := Lib.hid hx0
  have HF := Lib.hid (pcs_facts hpp)
  have hKl := HF.out.len
  obtain ⟨j0, hj0, hj1⟩ := HF.out.covers x0 hx0
  have HJ0 := Lib.hid hj1
  have HAL := Lib.hid (all_piece hpp hx0 HF.out hj0 hj1)
  have hzw : w.heap.size + 2 ≤ w4.heap.size := by have := HB2.out.lt; have := HB4.out.size; omega
  clear hpp hx0 hj1
  go_wp2_with fail
  refine HI.out.mono ?_
  rintro e w' ⟨rfl, rfl⟩
  have hl1 := row_lit1 w4 x0
  have hba := below_alloc (w := w4) (.cells #[.int .i64 x0] 3)
  have hba2 := below_alloc (w := w4.alloc (.cells #[.int .i64 x0] 3)) (.cells #[.slice (some ⟨w4.heap.size, 0, none⟩) 1 1, .slice none 0 0] 27)
  have hz5 : (w4.alloc (.cells #[.int .i64 x0] 3)).heap.size = w4.heap.size + 1 := by simp
  have hpb : PBox ((w4.alloc (.cells #[.int .i64 x0] 3)).alloc (.cells #[.slice (some ⟨w4.heap.size, 0, none⟩) 1 1, .slice none 0 0] 27)) (w4.heap.size + 1) (.slice (some ⟨w4.heap.size, 0, none⟩) 1 1) (.slice none 0 0) := by
    have := heap_alloc_new (w4.alloc (.cells #[.int .i64 x0] 3)) (.cells #[.slice (some ⟨w4.heap.size, 0, none⟩) 1 1, .slice none 0 0] 27)
    rw [hz5] at this
    exact this
  have HB6 := Lib.hid (trans2 HB4.out (hba.trans (hba2.mono (by rw [hz5]; omega))))
  have HR6 := Lib.hid (hl1.below hba2)
  have HPB6 := Lib.hid hpb
  have HW46 := Lib.hid (hba.trans (hba2.mono (by rw [hz5]; omega)))
  have c0 := (HB1.out.below HB6.out).c0
  have c1 := (HB1.out.below HB6.out).c1
  have d0' := (HB2.out.below HB6.out).c0
  have d1' := (HB2.out.below HB6.out).c1
  have HDT := Lib.hid (rdarts_any _ _ g p x0 _ (HG1.out.below HB6.out) (HP1.out.below HB6.out) (by omega) (by omega) (perr_rises HPP.out).2.2.1)
  clear hl1 hba hba2 hz5 hpb HI d0
  go_wp2_with fail
  generalize (w4.alloc (.cells #[.int .i64 x0] 3)).alloc (.cells #[.slice (some ⟨w4.heap.size, 0, none⟩) 1 1, .slice none 0 0] 27) = w6 at *
  refine HDT.out.mono ?_
  rintro e w7 ⟨dv, rfl, hB7, hdr⟩
  have HDR := Lib.hid (hdr.le (show w4.heap.size ≤ w6.heap.size from HW46.out.size))
  have HPB7 := Lib.hid (HPB6.out.below hB7)
  have HR7 := Lib.hid (HR6.out.below hB7)
  have HW47 := Lib.hid (HW46.out.trans (hB7.mono HW46.out.size))
  have HDM := Lib.hid (show ∀ d ∈ dartsL g x0 p.e, BeyOk g p x0 d from fun d hd => (dart_ok HPP.out hd).1)
  have hml : (dartsL g x0 p.e).length ≤ 120 := by have := dartsL_len g x0 p.e; omega
  generalize dartsL g x0 p.e = ds at *
  obtain ⟨Ad, cd, rfl⟩ := ints_form hdr.ints
  clear hB7 hdr c0 c1 d0' d1' HDT HB6 HR6 HPB6 HW46
  go_wp2
  go_loopw [9] (fun kv wr => ∃ (k : Nat) (A1 : Option Addr) (k1 : Nat) (A2 : Option Addr) (k2 : Nat), k ≤ ds.length ∧ kv = .int .i64 k ∧ Hid (PBox wr (w4.heap.size + 1) (.slice A1 (allOf g p x0 (ds.take k)).v.length k1) (.slice A2 (allOf g p x0 (ds.take k)).e.length k2)) ∧
    Hid (Row wr w4.heap.size (.slice A1 (allOf g p x0 (ds.take k)).v.length k1) (allOf g p x0 (ds.take k)).v) ∧ Hid (Row wr w4.heap.size (.slice A2 (allOf g p x0 (ds.take k)).e.length k2) (allOf g p x0 (ds.take k)).e) ∧
    Hid (Row wr w4.heap.size (.slice Ad ds.length cd) ds) ∧ Hid (Below w4.heap.size w4 wr)) (fun kv _ => ds.length - (Go.RowKit.intOf kv).toNat)
  case atStart => exact ⟨0, _, _, _, _, Nat.zero_le _, rfl, HPB7, HR7, Lib.hid (Row.nil _ _), HDR, HW47⟩
  case round =>
    obtain ⟨k, A1, k1, A2, k2, hk, rfl, hPB, hRV, hRE, hRD, hB⟩ := hrel
    obtain ⟨wq, hwq⟩ : ∃ z, z = wr := ⟨_, rfl⟩
    subst hwq
    have HPq := Lib.hid hPB.out
    have HVq := Lib.hid hRV.out
    have HEq := Lib.hid hRE.out
    have HDq := Lib.hid hRD.out
    have HWq := Lib.hid hB.out
    have HBq := Lib.hid (trans2 HB4.out hB.out)
    clear hPB hRV hRE hRD hB
    by_cases hlt : k < ds.length
    · obtain ⟨db, do_, rfl, hdb, hdc⟩ := ints_at HDq.out.ints hlt
      have hmem : getI ds k ∈ ds := (mem_getI _ _).2 ⟨k, hlt, rfl⟩
      have hok := HDM.out _ hmem
      have HS := Lib.hid (allOf_succ g p x0 ds k hlt)
      have hfew := allOf_few HPP.out HX0.out (ds.take k)
      have hfew2 := bey_few g p x0 (getI ds k)
      generalize getI ds k = dd at *
      have hst : ∀ W : World, Below wq.heap.size wq W → (W.cell? ⟨w.heap.size, 0, none⟩ = some (.int .i64 g.n) ∧ W.cell? ⟨w.heap.size, 1, none⟩ = some (.slice Ae g.e.length ce) ∧ W.cell? ⟨w.heap.size + 1, 0, none⟩ = some (.slice Av p.v.length cv) ∧ W.cell? ⟨w.heap.size + 1, 1, none⟩ = some (.slice Ap p.e.length cp) ∧ W.cell? ⟨db, do_ + k, none⟩ = some (.int .i64 dd) ∧ Hid (Below wq.heap.size wq W)) := fun W hB =>
        ⟨(HB1.out.below (HBq.out.trans (hB.mono HBq.out.size))).c0, (HB1.out.below (HBq.out.trans (hB.mono HBq.out.size))).c1, (HB2.out.below (HBq.out.trans (hB.mono HBq.out.size))).c0, (HB2.out.below (HBq.out.trans (hB.mono HBq.out.size))).c1, (hB.cell (p := ⟨db, do_ + k, none⟩) hdb).trans hdc, Lib.hid hB⟩
      have HST := Lib.hid hst
      have HBY := Lib.hid (fun (W : World) (hS : W.cell? ⟨w.heap.size, 0, none⟩ = some (.int .i64 g.n) ∧ W.cell? ⟨w.heap.size, 1, none⟩ = some (.slice Ae g.e.length ce) ∧ W.cell? ⟨w.heap.size + 1, 0, none⟩ = some (.slice Av p.v.length cv) ∧ W.cell? ⟨w.heap.size + 1, 1, none⟩ = some (.slice Ap p.e.length cp) ∧ W.cell? ⟨db, do_ + k, none⟩ = some (.int .i64 dd) ∧ Hid (Below wq.heap.size wq W)) =>
        (beyond_any _ _ g p x0 dd W (HG1.out.below (HBq.out.trans (hS.2.2.2.2.2.out.mono HBq.out.size))) (HP1.out.below (HBq.out.trans (hS.2.2.2.2.2.out.mono HBq.out.size))) (by omega) (by omega) (by omega)).mono fun e w' h => h.yes hok)
      have HCL := Lib.hid (fun (W W' : World) (hS : W.cell? ⟨w.heap.size, 0, none⟩ = some (.int .i64 g.n) ∧ W.cell? ⟨w.heap.size, 1, none⟩ = some (.slice Ae g.e.length ce) ∧ W.cell? ⟨w.heap.size + 1, 0, none⟩ = some (.slice Av p.v.length cv) ∧ W.cell? ⟨w.heap.size + 1, 1, none⟩ = some (.slice Ap p.e.length cp) ∧ W.cell? ⟨db, do_ + k, none⟩ = some (.int .i64 dd) ∧ Hid (Below wq.heap.size wq W)) (hB : Below W.heap.size W W') => hst W' (hS.2.2.2.2.2.out.trans (hB.mono hS.2.2.2.2.2.out.size)))
      have HAL := Lib.hid (fun (W : World) (o : Obj) (hS : W.cell? ⟨w.heap.size, 0, none⟩ = some (.int .i64 g.n) ∧ W.cell? ⟨w.heap.size, 1, none⟩ = some (.slice Ae g.e.length ce) ∧ W.cell? ⟨w.heap.size + 1, 0, none⟩ = some (.slice Av p.v.length cv) ∧ W.cell? ⟨w.heap.size + 1, 1, none⟩ = some (.slice Ap p.e.length cp) ∧ W.cell? ⟨db, do_ + k, none⟩ = some (.int .i64 dd) ∧ Hid (Below wq.heap.size wq W)) => hst (W.alloc o) (hS.2.2.2.2.2.out.alloc hS.2.2.2.2.2.out.size o))
      have HSE := Lib.hid (fun (W : World) (a1 a2 : Addr) (y1 y2 : Value) (hS : W.cell? ⟨w.heap.size, 0, none⟩ = some (.int .i64 g.n) ∧ W.cell? ⟨w.heap.size, 1, none⟩ = some (.slice Ae g.e.length ce) ∧ W.cell? ⟨w.heap.size + 1, 0, none⟩ = some (.slice Av p.v.length cv) ∧ W.cell? ⟨w.heap.size + 1, 1, none⟩ = some (.slice Ap p.e.length cp) ∧ W.cell? ⟨db, do_ + k, none⟩ = some (.int .i64 dd) ∧ Hid (Below wq.heap.size wq W)) (h1 : wq.heap.size ≤ a1.block) (h2 : wq.heap.size ≤ a2.block) => hst ((W.setCell a1 y1).setCell a2 y2) ((hS.2.2.2.2.2.out.setCell h1 y1).setCell h2 y2))
      have hS0 := hst wq.drew (below_drewN' wq 1)
      generalize hq : allOf g p x0 (ds.take k) = q at *
      clear hmem hok hst hdc
      go_wp2_with fail
      go_region_held3 (fun W => W.cell? ⟨w.heap.size, 0, none⟩ = some (.int .i64 g.n) ∧ W.cell? ⟨w.heap.size, 1, none⟩ = some (.slice Ae g.e.length ce) ∧ W.cell? ⟨w.heap.size + 1, 0, none⟩ = some (.slice Av p.v.length cv) ∧ W.cell? ⟨w.heap.size + 1, 1, none⟩ = some (.slice Ap p.e.length cp) ∧ W.cell? ⟨db, do_ + k, none⟩ = some (.int .i64 dd) ∧ Hid (Below wq.heap.size wq W))
        (first | assumption | exact hS0 | exact HAL.out _ _ (by assumption) | exact HSE.out _ _ _ _ _ (by assumption) (Nat.le_refl _) (Nat.le_refl _))
        (first
          | (go_at_call 20; refine (HBY.out _ (by assumption)).mono ?_; rintro e w' ⟨y1, y2, rfl, h1, h2, hB⟩; have hS' := HCL.out _ _ (by assumption) hB; obtain ⟨B1, m1, rfl⟩ := ints_form h1.ints; obtain ⟨B2, m2, rfl⟩ := ints_form h2.ints; have hcc := fun p hp => hB.cell (p := p) hp; have hff := fun p hp => hB.frozen (p := p) hp))
      · have hBw := hS'.2.2.2.2.2.out
        have hba := below_alloc (w := w') (.cells #[.slice B1 (beyV g p x0 dd).length m1, .slice B2 (beyE g p x0 dd).length m2] 27)
        have hBa := hBw.trans (hba.mono hBw.size)
        have HPA := Lib.hid (HPq.out.below hBa)
        have HPX := Lib.hid (show PBox (w'.alloc (.cells #[.slice B1 (beyV g p x0 dd).length m1, .slice B2 (beyE g p x0 dd).length m2] 27)) w'.heap.size (.slice B1 (beyV g p x0 dd).length m1) (.slice B2 (beyE g p x0 dd).length m2) from heap_alloc_new w' _)
        have HV9 := Lib.hid (HVq.out.below hBa)
        have HE9 := Lib.hid (HEq.out.below hBa)
        have HD9 := Lib.hid (HDq.out.below hBa)
        have H1 := Lib.hid (h1.ints.below hba)
        have H2 := Lib.hid (h2.ints.below hba)
        have HW9 := Lib.hid (HWq.out.trans (hBa.mono HWq.out.size))
        have hne : w'.heap.size ≠ w4.heap.size + 1 := by have := HPq.out.lt; have := hBw.size; omega
        clear hS' hB h1 h2 hcc hff hBw hba hBa HPq HVq HEq HDq HWq HBq HST HBY HCL HAL HSE hS0
        generalize w'.alloc (.cells #[.slice B1 (beyV g p x0 dd).length m1, .slice B2 (beyE g p x0 dd).length m2] 27) = wu at *
        generalize w'.heap.size = g10 at *
        have HB9 := Lib.hid (trans2 HB4.out HW9.out)
        have XA := Lib.hid HPA.out.box
        have XB := Lib.hid HPX.out.box
        have HOV := Lib.hid (fun W (hb : Below wu.heap.size wu W) => ror_any _ _ q.v (beyV g p x0 dd) W (HV9.out.ints.below hb) (H1.out.below hb) (by omega) (by omega))
        have HOE := Lib.hid (fun W (hb : Below wu.heap.size wu W) => ror_any _ _ q.e (beyE g p x0 dd) W (HE9.out.ints.below hb) (H2.out.below hb) (by omega) (by omega))
        go_wp2_with fail
        -- region 11
        refine wp_region_plan [is (.pointer (some ⟨w4.heap.size + 1, 0, none⟩)), is (.slice A1 q.v.length k1), is (.pointer (some ⟨g10, 0, none⟩)), is (.slice B1 (beyV g p x0 dd).length m1), spRow wu.heap.size (mrg 1 q.v (beyV g p x0 dd)), is (.pointer (some ⟨w4.heap.size + 1, 1, none⟩)), is (.slice A2 q.e.length k2), is (.pointer (some ⟨g10, 1, none⟩)), is (.slice B2 (beyE g p x0 dd).length m2), spRow wu.heap.size (mrg 1 q.e (beyE g p x0 dd)), spPair wu.heap.size ⟨mrg 1 q.v (beyV g p x0 dd), mrg 1 q.e (beyE g p x0 dd)⟩] (by kernel_rfl) (by kernel_rfl) ?_ ?_
        · skip
          refine StepsP.cons ?_ ?_
          · refine step_val (fun a wx hB O D => ?_)
            have e7 : a.tmps[7]? = some (.pointer (some ⟨w4.heap.size + 1, 0, none⟩)) := O 7 (by rfl)
            clear O D
            exact ⟨rfl, by go_simp⟩
          refine StepsP.cons ?_ ?_
          · refine step_val (fun a wx hB O D => ?_)
            obtain ⟨_, e63, rfl⟩ := D 0 _ _ _ (by decide) rfl rfl rfl
            obtain ⟨c0, c1, _⟩ := XA.out.below hB
            clear O D
            exact ⟨rfl, by go_simp⟩
          refine StepsP.cons ?_ ?_
          · refine step_val (fun a wx hB O D => ?_)
            have e10 : a.tmps[10]? = some (.pointer (some ⟨g10, 0, none⟩)) := O 10 (by rfl)
            clear O D
            exact ⟨rfl, by go_simp⟩
          refine StepsP.cons ?_ ?_
          · refine step_val (fun a wx hB O D => ?_)
            obtain ⟨_, e65, rfl⟩ := D 2 _ _ _ (by decide) rfl rfl rfl
            obtain ⟨c0, c1, _⟩ := XB.out.below hB
            clear O D
            exact ⟨rfl, by go_simp⟩
          refine StepsP.cons ?_ ?_
          · refine step_call (enters_of Try.func21 (by kernel_rfl) rfl) rfl rfl (fun a wx hB O D => ?_)
            obtain ⟨_, e64, rfl⟩ := D 1 _ _ _ (by decide) rfl rfl rfl
            obtain ⟨_, e66, rfl⟩ := D 3 _ _ _ (by decide) rfl rfl rfl
            refine ⟨rfl, #[.slice A1 q.v.length k1, .slice B1 (beyV g p x0 dd).length m1], by simp only [List.map_toArray, List.map_cons, List.map_nil, ev e64, ev e66] <;> rfl, ?_⟩
            exact (HOV.out _ hB).mono fun _ _ ⟨r, he, hb, hr⟩ => ⟨r, he, hb, hr.le hB.size⟩
          refine StepsP.cons ?_ ?_
          · refine step_val (fun a wx hB O D => ?_)
            have e7 : a.tmps[7]? = some (.pointer (some ⟨w4.heap.size + 1, 0, none⟩)) := O 7 (by rfl)
            clear O D
            exact ⟨rfl, by go_simp⟩
          refine StepsP.cons ?_ ?_
          · refine step_val (fun a wx hB O D => ?_)
            obtain ⟨_, e68, rfl⟩ := D 5 _ _ _ (by decide) rfl rfl rfl
            obtain ⟨c0, c1, _⟩ := XA.out.below hB
            clear O D
            exact ⟨rfl, by go_simp⟩
          refine StepsP.cons ?_ ?_
          · refine step_val (fun a wx hB O D => ?_)
            have e10 : a.tmps[10]? = some (.pointer (some ⟨g10, 0, none⟩)) := O 10 (by rfl)
            clear O D
            exact ⟨rfl, by go_simp⟩
          refine StepsP.cons ?_ ?_
          · refine step_val (fun a wx hB O D => ?_)
            obtain ⟨_, e70, rfl⟩ := D 7 _ _ _ (by decide) rfl rfl rfl
            obtain ⟨c0, c1, _⟩ := XB.out.below hB
            clear O D
            exact ⟨rfl, by go_simp⟩
          refine StepsP.cons ?_ ?_
          · refine step_call (enters_of Try.func21 (by kernel_rfl) rfl) rfl rfl (fun a wx hB O D => ?_)
            obtain ⟨_, e69, rfl⟩ := D 6 _ _ _ (by decide) rfl rfl rfl
            obtain ⟨_, e71, rfl⟩ := D 8 _ _ _ (by decide) rfl rfl rfl
            refine ⟨rfl, #[.slice A2 q.e.length k2, .slice B2 (beyE g p x0 dd).length m2], by simp only [List.map_toArray, List.map_cons, List.map_nil, ev e69, ev e71] <;> rfl, ?_⟩
            exact (HOE.out _ hB).mono fun _ _ ⟨r, he, hb, hr⟩ => ⟨r, he, hb, hr.le hB.size⟩
          refine StepsP.cons ?_ ?_
          · refine step_op rfl (fun a wx hB O D => ?_)
            obtain ⟨v67, e67, s67⟩ := D 4 _ _ _ (by decide) rfl rfl rfl
            obtain ⟨v72, e72, s72⟩ := D 9 _ _ _ (by decide) rfl rfl rfl
            obtain ⟨_, _, rfl⟩ := ints_form (Row.ints s67)
            obtain ⟨_, _, rfl⟩ := ints_form (Row.ints s72)
            clear O D
            refine ⟨rfl, _, by (go_simp; try rfl), ?_⟩
            exact ⟨_, _, rfl, s67, s72⟩
          exact StepsP.nil
        · intro wz hZ
          refine EndP.is ?_
          refine EndP.is ?_
          refine EndP.is ?_
          refine EndP.is ?_
          refine EndP.sp rfl (fun v67 s67 => ?_)
          refine EndP.is ?_
          refine EndP.is ?_
          refine EndP.is ?_
          refine EndP.is ?_
          refine EndP.sp rfl (fun v72 s72 => ?_)
          refine EndP.sp rfl (fun v73 s73 => ?_)
          refine EndP.nil ?_
        -- behind 11
          simp only [Act.put, List.setIfInBounds_toArray, List.set_cons_zero, List.set_cons_succ]
          obtain ⟨y1, y2, rfl, r1, r2⟩ := s73
          obtain ⟨A5, k5, rfl⟩ := ints_form r1.ints
          obtain ⟨A6, k6, rfl⟩ := ints_form r2.ints
          have hpz := HPA.out.below hZ
          have z0 := hpz.box.c0
          have z1 := hpz.box.c1
          have t0 := hpz.box.thaw 0
          have t1 := hpz.box.thaw 1
          have HPn := Lib.hid (hpz.put (.slice A5 (mrg 1 q.v (beyV g p x0 dd)).length k5) (.slice A6 (mrg 1 q.e (beyE g p x0 dd)).length k6))
          have HVn := Lib.hid ((r1.put hpz (.slice A5 (mrg 1 q.v (beyV g p x0 dd)).length k5) (.slice A6 (mrg 1 q.e (beyE g p x0 dd)).length k6)).le (show w4.heap.size ≤ wu.heap.size from HW9.out.size))
          have HEn := Lib.hid ((r2.put hpz (.slice A5 (mrg 1 q.v (beyV g p x0 dd)).length k5) (.slice A6 (mrg 1 q.e (beyE g p x0 dd)).length k6)).le (show w4.heap.size ≤ wu.heap.size from HW9.out.size))
          have HDn := Lib.hid ((HD9.out.below hZ).put hpz (.slice A5 (mrg 1 q.v (beyV g p x0 dd)).length k5) (.slice A6 (mrg 1 q.e (beyE g p x0 dd)).length k6))
          have HWn := Lib.hid (put_below (g := w4.heap.size + 1) (HW9.out.trans (hZ.mono HW9.out.size)) (by omega) (.slice A5 (mrg 1 q.v (beyV g p x0 dd)).length k5) (.slice A6 (mrg 1 q.e (beyE g p x0 dd)).length k6))
          clear s67 s72 r1 r2 hpz hZ HOV HOE XA XB HV9 HE9 H1 H2 HPX
          go_wp2
          go_roundw
          case rel => exact ⟨k + 1, A5, k5, A6, k6, by omega, by go_num, by rw [HS.out]; exact HPn, by rw [HS.out]; exact HVn, by rw [HS.out]; exact HEn, HDn, HWn⟩
          case measure => simp [Go.RowKit.intOf]; omega
      · have hBw := hS'.2.2.2.2.2.out
        have hpn : PBox (wq.alloc (.cells #[.slice none 0 0, .slice none 0 0] 27)) wq.heap.size (.slice none 0 0) (.slice none 0 0) := heap_alloc_new wq _
        have hpw : PBox w' wq.heap.size (.slice none 0 0) (.slice none 0 0) := (hB.block wq.heap.size hpn.lt).trans hpn
        have hne : wq.heap.size ≠ w4.heap.size + 1 := by have := HPq.out.lt; omega
        have HPA := Lib.hid ((HPq.out.below hBw).other hne.symm (.slice B1 (beyV g p x0 dd).length m1) (.slice B2 (beyE g p x0 dd).length m2))
        have HPX := Lib.hid (hpw.put (.slice B1 (beyV g p x0 dd).length m1) (.slice B2 (beyE g p x0 dd).length m2))
        have HV9 := Lib.hid ((HVq.out.below hBw).put hpw (.slice B1 (beyV g p x0 dd).length m1) (.slice B2 (beyE g p x0 dd).length m2))
        have HE9 := Lib.hid ((HEq.out.below hBw).put hpw (.slice B1 (beyV g p x0 dd).length m1) (.slice B2 (beyE g p x0 dd).length m2))
        have HD9 := Lib.hid ((HDq.out.below hBw).put hpw (.slice B1 (beyV g p x0 dd).length m1) (.slice B2 (beyE g p x0 dd).length m2))
        have H1 := Lib.hid (h1.put hpw (.slice B1 (beyV g p x0 dd).length m1) (.slice B2 (beyE g p x0 dd).length m2)).ints
        have H2 := Lib.hid (h2.put hpw (.slice B1 (beyV g p x0 dd).length m1) (.slice B2 (beyE g p x0 dd).length m2)).ints
        have HW9 := Lib.hid (put_below (g := wq.heap.size) (HWq.out.trans (hBw.mono HWq.out.size)) HWq.out.size (.slice B1 (beyV g p x0 dd).length m1) (.slice B2 (beyE g p x0 dd).length m2))
        clear hS' hB h1 h2 hcc hff hBw hpn hpw HPq HVq HEq HDq HWq HBq HST HBY HCL HAL HSE hS0
        have hpp2 : (w'.setCell ⟨wq.heap.size, 0, none⟩ (.slice B1 (beyV g p x0 dd).length m1)).setCell ⟨wq.heap.size, 1, none⟩ (.slice B2 (beyE g p x0 dd).length m2) = putPart w' wq.heap.size (.slice B1 (beyV g p x0 dd).length m1) (.slice B2 (beyE g p x0 dd).length m2) := rfl
        rw [hpp2]
        clear hpp2
        generalize putPart w' wq.heap.size (.slice B1 (beyV g p x0 dd).length m1) (.slice B2 (beyE g p x0 dd).length m2) = wu at *
        generalize wq.heap.size = g10 at *
        have HB9 := Lib.hid (trans2 HB4.out HW9.out)
        have XA := Lib.hid HPA.out.box
        have XB := Lib.hid HPX.out.box
        have HOV := Lib.hid (fun W (hb : Below wu.heap.size wu W) => ror_any _ _ q.v (beyV g p x0 dd) W (HV9.out.ints.below hb) (H1.out.below hb) (by omega) (by omega))
        have HOE := Lib.hid (fun W (hb : Below wu.heap.size wu W) => ror_any _ _ q.e (beyE g p x0 dd) W (HE9.out.ints.below hb) (H2.out.below hb) (by omega) (by omega))
        go_wp2_with fail
        -- region 11b
        refine wp_region_plan [is (.pointer (some ⟨w4.heap.size + 1, 0, none⟩)), is (.slice A1 q.v.length k1), is (.pointer (some ⟨g10, 0, none⟩)), is (.slice B1 (beyV g p x0 dd).length m1), spRow wu.heap.size (mrg 1 q.v (beyV g p x0 dd)), is (.pointer (some ⟨w4.heap.size + 1, 1, none⟩)), is (.slice A2 q.e.length k2), is (.pointer (some ⟨g10, 1, none⟩)), is (.slice B2 (beyE g p x0 dd).length m2), spRow wu.heap.size (mrg 1 q.e (beyE g p x0 dd)), spPair wu.heap.size ⟨mrg 1 q.v (beyV g p x0 dd), mrg 1 q.e (beyE g p x0 dd)⟩] (by kernel_rfl) (by kernel_rfl) ?_ ?_
        · skip
          refine StepsP.cons ?_ ?_
          · refine step_val (fun a wx hB O D => ?_)
            have e7 : a.tmps[7]? = some (.pointer (some ⟨w4.heap.size + 1, 0, none⟩)) := O 7 (by rfl)
            clear O D
            exact ⟨rfl, by go_simp⟩
          refine StepsP.cons ?_ ?_
          · refine step_val (fun a wx hB O D => ?_)
            obtain ⟨_, e63, rfl⟩ := D 0 _ _ _ (by decide) rfl rfl rfl
            obtain ⟨c0, c1, _⟩ := XA.out.below hB
            clear O D
            exact ⟨rfl, by go_simp⟩
          refine StepsP.cons ?_ ?_
          · refine step_val (fun a wx hB O D => ?_)
            have e10 : a.tmps[10]? = some (.pointer (some ⟨g10, 0, none⟩)) := O 10 (by rfl)
            clear O D
            exact ⟨rfl, by go_simp⟩
          refine StepsP.cons ?_ ?_
          · refine step_val (fun a wx hB O D => ?_)
            obtain ⟨_, e65, rfl⟩ := D 2 _ _ _ (by decide) rfl rfl rfl
            obtain ⟨c0, c1, _⟩ := XB.out.below hB
            clear O D
            exact ⟨rfl, by go_simp⟩
          refine StepsP.cons ?_ ?_
          · refine step_call (enters_of Try.func21 (by kernel_rfl) rfl) rfl rfl (fun a wx hB O D => ?_)
            obtain ⟨_, e64, rfl⟩ := D 1 _ _ _ (by decide) rfl rfl rfl
            obtain ⟨_, e66, rfl⟩ := D 3 _ _ _ (by decide) rfl rfl rfl
            refine ⟨rfl, #[.slice A1 q.v.length k1, .slice B1 (beyV g p x0 dd).length m1], by simp only [List.map_toArray, List.map_cons, List.map_nil, ev e64, ev e66] <;> rfl, ?_⟩
            exact (HOV.out _ hB).mono fun _ _ ⟨r, he, hb, hr⟩ => ⟨r, he, hb, hr.le hB.size⟩
          refine StepsP.cons ?_ ?_
          · refine step_val (fun a wx hB O D => ?_)
            have e7 : a.tmps[7]? = some (.pointer (some ⟨w4.heap.size + 1, 0, none⟩)) := O 7 (by rfl)
            clear O D
            exact ⟨rfl, by go_simp⟩
          refine StepsP.cons ?_ ?_
          · refine step_val (fun a wx hB O D => ?_)
            obtain ⟨_, e68, rfl⟩ := D 5 _ _ _ (by decide) rfl rfl rfl
            obtain ⟨c0, c1, _⟩ := XA.out.below hB
            clear O D
            exact ⟨rfl, by go_simp⟩
          refine StepsP.cons ?_ ?_
          · refine step_val (fun a wx hB O D => ?_)
            have e10 : a.tmps[10]? = some (.pointer (some ⟨g10, 0, none⟩)) := O 10 (by rfl)
            clear O D
            exact ⟨rfl, by go_simp⟩
          refine StepsP.cons ?_ ?_
          · refine step_val (fun a wx hB O D => ?_)
            obtain ⟨_, e70, rfl⟩ := D 7 _ _ _ (by decide) rfl rfl rfl
            obtain ⟨c0, c1, _⟩ := XB.out.below hB
            clear O D
            exact ⟨rfl, by go_simp⟩
          refine StepsP.cons ?_ ?_
          · refine step_call (enters_of Try.func21 (by kernel_rfl) rfl) rfl rfl (fun a wx hB O D => ?_)
            obtain ⟨_, e69, rfl⟩ := D 6 _ _ _ (by decide) rfl rfl rfl
            obtain ⟨_, e71, rfl⟩ := D 8 _ _ _ (by decide) rfl rfl rfl
            refine ⟨rfl, #[.slice A2 q.e.length k2, .slice B2 (beyE g p x0 dd).length m2], by simp only [List.map_toArray, List.map_cons, List.map_nil, ev e69, ev e71] <;> rfl, ?_⟩
            exact (HOE.out _ hB).mono fun _ _ ⟨r, he, hb, hr⟩ => ⟨r, he, hb, hr.le hB.size⟩
          refine StepsP.cons ?_ ?_
          · refine step_op rfl (fun a wx hB O D => ?_)
            obtain ⟨v67, e67, s67⟩ := D 4 _ _ _ (by decide) rfl rfl rfl
            obtain ⟨v72, e72, s72⟩ := D 9 _ _ _ (by decide) rfl rfl rfl
            obtain ⟨_, _, rfl⟩ := ints_form (Row.ints s67)
            obtain ⟨_, _, rfl⟩ := ints_form (Row.ints s72)
            clear O D
            refine ⟨rfl, _, by (go_simp; try rfl), ?_⟩
            exact ⟨_, _, rfl, s67, s72⟩
          exact StepsP.nil
        · intro wz hZ
          refine EndP.is ?_
          refine EndP.is ?_
          refine EndP.is ?_
          refine EndP.is ?_
          refine EndP.sp rfl (fun v67 s67 => ?_)
          refine EndP.is ?_
          refine EndP.is ?_
          refine EndP.is ?_
          refine EndP.is ?_
          refine EndP.sp rfl (fun v72 s72 => ?_)
          refine EndP.sp rfl (fun v73 s73 => ?_)
          refine EndP.nil ?_
        -- behind 11b
          simp only [Act.put, List.setIfInBounds_toArray, List.set_cons_zero, List.set_cons_succ]
          obtain ⟨y1, y2, rfl, r1, r2⟩ := s73
          obtain ⟨A5, k5, rfl⟩ := ints_form r1.ints
          obtain ⟨A6, k6, rfl⟩ := ints_form r2.ints
          have hpz := HPA.out.below hZ
          have z0 := hpz.box.c0
          have z1 := hpz.box.c1
          have t0 := hpz.box.thaw 0
          have t1 := hpz.box.thaw 1
          have HPn := Lib.hid (hpz.put (.slice A5 (mrg 1 q.v (beyV g p x0 dd)).length k5) (.slice A6 (mrg 1 q.e (beyE g p x0 dd)).length k6))
          have HVn := Lib.hid ((r1.put hpz (.slice A5 (mrg 1 q.v (beyV g p x0 dd)).length k5) (.slice A6 (mrg 1 q.e (beyE g p x0 dd)).length k6)).le (show w4.heap.size ≤ wu.heap.size from HW9.out.size))
          have HEn := Lib.hid ((r2.put hpz (.slice A5 (mrg 1 q.v (beyV g p x0 dd)).length k5) (.slice A6 (mrg 1 q.e (beyE g p x0 dd)).length k6)).le (show w4.heap.size ≤ wu.heap.size from HW9.out.size))
          have HDn := Lib.hid ((HD9.out.below hZ).put hpz (.slice A5 (mrg 1 q.v (beyV g p x0 dd)).length k5) (.slice A6 (mrg 1 q.e (beyE g p x0 dd)).length k6))
          have HWn := Lib.hid (put_below (g := w4.heap.size + 1) (HW9.out.trans (hZ.mono HW9.out.size)) (by omega) (.slice A5 (mrg 1 q.v (beyV g p x0 dd)).length k5) (.slice A6 (mrg 1 q.e (beyE g p x0 dd)).length k6))
          clear s67 s72 r1 r2 hpz hZ HOV HOE XA XB HV9 HE9 H1 H2 HPX
          go_wp2
          go_roundw
          case rel => exact ⟨k + 1, A5, k5, A6, k6, by omega, by go_num, by rw [HS.out]; exact HPn, by rw [HS.out]; exact HVn, by rw [HS.out]; exact HEn, HDn, HWn⟩
          case measure => simp [Go.RowKit.intOf]; omega
    · obtain rfl : k = ds.length := by omega
      have HT := Lib.hid (List.take_length (l := ds))
      rw [HT.out, HAL.out] at HPq HVq HEq
      have c0 := (HB1.out.below HBq.out).c0
      have c1 := (HB1.out.below HBq.out).c1
      have e0 := (HB2.out.below HBq.out).c0
      have e1 := (HB2.out.below HBq.out).c1
      have HPI := Lib.hid (pieces_yes _ _ g p wq (HG1.out.below HBq.out) (HP1.out.below HBq.out) (by omega) (by omega) (by omega) HPP.out)
      clear HT HDq
      go_wp2_with fail
      refine HPI.out.mono ?_
      rintro e w8 hans
      obtain ⟨A, cap, rfl, hB8, hPL⟩ := hans.list
      have HPL := Lib.hid hPL
      have HPa := Lib.hid (HPq.out.below hB8)
      have HVa := Lib.hid (HVq.out.ints.below hB8)
      have HEa := Lib.hid (HEq.out.ints.below hB8)
      have HB8 := Lib.hid (trans2 HBq.out hB8)
      clear hans hB8 hPL c0 c1 e0 e1 HPI HPq HVq HEq HWq HAL
      generalize pcs g p = ps at *
      generalize hq : getP ps j0 = q at *
      have HJ1 := Lib.hid (show x0 ∈ (getP ps j0).v by rw [hq]; exact HJ0.out)
      have HQ := Lib.hid hq
      clear hq
      go_wp2
      go_loopw [14] (fun iv wr => ∃ ii : Nat, ii ≤ j0 ∧ iv = .int .i64 ii ∧ Hid (Below w8.heap.size w8 wr)) (fun iv _ => ps.length - (Go.RowKit.intOf iv).toNat)
      case atStart => exact ⟨0, Nat.zero_le _, rfl, Lib.hid (Below.refl _ _)⟩
      case round =>
        obtain ⟨ii, hi, rfl, hB⟩ := hrel
        obtain ⟨wv, hwv⟩ : ∃ z, z = wr := ⟨_, rfl⟩
        subst hwv
        have HBv := Lib.hid hB.out
        have HPLv := Lib.hid (HPL.out.below hB.out)
        have XA := Lib.hid (HPa.out.below hB.out).box
        have HVv := Lib.hid (HVa.out.below hB.out)
        have HEv := Lib.hid (HEa.out.below hB.out)
        clear hB
        have hiL : ii < ps.length := by omega
        obtain ⟨gb, A3, k3, A4, k4, rfl, hgb, q1, q2, i3, i4⟩ := HPLv.out ii hiL
        have hvl := (HF.out.few ii hiL).1
        have hel := (HF.out.few ii hiL).2
        have HIN := Lib.hid (in_any _ (getP ps ii).v x0 wv i3 (by omega))
        by_cases hij : ii = j0
        · subst hij
          rw [decide_eq_true HJ1.out] at HIN
          have HSM := Lib.hid (fun W (hb : Below wv.heap.size wv W) => by
            have := rsame_any _ _ (getP ps ii) q W (Pt.below ⟨_, _, rfl, i3, i4⟩ hb) (Pt.below ⟨_, _, rfl, HVv.out, HEv.out⟩ hb) (by omega) (by omega)
            rw [(sameB_iff _ _).2 HQ.out] at this
            exact this)
          clear i3 i4
          go_wp2_with fail
          refine HIN.out.mono ?_
          rintro e w' ⟨rfl, rfl⟩
          go_wp2_with fail
          -- region 17
          refine wp_region_plan [is (.slice (some ⟨gb, 0, none⟩) ps.length cap), is (.int .i64 (ii : Int)), is (.pointer (some ⟨gb, ii * 2, none⟩)), is (.agg #[.slice A3 (getP ps ii).v.length k3, .slice A4 (getP ps ii).e.length k4]), is (.agg #[.slice A1 q.v.length k1, .slice A2 q.e.length k2]), is (.bool true)] (by kernel_rfl) (by kernel_rfl) ?_ ?_
          · skip
            refine StepsP.cons ?_ ?_
            · refine step_val (fun a wx hB O D => ?_)
              have e12 : a.tmps[12]? = some (.slice (some ⟨gb, 0, none⟩) ps.length cap) := O 12 (by rfl)
              clear O D
              exact ⟨rfl, by unfold execOp; simp only [ev e12]; rfl⟩
            refine StepsP.cons ?_ ?_
            · refine step_val (fun a wx hB O D => ?_)
              have e14 : a.tmps[14]? = some (.int .i64 (ii : Int)) := O 14 (by rfl)
              clear O D
              exact ⟨rfl, by unfold execOp; simp only [ev e14]; rfl⟩
            refine StepsP.cons ?_ ?_
            · refine step_val (fun a wx hB O D => ?_)
              obtain ⟨_, e93, rfl⟩ := D 0 _ _ _ (by decide) rfl rfl rfl
              obtain ⟨_, e94, rfl⟩ := D 1 _ _ _ (by decide) rfl rfl rfl
              clear O D
              exact ⟨rfl, by go_simp⟩
            refine StepsP.cons ?_ ?_
            · refine step_val (fun a wx hB O D => ?_)
              obtain ⟨_, e95, rfl⟩ := D 2 _ _ _ (by decide) rfl rfl rfl
              have f1 := (hB.cell (p := ⟨gb, ii * 2, none⟩) hgb).trans q1
              have f2 := (hB.cell (p := ⟨gb, ii * 2 + 1, none⟩) hgb).trans q2
              clear O D
              exact ⟨rfl, by go_simp⟩
            refine StepsP.cons ?_ ?_
            · refine step_val (fun a wx hB O D => ?_)
              have e7 : a.tmps[7]? = some (.pointer (some ⟨w4.heap.size + 1, 0, none⟩)) := O 7 (by rfl)
              obtain ⟨c0, c1, _⟩ := XA.out.below hB
              clear O D
              exact ⟨rfl, by go_simp⟩
            refine StepsP.cons ?_ ?_
            · refine step_call (enters_of Try.func22 (by kernel_rfl) rfl) rfl rfl (fun a wx hB O D => ?_)
              obtain ⟨_, e96, rfl⟩ := D 3 _ _ _ (by decide) rfl rfl rfl
              obtain ⟨_, e97, rfl⟩ := D 4 _ _ _ (by decide) rfl rfl rfl
              refine ⟨rfl, #[.agg #[.slice A3 (getP ps ii).v.length k3, .slice A4 (getP ps ii).e.length k4], .agg #[.slice A1 q.v.length k1, .slice A2 q.e.length k2]], by simp only [List.map_toArray, List.map_cons, List.map_nil, ev e96, ev e97] <;> rfl, ?_⟩
              exact (HSM.out _ hB).mono fun _ _ ⟨he, hb⟩ => ⟨_, he, hb, rfl⟩
            exact StepsP.nil
          · intro wz hZ
            refine EndP.is ?_
            refine EndP.is ?_
            refine EndP.is ?_
            refine EndP.is ?_
            refine EndP.is ?_
            refine EndP.is ?_
            refine EndP.nil ?_
          -- behind 17
            have HBz := Lib.hid (HBv.out.trans (hZ.mono HBv.out.size))
            clear hZ
            go_wp2
            go_ret
            exact ⟨rfl, trans2 HM.out (trans2 HB8.out HBz.out)⟩
        · rw [decide_eq_false (HF.out.av j0 ii hj0 hiL (fun h => hij h.symm) x0 HJ1.out)] at HIN
          clear i3 i4
          go_wp2_with fail
          refine HIN.out.mono ?_
          rintro e w' ⟨rfl, rfl⟩
          go_wp2
          go_roundw
          case rel => exact ⟨ii + 1, by omega, by go_num, HBv⟩
          case measure => simp [Go.RowKit.intOf]; omega
end Go.Proofs.Ytjnohnbppkhbaaa
