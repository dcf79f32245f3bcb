/-
  WalkPieces: each vertex and each edge of a part is in just one of its pieces, which hang together: the law's call answers true at every input.
-/
import Derived.Test.YtjnohnbppkhbaaaWkK
import Derived.Test.YtjnohnbppkhbaaaWkQ
namespace Go.Proofs.Ytjnohnbppkhbaaa
open Go.RowKit Go.Maps

theorem andL_none {l m : List Int} (h : ∀ x ∈ l, x ∉ m) : andL l m = [] := by
  unfold andL
  rw [List.filter_eq_nil_iff]
  intro x hx
  simpa using h x hx

set_option maxRecDepth 100000 in
set_option maxHeartbeats 8000000 in
theorem walkPieces_any (v : Value) (g : Gph) (u : Value) (p : Prt) (w : World) (h : Gr w v g) (h' : Pt w u p) :
    Calls Try.prog 3 #[v, u] w fun e w' => e = .returned (.bool true) ∧ Below w.heap.size w w' := by
  have HG := Lib.hid h
  have HP := Lib.hid h'
  obtain ⟨ve, rfl, h1⟩ := h
  obtain ⟨vv, vp, rfl, h2, h3⟩ := h'
  obtain ⟨Ae, ce, rfl⟩ := h1.form
  obtain ⟨Av, cv, rfl⟩ := ints_form h2
  obtain ⟨Ap, cp, rfl⟩ := ints_form h3
  obtain ⟨b1, b2, hm⟩ := two_boxes w (.int .i64 g.n) (.slice Ae g.e.length ce) (.slice Av p.v.length cv) (.slice Ap p.e.length cp) 24 27
  have HB1 := Lib.hid b1
  have HB2 := Lib.hid b2
  have HM := Lib.hid hm
  have HG1 := Lib.hid (HG.out.below hm)
  have HP1 := Lib.hid (HP.out.below hm)
  have HI2 := Lib.hid (h2.below hm)
  have HI3 := Lib.hid (h3.below hm)
  clear b1 b2 hm h1 h2 h3 HG HP
  go_enter Try.func3, Try.ntmps3
  go_wp2_with fail
  generalize (w.alloc (.cells #[.int .i64 g.n, .slice Ae g.e.length ce] 24)).alloc (.cells #[.slice Av p.v.length cv, .slice Ap p.e.length cp] 27) = w1 at *
  refine (wawake_any w1).mono ?_
  rintro e w2 ⟨rfl, hB2⟩
  have c0 := (HB1.out.below hB2).c0
  have c1 := (HB1.out.below hB2).c1
  have d0 := (HB2.out.below hB2).c0
  have d1 := (HB2.out.below hB2).c1
  have HBB2 := Lib.hid hB2
  clear hB2
  go_wp2_with fail
  refine (small_any _ _ g p w2 (HG1.out.below HBB2.out) (HP1.out.below HBB2.out)).mono ?_
  rintro e w3 ⟨rfl, hB3⟩
  have HB3 := Lib.hid (trans2 HBB2.out hB3)
  clear hB3 c0 c1 d0 d1 HBB2
  by_cases hs : smallB g p = true
  case neg =>
    have e : smallI g p = 0 := if_neg hs
    rw [e]
    clear e hs
    go_wp2_with fail
    refine (wawake_any w3).mono ?_
    rintro e w4 ⟨rfl, hB4⟩
    go_wp2
    go_ret
    exact ⟨rfl, trans2 HM.out (trans2 HB3.out hB4)⟩
  have e : smallI g p = 1 := if_pos hs
  obtain ⟨hl, hp1, hp2, _⟩ := (of_decide_eq_true hs : g.e.length ≤ 60 ∧ p.v.length ≤ 60 ∧ p.e.length ≤ 60 ∧ ¬ (60 < g.n ∧ g.n ≤ 1024))
  rw [e]
  have c0 := (HB1.out.below HB3.out).c0
  have c1 := (HB1.out.below HB3.out).c1
  have d0 := (HB2.out.below HB3.out).c0
  have d1 := (HB2.out.below HB3.out).c1
  clear e hs
  go_wp2_with fail
  by_cases hpp : perr g p = 0
  · refine (pieces_yes _ _ g p w3 (HG1.out.below HB3.out) (HP1.out.below HB3.out) (by omega) (by omega) (by omega) hpp).mono ?_
    rintro e w4 hans
    obtain ⟨A, cap, rfl, hB4, hPL⟩ := hans.list
    have HB4 := Lib.hid (trans2 HB3.out hB4)
    have HPL := Lib.hid hPL
    have HF := Lib.hid (pcs_facts hpp)
    have hKl := HF.out.len
    generalize pcs g p = ps at *
    clear hans hB4 hPL c0 c1 d0 d1 HB3 hpp
    go_wp2
    go_loopw [7, 8, 9] (fun vv nv iv wr => ∃ ii : Nat, ii ≤ ps.length ∧ vv = .int .i64 (((ps.map Prt.v).take ii).flatten.length : Nat) ∧ nv = .int .i64 (((ps.map Prt.e).take ii).flatten.length : Nat) ∧ iv = .int .i64 ii ∧ Hid (PList wr A ps) ∧ Hid (Below w1.heap.size w1 wr)) (fun _ _ iv _ => ps.length - (Go.RowKit.intOf iv).toNat)
    case atStart => exact ⟨0, Nat.zero_le _, rfl, rfl, rfl, HPL, HB4⟩
    case round =>
      obtain ⟨ii, hi, rfl, rfl, rfl, hPL, hB⟩ := hrel
      obtain ⟨wq, hwq⟩ : ∃ z, z = wr := ⟨_, rfl⟩
      subst hwq
      have HBq := Lib.hid hB.out
      have HPq := Lib.hid hPL.out
      clear hB hPL
      have hv1 := flat_take_le (ps.map Prt.v) ii
      have he1 := flat_take_le (ps.map Prt.e) ii
      rw [HF.out.vs] at hv1
      rw [HF.out.es] at he1
      by_cases hlt : ii < ps.length
      · have HSV := Lib.hid (flat_succ Prt.v ps ii hlt)
        have HSE := Lib.hid (flat_succ Prt.e ps ii hlt)
        have hsv := flat_take_le (ps.map Prt.v) (ii + 1)
        have hse := flat_take_le (ps.map Prt.e) (ii + 1)
        rw [HF.out.vs, HSV.out] at hsv
        rw [HF.out.es, HSE.out] at hse
        generalize ((ps.map Prt.v).take ii).flatten.length = sv at *
        generalize ((ps.map Prt.e).take ii).flatten.length = se at *
        obtain ⟨gb, A1, k1, A2, k2, rfl, hgb, q1, q2, iv1, iv2⟩ := HPq.out ii hlt
        have HIV := Lib.hid iv1
        have HIE := Lib.hid iv2
        have hpos := HF.out.some ii hlt
        have HJ := Lib.hid (fun W (hb : Below wq.heap.size wq W) => by
          have := joined_any _ _ g (getP ps ii) W (HG1.out.below (HBq.out.trans (hb.mono HBq.out.size))) (Pt.below ⟨_, _, rfl, iv1, iv2⟩ hb) (by omega) (by have := HF.out.few ii hlt; omega) (by have := HF.out.few ii hlt; omega)
          rw [HF.out.joined ii hlt] at this
          exact this)
        have X0 := Lib.hid (HB1.out.below HBq.out)
        have X1 := Lib.hid (HB2.out.below HBq.out)
        have hvl := (HF.out.few ii hlt).1
        have hel := (HF.out.few ii hlt).2
        have t14 : (((getP ps ii).v.length : Int) == 0) = false := beq_eq_false_iff_ne.2 (by omega)
        have hn0 : (getP ps ii).v.length ≠ 0 := by omega
        have HVN := Lib.hid (show (getP ps ii).v.length = (getP ps ii).v.length from rfl)
        clear iv1 iv2 HVN
        go_wp2_with fail
        -- region 10
        refine wp_region_plan [is (.agg #[.int .i64 g.n, .slice Ae g.e.length ce]), is (.slice (some ⟨gb, 0, none⟩) ps.length cap), is (.int .i64 (ii : Int)), is (.pointer (some ⟨gb, ii * 2, none⟩)), is (.agg #[.slice A1 (getP ps ii).v.length k1, .slice A2 (getP ps ii).e.length k2]), is (.bool true), is (.bool false), is (.bool false), is (.slice (some ⟨gb, 0, none⟩) ps.length cap), is (.int .i64 (ii : Int)), is (.pointer (some ⟨gb, ii * 2, none⟩)), is (.pointer (some ⟨gb, ii * 2, none⟩)), is (.slice A1 (getP ps ii).v.length k1), is (.int .i64 ((getP ps ii).v.length : Int)), is (.bool false), is (.bool false)] (by kernel_rfl) (by kernel_rfl) ?_ ?_
        · skip
          refine StepsP.cons ?_ ?_
          · refine step_val (fun a wx hB O D => ?_)
            have e2 : a.tmps[2]? = some (.pointer (some ⟨w.heap.size, 0, none⟩)) := O 2 (by rfl)
            obtain ⟨c0, c1, _⟩ := X0.out.below hB
            clear O D
            exact ⟨rfl, by go_simp⟩
          refine StepsP.cons ?_ ?_
          · refine step_val (fun a wx hB O D => ?_)
            have e5 : a.tmps[5]? = some (.slice (some ⟨gb, 0, none⟩) ps.length cap) := O 5 (by rfl)
            clear O D
            exact ⟨rfl, by unfold execOp; simp only [ev e5]; rfl⟩
          refine StepsP.cons ?_ ?_
          · refine step_val (fun a wx hB O D => ?_)
            have e9 : a.tmps[9]? = some (.int .i64 (ii : Int)) := O 9 (by rfl)
            clear O D
            exact ⟨rfl, by unfold execOp; simp only [ev e9]; rfl⟩
          refine StepsP.cons ?_ ?_
          · refine step_val (fun a wx hB O D => ?_)
            obtain ⟨_, e44, rfl⟩ := D 1 _ _ _ (by decide) rfl rfl rfl
            obtain ⟨_, e45, rfl⟩ := D 2 _ _ _ (by decide) rfl rfl rfl
            clear O D
            exact ⟨rfl, by go_simp⟩
          refine StepsP.cons ?_ ?_
          · refine step_val (fun a wx hB O D => ?_)
            obtain ⟨_, e46, rfl⟩ := D 3 _ _ _ (by decide) rfl rfl rfl
            have f1 := (hB.cell (p := ⟨gb, ii * 2, none⟩) hgb).trans q1
            have f2 := (hB.cell (p := ⟨gb, ii * 2 + 1, none⟩) hgb).trans q2
            clear O D
            exact ⟨rfl, by go_simp⟩
          refine StepsP.cons ?_ ?_
          · refine step_call (enters_of Try.func10 (by kernel_rfl) rfl) rfl rfl (fun a wx hB O D => ?_)
            obtain ⟨_, e43, rfl⟩ := D 0 _ _ _ (by decide) rfl rfl rfl
            obtain ⟨_, e47, rfl⟩ := D 4 _ _ _ (by decide) rfl rfl rfl
            refine ⟨rfl, #[.agg #[.int .i64 g.n, .slice Ae g.e.length ce], .agg #[.slice A1 (getP ps ii).v.length k1, .slice A2 (getP ps ii).e.length k2]], by simp only [List.map_toArray, List.map_cons, List.map_nil, ev e43, ev e47] <;> rfl, ?_⟩
            exact (HJ.out _ hB).mono fun _ _ ⟨he, hb⟩ => ⟨_, he, hb, rfl⟩
          refine StepsP.cons ?_ ?_
          · refine step_val (fun a wx hB O D => ?_)
            obtain ⟨_, e48, rfl⟩ := D 5 _ _ _ (by decide) rfl rfl rfl
            clear O D
            exact ⟨rfl, by go_simp⟩
          refine StepsP.cons ?_ ?_
          · refine step_val (fun a wx hB O D => ?_)
            obtain ⟨_, e49, rfl⟩ := D 6 _ _ _ (by decide) rfl rfl rfl
            clear O D
            exact ⟨rfl, by unfold execOp; simp only [ev e49]; rfl⟩
          refine StepsP.cons ?_ ?_
          · refine step_val (fun a wx hB O D => ?_)
            have e5 : a.tmps[5]? = some (.slice (some ⟨gb, 0, none⟩) ps.length cap) := O 5 (by rfl)
            obtain ⟨_, e50, rfl⟩ := D 7 _ _ _ (by decide) rfl rfl rfl
            clear O D
            exact ⟨wanted_of rfl rfl e50 rfl, by unfold execOp; simp only [ev e5]; rfl⟩
          refine StepsP.cons ?_ ?_
          · refine step_val (fun a wx hB O D => ?_)
            have e9 : a.tmps[9]? = some (.int .i64 (ii : Int)) := O 9 (by rfl)
            obtain ⟨_, e50, rfl⟩ := D 7 _ _ _ (by decide) rfl rfl rfl
            clear O D
            exact ⟨wanted_of rfl rfl e50 rfl, by unfold execOp; simp only [ev e9]; rfl⟩
          refine StepsP.cons ?_ ?_
          · refine step_val (fun a wx hB O D => ?_)
            obtain ⟨_, e51, rfl⟩ := D 8 _ _ _ (by decide) rfl rfl rfl
            obtain ⟨_, e52, rfl⟩ := D 9 _ _ _ (by decide) rfl rfl rfl
            obtain ⟨_, e50, rfl⟩ := D 7 _ _ _ (by decide) rfl rfl rfl
            clear O D
            exact ⟨wanted_of rfl rfl e50 rfl, by go_simp⟩
          refine StepsP.cons ?_ ?_
          · refine step_val (fun a wx hB O D => ?_)
            obtain ⟨_, e53, rfl⟩ := D 10 _ _ _ (by decide) rfl rfl rfl
            obtain ⟨_, e50, rfl⟩ := D 7 _ _ _ (by decide) rfl rfl rfl
            clear O D
            exact ⟨wanted_of rfl rfl e50 rfl, by go_simp⟩
          refine StepsP.cons ?_ ?_
          · refine step_val (fun a wx hB O D => ?_)
            obtain ⟨_, e54, rfl⟩ := D 11 _ _ _ (by decide) rfl rfl rfl
            obtain ⟨_, e50, rfl⟩ := D 7 _ _ _ (by decide) rfl rfl rfl
            have f1 := (hB.cell (p := ⟨gb, ii * 2, none⟩) hgb).trans q1
            clear O D
            exact ⟨wanted_of rfl rfl e50 rfl, by go_simp⟩
          refine StepsP.cons ?_ ?_
          · refine step_val (fun a wx hB O D => ?_)
            obtain ⟨_, e55, rfl⟩ := D 12 _ _ _ (by decide) rfl rfl rfl
            obtain ⟨_, e50, rfl⟩ := D 7 _ _ _ (by decide) rfl rfl rfl
            clear O D
            exact ⟨wanted_of rfl rfl e50 rfl, by go_simp⟩
          refine StepsP.cons ?_ ?_
          · refine step_val (fun a wx hB O D => ?_)
            obtain ⟨_, e56, rfl⟩ := D 13 _ _ _ (by decide) rfl rfl rfl
            obtain ⟨_, e50, rfl⟩ := D 7 _ _ _ (by decide) rfl rfl rfl
            clear O D
            exact ⟨wanted_of rfl rfl e50 rfl, by go_simp⟩
          refine StepsP.cons ?_ ?_
          · refine step_val (fun a wx hB O D => ?_)
            obtain ⟨_, e50, rfl⟩ := D 7 _ _ _ (by decide) rfl rfl rfl
            obtain ⟨_, e57, rfl⟩ := D 14 _ _ _ (by decide) rfl rfl rfl
            clear O D
            exact ⟨rfl, by go_simp⟩
          exact StepsP.nil
        · intro wz hZ
          refine EndP.is ?_
          refine EndP.is ?_
          refine EndP.is ?_
          refine EndP.is ?_
          refine EndP.is ?_
          refine EndP.is ?_
          refine EndP.is ?_
          refine EndP.is ?_
          refine EndP.is ?_
          refine EndP.is ?_
          refine EndP.is ?_
          refine EndP.is ?_
          refine EndP.is ?_
          refine EndP.is ?_
          refine EndP.is ?_
          refine EndP.is ?_
          refine EndP.nil ?_
        -- behind 10
          refine wpList_nil ?_
          simp only [Act.put, List.setIfInBounds_toArray, List.set_cons_zero, List.set_cons_succ]
          have HBz := Lib.hid (HBq.out.trans (hZ.mono HBq.out.size))
          have HPz := Lib.hid (HPq.out.below hZ)
          have q1z := (hZ.cell (p := ⟨gb, ii * 2, none⟩) hgb).trans q1
          have q2z := (hZ.cell (p := ⟨gb, ii * 2 + 1, none⟩) hgb).trans q2
          clear HJ X0 X1 q1 q2 hZ
          go_wp2
          go_loopw [10] (fun kv wr => ∃ k : Nat, k ≤ ii ∧ kv = .int .i64 k ∧ Hid (Below wz.heap.size wz wr)) (fun kv _ => ii - (Go.RowKit.intOf kv).toNat)
          case atStart => exact ⟨0, Nat.zero_le _, rfl, Lib.hid (Below.refl _ _)⟩
          case round =>
            obtain ⟨k, hk, rfl, hB⟩ := hrel
            obtain ⟨wu, hwu⟩ : ∃ z, z = wr := ⟨_, rfl⟩
            subst hwu
            have HBu := Lib.hid (HBz.out.trans (hB.out.mono HBz.out.size))
            have HPu := Lib.hid (HPz.out.below hB.out)
            have HBk := Lib.hid hB.out
            clear hB q1z q2z
            by_cases hki : k < ii
            · have hkL : k < ps.length := by omega
              obtain ⟨gb', A1', k1', A2', k2', e1, hgu, s1, s2, i1, i2⟩ := HPu.out ii hlt
              cases e1
              obtain ⟨gb', A3, k3, A4, k4, e1, _, r1, r2, i3, i4⟩ := HPu.out k hkL
              cases e1
              have HAV := Lib.hid (fun W (hb : Below wu.heap.size wu W) => by
                have := rand_any _ _ (getP ps ii).v (getP ps k).v W (i1.below hb) (i3.below hb) (by omega) (by have := HF.out.few k hkL; omega)
                rw [andL_none (HF.out.av ii k hlt hkL (by omega))] at this
                exact this)
              have HAE := Lib.hid (fun W (hb : Below wu.heap.size wu W) => by
                have := rand_any _ _ (getP ps ii).e (getP ps k).e W (i2.below hb) (i4.below hb) (by omega) (by have := HF.out.few k hkL; omega)
                rw [andL_none (HF.out.ae ii k hlt hkL (by omega))] at this
                exact this)
              clear i1 i2 i3 i4
              go_wp2_with fail
              -- region 17
              refine wp_region_plan [is (.slice (some ⟨gb, 0, none⟩) ps.length cap), is (.int .i64 (ii : Int)), is (.pointer (some ⟨gb, ii * 2, none⟩)), is (.pointer (some ⟨gb, ii * 2, none⟩)), is (.slice A1' (getP ps ii).v.length k1'), is (.slice (some ⟨gb, 0, none⟩) ps.length cap), is (.int .i64 (k : Int)), is (.pointer (some ⟨gb, k * 2, none⟩)), is (.pointer (some ⟨gb, k * 2, none⟩)), is (.slice A3 (getP ps k).v.length k3), spRow wu.heap.size ([] : List Int), is (.int .i64 0), is (.bool false), is (.bool false), is (.slice (some ⟨gb, 0, none⟩) ps.length cap), is (.int .i64 (ii : Int)), is (.pointer (some ⟨gb, ii * 2, none⟩)), is (.pointer (some ⟨gb, ii * 2 + 1, none⟩)), is (.slice A2' (getP ps ii).e.length k2'), is (.slice (some ⟨gb, 0, none⟩) ps.length cap), is (.int .i64 (k : Int)), is (.pointer (some ⟨gb, k * 2, none⟩)), is (.pointer (some ⟨gb, k * 2 + 1, none⟩)), is (.slice A4 (getP ps k).e.length k4), spRow wu.heap.size ([] : List Int), is (.int .i64 0), is (.bool false), is (.bool false)] (by kernel_rfl) (by kernel_rfl) ?_ ?_
              · skip
                refine StepsP.cons ?_ ?_
                · refine step_val (fun a wx hB O D => ?_)
                  have e5 : a.tmps[5]? = some (.slice (some ⟨gb, 0, none⟩) ps.length cap) := O 5 (by rfl)
                  clear O D
                  exact ⟨rfl, by unfold execOp; simp only [ev e5]; rfl⟩
                refine StepsP.cons ?_ ?_
                · refine step_val (fun a wx hB O D => ?_)
                  have e9 : a.tmps[9]? = some (.int .i64 (ii : Int)) := O 9 (by rfl)
                  clear O D
                  exact ⟨rfl, by unfold execOp; simp only [ev e9]; rfl⟩
                refine StepsP.cons ?_ ?_
                · refine step_val (fun a wx hB O D => ?_)
                  obtain ⟨_, e80, rfl⟩ := D 0 _ _ _ (by decide) rfl rfl rfl
                  obtain ⟨_, e81, rfl⟩ := D 1 _ _ _ (by decide) rfl rfl rfl
                  clear O D
                  exact ⟨rfl, by go_simp⟩
                refine StepsP.cons ?_ ?_
                · refine step_val (fun a wx hB O D => ?_)
                  obtain ⟨_, e82, rfl⟩ := D 2 _ _ _ (by decide) rfl rfl rfl
                  clear O D
                  exact ⟨rfl, by go_simp⟩
                refine StepsP.cons ?_ ?_
                · refine step_val (fun a wx hB O D => ?_)
                  obtain ⟨_, e83, rfl⟩ := D 3 _ _ _ (by decide) rfl rfl rfl
                  have f1 := (hB.cell (p := ⟨gb, ii * 2, none⟩) hgu).trans s1
                  clear O D
                  exact ⟨rfl, by go_simp⟩
                refine StepsP.cons ?_ ?_
                · refine step_val (fun a wx hB O D => ?_)
                  have e5 : a.tmps[5]? = some (.slice (some ⟨gb, 0, none⟩) ps.length cap) := O 5 (by rfl)
                  clear O D
                  exact ⟨rfl, by unfold execOp; simp only [ev e5]; rfl⟩
                refine StepsP.cons ?_ ?_
                · refine step_val (fun a wx hB O D => ?_)
                  have e10 : a.tmps[10]? = some (.int .i64 (k : Int)) := O 10 (by rfl)
                  clear O D
                  exact ⟨rfl, by unfold execOp; simp only [ev e10]; rfl⟩
                refine StepsP.cons ?_ ?_
                · refine step_val (fun a wx hB O D => ?_)
                  obtain ⟨_, e85, rfl⟩ := D 5 _ _ _ (by decide) rfl rfl rfl
                  obtain ⟨_, e86, rfl⟩ := D 6 _ _ _ (by decide) rfl rfl rfl
                  clear O D
                  exact ⟨rfl, by go_simp⟩
                refine StepsP.cons ?_ ?_
                · refine step_val (fun a wx hB O D => ?_)
                  obtain ⟨_, e87, rfl⟩ := D 7 _ _ _ (by decide) rfl rfl rfl
                  clear O D
                  exact ⟨rfl, by go_simp⟩
                refine StepsP.cons ?_ ?_
                · refine step_val (fun a wx hB O D => ?_)
                  obtain ⟨_, e88, rfl⟩ := D 8 _ _ _ (by decide) rfl rfl rfl
                  have f3 := (hB.cell (p := ⟨gb, k * 2, none⟩) hgu).trans r1
                  clear O D
                  exact ⟨rfl, by go_simp⟩
                refine StepsP.cons ?_ ?_
                · refine step_call (enters_of Try.func11 (by kernel_rfl) rfl) rfl rfl (fun a wx hB O D => ?_)
                  obtain ⟨_, e84, rfl⟩ := D 4 _ _ _ (by decide) rfl rfl rfl
                  obtain ⟨_, e89, rfl⟩ := D 9 _ _ _ (by decide) rfl rfl rfl
                  refine ⟨rfl, #[.slice A1' (getP ps ii).v.length k1', .slice A3 (getP ps k).v.length k3], by simp only [List.map_toArray, List.map_cons, List.map_nil, ev e84, ev e89] <;> rfl, ?_⟩
                  exact (HAV.out _ hB).mono fun _ _ ⟨r, he, hb, hr⟩ => ⟨r, he, hb, hr.le hB.size⟩
                refine StepsP.cons ?_ ?_
                · refine step_val (fun a wx hB O D => ?_)
                  obtain ⟨v90, e90, s90⟩ := D 10 _ _ _ (by decide) rfl rfl rfl
                  obtain ⟨_, _, rfl⟩ := ints_form (Row.ints s90)
                  clear O D
                  exact ⟨rfl, by go_simp⟩
                refine StepsP.cons ?_ ?_
                · refine step_val (fun a wx hB O D => ?_)
                  obtain ⟨_, e91, rfl⟩ := D 11 _ _ _ (by decide) rfl rfl rfl
                  clear O D
                  exact ⟨rfl, by go_simp⟩
                refine StepsP.cons ?_ ?_
                · refine step_val (fun a wx hB O D => ?_)
                  obtain ⟨_, e92, rfl⟩ := D 12 _ _ _ (by decide) rfl rfl rfl
                  clear O D
                  exact ⟨rfl, by unfold execOp; simp only [ev e92]; rfl⟩
                refine StepsP.cons ?_ ?_
                · refine step_val (fun a wx hB O D => ?_)
                  have e5 : a.tmps[5]? = some (.slice (some ⟨gb, 0, none⟩) ps.length cap) := O 5 (by rfl)
                  obtain ⟨_, e93, rfl⟩ := D 13 _ _ _ (by decide) rfl rfl rfl
                  clear O D
                  exact ⟨wanted_of rfl rfl e93 rfl, by unfold execOp; simp only [ev e5]; rfl⟩
                refine StepsP.cons ?_ ?_
                · refine step_val (fun a wx hB O D => ?_)
                  have e9 : a.tmps[9]? = some (.int .i64 (ii : Int)) := O 9 (by rfl)
                  obtain ⟨_, e93, rfl⟩ := D 13 _ _ _ (by decide) rfl rfl rfl
                  clear O D
                  exact ⟨wanted_of rfl rfl e93 rfl, by unfold execOp; simp only [ev e9]; rfl⟩
                refine StepsP.cons ?_ ?_
                · refine step_val (fun a wx hB O D => ?_)
                  obtain ⟨_, e94, rfl⟩ := D 14 _ _ _ (by decide) rfl rfl rfl
                  obtain ⟨_, e95, rfl⟩ := D 15 _ _ _ (by decide) rfl rfl rfl
                  obtain ⟨_, e93, rfl⟩ := D 13 _ _ _ (by decide) rfl rfl rfl
                  clear O D
                  exact ⟨wanted_of rfl rfl e93 rfl, by go_simp⟩
                refine StepsP.cons ?_ ?_
                · refine step_val (fun a wx hB O D => ?_)
                  obtain ⟨_, e96, rfl⟩ := D 16 _ _ _ (by decide) rfl rfl rfl
                  obtain ⟨_, e93, rfl⟩ := D 13 _ _ _ (by decide) rfl rfl rfl
                  clear O D
                  exact ⟨wanted_of rfl rfl e93 rfl, by go_simp⟩
                refine StepsP.cons ?_ ?_
                · refine step_val (fun a wx hB O D => ?_)
                  obtain ⟨_, e97, rfl⟩ := D 17 _ _ _ (by decide) rfl rfl rfl
                  obtain ⟨_, e93, rfl⟩ := D 13 _ _ _ (by decide) rfl rfl rfl
                  have f2 := (hB.cell (p := ⟨gb, ii * 2 + 1, none⟩) hgu).trans s2
                  clear O D
                  exact ⟨wanted_of rfl rfl e93 rfl, by go_simp⟩
                refine StepsP.cons ?_ ?_
                · refine step_val (fun a wx hB O D => ?_)
                  have e5 : a.tmps[5]? = some (.slice (some ⟨gb, 0, none⟩) ps.length cap) := O 5 (by rfl)
                  obtain ⟨_, e93, rfl⟩ := D 13 _ _ _ (by decide) rfl rfl rfl
                  clear O D
                  exact ⟨wanted_of rfl rfl e93 rfl, by unfold execOp; simp only [ev e5]; rfl⟩
                refine StepsP.cons ?_ ?_
                · refine step_val (fun a wx hB O D => ?_)
                  have e10 : a.tmps[10]? = some (.int .i64 (k : Int)) := O 10 (by rfl)
                  obtain ⟨_, e93, rfl⟩ := D 13 _ _ _ (by decide) rfl rfl rfl
                  clear O D
                  exact ⟨wanted_of rfl rfl e93 rfl, by unfold execOp; simp only [ev e10]; rfl⟩
                refine StepsP.cons ?_ ?_
                · refine step_val (fun a wx hB O D => ?_)
                  obtain ⟨_, e99, rfl⟩ := D 19 _ _ _ (by decide) rfl rfl rfl
                  obtain ⟨_, e100, rfl⟩ := D 20 _ _ _ (by decide) rfl rfl rfl
                  obtain ⟨_, e93, rfl⟩ := D 13 _ _ _ (by decide) rfl rfl rfl
                  clear O D
                  exact ⟨wanted_of rfl rfl e93 rfl, by go_simp⟩
                refine StepsP.cons ?_ ?_
                · refine step_val (fun a wx hB O D => ?_)
                  obtain ⟨_, e101, rfl⟩ := D 21 _ _ _ (by decide) rfl rfl rfl
                  obtain ⟨_, e93, rfl⟩ := D 13 _ _ _ (by decide) rfl rfl rfl
                  clear O D
                  exact ⟨wanted_of rfl rfl e93 rfl, by go_simp⟩
                refine StepsP.cons ?_ ?_
                · refine step_val (fun a wx hB O D => ?_)
                  obtain ⟨_, e102, rfl⟩ := D 22 _ _ _ (by decide) rfl rfl rfl
                  obtain ⟨_, e93, rfl⟩ := D 13 _ _ _ (by decide) rfl rfl rfl
                  have f4 := (hB.cell (p := ⟨gb, k * 2 + 1, none⟩) hgu).trans r2
                  clear O D
                  exact ⟨wanted_of rfl rfl e93 rfl, by go_simp⟩
                refine StepsP.cons ?_ ?_
                · refine step_call (enters_of Try.func11 (by kernel_rfl) rfl) rfl rfl (fun a wx hB O D => ?_)
                  obtain ⟨_, e98, rfl⟩ := D 18 _ _ _ (by decide) rfl rfl rfl
                  obtain ⟨_, e103, rfl⟩ := D 23 _ _ _ (by decide) rfl rfl rfl
                  obtain ⟨_, e93, rfl⟩ := D 13 _ _ _ (by decide) rfl rfl rfl
                  refine ⟨wanted_of rfl rfl e93 rfl, #[.slice A2' (getP ps ii).e.length k2', .slice A4 (getP ps k).e.length k4], by simp only [List.map_toArray, List.map_cons, List.map_nil, ev e98, ev e103] <;> rfl, ?_⟩
                  exact (HAE.out _ hB).mono fun _ _ ⟨r, he, hb, hr⟩ => ⟨r, he, hb, hr.le hB.size⟩
                refine StepsP.cons ?_ ?_
                · refine step_val (fun a wx hB O D => ?_)
                  obtain ⟨v104, e104, s104⟩ := D 24 _ _ _ (by decide) rfl rfl rfl
                  obtain ⟨_, e93, rfl⟩ := D 13 _ _ _ (by decide) rfl rfl rfl
                  obtain ⟨_, _, rfl⟩ := ints_form (Row.ints s104)
                  clear O D
                  exact ⟨wanted_of rfl rfl e93 rfl, by go_simp⟩
                refine StepsP.cons ?_ ?_
                · refine step_val (fun a wx hB O D => ?_)
                  obtain ⟨_, e105, rfl⟩ := D 25 _ _ _ (by decide) rfl rfl rfl
                  obtain ⟨_, e93, rfl⟩ := D 13 _ _ _ (by decide) rfl rfl rfl
                  clear O D
                  exact ⟨wanted_of rfl rfl e93 rfl, by go_simp⟩
                refine StepsP.cons ?_ ?_
                · refine step_val (fun a wx hB O D => ?_)
                  obtain ⟨_, e93, rfl⟩ := D 13 _ _ _ (by decide) rfl rfl rfl
                  obtain ⟨_, e106, rfl⟩ := D 26 _ _ _ (by decide) rfl rfl rfl
                  clear O D
                  exact ⟨rfl, by go_simp⟩
                exact StepsP.nil
              · intro wz hZ
                refine EndP.is ?_
                refine EndP.is ?_
                refine EndP.is ?_
                refine EndP.is ?_
                refine EndP.is ?_
                refine EndP.is ?_
                refine EndP.is ?_
                refine EndP.is ?_
                refine EndP.is ?_
                refine EndP.is ?_
                refine EndP.sp rfl (fun v90 s90 => ?_)
                refine EndP.is ?_
                refine EndP.is ?_
                refine EndP.is ?_
                refine EndP.is ?_
                refine EndP.is ?_
                refine EndP.is ?_
                refine EndP.is ?_
                refine EndP.is ?_
                refine EndP.is ?_
                refine EndP.is ?_
                refine EndP.is ?_
                refine EndP.is ?_
                refine EndP.is ?_
                refine EndP.sp rfl (fun v104 s104 => ?_)
                refine EndP.is ?_
                refine EndP.is ?_
                refine EndP.is ?_
                refine EndP.nil ?_
              -- behind 17
                refine wpList_nil ?_
                simp only [Act.put, List.setIfInBounds_toArray, List.set_cons_zero, List.set_cons_succ]
                have HBv := Lib.hid (HBk.out.trans (hZ.mono HBk.out.size))
                clear hZ s90 s104 HAV HAE s1 s2 r1 r2
                go_wp2
                go_roundw
                case rel => exact ⟨k + 1, by omega, by go_num, HBv⟩
                case measure => simp [Go.RowKit.intOf]; omega
            · obtain rfl : k = ii := by omega
              go_wp2
              go_roundw
              case rel => exact ⟨k + 1, by omega, by rw [HSV.out]; go_num, by rw [HSE.out]; go_num, by go_num, HPu, HBu⟩
              case measure => simp [Go.RowKit.intOf]; omega
      · obtain rfl : ii = ps.length := by omega
        have ev : ((ps.map Prt.v).take ps.length).flatten.length = p.v.length := by rw [← HF.out.vs, List.take_of_length_le (by simp)]
        have ee : ((ps.map Prt.e).take ps.length).flatten.length = p.e.length := by rw [← HF.out.es, List.take_of_length_le (by simp)]
        rw [ev, ee]
        have HJ := Lib.hid (joined_any _ _ g p wq (HG1.out.below HBq.out) (HP1.out.below HBq.out) (by omega) (by omega) (by omega))
        rw [HF.out.one] at HJ
        have c0 := (HB1.out.below HBq.out).c0
        have c1 := (HB1.out.below HBq.out).c1
        have d0 := (HB2.out.below HBq.out).c0
        have d1 := (HB2.out.below HBq.out).c1
        clear ev ee hv1 he1
        generalize ps.length = np at *
        by_cases hnp : np ≤ 1
        · rw [decide_eq_true hnp] at HJ
          have t1 : decide ((np : Int) ≤ 1) = true := decide_eq_true (by omega)
          go_wp2_with fail
          refine HJ.out.mono ?_
          rintro e w5 ⟨rfl, hB5⟩
          go_wp2
          go_ret
          exact ⟨rfl, trans2 HM.out (trans2 HBq.out hB5)⟩
        · rw [decide_eq_false hnp] at HJ
          have t1 : decide ((np : Int) ≤ 1) = false := decide_eq_false (by omega)
          go_wp2_with fail
          refine HJ.out.mono ?_
          rintro e w5 ⟨rfl, hB5⟩
          go_wp2
          go_ret
          exact ⟨rfl, trans2 HM.out (trans2 HBq.out hB5)⟩
  · refine (pieces_no _ _ g p w3 (HG1.out.below HB3.out) (HP1.out.below HB3.out) (by omega) (by omega) (by omega) hpp).mono ?_
    rintro e w4 ⟨rfl, hB4⟩
    have HB4 := Lib.hid (trans2 HB3.out hB4)
    have HJ := Lib.hid (joined_any _ _ g p w4 (HG1.out.below HB4.out) (HP1.out.below HB4.out) (by omega) (by omega) (by omega))
    rw [show joinedB g p = false by unfold joinedB; rw [decide_eq_false hpp, Bool.false_and]] at HJ
    clear hB4 c0 c1 d0 d1
    have c0 := (HB1.out.below HB4.out).c0
    have c1 := (HB1.out.below HB4.out).c1
    have d0 := (HB2.out.below HB4.out).c0
    have d1 := (HB2.out.below HB4.out).c1
    generalize perr g p = np at *
    have h0 : (np != 0) = true := bne_iff_ne.2 hpp
    clear hpp
    go_wp2_with fail
    refine HJ.out.mono ?_
    rintro e w5 ⟨rfl, hB5⟩
    go_wp2
    go_ret
    exact ⟨rfl, trans2 HM.out (trans2 HB4.out hB5)⟩
end Go.Proofs.Ytjnohnbppkhbaaa
