/-
  WalkPaths: a shortest way is a way, as long as the document says, and the least: the law's call answers true at every input.
-/
import Derived.Test.YtjnohnbppkhbaaaWkK
import Derived.Test.YtjnohnbppkhbaaaWkG
namespace Go.Proofs.Ytjnohnbppkhbaaa
open Go.RowKit Go.Maps

variable {g : Gph} {p : Prt}

theorem steps_darts (g : Gph) (x : Int) : ∀ l, dartsL g x l = (stepL g x l).map Ed.a
  | [] => rfl
  | e :: l => by
    have h1 := steps_darts g x l
    simp only [dartsL, stepL, List.flatMap_cons, List.map_append] at h1 ⊢
    rw [h1]
    refine congrArg (· ++ _) ?_
    unfold dOf sOf
    split <;> split <;> rfl
/-- A step's dart. -/
theorem step_dart (hp : perr g p = 0) {x : Int} {s : Ed} (h : s ∈ stepL g x p.e) : (0 ≤ s.a ∧ s.a < 2 * (g.e.length : Int)) ∧ s.a.tdiv 2 ∈ p.e ∧ tailOf g s.a.toNat = x ∧ headOf g s.a.toNat = s.b := by
  obtain ⟨e, he, hc⟩ := (mem_stepL _ _ _ _).1 h
  have hr := (perr_rises hp).2.2.1.mem he
  obtain ⟨n, rfl⟩ : ∃ n : Nat, e = n := ⟨e.toNat, by omega⟩
  rw [Int.toNat_natCast] at hc
  rcases hc with ⟨h1, rfl⟩ | ⟨h1, rfl⟩
  · have e1 : (2 * (n : Int)).toNat = 2 * n := by omega
    refine ⟨⟨by simp only; omega, by simp only; omega⟩, ?_, ?_, ?_⟩
    · simp only
      rw [Int.tdiv_eq_ediv_of_nonneg (by omega), show (2 * (n : Int)) / 2 = n by omega]
      exact he
    · simp only [e1]
      unfold tailOf
      rw [if_pos (by omega), show 2 * n / 2 = n by omega]
      exact h1
    · simp only [e1]
      unfold headOf
      rw [twin_even (by omega)]
      unfold tailOf
      rw [if_neg (by omega), show (2 * n + 1) / 2 = n by omega]
  · have e1 : (2 * (n : Int) + 1).toNat = 2 * n + 1 := by omega
    refine ⟨⟨by simp only; omega, by simp only; omega⟩, ?_, ?_, ?_⟩
    · simp only
      rw [Int.tdiv_eq_ediv_of_nonneg (by omega), show (2 * (n : Int) + 1) / 2 = n by omega]
      exact he
    · simp only [e1]
      unfold tailOf
      rw [if_neg (by omega), show (2 * n + 1) / 2 = n by omega]
      exact h1
    · simp only [e1]
      unfold headOf
      rw [twin_odd (by omega), show 2 * n + 1 - 1 = 2 * n by omega]
      unfold tailOf
      rw [if_pos (by omega), show 2 * n / 2 = n by omega]

/-- One dart of a way. -/
theorem way_at (hp : perr g p = 0) {b x : Int} {l : List Int} {i : Nat} (hi : i < l.length) (h : Way g p b x (l.drop i)) :
    ∃ dn : Nat, getI l i = dn ∧ dn < 2 * g.e.length ∧ (dn : Int).tdiv 2 ∈ p.e ∧ tailOf g dn = x ∧ Way g p b (headOf g dn) (l.drop (i + 1)) ∧
      ∀ m : Nat, (m : Int) ∈ dartsL g x p.e → (m : Int) < (dn : Int) → m < 2 * g.e.length ∧ headOf g m ∈ p.v ∧ ¬ farI g p (headOf g m) b = ((l.length - i - 1 : Nat) : Int) := by
  have e0 : l.drop i = getI l i :: l.drop (i + 1) := by
    rw [List.drop_eq_getElem_cons hi, getI_of l i hi]
  rw [e0] at h
  obtain ⟨s, hs, hsa, hd1, hd2, hno, hw⟩ := h
  obtain ⟨h1, h2, h3, h4⟩ := step_dart hp hs
  obtain ⟨dn, hdn⟩ : ∃ dn : Nat, s.a = dn := ⟨s.a.toNat, by omega⟩
  rw [hdn, Int.toNat_natCast] at h3 h4
  rw [hdn] at h1 h2 hsa
  refine ⟨dn, hsa.symm, by omega, h2, h3, by rw [h4]; exact hw, fun m hm hlt => ?_⟩
  rw [steps_darts] at hm
  obtain ⟨r, hr, hrm⟩ := List.mem_map.1 hm
  obtain ⟨k1, k2, k3, k4⟩ := step_dart hp hr
  rw [hrm, Int.toNat_natCast] at k4
  rw [hrm] at k1
  have hrv : r.b ∈ p.v := ((step_in hr).ins hp).2
  refine ⟨by omega, by rw [k4]; exact hrv, fun hf => ?_⟩
  rw [k4] at hf
  have hd := (far_eq hp hrv _).1 hf
  refine hno r hr (by rw [hrm, ← hsa]; exact hlt) ?_
  rw [List.length_drop, show l.length - (i + 1) = l.length - i - 1 by omega]
  exact hd.symm (nbr_symm)

theorem far_no (hp : perr g p = 0) {a b : Int} (h : ¬ (perr g p = 0 ∧ b ∈ p.v ∧ Reach (Nbr g p) b a)) : farI g p a b = -1 := by
  by_cases ha : a ∈ p.v
  · by_cases hb : b ∈ p.v
    · rcases far_cases hp ha b with ⟨k, h1, _⟩ | ⟨_, h1⟩
      · exact absurd ⟨hp, hb, h1.reach.symm nbr_symm⟩ h
      · exact h1
    · exact far_out' hb
  · exact far_out ha
theorem far_yes (hp : perr g p = 0) {a b : Int} {l : List Int} (hb : b ∈ p.v) (h : Way g p b a l) : farI g p a b = (l.length : Int) :=
  far_dist hp (nbr_near hp hb h.dist.1) (h.dist.symm nbr_symm)

theorem w64 (n : Int) (h0 : -9223372036854775808 ≤ n) (h1 : n ≤ 9223372036854775807) : IntKind.i64.wrap n = n := by
  simp [IntKind.wrap, IntKind.bits, IntKind.signed]
  omega

set_option maxRecDepth 100000 in
set_option maxHeartbeats 8000000 in
theorem walkPaths_any (v : Value) (g : Gph) (u : Value) (p : Prt) (aa : Int) (bb : Int) (w : World) (h : Gr w v g) (h' : Pt w u p) (hlo : -9223372036854775808 ≤ aa) (hhi : aa ≤ 9223372036854775807) :
    Calls Try.prog 4 #[v, u, .int .i64 aa, .int .i64 bb] w fun e w' => e = .returned (.bool true) ∧ Below w.heap.size w w' := by
  have HG := Lib.hid h
  have HP := Lib.hid h'
  obtain ⟨ve, rfl, h1⟩ := h
  obtain ⟨vv, vp, rfl, h2, h3⟩ := h'
  obtain ⟨Ae, ce, rfl⟩ := h1.form
  obtain ⟨Av, cv, rfl⟩ := ints_form h2
  obtain ⟨Ap, cp, rfl⟩ := ints_form h3
  obtain ⟨b1, b2, hm⟩ := two_boxes w (.int .i64 g.n) (.slice Ae g.e.length ce) (.slice Av p.v.length cv) (.slice Ap p.e.length cp) 24 27
  have HB1 := Lib.hid b1
  have HB2 := Lib.hid b2
  have HM := Lib.hid hm
  have HG1 := Lib.hid (HG.out.below hm)
  have HP1 := Lib.hid (HP.out.below hm)
  have HI3 := Lib.hid (h3.below hm)
  clear b1 b2 hm h1 h2 h3 HG HP
  go_enter Try.func4, Try.ntmps4
  go_wp2_with fail
  generalize (w.alloc (.cells #[.int .i64 g.n, .slice Ae g.e.length ce] 24)).alloc (.cells #[.slice Av p.v.length cv, .slice Ap p.e.length cp] 27) = w1 at *
  refine (wawake_any w1).mono ?_
  rintro e w2 ⟨rfl, hB2⟩
  have c0 := (HB1.out.below hB2).c0
  have c1 := (HB1.out.below hB2).c1
  have d0 := (HB2.out.below hB2).c0
  have d1 := (HB2.out.below hB2).c1
  have HBB2 := Lib.hid hB2
  clear hB2
  go_wp2_with fail
  refine (small_any _ _ g p w2 (HG1.out.below HBB2.out) (HP1.out.below HBB2.out)).mono ?_
  rintro e w3 ⟨rfl, hB3⟩
  have HB3 := Lib.hid (trans2 HBB2.out hB3)
  clear hB3 c0 c1 d0 d1 HBB2
  by_cases hs : smallB g p = true
  case neg =>
    have e : smallI g p = 0 := if_neg hs
    rw [e]
    clear e hs
    go_wp2_with fail
    refine (wawake_any w3).mono ?_
    rintro e w4 ⟨rfl, hB4⟩
    go_wp2
    go_ret
    exact ⟨rfl, trans2 HM.out (trans2 HB3.out hB4)⟩
  have e : smallI g p = 1 := if_pos hs
  obtain ⟨hl, hp1, hp2, _⟩ := (of_decide_eq_true hs : g.e.length ≤ 60 ∧ p.v.length ≤ 60 ∧ p.e.length ≤ 60 ∧ ¬ (60 < g.n ∧ g.n ≤ 1024))
  rw [e]
  have c0 := (HB1.out.below HB3.out).c0
  have c1 := (HB1.out.below HB3.out).c1
  have d0 := (HB2.out.below HB3.out).c0
  have d1 := (HB2.out.below HB3.out).c1
  have hwa : (Lit.int .i64 aa).wf = true := WalkArith.wf_i64 (by omega)
  clear e hs
  go_wp2_with fail
  refine (path_any _ _ g p aa bb w3 (HG1.out.below HB3.out) (HP1.out.below HB3.out) (by omega) (by omega) (by omega) hwa).mono ?_
  rintro e w4 hpa
  by_cases hok : perr g p = 0 ∧ bb ∈ p.v ∧ Reach (Nbr g p) bb aa
  · obtain ⟨vl, l, rfl, hrow, hway, hB4⟩ := hpa.yes hok
    have HB4 := Lib.hid (trans2 HB3.out hB4)
    have HR := Lib.hid (rrightPart_any _ _ g p w4 (HG1.out.below HB4.out) (HP1.out.below HB4.out) (by omega) (by omega) (by omega))
    rw [hok.1] at HR
    have HOK := Lib.hid hok
    have HL := Lib.hid hrow.ints
    have HW := Lib.hid hway
    have hll : l.length ≤ 60 := Nat.le_trans (hway.dist.le_len hok.1 hok.2.1) hp1
    have HFA := Lib.hid (far_yes hok.1 hok.2.1 hway)
    obtain ⟨Al, cl, rfl⟩ := ints_form hrow.ints
    clear hpa hB4 c0 c1 d0 d1 HB3 hok hrow hway
    have c0 := (HB1.out.below HB4.out).c0
    have c1 := (HB1.out.below HB4.out).c1
    have d0 := (HB2.out.below HB4.out).c0
    have d1 := (HB2.out.below HB4.out).c1
    go_wp2_with fail
    refine HR.out.mono ?_
    rintro e w5 ⟨rfl, hB5⟩
    have HB5 := Lib.hid (trans2 HB4.out hB5)
    replace HL := Lib.hid (HL.out.below hB5)
    clear hB5 c0 c1 d0 d1 HR HB4
    have c0 := (HB1.out.below HB5.out).c0
    have c1 := (HB1.out.below HB5.out).c1
    have d0 := (HB2.out.below HB5.out).c0
    have d1 := (HB2.out.below HB5.out).c1
    go_wp2_with fail
    refine (rfar_any _ _ g p aa bb w5 (HG1.out.below HB5.out) (HP1.out.below HB5.out) HOK.out.1 (by omega) (by omega)).mono ?_
    rintro e w6 ⟨rfl, hB6⟩
    have HB6 := Lib.hid (trans2 HB5.out hB6)
    replace HL := Lib.hid (HL.out.below hB6)
    rw [HFA.out]
    clear hB6 c0 c1 d0 d1 HB5
    have hmx : max ((l.length : Nat) : Int) 0 = (l.length : Int) := by omega
    go_wp2
    clear hmx
    go_loopw [12, 13] (fun xv iv wr => ∃ (x : Int) (ii : Nat), ii ≤ l.length ∧ xv = .int .i64 x ∧ iv = .int .i64 ii ∧ Hid (Way g p bb x (l.drop ii)) ∧ Hid (Below w1.heap.size w1 wr) ∧ Hid (Ints wr (.slice Al l.length cl) l)) (fun _ iv _ => l.length - (Go.RowKit.intOf iv).toNat)
    case atStart => exact ⟨aa, 0, Nat.zero_le _, rfl, rfl, HW, HB6, HL⟩
    case round =>
      obtain ⟨x, ii, hi, rfl, rfl, hW, hB, hL⟩ := hrel
      obtain ⟨wq, hwq⟩ : ∃ z, z = wr := ⟨_, rfl⟩
      subst hwq
      have HBq := Lib.hid hB.out
      have HLq := Lib.hid hL.out
      have HWx := Lib.hid hW.out
      clear hB hL hW
      by_cases hlt : ii < l.length
      · obtain ⟨dn, hdn, hdl, hde, htl, hnx, hno⟩ := way_at HOK.out.1 hlt HWx.out
        obtain ⟨lb, lo, rfl, hlb, hlc⟩ := ints_at HLq.out hlt
        rw [hdn] at hlc
        have HNX := Lib.hid hnx
        have HNO := Lib.hid hno
        have hq := Int.tdiv_eq_ediv_of_nonneg (a := (dn : Int)) (b := 2) (by omega)
        have hq0 : 0 ≤ (dn : Int).tdiv 2 := by rw [hq]; omega
        have hq1 : (dn : Int).tdiv 2 ≤ 1000000 := by rw [hq]; omega
        have HIN := Lib.hid (fun W (hb : Below wq.heap.size wq W) => by
          have := in_any _ p.e ((dn : Int).tdiv 2) W (HI3.out.below (HBq.out.trans (hb.mono HBq.out.size))) (by omega)
          rw [decide_eq_true hde] at this
          exact this)
        have HTL := Lib.hid (fun W (hb : Below wq.heap.size wq W) => by
          have := tail_any _ g dn W (HG1.out.below (HBq.out.trans (hb.mono HBq.out.size))) hdl (by omega)
          rw [htl] at this
          exact this)
        have t4 : decide ((dn : Int) < 0) = false := decide_eq_false (by omega)
        have t14 : decide (2 * (g.e.length : Int) ≤ (dn : Int)) = false := decide_eq_false (by omega)
        have t35 : (x != x) = false := by simp
        have t13 := w64 (2 * (g.e.length : Int)) (by omega) (by omega)
        have t23 := w64 ((dn : Int) / 2) (by omega) (by omega)
        have X0 := Lib.hid (HB1.out.below HBq.out)
        have X1 := Lib.hid (HB2.out.below HBq.out)
        have HDL := Lib.hid hdl
        have HDN := Lib.hid hdn
        have HMP := Lib.hid (show ∀ z ∈ dartsL g x p.e, 0 ≤ z from fun z hz => ((rises_darts g x p.e g.e.length (perr_rises HOK.out.1).2.2.1).mem hz).1)
        clear hno hnx hde htl hq hdn hdl
        go_wp2_with fail
        -- region 13
        refine wp_region_plan [is (.slice (some ⟨lb, lo, none⟩) l.length cl), is (.int .i64 (ii : Int)), is (.pointer (some ⟨lb, lo + ii, none⟩)), is (.int .i64 (dn : Int)), is (.bool false), is (.bool false), is (.slice (some ⟨lb, lo, none⟩) l.length cl), is (.int .i64 (ii : Int)), is (.pointer (some ⟨lb, lo + ii, none⟩)), is (.int .i64 (dn : Int)), is (.pointer (some ⟨w.heap.size, 1, none⟩)), is (.slice Ae g.e.length ce), is (.int .i64 g.e.length), is (.int .i64 (2 * (g.e.length : Int))), is (.bool false), is (.bool false), is (.bool false), is (.pointer (some ⟨w.heap.size + 1, 1, none⟩)), is (.slice Ap p.e.length cp), is (.slice (some ⟨lb, lo, none⟩) l.length cl), is (.int .i64 (ii : Int)), is (.pointer (some ⟨lb, lo + ii, none⟩)), is (.int .i64 (dn : Int)), is (.int .i64 ((dn : Int).tdiv 2)), is (.bool true), is (.bool false), is (.bool false), is (.bool false), is (.agg #[.int .i64 g.n, .slice Ae g.e.length ce]), is (.slice (some ⟨lb, lo, none⟩) l.length cl), is (.int .i64 (ii : Int)), is (.pointer (some ⟨lb, lo + ii, none⟩)), is (.int .i64 (dn : Int)), is (.int .i64 x), is (.int .i64 x), is (.bool false), is (.bool false)] (by kernel_rfl) (by kernel_rfl) ?_ ?_
        · skip
          refine StepsP.cons ?_ ?_
          · refine step_val (fun a wx hB O D => ?_)
            have e9 : a.tmps[9]? = some (.slice (some ⟨lb, lo, none⟩) l.length cl) := O 9 (by rfl)
            clear O D
            exact ⟨rfl, by unfold execOp; simp only [ev e9]; rfl⟩
          refine StepsP.cons ?_ ?_
          · refine step_val (fun a wx hB O D => ?_)
            have e13 : a.tmps[13]? = some (.int .i64 (ii : Int)) := O 13 (by rfl)
            clear O D
            exact ⟨rfl, by unfold execOp; simp only [ev e13]; rfl⟩
          refine StepsP.cons ?_ ?_
          · refine step_val (fun a wx hB O D => ?_)
            obtain ⟨_, e67, rfl⟩ := D 0 _ _ _ (by decide) rfl rfl rfl
            obtain ⟨_, e68, rfl⟩ := D 1 _ _ _ (by decide) rfl rfl rfl
            clear O D
            exact ⟨rfl, by go_simp⟩
          refine StepsP.cons ?_ ?_
          · refine step_val (fun a wx hB O D => ?_)
            obtain ⟨_, e69, rfl⟩ := D 2 _ _ _ (by decide) rfl rfl rfl
            have q0 := (hB.cell (p := ⟨lb, lo + ii, none⟩) hlb).trans hlc
            clear O D
            exact ⟨rfl, by go_simp⟩
          refine StepsP.cons ?_ ?_
          · refine step_val (fun a wx hB O D => ?_)
            obtain ⟨_, e70, rfl⟩ := D 3 _ _ _ (by decide) rfl rfl rfl
            clear O D
            exact ⟨rfl, by go_simp⟩
          refine StepsP.cons ?_ ?_
          · refine step_val (fun a wx hB O D => ?_)
            obtain ⟨_, e71, rfl⟩ := D 4 _ _ _ (by decide) rfl rfl rfl
            clear O D
            exact ⟨rfl, by unfold execOp; simp only [ev e71]; rfl⟩
          refine StepsP.cons ?_ ?_
          · refine step_val (fun a wx hB O D => ?_)
            have e9 : a.tmps[9]? = some (.slice (some ⟨lb, lo, none⟩) l.length cl) := O 9 (by rfl)
            obtain ⟨_, e72, rfl⟩ := D 5 _ _ _ (by decide) rfl rfl rfl
            clear O D
            exact ⟨wanted_of rfl rfl e72 rfl, by unfold execOp; simp only [ev e9]; rfl⟩
          refine StepsP.cons ?_ ?_
          · refine step_val (fun a wx hB O D => ?_)
            have e13 : a.tmps[13]? = some (.int .i64 (ii : Int)) := O 13 (by rfl)
            obtain ⟨_, e72, rfl⟩ := D 5 _ _ _ (by decide) rfl rfl rfl
            clear O D
            exact ⟨wanted_of rfl rfl e72 rfl, by unfold execOp; simp only [ev e13]; rfl⟩
          refine StepsP.cons ?_ ?_
          · refine step_val (fun a wx hB O D => ?_)
            obtain ⟨_, e73, rfl⟩ := D 6 _ _ _ (by decide) rfl rfl rfl
            obtain ⟨_, e74, rfl⟩ := D 7 _ _ _ (by decide) rfl rfl rfl
            obtain ⟨_, e72, rfl⟩ := D 5 _ _ _ (by decide) rfl rfl rfl
            clear O D
            exact ⟨wanted_of rfl rfl e72 rfl, by go_simp⟩
          refine StepsP.cons ?_ ?_
          · refine step_val (fun a wx hB O D => ?_)
            obtain ⟨_, e75, rfl⟩ := D 8 _ _ _ (by decide) rfl rfl rfl
            obtain ⟨_, e72, rfl⟩ := D 5 _ _ _ (by decide) rfl rfl rfl
            have q0 := (hB.cell (p := ⟨lb, lo + ii, none⟩) hlb).trans hlc
            clear O D
            exact ⟨wanted_of rfl rfl e72 rfl, by go_simp⟩
          refine StepsP.cons ?_ ?_
          · refine step_val (fun a wx hB O D => ?_)
            have e4 : a.tmps[4]? = some (.pointer (some ⟨w.heap.size, 0, none⟩)) := O 4 (by rfl)
            obtain ⟨_, e72, rfl⟩ := D 5 _ _ _ (by decide) rfl rfl rfl
            clear O D
            exact ⟨wanted_of rfl rfl e72 rfl, by go_simp⟩
          refine StepsP.cons ?_ ?_
          · refine step_val (fun a wx hB O D => ?_)
            obtain ⟨_, e77, rfl⟩ := D 10 _ _ _ (by decide) rfl rfl rfl
            obtain ⟨_, e72, rfl⟩ := D 5 _ _ _ (by decide) rfl rfl rfl
            obtain ⟨c0, c1, _⟩ := X0.out.below hB
            clear O D
            exact ⟨wanted_of rfl rfl e72 rfl, by go_simp⟩
          refine StepsP.cons ?_ ?_
          · refine step_val (fun a wx hB O D => ?_)
            obtain ⟨_, e78, rfl⟩ := D 11 _ _ _ (by decide) rfl rfl rfl
            obtain ⟨_, e72, rfl⟩ := D 5 _ _ _ (by decide) rfl rfl rfl
            clear O D
            exact ⟨wanted_of rfl rfl e72 rfl, by go_simp⟩
          refine StepsP.cons ?_ ?_
          · refine step_val (fun a wx hB O D => ?_)
            obtain ⟨_, e79, rfl⟩ := D 12 _ _ _ (by decide) rfl rfl rfl
            obtain ⟨_, e72, rfl⟩ := D 5 _ _ _ (by decide) rfl rfl rfl
            clear O D
            exact ⟨wanted_of rfl rfl e72 rfl, by go_simp⟩
          refine StepsP.cons ?_ ?_
          · refine step_val (fun a wx hB O D => ?_)
            obtain ⟨_, e76, rfl⟩ := D 9 _ _ _ (by decide) rfl rfl rfl
            obtain ⟨_, e80, rfl⟩ := D 13 _ _ _ (by decide) rfl rfl rfl
            obtain ⟨_, e72, rfl⟩ := D 5 _ _ _ (by decide) rfl rfl rfl
            clear O D
            exact ⟨wanted_of rfl rfl e72 rfl, by go_simp⟩
          refine StepsP.cons ?_ ?_
          · refine step_val (fun a wx hB O D => ?_)
            obtain ⟨_, e72, rfl⟩ := D 5 _ _ _ (by decide) rfl rfl rfl
            obtain ⟨_, e81, rfl⟩ := D 14 _ _ _ (by decide) rfl rfl rfl
            clear O D
            exact ⟨rfl, by go_simp⟩
          refine StepsP.cons ?_ ?_
          · refine step_val (fun a wx hB O D => ?_)
            obtain ⟨_, e82, rfl⟩ := D 15 _ _ _ (by decide) rfl rfl rfl
            clear O D
            exact ⟨rfl, by unfold execOp; simp only [ev e82]; rfl⟩
          refine StepsP.cons ?_ ?_
          · refine step_val (fun a wx hB O D => ?_)
            have e5 : a.tmps[5]? = some (.pointer (some ⟨w.heap.size + 1, 0, none⟩)) := O 5 (by rfl)
            obtain ⟨_, e83, rfl⟩ := D 16 _ _ _ (by decide) rfl rfl rfl
            clear O D
            exact ⟨wanted_of rfl rfl e83 rfl, by go_simp⟩
          refine StepsP.cons ?_ ?_
          · refine step_val (fun a wx hB O D => ?_)
            obtain ⟨_, e84, rfl⟩ := D 17 _ _ _ (by decide) rfl rfl rfl
            obtain ⟨_, e83, rfl⟩ := D 16 _ _ _ (by decide) rfl rfl rfl
            obtain ⟨c0, c1, _⟩ := X1.out.below hB
            clear O D
            exact ⟨wanted_of rfl rfl e83 rfl, by go_simp⟩
          refine StepsP.cons ?_ ?_
          · refine step_val (fun a wx hB O D => ?_)
            have e9 : a.tmps[9]? = some (.slice (some ⟨lb, lo, none⟩) l.length cl) := O 9 (by rfl)
            obtain ⟨_, e83, rfl⟩ := D 16 _ _ _ (by decide) rfl rfl rfl
            clear O D
            exact ⟨wanted_of rfl rfl e83 rfl, by unfold execOp; simp only [ev e9]; rfl⟩
          refine StepsP.cons ?_ ?_
          · refine step_val (fun a wx hB O D => ?_)
            have e13 : a.tmps[13]? = some (.int .i64 (ii : Int)) := O 13 (by rfl)
            obtain ⟨_, e83, rfl⟩ := D 16 _ _ _ (by decide) rfl rfl rfl
            clear O D
            exact ⟨wanted_of rfl rfl e83 rfl, by unfold execOp; simp only [ev e13]; rfl⟩
          refine StepsP.cons ?_ ?_
          · refine step_val (fun a wx hB O D => ?_)
            obtain ⟨_, e86, rfl⟩ := D 19 _ _ _ (by decide) rfl rfl rfl
            obtain ⟨_, e87, rfl⟩ := D 20 _ _ _ (by decide) rfl rfl rfl
            obtain ⟨_, e83, rfl⟩ := D 16 _ _ _ (by decide) rfl rfl rfl
            clear O D
            exact ⟨wanted_of rfl rfl e83 rfl, by go_simp⟩
          refine StepsP.cons ?_ ?_
          · refine step_val (fun a wx hB O D => ?_)
            obtain ⟨_, e88, rfl⟩ := D 21 _ _ _ (by decide) rfl rfl rfl
            obtain ⟨_, e83, rfl⟩ := D 16 _ _ _ (by decide) rfl rfl rfl
            have q0 := (hB.cell (p := ⟨lb, lo + ii, none⟩) hlb).trans hlc
            clear O D
            exact ⟨wanted_of rfl rfl e83 rfl, by go_simp⟩
          refine StepsP.cons ?_ ?_
          · refine step_val (fun a wx hB O D => ?_)
            obtain ⟨_, e89, rfl⟩ := D 22 _ _ _ (by decide) rfl rfl rfl
            obtain ⟨_, e83, rfl⟩ := D 16 _ _ _ (by decide) rfl rfl rfl
            clear O D
            exact ⟨wanted_of rfl rfl e83 rfl, by go_simp⟩
          refine StepsP.cons ?_ ?_
          · refine step_call (enters_of Try.func15 (by kernel_rfl) rfl) rfl rfl (fun a wx hB O D => ?_)
            obtain ⟨_, e85, rfl⟩ := D 18 _ _ _ (by decide) rfl rfl rfl
            obtain ⟨_, e90, rfl⟩ := D 23 _ _ _ (by decide) rfl rfl rfl
            obtain ⟨_, e83, rfl⟩ := D 16 _ _ _ (by decide) rfl rfl rfl
            refine ⟨wanted_of rfl rfl e83 rfl, #[.slice Ap p.e.length cp, .int .i64 ((dn : Int).tdiv 2)], by simp only [List.map_toArray, List.map_cons, List.map_nil, ev e85, ev e90] <;> rfl, ?_⟩
            exact (HIN.out _ hB).mono fun _ _ ⟨he, hw⟩ => ⟨_, he, hw ▸ Below.refl _ _, rfl⟩
          refine StepsP.cons ?_ ?_
          · refine step_val (fun a wx hB O D => ?_)
            obtain ⟨_, e91, rfl⟩ := D 24 _ _ _ (by decide) rfl rfl rfl
            obtain ⟨_, e83, rfl⟩ := D 16 _ _ _ (by decide) rfl rfl rfl
            clear O D
            exact ⟨wanted_of rfl rfl e83 rfl, by go_simp⟩
          refine StepsP.cons ?_ ?_
          · refine step_val (fun a wx hB O D => ?_)
            obtain ⟨_, e83, rfl⟩ := D 16 _ _ _ (by decide) rfl rfl rfl
            obtain ⟨_, e92, rfl⟩ := D 25 _ _ _ (by decide) rfl rfl rfl
            clear O D
            exact ⟨rfl, by go_simp⟩
          refine StepsP.cons ?_ ?_
          · refine step_val (fun a wx hB O D => ?_)
            obtain ⟨_, e93, rfl⟩ := D 26 _ _ _ (by decide) rfl rfl rfl
            clear O D
            exact ⟨rfl, by unfold execOp; simp only [ev e93]; rfl⟩
          refine StepsP.cons ?_ ?_
          · refine step_val (fun a wx hB O D => ?_)
            have e4 : a.tmps[4]? = some (.pointer (some ⟨w.heap.size, 0, none⟩)) := O 4 (by rfl)
            obtain ⟨_, e94, rfl⟩ := D 27 _ _ _ (by decide) rfl rfl rfl
            obtain ⟨c0, c1, _⟩ := X0.out.below hB
            clear O D
            exact ⟨wanted_of rfl rfl e94 rfl, by go_simp⟩
          refine StepsP.cons ?_ ?_
          · refine step_val (fun a wx hB O D => ?_)
            have e9 : a.tmps[9]? = some (.slice (some ⟨lb, lo, none⟩) l.length cl) := O 9 (by rfl)
            obtain ⟨_, e94, rfl⟩ := D 27 _ _ _ (by decide) rfl rfl rfl
            clear O D
            exact ⟨wanted_of rfl rfl e94 rfl, by unfold execOp; simp only [ev e9]; rfl⟩
          refine StepsP.cons ?_ ?_
          · refine step_val (fun a wx hB O D => ?_)
            have e13 : a.tmps[13]? = some (.int .i64 (ii : Int)) := O 13 (by rfl)
            obtain ⟨_, e94, rfl⟩ := D 27 _ _ _ (by decide) rfl rfl rfl
            clear O D
            exact ⟨wanted_of rfl rfl e94 rfl, by unfold execOp; simp only [ev e13]; rfl⟩
          refine StepsP.cons ?_ ?_
          · refine step_val (fun a wx hB O D => ?_)
            obtain ⟨_, e96, rfl⟩ := D 29 _ _ _ (by decide) rfl rfl rfl
            obtain ⟨_, e97, rfl⟩ := D 30 _ _ _ (by decide) rfl rfl rfl
            obtain ⟨_, e94, rfl⟩ := D 27 _ _ _ (by decide) rfl rfl rfl
            clear O D
            exact ⟨wanted_of rfl rfl e94 rfl, by go_simp⟩
          refine StepsP.cons ?_ ?_
          · refine step_val (fun a wx hB O D => ?_)
            obtain ⟨_, e98, rfl⟩ := D 31 _ _ _ (by decide) rfl rfl rfl
            obtain ⟨_, e94, rfl⟩ := D 27 _ _ _ (by decide) rfl rfl rfl
            have q0 := (hB.cell (p := ⟨lb, lo + ii, none⟩) hlb).trans hlc
            clear O D
            exact ⟨wanted_of rfl rfl e94 rfl, by go_simp⟩
          refine StepsP.cons ?_ ?_
          · refine step_call (enters_of Try.func16 (by kernel_rfl) rfl) rfl rfl (fun a wx hB O D => ?_)
            obtain ⟨_, e95, rfl⟩ := D 28 _ _ _ (by decide) rfl rfl rfl
            obtain ⟨_, e99, rfl⟩ := D 32 _ _ _ (by decide) rfl rfl rfl
            obtain ⟨_, e94, rfl⟩ := D 27 _ _ _ (by decide) rfl rfl rfl
            refine ⟨wanted_of rfl rfl e94 rfl, #[.agg #[.int .i64 g.n, .slice Ae g.e.length ce], .int .i64 (dn : Int)], by simp only [List.map_toArray, List.map_cons, List.map_nil, ev e95, ev e99] <;> rfl, ?_⟩
            exact (HTL.out _ hB).mono fun _ _ ⟨he, hb⟩ => ⟨_, he, hb, rfl⟩
          refine StepsP.cons ?_ ?_
          · refine step_val (fun a wx hB O D => ?_)
            have e12 : a.tmps[12]? = some (.int .i64 x) := O 12 (by rfl)
            obtain ⟨_, e94, rfl⟩ := D 27 _ _ _ (by decide) rfl rfl rfl
            clear O D
            exact ⟨wanted_of rfl rfl e94 rfl, by unfold execOp; simp only [ev e12]; rfl⟩
          refine StepsP.cons ?_ ?_
          · refine step_val (fun a wx hB O D => ?_)
            obtain ⟨_, e100, rfl⟩ := D 33 _ _ _ (by decide) rfl rfl rfl
            obtain ⟨_, e101, rfl⟩ := D 34 _ _ _ (by decide) rfl rfl rfl
            obtain ⟨_, e94, rfl⟩ := D 27 _ _ _ (by decide) rfl rfl rfl
            clear O D
            exact ⟨wanted_of rfl rfl e94 rfl, by go_simp⟩
          refine StepsP.cons ?_ ?_
          · refine step_val (fun a wx hB O D => ?_)
            obtain ⟨_, e94, rfl⟩ := D 27 _ _ _ (by decide) rfl rfl rfl
            obtain ⟨_, e102, rfl⟩ := D 35 _ _ _ (by decide) rfl rfl rfl
            clear O D
            exact ⟨rfl, by go_simp⟩
          exact StepsP.nil
        · intro wz hZ
          refine EndP.is ?_
          refine EndP.is ?_
          refine EndP.is ?_
          refine EndP.is ?_
          refine EndP.is ?_
          refine EndP.is ?_
          refine EndP.is ?_
          refine EndP.is ?_
          refine EndP.is ?_
          refine EndP.is ?_
          refine EndP.is ?_
          refine EndP.is ?_
          refine EndP.is ?_
          refine EndP.is ?_
          refine EndP.is ?_
          refine EndP.is ?_
          refine EndP.is ?_
          refine EndP.is ?_
          refine EndP.is ?_
          refine EndP.is ?_
          refine EndP.is ?_
          refine EndP.is ?_
          refine EndP.is ?_
          refine EndP.is ?_
          refine EndP.is ?_
          refine EndP.is ?_
          refine EndP.is ?_
          refine EndP.is ?_
          refine EndP.is ?_
          refine EndP.is ?_
          refine EndP.is ?_
          refine EndP.is ?_
          refine EndP.is ?_
          refine EndP.is ?_
          refine EndP.is ?_
          refine EndP.is ?_
          refine EndP.is ?_
          refine EndP.nil ?_
        -- behind 13
          refine wpList_nil ?_
          simp only [Act.put, List.setIfInBounds_toArray, List.set_cons_zero, List.set_cons_succ]
          have HBz := Lib.hid (HBq.out.trans (hZ.mono HBq.out.size))
          have HLz := Lib.hid (HLq.out.below hZ)
          have c0 := (X0.out.below hZ).c0
          have c1 := (X0.out.below hZ).c1
          have e0 := (X1.out.below hZ).c0
          have e1 := (X1.out.below hZ).c1
          have HDT := Lib.hid (rdarts_any _ _ g p x wz (HG1.out.below HBz.out) (HP1.out.below HBz.out) (by omega) (by omega) (perr_rises HOK.out.1).2.2.1)
          clear hZ HIN HTL X0 X1 t4 t14 t35 t13 t23
          go_wp2_with fail
          refine HDT.out.mono ?_
          rintro e wy ⟨mv, rfl, hby, hmr⟩
          have HMI := Lib.hid hmr.ints
          have HBy := Lib.hid (HBz.out.trans (hby.mono HBz.out.size))
          have HLy := Lib.hid (HLz.out.below hby)
          have hml : (dartsL g x p.e).length ≤ 120 := by have := dartsL_len g x p.e; omega
          generalize dartsL g x p.e = ml at *
          obtain ⟨Am, cm, rfl⟩ := ints_form hmr.ints
          clear hby hmr c0 c1 e0 e1 HDT HLz HBz
          go_wp2
          go_loopw [15] (fun kv wr => ∃ k : Nat, k ≤ ml.length ∧ kv = .int .i64 k ∧ Hid (Below wy.heap.size wy wr)) (fun kv _ => ml.length - (Go.RowKit.intOf kv).toNat)
          case atStart => exact ⟨0, Nat.zero_le _, rfl, Lib.hid (Below.refl _ _)⟩
          case round =>
            obtain ⟨k, hk, rfl, hB⟩ := hrel
            obtain ⟨wu, hwu⟩ : ∃ z, z = wr := ⟨_, rfl⟩
            subst hwu
            have HBu := Lib.hid (HBy.out.trans (hB.out.mono HBy.out.size))
            have HLu := Lib.hid (HLy.out.below hB.out)
            have HMu := Lib.hid (HMI.out.below hB.out)
            have X0 := Lib.hid (HB1.out.below HBu.out)
            have X1 := Lib.hid (HB2.out.below HBu.out)
            obtain ⟨lb2, lo2, e2, hlb2, hlc2⟩ := ints_at HLu.out hlt
            cases e2
            rw [show getI l ii = (dn : Int) from HDN.out] at hlc2
            by_cases hkl : k < ml.length
            · obtain ⟨mb, mo, rfl, hmb, hmc⟩ := ints_at HMu.out hkl
              have hmem : getI ml k ∈ ml := (mem_getI _ _).2 ⟨k, hkl, rfl⟩
              obtain ⟨mk, hmk⟩ : ∃ mk : Nat, getI ml k = mk := ⟨(getI ml k).toNat, by have := HMP.out _ hmem; omega⟩
              rw [hmk] at hmc hmem
              have HNOK := Lib.hid (HNO.out mk hmem)
              clear hmem hmk
              by_cases hl2 : (mk : Int) < (dn : Int)
              · obtain ⟨n1, n2, n3⟩ := HNOK.out hl2
                have t8 : decide ((mk : Int) < (dn : Int)) = true := decide_eq_true hl2
                have t9 : mk < dn := by omega
                have t24 : (farI g p (headOf g mk) bb == (l.length : Int) - (ii : Int) - 1) = false := beq_eq_false_iff_ne.2 (fun h => n3 (h.trans (by omega)))
                have t22 := w64 ((l.length : Int) - (ii : Int)) (by omega) (by omega)
                have t23 := w64 ((l.length : Int) - (ii : Int) - 1) (by omega) (by omega)
                have HHD := Lib.hid (fun W (hb : Below wu.heap.size wu W) => head_any _ g mk W (HG1.out.below (HBu.out.trans (hb.mono HBu.out.size))) n1 (by omega))
                have HFR := Lib.hid (fun W (hb : Below wu.heap.size wu W) => rfar_any _ _ g p (headOf g mk) bb W (HG1.out.below (HBu.out.trans (hb.mono HBu.out.size))) (HP1.out.below (HBu.out.trans (hb.mono HBu.out.size))) HOK.out.1 (by omega) (by omega))
                clear n1 n2 n3 hl2
                go_wp2_with fail
                -- region 19
                refine wp_region_plan [is (.slice (some ⟨mb, mo, none⟩) ml.length cm), is (.int .i64 (k : Int)), is (.pointer (some ⟨mb, mo + k, none⟩)), is (.int .i64 (mk : Int)), is (.slice (some ⟨lb, lo, none⟩) l.length cl), is (.int .i64 (ii : Int)), is (.pointer (some ⟨lb, lo + ii, none⟩)), is (.int .i64 (dn : Int)), is (.bool true), is (.bool true), is (.agg #[.int .i64 g.n, .slice Ae g.e.length ce]), is (.agg #[.slice Av p.v.length cv, .slice Ap p.e.length cp]), is (.agg #[.int .i64 g.n, .slice Ae g.e.length ce]), is (.slice (some ⟨mb, mo, none⟩) ml.length cm), is (.int .i64 (k : Int)), is (.pointer (some ⟨mb, mo + k, none⟩)), is (.int .i64 (mk : Int)), is (.int .i64 (headOf g mk)), is (.int .i64 bb), is (.int .i64 (farI g p (headOf g mk) bb)), is (.int .i64 (l.length : Int)), is (.int .i64 (ii : Int)), is (.int .i64 ((l.length : Int) - (ii : Int))), is (.int .i64 ((l.length : Int) - (ii : Int) - 1)), is (.bool false), is (.bool false)] (by kernel_rfl) (by kernel_rfl) ?_ ?_
                · skip
                  refine StepsP.cons ?_ ?_
                  · refine step_val (fun a wx hB O D => ?_)
                    have e14 : a.tmps[14]? = some (.slice (some ⟨mb, mo, none⟩) ml.length cm) := O 14 (by rfl)
                    clear O D
                    exact ⟨rfl, by unfold execOp; simp only [ev e14]; rfl⟩
                  refine StepsP.cons ?_ ?_
                  · refine step_val (fun a wx hB O D => ?_)
                    have e15 : a.tmps[15]? = some (.int .i64 (k : Int)) := O 15 (by rfl)
                    clear O D
                    exact ⟨rfl, by unfold execOp; simp only [ev e15]; rfl⟩
                  refine StepsP.cons ?_ ?_
                  · refine step_val (fun a wx hB O D => ?_)
                    obtain ⟨_, e114, rfl⟩ := D 0 _ _ _ (by decide) rfl rfl rfl
                    obtain ⟨_, e115, rfl⟩ := D 1 _ _ _ (by decide) rfl rfl rfl
                    clear O D
                    exact ⟨rfl, by go_simp⟩
                  refine StepsP.cons ?_ ?_
                  · refine step_val (fun a wx hB O D => ?_)
                    obtain ⟨_, e116, rfl⟩ := D 2 _ _ _ (by decide) rfl rfl rfl
                    have q1 := (hB.cell (p := ⟨mb, mo + k, none⟩) hmb).trans hmc
                    clear O D
                    exact ⟨rfl, by go_simp⟩
                  refine StepsP.cons ?_ ?_
                  · refine step_val (fun a wx hB O D => ?_)
                    have e9 : a.tmps[9]? = some (.slice (some ⟨lb, lo, none⟩) l.length cl) := O 9 (by rfl)
                    clear O D
                    exact ⟨rfl, by unfold execOp; simp only [ev e9]; rfl⟩
                  refine StepsP.cons ?_ ?_
                  · refine step_val (fun a wx hB O D => ?_)
                    have e13 : a.tmps[13]? = some (.int .i64 (ii : Int)) := O 13 (by rfl)
                    clear O D
                    exact ⟨rfl, by unfold execOp; simp only [ev e13]; rfl⟩
                  refine StepsP.cons ?_ ?_
                  · refine step_val (fun a wx hB O D => ?_)
                    obtain ⟨_, e118, rfl⟩ := D 4 _ _ _ (by decide) rfl rfl rfl
                    obtain ⟨_, e119, rfl⟩ := D 5 _ _ _ (by decide) rfl rfl rfl
                    clear O D
                    exact ⟨rfl, by go_simp⟩
                  refine StepsP.cons ?_ ?_
                  · refine step_val (fun a wx hB O D => ?_)
                    obtain ⟨_, e120, rfl⟩ := D 6 _ _ _ (by decide) rfl rfl rfl
                    have q0 := (hB.cell (p := ⟨lb, lo + ii, none⟩) hlb2).trans hlc2
                    clear O D
                    exact ⟨rfl, by go_simp⟩
                  refine StepsP.cons ?_ ?_
                  · refine step_val (fun a wx hB O D => ?_)
                    obtain ⟨_, e117, rfl⟩ := D 3 _ _ _ (by decide) rfl rfl rfl
                    obtain ⟨_, e121, rfl⟩ := D 7 _ _ _ (by decide) rfl rfl rfl
                    clear O D
                    exact ⟨rfl, by go_simp⟩
                  refine StepsP.cons ?_ ?_
                  · refine step_val (fun a wx hB O D => ?_)
                    obtain ⟨_, e122, rfl⟩ := D 8 _ _ _ (by decide) rfl rfl rfl
                    clear O D
                    exact ⟨rfl, by unfold execOp; simp only [ev e122]; rfl⟩
                  refine StepsP.cons ?_ ?_
                  · refine step_val (fun a wx hB O D => ?_)
                    have e4 : a.tmps[4]? = some (.pointer (some ⟨w.heap.size, 0, none⟩)) := O 4 (by rfl)
                    obtain ⟨_, e123, rfl⟩ := D 9 _ _ _ (by decide) rfl rfl rfl
                    obtain ⟨c0, c1, _⟩ := X0.out.below hB
                    clear O D
                    exact ⟨wanted_of rfl rfl e123 rfl, by go_simp⟩
                  refine StepsP.cons ?_ ?_
                  · refine step_val (fun a wx hB O D => ?_)
                    have e5 : a.tmps[5]? = some (.pointer (some ⟨w.heap.size + 1, 0, none⟩)) := O 5 (by rfl)
                    obtain ⟨_, e123, rfl⟩ := D 9 _ _ _ (by decide) rfl rfl rfl
                    obtain ⟨c0, c1, _⟩ := X1.out.below hB
                    clear O D
                    exact ⟨wanted_of rfl rfl e123 rfl, by go_simp⟩
                  refine StepsP.cons ?_ ?_
                  · refine step_val (fun a wx hB O D => ?_)
                    have e4 : a.tmps[4]? = some (.pointer (some ⟨w.heap.size, 0, none⟩)) := O 4 (by rfl)
                    obtain ⟨_, e123, rfl⟩ := D 9 _ _ _ (by decide) rfl rfl rfl
                    obtain ⟨c0, c1, _⟩ := X0.out.below hB
                    clear O D
                    exact ⟨wanted_of rfl rfl e123 rfl, by go_simp⟩
                  refine StepsP.cons ?_ ?_
                  · refine step_val (fun a wx hB O D => ?_)
                    have e14 : a.tmps[14]? = some (.slice (some ⟨mb, mo, none⟩) ml.length cm) := O 14 (by rfl)
                    obtain ⟨_, e123, rfl⟩ := D 9 _ _ _ (by decide) rfl rfl rfl
                    clear O D
                    exact ⟨wanted_of rfl rfl e123 rfl, by unfold execOp; simp only [ev e14]; rfl⟩
                  refine StepsP.cons ?_ ?_
                  · refine step_val (fun a wx hB O D => ?_)
                    have e15 : a.tmps[15]? = some (.int .i64 (k : Int)) := O 15 (by rfl)
                    obtain ⟨_, e123, rfl⟩ := D 9 _ _ _ (by decide) rfl rfl rfl
                    clear O D
                    exact ⟨wanted_of rfl rfl e123 rfl, by unfold execOp; simp only [ev e15]; rfl⟩
                  refine StepsP.cons ?_ ?_
                  · refine step_val (fun a wx hB O D => ?_)
                    obtain ⟨_, e127, rfl⟩ := D 13 _ _ _ (by decide) rfl rfl rfl
                    obtain ⟨_, e128, rfl⟩ := D 14 _ _ _ (by decide) rfl rfl rfl
                    obtain ⟨_, e123, rfl⟩ := D 9 _ _ _ (by decide) rfl rfl rfl
                    clear O D
                    exact ⟨wanted_of rfl rfl e123 rfl, by go_simp⟩
                  refine StepsP.cons ?_ ?_
                  · refine step_val (fun a wx hB O D => ?_)
                    obtain ⟨_, e129, rfl⟩ := D 15 _ _ _ (by decide) rfl rfl rfl
                    obtain ⟨_, e123, rfl⟩ := D 9 _ _ _ (by decide) rfl rfl rfl
                    have q1 := (hB.cell (p := ⟨mb, mo + k, none⟩) hmb).trans hmc
                    clear O D
                    exact ⟨wanted_of rfl rfl e123 rfl, by go_simp⟩
                  refine StepsP.cons ?_ ?_
                  · refine step_call (enters_of Try.func18 (by kernel_rfl) rfl) rfl rfl (fun a wx hB O D => ?_)
                    obtain ⟨_, e126, rfl⟩ := D 12 _ _ _ (by decide) rfl rfl rfl
                    obtain ⟨_, e130, rfl⟩ := D 16 _ _ _ (by decide) rfl rfl rfl
                    obtain ⟨_, e123, rfl⟩ := D 9 _ _ _ (by decide) rfl rfl rfl
                    refine ⟨wanted_of rfl rfl e123 rfl, #[.agg #[.int .i64 g.n, .slice Ae g.e.length ce], .int .i64 (mk : Int)], by simp only [List.map_toArray, List.map_cons, List.map_nil, ev e126, ev e130] <;> rfl, ?_⟩
                    exact (HHD.out _ hB).mono fun _ _ ⟨he, hb⟩ => ⟨_, he, hb, rfl⟩
                  refine StepsP.cons ?_ ?_
                  · refine step_val (fun a wx hB O D => ?_)
                    have e3 : a.tmps[3]? = some (.int .i64 bb) := O 3 (by rfl)
                    obtain ⟨_, e123, rfl⟩ := D 9 _ _ _ (by decide) rfl rfl rfl
                    clear O D
                    exact ⟨wanted_of rfl rfl e123 rfl, by unfold execOp; simp only [ev e3]; rfl⟩
                  refine StepsP.cons ?_ ?_
                  · refine step_call (enters_of Try.func14 (by kernel_rfl) rfl) rfl rfl (fun a wx hB O D => ?_)
                    obtain ⟨_, e124, rfl⟩ := D 10 _ _ _ (by decide) rfl rfl rfl
                    obtain ⟨_, e125, rfl⟩ := D 11 _ _ _ (by decide) rfl rfl rfl
                    obtain ⟨_, e131, rfl⟩ := D 17 _ _ _ (by decide) rfl rfl rfl
                    obtain ⟨_, e132, rfl⟩ := D 18 _ _ _ (by decide) rfl rfl rfl
                    obtain ⟨_, e123, rfl⟩ := D 9 _ _ _ (by decide) rfl rfl rfl
                    refine ⟨wanted_of rfl rfl e123 rfl, #[.agg #[.int .i64 g.n, .slice Ae g.e.length ce], .agg #[.slice Av p.v.length cv, .slice Ap p.e.length cp], .int .i64 (headOf g mk), .int .i64 bb], by simp only [List.map_toArray, List.map_cons, List.map_nil, ev e124, ev e125, ev e131, ev e132] <;> rfl, ?_⟩
                    exact (HFR.out _ hB).mono fun _ _ ⟨he, hb⟩ => ⟨_, he, hb, rfl⟩
                  refine StepsP.cons ?_ ?_
                  · refine step_val (fun a wx hB O D => ?_)
                    have e11 : a.tmps[11]? = some (.int .i64 (l.length : Int)) := O 11 (by rfl)
                    obtain ⟨_, e123, rfl⟩ := D 9 _ _ _ (by decide) rfl rfl rfl
                    clear O D
                    exact ⟨wanted_of rfl rfl e123 rfl, by unfold execOp; simp only [ev e11]; rfl⟩
                  refine StepsP.cons ?_ ?_
                  · refine step_val (fun a wx hB O D => ?_)
                    have e13 : a.tmps[13]? = some (.int .i64 (ii : Int)) := O 13 (by rfl)
                    obtain ⟨_, e123, rfl⟩ := D 9 _ _ _ (by decide) rfl rfl rfl
                    clear O D
                    exact ⟨wanted_of rfl rfl e123 rfl, by unfold execOp; simp only [ev e13]; rfl⟩
                  refine StepsP.cons ?_ ?_
                  · refine step_val (fun a wx hB O D => ?_)
                    obtain ⟨_, e134, rfl⟩ := D 20 _ _ _ (by decide) rfl rfl rfl
                    obtain ⟨_, e135, rfl⟩ := D 21 _ _ _ (by decide) rfl rfl rfl
                    obtain ⟨_, e123, rfl⟩ := D 9 _ _ _ (by decide) rfl rfl rfl
                    clear O D
                    exact ⟨wanted_of rfl rfl e123 rfl, by go_simp⟩
                  refine StepsP.cons ?_ ?_
                  · refine step_val (fun a wx hB O D => ?_)
                    obtain ⟨_, e136, rfl⟩ := D 22 _ _ _ (by decide) rfl rfl rfl
                    obtain ⟨_, e123, rfl⟩ := D 9 _ _ _ (by decide) rfl rfl rfl
                    clear O D
                    exact ⟨wanted_of rfl rfl e123 rfl, by go_simp⟩
                  refine StepsP.cons ?_ ?_
                  · refine step_val (fun a wx hB O D => ?_)
                    obtain ⟨_, e133, rfl⟩ := D 19 _ _ _ (by decide) rfl rfl rfl
                    obtain ⟨_, e137, rfl⟩ := D 23 _ _ _ (by decide) rfl rfl rfl
                    obtain ⟨_, e123, rfl⟩ := D 9 _ _ _ (by decide) rfl rfl rfl
                    clear O D
                    exact ⟨wanted_of rfl rfl e123 rfl, by go_simp⟩
                  refine StepsP.cons ?_ ?_
                  · refine step_val (fun a wx hB O D => ?_)
                    obtain ⟨_, e123, rfl⟩ := D 9 _ _ _ (by decide) rfl rfl rfl
                    obtain ⟨_, e138, rfl⟩ := D 24 _ _ _ (by decide) rfl rfl rfl
                    clear O D
                    exact ⟨rfl, by go_simp⟩
                  exact StepsP.nil
                · intro wz hZ
                  refine EndP.is ?_
                  refine EndP.is ?_
                  refine EndP.is ?_
                  refine EndP.is ?_
                  refine EndP.is ?_
                  refine EndP.is ?_
                  refine EndP.is ?_
                  refine EndP.is ?_
                  refine EndP.is ?_
                  refine EndP.is ?_
                  refine EndP.is ?_
                  refine EndP.is ?_
                  refine EndP.is ?_
                  refine EndP.is ?_
                  refine EndP.is ?_
                  refine EndP.is ?_
                  refine EndP.is ?_
                  refine EndP.is ?_
                  refine EndP.is ?_
                  refine EndP.is ?_
                  refine EndP.is ?_
                  refine EndP.is ?_
                  refine EndP.is ?_
                  refine EndP.is ?_
                  refine EndP.is ?_
                  refine EndP.is ?_
                  refine EndP.nil ?_
                -- behind 19
                  refine wpList_nil ?_
                  simp only [Act.put, List.setIfInBounds_toArray, List.set_cons_zero, List.set_cons_succ]
                  have HBv := Lib.hid (hB.out.trans (hZ.mono hB.out.size))
                  clear hZ
                  go_wp2
                  go_roundw
                  case rel => exact ⟨k + 1, by omega, by go_num, HBv⟩
                  case measure => simp [Go.RowKit.intOf]; omega
              · have t8 : decide ((mk : Int) < (dn : Int)) = false := decide_eq_false hl2
                have t9 : dn ≤ mk := by omega
                clear hl2
                go_wp2_with fail
                -- region 19b
                refine wp_region_plan [is (.slice (some ⟨mb, mo, none⟩) ml.length cm), is (.int .i64 (k : Int)), is (.pointer (some ⟨mb, mo + k, none⟩)), is (.int .i64 (mk : Int)), is (.slice (some ⟨lb, lo, none⟩) l.length cl), is (.int .i64 (ii : Int)), is (.pointer (some ⟨lb, lo + ii, none⟩)), is (.int .i64 (dn : Int)), is (.bool false), is (.bool false), is undef, is undef, is undef, is undef, is undef, is undef, is undef, is undef, is undef, is undef, is undef, is undef, is undef, is undef, is undef, is (.bool false)] (by kernel_rfl) (by kernel_rfl) ?_ ?_
                · skip
                  refine StepsP.cons ?_ ?_
                  · refine step_val (fun a wx hB O D => ?_)
                    have e14 : a.tmps[14]? = some (.slice (some ⟨mb, mo, none⟩) ml.length cm) := O 14 (by rfl)
                    clear O D
                    exact ⟨rfl, by unfold execOp; simp only [ev e14]; rfl⟩
                  refine StepsP.cons ?_ ?_
                  · refine step_val (fun a wx hB O D => ?_)
                    have e15 : a.tmps[15]? = some (.int .i64 (k : Int)) := O 15 (by rfl)
                    clear O D
                    exact ⟨rfl, by unfold execOp; simp only [ev e15]; rfl⟩
                  refine StepsP.cons ?_ ?_
                  · refine step_val (fun a wx hB O D => ?_)
                    obtain ⟨_, e114, rfl⟩ := D 0 _ _ _ (by decide) rfl rfl rfl
                    obtain ⟨_, e115, rfl⟩ := D 1 _ _ _ (by decide) rfl rfl rfl
                    clear O D
                    exact ⟨rfl, by go_simp⟩
                  refine StepsP.cons ?_ ?_
                  · refine step_val (fun a wx hB O D => ?_)
                    obtain ⟨_, e116, rfl⟩ := D 2 _ _ _ (by decide) rfl rfl rfl
                    have q1 := (hB.cell (p := ⟨mb, mo + k, none⟩) hmb).trans hmc
                    clear O D
                    exact ⟨rfl, by go_simp⟩
                  refine StepsP.cons ?_ ?_
                  · refine step_val (fun a wx hB O D => ?_)
                    have e9 : a.tmps[9]? = some (.slice (some ⟨lb, lo, none⟩) l.length cl) := O 9 (by rfl)
                    clear O D
                    exact ⟨rfl, by unfold execOp; simp only [ev e9]; rfl⟩
                  refine StepsP.cons ?_ ?_
                  · refine step_val (fun a wx hB O D => ?_)
                    have e13 : a.tmps[13]? = some (.int .i64 (ii : Int)) := O 13 (by rfl)
                    clear O D
                    exact ⟨rfl, by unfold execOp; simp only [ev e13]; rfl⟩
                  refine StepsP.cons ?_ ?_
                  · refine step_val (fun a wx hB O D => ?_)
                    obtain ⟨_, e118, rfl⟩ := D 4 _ _ _ (by decide) rfl rfl rfl
                    obtain ⟨_, e119, rfl⟩ := D 5 _ _ _ (by decide) rfl rfl rfl
                    clear O D
                    exact ⟨rfl, by go_simp⟩
                  refine StepsP.cons ?_ ?_
                  · refine step_val (fun a wx hB O D => ?_)
                    obtain ⟨_, e120, rfl⟩ := D 6 _ _ _ (by decide) rfl rfl rfl
                    have q0 := (hB.cell (p := ⟨lb, lo + ii, none⟩) hlb2).trans hlc2
                    clear O D
                    exact ⟨rfl, by go_simp⟩
                  refine StepsP.cons ?_ ?_
                  · refine step_val (fun a wx hB O D => ?_)
                    obtain ⟨_, e117, rfl⟩ := D 3 _ _ _ (by decide) rfl rfl rfl
                    obtain ⟨_, e121, rfl⟩ := D 7 _ _ _ (by decide) rfl rfl rfl
                    clear O D
                    exact ⟨rfl, by go_simp⟩
                  refine StepsP.cons ?_ ?_
                  · refine step_val (fun a wx hB O D => ?_)
                    obtain ⟨_, e122, rfl⟩ := D 8 _ _ _ (by decide) rfl rfl rfl
                    clear O D
                    exact ⟨rfl, by unfold execOp; simp only [ev e122]; rfl⟩
                  refine StepsP.cons ?_ ?_
                  · exact step_skip rfl rfl rfl (by decide) rfl rfl rfl
                  refine StepsP.cons ?_ ?_
                  · exact step_skip rfl rfl rfl (by decide) rfl rfl rfl
                  refine StepsP.cons ?_ ?_
                  · exact step_skip rfl rfl rfl (by decide) rfl rfl rfl
                  refine StepsP.cons ?_ ?_
                  · exact step_skip rfl rfl rfl (by decide) rfl rfl rfl
                  refine StepsP.cons ?_ ?_
                  · exact step_skip rfl rfl rfl (by decide) rfl rfl rfl
                  refine StepsP.cons ?_ ?_
                  · exact step_skip rfl rfl rfl (by decide) rfl rfl rfl
                  refine StepsP.cons ?_ ?_
                  · exact step_skip rfl rfl rfl (by decide) rfl rfl rfl
                  refine StepsP.cons ?_ ?_
                  · exact step_skip rfl rfl rfl (by decide) rfl rfl rfl
                  refine StepsP.cons ?_ ?_
                  · exact step_skip rfl rfl rfl (by decide) rfl rfl rfl
                  refine StepsP.cons ?_ ?_
                  · exact step_skip rfl rfl rfl (by decide) rfl rfl rfl
                  refine StepsP.cons ?_ ?_
                  · exact step_skip rfl rfl rfl (by decide) rfl rfl rfl
                  refine StepsP.cons ?_ ?_
                  · exact step_skip rfl rfl rfl (by decide) rfl rfl rfl
                  refine StepsP.cons ?_ ?_
                  · exact step_skip rfl rfl rfl (by decide) rfl rfl rfl
                  refine StepsP.cons ?_ ?_
                  · exact step_skip rfl rfl rfl (by decide) rfl rfl rfl
                  refine StepsP.cons ?_ ?_
                  · exact step_skip rfl rfl rfl (by decide) rfl rfl rfl
                  refine StepsP.cons ?_ ?_
                  · refine step_val (fun a wx hB O D => ?_)
                    obtain ⟨_, e123, rfl⟩ := D 9 _ _ _ (by decide) rfl rfl rfl
                    obtain ⟨_, e138, rfl⟩ := D 24 _ _ _ (by decide) rfl rfl rfl
                    clear O D
                    exact ⟨rfl, by go_simp⟩
                  exact StepsP.nil
                · intro wz hZ
                  refine EndP.is ?_
                  refine EndP.is ?_
                  refine EndP.is ?_
                  refine EndP.is ?_
                  refine EndP.is ?_
                  refine EndP.is ?_
                  refine EndP.is ?_
                  refine EndP.is ?_
                  refine EndP.is ?_
                  refine EndP.is ?_
                  refine EndP.is ?_
                  refine EndP.is ?_
                  refine EndP.is ?_
                  refine EndP.is ?_
                  refine EndP.is ?_
                  refine EndP.is ?_
                  refine EndP.is ?_
                  refine EndP.is ?_
                  refine EndP.is ?_
                  refine EndP.is ?_
                  refine EndP.is ?_
                  refine EndP.is ?_
                  refine EndP.is ?_
                  refine EndP.is ?_
                  refine EndP.is ?_
                  refine EndP.is ?_
                  refine EndP.nil ?_
                -- behind 19b
                  refine wpList_nil ?_
                  simp only [Act.put, List.setIfInBounds_toArray, List.set_cons_zero, List.set_cons_succ]
                  have HBv := Lib.hid (hB.out.trans (hZ.mono hB.out.size))
                  clear hZ
                  go_wp2
                  go_roundw
                  case rel => exact ⟨k + 1, by omega, by go_num, HBv⟩
                  case measure => simp [Go.RowKit.intOf]; omega
            · obtain rfl : k = ml.length := by omega
              have HHE := Lib.hid (fun W (hb : Below wu.heap.size wu W) => head_any _ g dn W (HG1.out.below (HBu.out.trans (hb.mono HBu.out.size))) HDL.out (by omega))
              go_wp2_with fail
              -- region 21
              refine wp_region_plan [is (.agg #[.int .i64 g.n, .slice Ae g.e.length ce]), is (.slice (some ⟨lb, lo, none⟩) l.length cl), is (.int .i64 (ii : Int)), is (.pointer (some ⟨lb, lo + ii, none⟩)), is (.int .i64 (dn : Int)), is (.int .i64 (headOf g dn))] (by kernel_rfl) (by kernel_rfl) ?_ ?_
              · skip
                refine StepsP.cons ?_ ?_
                · refine step_val (fun a wx hB O D => ?_)
                  have e4 : a.tmps[4]? = some (.pointer (some ⟨w.heap.size, 0, none⟩)) := O 4 (by rfl)
                  obtain ⟨c0, c1, _⟩ := X0.out.below hB
                  clear O D
                  exact ⟨rfl, by go_simp⟩
                refine StepsP.cons ?_ ?_
                · refine step_val (fun a wx hB O D => ?_)
                  have e9 : a.tmps[9]? = some (.slice (some ⟨lb, lo, none⟩) l.length cl) := O 9 (by rfl)
                  clear O D
                  exact ⟨rfl, by unfold execOp; simp only [ev e9]; rfl⟩
                refine StepsP.cons ?_ ?_
                · refine step_val (fun a wx hB O D => ?_)
                  have e13 : a.tmps[13]? = some (.int .i64 (ii : Int)) := O 13 (by rfl)
                  clear O D
                  exact ⟨rfl, by unfold execOp; simp only [ev e13]; rfl⟩
                refine StepsP.cons ?_ ?_
                · refine step_val (fun a wx hB O D => ?_)
                  obtain ⟨_, e141, rfl⟩ := D 1 _ _ _ (by decide) rfl rfl rfl
                  obtain ⟨_, e142, rfl⟩ := D 2 _ _ _ (by decide) rfl rfl rfl
                  clear O D
                  exact ⟨rfl, by go_simp⟩
                refine StepsP.cons ?_ ?_
                · refine step_val (fun a wx hB O D => ?_)
                  obtain ⟨_, e143, rfl⟩ := D 3 _ _ _ (by decide) rfl rfl rfl
                  have q0 := (hB.cell (p := ⟨lb, lo + ii, none⟩) hlb2).trans hlc2
                  clear O D
                  exact ⟨rfl, by go_simp⟩
                refine StepsP.cons ?_ ?_
                · refine step_call (enters_of Try.func18 (by kernel_rfl) rfl) rfl rfl (fun a wx hB O D => ?_)
                  obtain ⟨_, e140, rfl⟩ := D 0 _ _ _ (by decide) rfl rfl rfl
                  obtain ⟨_, e144, rfl⟩ := D 4 _ _ _ (by decide) rfl rfl rfl
                  refine ⟨rfl, #[.agg #[.int .i64 g.n, .slice Ae g.e.length ce], .int .i64 (dn : Int)], by simp only [List.map_toArray, List.map_cons, List.map_nil, ev e140, ev e144] <;> rfl, ?_⟩
                  exact (HHE.out _ hB).mono fun _ _ ⟨he, hb⟩ => ⟨_, he, hb, rfl⟩
                exact StepsP.nil
              · intro wz hZ
                refine EndP.is ?_
                refine EndP.is ?_
                refine EndP.is ?_
                refine EndP.is ?_
                refine EndP.is ?_
                refine EndP.is ?_
                refine EndP.nil ?_
              -- behind 21
                have HBv := Lib.hid (HBu.out.trans (hZ.mono HBu.out.size))
                have HLv := Lib.hid (HLu.out.below hZ)
                clear hZ
                go_wp2
                go_roundw
                case rel => exact ⟨_, ii + 1, by omega, rfl, by go_num, HNX, HBv, HLv⟩
                case measure => simp [Go.RowKit.intOf]; omega
      · obtain rfl : ii = l.length := by omega
        have hxb : x = bb := by
          have := HWx.out
          rw [List.drop_length] at this
          exact this
        subst hxb
        go_wp2
        go_ret
        exact ⟨ret_bool (by simp), trans2 HM.out HBq.out⟩
  · obtain ⟨rfl, hB4⟩ := hpa.no hok
    have HB4 := Lib.hid (trans2 HB3.out hB4)
    have HR := Lib.hid (rrightPart_any _ _ g p w4 (HG1.out.below HB4.out) (HP1.out.below HB4.out) (by omega) (by omega) (by omega))
    clear hpa hB4 c0 c1 d0 d1 HB3
    have c0 := (HB1.out.below HB4.out).c0
    have c1 := (HB1.out.below HB4.out).c1
    have d0 := (HB2.out.below HB4.out).c0
    have d1 := (HB2.out.below HB4.out).c1
    go_wp2_with fail
    refine HR.out.mono ?_
    rintro e w5 ⟨rfl, hB5⟩
    have HB5 := Lib.hid (trans2 HB4.out hB5)
    clear hB5 c0 c1 d0 d1 HR HB4
    by_cases hp : perr g p = 0
    · have HFA := Lib.hid (far_no hp hok)
      have HPP := Lib.hid hp
      have c0 := (HB1.out.below HB5.out).c0
      have c1 := (HB1.out.below HB5.out).c1
      have d0 := (HB2.out.below HB5.out).c0
      have d1 := (HB2.out.below HB5.out).c1
      rw [hp]
      clear hp hok
      go_wp2_with fail
      refine (rfar_any _ _ g p aa bb w5 (HG1.out.below HB5.out) (HP1.out.below HB5.out) HPP.out (by omega) (by omega)).mono ?_
      rintro e w6 ⟨rfl, hB6⟩
      rw [HFA.out]
      go_wp2
      go_loopw [12, 13] (fun _ i wr => i = .int .i64 0 ∧ wr = w6) (fun _ _ _ => 0)
      case atStart => exact ⟨rfl, rfl⟩
      case round =>
        obtain ⟨rfl, rfl⟩ := hrel
        go_wp2
        go_ret
        exact ⟨rfl, trans2 HM.out (trans2 HB5.out hB6)⟩
    · generalize hnp : perr g p = np at *
      have h0 : (np != 0) = true := bne_iff_ne.2 hp
      clear hok hp hnp
      go_wp2
      go_ret
      exact ⟨rfl, trans2 HM.out HB5.out⟩
end Go.Proofs.Ytjnohnbppkhbaaa
