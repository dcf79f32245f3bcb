/-
  The program's Beyond, of a dart that leaves its vertex.
-/
import Derived.Test.YtjnohnbppkhbaaaWkC
import Derived.Laws.EntriesVeiled
namespace Go.Proofs.Ytjnohnbppkhbaaa
open Go.RowKit Go.Maps

variable {g : Gph} {p : Prt}

def cutF (ls : Nat → List Ed) (j i : Nat) : List Ed := if i = j then [] else ls i
theorem Mesh.cut {w : World} {base gb N : Nat} {us : Nat → Value} {ls : Nat → List Ed} (M : Mesh w base gb N us ls) {j : Nat} (hj : j < N) :
    Steps (w.setCell ⟨gb, j, none⟩ (.slice none 0 0)) (.slice (some ⟨gb, 0, none⟩) N N) N (cutF ls j) ∧ Below base w (w.setCell ⟨gb, j, none⟩ (.slice none 0 0)) := by
  refine ⟨⟨_, N, rfl, fun i hi => ?_⟩, (Below.refl base w).setCell (p := ⟨gb, j, none⟩) M.at_ _⟩
  have hz : gb < (w.setCell ⟨gb, j, none⟩ (.slice none 0 0)).heap.size := by rw [Deep.nblk_setCell]; exact M.lt
  by_cases e : i = j
  · subst e
    exact ⟨gb, .slice none 0 0, rfl, hz, World.cell?_setCell_same _ _ _ (M.cell i hi), by unfold cutF; rw [if_pos rfl]; exact Edges.nil⟩
  · refine ⟨gb, us i, rfl, hz, ?_, ?_⟩
    · rw [World.cell?_setCell_other _ _ _ _ (fun h => by simp only [Addr.mk.injEq] at h; omega)]
      exact M.cell i hi
    · unfold cutF
      rw [if_neg e]
      exact edges_own (own_block (M.row i hi) (fun g hg' => Below.heap_setCell _ _ _ _ (fun e2 => M.shun i hi (by rw [hg', e2])))) rfl

theorem cut_step (hp : perr g p = 0) {N : Nat} (hn : g.n = (N : Int)) {vn : Nat} (x y : Int) : StepR N (cutF (rowsOf g p) vn) x y ↔ StepBut g p (vn : Int) x y := by
  unfold StepBut
  rw [← step_nbr hp hn]
  unfold StepR adjOf cutF
  by_cases hx : 0 ≤ x ∧ x < (N : Int)
  · rw [if_pos hx, if_pos hx]
    by_cases e : x.toNat = vn
    · rw [if_pos e]
      constructor
      · intro h; cases h
      · intro h; exact absurd (show x = vn by omega) h.1
    · rw [if_neg e]
      exact ⟨fun h => ⟨by omega, h⟩, fun h => h.2⟩
  · rw [if_neg hx, if_neg hx]
    constructor
    · intro h; cases h
    · intro h; cases h.2
theorem cut_in (hp : perr g p = 0) {N : Nat} (hn : g.n = (N : Int)) (hl : p.e.length ≤ 100000) (vn : Nat) : ∀ j, j < N → (cutF (rowsOf g p) vn j).length ≤ 1000000 ∧ ∀ s ∈ cutF (rowsOf g p) vn j, 0 ≤ s.b ∧ s.b < N := fun j hj => by
  unfold cutF
  split
  · exact ⟨by simp, fun s hs => by cases hs⟩
  · exact rows_in hp hn hl j hj

open Classical in
theorem met_bey {v d : Int} {ts : List Int} {ds : List Nat} (F : FarOf (StepBut g p v) (headOf g d.toNat) ts ds) (x : Int) : metB ts v x = beyB g p v d x := by
  unfold metB beyB
  rw [Bool.eq_iff_iff, Bool.and_eq_true, decide_eq_true_iff, decide_eq_true_iff, decide_eq_true_iff, F.all]
theorem keepV_bey {v d : Int} {ts : List Int} {ds : List Nat} (F : FarOf (StepBut g p v) (headOf g d.toNat) ts ds) : p.v.filter (keepV ts v) = beyV g p v d := by
  unfold beyV
  refine List.filter_congr fun x _ => ?_
  unfold keepV
  rw [met_bey F]
theorem keepE_bey {v d : Int} {ts : List Int} {ds : List Nat} (F : FarOf (StepBut g p v) (headOf g d.toNat) ts ds) : p.e.filter (keepE g ts v d) = beyE g p v d := by
  unfold beyE
  refine List.filter_congr fun x _ => ?_
  unfold keepE
  rw [met_bey F, met_bey F]

theorem dart_ends (he : g.err = 0) {d : Int} (hd : 0 ≤ d ∧ d < 2 * (g.e.length : Int)) : (0 ≤ tailOf g d.toNat ∧ tailOf g d.toNat < g.n) ∧ (0 ≤ headOf g d.toNat ∧ headOf g d.toNat < g.n) := by
  have key : ∀ k : Nat, k < 2 * g.e.length → 0 ≤ tailOf g k ∧ tailOf g k < g.n := fun k hk => by
    have := err_ends he (k / 2) (by omega)
    unfold tailOf
    split
    · exact ⟨this.1, this.2.1⟩
    · exact ⟨this.2.2.1, this.2.2.2⟩
  refine ⟨key _ (by omega), key _ ?_⟩
  unfold twin
  split
  · omega
  · omega

set_option maxRecDepth 100000 in
set_option maxHeartbeats 4000000 in
theorem beyond_yes (u1 u2 : Value) (g : Gph) (p : Prt) (v d : Int) (w : World) (h : Gr w u1 g) (h' : Pt w u2 p) (hl : g.e.length ≤ 100000) (hp1 : p.v.length ≤ 100000) (hp2 : p.e.length ≤ 100000) (hok : BeyOk g p v d) :
    Calls Try.prog 20 #[u1, u2, .int .i64 v, .int .i64 d] w (BeyAns g p v d w) := by
  have HG := Lib.hid h
  have HP := Lib.hid h'
  have HN := Lib.hid (beyYes (w := w) hok)
  have HOK := Lib.hid hok
  obtain ⟨hpp, hd, ht, hde⟩ := hok
  have hup := (perr_rises hpp).2.2.1.up
  have he := (perr_rises hpp).1
  obtain ⟨N, hN⟩ : ∃ N : Nat, g.n = N := ⟨g.n.toNat, by have := err_n0 he; omega⟩
  have hN2 : N ≤ 1024 := by have := err_n he; omega
  have hends := dart_ends he hd
  rw [hN, ht] at hends
  obtain ⟨vn, rfl⟩ : ∃ vn : Nat, v = vn := ⟨v.toNat, by omega⟩
  have hvN : vn < N := by omega
  have hv0 : (0 : Int) ≤ (vn : Int) := by omega
  have hv1 : (vn : Int) < (N : Int) := by omega
  have HEO := Lib.hid (show endsOf g d = .tuple #[.int .i64 (vn : Int), .int .i64 (headOf g d.toNat), .bool true] from (if_pos ⟨he, hd⟩).trans (by rw [ht]))
  have HDE := Lib.hid (decide_eq_true hde)
  have hq := Int.tdiv_eq_ediv_of_nonneg (b := 2) hd.1
  have hq0 : 0 ≤ d.tdiv 2 := by rw [hq]; omega
  have hq1 : d.tdiv 2 ≤ 1000000 := by rw [hq]; omega
  have HNN := Lib.hid hN
  have HPP := Lib.hid hpp
  have HHD := Lib.hid hends.2
  obtain ⟨ve, rfl, h1⟩ := h
  obtain ⟨vv, vp, rfl, h2, h3⟩ := h'
  obtain ⟨Ae, ce, rfl⟩ := h1.form
  obtain ⟨Av, cv, rfl⟩ := ints_form h2
  obtain ⟨Ap, cp, rfl⟩ := ints_form h3
  obtain ⟨W, hW, X0, X1, cv0, cd0, X4, hm, hz⟩ := bey_boxes w (.int .i64 g.n) (.slice Ae g.e.length ce) (.slice Av p.v.length cv) (.slice Ap p.e.length cp) (.int .i64 (vn : Int)) (.int .i64 d) 24 27 3 27
  have HX0 := Lib.hid X0
  have HX1 := Lib.hid X1
  have HX4 := Lib.hid X4
  have HCV := Lib.hid cv0
  have HCD := Lib.hid cd0
  have HM := Lib.hid hm
  have HZ := Lib.hid hz
  have HI1 := Lib.hid h1
  have HI2 := Lib.hid h2
  have HI3 := Lib.hid h3
  have HR := Lib.hid (rightPart_any _ _ g p _ (HG.out.below hm) (HP.out.below hm) (by omega) (by omega) (by omega))
  rw [HPP.out] at HR
  have c0 := X0.c0
  have c1 := X0.c1
  have d0 := X1.c0
  have d1 := X1.c1
  clear h1 h2 h3 X0 X1 X4 hm cv0 cd0 hz hN hpp hde hends ht hq
  generalize hto : headOf g d.toNat = to at *
  have HTO := Lib.hid hto
  clear hto
  go_enter Try.func20, Try.ntmps20
  go_wp2_with fail
  refine HR.out.mono ?_
  rintro e w1 ⟨rfl, hb⟩
  have HM1 := Lib.hid (HM.out.trans (hb.mono HM.out.size))
  have HY0 := Lib.hid (HX0.out.below hb)
  have HY1 := Lib.hid (HX1.out.below hb)
  have HY4 := Lib.hid (HX4.out.below hb)
  have cv1 := (hb.cell (p := ⟨w.heap.size + 2, 0, none⟩) (by have := HZ.out; simp only; omega)).trans HCV.out
  have cd1 := (hb.cell (p := ⟨w.heap.size + 3, 0, none⟩) (by have := HZ.out; simp only; omega)).trans HCD.out
  have HZ1 := Lib.hid (show w.heap.size + 5 ≤ w1.heap.size by have := hb.size; have := HZ.out; omega)
  have c0' := HY0.out.c0
  have c1' := HY0.out.c1
  have HEN := Lib.hid (ends_any _ g d w1 (HG.out.below HM1.out) (by omega))
  rw [HEO.out] at HEN
  clear c0 c1 d0 d1 hb HR
  go_wp2_with fail
  refine HEN.out.mono ?_
  rintro e w2 ⟨rfl, hb⟩
  have HM2 := Lib.hid (HM1.out.trans (hb.mono HM1.out.size))
  have cv2 := (hb.cell (p := ⟨w.heap.size + 2, 0, none⟩) (by have := HZ1.out; simp only; omega)).trans cv1
  have cd2 := (hb.cell (p := ⟨w.heap.size + 3, 0, none⟩) (by have := HZ1.out; simp only; omega)).trans cd1
  have p0 := (HY1.out.below hb).c0
  have p1 := (HY1.out.below hb).c1
  have HW0 := Lib.hid (HY0.out.below hb)
  have HW1 := Lib.hid (HY1.out.below hb)
  have HW4 := Lib.hid (HY4.out.below hb)
  have HZ2 := Lib.hid (Nat.le_trans HZ1.out hb.size)
  clear c0' c1' cv1 cd1 hb HEN
  have HH := Lib.hid (has_any _ p.e (d.tdiv 2) w2 (HI3.out.below HM2.out) hup (by omega))
  rw [HDE.out] at HH
  go_wp2_with fail
  refine HH.out.mono ?_
  rintro e w3 ⟨rfl, hb⟩
  have HM3 := Lib.hid (HM2.out.trans (hb.mono HM2.out.size))
  have HV0 := Lib.hid (HW0.out.below hb)
  have HV1 := Lib.hid (HW1.out.below hb)
  have HV4 := Lib.hid (HW4.out.below hb)
  have HZ3 := Lib.hid (Nat.le_trans HZ2.out hb.size)
  have cv3 := (hb.cell (p := ⟨w.heap.size + 2, 0, none⟩) (by have := HZ2.out; simp only; omega)).trans cv2
  have cd3 := (hb.cell (p := ⟨w.heap.size + 3, 0, none⟩) (by have := HZ2.out; simp only; omega)).trans cd2
  have c0 := HV0.out.c0
  have c1 := HV0.out.c1
  have d0 := HV1.out.c0
  have d1 := HV1.out.c1
  have HS := Lib.hid (stepsOf_any _ _ g p N w3 (HG.out.below HM3.out) (HP.out.below HM3.out) HPP.out HNN.out (by omega) (by omega))
  clear hb HH p0 p1 cv2 cd2
  go_wp2_with fail
  refine HS.out.mono ?_
  rintro e w4 ⟨base, gb, us, rfl, hbase, hMe, hb⟩
  have HM4 := Lib.hid (HM3.out.trans (hb.mono HM3.out.size))
  obtain ⟨hcut, hbc⟩ := hMe.cut hvN
  have hb5 := hb.trans (hbc.mono hbase)
  have HU0 := Lib.hid (HV0.out.below hb5)
  have HU1 := Lib.hid (HV1.out.below hb5)
  have HU4 := Lib.hid (HV4.out.below hb5)
  have cv4 := (hb.cell (p := ⟨w.heap.size + 2, 0, none⟩) (by have := HZ3.out; simp only; omega)).trans cv3
  have cv5 := (hb5.cell (p := ⟨w.heap.size + 2, 0, none⟩) (by have := HZ3.out; simp only; omega)).trans cv3
  have cd5 := (hb5.cell (p := ⟨w.heap.size + 3, 0, none⟩) (by have := HZ3.out; simp only; omega)).trans cd3
  have HM5 := Lib.hid (HM3.out.trans (hb5.mono HM3.out.size))
  have hgc := hMe.cell vn hvN
  have hgf := hMe.thaw vn
  obtain ⟨w5, hw5⟩ : ∃ z, w4.setCell ⟨gb, vn, none⟩ (.slice none 0 0) = z := ⟨_, rfl⟩
  rw [hw5] at hcut hbc hb5 HU0 HU1 HU4 cv5 cd5 HM5
  have HMT := Lib.hid (meet_any w5 _ N (cutF (rowsOf g p) vn) to hcut HHD.out (cut_in HPP.out HNN.out hp2 vn) (by omega))
  have HCV5 := Lib.hid cv5
  have HCD5 := Lib.hid cd5
  have HZ5 := Lib.hid (Nat.le_trans HZ3.out hb5.size)
  clear hMe hb hb5 hcut hbc c0 c1 d0 d1 HS hbase cv3 cd3 cv5 cd5
  go_wp2_with fail
  refine HMT.out.mono ?_
  rintro e w6 ⟨D, ts, ds, rfl, hMp, hBf, hb⟩
  have HFo := Lib.hid (hBf.farOf (cut_step HPP.out HNN.out))
  rw [← HTO.out] at HFo
  have hba := below_alloc (w := w6) (.cells #[.map (some w5.heap.size)] 43)
  have hm1 := new_cell w6 (.map (some w5.heap.size)) 43
  have hz1 : (w6.alloc (.cells #[.map (some w5.heap.size)] 43)).heap.size = w6.heap.size + 1 := by simp
  have hf1 := new_cell (w6.alloc (.cells #[.map (some w5.heap.size)] 43)) (.func (.func 38) #[] #[.pointer (some ⟨w6.heap.size, 0, none⟩), .pointer (some ⟨w.heap.size + 1 + 1, 0, none⟩)]) 72
  have hba2 := below_alloc (w := w6.alloc (.cells #[.map (some w5.heap.size)] 43)) (.cells #[.func (.func 38) #[] #[.pointer (some ⟨w6.heap.size, 0, none⟩), .pointer (some ⟨w.heap.size + 1 + 1, 0, none⟩)]] 72)
  have hb7 := (hb.trans (hba.mono hb.size)).trans (hba2.mono (by rw [hz1]; have := hb.size; omega))
  rw [hz1] at hf1
  have hm2 := (hba2.cell (p := ⟨w6.heap.size, 0, none⟩) (by rw [hz1]; exact Nat.lt_succ_self _)).trans hm1
  have hMp7 := (hMp.below hba).below hba2
  have HM7 := Lib.hid (HM5.out.trans (hb7.mono HM5.out.size))
  have HT0 := Lib.hid (HU0.out.below hb7)
  have HT1 := Lib.hid (HU1.out.below hb7)
  have HT4 := Lib.hid (HU4.out.below hb7)
  have HZ7 := Lib.hid (Nat.le_trans HZ5.out hb7.size)
  have HENV := Lib.hid (Env.mk (B1 := w6.heap.size) (B2 := w.heap.size + 1 + 1) (B3 := w6.heap.size + 1) (B4 := w.heap.size + 1 + 1 + 1) (B5 := w.heap.size) hMp7 hm2 ((hb7.cell (p := ⟨w.heap.size + 2, 0, none⟩) (by have := HZ5.out; simp only; omega)).trans HCV5.out) hf1 ((hb7.cell (p := ⟨w.heap.size + 3, 0, none⟩) (by have := HZ5.out; simp only; omega)).trans HCD5.out) HT0.out.c1)
  have HZ8 := Lib.hid (show w.heap.size + 4 < w6.heap.size by have := hb.size; have := HZ5.out; omega)
  clear hba hm1 hf1 hba2 hb7 hm2 hMp7 hMp hBf hb cv4 hgc hgf hw5 HMT
  go_wp2_with fail
  have HWV := Lib.hid (show ∀ x ∈ p.v, (Lit.int .i64 x).wf = true from fun x hx => by
    have := (perr_rises HPP.out).2.1.mem hx
    rw [HNN.out] at this
    exact WalkArith.wf_i64 (by omega))
  have HWE := Lib.hid (show ∀ x ∈ p.e, (0 ≤ x ∧ x < g.e.length) ∧ (Lit.int .i64 (getE g.e x.toNat).a).wf = true ∧ (Lit.int .i64 (getE g.e x.toNat).b).wf = true from fun x hx => by
    have h1 := (perr_rises HPP.out).2.2.1.mem hx
    have h2 := err_ends he x.toNat (by omega)
    rw [HNN.out] at h2
    exact ⟨h1, WalkArith.wf_i64 (by omega), WalkArith.wf_i64 (by omega)⟩)
  have HBV := Lib.hid (keepV_bey HFo.out)
  have HBE := Lib.hid (keepE_bey HFo.out)
  generalize (w6.alloc (.cells #[.map (some w5.heap.size)] 43)).alloc (.cells #[.func (.func 38) #[] #[.pointer (some ⟨w6.heap.size, 0, none⟩), .pointer (some ⟨w.heap.size + 1 + 1, 0, none⟩)]] 72) = w7 at *
  -- the region
  refine wp_region_plan [is (.pointer (some ⟨w.heap.size + 1, 0, none⟩)), is (.slice Av p.v.length cv), is (.func (.func 40) #[] #[.pointer (some ⟨w.heap.size + 1 + 1, 0, none⟩), .pointer (some ⟨w6.heap.size + 1, 0, none⟩)]), spRow w7.heap.size (p.v.filter (keepV ts vn)), is (.pointer (some ⟨w.heap.size + 1, 1, none⟩)), is (.slice Ap p.e.length cp), is (.func (.func 41) #[] #[.pointer (some ⟨w.heap.size + 1 + 1 + 1, 0, none⟩), .pointer (some ⟨w6.heap.size + 1, 0, none⟩), .pointer (some ⟨w.heap.size, 0, none⟩)]), spRow w7.heap.size (p.e.filter (keepE g ts vn d)), spPair w7.heap.size ⟨p.v.filter (keepV ts vn), p.e.filter (keepE g ts vn d)⟩] (by kernel_rfl) (by kernel_rfl) ?_ ?_
  · skip
    refine StepsP.cons ?_ ?_
    · refine step_val (fun a wx hB O D => ?_)
      have e5 : a.tmps[5]? = some (.pointer (some ⟨w.heap.size + 1, 0, none⟩)) := O 5 (by rfl)
      clear O D
      exact ⟨rfl, by go_simp⟩
    refine StepsP.cons ?_ ?_
    · refine step_val (fun a wx hB O D => ?_)
      obtain ⟨_, e54, rfl⟩ := D 0 _ _ _ (by decide) rfl rfl rfl
      obtain ⟨c0, c1, _⟩ := HT1.out.below hB
      clear O D
      exact ⟨rfl, by go_simp⟩
    refine StepsP.cons ?_ ?_
    · refine step_val (fun a wx hB O D => ?_)
      have e6 : a.tmps[6]? = some (.pointer (some ⟨w.heap.size + 1 + 1, 0, none⟩)) := O 6 (by rfl)
      have e15 : a.tmps[15]? = some (.pointer (some ⟨w6.heap.size + 1, 0, none⟩)) := O 15 (by rfl)
      clear O D
      exact ⟨rfl, by go_simp⟩
    refine StepsP.cons ?_ ?_
    · refine step_call (enters_of Try.func39 (by kernel_rfl) rfl) rfl rfl (fun a wx hB O D => ?_)
      obtain ⟨_, e55, rfl⟩ := D 1 _ _ _ (by decide) rfl rfl rfl
      obtain ⟨_, e56, rfl⟩ := D 2 _ _ _ (by decide) rfl rfl rfl
      refine ⟨rfl, #[.slice Av p.v.length cv, .func (.func 40) #[] #[.pointer (some ⟨w.heap.size + 1 + 1, 0, none⟩), .pointer (some ⟨w6.heap.size + 1, 0, none⟩)]], by simp only [List.map_toArray, List.map_cons, List.map_nil, ev e55, ev e56] <;> rfl, ?_⟩
      exact keepV_base _ (keepV ts vn) _ p.v _ w7.heap.size hB.size (HI2.out.below (HM7.out.trans (hB.mono HM7.out.size))) (by omega) (fun wr x hx hbr => beyond2_any ((HENV.out.below hB).below hbr) x (HWV.out x hx))
    refine StepsP.cons ?_ ?_
    · refine step_val (fun a wx hB O D => ?_)
      have e5 : a.tmps[5]? = some (.pointer (some ⟨w.heap.size + 1, 0, none⟩)) := O 5 (by rfl)
      clear O D
      exact ⟨rfl, by go_simp⟩
    refine StepsP.cons ?_ ?_
    · refine step_val (fun a wx hB O D => ?_)
      obtain ⟨_, e58, rfl⟩ := D 4 _ _ _ (by decide) rfl rfl rfl
      obtain ⟨c0, c1, _⟩ := HT1.out.below hB
      clear O D
      exact ⟨rfl, by go_simp⟩
    refine StepsP.cons ?_ ?_
    · refine step_val (fun a wx hB O D => ?_)
      have e7 : a.tmps[7]? = some (.pointer (some ⟨w.heap.size + 1 + 1 + 1, 0, none⟩)) := O 7 (by rfl)
      have e15 : a.tmps[15]? = some (.pointer (some ⟨w6.heap.size + 1, 0, none⟩)) := O 15 (by rfl)
      have e4 : a.tmps[4]? = some (.pointer (some ⟨w.heap.size, 0, none⟩)) := O 4 (by rfl)
      clear O D
      exact ⟨rfl, by go_simp⟩
    refine StepsP.cons ?_ ?_
    · refine step_call (enters_of Try.func39 (by kernel_rfl) rfl) rfl rfl (fun a wx hB O D => ?_)
      obtain ⟨_, e59, rfl⟩ := D 5 _ _ _ (by decide) rfl rfl rfl
      obtain ⟨_, e60, rfl⟩ := D 6 _ _ _ (by decide) rfl rfl rfl
      refine ⟨rfl, #[.slice Ap p.e.length cp, .func (.func 41) #[] #[.pointer (some ⟨w.heap.size + 1 + 1 + 1, 0, none⟩), .pointer (some ⟨w6.heap.size + 1, 0, none⟩), .pointer (some ⟨w.heap.size, 0, none⟩)]], by simp only [List.map_toArray, List.map_cons, List.map_nil, ev e59, ev e60] <;> rfl, ?_⟩
      exact keepE_base _ (keepE g ts vn d) _ p.e _ w7.heap.size hB.size (HI3.out.below (HM7.out.trans (hB.mono HM7.out.size))) (by omega) (fun wr x hx hbr => beyond3_any ((HENV.out.below hB).below hbr) g (HI1.out.below (HM7.out.trans ((hB.trans (hbr.mono hB.size)).mono HM7.out.size))) x (HWE.out x hx).1 (by omega) (HWE.out x hx).2.1 (HWE.out x hx).2.2)
    refine StepsP.cons ?_ ?_
    · refine step_op rfl (fun a wx hB O D => ?_)
      obtain ⟨v57, e57, s57⟩ := D 3 _ _ _ (by decide) rfl rfl rfl
      obtain ⟨v61, e61, s61⟩ := D 7 _ _ _ (by decide) rfl rfl rfl
      obtain ⟨_, _, rfl⟩ := ints_form (Row.ints s57)
      obtain ⟨_, _, rfl⟩ := ints_form (Row.ints s61)
      clear O D
      refine ⟨rfl, _, by (go_simp; try rfl), ?_⟩
      exact ⟨_, _, rfl, s57, s61⟩
    exact StepsP.nil
  · intro wz hZ
    refine EndP.is ?_
    refine EndP.is ?_
    refine EndP.is ?_
    refine EndP.sp rfl (fun v57 s57 => ?_)
    refine EndP.is ?_
    refine EndP.is ?_
    refine EndP.is ?_
    refine EndP.sp rfl (fun v61 s61 => ?_)
    refine EndP.sp rfl (fun v62 s62 => ?_)
    refine EndP.nil ?_
  -- behind the region
    have z := HT4.out.below hZ
    have z0 := z.c0
    have z1 := z.c1
    have z2 := z.thaw 0
    have z3 := z.thaw 1
    obtain ⟨A5, c5, A6, c6, rfl, W2, hB2, hP⟩ := pair_stored2 s62 z (by have := HZ7.out; omega) (HM7.out.trans (hZ.mono HM7.out.size)) (show w.heap.size ≤ w.heap.size + 4 by omega)
    have HP2 := Lib.hid hP
    have HB2 := Lib.hid hB2
    have HWZ := Lib.hid W2
    clear hP hB2 hZ s57 s61 s62 W2 z
    go_wp2
    obtain ⟨v1, v2, e12, hr1, hr2⟩ := HP2.out
    have hsz : w.heap.size ≤ w7.heap.size := HM7.out.size
    have r1 := own_base (base' := w.heap.size) hr1 (fun g hg => Nat.le_trans hsz (World.ownsRow.lt hr1 g hg).1)
    have r2 := own_base (base' := w.heap.size) hr2 (fun g hg => Nat.le_trans hsz (World.ownsRow.lt hr2 g hg).1)
    simp only [Value.agg.injEq, Array.mk.injEq, List.cons.injEq, and_true] at e12
    obtain ⟨rfl, rfl⟩ := e12
    refine bodyPost_ret (v := .tuple #[.agg #[.slice A5 (p.v.filter (keepV ts vn)).length c5, .slice A6 (p.e.filter (keepE g ts vn d)).length c6], .bool true]) ?_ rfl (HN.out _ _ ⟨_, _, rfl, by rw [← HBV.out]; exact r1, by rw [← HBE.out]; exact r2, HB2.out⟩)
    simp [results, Try.results20, go_sem, HWZ.out.c0, HWZ.out.c1]

/-- Beyond's call answers what the document says. -/
theorem beyond_any (u1 u2 : Value) (g : Gph) (p : Prt) (v d : Int) (w : World) (h : Gr w u1 g) (h' : Pt w u2 p) (hl : g.e.length ≤ 100000) (hp1 : p.v.length ≤ 100000) (hp2 : p.e.length ≤ 100000) :
    Calls Try.prog 20 #[u1, u2, .int .i64 v, .int .i64 d] w (BeyAns g p v d w) := by
  by_cases hok : BeyOk g p v d
  · exact beyond_yes u1 u2 g p v d w h h' hl hp1 hp2 hok
  · exact beyond_no u1 u2 g p v d w h h' hl hp1 hp2 hok
end Go.Proofs.Ytjnohnbppkhbaaa
