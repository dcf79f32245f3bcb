/-
  The program's Beyond.
-/
import Derived.Test.YtjnohnbppkhbaaaWkB
namespace Go.Proofs.Ytjnohnbppkhbaaa
open Go.RowKit Go.Maps

variable {g : Gph} {p : Prt}

/-- The edge of d is in p, and d leaves v. -/
def BeyOk (g : Gph) (p : Prt) (v d : Int) : Prop := perr g p = 0 ∧ (0 ≤ d ∧ d < 2 * (g.e.length : Int)) ∧ tailOf g d.toNat = v ∧ d.tdiv 2 ∈ p.e
/-- A step that doesn't leave v. -/
def StepBut (g : Gph) (p : Prt) (v x y : Int) : Prop := x ≠ v ∧ Nbr g p x y
open Classical in
/-- What is beyond d. -/
noncomputable def beyB (g : Gph) (p : Prt) (v d x : Int) : Bool := decide (Reach (StepBut g p v) (headOf g d.toNat) x ∧ x ≠ v)
noncomputable def beyV (g : Gph) (p : Prt) (v d : Int) : List Int := p.v.filter fun x => decide (x = v) || beyB g p v d x
noncomputable def beyE (g : Gph) (p : Prt) (v d : Int) : List Int := p.e.filter fun e => decide (e = d.tdiv 2) || (beyB g p v d (getE g.e e.toNat).a || beyB g p v d (getE g.e e.toNat).b)
open Classical in
/-- What Beyond answers. -/
def BeyAns (g : Gph) (p : Prt) (v d : Int) (w : World) (e : Ending) (w' : World) : Prop :=
  if BeyOk g p v d then ∃ u1 u2, e = .returned (.tuple #[.agg #[u1, u2], .bool true]) ∧ Row w' w.heap.size u1 (beyV g p v d) ∧ Row w' w.heap.size u2 (beyE g p v d) ∧ Below w.heap.size w w'
  else e = .returned (.tuple #[.agg #[.slice none 0 0, .slice none 0 0], .bool false]) ∧ Below w.heap.size w w'

theorem BeyAns.yes {v d : Int} {w w' : World} {e : Ending} (h : BeyAns g p v d w e w') (hp : BeyOk g p v d) : ∃ u1 u2, e = .returned (.tuple #[.agg #[u1, u2], .bool true]) ∧ Row w' w.heap.size u1 (beyV g p v d) ∧ Row w' w.heap.size u2 (beyE g p v d) ∧ Below w.heap.size w w' := by
  unfold BeyAns at h
  rw [if_pos hp] at h
  exact h
theorem BeyAns.no {v d : Int} {w w' : World} {e : Ending} (h : BeyAns g p v d w e w') (hn : ¬ BeyOk g p v d) : e = .returned (.tuple #[.agg #[.slice none 0 0, .slice none 0 0], .bool false]) ∧ Below w.heap.size w w' := by
  unfold BeyAns at h
  rw [if_neg hn] at h
  exact h
theorem beyNo {v d : Int} {w : World} (hn : ¬ BeyOk g p v d) : ∀ e w', (e = .returned (.tuple #[.agg #[.slice none 0 0, .slice none 0 0], .bool false]) ∧ Below w.heap.size w w') → BeyAns g p v d w e w' := fun e w' h => by
  unfold BeyAns
  rw [if_neg hn]
  exact h
theorem beyYes {v d : Int} {w : World} (hn : BeyOk g p v d) : ∀ e w', (∃ u1 u2, e = .returned (.tuple #[.agg #[u1, u2], .bool true]) ∧ Row w' w.heap.size u1 (beyV g p v d) ∧ Row w' w.heap.size u2 (beyE g p v d) ∧ Below w.heap.size w w') → BeyAns g p v d w e w' := fun e w' h => by
  unfold BeyAns
  rw [if_pos hn]
  exact h

theorem bey_boxes (w : World) (a1 a2 b1 b2 v d : Value) (ta tb ti tz : TypeId) :
    ∃ W, ((((w.alloc (.cells #[a1, a2] ta)).alloc (.cells #[b1, b2] tb)).alloc (.cells #[v] ti)).alloc (.cells #[d] ti)).alloc (.cells #[.slice none 0 0, .slice none 0 0] tz) = W ∧
      Box W w.heap.size a1 a2 ∧ Box W (w.heap.size + 1) b1 b2 ∧ W.cell? ⟨w.heap.size + 2, 0, none⟩ = some v ∧ W.cell? ⟨w.heap.size + 3, 0, none⟩ = some d ∧ Box W (w.heap.size + 4) (.slice none 0 0) (.slice none 0 0) ∧ Below w.heap.size w W ∧ W.heap.size = w.heap.size + 5 := by
  obtain ⟨h1, h2, hb⟩ := two_boxes w a1 a2 b1 b2 ta tb
  have hz : ((w.alloc (.cells #[a1, a2] ta)).alloc (.cells #[b1, b2] tb)).heap.size = w.heap.size + 2 := by simp
  generalize (w.alloc (.cells #[a1, a2] ta)).alloc (.cells #[b1, b2] tb) = W1 at *
  have k1 := below_alloc (w := W1) (.cells #[v] ti)
  have c1 := new_cell W1 v ti
  have z1 : (W1.alloc (.cells #[v] ti)).heap.size = W1.heap.size + 1 := by simp
  generalize W1.alloc (.cells #[v] ti) = W2 at *
  have k2 := below_alloc (w := W2) (.cells #[d] ti)
  have c2 := new_cell W2 d ti
  have z2 : (W2.alloc (.cells #[d] ti)).heap.size = W2.heap.size + 1 := by simp
  generalize W2.alloc (.cells #[d] ti) = W3 at *
  obtain ⟨h3, k3⟩ := one_box W3 (.slice none 0 0) (.slice none 0 0) tz
  have z3 : (W3.alloc (.cells #[.slice none 0 0, .slice none 0 0] tz)).heap.size = W3.heap.size + 1 := by simp
  generalize W3.alloc (.cells #[.slice none 0 0, .slice none 0 0] tz) = W4 at *
  refine ⟨W4, rfl, ((h1.below k1).below k2).below k3, ((h2.below k1).below k2).below k3, ?_, ?_, ?_, ?_, by omega⟩
  · rw [← hz]
    exact (k3.cell (p := ⟨W1.heap.size, 0, none⟩) (by simp only; omega)).trans ((k2.cell (p := ⟨W1.heap.size, 0, none⟩) (by simp only; omega)).trans c1)
  · rw [show w.heap.size + 3 = W2.heap.size by omega]
    exact (k3.cell (p := ⟨W2.heap.size, 0, none⟩) (by simp only; omega)).trans c2
  · rw [show w.heap.size + 4 = W3.heap.size by omega]
    exact h3
  · exact ((hb.trans (k1.mono (by omega))).trans (k2.mono (by omega))).trans (k3.mono (by omega))

set_option maxRecDepth 100000 in
set_option maxHeartbeats 4000000 in
theorem beyond_no (u1 u2 : Value) (g : Gph) (p : Prt) (v d : Int) (w : World) (h : Gr w u1 g) (h' : Pt w u2 p) (hl : g.e.length ≤ 100000) (hp1 : p.v.length ≤ 100000) (hp2 : p.e.length ≤ 100000) (hn : ¬ BeyOk g p v d) :
    Calls Try.prog 20 #[u1, u2, .int .i64 v, .int .i64 d] w (BeyAns g p v d w) := by
  have HG := Lib.hid h
  have HP := Lib.hid h'
  have HN := Lib.hid (beyNo (w := w) hn)
  obtain ⟨ve, rfl, h1⟩ := h
  obtain ⟨vv, vp, rfl, h2, h3⟩ := h'
  obtain ⟨Ae, ce, rfl⟩ := h1.form
  obtain ⟨Av, cv, rfl⟩ := ints_form h2
  obtain ⟨Ap, cp, rfl⟩ := ints_form h3
  obtain ⟨W, hW, X0, X1, cv0, cd0, X4, hm, hz⟩ := bey_boxes w (.int .i64 g.n) (.slice Ae g.e.length ce) (.slice Av p.v.length cv) (.slice Ap p.e.length cp) (.int .i64 v) (.int .i64 d) 24 27 3 27
  have HX0 := Lib.hid X0
  have HX1 := Lib.hid X1
  have HX4 := Lib.hid X4
  have HCV := Lib.hid cv0
  have HCD := Lib.hid cd0
  have HM := Lib.hid hm
  have HZ := Lib.hid hz
  have HI3 := Lib.hid h3
  have HR := Lib.hid (rightPart_any _ _ g p _ (HG.out.below hm) (HP.out.below hm) (by omega) (by omega) (by omega))
  have c0 := X0.c0
  have c1 := X0.c1
  have d0 := X1.c0
  have d1 := X1.c1
  have e0 := X4.c0
  have e1 := X4.c1
  have f0 := X4.thaw 0
  have f1 := X4.thaw 1
  clear h1 h2 h3 X0 X1 X4 hm cv0 cd0 hz
  generalize hnp : perr g p = np at *
  by_cases hp : np = 0
  · have h0 : (np != 0) = false := by rw [hp]; rfl
    have hpp : perr g p = 0 := hnp.trans hp
    have hup := (perr_rises hpp).2.2.1.up
    have he := (perr_rises hpp).1
    by_cases hd : 0 ≤ d ∧ d < 2 * (g.e.length : Int)
    · have HEO := Lib.hid (show endsOf g d = .tuple #[.int .i64 (tailOf g d.toNat), .int .i64 (headOf g d.toNat), .bool true] from if_pos ⟨he, hd⟩)
      by_cases ht : tailOf g d.toNat = v
      · have hde : d.tdiv 2 ∉ p.e := fun h => hn ⟨hpp, hd, ht, h⟩
        have HDE := Lib.hid (decide_eq_false hde)
        have hvv : (tailOf g d.toNat != v) = false := by simp [ht]
        have hq := Int.tdiv_eq_ediv_of_nonneg (b := 2) hd.1
        have hq0 : 0 ≤ d.tdiv 2 := by rw [hq]; omega
        have hq1 : d.tdiv 2 ≤ 1000000 := by rw [hq]; omega
        clear hn hde ht hq
        generalize tailOf g d.toNat = tl at *
        generalize headOf g d.toNat = hl' at *
        go_enter Try.func20, Try.ntmps20
        go_wp2_with fail
        refine HR.out.mono ?_
        rintro e w1 ⟨rfl, hb⟩
        have HM1 := Lib.hid (HM.out.trans (hb.mono HM.out.size))
        have HY0 := Lib.hid (HX0.out.below hb)
        have HY1 := Lib.hid (HX1.out.below hb)
        have HY4 := Lib.hid (HX4.out.below hb)
        have cv1 := (hb.cell (p := ⟨w.heap.size + 2, 0, none⟩) (by have := HZ.out; simp only; omega)).trans HCV.out
        have cd1 := (hb.cell (p := ⟨w.heap.size + 3, 0, none⟩) (by have := HZ.out; simp only; omega)).trans HCD.out
        have HZ1 := Lib.hid (show w.heap.size + 5 ≤ w1.heap.size by have := hb.size; have := HZ.out; omega)
        have c0' := HY0.out.c0
        have c1' := HY0.out.c1
        have HEN := Lib.hid (ends_any _ g d w1 (HG.out.below HM1.out) (by omega))
        rw [HEO.out] at HEN
        clear c0 c1 d0 d1 e0 e1 f0 f1 hb HR
        go_wp2_with fail
        refine HEN.out.mono ?_
        rintro e w2 ⟨rfl, hb⟩
        have HM2 := Lib.hid (HM1.out.trans (hb.mono HM1.out.size))
        have cv2 := (hb.cell (p := ⟨w.heap.size + 2, 0, none⟩) (by have := HZ1.out; simp only; omega)).trans cv1
        have cd2 := (hb.cell (p := ⟨w.heap.size + 3, 0, none⟩) (by have := HZ1.out; simp only; omega)).trans cd1
        have p0 := (HY1.out.below hb).c0
        have p1 := (HY1.out.below hb).c1
        have HW4 := Lib.hid (HY4.out.below hb)
        clear c0' c1' cv1 cd1 hb HEN
        have HH := Lib.hid (has_any _ p.e (d.tdiv 2) w2 (HI3.out.below HM2.out) hup (by omega))
        rw [HDE.out] at HH
        go_wp2_with fail
        refine HH.out.mono ?_
        rintro e w3 ⟨rfl, hb⟩
        replace HM2 := Lib.hid (HM2.out.trans (hb.mono HM2.out.size))
        replace HW4 := Lib.hid (HW4.out.below hb)
        clear hb HH p0 p1 cv2 cd2
        have e0' := HW4.out.c0
        have e1' := HW4.out.c1
        have f0' := HW4.out.thaw 0
        have f1' := HW4.out.thaw 1
        have HX := Lib.hid (HW4.out.stored (.slice none 0 0) (.slice none 0 0))
        have HBB := Lib.hid (below_stored (u' := .slice none 0 0) (v' := .slice none 0 0) HM2.out (show w.heap.size ≤ w.heap.size + 4 by omega))
        go_wp2
        refine bodyPost_ret (v := .tuple #[.agg #[.slice none 0 0, .slice none 0 0], .bool false]) ?_ rfl (HN.out _ _ ⟨rfl, HBB.out⟩)
        simp [results, Try.results20, go_sem, HX.out.c0, HX.out.c1]
      · have hvv : (tailOf g d.toNat != v) = true := by simp [ht]
        clear hn ht
        generalize tailOf g d.toNat = tl at *
        generalize headOf g d.toNat = hl' at *
        go_enter Try.func20, Try.ntmps20
        go_wp2_with fail
        refine HR.out.mono ?_
        rintro e w1 ⟨rfl, hb⟩
        have HM1 := Lib.hid (HM.out.trans (hb.mono HM.out.size))
        have HY0 := Lib.hid (HX0.out.below hb)
        have HY1 := Lib.hid (HX1.out.below hb)
        have HY4 := Lib.hid (HX4.out.below hb)
        have cv1 := (hb.cell (p := ⟨w.heap.size + 2, 0, none⟩) (by have := HZ.out; simp only; omega)).trans HCV.out
        have cd1 := (hb.cell (p := ⟨w.heap.size + 3, 0, none⟩) (by have := HZ.out; simp only; omega)).trans HCD.out
        have HZ1 := Lib.hid (show w.heap.size + 5 ≤ w1.heap.size by have := hb.size; have := HZ.out; omega)
        have c0' := HY0.out.c0
        have c1' := HY0.out.c1
        have HEN := Lib.hid (ends_any _ g d w1 (HG.out.below HM1.out) (by omega))
        rw [HEO.out] at HEN
        clear c0 c1 d0 d1 e0 e1 f0 f1 hb HR
        go_wp2_with fail
        refine HEN.out.mono ?_
        rintro e w2 ⟨rfl, hb⟩
        have HM2 := Lib.hid (HM1.out.trans (hb.mono HM1.out.size))
        have cv2 := (hb.cell (p := ⟨w.heap.size + 2, 0, none⟩) (by have := HZ1.out; simp only; omega)).trans cv1
        have cd2 := (hb.cell (p := ⟨w.heap.size + 3, 0, none⟩) (by have := HZ1.out; simp only; omega)).trans cd1
        have p0 := (HY1.out.below hb).c0
        have p1 := (HY1.out.below hb).c1
        have HW4 := Lib.hid (HY4.out.below hb)
        clear c0' c1' cv1 cd1 hb HEN
        have e0' := HW4.out.c0
        have e1' := HW4.out.c1
        have f0' := HW4.out.thaw 0
        have f1' := HW4.out.thaw 1
        have HX := Lib.hid (HW4.out.stored (.slice none 0 0) (.slice none 0 0))
        have HBB := Lib.hid (below_stored (u' := .slice none 0 0) (v' := .slice none 0 0) HM2.out (show w.heap.size ≤ w.heap.size + 4 by omega))
        go_wp2
        refine bodyPost_ret (v := .tuple #[.agg #[.slice none 0 0, .slice none 0 0], .bool false]) ?_ rfl (HN.out _ _ ⟨rfl, HBB.out⟩)
        simp [results, Try.results20, go_sem, HX.out.c0, HX.out.c1]
    · have HEO := Lib.hid (show endsOf g d = .tuple #[.int .i64 0, .int .i64 0, .bool false] from if_neg (fun h => hd h.2))
      clear hn
      go_enter Try.func20, Try.ntmps20
      go_wp2_with fail
      refine HR.out.mono ?_
      rintro e w1 ⟨rfl, hb⟩
      have HM1 := Lib.hid (HM.out.trans (hb.mono HM.out.size))
      have HY0 := Lib.hid (HX0.out.below hb)
      have HY1 := Lib.hid (HX1.out.below hb)
      have HY4 := Lib.hid (HX4.out.below hb)
      have cv1 := (hb.cell (p := ⟨w.heap.size + 2, 0, none⟩) (by have := HZ.out; simp only; omega)).trans HCV.out
      have cd1 := (hb.cell (p := ⟨w.heap.size + 3, 0, none⟩) (by have := HZ.out; simp only; omega)).trans HCD.out
      have HZ1 := Lib.hid (show w.heap.size + 5 ≤ w1.heap.size by have := hb.size; have := HZ.out; omega)
      have c0' := HY0.out.c0
      have c1' := HY0.out.c1
      have HEN := Lib.hid (ends_any _ g d w1 (HG.out.below HM1.out) (by omega))
      rw [HEO.out] at HEN
      clear c0 c1 d0 d1 e0 e1 f0 f1 hb HR
      go_wp2_with fail
      refine HEN.out.mono ?_
      rintro e w2 ⟨rfl, hb⟩
      have HM2 := Lib.hid (HM1.out.trans (hb.mono HM1.out.size))
      have cv2 := (hb.cell (p := ⟨w.heap.size + 2, 0, none⟩) (by have := HZ1.out; simp only; omega)).trans cv1
      have cd2 := (hb.cell (p := ⟨w.heap.size + 3, 0, none⟩) (by have := HZ1.out; simp only; omega)).trans cd1
      have p0 := (HY1.out.below hb).c0
      have p1 := (HY1.out.below hb).c1
      have HW4 := Lib.hid (HY4.out.below hb)
      clear c0' c1' cv1 cd1 hb HEN
      have e0' := HW4.out.c0
      have e1' := HW4.out.c1
      have f0' := HW4.out.thaw 0
      have f1' := HW4.out.thaw 1
      have HX := Lib.hid (HW4.out.stored (.slice none 0 0) (.slice none 0 0))
      have HBB := Lib.hid (below_stored (u' := .slice none 0 0) (v' := .slice none 0 0) HM2.out (show w.heap.size ≤ w.heap.size + 4 by omega))
      go_wp2
      refine bodyPost_ret (v := .tuple #[.agg #[.slice none 0 0, .slice none 0 0], .bool false]) ?_ rfl (HN.out _ _ ⟨rfl, HBB.out⟩)
      simp [results, Try.results20, go_sem, HX.out.c0, HX.out.c1]
  · have h0 : (np != 0) = true := bne_iff_ne.2 hp
    go_enter Try.func20, Try.ntmps20
    go_wp2_with fail
    refine HR.out.mono ?_
    rintro e w1 ⟨rfl, hb⟩
    have hm1 := Lib.hid (HM.out.trans (hb.mono HM.out.size))
    have e0' := (HX4.out.below hb).c0
    have e1' := (HX4.out.below hb).c1
    have f0' := (HX4.out.below hb).thaw 0
    have f1' := (HX4.out.below hb).thaw 1
    have HX := Lib.hid ((HX4.out.below hb).stored (.slice none 0 0) (.slice none 0 0))
    have HBB := Lib.hid (below_stored (u' := .slice none 0 0) (v' := .slice none 0 0) hm1.out (show w.heap.size ≤ w.heap.size + 4 by omega))
    clear c0 c1 d0 d1 e0 e1 f0 f1 hb
    go_wp2
    refine bodyPost_ret (v := .tuple #[.agg #[.slice none 0 0, .slice none 0 0], .bool false]) ?_ rfl (HN.out _ _ ⟨rfl, HBB.out⟩)
    simp [results, Try.results20, go_sem, HX.out.c0, HX.out.c1]
end Go.Proofs.Ytjnohnbppkhbaaa
