/-
  The program's Far: how far vertices are from one.
-/
import Derived.Test.YtjnohnbppkhbaaaWkV
namespace Go.Proofs.Ytjnohnbppkhbaaa
open Go.RowKit Go.Maps

variable {g : Gph} {p : Prt}

/-- The rows of steps of a part. -/
def rowsOf (g : Gph) (p : Prt) (j : Nat) : List Ed := stepL g (j : Int) p.e

theorem mem_stepL (g : Gph) (x : Int) (l : List Int) (s : Ed) : s ∈ stepL g x l ↔ ∃ e ∈ l, ((getE g.e e.toNat).a = x ∧ s = ⟨2 * e, (getE g.e e.toNat).b⟩) ∨ ((getE g.e e.toNat).b = x ∧ s = ⟨2 * e + 1, (getE g.e e.toNat).a⟩) := by
  unfold stepL
  rw [List.mem_flatMap]
  refine exists_congr fun e => and_congr_right fun _ => ?_
  unfold sOf
  rw [List.mem_append]
  refine or_congr ?_ ?_ <;> split <;> simp_all

theorem step_nbr (hp : perr g p = 0) {N : Nat} (hn : g.n = (N : Int)) (x y : Int) : StepR N (rowsOf g p) x y ↔ Nbr g p x y := by
  unfold StepR adjOf rowsOf
  constructor
  · intro h
    split at h
    · rename_i hx
      rw [Int.toNat_of_nonneg hx.1] at h
      obtain ⟨s, hs, rfl⟩ := List.mem_map.1 h
      obtain ⟨e, he, ⟨h1, h2⟩ | ⟨h1, h2⟩⟩ := (mem_stepL _ _ _ _).1 hs
      · exact ⟨e, he, .inl ⟨h1, by rw [h2]⟩⟩
      · exact ⟨e, he, .inr ⟨h1, by rw [h2]⟩⟩
    · cases h
  · intro h
    have hx := (perr_rises hp).2.1.mem (h.ins hp).1
    rw [if_pos (by omega), Int.toNat_of_nonneg hx.1]
    obtain ⟨e, he, ⟨h1, h2⟩ | ⟨h1, h2⟩⟩ := h
    · exact List.mem_map.2 ⟨⟨2 * e, y⟩, (mem_stepL _ _ _ _).2 ⟨e, he, .inl ⟨h1, by rw [h2]⟩⟩, rfl⟩
    · exact List.mem_map.2 ⟨⟨2 * e + 1, y⟩, (mem_stepL _ _ _ _).2 ⟨e, he, .inr ⟨h1, by rw [h2]⟩⟩, rfl⟩

theorem rows_in (hp : perr g p = 0) {N : Nat} (hn : g.n = (N : Int)) (hl : p.e.length ≤ 100000) : ∀ j, j < N → (rowsOf g p j).length ≤ 1000000 ∧ ∀ s ∈ rowsOf g p j, 0 ≤ s.b ∧ s.b < N := fun j _ => by
  refine ⟨Nat.le_trans (stepL_len _ _ _) (by omega), fun s hs => ?_⟩
  obtain ⟨he, hr, _, hends⟩ := perr_rises hp
  obtain ⟨e, hm, ⟨_, h2⟩ | ⟨_, h2⟩⟩ := (mem_stepL _ _ _ _).1 hs
  · have := hr.mem (hends e hm).2
    rw [h2]
    simp only
    omega
  · have := hr.mem (hends e hm).1
    rw [h2]
    simp only
    omega

/-- Lists that tell how far the vertices are that can be come to, and no others. -/
structure FarOf (R : Int → Int → Prop) (a : Int) (ts : List Int) (ds : List Nat) : Prop where
  once : ts.Nodup
  far : ∀ i, i < ts.length → Dist R a (getI ts i) (ds.getD i 0)
  all : ∀ y, y ∈ ts ↔ Reach R a y
  few : ∀ i, i < ts.length → ds.getD i 0 ≤ i

theorem near_iff {R S : Int → Int → Prop} (h : ∀ x y, R x y ↔ S x y) {a y : Int} {n : Nat} : Near R a n y ↔ Near S a n y := ⟨near_sub fun x y => (h x y).1, near_sub fun x y => (h x y).2⟩
theorem dist_iff {R S : Int → Int → Prop} (h : ∀ x y, R x y ↔ S x y) {a y : Int} {n : Nat} : Dist R a y n ↔ Dist S a y n := by
  unfold Dist
  rw [near_iff h]
  exact and_congr_right fun _ => forall_congr' fun j => imp_congr_right fun _ => not_congr (near_iff h)
theorem Bfs.farOf {R S : Int → Int → Prop} {adj : Int → List Int} {a : Int} {ts : List Int} {ds : List Nat} {q : Nat} (B : Bfs R adj a ts ds ts.length q) (h : ∀ x y, R x y ↔ S x y) : FarOf S a ts ds :=
  ⟨B.once, fun i hi => (dist_iff h).1 (B.far i hi), fun _ => (B.whole (Nat.le_refl _)).trans ⟨Reach.sub fun x y => (h x y).1, Reach.sub fun x y => (h x y).2⟩, B.few⟩

/-- What Far answers. -/
def FarAns (g : Gph) (p : Prt) (a : Int) (w : World) (e : Ending) (w' : World) : Prop :=
  if perr g p = 0 ∧ a ∈ p.v then ∃ bm D ts ds, e = .returned (.map (some bm)) ∧ w.heap.size ≤ bm ∧ Mp w' bm D ts ds ∧ FarOf (Nbr g p) a ts ds ∧ Below w.heap.size w w'
  else e = .returned (.map none) ∧ Below w.heap.size w w'

theorem FarAns.yes {a : Int} {w w' : World} {e : Ending} (h : FarAns g p a w e w') (hp : perr g p = 0) (ha : a ∈ p.v) : ∃ bm D ts ds, e = .returned (.map (some bm)) ∧ w.heap.size ≤ bm ∧ Mp w' bm D ts ds ∧ FarOf (Nbr g p) a ts ds ∧ Below w.heap.size w w' := by
  unfold FarAns at h
  rw [if_pos ⟨hp, ha⟩] at h
  exact h
theorem FarAns.no {a : Int} {w w' : World} {e : Ending} (h : FarAns g p a w e w') (hn : ¬ (perr g p = 0 ∧ a ∈ p.v)) : e = .returned (.map none) ∧ Below w.heap.size w w' := by
  unfold FarAns at h
  rw [if_neg hn] at h
  exact h

set_option maxRecDepth 100000 in
set_option maxHeartbeats 2000000 in
theorem far_any (v u : Value) (g : Gph) (p : Prt) (a : Int) (w : World) (h : Gr w v g) (h' : Pt w u p) (hl : g.e.length ≤ 100000) (hp1 : p.v.length ≤ 100000) (hp2 : p.e.length ≤ 100000) :
    Calls Try.prog 19 #[v, u, .int .i64 a] w (FarAns g p a w) := by
  have HG := Lib.hid h
  have HP := Lib.hid h'
  obtain ⟨ve, rfl, h1⟩ := h
  obtain ⟨vv, vp, rfl, h2, h3⟩ := h'
  obtain ⟨Ae, ce, rfl⟩ := h1.form
  obtain ⟨Av, cv, rfl⟩ := ints_form h2
  obtain ⟨Ap, cp, rfl⟩ := ints_form h3
  obtain ⟨b1, b2, hm⟩ := two_boxes w (.int .i64 g.n) (.slice Ae g.e.length ce) (.slice Av p.v.length cv) (.slice Ap p.e.length cp) 24 27
  have HB1 := Lib.hid b1
  have HB2 := Lib.hid b2
  have HM := Lib.hid hm
  have HI2 := Lib.hid h2
  have c0 := b1.c0
  have c1 := b1.c1
  have d0 := b2.c0
  have d1 := b2.c1
  have HR := Lib.hid (rightPart_any _ _ g p _ (HG.out.below HM.out) (HP.out.below HM.out) (by omega) (by omega) (by omega))
  clear b1 b2 hm h1 h2 h3
  generalize hnp : perr g p = np at *
  by_cases hp : np = 0
  · have h0 : (np != 0) = false := by rw [hp]; rfl
    have hpp : perr g p = 0 := hnp.trans hp
    have hup := (perr_rises hpp).2.1.up
    have hrs := (perr_rises hpp).2.1
    obtain ⟨N, hN⟩ : ∃ N : Nat, g.n = N := ⟨g.n.toNat, by have := err_n0 (perr_rises hpp).1; omega⟩
    have hN2 : N ≤ 1024 := by have := err_n (perr_rises hpp).1; omega
    by_cases ha : a ∈ p.v
    · have haN := hrs.mem ha
      have HA := Lib.hid (decide_eq_true ha)
      have HF := Lib.hid (show ∀ e w', (∃ bm D ts ds, e = .returned (.map (some bm)) ∧ w.heap.size ≤ bm ∧ Mp w' bm D ts ds ∧ FarOf (Nbr g p) a ts ds ∧ Below w.heap.size w w') → FarAns g p a w e w' from fun e w' h => by
        unfold FarAns
        rw [if_pos ⟨hpp, ha⟩]
        exact h)
      have HPP := Lib.hid hpp
      have HNN := Lib.hid hN
      clear ha hrs hpp hN
      go_enter Try.func19, Try.ntmps19
      go_wp2_with fail
      refine HR.out.mono ?_
      rintro e w1 ⟨rfl, hb⟩
      have HB := Lib.hid (HM.out.trans (hb.mono HM.out.size))
      have HBx := Lib.hid hb
      have c0' := (HB1.out.below hb).c0
      have c1' := (HB1.out.below hb).c1
      have d0' := (HB2.out.below hb).c0
      have d1' := (HB2.out.below hb).c1
      have HH := Lib.hid (has_any _ p.v a w1 (HI2.out.below HB.out) hup (by omega))
      rw [HA.out] at HH
      clear c0 c1 d0 d1 hb HR
      go_wp2_with fail
      refine HH.out.mono ?_
      rintro e w2 ⟨rfl, hb⟩
      have HC := Lib.hid (HB.out.trans (hb.mono HB.out.size))
      have c0 := ((HB1.out.below HBx.out).below hb).c0
      have c1 := ((HB1.out.below HBx.out).below hb).c1
      have d0 := ((HB2.out.below HBx.out).below hb).c0
      have d1 := ((HB2.out.below HBx.out).below hb).c1
      have HS := Lib.hid (stepsOf_any _ _ g p N w2 (HG.out.below HC.out) (HP.out.below HC.out) HPP.out HNN.out (by omega) (by omega))
      clear c0' c1' d0' d1' hb HH
      go_wp2_with fail
      refine HS.out.mono ?_
      rintro e w3 ⟨base, gb, us, rfl, hbase, hM, hb⟩
      have HD := Lib.hid (HC.out.trans (hb.mono HC.out.size))
      have HMT := Lib.hid (meet_any w3 _ N (rowsOf g p) a (hM.steps N) (by rw [HNN.out] at haN; exact haN) (rows_in HPP.out HNN.out hp2) (by omega))
      clear hM hb c0 c1 d0 d1 HS hbase
      go_wp2_with fail
      refine HMT.out.mono ?_
      rintro e w4 ⟨D, ts, ds, rfl, hMp, hBf, hb⟩
      have HE := Lib.hid (HD.out.trans (hb.mono HD.out.size))
      have HMp := Lib.hid hMp
      have HBf := Lib.hid (hBf.farOf (step_nbr HPP.out HNN.out))
      clear hMp hBf hb HMT
      go_wp2
      go_ret
      exact HF.out _ _ ⟨w3.heap.size, D, ts, ds, rfl, HD.out.size, HMp.out, HBf.out, HE.out⟩
    · have HA := Lib.hid (decide_eq_false ha)
      have HF := Lib.hid (show ∀ e w', (e = .returned (.map none) ∧ Below w.heap.size w w') → FarAns g p a w e w' from fun e w' h => by
        unfold FarAns
        rw [if_neg (fun h => ha h.2)]
        exact h)
      clear ha hrs hpp hN
      go_enter Try.func19, Try.ntmps19
      go_wp2_with fail
      refine HR.out.mono ?_
      rintro e w1 ⟨rfl, hb⟩
      have HB := Lib.hid (HM.out.trans (hb.mono HM.out.size))
      have d0' := (HB2.out.below hb).c0
      have HH := Lib.hid (has_any _ p.v a w1 (HI2.out.below HB.out) hup (by omega))
      rw [HA.out] at HH
      clear c0 c1 d0 d1 hb HR
      go_wp2_with fail
      refine HH.out.mono ?_
      rintro e w2 ⟨rfl, hb⟩
      have HC := Lib.hid (HB.out.trans (hb.mono HB.out.size))
      clear hb HH d0'
      go_wp2
      go_ret
      exact HF.out _ _ ⟨rfl, HC.out⟩
  · have h0 : (np != 0) = true := bne_iff_ne.2 hp
    have HF := Lib.hid (show ∀ e w', (e = .returned (.map none) ∧ Below w.heap.size w w') → FarAns g p a w e w' from fun e w' h => by
      unfold FarAns
      rw [if_neg (fun h => hp (hnp.symm.trans h.1))]
      exact h)
    go_enter Try.func19, Try.ntmps19
    go_wp2_with fail
    refine HR.out.mono ?_
    rintro e w1 ⟨rfl, hb⟩
    have HB := Lib.hid (HM.out.trans (hb.mono HM.out.size))
    go_wp2
    go_ret
    exact HF.out _ _ ⟨rfl, HB.out⟩
end Go.Proofs.Ytjnohnbppkhbaaa
