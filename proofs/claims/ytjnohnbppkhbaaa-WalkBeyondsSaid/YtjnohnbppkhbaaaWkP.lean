/-
  The program's Path: its closure, the first step that leads nearer, the loop.
-/
import Derived.Test.YtjnohnbppkhbaaaWkF
namespace Go.Proofs.Ytjnohnbppkhbaaa
open Go.RowKit Go.Maps

theorem FarOf.val {R : Int → Int → Prop} {b x : Int} {w : World} {bm : Nat} {D : DataW Unit} {ts : List Int} {ds : List Nat} (F : FarOf R b ts ds) (M : Mp w bm D ts ds) {m : Nat} (h : Dist R b x m) {c : Int}
    (hc : D.atKey (.int .i64 x) (.lit (.int .i64 0)) = .lit (.int .i64 c)) : c = m := by
  obtain ⟨i, hi, e⟩ := (mem_getI _ _).1 ((F.all x).2 h.reach)
  subst e
  rw [M.at_ hi hc, (F.far i hi).uniq h]
theorem FarOf.lt {R : Int → Int → Prop} {b x : Int} {ts : List Int} {ds : List Nat} (F : FarOf R b ts ds) {m : Nat} (h : Dist R b x m) : m < ts.length := by
  obtain ⟨i, hi, e⟩ := (mem_getI _ _).1 ((F.all x).2 h.reach)
  subst e
  rw [← (F.far i hi).uniq h]
  exact Nat.lt_of_le_of_lt (F.few i hi) hi

set_option maxRecDepth 100000 in
set_option maxHeartbeats 1000000 in
theorem less_any {R : Int → Int → Prop} {b : Int} {bm : Nat} {D : DataW Unit} {ts : List Int} {ds : List Nat} (F : FarOf R b ts ds) (B1 B2 : Nat) (d to at_ : Int) (m n : Nat) (w : World) (M : Mp w bm D ts ds)
    (hto : Dist R b to m) (hat : Dist R b at_ n) (h1 : (Lit.int .i64 to).wf = true) (h2 : (Lit.int .i64 at_).wf = true) (hc1 : w.cell? ⟨B1, 0, none⟩ = some (.map (some bm))) (hc2 : w.cell? ⟨B2, 0, none⟩ = some (.int .i64 at_)) (hb1 : B1 < w.heap.size) (hb2 : B2 < w.heap.size) :
    Calls Try.prog 31 #[.agg #[.int .i64 d, .int .i64 to], .pointer (some ⟨B1, 0, none⟩), .pointer (some ⟨B2, 0, none⟩)] w fun e w' => e = .returned (.bool (decide (m < n))) ∧ Below w.heap.size w w' := by
  have hk1 := keyOf_int_mk Try.underlying3 h1
  have hk2 := keyOf_int_mk Try.underlying3 h2
  have HV1 := Lib.hid (fun c hc => F.val M hto (c := c) hc)
  have HV2 := Lib.hid (fun c hc => F.val M hat (c := c) hc)
  have HM := Lib.hid (M.below (below_alloc (w := w) (.cells #[.int .i64 d, .int .i64 to] 65)))
  clear F M hto hat h1 h2
  go_enter Try.func31, Try.ntmps31
  go_wp2_with (first
    | (at_lookup; refine wpList_lookup_own_int _ rfl _ _ 43 rfl 3 3 .i64 Try.keyInt Try.underlying43 Try.underlying3 (Try.zeroInt _) bm ts.length D rfl HM.out.1 _ _ rfl hk1 ?_; intro c1 hat1 hwc1; obtain rfl := HV1.out c1 hat1; clear hat1 hwc1)
    | (at_lookup; refine wpList_lookup_own_int _ rfl _ _ 43 rfl 3 3 .i64 Try.keyInt Try.underlying43 Try.underlying3 (Try.zeroInt _) bm ts.length D rfl HM.out.1 _ _ rfl hk2 ?_; intro c2 hat2 hwc2; obtain rfl := HV2.out c2 hat2; clear hat2 hwc2))
  go_ret
  exact ⟨rfl, below_alloc _⟩

theorem least_at (q : Nat → Bool) : ∀ n, (∃ j, j < n ∧ q j = true) → ∃ k, k < n ∧ q k = true ∧ ∀ j, j < k → q j = false
  | 0, ⟨j, h, _⟩ => absurd h (Nat.not_lt_zero _)
  | n + 1, ⟨j, h, hq⟩ => by
    by_cases hx : ∃ j, j < n ∧ q j = true
    · obtain ⟨k, h1, h2, h3⟩ := least_at q n hx
      exact ⟨k, by omega, h2, h3⟩
    · refine ⟨j, h, hq, fun i hi => ?_⟩
      cases hqi : q i
      · rfl
      · exact absurd ⟨i, by omega, hqi⟩ hx

set_option maxRecDepth 100000 in
set_option maxHeartbeats 1000000 in
theorem index_any (v : Value) (l : List Ed) (caps : Array Value) (q : Nat → Bool) (k : Nat) (w : World) (h : Edges w v l) (hl : l.length ≤ 1000000) (hk : k < l.length) (hq : q k = true) (hno : ∀ j, j < k → q j = false)
    (H : ∀ wr j, j < l.length → Below w.heap.size w wr → Calls Try.prog 31 (#[.agg #[.int .i64 (getE l j).a, .int .i64 (getE l j).b]] ++ caps) wr fun e w' => e = .returned (.bool (q j)) ∧ Below wr.heap.size wr w') :
    Calls Try.prog 30 #[v, .func (.func 31) #[] caps] w fun e w' => e = .returned (.int .i64 (k : Int)) ∧ Below w.heap.size w w' := by
  have HE := Lib.hid h
  obtain ⟨A, c, rfl⟩ := h.form
  have HH := Lib.hid H
  have HNO := Lib.hid hno
  clear H h hno
  go_enter Try.func30, Try.ntmps30
  go_wp2
  go_loopw [8] (fun i wr => ∃ j : Nat, j ≤ k ∧ i = .int .i64 j ∧ Hid (Below w.heap.size w wr)) (fun i _ => l.length - (Go.RowKit.intOf i).toNat)
  case atStart => exact ⟨0, Nat.zero_le _, rfl, Lib.hid (Below.refl _ _)⟩
  case round =>
    obtain ⟨j, hj, rfl, hB⟩ := hrel
    obtain ⟨wq, hwq⟩ : ∃ z, z = wr := ⟨_, rfl⟩
    subst hwq
    have hlt : j < l.length := by omega
    obtain ⟨eb, eo, rfl, heb, he1, he2⟩ := edges_at HE.out hlt
    have g1 := (hB.out.cell (p := ⟨eb, eo + j * 2, none⟩) heb).trans he1
    have g2 := (hB.out.cell (p := ⟨eb, eo + j * 2 + 1, none⟩) heb).trans he2
    have HC := Lib.hid (HH.out wq j hlt hB.out)
    have HQ := Lib.hid (HNO.out j)
    generalize (getE l j).a = ea at *
    generalize (getE l j).b = eb' at *
    clear he1 he2
    go_wp2_with fail
    refine HC.out.mono ?_
    rintro e w1 ⟨rfl, hb⟩
    have HB := Lib.hid (hB.out.trans (hb.mono hB.out.size))
    clear hb HC g1 g2
    by_cases hjk : j = k
    · subst hjk
      rw [hq]
      clear hq
      go_wp2
      go_ret
      exact ⟨rfl, HB.out⟩
    · rw [HQ.out (by omega)]
      go_wp2
      go_roundw
      case rel => exact ⟨j + 1, by omega, by go_num, HB⟩
      case measure => simp [Go.RowKit.intOf]; omega

variable {g : Gph} {p : Prt}

/-- A shortest way from x to b, each of whose darts is the least one that there is. -/
def Way (g : Gph) (p : Prt) (b : Int) : Int → List Int → Prop
  | x, [] => x = b
  | x, d :: t => ∃ s ∈ stepL g x p.e, s.a = d ∧ Dist (Nbr g p) b s.b t.length ∧ Dist (Nbr g p) b x (t.length + 1) ∧ (∀ r ∈ stepL g x p.e, r.a < d → ¬ Dist (Nbr g p) b r.b t.length) ∧ Way g p b s.b t
theorem Way.dist {b : Int} : ∀ {x : Int} {t : List Int}, Way g p b x t → Dist (Nbr g p) b x t.length
  | x, [], h => by rw [show x = b from h]; exact Dist.zero _ _
  | x, d :: t, ⟨s, _, _, _, h, _⟩ => h

theorem step_in {x : Int} {s : Ed} (h : s ∈ stepL g x p.e) : Nbr g p x s.b := by
  obtain ⟨e, he, ⟨h1, h2⟩ | ⟨h1, h2⟩⟩ := (mem_stepL _ _ _ _).1 h
  · exact ⟨e, he, .inl ⟨h1, by rw [h2]⟩⟩
  · exact ⟨e, he, .inr ⟨h1, by rw [h2]⟩⟩
theorem nbr_step {x y : Int} (h : Nbr g p x y) : ∃ s ∈ stepL g x p.e, s.b = y := by
  obtain ⟨e, he, ⟨h1, h2⟩ | ⟨h1, h2⟩⟩ := h
  · exact ⟨⟨2 * e, y⟩, (mem_stepL _ _ _ _).2 ⟨e, he, .inl ⟨h1, by rw [h2]⟩⟩, rfl⟩
  · exact ⟨⟨2 * e + 1, y⟩, (mem_stepL _ _ _ _).2 ⟨e, he, .inr ⟨h1, by rw [h2]⟩⟩, rfl⟩

/-- Steps stand in the order of their darts. -/
theorem stepL_up (g : Gph) (x : Int) : ∀ {l : List Int}, Up l → (stepL g x l).Pairwise (fun r s => r.a < s.a)
  | [], _ => List.Pairwise.nil
  | e :: l, h => by
    have h1 := List.pairwise_cons.1 h
    show (sOf g x e ++ stepL g x l).Pairwise _
    rw [List.pairwise_append]
    refine ⟨?_, stepL_up g x h1.2, fun r hr s hs => ?_⟩
    · unfold sOf
      split <;> split <;> first | (simp; done) | (simp; omega)
    · have hr' : r.a = 2 * e ∨ r.a = 2 * e + 1 := by
        unfold sOf at hr
        rw [List.mem_append] at hr
        rcases hr with hr | hr
        · split at hr
          · rw [List.mem_singleton] at hr; rw [hr]; exact .inl rfl
          · cases hr
        · split at hr
          · rw [List.mem_singleton] at hr; rw [hr]; exact .inr rfl
          · cases hr
      obtain ⟨e2, he2, ⟨_, h3⟩ | ⟨_, h3⟩⟩ := (mem_stepL _ _ _ _).1 hs
      · have := h1.1 e2 he2
        rw [h3]
        simp only
        omega
      · have := h1.1 e2 he2
        rw [h3]
        simp only
        omega
theorem step_before (g : Gph) (x : Int) {l : List Int} (h : Up l) {k : Nat} (hk : k < (stepL g x l).length) {r : Ed} (hr : r ∈ stepL g x l) (hlt : r.a < (getE (stepL g x l) k).a) : ∃ j, j < k ∧ getE (stepL g x l) j = r := by
  obtain ⟨j, hj, e⟩ := List.mem_iff_getElem.1 hr
  refine ⟨j, ?_, by rw [getE_of _ j hj, e]⟩
  rcases Nat.lt_or_ge j k with h1 | h1
  · exact h1
  · exfalso
    rw [getE_of _ k hk] at hlt
    rcases Nat.eq_or_lt_of_le h1 with h2 | h2
    · subst h2
      rw [e] at hlt
      omega
    · have := List.pairwise_iff_getElem.1 (stepL_up g x h) k j hk hj h2
      rw [e] at this
      omega

open Classical in
/-- Does a step lead nearer than n? -/
noncomputable def nearer (g : Gph) (p : Prt) (b : Int) (x : Int) (n : Nat) (j : Nat) : Bool := decide (∃ m, Dist (Nbr g p) b (getE (stepL g x p.e) j).b m ∧ m < n)

open Classical in
theorem nearer_iff {b x : Int} {n j : Nat} : nearer g p b x n j = true ↔ ∃ m, Dist (Nbr g p) b (getE (stepL g x p.e) j).b m ∧ m < n := by
  unfold nearer
  rw [decide_eq_true_iff]
theorem nearer_eq {b x : Int} {n j m : Nat} (h : Dist (Nbr g p) b (getE (stepL g x p.e) j).b m) : decide (m < n) = nearer g p b x n j := by
  rw [Bool.eq_iff_iff, nearer_iff, decide_eq_true_iff]
  exact ⟨fun h1 => ⟨m, h, h1⟩, fun ⟨k, h1, h2⟩ => (h.uniq h1) ▸ h2⟩

/-- The step that is taken. -/
theorem next_step (hp : perr g p = 0) {b x : Int} {n : Nat} (h : Dist (Nbr g p) b x (n + 1)) :
    ∃ k, k < (stepL g x p.e).length ∧ nearer g p b x (n + 1) k = true ∧ (∀ j, j < k → nearer g p b x (n + 1) j = false) ∧ Dist (Nbr g p) b (getE (stepL g x p.e) k).b n ∧
      ∀ t, Way g p b (getE (stepL g x p.e) k).b t → Way g p b x ((getE (stepL g x p.e) k).a :: t) := by
  obtain ⟨y, hy, hr⟩ := h.last
  obtain ⟨s, hs, hsb⟩ := nbr_step hr.symm
  obtain ⟨j, hj, hje⟩ := List.mem_iff_getElem.1 hs
  obtain ⟨k, hk, hq, hno⟩ := least_at (nearer g p b x (n + 1)) (stepL g x p.e).length ⟨j, hj, nearer_iff.2 ⟨n, by rw [getE_of _ j hj, hje, hsb]; exact hy, Nat.lt_succ_self n⟩⟩
  obtain ⟨m, hm, hmn⟩ := nearer_iff.1 hq
  have hmem := mem_getE _ k hk
  have hle := h.le (hm.1.step (step_in hmem).symm)
  obtain rfl : m = n := by omega
  refine ⟨k, hk, hq, hno, hm, fun t ht => ?_⟩
  obtain hlen := ht.dist.uniq hm
  refine ⟨_, hmem, rfl, by rw [hlen]; exact hm, by rw [hlen]; exact h, fun r hr hlt hd => ?_, ht⟩
  obtain ⟨i, hi, hie⟩ := step_before g x (perr_rises hp).2.2.1.up hk hr hlt
  have := (nearer_iff (g := g) (p := p) (j := i)).2 ⟨m, by rw [hie, ← hlen]; exact hd, Nat.lt_succ_self m⟩
  rw [hno i hi] at this
  cases this

open Classical in
/-- What Path answers. -/
def PathAns (g : Gph) (p : Prt) (a b : Int) (w : World) (e : Ending) (w' : World) : Prop :=
  if perr g p = 0 ∧ b ∈ p.v ∧ Reach (Nbr g p) b a then ∃ u l, e = .returned (.tuple #[u, .bool true]) ∧ Row w' w.heap.size u l ∧ Way g p b a l ∧ Below w.heap.size w w'
  else e = .returned (.tuple #[.slice none 0 0, .bool false]) ∧ Below w.heap.size w w'

set_option maxRecDepth 100000 in
set_option maxHeartbeats 4000000 in
theorem path_any (v u : Value) (g : Gph) (p : Prt) (a b : Int) (w : World) (h : Gr w v g) (h' : Pt w u p) (hl : g.e.length ≤ 100000) (hp1 : p.v.length ≤ 100000) (hp2 : p.e.length ≤ 100000) (hwa : (Lit.int .i64 a).wf = true) :
    Calls Try.prog 12 #[v, u, .int .i64 a, .int .i64 b] w (PathAns g p a b w) := by
  have HG := Lib.hid h
  have HP := Lib.hid h'
  obtain ⟨ve, rfl, h1⟩ := h
  obtain ⟨vv, vp, rfl, h2, h3⟩ := h'
  obtain ⟨Ae, ce, rfl⟩ := h1.form
  obtain ⟨Av, cv, rfl⟩ := ints_form h2
  obtain ⟨Ap, cp, rfl⟩ := ints_form h3
  obtain ⟨b1, b2, hm⟩ := two_boxes w (.int .i64 g.n) (.slice Ae g.e.length ce) (.slice Av p.v.length cv) (.slice Ap p.e.length cp) 24 27
  have HB1 := Lib.hid b1
  have HB2 := Lib.hid b2
  have HM := Lib.hid hm
  have c0 := b1.c0
  have c1 := b1.c1
  have d0 := b2.c0
  have d1 := b2.c1
  have hkey := keyOf_int_mk Try.underlying3 hwa
  have HF := Lib.hid (far_any _ _ g p b _ (HG.out.below HM.out) (HP.out.below HM.out) hl hp1 hp2)
  clear b1 b2 hm h1 h2 h3
  by_cases hpb : perr g p = 0 ∧ b ∈ p.v
  · have HPB := Lib.hid hpb
    by_cases hre : Reach (Nbr g p) b a
    · obtain ⟨n0, hd0⟩ := hre.dist
      have HD0 := Lib.hid hd0
      have HN := Lib.hid (show ∀ e w', (∃ u l, e = .returned (.tuple #[u, .bool true]) ∧ Row w' w.heap.size u l ∧ Way g p b a l ∧ Below w.heap.size w w') → PathAns g p a b w e w' from fun e w' h => by
        unfold PathAns
        rw [if_pos ⟨hpb.1, hpb.2, hre⟩]
        exact h)
      obtain ⟨N, hN⟩ : ∃ N : Nat, g.n = N := ⟨g.n.toNat, by have := err_n0 (perr_rises hpb.1).1; omega⟩
      have hN2 : N ≤ 1024 := by have := err_n (perr_rises hpb.1).1; omega
      have HNN := Lib.hid hN
      have hn0 : n0 ≤ 100000 := Nat.le_trans (hd0.le_len hpb.1 hpb.2) hp1
      have HRE := Lib.hid hre
      clear hpb hre hd0 hN
      go_enter Try.func12, Try.ntmps12
      go_wp2_with fail
      refine HF.out.mono ?_
      rintro e w1 hfa
      obtain ⟨bm, D, ts, ds, rfl, hbm, hMp, hFo, hb⟩ := hfa.yes HPB.out.1 HPB.out.2
      have HB := Lib.hid (HM.out.trans (hb.mono HM.out.size))
      have hbb := below_alloc (w := w1) (.cells #[.map (some bm)] 43)
      have HB2x := Lib.hid (HB.out.trans (hbb.mono HB.out.size))
      have HMp := Lib.hid (hMp.below hbb)
      have HFo := Lib.hid hFo
      have hlc : (w1.alloc (.cells #[.map (some bm)] 43)).cell? ⟨w1.heap.size, 0, none⟩ = some (.map (some bm)) := new_cell w1 _ _
      have hh := hMp.has_yes ((hFo.all a).2 HRE.out)
      have c0' := ((HB1.out.below hb).below hbb).c0
      have c1' := ((HB1.out.below hb).below hbb).c1
      have d0' := ((HB2.out.below hb).below hbb).c0
      have d1' := ((HB2.out.below hb).below hbb).c1
      have hlz : w1.heap.size < (w1.alloc (.cells #[.map (some bm)] 43)).heap.size := by simp
      obtain ⟨lb, hlb⟩ : ∃ z, z = w1.heap.size := ⟨_, rfl⟩
      have HS := Lib.hid (stepsOf_any _ _ g p N _ (HG.out.below HB2x.out) (HP.out.below HB2x.out) HPB.out.1 HNN.out (by omega) (by omega))
      clear hb hbb HF c0 c1 d0 d1 hfa hMp hFo hbm
      go_wp2_with (first
        | (at_lookup; refine wpList_lookup_own_ok_int _ rfl _ _ 43 rfl 3 3 .i64 Try.keyInt Try.underlying43 Try.underlying3 (Try.zeroInt _) bm ts.length D rfl HMp.out.1 _ _ rfl hkey ?_; intro c hat hwc; rw [hh]; clear hat hwc)
        | fail)
      refine HS.out.mono ?_
      rintro e w3 ⟨base, gb, us, rfl, hbase, hMe, hb3⟩
      have HB3 := Lib.hid (HB2x.out.trans (hb3.mono HB2x.out.size))
      have HM3 := Lib.hid (HMp.out.below hb3)
      have hl3 := (hb3.cell (p := ⟨w1.heap.size, 0, none⟩) hlz).trans hlc
      have HS3 := Lib.hid (hMe.steps N)
      have hz3 : w1.heap.size < w3.heap.size := Nat.lt_of_lt_of_le hlz hb3.size
      clear hMe hb3 HS hlc hh c0' c1' d0' d1' hlz HMp hbase
      have hba := below_alloc (w := w3) (.cells #[.int .i64 a] 3)
      have HST := Lib.hid hba
      have hac : (w3.alloc (.cells #[.int .i64 a] 3)).cell? ⟨w3.heap.size, 0, none⟩ = some (.int .i64 a) := new_cell w3 _ _
      have haf : (w3.alloc (.cells #[.int .i64 a] 3)).frozen? ⟨w3.heap.size, 0, none⟩ = false := new_thaw _ _ _ _
      have HAC := Lib.hid hac
      have HAF := Lib.hid haf
      have HAZ : Hid (w3.heap.size < (w3.alloc (.cells #[.int .i64 a] 3)).heap.size) := Lib.hid (by simp)
      clear hba hac haf
      obtain ⟨i0, hi, hz0, hz1, hz2⟩ := info_parts Try.infoInt
      go_wp2
      go_loopw [14, 15] (fun wy ap wr => ∃ (acc : List Int) (x : Int) (n bx : Nat), ap = .pointer (some ⟨bx, 0, none⟩) ∧ Hid (Row wr w3.heap.size wy acc) ∧ Hid (wy.ownBlock ≠ some bx) ∧ Hid (w3.heap.size ≤ bx ∧ bx < wr.heap.size) ∧ wr.cell? ⟨bx, 0, none⟩ = some (.int .i64 x) ∧ wr.frozen? ⟨bx, 0, none⟩ = false ∧
        Hid (Below w3.heap.size w3 wr) ∧ Hid (Dist (Nbr g p) b x n) ∧ acc.length + n = n0 ∧ Hid (∀ t, Way g p b x t → Way g p b a (acc ++ t))) (fun wy _ _ => n0 - lenOf wy)
      case atStart => exact ⟨[], a, n0, w3.heap.size, rfl, Lib.hid (Row.nil _ _), Lib.hid (by intro h; cases h), Lib.hid ⟨Nat.le_refl _, HAZ.out⟩, HAC.out, HAF.out, HST, HD0, by simp, Lib.hid (fun t ht => ht)⟩
      case round =>
        obtain ⟨acc, x, n, bx, rfl, hR, hNB, hbx, hxc, hxf, hB, hD, hsum, hW⟩ := hrel
        obtain ⟨wq, hwq⟩ : ∃ z, z = wr := ⟨_, rfl⟩
        subst hwq
        obtain ⟨Aw, cw, hwv⟩ := ints_form hR.out.ints
        subst hwv
        by_cases hn : n = 0
        · subst hn
          have hxb : x = b := hD.out.eq0
          subst hxb
          have HWA := Lib.hid (hW.out [] rfl)
          have HRE2 := Lib.hid (own_base (base' := w.heap.size) hR.out (fun g hg => Nat.le_trans HB3.out.size (World.ownsRow.lt hR.out g hg).1))
          have HBE := Lib.hid (HB3.out.trans (hB.out.mono HB3.out.size))
          clear hR hNB hbx hB hD hW
          rw [List.append_nil] at HWA
          go_wp2
          go_ret2
          exact HN.out _ _ ⟨_, acc, rfl, HRE2.out, HWA.out, HBE.out⟩
        · obtain ⟨m, rfl⟩ : ∃ m, n = m + 1 := ⟨n - 1, by omega⟩
          have hxb : x ≠ b := fun e => by
            rw [e] at hD
            have := hD.out.uniq (Dist.zero _ b)
            omega
          have hxp := nbr_near HPB.out.1 HPB.out.2 hD.out.1
          have hxr := (perr_rises HPB.out.1).2.1.mem hxp
          rw [HNN.out] at hxr
          obtain ⟨xn, rfl⟩ : ∃ xn : Nat, x = xn := ⟨x.toNat, by omega⟩
          have hxN : xn < N := by omega
          have hx0 : (0 : Int) ≤ (xn : Int) := by omega
          have hx1 : (xn : Int) < (N : Int) := by omega
          have hwx : (Lit.int .i64 (xn : Int)).wf = true := WalkArith.wf_i64 (by omega)
          obtain ⟨k, hk, hq, hno, hmd, hway⟩ := next_step HPB.out.1 hD.out
          obtain ⟨u, hgb, hrow, hE⟩ := (HS3.out.below hB.out).at_ hxN
          have hE' : Edges wq u (stepL g (xn : Int) p.e) := hE
          have hin := rows_in HPB.out.1 HNN.out hp2 xn hxN
          have hll : (stepL g (xn : Int) p.e).length ≤ 1000000 := hin.1
          obtain ⟨A2, c2, rfl⟩ := hE'.form
          obtain ⟨eb, eo, rfl, heb, he1, he2⟩ := edges_at hE' hk
          have hto : 0 ≤ (getE (stepL g (xn : Int) p.e) k).b ∧ (getE (stepL g (xn : Int) p.e) k).b < N := hin.2 _ (mem_getE (stepL g (xn : Int) p.e) k hk)
          have hl4 : wq.cell? ⟨w1.heap.size, 0, none⟩ = some (.map (some bm)) := (hB.out.cell (p := ⟨w1.heap.size, 0, none⟩) hz3).trans hl3
          have HIX := Lib.hid (index_any _ (stepL g (xn : Int) p.e) #[.pointer (some ⟨w1.heap.size, 0, none⟩), .pointer (some ⟨bx, 0, none⟩)] (nearer g p b xn (m + 1)) k wq hE' hll hk hq hno (fun wr j hj hbr => by
            obtain ⟨mj, hmj⟩ := (hD.out.reach.step (step_in (mem_getE (stepL g (xn : Int) p.e) j hj))).dist
            have hbj : 0 ≤ (getE (stepL g (xn : Int) p.e) j).b ∧ (getE (stepL g (xn : Int) p.e) j).b < N := hin.2 _ (mem_getE (stepL g (xn : Int) p.e) j hj)
            have := less_any HFo.out w1.heap.size bx (getE (stepL g (xn : Int) p.e) j).a (getE (stepL g (xn : Int) p.e) j).b (xn : Int) mj (m + 1) wr ((HM3.out.below hB.out).below hbr) hmj hD.out (WalkArith.wf_i64 (by omega)) hwx
              ((hbr.cell (p := ⟨w1.heap.size, 0, none⟩) (Nat.lt_of_lt_of_le hz3 hB.out.size)).trans hl4) ((hbr.cell (p := ⟨bx, 0, none⟩) hbx.out.2).trans hxc) (by have := hbr.size; have := hB.out.size; omega) (Nat.lt_of_lt_of_le hbx.out.2 hbr.size)
            rw [nearer_eq hmj] at this
            exact this))
          have HMD := Lib.hid hmd
          have HWY := Lib.hid hway
          have hk0 : (0 : Int) ≤ (k : Int) := by omega
          have hk1 : (k : Int) < ((stepL g (xn : Int) p.e).length : Int) := by omega
          have hrow' : wq.cell? ⟨gb, xn, none⟩ = some (.slice (some ⟨eb, eo, none⟩) (stepL g (xn : Int) p.e).length c2) := hrow
          generalize (stepL g (xn : Int) p.e).length = ll at *
          generalize hgk : getE (stepL g (xn : Int) p.e) k = sk at *
          obtain ⟨dk, tk⟩ := sk
          simp only at he1 he2 hto
          have HMD2 : Hid (Dist (Nbr g p) b tk m) := HMD
          have HWY2 : Hid (∀ t, Way g p b tk t → Way g p b xn (dk :: t)) := HWY
          have hgz : gb < wq.heap.size := hgb
          have hsum0 := hsum
          clear hrow hE hE' hin hq hno hmd hway hxp hxr hgk hl3 hgb HMD HWY hsum
          go_wp2_with fail
          refine HIX.out.mono ?_
          rintro e w4 ⟨rfl, hb4⟩
          have hxc4 := (hb4.cell (p := ⟨bx, 0, none⟩) hbx.out.2).trans hxc
          have hxf4 := (hb4.frozen (p := ⟨bx, 0, none⟩) hbx.out.2).trans hxf
          have hr4 := (hb4.cell (p := ⟨gb, xn, none⟩) hgz).trans hrow'
          have h41 := (hb4.cell (p := ⟨eb, eo + k * 2, none⟩) heb).trans he1
          have h42 := (hb4.cell (p := ⟨eb, eo + k * 2 + 1, none⟩) heb).trans he2
          have hR4 := hR.out.below hb4
          have HB4 := Lib.hid (hB.out.trans (hb4.mono hB.out.size))
          have HBX4 := Lib.hid (show w3.heap.size ≤ bx ∧ bx < w4.heap.size from ⟨hbx.out.1, Nat.lt_of_lt_of_le hbx.out.2 hb4.size⟩)
          have HR4 := Lib.hid hR4
          have HSM := Lib.hid hsum0
          have hba := below_alloc (w := w4) (.cells #[.int .i64 dk, .int .i64 tk] 65)
          have HR5 := Lib.hid (hR4.below hba)
          have hz4 : w3.heap.size ≤ w4.heap.size := HB4.out.size
          have hlen : acc.length ≤ 100000 := by have := HSM.out; omega
          clear hb4 HIX hR hxc hxf hrow' he1 he2 hB hR4 hba hbx
          go_wp2_with (at_builtin; refine wpList_append_own_at _ rfl _ _ 25 rfl w3.heap.size 3 i0 (.int .i64 0) 1 8 Try.underlying25 hi hz0 hz1 hz2 rfl (by decide) _ _ _ rfl (World.ownsRow.alloc HR5.out _) ⟨w4.heap.size + 1, 0, none⟩ 1 1 [.int .i64 dk] rfl rfl (by have h := cell_one_new (w4.alloc (.cells #[.int .i64 dk, .int .i64 tk] 65)) (.int .i64 dk) 3; rw [show (w4.alloc (.cells #[.int .i64 dk, .int .i64 tk] 65)).heap.size = w4.heap.size + 1 by simp] at h; exact h) (by simp [Value.oneCell']) (by unfold maxLen; omega) (by omega) (by simp; omega) ?_)
          intro v5 w5 hown5 hgrow5 _ hat5
          have hown5' : Row w5 w3.heap.size v5 (acc ++ [dk]) := by
            show w5.ownsRow _ _ _ _ _ _
            rw [List.length_append, List.map_append]
            exact hown5
          obtain ⟨A5, c5, hv5⟩ := own_shape hown5'
          have HV5 := Lib.hid hv5
          have hs5 := hgrow5.size
          simp at hs5
          have hlt4 : ∀ gg, (Value.slice Aw acc.length cw).ownBlock = some gg → gg < w4.heap.size := fun gg hg => (World.ownsRow.lt HR4.out gg hg).2
          have hbxn : v5.ownBlock ≠ some bx := by
            rcases hat5 with e | e
            · rw [e]; exact hNB.out
            · rw [e]; intro h2; have := HBX4.out.2; cases h2; omega
          have hkeep : ∀ i, i < w4.heap.size → (Value.slice Aw acc.length cw).ownBlock ≠ some i → w5.heap[i]? = w4.heap[i]? := fun i hi hne => by
            rw [hgrow5.block i (by simp; omega) (fun e => hne e.symm)]
            exact (((Below.refl w4.heap.size w4).alloc (Nat.le_refl _) _).alloc (by simp) _).block i hi
          have hbc : w5.heap[w4.heap.size]? = some (.cells #[.int .i64 dk, .int .i64 tk] 65 (0, 0)) := by
            rw [hgrow5.block w4.heap.size (by simp; omega) (fun e => absurd (hlt4 _ e.symm) (Nat.lt_irrefl _))]
            rw [((Below.refl _ (w4.alloc (.cells #[.int .i64 dk, .int .i64 tk] 65))).alloc (Nat.le_refl _) _).block w4.heap.size (by simp)]
            exact heap_alloc_new w4 _
          have hbt : w5.cell? ⟨w4.heap.size, 1, none⟩ = some (.int .i64 tk) := by rw [cell_of_row _ _ 1 _ _ (0, 0) hbc]; rfl
          have hx5 : w5.cell? ⟨bx, 0, none⟩ = some (.int .i64 (xn : Int)) := (World.cell?_of_block (a := ⟨bx, 0, none⟩) (hkeep bx HBX4.out.2 hNB.out)).trans hxc4
          have hf5 : w5.frozen? ⟨bx, 0, none⟩ = false := (World.frozen?_of_block (a := ⟨bx, 0, none⟩) (hkeep bx HBX4.out.2 hNB.out)).trans hxf4
          have hB5 : Below w3.heap.size w4 w5 := (((Below.refl w3.heap.size w4).alloc hz4 _).alloc (by simp; omega) _).grown hgrow5 (by simp; omega) (fun j hj => (World.ownsRow.lt HR4.out j hj).1)
          have hB6 := (HB4.out.trans hB5).setCell (p := ⟨bx, 0, none⟩) HBX4.out.1 (.int .i64 tk)
          have hR6 : Row (w5.setCell ⟨bx, 0, none⟩ (.int .i64 tk)) w3.heap.size v5 (acc ++ [dk]) := own_block hown5' (fun gg hg => Below.heap_setCell _ _ _ _ (fun e => hbxn (by rw [hg, e])))
          have hx6 : (w5.setCell ⟨bx, 0, none⟩ (.int .i64 tk)).cell? ⟨bx, 0, none⟩ = some (.int .i64 tk) := World.cell?_setCell_same _ _ _ hx5
          have hs6 : (w5.setCell ⟨bx, 0, none⟩ (.int .i64 tk)).heap.size = w5.heap.size := Deep.nblk_setCell _ _ _
          have HB6 := Lib.hid hB6
          have HR6 := Lib.hid hR6
          have HS6 := Lib.hid hs6
          clear hown5 hown5' hgrow5 hat5 hv5 hbc hkeep hlt4 hB5 hB6 hR6 hxc4 hxf4 hr4 h41 h42 HR5 hbxn hs6
          rw [HV5.out] at HR6 ⊢
          clear HV5
          go_wp2
          go_roundw
          case rel =>
            have hbb := below_alloc (w := w5.setCell ⟨bx, 0, none⟩ (.int .i64 tk)) (.cells #[.int .i64 tk] 3)
            have hnc := new_cell (w5.setCell ⟨bx, 0, none⟩ (.int .i64 tk)) (.int .i64 tk) 3
            have hnt := new_thaw (w5.setCell ⟨bx, 0, none⟩ (.int .i64 tk)) #[.int .i64 tk] 3 0
            have hsz := HB6.out.size
            rw [HS6.out] at hnc hnt
            refine ⟨acc ++ [dk], tk, m, w5.heap.size, rfl, Lib.hid (HR6.out.below hbb), Lib.hid (fun h => ?_), Lib.hid ⟨by rw [← HS6.out]; exact hsz, by simp⟩, hnc, hnt, Lib.hid (HB6.out.trans (hbb.mono hsz)), HMD2, ?_, Lib.hid (fun t ht => ?_)⟩
            · have := (World.ownsRow.lt HR6.out _ h).2
              rw [HS6.out] at this
              exact absurd this (Nat.lt_irrefl _)
            · rw [List.length_append, ← HSM.out]
              simp
              omega
            · have := hW.out _ (HWY2.out t ht)
              rw [List.append_assoc]
              exact this
          case measure =>
            have := HSM.out
            simp only [lenOf, List.length_append, List.length_cons, List.length_nil]
            omega
    · have HN := Lib.hid (show ∀ e w', (e = .returned (.tuple #[.slice none 0 0, .bool false]) ∧ Below w.heap.size w w') → PathAns g p a b w e w' from fun e w' h => by
        unfold PathAns
        rw [if_neg (fun h => hre h.2.2)]
        exact h)
      have HRE := Lib.hid hre
      clear hpb hre
      go_enter Try.func12, Try.ntmps12
      go_wp2_with fail
      refine HF.out.mono ?_
      rintro e w1 hfa
      obtain ⟨bm, D, ts, ds, rfl, hbm, hMp, hFo, hb⟩ := hfa.yes HPB.out.1 HPB.out.2
      have HB := Lib.hid (HM.out.trans (hb.mono HM.out.size))
      have hbb := below_alloc (w := w1) (.cells #[.map (some bm)] 43)
      have HB2x := Lib.hid (HB.out.trans (hbb.mono HB.out.size))
      have HMp := Lib.hid (hMp.below hbb)
      have hlc : (w1.alloc (.cells #[.map (some bm)] 43)).cell? ⟨w1.heap.size, 0, none⟩ = some (.map (some bm)) := new_cell w1 _ _
      have hh := hMp.has_no (fun h => HRE.out ((hFo.all a).1 h))
      clear hb hbb HF c0 c1 d0 d1 hfa hMp hFo hbm
      go_wp2_with (at_lookup; refine wpList_lookup_own_ok_int _ rfl _ _ 43 rfl 3 3 .i64 Try.keyInt Try.underlying43 Try.underlying3 (Try.zeroInt _) bm ts.length D rfl HMp.out.1 _ _ rfl hkey ?_; intro c hat hwc; rw [hh]; clear hat hwc)
      go_ret2
      exact HN.out _ _ ⟨rfl, HB2x.out⟩
  · have HN := Lib.hid (show ∀ e w', (e = .returned (.tuple #[.slice none 0 0, .bool false]) ∧ Below w.heap.size w w') → PathAns g p a b w e w' from fun e w' h => by
      unfold PathAns
      rw [if_neg (fun h => hpb ⟨h.1, h.2.1⟩)]
      exact h)
    have HPB := Lib.hid hpb
    have hlk := fun (w : World) => Maps.look_nil (P := Try.prog) (w := w) true Try.keyInt Try.underlying43 (Try.zeroInt w) hkey
    clear hpb
    go_enter Try.func12, Try.ntmps12
    go_wp2_with fail
    refine HF.out.mono ?_
    rintro e w1 hfa
    obtain ⟨rfl, hb⟩ := hfa.no HPB.out
    have HB := Lib.hid (HM.out.trans (hb.mono HM.out.size))
    have hbb := below_alloc (w := w1) (.cells #[.map none] 43)
    have HB2 := Lib.hid (HB.out.trans (hbb.mono HB.out.size))
    clear hb hbb HF c0 c1 d0 d1 hfa
    go_wp2
    go_ret2
    exact HN.out _ _ ⟨rfl, HB2.out⟩
end Go.Proofs.Ytjnohnbppkhbaaa
