/-
  GrV, GrW, GrX, in one text.
-/
import Derived.Test.YtmbpmepoaonleaaGreatM06
/-! The law's Small and awake. -/
namespace Go.Proofs.YtmbpmepoaonleaaGreat
open Go.RowKit

def smallB (g : Gph) (p : Prt) : Bool := decide (g.e.length ≤ 60 ∧ p.v.length ≤ 60 ∧ p.e.length ≤ 60 ∧ ¬ (60 < g.n ∧ g.n ≤ 1024))
def smallI (g : Gph) (p : Prt) : Int := if smallB g p then 1 else 0

set_option maxRecDepth 100000 in
set_option maxHeartbeats 1000000 in
theorem small_any (v u : Value) (g : Gph) (p : Prt) (w : World) (h : Gr w v g) (h' : Pt w u p) :
    Calls Tryz.prog 56 #[v, u] w fun e w' => e = .returned (.int .i64 (smallI g p)) ∧ Below w.heap.size w w' := by
  have HS := Lib.hid (show smallI g p = if smallB g p then 1 else 0 from rfl)
  obtain ⟨n, le⟩ := g
  obtain ⟨lv, lp⟩ := p
  obtain ⟨ve, rfl, h1⟩ := h
  obtain ⟨vv, vp, rfl, h2, h3⟩ := h'
  obtain ⟨Ae, ce, rfl⟩ := h1.form
  obtain ⟨Av, cv, rfl⟩ := ints_form h2
  obtain ⟨Ap, cp, rfl⟩ := ints_form h3
  simp only at h1 h2 h3 ⊢
  obtain ⟨b1, b2, hm⟩ := two_boxes w (.int .i64 n) (.slice Ae le.length ce) (.slice Av lv.length cv) (.slice Ap lp.length cp) 24 27
  have HM := Lib.hid hm
  have HSB := Lib.hid (show smallB ⟨n, le⟩ ⟨lv, lp⟩ = decide (le.length ≤ 60 ∧ lv.length ≤ 60 ∧ lp.length ≤ 60 ∧ ¬ (60 < n ∧ n ≤ 1024)) from rfl)
  have c0 := b1.c0
  have c1 := b1.c1
  have d0 := b2.c0
  have d1 := b2.c1
  clear b1 b2 hm h1 h2 h3
  generalize le.length = ne at *
  generalize lv.length = nv at *
  generalize lp.length = np at *
  by_cases q1 : 60 < ne
  · have HN := Lib.hid (show smallI ⟨n, le⟩ ⟨lv, lp⟩ = 0 by rw [HS.out, HSB.out, decide_eq_false (fun h => by omega)]; rfl)
    go_enter Tryz.func56, Tryz.ntmps56
    go_wp2
    go_ret
    exact ⟨ret_int HN.out.symm, HM.out⟩
  by_cases q2 : 60 < nv
  · have HN := Lib.hid (show smallI ⟨n, le⟩ ⟨lv, lp⟩ = 0 by rw [HS.out, HSB.out, decide_eq_false (fun h => by omega)]; rfl)
    go_enter Tryz.func56, Tryz.ntmps56
    go_wp2
    go_ret
    exact ⟨ret_int HN.out.symm, HM.out⟩
  by_cases q3 : 60 < np
  · have HN := Lib.hid (show smallI ⟨n, le⟩ ⟨lv, lp⟩ = 0 by rw [HS.out, HSB.out, decide_eq_false (fun h => by omega)]; rfl)
    go_enter Tryz.func56, Tryz.ntmps56
    go_wp2
    go_ret
    exact ⟨ret_int HN.out.symm, HM.out⟩
  by_cases q4 : 60 < n
  · by_cases q5 : n ≤ 1024
    · have HN := Lib.hid (show smallI ⟨n, le⟩ ⟨lv, lp⟩ = 0 by rw [HS.out, HSB.out, decide_eq_false (fun h => by omega)]; rfl)
      go_enter Tryz.func56, Tryz.ntmps56
      go_wp2
      go_ret
      exact ⟨ret_int HN.out.symm, HM.out⟩
    · have HN := Lib.hid (show smallI ⟨n, le⟩ ⟨lv, lp⟩ = 1 by rw [HS.out, HSB.out, decide_eq_true (by omega)]; rfl)
      go_enter Tryz.func56, Tryz.ntmps56
      go_wp2
      go_ret
      exact ⟨ret_int HN.out.symm, HM.out⟩
  · have HN := Lib.hid (show smallI ⟨n, le⟩ ⟨lv, lp⟩ = 1 by rw [HS.out, HSB.out, decide_eq_true (by omega)]; rfl)
    go_enter Tryz.func56, Tryz.ntmps56
    go_wp2
    go_ret
    exact ⟨ret_int HN.out.symm, HM.out⟩

/-- The document's example. -/
def g0 : Gph := ⟨2, [⟨0, 1⟩, ⟨1, 1⟩]⟩

theorem ints_lit1 (w : World) (x : Int) : Ints (w.alloc (.cells #[.int .i64 x] 3)) (.slice (some ⟨w.heap.size, 0, none⟩) 1 1) [x] := by
  refine ⟨_, _, rfl, Nat.le_refl _, by unfold maxLen; omega, fun _ => ⟨w.heap.size, 0, rfl, by simp, fun j hj => ?_⟩⟩
  obtain rfl : j = 0 := by simp at hj; exact hj
  exact new_cell w (.int .i64 x) 3

theorem g0_new (w : World) : Edges (w.alloc (.cells #[.int .i64 0, .int .i64 1, .int .i64 1, .int .i64 1] 109)) (.slice (some ⟨w.heap.size, 0, none⟩) 2 2) g0.e := by
  refine ⟨_, _, rfl, by decide, by unfold maxLen; omega, fun _ => ⟨w.heap.size, 0, rfl, by simp, fun j hj => ?_⟩⟩
  have hc : ∀ i, (w.alloc (.cells #[.int .i64 0, .int .i64 1, .int .i64 1, .int .i64 1] 109)).cell? ⟨w.heap.size, i, none⟩ = (#[.int .i64 0, .int .i64 1, .int .i64 1, .int .i64 1] : Array Value)[i]? := fun i => cell_of_row _ _ i _ _ (0, 0) (heap_alloc_new w _)
  have hj' : j < 2 := hj
  rcases (show j = 0 ∨ j = 1 by omega) with rfl | rfl
  · exact ⟨hc _, hc _⟩
  · exact ⟨hc _, hc _⟩

end Go.Proofs.YtmbpmepoaonleaaGreat

/-! What the laws lean on: wholes are right, darts rise, a dart is among those of what it leaves. -/
namespace Go.Proofs.YtmbpmepoaonleaaGreat
open Go.RowKit

theorem rises_countTo (n : Nat) : Rises (countTo n) n := by
  intro j hj
  rw [countTo_length] at hj
  rw [countTo_get n j hj]
  refine ⟨by omega, by omega, fun h0 => ?_⟩
  rw [countTo_get n (j - 1) (by omega)]
  omega
theorem up_countTo (n : Nat) : Up (countTo n) := (rises_countTo n).up

theorem err_n0 {g : Gph} (he : g.err = 0) : 0 ≤ g.n := by
  unfold Gph.err at he
  split at he <;> omega

theorem perr_ok {g : Gph} {p : Prt} (he : g.err = 0) (h1 : Rises p.v g.n) (h2 : Rises p.e g.e.length) (h3 : ∀ e ∈ p.e, (getE g.e e.toNat).a ∈ p.v ∧ (getE g.e e.toNat).b ∈ p.v) : perr g p = 0 := by
  refine perr_yes he (decide_eq_true h1) (decide_eq_true h2) (fun j hj => ?_)
  obtain ⟨a, b⟩ := h3 _ ((mem_getI p.e _).2 ⟨j, hj, rfl⟩)
  unfold endsIn
  rw [decide_eq_true a, decide_eq_true b]; rfl

theorem whole_ok {g : Gph} (he : g.err = 0) : perr g g.whole = 0 := by
  have hn := err_n0 he
  have hw : g.whole = ⟨countTo g.n.toNat, countTo g.e.length⟩ := if_pos he
  rw [hw]
  refine perr_ok he (by have := rises_countTo g.n.toNat; rwa [Int.toNat_of_nonneg hn] at this) (rises_countTo _) (fun e hm => ?_)
  have hm' := (mem_countTo _ _).1 hm
  obtain ⟨a0, a1, b0, b1⟩ := err_ends he e.toNat (by omega)
  exact ⟨(mem_countTo _ _).2 (by omega), (mem_countTo _ _).2 (by omega)⟩

theorem whole_few {g : Gph} (h : g.e.length ≤ 1000) : g.whole.few := by
  by_cases he : g.err = 0
  · have hw : g.whole = ⟨countTo g.n.toNat, countTo g.e.length⟩ := if_pos he
    have := err_n he
    rw [hw]
    exact ⟨by rw [countTo_length]; omega, by rw [countTo_length]; omega⟩
  · have hw : g.whole = ⟨[], []⟩ := if_neg he
    rw [hw]
    exact ⟨by simp, by simp⟩

theorem mem_dOf (g : Gph) (x e z : Int) : z ∈ dOf g x e ↔ (z = 2 * e ∧ (getE g.e e.toNat).a = x) ∨ (z = 2 * e + 1 ∧ (getE g.e e.toNat).b = x) := by
  unfold dOf
  rw [List.mem_append]
  refine or_congr ?_ ?_
  · split <;> simp_all
  · split <;> simp_all
theorem up_dOf (g : Gph) (x e : Int) : Up (dOf g x e) := by
  unfold dOf Up
  split <;> split <;> simp <;> omega
theorem up_darts (g : Gph) (x : Int) : ∀ l, Up l → Up (dartsL g x l)
  | [], _ => List.Pairwise.nil
  | e :: l, h => by
    have h' := List.pairwise_cons.1 h
    show Up (dOf g x e ++ dartsL g x l)
    refine List.pairwise_append.2 ⟨up_dOf g x e, up_darts g x l h'.2, fun z hz y hy => ?_⟩
    obtain ⟨f, hf, hy'⟩ := List.mem_flatMap.1 hy
    have h1 := h'.1 f hf
    rcases (mem_dOf g x e z).1 hz with ⟨h2, _⟩ | ⟨h2, _⟩ <;> rcases (mem_dOf g x f y).1 hy' with ⟨h3, _⟩ | ⟨h3, _⟩ <;> omega
theorem rises_darts (g : Gph) (x : Int) (l : List Int) (n : Nat) (h : Rises l n) : Rises (dartsL g x l) (2 * (n : Int)) := by
  refine (up_darts g x l h.up).rises (fun z hz => ?_)
  obtain ⟨f, hf, hz'⟩ := List.mem_flatMap.1 hz
  have h1 := h.mem hf
  rcases (mem_dOf g x f z).1 hz' with ⟨h2, _⟩ | ⟨h2, _⟩ <;> omega
theorem mem_darts (g : Gph) (k : Nat) (hk : k < 2 * g.e.length) : (k : Int) ∈ dartsL g (tailOf g k) (countTo g.e.length) := by
  refine List.mem_flatMap.2 ⟨((k / 2 : Nat) : Int), (mem_countTo _ _).2 (by omega), (mem_dOf _ _ _ _).2 ?_⟩
  rw [Int.toNat_natCast]
  unfold tailOf
  by_cases h : k % 2 = 0
  · rw [if_pos h]; exact .inl ⟨by omega, rfl⟩
  · rw [if_neg h]; exact .inr ⟨by omega, rfl⟩

end Go.Proofs.YtmbpmepoaonleaaGreat

/-! Right parts, met, joined, an edge dropped: plain mathematics. -/
namespace Go.Proofs.YtmbpmepoaonleaaGreat
open Go.RowKit

theorem or_left {l m : List Int} (hl : Up l) (hm : Up m) (h : ∀ x ∈ m, x ∈ l) : mrg 1 l m = l :=
  up_ext _ _ (up_or l m hl hm) hl fun z => by rw [mem_or]; exact ⟨fun h1 => h1.elim id (h z), .inl⟩
theorem or_right {l m : List Int} (hl : Up l) (hm : Up m) (h : ∀ x ∈ l, x ∈ m) : mrg 1 l m = m :=
  up_ext _ _ (up_or l m hl hm) hm fun z => by rw [mem_or]; exact ⟨fun h1 => h1.elim (h z) id, .inr⟩
theorem and_in {l m : List Int} (hl : Up l) (hm : Up m) (h : ∀ x ∈ l, x ∈ m) : mrg 2 l m = l :=
  up_ext _ _ (up_and hl hm) hl fun z => by rw [mem_and hl hm]; exact ⟨fun h1 => h1.1, fun h1 => ⟨h1, h z h1⟩⟩
theorem dropL_out {l : List Int} {x : Int} (h : x ∉ l) : dropL l x = l := by
  unfold dropL
  rw [List.filter_eq_self]
  intro y hy
  simp
  rintro rfl
  exact h hy

/-- Both lists rise. -/
def Prt.up (p : Prt) : Prop := Up p.v ∧ Up p.e
/-- One part has all that another has. -/
def Prt.sub (p q : Prt) : Prop := (∀ x ∈ p.v, x ∈ q.v) ∧ (∀ x ∈ p.e, x ∈ q.e)

theorem perr_up {g : Gph} {p : Prt} (h : perr g p = 0) : p.up := ⟨(perr_rises h).2.1.up, (perr_rises h).2.2.1.up⟩

theorem within_true {p q : Prt} (hp : p.up) (hq : q.up) (h : p.sub q) : sameB (p.and q) p = true := by
  rw [sameB_iff]
  unfold Prt.and
  rw [and_in hp.1 hq.1 h.1, and_in hp.2 hq.2 h.2]
theorem within_false {p q : Prt} (hp : p.up) (hq : q.up) (h : ¬ p.sub q) : sameB (p.and q) p = false := by
  rw [Bool.eq_false_iff]
  intro e
  rw [sameB_iff] at e
  refine h ⟨fun x hx => ?_, fun x hx => ?_⟩
  · have : x ∈ (p.and q).v := by rw [e]; exact hx
    exact ((mem_and hp.1 hq.1 x).1 this).2
  · have : x ∈ (p.and q).e := by rw [e]; exact hx
    exact ((mem_and hp.2 hq.2 x).1 this).2

theorem and_up {p q : Prt} (hp : p.up) (hq : q.up) : (p.and q).up := ⟨up_and hp.1 hq.1, up_and hp.2 hq.2⟩
theorem or_up {p q : Prt} (hp : p.up) (hq : q.up) : (p.or q).up := ⟨up_or _ _ hp.1 hq.1, up_or _ _ hp.2 hq.2⟩
theorem drop_up {p : Prt} (hp : p.up) (x : Int) : (p.drop x).up := ⟨hp.1, up_dropL hp.2 x⟩
theorem and_sub_left {p q : Prt} (hp : p.up) (hq : q.up) : (p.and q).sub p := ⟨fun x h => ((mem_and hp.1 hq.1 x).1 h).1, fun x h => ((mem_and hp.2 hq.2 x).1 h).1⟩
theorem and_sub_right {p q : Prt} (hp : p.up) (hq : q.up) : (p.and q).sub q := ⟨fun x h => ((mem_and hp.1 hq.1 x).1 h).2, fun x h => ((mem_and hp.2 hq.2 x).1 h).2⟩
theorem sub_or_left (p q : Prt) : p.sub (p.or q) := ⟨fun x h => (mem_or _ _ x).2 (.inl h), fun x h => (mem_or _ _ x).2 (.inl h)⟩
theorem sub_or_right (p q : Prt) : q.sub (p.or q) := ⟨fun x h => (mem_or _ _ x).2 (.inr h), fun x h => (mem_or _ _ x).2 (.inr h)⟩
theorem drop_sub (p : Prt) (x : Int) : (p.drop x).sub p := ⟨fun _ h => h, fun y h => ((mem_dropL p.e x y).1 h).1⟩
theorem sub_trans {p q r : Prt} (h1 : p.sub q) (h2 : q.sub r) : p.sub r := ⟨fun x h => h2.1 x (h1.1 x h), fun x h => h2.2 x (h1.2 x h)⟩

theorem or_few {p q : Prt} (hp : p.v.length ≤ 1000 ∧ p.e.length ≤ 1000) (hq : q.v.length ≤ 1000 ∧ q.e.length ≤ 1000) : (p.or q).few := by
  have h1 := mrg_len 1 p.v q.v
  have h2 := mrg_len 1 p.e q.e
  unfold Prt.few Prt.or
  simp only
  omega

section
variable {g : Gph} {p q : Prt}
theorem ok_sub (h : perr g p = 0) (hq : q.up) (hs : q.sub p) (he : ∀ e ∈ q.e, (getE g.e e.toNat).a ∈ q.v ∧ (getE g.e e.toNat).b ∈ q.v) : perr g q = 0 := by
  obtain ⟨h0, h1, h2, _⟩ := perr_rises h
  exact perr_ok h0 (hq.1.rises (fun x hx => h1.mem (hs.1 x hx))) (hq.2.rises (fun x hx => h2.mem (hs.2 x hx))) he
theorem and_ok (hp : perr g p = 0) (hq : perr g q = 0) : perr g (p.and q) = 0 := by
  have up := perr_up hp
  have uq := perr_up hq
  refine ok_sub hp (and_up up uq) (and_sub_left up uq) (fun e he => ?_)
  obtain ⟨m1, m2⟩ := (mem_and up.2 uq.2 e).1 he
  have a := (perr_rises hp).2.2.2 e m1
  have b := (perr_rises hq).2.2.2 e m2
  exact ⟨(mem_and up.1 uq.1 _).2 ⟨a.1, b.1⟩, (mem_and up.1 uq.1 _).2 ⟨a.2, b.2⟩⟩
theorem or_ok (hp : perr g p = 0) (hq : perr g q = 0) : perr g (p.or q) = 0 := by
  have up := perr_up hp
  have uq := perr_up hq
  obtain ⟨h0, h1, h2, h3⟩ := perr_rises hp
  obtain ⟨_, k1, k2, k3⟩ := perr_rises hq
  refine perr_ok h0 ((or_up up uq).1.rises (fun x hx => ((mem_or _ _ x).1 hx).elim h1.mem k1.mem)) ((or_up up uq).2.rises (fun x hx => ((mem_or _ _ x).1 hx).elim h2.mem k2.mem)) (fun e he => ?_)
  rcases (mem_or _ _ e).1 he with h | h
  · exact ⟨(mem_or _ _ _).2 (.inl (h3 e h).1), (mem_or _ _ _).2 (.inl (h3 e h).2)⟩
  · exact ⟨(mem_or _ _ _).2 (.inr (k3 e h).1), (mem_or _ _ _).2 (.inr (k3 e h).2)⟩
theorem drop_ok (hp : perr g p = 0) (x : Int) : perr g (p.drop x) = 0 :=
  ok_sub hp (drop_up (perr_up hp) x) (drop_sub p x) (fun e he => (perr_rises hp).2.2.2 e ((mem_dropL p.e x e).1 he).1)
theorem or_and (hp : p.up) (hq : q.up) : sameB ((p.and q).or (p.or q)) (p.or q) = true := by
  rw [sameB_iff]
  have hs := sub_trans (and_sub_left hp hq) (sub_or_left p q)
  unfold Prt.or at hs ⊢
  simp only at hs ⊢
  rw [or_right (and_up hp hq).1 (up_or _ _ hp.1 hq.1) hs.1, or_right (and_up hp hq).2 (up_or _ _ hp.2 hq.2) hs.2]
theorem sub_whole (hp : perr g p = 0) : p.sub g.whole := by
  obtain ⟨h0, h1, h2, _⟩ := perr_rises hp
  have hn := err_n0 h0
  have hw : g.whole = ⟨countTo g.n.toNat, countTo g.e.length⟩ := if_pos h0
  rw [hw]
  exact ⟨fun x hx => (mem_countTo _ _).2 (by have := h1.mem hx; omega), fun x hx => (mem_countTo _ _).2 (h2.mem hx)⟩
theorem whole_up (h : g.err = 0) : g.whole.up := perr_up (whole_ok h)
end

/-! ### An edge dropped, put in again -/

theorem endB_one (g : Gph) (e v : Int) : endB g [e] v = decide ((getE g.e e.toNat).a = v ∨ (getE g.e e.toNat).b = v) := by
  unfold endB endOf
  simp
theorem span_up {g : Gph} (e : Int) : (g.span [e]).up := ⟨List.Pairwise.filter _ (up_countTo _), by unfold Gph.span Up; simp⟩
theorem span_sub {g : Gph} {p : Prt} {e : Int} (h : perr g p = 0) (he : e ∈ p.e) : (g.span [e]).sub p := by
  refine ⟨fun x hx => ?_, fun x hx => ?_⟩
  · have h1 := (perr_rises h).2.2.2 e he
    have h2 := (List.mem_filter.1 hx).2
    rw [endB_one] at h2
    rcases of_decide_eq_true h2 with h3 | h3
    · rw [← h3]; exact h1.1
    · rw [← h3]; exact h1.2
  · have : x = e := by simpa [Gph.span] using hx
    rw [this]; exact he
theorem put_back {g : Gph} {p : Prt} {e : Int} (h : perr g p = 0) (he : e ∈ p.e) : sameB ((p.drop e).or (g.span [e])) p = true := by
  rw [sameB_iff]
  have hu := perr_up h
  have hs := span_sub h he
  have e1 : mrg 1 p.v (g.span [e]).v = p.v := or_left hu.1 (span_up e).1 hs.1
  have e2 : mrg 1 (dropL p.e e) [e] = p.e := up_ext _ _ (up_or _ _ (up_dropL hu.2 e) (span_up (g := g) e).2) hu.2 fun z => by
    rw [mem_or, mem_dropL, List.mem_singleton]
    constructor
    · rintro (h1 | h1)
      · exact h1.1
      · rw [h1]; exact he
    · intro h1
      by_cases e3 : z = e
      · exact .inr e3
      · exact .inl ⟨h1, e3⟩
  cases p
  simp only [Prt.or, Prt.drop, Gph.span] at e1 e2 ⊢
  rw [e1, e2]
theorem not_put {g : Gph} {p : Prt} {e : Int} (h : perr g p = 0) : sameB ((g.span [e]).and (p.drop e)) (g.span [e]) = false :=
  within_false (span_up e) (drop_up (perr_up h) e) (fun hs => ((mem_dropL p.e e e).1 (hs.2 e (by simp [Gph.span]))).2 rfl)
theorem drop_same {p : Prt} {e : Int} (h : e ∉ p.e) : sameB (p.drop e) p = true := by
  rw [sameB_iff]
  cases p
  simp only [Prt.drop] at h ⊢
  rw [dropL_out h]
theorem span_err_one {g : Gph} {p : Prt} {e : Int} (h : perr g p = 0) (he : e ∈ p.e) : spanErr g [e] = 0 := by
  obtain ⟨h0, _, h2, _⟩ := perr_rises h
  have := h2.mem he
  unfold spanErr
  rw [if_pos h0, if_pos]
  refine decide_eq_true ?_
  exact Up.rises (by unfold Up; simp) (fun x hx => by rw [List.mem_singleton.1 hx]; exact this)

end Go.Proofs.YtmbpmepoaonleaaGreat
