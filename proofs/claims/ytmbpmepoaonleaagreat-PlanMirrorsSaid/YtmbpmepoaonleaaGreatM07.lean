/-
  GrV, GrW, GrX, in one text.
-/
import Derived.Test.YtmbpmepoaonleaaGreatM06
/-! The law's Small and awake. -/
namespace Go.Proofs.YtmbpmepoaonleaaGreat
open Go.RowKit

def smallB (g : Gph) (p : Prt) : Bool := decide (g.e.length ≤ 60 ∧ p.v.length ≤ 60 ∧ p.e.length ≤ 60 ∧ ¬ (60 < g.n ∧ g.n ≤ 1024))
def smallI (g : Gph) (p : Prt) : Int := if smallB g p then 1 else 0

set_option maxRecDepth 100000 in
set_option maxHeartbeats 1000000 in
theorem small_any (v u : Value) (g : Gph) (p : Prt) (w : World) (h : Gr w v g) (h' : Pt w u p) :
    Calls Tryz.prog 56 #[v, u] w fun e w' => e = .returned (.int .i64 (smallI g p)) ∧ Below w.heap.size w w' := by
  have HS := Lib.hid (show smallI g p = if smallB g p then 1 else 0 from rfl)
  obtain ⟨n, le⟩ := g
  obtain ⟨lv, lp⟩ := p
  obtain ⟨ve, rfl, h1⟩ := h
  obtain ⟨vv, vp, rfl, h2, h3⟩ := h'
  obtain ⟨Ae, ce, rfl⟩ := h1.form
  obtain ⟨Av, cv, rfl⟩ := ints_form h2
  obtain ⟨Ap, cp, rfl⟩ := ints_form h3
  simp only at h1 h2 h3 ⊢
  obtain ⟨b1, b2, hm⟩ := two_boxes w (.int .i64 n) (.slice Ae le.length ce) (.slice Av lv.length cv) (.slice Ap lp.length cp) 24 27
  have HM := Lib.hid hm
  have HSB := Lib.hid (show smallB ⟨n, le⟩ ⟨lv, lp⟩ = decide (le.length ≤ 60 ∧ lv.length ≤ 60 ∧ lp.length ≤ 60 ∧ ¬ (60 < n ∧ n ≤ 1024)) from rfl)
  have c0 := b1.c0
  have c1 := b1.c1
  have d0 := b2.c0
  have d1 := b2.c1
  clear b1 b2 hm h1 h2 h3
  generalize le.length = ne at *
  generalize lv.length = nv at *
  generalize lp.length = np at *
  by_cases q1 : 60 < ne
  · have HN := Lib.hid (show smallI ⟨n, le⟩ ⟨lv, lp⟩ = 0 by rw [HS.out, HSB.out, decide_eq_false (fun h => by omega)]; rfl)
    go_enter Tryz.func56, Tryz.ntmps56
    go_wp2
    go_ret
    exact ⟨ret_int HN.out.symm, HM.out⟩
  by_cases q2 : 60 < nv
  · have HN := Lib.hid (show smallI ⟨n, le⟩ ⟨lv, lp⟩ = 0 by rw [HS.out, HSB.out, decide_eq_false (fun h => by omega)]; rfl)
    go_enter Tryz.func56, Tryz.ntmps56
    go_wp2
    go_ret
    exact ⟨ret_int HN.out.symm, HM.out⟩
  by_cases q3 : 60 < np
  · have HN := Lib.hid (show smallI ⟨n, le⟩ ⟨lv, lp⟩ = 0 by rw [HS.out, HSB.out, decide_eq_false (fun h => by omega)]; rfl)
    go_enter Tryz.func56, Tryz.ntmps56
    go_wp2
    go_ret
    exact ⟨ret_int HN.out.symm, HM.out⟩
  by_cases q4 : 60 < n
  · by_cases q5 : n ≤ 1024
    · have HN := Lib.hid (show smallI ⟨n, le⟩ ⟨lv, lp⟩ = 0 by rw [HS.out, HSB.out, decide_eq_false (fun h => by omega)]; rfl)
      go_enter Tryz.func56, Tryz.ntmps56
      go_wp2
      go_ret
      exact ⟨ret_int HN.out.symm, HM.out⟩
    · have HN := Lib.hid (show smallI ⟨n, le⟩ ⟨lv, lp⟩ = 1 by rw [HS.out, HSB.out, decide_eq_true (by omega)]; rfl)
      go_enter Tryz.func56, Tryz.ntmps56
      go_wp2
      go_ret
      exact ⟨ret_int HN.out.symm, HM.out⟩
  · have HN := Lib.hid (show smallI ⟨n, le⟩ ⟨lv, lp⟩ = 1 by rw [HS.out, HSB.out, decide_eq_true (by omega)]; rfl)
    go_enter Tryz.func56, Tryz.ntmps56
    go_wp2
    go_ret
    exact ⟨ret_int HN.out.symm, HM.out⟩

/-- The document's example. -/
def g0 : Gph := ⟨2, [⟨0, 1⟩, ⟨1, 1⟩]⟩

end Go.Proofs.YtmbpmepoaonleaaGreat

/-! What the laws lean on: wholes are right, darts rise, a dart is among those of what it leaves. -/
namespace Go.Proofs.YtmbpmepoaonleaaGreat
open Go.RowKit

theorem perr_ok {g : Gph} {p : Prt} (he : g.err = 0) (h1 : Rises p.v g.n) (h2 : Rises p.e g.e.length) (h3 : ∀ e ∈ p.e, (getE g.e e.toNat).a ∈ p.v ∧ (getE g.e e.toNat).b ∈ p.v) : perr g p = 0 := by
  refine perr_yes he (decide_eq_true h1) (decide_eq_true h2) (fun j hj => ?_)
  obtain ⟨a, b⟩ := h3 _ ((mem_getI p.e _).2 ⟨j, hj, rfl⟩)
  unfold endsIn
  rw [decide_eq_true a, decide_eq_true b]; rfl

theorem mem_dOf (g : Gph) (x e z : Int) : z ∈ dOf g x e ↔ (z = 2 * e ∧ (getE g.e e.toNat).a = x) ∨ (z = 2 * e + 1 ∧ (getE g.e e.toNat).b = x) := by
  unfold dOf
  rw [List.mem_append]
  refine or_congr ?_ ?_
  · split <;> simp_all
  · split <;> simp_all
theorem up_dOf (g : Gph) (x e : Int) : Up (dOf g x e) := by
  unfold dOf Up
  split <;> split <;> simp <;> omega
theorem up_darts (g : Gph) (x : Int) : ∀ l, Up l → Up (dartsL g x l)
  | [], _ => List.Pairwise.nil
  | e :: l, h => by
    have h' := List.pairwise_cons.1 h
    show Up (dOf g x e ++ dartsL g x l)
    refine List.pairwise_append.2 ⟨up_dOf g x e, up_darts g x l h'.2, fun z hz y hy => ?_⟩
    obtain ⟨f, hf, hy'⟩ := List.mem_flatMap.1 hy
    have h1 := h'.1 f hf
    rcases (mem_dOf g x e z).1 hz with ⟨h2, _⟩ | ⟨h2, _⟩ <;> rcases (mem_dOf g x f y).1 hy' with ⟨h3, _⟩ | ⟨h3, _⟩ <;> omega
end Go.Proofs.YtmbpmepoaonleaaGreat

/-! Right parts, met, joined, an edge dropped: plain mathematics. -/
namespace Go.Proofs.YtmbpmepoaonleaaGreat
open Go.RowKit

/-- Both lists rise. -/
def Prt.up (p : Prt) : Prop := Up p.v ∧ Up p.e
/-- One part has all that another has. -/
def Prt.sub (p q : Prt) : Prop := (∀ x ∈ p.v, x ∈ q.v) ∧ (∀ x ∈ p.e, x ∈ q.e)

theorem perr_up {g : Gph} {p : Prt} (h : perr g p = 0) : p.up := ⟨(perr_rises h).2.1.up, (perr_rises h).2.2.1.up⟩

section
variable {g : Gph} {p q : Prt}
theorem ok_sub (h : perr g p = 0) (hq : q.up) (hs : q.sub p) (he : ∀ e ∈ q.e, (getE g.e e.toNat).a ∈ q.v ∧ (getE g.e e.toNat).b ∈ q.v) : perr g q = 0 := by
  obtain ⟨h0, h1, h2, _⟩ := perr_rises h
  exact perr_ok h0 (hq.1.rises (fun x hx => h1.mem (hs.1 x hx))) (hq.2.rises (fun x hx => h2.mem (hs.2 x hx))) he
end

/-! ### An edge dropped, put in again -/

end Go.Proofs.YtmbpmepoaonleaaGreat
