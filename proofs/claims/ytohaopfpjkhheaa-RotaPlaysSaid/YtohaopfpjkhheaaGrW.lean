/-
  What the laws lean on: wholes are right, darts rise, a dart is among those of what it leaves.
-/
import Derived.Test.YtohaopfpjkhheaaGrV
namespace Go.Proofs.Ytohaopfpjkhheaa
open Go.RowKit

theorem rises_countTo (n : Nat) : Rises (countTo n) n := by
  intro j hj
  rw [countTo_length] at hj
  rw [countTo_get n j hj]
  refine ⟨by omega, by omega, fun h0 => ?_⟩
  rw [countTo_get n (j - 1) (by omega)]
  omega
theorem up_countTo (n : Nat) : Up (countTo n) := (rises_countTo n).up

theorem err_n0 {g : Gph} (he : g.err = 0) : 0 ≤ g.n := by
  unfold Gph.err at he
  split at he <;> omega

theorem perr_ok {g : Gph} {p : Prt} (he : g.err = 0) (h1 : Rises p.v g.n) (h2 : Rises p.e g.e.length) (h3 : ∀ e ∈ p.e, (getE g.e e.toNat).a ∈ p.v ∧ (getE g.e e.toNat).b ∈ p.v) : perr g p = 0 := by
  refine perr_yes he (decide_eq_true h1) (decide_eq_true h2) (fun j hj => ?_)
  obtain ⟨a, b⟩ := h3 _ ((mem_getI p.e _).2 ⟨j, hj, rfl⟩)
  unfold endsIn
  rw [decide_eq_true a, decide_eq_true b]; rfl

theorem whole_ok {g : Gph} (he : g.err = 0) : perr g g.whole = 0 := by
  have hn := err_n0 he
  have hw : g.whole = ⟨countTo g.n.toNat, countTo g.e.length⟩ := if_pos he
  rw [hw]
  refine perr_ok he (by have := rises_countTo g.n.toNat; rwa [Int.toNat_of_nonneg hn] at this) (rises_countTo _) (fun e hm => ?_)
  have hm' := (mem_countTo _ _).1 hm
  obtain ⟨a0, a1, b0, b1⟩ := err_ends he e.toNat (by omega)
  exact ⟨(mem_countTo _ _).2 (by omega), (mem_countTo _ _).2 (by omega)⟩

theorem whole_few {g : Gph} (h : g.e.length ≤ 1000) : g.whole.few := by
  by_cases he : g.err = 0
  · have hw : g.whole = ⟨countTo g.n.toNat, countTo g.e.length⟩ := if_pos he
    have := err_n he
    rw [hw]
    exact ⟨by rw [countTo_length]; omega, by rw [countTo_length]; omega⟩
  · have hw : g.whole = ⟨[], []⟩ := if_neg he
    rw [hw]
    exact ⟨by simp, by simp⟩

theorem mem_dOf (g : Gph) (x e z : Int) : z ∈ dOf g x e ↔ (z = 2 * e ∧ (getE g.e e.toNat).a = x) ∨ (z = 2 * e + 1 ∧ (getE g.e e.toNat).b = x) := by
  unfold dOf
  rw [List.mem_append]
  refine or_congr ?_ ?_
  · split <;> simp_all
  · split <;> simp_all
theorem up_dOf (g : Gph) (x e : Int) : Up (dOf g x e) := by
  unfold dOf Up
  split <;> split <;> simp <;> omega
theorem up_darts (g : Gph) (x : Int) : ∀ l, Up l → Up (dartsL g x l)
  | [], _ => List.Pairwise.nil
  | e :: l, h => by
    have h' := List.pairwise_cons.1 h
    show Up (dOf g x e ++ dartsL g x l)
    refine List.pairwise_append.2 ⟨up_dOf g x e, up_darts g x l h'.2, fun z hz y hy => ?_⟩
    obtain ⟨f, hf, hy'⟩ := List.mem_flatMap.1 hy
    have h1 := h'.1 f hf
    rcases (mem_dOf g x e z).1 hz with ⟨h2, _⟩ | ⟨h2, _⟩ <;> rcases (mem_dOf g x f y).1 hy' with ⟨h3, _⟩ | ⟨h3, _⟩ <;> omega
theorem rises_darts (g : Gph) (x : Int) (l : List Int) (n : Nat) (h : Rises l n) : Rises (dartsL g x l) (2 * (n : Int)) := by
  refine (up_darts g x l h.up).rises (fun z hz => ?_)
  obtain ⟨f, hf, hz'⟩ := List.mem_flatMap.1 hz
  have h1 := h.mem hf
  rcases (mem_dOf g x f z).1 hz' with ⟨h2, _⟩ | ⟨h2, _⟩ <;> omega
theorem mem_darts (g : Gph) (k : Nat) (hk : k < 2 * g.e.length) : (k : Int) ∈ dartsL g (tailOf g k) (countTo g.e.length) := by
  refine List.mem_flatMap.2 ⟨((k / 2 : Nat) : Int), (mem_countTo _ _).2 (by omega), (mem_dOf _ _ _ _).2 ?_⟩
  rw [Int.toNat_natCast]
  unfold tailOf
  by_cases h : k % 2 = 0
  · rw [if_pos h]; exact .inl ⟨by omega, rfl⟩
  · rw [if_neg h]; exact .inr ⟨by omega, rfl⟩

end Go.Proofs.Ytohaopfpjkhheaa
