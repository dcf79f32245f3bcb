/-
  The document's Labels: its call answers the stretches' numbers, or that one has two.
-/
import Derived.Test.YtohaopfpjkhheaaRgG
namespace Go.Proofs.Ytohaopfpjkhheaa
open Go.RowKit

theorem Ints.cut {w : World} {A : Option Addr} {cap : Nat} {l : List Int} (h : Ints w (.slice A l.length cap) l) (k : Nat) (hk : k ≤ l.length) : Ints w (.slice A k cap) (l.take k) := by
  obtain ⟨A', cap', e, hc, hm, hr⟩ := h
  obtain ⟨rfl, _, rfl⟩ := Value.slice.inj e
  have hl : (l.take k).length = k := by simp; omega
  refine ⟨A, cap, by rw [hl], by omega, hm, fun h0 => ?_⟩
  obtain ⟨b', off, hA, hlt, hg⟩ := hr (by omega)
  refine ⟨b', off, hA, hlt, fun j hj => ?_⟩
  rw [hl] at hj
  rw [hg j (by omega), getI_take _ _ _ hj]

theorem isSome_some {o : Option (List Int)} {l : List Int} (h : o = some l) : o.isSome = true ∧ o.getD [] = l := by rw [h]; exact ⟨rfl, rfl⟩
theorem isSome_none {o : Option (List Int)} (h : o = none) : o.isSome = false ∧ o.getD [] = [] := by rw [h]; exact ⟨rfl, rfl⟩

/-- What a call that answers a list, or nothing, leaves. -/
def ListOrNot (o : Option (List Int)) (w : World) (e : Ending) (w' : World) : Prop :=
  ∃ u, e = .returned (.tuple #[u, .bool o.isSome]) ∧ Ints w' u (o.getD []) ∧ Below w.heap.size w w'

theorem ListOrNot.some {o : Option (List Int)} {l : List Int} (h : o = some l) {w w' : World} {u : Value} (hi : Ints w' u l) (hb : Below w.heap.size w w') : ListOrNot o w (.returned (.tuple #[u, .bool true])) w' := by
  subst h; exact ⟨u, rfl, hi, hb⟩
theorem ListOrNot.none {o : Option (List Int)} (h : o = none) {w w' : World} (hb : Below w.heap.size w w') : ListOrNot o w (.returned (.tuple #[.slice none 0 0, .bool false])) w' := by
  subst h; exact ⟨_, rfl, Ints.nil, hb⟩

end Go.Proofs.Ytohaopfpjkhheaa
