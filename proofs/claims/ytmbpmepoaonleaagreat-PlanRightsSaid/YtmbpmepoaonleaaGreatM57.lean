/-
  PlS, PlT, PlU, in one text.
-/
import Derived.Test.YtmbpmepoaonleaaGreatM54
import Derived.Test.YtmbpmepoaonleaaGreatM24
import Derived.Test.YtmbpmepoaonleaaGreatM34
import Derived.Test.YtmbpmepoaonleaaGreatPlan
/-! The program's Clean: each turn begun with its least dart, the lists as they are; in memory of its own. -/
namespace Go.Proofs.YtmbpmepoaonleaaGreat.Pl
open Go.Proofs.YtmbpmepoaonleaaGreat Go.Proofs.YtmbpmepoaonleaaGreat.Rt Go.RowKit

variable {w w' : World}
theorem Made.set {base : Nat} {v : Value} {us : List Value} {U : List (List Int)} (h : Made w base v us U) {b : Nat} (hb : b < base) (i : Nat) (u : Value) : Made (w.setCell ⟨b, i, none⟩ u) base v us U :=
  h.same fun g hg _ => Below.heap_setCell _ _ _ _ (fun e => by simp only at e; omega)
/-- A plan in memory of its own. -/
def MadeP (w : World) (base : Nat) (v : Value) (T S : List (List Int)) : Prop := ∃ a b us ts, v = .agg #[a, b] ∧ Made w base a us T ∧ Made w base b ts S
theorem MadeP.pn {base : Nat} {v : Value} {T S : List (List Int)} (h : MadeP w base v T S) : Pn w v T S := by
  obtain ⟨a, b, us, ts, rfl, h1, h2⟩ := h
  exact ⟨a, b, rfl, h1.reads, h2.reads⟩
theorem MadeP.below {base : Nat} {v : Value} {T S : List (List Int)} (h : MadeP w base v T S) (hb : Below w.heap.size w w') : MadeP w' base v T S := by
  obtain ⟨a, b, us, ts, rfl, h1, h2⟩ := h
  exact ⟨a, b, us, ts, rfl, h1.below hb, h2.below hb⟩
theorem MadeP.le {base base' : Nat} {v : Value} {T S : List (List Int)} (h : MadeP w base v T S) (hb : base' ≤ base) : MadeP w base' v T S := by
  obtain ⟨a, b, us, ts, rfl, h1, h2⟩ := h
  exact ⟨a, b, us, ts, rfl, Made.le h1 hb, Made.le h2 hb⟩

end Go.Proofs.YtmbpmepoaonleaaGreat.Pl

/-! The program's Same: are two plans alike, once clean? -/
namespace Go.Proofs.YtmbpmepoaonleaaGreat.Pl
open Go.Proofs.YtmbpmepoaonleaaGreat Go.Proofs.YtmbpmepoaonleaaGreat.Rt Go.RowKit

end Go.Proofs.YtmbpmepoaonleaaGreat.Pl

/-! The document's Same: are two plans alike, once clean? -/
namespace Go.Proofs.YtmbpmepoaonleaaGreat.Pl
open Go.Proofs.YtmbpmepoaonleaaGreat Go.Proofs.YtmbpmepoaonleaaGreat.Rt Go.RowKit

end Go.Proofs.YtmbpmepoaonleaaGreat.Pl
