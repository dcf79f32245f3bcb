/-
  The program's And, Or, Within.
-/
import Derived.Test.YtjnohnbppkhbaaaGrK
namespace Go.Proofs.Ytjnohnbppkhbaaa
open Go.RowKit

def Prt.and (p q : Prt) : Prt := ⟨mrg 2 p.v q.v, mrg 2 p.e q.e⟩
def Prt.or (p q : Prt) : Prt := ⟨mrg 1 p.v q.v, mrg 1 p.e q.e⟩

/-- Not too long for the walk. -/
def Prt.few (p : Prt) : Prop := p.v.length ≤ 1000000 ∧ p.e.length ≤ 1000000

theorem mrg2_len (l m : List Int) : (mrg 2 l m).length ≤ l.length := by
  refine mrg_ind (C := fun l m => (mrg 2 l m).length ≤ l.length) ?_ ?_ ?_ ?_ ?_ ?_ _ l m (Nat.le_refl _)
  · rw [mrg_nil]; simp
  · intro y m _; rw [and_right]; simp
  · intro x l _; rw [and_left]; simp
  · intro x y l m h ih; rw [mrg_lt 2 l m h, if_neg (by omega), List.nil_append, List.length_cons]; omega
  · intro x y l m h ih; rw [mrg_gt 2 l m h, if_neg (by omega), List.nil_append]; exact ih
  · intro x l m ih; rw [mrg_eq 2 l m rfl, if_pos (by omega), List.length_append, List.length_cons]; simp; omega
theorem and_few {p : Prt} (hp : p.few) (q : Prt) : (p.and q).few := by
  have h1 := mrg2_len p.v q.v
  have h2 := mrg2_len p.e q.e
  exact ⟨Nat.le_trans h1 hp.1, Nat.le_trans h2 hp.2⟩

end Go.Proofs.Ytjnohnbppkhbaaa
