/-
  The classes of runes as plain mathematics.
-/
import Derived.Laws.RangeAny
namespace Go.Proofs.Ytbmfadignoeigaa

/-- A letter of the document. -/
def letR (r : Int) : Bool :=
  (decide (97 ≤ r) && decide (r ≤ 122)) || (decide (65 ≤ r) && decide (r ≤ 90)) ||
  (decide (192 ≤ r) && decide (r ≤ 591) && decide (r ≠ 215) && decide (r ≠ 247)) ||
  (decide (913 ≤ r) && decide (r ≤ 969) && decide (r ≠ 930)) || (decide (1040 ≤ r) && decide (r ≤ 1103))

theorem letR_iff (r : Int) : letR r = true ↔ ((97 ≤ r ∧ r ≤ 122) ∨ (65 ≤ r ∧ r ≤ 90) ∨ (192 ≤ r ∧ r ≤ 591 ∧ r ≠ 215 ∧ r ≠ 247) ∨ (913 ≤ r ∧ r ≤ 969 ∧ r ≠ 930) ∨ (1040 ≤ r ∧ r ≤ 1103)) := by
  simp [letR, and_assoc, or_assoc]

/-- A rune's class: 1 a letter, 2 a digit, 3 a sign, 4 the blank, 0 of others. -/
def cls (r : Int) : Int :=
  if letR r = true then 1 else if 48 ≤ r ∧ r ≤ 57 then 2 else if r = 95 ∨ (8242 ≤ r ∧ r ≤ 8244) then 3 else if r = 32 then 4 else 0

theorem cls_1 {r : Int} : cls r = 1 ↔ letR r = true := by
  unfold cls; simp only [letR_iff]; repeat' split
  all_goals omega
theorem cls_2 {r : Int} : cls r = 2 ↔ (48 ≤ r ∧ r ≤ 57) := by
  unfold cls; simp only [letR_iff]; repeat' split
  all_goals omega
theorem cls_3 {r : Int} : cls r = 3 ↔ (r = 95 ∨ (8242 ≤ r ∧ r ≤ 8244)) := by
  unfold cls; simp only [letR_iff]; repeat' split
  all_goals omega
theorem cls_4 {r : Int} : cls r = 4 ↔ r = 32 := by
  unfold cls; simp only [letR_iff]; repeat' split
  all_goals omega
theorem cls_cases (r : Int) : cls r = 0 ∨ cls r = 1 ∨ cls r = 2 ∨ cls r = 3 ∨ cls r = 4 := by
  unfold cls
  split
  · simp
  · split
    · simp
    · split
      · simp
      · split <;> simp

/-- A mark: it has no class, and may stand in a text. -/
def mrk (r : Int) : Bool := decide (r = 10) || (decide (43 ≤ r) && decide (r ≤ 47)) || decide (r = 58) || decide (r = 124)
theorem mrk_iff (r : Int) : mrk r = true ↔ (r = 10 ∨ (43 ≤ r ∧ r ≤ 47) ∨ r = 58 ∨ r = 124) := by
  simp [mrk, or_assoc]

end Go.Proofs.Ytbmfadignoeigaa
