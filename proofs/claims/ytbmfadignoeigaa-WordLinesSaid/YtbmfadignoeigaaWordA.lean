/-
  The classes of runes: each call of Class, isLetter, isMark and of the document's Class answers what the plain functions say, and changes nothing.
-/
import Derived.Test.YtbmfadignoeigaaRows
import Derived.Test.YtbmfadignoeigaaWordC
import Derived.WalkKit
import Derived.WalkSpells
import Derived.WalkLawsBesides
import Derived.Deep.Light
namespace Go.Proofs.Ytbmfadignoeigaa
open Go.RowKit

theorem ret_bool {a b : Bool} (h : a = b) : Ending.returned (.bool a) = .returned (.bool b) := by rw [h]
theorem ret_int {k : IntKind} {a b : Int} (h : a = b) : Ending.returned (.int k a) = .returned (.int k b) := by rw [h]

set_option maxHeartbeats 400000 in
theorem isLetter_any (r : Int) (w : World) :
    Calls Try.prog 26 #[.int .i32 r] w fun e w' => e = .returned (.bool (letR r)) ∧ w = w' := by
  go_enter Try.func26, Try.ntmps26
  go_wp2
  all_goals go_ret
  all_goals
    go_light
    refine ⟨ret_bool ?_, rfl⟩
    rw [Bool.eq_iff_iff]
    simp [letR] at *
    try omega

set_option maxHeartbeats 400000 in
theorem isMark_any (r : Int) (w : World) :
    Calls Try.prog 24 #[.int .i32 r] w fun e w' => e = .returned (.bool (mrk r)) ∧ w = w' := by
  go_enter Try.func24, Try.ntmps24
  go_wp2
  all_goals go_ret
  all_goals
    go_light
    refine ⟨ret_bool ?_, rfl⟩
    rw [Bool.eq_iff_iff]
    simp [mrk] at *
    try omega

set_option maxHeartbeats 400000 in
theorem class_any (r : Int) (w : World) :
    Calls Try.prog 16 #[.int .i32 r] w fun e w' => e = .returned (.int .i64 (cls r)) ∧ w = w' := by
  go_enter Try.func16, Try.ntmps16
  go_wp2_with (go_at_call 26; refine (isLetter_any _ _).mono ?_; rintro e w' ⟨rfl, rfl⟩)
  all_goals go_ret
  all_goals
    go_light
    refine ⟨ret_int ?_, rfl⟩
    have hl := letR_iff r
    simp at *
    first
    | exact (cls_1.2 (by assumption)).symm
    | exact (cls_2.2 (by omega)).symm
    | exact (cls_3.2 (by omega)).symm
    | exact (cls_4.2 (by omega)).symm
    | (unfold cls; simp [*]; omega)

set_option maxHeartbeats 2000000 in
theorem refClass_any (r : Int) (w : World) :
    Calls Try.prog 17 #[.int .i64 r] w fun e w' => e = .returned (.int .i64 (cls r)) ∧ w = w' := by
  go_enter Try.func17, Try.ntmps17
  go_wp2
  all_goals go_ret
  all_goals
    go_light
    refine ⟨ret_int ?_, rfl⟩
    have hl := letR_iff r
    simp at *
    first
    | exact (cls_1.2 (by omega)).symm
    | exact (cls_2.2 (by omega)).symm
    | exact (cls_3.2 (by omega)).symm
    | exact (cls_4.2 (by omega)).symm
    | (unfold cls; simp only [letR_iff]; repeat' split <;> omega)

end Go.Proofs.Ytbmfadignoeigaa
