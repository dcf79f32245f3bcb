/-
  WordClasses: the class of any rune, whether any text is a name, a number, and where it is bad, are the document's: the law's call answers true at every input.
-/
import Derived.Test.YtbmfadignoeigaaWordW
import Derived.Test.YtbmfadignoeigaaWordE
import Derived.Test.YtbmfadignoeigaaWordG
namespace Go.Proofs.Ytbmfadignoeigaa
open Go.RowKit

theorem num_cases (s : ByteArray) : ∃ (k1 k2 : Int) (ok : Bool), (numOf s).getD 0 = k1 ∧ (numOf s).isSome = ok ∧ (numOf s).getD (-1) = k2 ∧
    (ok == decide (0 ≤ k2)) = true ∧ (k1 == max k2 0) = true := by
  cases h : numOf s with
  | none => exact ⟨0, -1, false, rfl, rfl, rfl, by decide, by decide⟩
  | some k =>
    have := (numOf_range s k h).1
    refine ⟨k, k, true, rfl, rfl, rfl, by simpa using this, ?_⟩
    rw [beq_iff_eq]; omega
theorem bad_cases (s : ByteArray) : ∃ (k1 k2 : Int) (ok : Bool), (((badOf s).getD 0 : Nat) : Int) = k1 ∧ (badOf s).isSome = ok ∧ optI (badOf s) = k2 ∧
    (ok == decide (0 ≤ k2)) = true ∧ (k1 == max k2 0) = true := by
  cases h : badOf s with
  | none => exact ⟨0, -1, false, rfl, rfl, rfl, by decide, by decide⟩
  | some k =>
    refine ⟨k, k, true, rfl, rfl, rfl, by simp, ?_⟩
    rw [beq_iff_eq]; omega

set_option maxRecDepth 100000 in
set_option maxHeartbeats 4000000 in
theorem wordClasses_any (r : Int) (s : ByteArray) (w : World) (hr0 : -2147483648 ≤ r) (hr1 : r ≤ 2147483647) (hs : s.size ≤ maxLen) :
    Calls Try.prog 5 #[.int .i32 r, .string s] w fun e w' => e = .returned (.bool true) ∧ Below w.heap.size w w' := by
  have hm := hs
  unfold maxLen at hm
  go_enter Try.func5, Try.ntmps5
  by_cases hl : 3000 < s.size
  · go_wp2_with fail
    refine (awake_any w).mono ?_
    rintro e w1 ⟨rfl, hB1⟩
    go_wp2_with fail
    refine (awake_any w1).mono ?_
    rintro e w2 ⟨rfl, hB2⟩
    go_wp2
    go_ret
    exact ⟨rfl, hB1.trans (hB2.mono hB1.size)⟩
  have hnum := number_any s (hs := hs)
  have hnum' := refNumber_any s (hs := hs)
  have hbad := bad_any s
  have hbad' := refBad_any s (hs := hs)
  obtain ⟨k1, k2, ok, e1, e2, e3, hk, hk'⟩ := num_cases s
  obtain ⟨p1, p2, pk, f1, f2, f3, hp, hp'⟩ := bad_cases s
  rw [e1, e2] at hnum
  rw [e3] at hnum'
  rw [f1, f2] at hbad
  rw [f3] at hbad'
  clear e1 e2 e3 f1 f2 f3
  have HN := Lib.hid hnum
  have HN' := Lib.hid hnum'
  have HB := Lib.hid hbad
  have HB' := Lib.hid hbad'
  clear hnum hnum' hbad hbad'
  go_wp2_with fail
  refine (awake_any w).mono ?_
  rintro e w1 ⟨rfl, hB1⟩
  go_wp2_with fail
  refine (HN.out w1).mono ?_
  rintro e w2 ⟨rfl, hB2⟩
  go_wp2_with fail
  refine (HN'.out w2).mono ?_
  rintro e w' ⟨rfl, rfl⟩
  go_wp2_with fail
  refine (HB.out w2).mono ?_
  rintro e w3 ⟨rfl, hB3⟩
  go_wp2_with fail
  refine (HB'.out w3).mono ?_
  rintro e w' ⟨rfl, rfl⟩
  go_wp2_with fail
  refine (class_any r w3).mono ?_
  rintro e w' ⟨rfl, rfl⟩
  go_wp2_with fail
  refine (refClass_any r w3).mono ?_
  rintro e w' ⟨rfl, rfl⟩
  go_wp2_with fail
  refine (name_any s w3).mono ?_
  rintro e w4 ⟨rfl, hB4⟩
  go_wp2_with fail
  refine (refName_any s w4 (by omega)).mono ?_
  rintro e w5 ⟨rfl, hB5⟩
  go_wp2_with fail
  go_ret
  have h1 := hB1.size
  have h2 := hB2.size
  have h3 := hB3.size
  have h4 := hB4.size
  exact ⟨rfl, (((hB1.trans (hB2.mono (by omega))).trans (hB3.mono (by omega))).trans (hB4.mono (by omega))).trans (hB5.mono (by omega))⟩

end Go.Proofs.Ytbmfadignoeigaa
