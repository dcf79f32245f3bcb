/-
  Lines makes its iterator; the document's lines of a text, in a slice of the call's own.
-/
import Derived.Test.YtbmfadignoeigaaWordL
import Derived.Test.YtbmfadignoeigaaWordV
namespace Go.Proofs.Ytbmfadignoeigaa
open Go.RowKit

set_option maxHeartbeats 400000 in
theorem lines_any (s : ByteArray) (w : World) :
    Calls Try.prog 21 #[.string s] w fun e w' => e = .returned (.func (.func 28) #[] #[.pointer (some ⟨w.heap.size, 0, none⟩)]) ∧ w.alloc (.cells #[.string s] 9) = w' := by
  have hmf : ∀ (fn : Fn) (first cap : Array Value) (w : World), (Instr.makeFunc fn first cap).run Try.prog w = .ok (.func fn first cap) w := fun _ _ _ _ => rfl
  go_enter Try.func21, Try.ntmps21
  go_wp2
  go_ret
  exact ⟨rfl, rfl⟩

set_option maxRecDepth 100000 in
set_option maxHeartbeats 4000000 in
theorem refLines_any (s : ByteArray) (w : World) (hs : s.size ≤ 100000) :
    Calls Try.prog 20 #[.string s] w fun e w' =>
      ∃ v, e = .returned v ∧ w'.ownsRow w.heap.size 38 2 v (linesOf s).length (cutCells (linesOf s)) ∧ Below w.heap.size w w' := by
  obtain ⟨i0, hi, hz0, hz1, hz2⟩ := info_parts Try.infoCut
  go_enter Try.func20, Try.ntmps20
  go_wp2
  go_loopw [3, 4, 5] (fun v st i wr => ∃ (pos k : Nat) (l : List (Nat × Nat)), i = .int .i64 pos ∧ st = .int .i64 k ∧ linesTo s pos = (l, k) ∧
      wr.ownsRow w.heap.size 38 2 v l.length (cutCells l) ∧ pos ≤ s.size ∧ Below w.heap.size w wr)
    (fun _ _ i _ => s.size - (intOf i).toNat)
  case atStart => exact ⟨0, 0, [], rfl, rfl, rfl, World.ownsRow_nil _ _ _ _, by omega, Below.refl _ _⟩
  case round =>
    obtain ⟨pos, k, l, rfl, rfl, hlt, hown, hps, hB⟩ := hrel
    rename_i wr
    have hkl := linesTo_le s pos
    rw [hlt] at hkl
    have hk1 := hkl.1
    have hk2 := hkl.2.1
    simp only at hk1 hk2
    clear hkl
    have hbs := hB.size
    by_cases hp : pos < s.size
    · have hbp := byteAt_of s pos hp
      by_cases he : endAt s pos
      · have hLE := linesTo_end s pos he
        rw [hlt] at hLE
        simp only at hLE
        have HL := Lib.hid hLE
        have hb' : (byteAt s pos == 10) = true := by unfold endAt at he; simpa using he
        clear hLE hlt he
        go_wp2_with (at_builtin; refine wpList_append_own _ rfl _ _ 35 rfl w.heap.size 38 i0 _ 2 16 Try.underlying35 hi hz0 hz1 hz2 rfl (by decide) _ _ _ rfl (hown.alloc _) ⟨wr.heap.size, 0, none⟩ 1 1 _ rfl rfl (cell_two_new _ _ _ _) (by intro u hu; simp at hu; rcases hu with rfl | rfl <;> rfl) (by unfold maxLen; omega) (by omega) (by simp; omega) ?_)
        intro v' w1 hown' hgrow _
        go_wp2
        go_roundw
        case rel =>
          exact ⟨pos + 1, pos + 1, l ++ [(k, pos)], by go_num, by go_num, HL.out, by rw [cutCells_snoc, List.length_append]; exact hown', by omega, (hB.alloc hbs _).grown hgrow (by simp; omega) (fun j hj => (hown.lt j hj).1)⟩
        case measure => simp [intOf]; omega
      · have HL := Lib.hid (linesTo_other s pos he)
        rw [hlt] at HL
        have hb' : (byteAt s pos == 10) = false := by unfold endAt at he; simpa using he
        clear hlt he
        go_wp2
        go_roundw
        case rel => exact ⟨pos + 1, k, l, by go_num, rfl, HL.out, hown, by omega, hB⟩
        case measure => simp [intOf]; omega
    · obtain rfl : pos = s.size := by omega
      have hLE : linesOf s = if k < s.size then l ++ [(k, s.size)] else l := by unfold linesOf; rw [hlt]
      clear hlt
      by_cases hks : k < s.size
      · rw [if_pos hks] at hLE
        have HL := Lib.hid hLE
        clear hLE
        go_wp2_with (at_builtin; refine wpList_append_own _ rfl _ _ 35 rfl w.heap.size 38 i0 _ 2 16 Try.underlying35 hi hz0 hz1 hz2 rfl (by decide) _ _ _ rfl (hown.alloc _) ⟨wr.heap.size, 0, none⟩ 1 1 _ rfl rfl (cell_two_new _ _ _ _) (by intro u hu; simp at hu; rcases hu with rfl | rfl <;> rfl) (by unfold maxLen; omega) (by omega) (by simp; omega) ?_)
        intro v' w1 hown' hgrow _
        go_wp2
        go_ret
        exact ⟨_, rfl, by rw [HL.out, cutCells_snoc, List.length_append]; exact hown', (hB.alloc hbs _).grown hgrow (by simp; omega) (fun j hj => (hown.lt j hj).1)⟩
      · rw [if_neg hks] at hLE
        have HL := Lib.hid hLE
        clear hLE
        go_wp2
        go_ret
        exact ⟨_, rfl, by rw [HL.out]; exact hown, hB⟩

end Go.Proofs.Ytbmfadignoeigaa
