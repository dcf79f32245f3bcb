/-
  The document's words of a line, in a slice of the call's own.
-/
import Derived.Test.YtbmfadignoeigaaSl
import Derived.Test.YtbmfadignoeigaaWordS
import Derived.Test.YtbmfadignoeigaaWordA
import Derived.WalkSmall
namespace Go.Proofs.Ytbmfadignoeigaa
open Go.RowKit

/-- A list of stretches as the cells of a slice hold it. -/
def cutCells (l : List (Nat × Nat)) : List Value := l.flatMap fun x => [.int .i64 (x.1 : Int), .int .i64 (x.2 : Int)]

theorem cutCells_snoc (l : List (Nat × Nat)) (a b : Nat) : cutCells (l ++ [(a, b)]) = cutCells l ++ [.int .i64 (a : Int), .int .i64 (b : Int)] := by
  simp [cutCells]

theorem Try.infoCut : (Try.prog.info? 38).map (fun i => (i.zero, i.size, i.bytes)) = some (some (.agg #[.int .i64 0, .int .i64 0]), 2, 16) := by kernel_rfl

theorem endFrom_range (s : ByteArray) : ∀ (b k : Nat), k ≤ endFrom s b k ∧ (k ≤ s.size → endFrom s b k ≤ s.size)
  | 0, k => ⟨Nat.le_refl _, fun h => h⟩
  | b + 1, k => by
    unfold endFrom
    split
    · rename_i h
      have := endFrom_range s b (k + 1)
      exact ⟨by omega, fun _ => this.2 (by omega)⟩
    · exact ⟨Nat.le_refl _, fun h => h⟩

set_option maxRecDepth 100000 in
set_option maxHeartbeats 4000000 in
theorem refWords_any (s : ByteArray) (w : World) (hs : s.size ≤ 100000) :
    Calls Try.prog 19 #[.string s] w fun e w' =>
      ∃ v, e = .returned v ∧ w'.ownsRow w.heap.size 38 2 v (wordsOf s).length (cutCells (wordsOf s)) ∧ Below w.heap.size w w' := by
  obtain ⟨i0, hi, hz0, hz1, hz2⟩ := info_parts Try.infoCut
  go_enter Try.func19, Try.ntmps19
  go_wp2
  go_loopw [3, 4] (fun v i wr => ∃ (pos : Nat), i = .int .i64 pos ∧ wr.ownsRow w.heap.size 38 2 v (refTo s pos).length (cutCells (refTo s pos)) ∧ pos ≤ s.size ∧ Below w.heap.size w wr)
    (fun _ i _ => s.size - (intOf i).toNat)
  case atStart => exact ⟨0, rfl, by rw [refTo_zero]; exact World.ownsRow_nil _ _ _ _, by omega, Below.refl _ _⟩
  case round =>
    obtain ⟨pos, rfl, hown, hps, hB⟩ := hrel
    rename_i wr
    by_cases hp : pos < s.size
    · have hbp := byteAt_of s pos hp
      have hbl := byteAt_lt s pos
      by_cases hb : blankAt s pos
      · have HK := Lib.hid (refTo_blank s pos hp hb)
        have hb' : (byteAt s pos == 32) = true := by unfold blankAt at hb; simpa using hb
        clear hb
        go_wp2
        go_roundw
        case rel => exact ⟨pos + 1, by go_num, by rw [HK.out]; exact hown, by omega, hB⟩
        case measure => simp [intOf]; omega
      · have hb' : (byteAt s pos == 32) = false := by unfold blankAt at hb; simpa using hb
        by_cases hin : 0 < pos ∧ ¬ blankAt s (pos - 1)
        · obtain ⟨h0, h1⟩ := hin
          have HK := Lib.hid (refTo_in s pos hp hb h0 h1)
          obtain ⟨q, rfl⟩ : ∃ q, pos = q + 1 := ⟨pos - 1, by omega⟩
          simp only [Nat.add_sub_cancel] at h1
          have hbq := byteAt_of s q (by omega)
          have hq : (byteAt s q != 32) = true := by unfold blankAt at h1; simpa using h1
          clear hb h1 h0
          go_wp2
          go_roundw
          case rel => exact ⟨q + 1 + 1, by go_num, by rw [HK.out]; exact hown, by omega, hB⟩
          case measure => simp [intOf]; omega
        · have hor : pos = 0 ∨ blankAt s (pos - 1) := by
            by_cases h : pos = 0
            · exact .inl h
            · by_cases h' : blankAt s (pos - 1)
              · exact .inr h'
              · exact absurd ⟨by omega, h'⟩ hin
          have HK := Lib.hid (refTo_new s pos hp hb hor)
          have hlen := refTo_length s pos hps
          have hcase : pos ≤ 0 ∨ (∃ q, pos = q + 1 ∧ (byteAt s q != 32) = false) := by
            rcases hor with h | h
            · exact .inl (by omega)
            · by_cases h0 : pos = 0
              · exact .inl (by omega)
              · refine .inr ⟨pos - 1, by omega, ?_⟩
                unfold blankAt at h; simpa using h
          clear hb hin hor
          obtain ⟨E, hE⟩ : ∃ E, E = endFrom s s.size pos := ⟨_, rfl⟩
          have HE := Lib.hid hE
          rw [← hE] at HK
          clear hE
          rcases hcase with h0 | ⟨q, rfl, hq⟩
          all_goals
            try have hbq := byteAt_of s q (by omega)
            go_wp2
            go_loop [5] (fun k => ∃ (b k' : Nat), k = .int .i64 k' ∧ endFrom s b k' = E ∧ s.size ≤ k' + b ∧ k' ≤ s.size) (fun k => s.size - (intOf k).toNat)
            case atStart => exact ⟨s.size, _, rfl, HE.out.symm, by omega, by omega⟩
            case round =>
              obtain ⟨b, k, rfl, he, hkb, hks⟩ := hrel
              by_cases hgo : k < s.size ∧ ¬ blankAt s k
              · obtain ⟨h1, h2⟩ := hgo
                obtain ⟨b, rfl⟩ : ∃ b', b = b' + 1 := ⟨b - 1, by omega⟩
                rw [endFrom, if_pos ⟨h1, h2⟩] at he
                have HG := Lib.hid he
                have hbk := byteAt_of s k h1
                have hk2 : (byteAt s k != 32) = true := by unfold blankAt at h2; simpa using h2
                clear he h2
                go_wp2
                go_round
                case rel => exact ⟨b, k + 1, by go_num, HG.out, by omega, by omega⟩
                case measure => simp [intOf]; omega
              · have hkE : k = E := by
                  rw [← he]
                  match b with
                  | 0 => rfl
                  | b + 1 => rw [endFrom, if_neg hgo]
                subst hkE
                clear he
                have hout : ¬ k < s.size ∨ (k < s.size ∧ (byteAt s k != 32) = false) := by
                  by_cases h1 : k < s.size
                  · by_cases h2 : blankAt s k
                    · refine .inr ⟨h1, ?_⟩; unfold blankAt at h2; simpa using h2
                    · exact absurd ⟨h1, h2⟩ hgo
                  · exact .inl h1
                clear hgo
                rcases hout with hk1 | ⟨hk1, hk2⟩
                all_goals
                  try have hbk := byteAt_of s k hk1
                  go_wp2_with (at_builtin; refine wpList_append_own _ rfl _ _ 35 rfl w.heap.size 38 i0 _ 2 16 Try.underlying35 hi hz0 hz1 hz2 rfl (by decide) _ _ _ rfl (hown.alloc _) ⟨wr.heap.size, 0, none⟩ 1 1 _ rfl rfl (cell_two_new _ _ _ _) (by intro u hu; simp at hu; rcases hu with rfl | rfl <;> rfl) (by unfold maxLen; omega) (by omega) (by have := hB.size; simp; omega) ?_)
                  intro v' w1 hown' hgrow _
                  go_wp2
                  go_roundw
                  case rel =>
                    have hBB := (hB.alloc hB.size _).grown hgrow (by have := hB.size; simp; omega) (fun k hk => (hown.lt k hk).1)
                    first
                    | exact ⟨pos + 1, by go_num, by rw [HK.out, cutCells_snoc, List.length_append]; exact hown', by omega, hBB⟩
                    | exact ⟨q + 1 + 1, by go_num, by rw [HK.out, cutCells_snoc, List.length_append]; exact hown', by omega, hBB⟩
                  case measure => simp [intOf]; omega
    · obtain rfl : pos = s.size := by omega
      rw [refTo_end] at hown
      go_wp2
      go_ret
      exact ⟨_, rfl, hown, hB⟩

end Go.Proofs.Ytbmfadignoeigaa
