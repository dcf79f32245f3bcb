/-
  Split: the words of any line, in a slice of the call's own.
-/
import Derived.Test.YtbmfadignoeigaaWordT
import Derived.Test.YtbmfadignoeigaaWordS
import Derived.Test.YtbmfadignoeigaaWordA
import Derived.WalkSmall
namespace Go.Proofs.Ytbmfadignoeigaa
open Go.RowKit

/-- A list of words as the cells of a slice hold it. -/
def wordCells (s : ByteArray) (l : List (Nat × Nat)) : List Value := l.flatMap fun x => [.int .i64 (x.1 : Int), .string (s.extract x.1 x.2)]

theorem wordCells_snoc (s : ByteArray) (l : List (Nat × Nat)) (a b : Nat) : wordCells s (l ++ [(a, b)]) = wordCells s l ++ [.int .i64 (a : Int), .string (s.extract a b)] := by
  simp [wordCells]

theorem run_next_rune_at {P : Program} (w : World) (k : Nat) (s : ByteArray) (pos : Nat) (ty : TypeId) (hk : w.heap[k]? = some (.stringIter s pos)) (h : pos < s.size) :
    (Instr.next (.pointer (some ⟨k, 0, none⟩)) true ty).run P w = .ok (.tuple #[.bool true, .int .i64 pos, .int .i32 (runeAt s pos)]) (w.iterAt k s (pos + wideAt s pos)) :=
  Lib.run_next_any_at w k s pos ty hk h

set_option maxRecDepth 100000 in
set_option maxHeartbeats 4000000 in
theorem split_any (s : ByteArray) (w : World) (hs : s.size ≤ 100000) :
    Calls Try.prog 10 #[.string s] w fun e w' =>
      ∃ v, e = .returned v ∧ w'.ownsRow (w.heap.size + 1) 26 2 v (wordsOf s).length (wordCells s (wordsOf s)) ∧ Below w.heap.size w w' := by
  have hs' : s.size ≤ 1000000 := by omega
  go_enter Try.func10, Try.ntmps10
  go_wp2
  go_loopw [3, 4] (fun v i wr => ∃ (pos : Nat) (l : List (Nat × Nat)) (st : Nat), wr.heap[w.heap.size]? = some (.stringIter s pos) ∧ i = .int .i64 st ∧ splitTo s pos = (l, st) ∧
      wr.ownsRow (w.heap.size + 1) 26 2 v l.length (wordCells s l) ∧ pos ≤ s.size ∧ Below w.heap.size w wr ∧ w.heap.size + 1 ≤ wr.heap.size)
    (fun _ _ wr => s.size - wr.iterPos w.heap.size)
  case atStart => exact ⟨0, [], 0, World.iter_heap w s 0, rfl, rfl, World.ownsRow_nil _ _ _ _, by omega, (Below.refl _ _).alloc (Nat.le_refl _) _, by simp [World.iter]⟩
  case round =>
    obtain ⟨pos, l, st, hit, rfl, hc, hown, hps, hB, hsz⟩ := hrel
    rename_i wr
    have hf := splitTo_facts s pos hps
    rw [hc] at hf
    have hst := hf.1
    have hl := hf.2.2.2.1
    clear hf
    simp only at hst hl
    by_cases hp : pos < s.size
    · have hnx := fun ty => run_next_rune_at (P := Try.prog) wr w.heap.size s pos ty hit hp
      have hw := wide_facts s pos hp
      have hw1 := hw.1
      have hw2 := hw.2.1
      clear hw
      have hit' := Lib.iterAt_heap wr w.heap.size s pos (pos + wideAt s pos) hit
      have hown' := ownsRow_iterAt hown (Nat.lt_succ_self w.heap.size) s (pos + wideAt s pos)
      have hB' := Lib.below_iterAt hB (Nat.le_refl _) s (pos + wideAt s pos)
      have hsz' := Lib.iterAt_size wr w.heap.size s (pos + wideAt s pos)
      have HP := Lib.hid (iterPos_of hit)
      have HP' := Lib.hid (iterPos_of hit')
      by_cases hb : blankAt s pos
      · have hcl := (blank_rune s pos hp).2 hb
        have hw3 := blank_wide s pos hp hb
        rw [hw3] at hnx hit' hown' hB' hsz' HP'
        rw [hsz'.symm] at hsz
        have HS := Lib.hid (splitTo_blank s pos hb)
        rw [hc] at HS
        simp only at HS
        clear hw1 hw2 hw3 hc hb hsz'
        generalize hX : wr.iterAt w.heap.size s (pos + 1) = wx at *
        clear hX
        by_cases he : st = pos
        · subst he
          go_wp2_with (first | (go_at_call 16; refine (class_any _ _).mono ?_; rintro e w' ⟨rfl, rfl⟩) | (go_at_call 23; refine (addWord_same _ _ _ _).mono ?_; rintro e w' ⟨rfl, rfl⟩))
          go_roundw
          case rel => exact ⟨st + 1, l, st + 1, hit', by go_num, by rw [HS.out]; simp, hown', by omega, hB', hsz⟩
          case measure => rw [HP.out, HP'.out]; omega
        · have hlt : st < pos := by omega
          rw [if_neg he] at HS
          have HS2 := Lib.hid HS.out
          clear he HS
          have hmore := addWord_more s st pos u3 wx (w.heap.size + 1) l.length (wordCells s l) hs' hlt (by omega) hown' hsz (by omega)
          have HM := Lib.hid hmore
          clear hmore
          go_wp2_with (first | (go_at_call 16; refine (class_any _ _).mono ?_; rintro e w' ⟨rfl, rfl⟩) | (go_at_call 23; refine HM.out.mono ?_; rintro e w2 ⟨v', rfl, hown2, hB2⟩))
          go_roundw
          case rel =>
            refine ⟨pos + 1, l ++ [(st, pos)], pos + 1, (hB2.block _ (by omega)).trans hit', by go_num, HS2.out, ?_, by omega, hB'.trans (hB2.mono (by omega)), by have := hB2.size; omega⟩
            rw [wordCells_snoc, List.length_append]
            exact hown2
          case measure =>
            have := iterPos_of ((hB2.block _ (by omega)).trans hit')
            rw [this, HP.out]; omega
      · have hcl : (cls (runeAt s pos) == 4) = false := by
          have := mt (blank_rune s pos hp).1 hb
          simpa using this
        have HS := Lib.hid (splitTo_rune s pos hp hb)
        rw [hc] at HS
        rw [hsz'.symm] at hsz
        clear hc hb hsz'
        generalize hX : wr.iterAt w.heap.size s (pos + wideAt s pos) = wx at *
        clear hX
        go_wp2_with (go_at_call 16; refine (class_any _ _).mono ?_; rintro e w' ⟨rfl, rfl⟩)
        go_roundw
        case rel => exact ⟨pos + wideAt s pos, l, st, hit', rfl, HS.out, hown', by omega, hB', hsz⟩
        case measure => rw [HP.out, HP'.out]; omega
    · have hnx := fun ty => Lib.run_next_end_at (P := Try.prog) wr w.heap.size s pos ty hit hp
      obtain rfl : pos = s.size := by omega
      have HS := Lib.hid (show wordsOf s = if st = s.size then l else l ++ [(st, s.size)] by unfold wordsOf; rw [hc])
      clear hc
      by_cases he : st = s.size
      · have he' := he
        rw [if_pos he] at HS
        have HS2 := Lib.hid HS.out
        clear HS he'
        subst he
        go_wp2_with (go_at_call 23; refine (addWord_same _ _ _ _).mono ?_; rintro e w' ⟨rfl, rfl⟩)
        go_ret
        exact ⟨_, rfl, by rw [HS2.out]; exact hown, hB⟩
      · have hlt : st < s.size := by omega
        rw [if_neg he] at HS
        have HS2 := Lib.hid HS.out
        clear he HS
        have hmore := addWord_more s st s.size u3 wr (w.heap.size + 1) l.length (wordCells s l) hs' hlt (by omega) hown hsz (by omega)
        have HM := Lib.hid hmore
        clear hmore
        go_wp2_with (go_at_call 23; refine HM.out.mono ?_; rintro e w2 ⟨v', rfl, hown2, hB2⟩)
        go_ret
        refine ⟨_, rfl, ?_, hB.trans (hB2.mono (by omega))⟩
        rw [HS2.out, wordCells_snoc, List.length_append]
        exact hown2

end Go.Proofs.Ytbmfadignoeigaa
