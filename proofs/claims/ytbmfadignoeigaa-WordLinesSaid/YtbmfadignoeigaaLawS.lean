/-
  WordSplits: the words of any line are the document's: the law's call answers true at every input.
-/
import Derived.Test.YtbmfadignoeigaaWordW
import Derived.Test.YtbmfadignoeigaaWordV
import Derived.Deep.QuietTactic
import Derived.BigQuiet
namespace Go.Proofs.Ytbmfadignoeigaa
open Go.RowKit

theorem flat2_get (f g : (Nat × Nat) → Value) : ∀ (l : List (Nat × Nat)) (k : Nat) (x : Nat × Nat), l[k]? = some x →
    (l.flatMap fun y => [f y, g y])[k * 2]? = some (f x) ∧ (l.flatMap fun y => [f y, g y])[k * 2 + 1]? = some (g x)
  | [], k, x, h => by simp at h
  | y :: l, 0, x, h => by simp at h; subst h; simp
  | y :: l, k + 1, x, h => by
    have := flat2_get f g l k x (by simpa using h)
    have e : (k + 1) * 2 = k * 2 + 1 + 1 := by omega
    simp only [List.flatMap_cons, e]
    simpa using this

theorem ch_range (s : ByteArray) : ∀ (l : List (Nat × Nat)) (p : Nat) (f : Bool) (e : Nat), Ch s p f l e → ∀ x ∈ l, x.1 ≤ x.2 ∧ x.2 ≤ s.size
  | [], _, _, _, _, x, hx => by simp at hx
  | (a, b) :: l, p, f, e, h, x, hx => by
    obtain ⟨_, _, q3, q4, _, _, q7⟩ := h
    simp only [List.mem_cons] at hx
    rcases hx with rfl | hx
    · exact ⟨by simp; omega, q4⟩
    · exact ch_range s l b true e q7 x hx

set_option maxRecDepth 100000 in
set_option maxHeartbeats 4000000 in
theorem wordSplits_any (s : ByteArray) (w : World) (hs : s.size ≤ maxLen) :
    Calls Try.prog 6 #[.string s] w fun e w' => e = .returned (.bool true) ∧ Below w.heap.size w w' := by
  have hm := hs
  unfold maxLen at hm
  go_enter Try.func6, Try.ntmps6
  by_cases hl : 3000 < s.size
  · go_wp2_with fail
    refine (awake_any w).mono ?_
    rintro e w1 ⟨rfl, hB1⟩
    go_wp2_with fail
    refine (awake_any w1).mono ?_
    rintro e w2 ⟨rfl, hB2⟩
    go_wp2
    go_ret
    exact ⟨rfl, hB1.trans (hB2.mono hB1.size)⟩
  go_wp2_with fail
  refine (awake_any w).mono ?_
  rintro e w1 ⟨rfl, hB1⟩
  go_wp2_with fail
  refine (split_any s w1 (by omega)).mono ?_
  rintro e w2 ⟨v1, rfl, hown1, hB2⟩
  obtain ⟨_, A1, cap1, rfl, hcap1, hc1⟩ := Sl.of_own hown1
  go_wp2_with fail
  refine (refWords_any s w2 (by omega)).mono ?_
  rintro e w3 ⟨v2, rfl, hown2, hB3⟩
  obtain ⟨_, A2, cap2, rfl, hcap2, hc2⟩ := Sl.of_own hown2
  have hf := wordsOf_facts s
  have hlen := hf.1
  have hrange : ∀ (k : Nat) (x : Nat × Nat), (wordsOf s)[k]? = some x → x.1 ≤ x.2 ∧ x.2 ≤ s.size := fun k x h => by
    obtain ⟨e, hch, _⟩ := hf.2
    exact ch_range s _ _ _ _ hch x (List.mem_of_getElem? h)
  clear hf hown1 hown2
  have HR := Lib.hid hrange
  clear hrange
  generalize hX : wordsOf s = l at *
  clear hX
  have h1 := hB1.size
  have h2 := hB2.size
  have HB : Below w.heap.size w w3 := (hB1.trans (hB2.mono h1)).trans (hB3.mono (by omega))
  clear hB1 h1 h2
  go_wp2
  go_loopw [5] (fun i wr => ∃ k : Nat, k ≤ l.length ∧ i = .int .i64 k ∧ Below w3.heap.size w3 wr ∧ Below w.heap.size w wr) (fun i _ => l.length - (intOf i).toNat)
  case atStart => exact ⟨0, by omega, rfl, Below.refl _ _, HB⟩
  case round =>
    obtain ⟨k, hk, rfl, hBr, hBw⟩ := hrel
    rename_i wr
    by_cases hlt : k < l.length
    · obtain ⟨g1, rfl, hg1, hr1⟩ := hc1 (by omega)
      obtain ⟨g2, rfl, hg2, hr2⟩ := hc2 (by omega)
      obtain ⟨⟨a, b⟩, hx⟩ : ∃ x, l[k]? = some x := ⟨_, List.getElem?_eq_getElem hlt⟩
      have hab := HR.out k _ hx
      have q1 := flat2_get (fun y => .int .i64 (y.1 : Int)) (fun y => .string (s.extract y.1 y.2)) l k _ hx
      have q2 := flat2_get (fun y => .int .i64 (y.1 : Int)) (fun y => .int .i64 (y.2 : Int)) l k _ hx
      have d1 := (hBr.cell (p := ⟨g1, k * 2, none⟩) (by have := hB3.size; simp; omega)).trans ((hB3.cell (p := ⟨g1, k * 2, none⟩) hg1).trans (hr1 _ _ q1.1))
      have d2 := (hBr.cell (p := ⟨g1, k * 2 + 1, none⟩) (by have := hB3.size; simp; omega)).trans ((hB3.cell (p := ⟨g1, k * 2 + 1, none⟩) hg1).trans (hr1 _ _ q1.2))
      have d3 := (hBr.cell (p := ⟨g2, k * 2, none⟩) hg2).trans (hr2 _ _ q2.1)
      have d4 := (hBr.cell (p := ⟨g2, k * 2 + 1, none⟩) hg2).trans (hr2 _ _ q2.2)
      have hcut := cut_run (P := Try.prog) Try.underlying9 s a b hab.1 hab.2
      clear q1 q2 hr1 hr2 hc1 hc2 hx hab
      go_wp2_with fail
      go_quiet (fail)
      go_wp2
      go_roundw
      case rel => exact ⟨k + 1, by omega, by go_num, below_drewN hBr _, below_drewN hBw _⟩
      case measure => simp [intOf]; omega
    · obtain rfl : k = l.length := by omega
      go_wp2
      go_ret
      exact ⟨rfl, hBw⟩

end Go.Proofs.Ytbmfadignoeigaa
