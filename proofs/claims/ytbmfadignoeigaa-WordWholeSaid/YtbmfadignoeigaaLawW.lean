/-
  WordWhole: the words of a line, put together with blanks between, are the line: the law's call answers true at every input.
-/
import Derived.Test.YtbmfadignoeigaaLawS
namespace Go.Proofs.Ytbmfadignoeigaa
open Go.RowKit

theorem flat2_app (f g : (Nat × Nat) → Value) : ∀ (d : List (Nat × Nat)) (x : Nat × Nat) (r : List (Nat × Nat)),
    ((d ++ x :: r).flatMap fun y => [f y, g y])[d.length * 2]? = some (f x) ∧ ((d ++ x :: r).flatMap fun y => [f y, g y])[d.length * 2 + 1]? = some (g x) :=
  fun d x r => flat2_get f g (d ++ x :: r) d.length x (by simp)

theorem cut_size_eq (s : ByteArray) (a m : Nat) (h : a + m ≤ s.size) : (s.extract a (a + m)).size = m := by
  rw [ByteArray.size_extract]; omega

theorem cut_byte (s : ByteArray) (a m k : Nat) (h : a + m ≤ s.size) (hk : k < m) : byteAt (s.extract a (a + m)) k = byteAt s (a + k) := by
  have h1 : k < (s.extract a (a + m)).size := by rw [cut_size_eq s a m h]; exact hk
  rw [← byteAt_of _ k h1, ← byteAt_of s (a + k) (by omega)]
  simp [ByteArray.getElem_extract]

set_option maxRecDepth 100000 in
set_option maxHeartbeats 4000000 in
theorem wordWhole_any (s : ByteArray) (w : World) (hs : s.size ≤ maxLen) :
    Calls Try.prog 3 #[.string s] w fun e w' => e = .returned (.bool true) ∧ Below w.heap.size w w' := by
  have hm := hs
  unfold maxLen at hm
  go_enter Try.func3, Try.ntmps3
  by_cases hl : 3000 < s.size
  · go_wp2_with fail
    refine (awake_any w).mono ?_
    rintro e w1 ⟨rfl, hB1⟩
    go_wp2_with fail
    refine (awake_any w1).mono ?_
    rintro e w2 ⟨rfl, hB2⟩
    go_wp2
    go_ret
    exact ⟨rfl, hB1.trans (hB2.mono hB1.size)⟩
  go_wp2_with fail
  refine (awake_any w).mono ?_
  rintro e w1 ⟨rfl, hB1⟩
  go_wp2_with fail
  refine (split_any s w1 (by omega)).mono ?_
  rintro e w2 ⟨v1, rfl, hown1, hB2⟩
  obtain ⟨_, A1, cap1, rfl, hcap1, hc1⟩ := Sl.of_own hown1
  obtain ⟨hlen, e, hch, hend⟩ := wordsOf_facts s
  have HE := Lib.hid hend
  clear hend hown1
  generalize hX : wordsOf s = l at *
  clear hX
  have h1 := hB1.size
  have HB : Below w.heap.size w w2 := hB1.trans (hB2.mono h1)
  clear hB1 h1
  go_wp2
  go_loopw [3, 5] (fun at_ i wr => ∃ (d r : List (Nat × Nat)) (f : Bool) (p n : Nat), d ++ r = l ∧ at_ = .int .i64 p ∧ i = .int .i64 n ∧ d.length = n ∧ Ch s p f r e ∧ (0 < n → f = true) ∧ p ≤ s.size ∧ Below w2.heap.size w2 wr ∧ Below w.heap.size w wr)
    (fun _ i _ => l.length - (intOf i).toNat)
  case atStart => exact ⟨[], l, false, 0, 0, rfl, rfl, rfl, rfl, hch, by simp, by omega, Below.refl _ _, HB⟩
  case round =>
    obtain ⟨d, r, f, p, n, hdr, rfl, rfl, hdn, hch', hff, hps, hBr, hBw⟩ := hrel
    rename_i wr
    clear hch
    match r, hdr, hch' with
    | [], hdr, hch' =>
      obtain rfl : e = p := hch'
      rw [List.append_nil] at hdr
      subst hdr
      subst hdn
      go_wp2
      go_loop [9] (fun k => ∃ k' : Nat, k' ≤ s.size ∧ e ≤ k' ∧ k = .int .i64 k') (fun k => s.size - (intOf k).toNat)
      case atStart => exact ⟨e, hps, Nat.le_refl _, rfl⟩
      case round =>
        obtain ⟨k, hk, hek, rfl⟩ := hrel
        by_cases hlt : k < s.size
        · have hbk := byteAt_of s k hlt
          have hbl : (byteAt s k != 32) = false := by have := HE.out k hek hlt; unfold blankAt at this; simpa using this
          go_wp2
          go_round
          case rel => exact ⟨k + 1, by omega, by omega, by go_num⟩
          case measure => simp [intOf]; omega
        · go_wp2
          go_ret
          exact ⟨rfl, hBw⟩
    | (a, b) :: r, hdr, hch' =>
      obtain ⟨q1, q2, q3, q4, q5, q6, q7⟩ := hch'
      obtain ⟨m, rfl⟩ : ∃ m, b = a + m := ⟨b - a, by omega⟩
      have hlt : n < l.length := by rw [← hdr, ← hdn]; simp
      obtain ⟨g1, rfl, hg1, hr1⟩ := hc1 (by omega)
      have hx := flat2_app (fun y => .int .i64 (y.1 : Int)) (fun y => .string (s.extract y.1 y.2)) d (a, a + m) r
      rw [hdr, hdn] at hx
      have d1 := (hBr.cell (p := ⟨g1, n * 2, none⟩) hg1).trans (hr1 _ _ hx.1)
      have d2 := (hBr.cell (p := ⟨g1, n * 2 + 1, none⟩) hg1).trans (hr1 _ _ hx.2)
      have hcut := cut_run (P := Try.prog) Try.underlying9 s a (a + m) (by omega) q4
      rw [show ((a + m : Nat) : Int) = (a : Int) + (m : Int) from Int.natCast_add a m] at hcut
      have hts := cut_size_eq s a m q4
      have HTB := Lib.hid (fun k hk => cut_byte s a m k q4 hk)
      have HQ2 := Lib.hid q2
      have HQ5 := Lib.hid q5
      have HQ6 := Lib.hid q6
      have HQ7 := Lib.hid q7
      have HDR := Lib.hid hdr
      have HDN := Lib.hid hdn
      have hsum : IntKind.i64.wrap ((a : Int) + (m : Int)) = (a : Int) + (m : Int) := IntWalk.i64_in _ (by omega)
      have hgt : 0 < n → ¬ (a : Int) = p := by intro h; have := q2 (hff h); omega
      clear hx hr1 hc1 q2 q5 q6 q7 hdr hdn hff
      simp only at d1 d2
      generalize s.extract a (a + m) = t at *
      have c0 := cell_of_row (wr.alloc (.cells #[.int .i64 a, .string t] 26)) wr.heap.size 0 #[.int .i64 a, .string t] 26 (0, 0) (heap_alloc_new wr _)
      have c1 := cell_of_row (wr.alloc (.cells #[.int .i64 a, .string t] 26)) wr.heap.size 1 #[.int .i64 a, .string t] 26 (0, 0) (heap_alloc_new wr _)
      have hBr' := hBr.alloc hBr.size (.cells #[.int .i64 a, .string t] 26)
      have hBw' := hBw.alloc hBw.size (.cells #[.int .i64 a, .string t] 26)
      have e1 : decide ((a : Int) < p) = false := by simpa using q1
      have e2 : ((m : Int) == 0) = false := by simp; omega
      have e3 : decide ((s.size : Int) < (a : Int) + (m : Int)) = false := by simp; omega
      have e5 : (0 < n ∧ ((a : Int) == p) = false) ∨ ¬ 0 < n := by
        by_cases hd0 : 0 < n
        · exact .inl ⟨hd0, by simpa using hgt hd0⟩
        · exact .inr hd0
      clear hgt
      rcases e5 with ⟨e5, e4⟩ | e5
      all_goals
        go_wp2_with fail
        generalize wr.alloc (.cells #[.int .i64 a, .string t] 26) = wx at *
        go_quiet (fail)
        go_wp2
        go_loop [7] (fun k => ∃ k' : Nat, p ≤ k' ∧ k' ≤ a ∧ k = .int .i64 k') (fun k => a - (intOf k).toNat)
        case atStart => exact ⟨p, Nat.le_refl _, q1, rfl⟩
        case round =>
          obtain ⟨k, hk1, hk2, rfl⟩ := hrel
          by_cases hka : k < a
          · have hbk := byteAt_of s k (by omega)
            have hbl : (byteAt s k != 32) = false := by have := HQ5.out k hk1 hka; unfold blankAt at this; simpa using this
            go_wp2
            go_round
            case rel => exact ⟨k + 1, by omega, by omega, by go_num⟩
            case measure => simp [intOf]; omega
          · obtain rfl : k = a := by omega
            go_wp2
            go_loop [8] (fun j => ∃ j' : Nat, j' ≤ m ∧ j = .int .i64 j') (fun j => m - (intOf j).toNat)
            case atStart => exact ⟨0, by omega, rfl⟩
            case round =>
              obtain ⟨j, hj, rfl⟩ := hrel
              by_cases hjm : j < m
              · have hbk := byteAt_of t j (by omega)
                have htb := HTB.out j hjm
                have hbl : (byteAt t j == 32) = false := by rw [htb]; have := HQ6.out (k + j) (by omega) (by omega); unfold blankAt at this; simpa using this
                clear htb
                go_wp2
                go_round
                case rel => exact ⟨j + 1, by omega, by go_num⟩
                case measure => simp [intOf]; omega
              · obtain rfl : j = m := by omega
                go_wp2
                go_roundw
                case rel => exact ⟨d ++ [(k, k + j)], r, true, k + j, n + 1, by rw [← HDR.out]; simp, by go_num, by go_num, by rw [← HDN.out]; simp, HQ7.out, fun _ => rfl, q4, below_drewN hBr' _, below_drewN hBw' _⟩
                case measure => simp [intOf]; omega

end Go.Proofs.Ytbmfadignoeigaa
