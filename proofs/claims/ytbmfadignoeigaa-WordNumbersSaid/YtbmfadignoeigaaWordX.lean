/-
  A number in decimal: the call answers the number's text.
-/
import Derived.Test.YtbmfadignoeigaaWordW
import Derived.Test.YtbmfadignoeigaaWordY
namespace Go.Proofs.Ytbmfadignoeigaa
open Go.RowKit

theorem str_size (l : List Int) : (strOfNums l).size = l.length := strOfNums_size l

theorem ret_str {a b : ByteArray} (h : a = b) : Ending.returned (.string a) = .returned (.string b) := by rw [h]

set_option maxRecDepth 100000 in
set_option maxHeartbeats 4000000 in
theorem dec_any (n : Int) (w : World) (h0 : 0 ≤ n) (h1 : n ≤ 999999999) :
    Calls Try.prog 22 #[.int .i64 n] w fun e w' => e = .returned (.string (decS n)) ∧ Below w.heap.size w w' := by
  have HD := Lib.hid (show decGo 12 n ⟨#[]⟩ = decS n from rfl)
  go_enter Try.func22, Try.ntmps22
  go_wp2
  go_loopw [0, 3, 4] (fun m s i wr => ∃ (m' : Int) (s' : ByteArray) (k : Nat), m = .int .i64 m' ∧ s = .string s' ∧ i = .int .i64 k ∧ 0 ≤ m' ∧ m' ≤ 999999999 ∧ s'.size ≤ k ∧ k ≤ 12 ∧ decGo (12 - k) m' s' = decS n ∧ Below w.heap.size w wr) (fun _ _ i _ => 12 - (intOf i).toNat)
  case atStart => exact ⟨n, ⟨#[]⟩, 0, rfl, rfl, rfl, by omega, by omega, by decide, by omega, HD.out, Below.refl _ _⟩
  case round =>
    obtain ⟨m, s, k, rfl, rfl, rfl, h2, h3, h4, h5, hd, hB⟩ := hrel
    rename_i wr
    have HG := Lib.hid hd
    clear hd
    by_cases hk : k < 12
    · have hcv := run_convert_bytes_arg (P := Try.prog) (wr.alloc (.cells #[.int .u8 (48 + m % 10)] 5)) 51 5 Try.underlying51 Try.underlying5 wr.heap.size 0 1 1 [48 + m % 10] rfl
        (fun i hi => by
          obtain rfl : i = 0 := by omega
          exact cell_of_row _ _ 0 #[.int .u8 (48 + m % 10)] 5 (0, 0) (heap_alloc_new wr _)) 9 Try.underlying9
      have hz := str_size [48 + m % 10]
      simp only [List.length_cons, List.length_nil] at hz
      have hz' : (strOfNums [48 + m % 10] ++ s).size ≤ k + 1 := by rw [ByteArray.size_append]; omega
      have hst : decGo (12 - k) m s = if m / 10 = 0 then strOfNums [48 + m % 10] ++ s else decGo (12 - (k + 1)) (m / 10) (strOfNums [48 + m % 10] ++ s) := by
        have e : 12 - k = 12 - (k + 1) + 1 := by omega
        rw [e, decGo]
      have HS := Lib.hid hst
      clear hst
      generalize hX : strOfNums [48 + m % 10] = x at *
      clear hX
      by_cases hm : m / 10 = 0
      · rw [if_pos hm] at HS
        have HS2 := Lib.hid HS.out
        clear HS
        have hm' : (m / 10 == 0) = true := by simpa using hm
        clear hm
        go_wp2
        go_ret
        exact ⟨ret_str (by rw [← HG.out, HS2.out]), hB.alloc hB.size _⟩
      · rw [if_neg hm] at HS
        have HS2 := Lib.hid HS.out
        clear HS
        have hm' : (m / 10 == 0) = false := by simpa using hm
        clear hm
        go_wp2
        go_roundw
        case rel => exact ⟨m / 10, x ++ s, k + 1, rfl, rfl, by go_num, by omega, by omega, hz', by omega, by rw [← HG.out, HS2.out], hB.alloc hB.size _⟩
        case measure => simp [intOf]; omega
    · have hst : decGo (12 - k) m s = s := by
        have e : 12 - k = 0 := by omega
        rw [e, decGo]
      have HS := Lib.hid hst
      clear hst
      go_wp2
      go_ret
      exact ⟨ret_str (by rw [← HG.out, HS.out]), hB⟩

end Go.Proofs.Ytbmfadignoeigaa
