/-
  The document's Right, Same, First, Order and Labels: their calls answer the mathematics.
-/
import Derived.Test.YtohaopfpjkhheaaRgF
import Derived.Test.YtohaopfpjkhheaaRgN
namespace Go.Proofs.Ytohaopfpjkhheaa
open Go.RowKit

set_option maxRecDepth 100000 in
set_option maxHeartbeats 1000000 in
theorem refRight_any (v : Value) (l : List Int) (w : World) (h : Ints w v l) (hl : l.length ≤ 1000000) :
    Calls Try.prog 42 #[v] w fun e w' => e = .returned (.bool (nodupB l)) ∧ w = w' := by
  have HI := Lib.hid h
  obtain ⟨A, cap, rfl, hcap, _, hcell⟩ := h
  go_enter Try.func42, Try.ntmps42
  go_wp2
  go_loop [3] (fun i => ∃ k : Nat, k ≤ l.length ∧ i = .int .i64 k ∧ Hid (newTo l k)) (fun i => l.length - (intOf i).toNat)
  case atStart => exact ⟨0, Nat.zero_le _, rfl, Lib.hid (fun j hj => absurd hj (Nat.not_lt_zero _))⟩
  case round =>
    obtain ⟨k, hk, rfl, hne⟩ := hrel
    by_cases hlt : k < l.length
    · obtain ⟨b, off, rfl, hb, hc⟩ := hcell (by omega)
      have hck := hc k hlt
      clear hc hcell
      rcases idx_self l k hlt with ⟨e, hn⟩ | ⟨m, e, hm, he⟩
      · have HE := Lib.hid e
        have HK := Lib.hid (newTo_succ hne.out hn)
        clear e hn
        go_wp2_with fail
        refine (rgFind_any _ l _ _ HI.out hl).mono ?_
        rintro e w' ⟨rfl, rfl⟩
        rw [HE.out]
        go_wp2
        go_round
        case rel => exact ⟨k + 1, by omega, by go_num, HK⟩
        case measure => simp [intOf]; omega
      · have HE := Lib.hid e
        have HF := Lib.hid (nodupB_false (l := l) (fun h => (nodup_getI l).1 h m k hm hlt he))
        clear e he
        go_wp2_with fail
        refine (rgFind_any _ l _ _ HI.out hl).mono ?_
        rintro e w' ⟨rfl, rfl⟩
        rw [HE.out]
        go_wp2
        go_ret
        exact ⟨ret_bool HF.out.symm, rfl⟩
    · obtain rfl : k = l.length := by omega
      have HF := Lib.hid (nodupB_true (newTo_all hne.out))
      go_wp2
      go_ret
      exact ⟨ret_bool HF.out.symm, rfl⟩

set_option maxRecDepth 100000 in
set_option maxHeartbeats 1000000 in
theorem refFirst_any (v : Value) (l : List Int) (w : World) (h : Ints w v l) (hl : l.length ≤ 1000000) :
    Calls Try.prog 25 #[v] w fun e w' => ∃ u, e = .returned u ∧ w'.ownsRow w.heap.size 3 1 u l.length ((rotL l (minAt l l.length)).map (Value.int .i64)) ∧ Below w.heap.size w w' := by
  have HI := Lib.hid h
  obtain ⟨A, cap, rfl, hcap, _, hcell⟩ := h
  go_enter Try.func25, Try.ntmps25
  go_wp2
  go_loopw [3, 4] (fun a i wr => ∃ k n : Nat, k ≤ l.length ∧ i = .int .i64 k ∧ a = .int .i64 (minAt l k : Nat) ∧ wr = w.drewN n) (fun _ i _ => l.length - (intOf i).toNat)
  case atStart => exact ⟨0, 0, Nat.zero_le _, rfl, rfl, rfl⟩
  case round =>
    obtain ⟨k, n, hk, rfl, rfl, rfl⟩ := hrel
    by_cases hlt : k < l.length
    · obtain ⟨b, off, rfl, hb, hc⟩ := hcell (by omega)
      have hck := hc k hlt
      have hml := minAt_le l k
      have hcm := hc (minAt l k) (by omega)
      have HK := Lib.hid (show minAt l (k + 1) = if getI l k < getI l (minAt l k) then k else minAt l k from rfl)
      clear hc hcell
      generalize minAt l k = a at *
      have hal : a < l.length := by omega
      by_cases he : getI l k < getI l a
      · rw [if_pos he] at HK
        have HK2 := Lib.hid HK.out
        have he' : decide (getI l k < getI l a) = true := by simpa using he
        clear he HK
        go_wp2_with fail
        go_quiet (fail)
        go_wp2
        go_roundw
        case rel => exact ⟨k + 1, _, by omega, by go_num, by rw [HK2.out], rfl⟩
        case measure => simp [intOf]; omega
      · rw [if_neg he] at HK
        have HK2 := Lib.hid HK.out
        have he' : decide (getI l k < getI l a) = false := by simpa using he
        clear he HK
        go_wp2_with fail
        go_quiet (fail)
        go_wp2
        go_roundw
        case rel => exact ⟨k + 1, _, by omega, by go_num, by rw [HK2.out], rfl⟩
        case measure => simp [intOf]; omega
    · obtain rfl : k = l.length := by omega
      have hml := minAt_le l l.length
      have HM := Lib.hid (show rotL l (minAt l l.length % l.length) = rotL l (minAt l l.length) by
        by_cases h0 : l.length = 0
        · have e1 : l = [] := List.length_eq_zero_iff.1 h0
          rw [e1]; simp [rotL]
        · rw [Nat.mod_eq_of_lt (minAt_lt l _ (by omega))])
      clear hcell
      go_wp2_with fail
      refine (turned_any _ l (minAt l l.length) _ (HI.out.drewN n) hl (by omega)).mono ?_
      rintro e w1 ⟨t, rfl, hown, hB1⟩
      rw [HM.out] at hown
      go_wp2
      go_ret
      exact ⟨_, rfl, hown, (below_drewN' w n).trans hB1⟩

/-- Whether three numbers come in that order. -/
def orderB (l : List Int) (a b c : Int) : Bool :=
  decide (a ≠ b ∧ b ≠ c ∧ a ≠ c ∧ 0 ≤ Lib.idxOf l a ∧ 0 ≤ Lib.idxOf l b ∧ 0 ≤ Lib.idxOf l c ∧ Lib.idxOf (rotL l (Lib.idxOf l a).toNat) b < Lib.idxOf (rotL l (Lib.idxOf l a).toNat) c)

end Go.Proofs.Ytohaopfpjkhheaa
