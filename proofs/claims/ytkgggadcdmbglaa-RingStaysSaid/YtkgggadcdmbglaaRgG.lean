/-
  The document's Right, Same, First, Order and Labels: their calls answer the mathematics.
-/
import Derived.Test.YtkgggadcdmbglaaRgF
import Derived.Test.YtkgggadcdmbglaaRgN
namespace Go.Proofs.Ytkgggadcdmbglaa
open Go.RowKit

set_option maxRecDepth 100000 in
set_option maxHeartbeats 1000000 in
theorem refRight_any (v : Value) (l : List Int) (w : World) (h : Ints w v l) (hl : l.length ≤ 1000000) :
    Calls Try.prog 19 #[v] w fun e w' => e = .returned (.bool (nodupB l)) ∧ w = w' := by
  have HI := Lib.hid h
  obtain ⟨A, cap, rfl, hcap, _, hcell⟩ := h
  go_enter Try.func19, Try.ntmps19
  go_wp2
  go_loop [3] (fun i => ∃ k : Nat, k ≤ l.length ∧ i = .int .i64 k ∧ Hid (newTo l k)) (fun i => l.length - (intOf i).toNat)
  case atStart => exact ⟨0, Nat.zero_le _, rfl, Lib.hid (fun j hj => absurd hj (Nat.not_lt_zero _))⟩
  case round =>
    obtain ⟨k, hk, rfl, hne⟩ := hrel
    by_cases hlt : k < l.length
    · obtain ⟨b, off, rfl, hb, hc⟩ := hcell (by omega)
      have hck := hc k hlt
      clear hc hcell
      rcases idx_self l k hlt with ⟨e, hn⟩ | ⟨m, e, hm, he⟩
      · have HE := Lib.hid e
        have HK := Lib.hid (newTo_succ hne.out hn)
        clear e hn
        go_wp2_with fail
        refine (find_any _ l _ _ HI.out hl).mono ?_
        rintro e w' ⟨rfl, rfl⟩
        rw [HE.out]
        go_wp2
        go_round
        case rel => exact ⟨k + 1, by omega, by go_num, HK⟩
        case measure => simp [intOf]; omega
      · have HE := Lib.hid e
        have HF := Lib.hid (nodupB_false (l := l) (fun h => (nodup_getI l).1 h m k hm hlt he))
        clear e he
        go_wp2_with fail
        refine (find_any _ l _ _ HI.out hl).mono ?_
        rintro e w' ⟨rfl, rfl⟩
        rw [HE.out]
        go_wp2
        go_ret
        exact ⟨ret_bool HF.out.symm, rfl⟩
    · obtain rfl : k = l.length := by omega
      have HF := Lib.hid (nodupB_true (newTo_all hne.out))
      go_wp2
      go_ret
      exact ⟨ret_bool HF.out.symm, rfl⟩

set_option maxRecDepth 100000 in
set_option maxHeartbeats 1000000 in
theorem refSame_any (v : Value) (l : List Int) (u : Value) (m : List Int) (w : World) (h : Ints w v l) (h' : Ints w u m) (hl : l.length ≤ 1000000) (hm : m.length ≤ 1000000) :
    Calls Try.prog 20 #[v, u] w fun e w' => e = .returned (.bool (ring1B l m)) ∧ Below w.heap.size w w' := by
  have HI := Lib.hid h
  have HI' := Lib.hid h'
  obtain ⟨A, cap, rfl, hcap, _, hcell⟩ := h
  obtain ⟨A', cap', rfl, hcap', _, hcell'⟩ := h'
  clear hcell hcell'
  by_cases hlen : l.length = m.length
  case neg =>
    have HF := Lib.hid (ring1B_false (a := l) (b := m) (fun h => hlen h.1))
    have hne' : ((l.length : Int) != (m.length : Int)) = true := by simp; omega
    clear hlen
    go_enter Try.func20, Try.ntmps20
    go_wp2
    go_ret
    exact ⟨ret_bool HF.out.symm, Below.refl _ _⟩
  have HL := Lib.hid hlen
  have hne' : ((l.length : Int) != (m.length : Int)) = false := by simp; omega
  have hle : l.length ≤ m.length := by omega
  clear hlen
  go_enter Try.func20, Try.ntmps20
  go_wp2
  go_loopw [5] (fun i wr => ∃ k : Nat, k ≤ m.length ∧ i = .int .i64 k ∧ Below w.heap.size w wr ∧ Hid (∀ j, j < k → l ≠ rotL m j)) (fun i _ => m.length - (intOf i).toNat)
  case atStart => exact ⟨0, Nat.zero_le _, rfl, Below.refl _ _, Lib.hid (fun j hj => absurd hj (Nat.not_lt_zero _))⟩
  case round =>
    obtain ⟨k, hk, rfl, hB, hne⟩ := hrel
    rename_i wr
    by_cases hlt : k < m.length
    · have hIr := HI'.out.below hB
      have hlr := HI.out.below hB
      have HJ := Lib.hid hlr
      have HJ' := Lib.hid hIr
      clear hlr hIr
      go_wp2_with fail
      refine (turned_any _ m k wr HJ'.out hm (by omega)).mono ?_
      rintro e w1 ⟨t, rfl, hown, hB1⟩
      rw [Nat.mod_eq_of_lt hlt, ← rotL_length m k] at hown
      have HT := Lib.hid (Ints.of_own hown)
      have HB1 := hB.trans (hB1.mono hB.size)
      have HL1 := Lib.hid (HJ.out.below hB1)
      clear hown
      by_cases he : l = rotL m k
      · have HF := Lib.hid (show decide (l = rotL m k) = true by simpa using he)
        have HG := Lib.hid (ring1B_true (show Ring1 l m from ⟨HL.out, k, hk, he⟩))
        clear he
        go_wp2_with fail
        refine (equal_any _ l _ (rotL m k) w1 HL1.out HT.out hl).mono ?_
        rintro e w2 ⟨rfl, n, rfl⟩
        rw [HF.out]
        go_wp2
        go_ret
        exact ⟨ret_bool HG.out.symm, below_drewN HB1 n⟩
      · have HF := Lib.hid (show decide (l = rotL m k) = false by simpa using he)
        have HK := Lib.hid he
        clear he
        go_wp2_with fail
        refine (equal_any _ l _ (rotL m k) w1 HL1.out HT.out hl).mono ?_
        rintro e w2 ⟨rfl, n, rfl⟩
        rw [HF.out]
        go_wp2
        go_roundw
        case rel => exact ⟨k + 1, by omega, by go_num, below_drewN HB1 n, Lib.hid (fun j hj => by
          by_cases e : j = k
          · rw [e]; exact HK.out
          · exact hne.out j (by omega))⟩
        case measure => simp [intOf]; omega
    · obtain rfl : k = m.length := by omega
      by_cases h0 : l.length = 0
      · have HF := Lib.hid (show ring1B l m = true by
          have e1 : l = [] := List.length_eq_zero_iff.1 h0
          have e2 : m = [] := List.length_eq_zero_iff.1 (by rw [← HL.out]; exact h0)
          rw [e1, e2]; exact ring1B_true (Ring1.refl []))
        have h0' : ((l.length : Int) == 0) = true := beq_iff_eq.2 (by omega)
        clear h0
        go_wp2
        go_ret
        exact ⟨ret_bool HF.out.symm, hB⟩
      · have HF := Lib.hid (show ring1B l m = false by
          refine ring1B_false ?_
          rintro ⟨_, j, hj, e⟩
          by_cases hjm : j = m.length
          · refine hne.out 0 (by omega) ?_
            rw [e, hjm]; simp [rotL]
          · exact hne.out j (by omega) e)
        have h0' : ((l.length : Int) == 0) = false := beq_eq_false_iff_ne.2 (by omega)
        clear h0
        go_wp2
        go_ret
        exact ⟨ret_bool HF.out.symm, hB⟩

set_option maxRecDepth 100000 in
set_option maxHeartbeats 1000000 in
theorem refFirst_any (v : Value) (l : List Int) (w : World) (h : Ints w v l) (hl : l.length ≤ 1000000) :
    Calls Try.prog 21 #[v] w fun e w' => ∃ u, e = .returned u ∧ w'.ownsRow w.heap.size 3 1 u l.length ((rotL l (minAt l l.length)).map (Value.int .i64)) ∧ Below w.heap.size w w' := by
  have HI := Lib.hid h
  obtain ⟨A, cap, rfl, hcap, _, hcell⟩ := h
  go_enter Try.func21, Try.ntmps21
  go_wp2
  go_loopw [3, 4] (fun a i wr => ∃ k n : Nat, k ≤ l.length ∧ i = .int .i64 k ∧ a = .int .i64 (minAt l k : Nat) ∧ wr = w.drewN n) (fun _ i _ => l.length - (intOf i).toNat)
  case atStart => exact ⟨0, 0, Nat.zero_le _, rfl, rfl, rfl⟩
  case round =>
    obtain ⟨k, n, hk, rfl, rfl, rfl⟩ := hrel
    by_cases hlt : k < l.length
    · obtain ⟨b, off, rfl, hb, hc⟩ := hcell (by omega)
      have hck := hc k hlt
      have hml := minAt_le l k
      have hcm := hc (minAt l k) (by omega)
      have HK := Lib.hid (show minAt l (k + 1) = if getI l k < getI l (minAt l k) then k else minAt l k from rfl)
      clear hc hcell
      generalize minAt l k = a at *
      have hal : a < l.length := by omega
      by_cases he : getI l k < getI l a
      · rw [if_pos he] at HK
        have HK2 := Lib.hid HK.out
        have he' : decide (getI l k < getI l a) = true := by simpa using he
        clear he HK
        go_wp2_with fail
        go_quiet (fail)
        go_wp2
        go_roundw
        case rel => exact ⟨k + 1, _, by omega, by go_num, by rw [HK2.out], rfl⟩
        case measure => simp [intOf]; omega
      · rw [if_neg he] at HK
        have HK2 := Lib.hid HK.out
        have he' : decide (getI l k < getI l a) = false := by simpa using he
        clear he HK
        go_wp2_with fail
        go_quiet (fail)
        go_wp2
        go_roundw
        case rel => exact ⟨k + 1, _, by omega, by go_num, by rw [HK2.out], rfl⟩
        case measure => simp [intOf]; omega
    · obtain rfl : k = l.length := by omega
      have hml := minAt_le l l.length
      have HM := Lib.hid (show rotL l (minAt l l.length % l.length) = rotL l (minAt l l.length) by
        by_cases h0 : l.length = 0
        · have e1 : l = [] := List.length_eq_zero_iff.1 h0
          rw [e1]; simp [rotL]
        · rw [Nat.mod_eq_of_lt (minAt_lt l _ (by omega))])
      clear hcell
      go_wp2_with fail
      refine (turned_any _ l (minAt l l.length) _ (HI.out.drewN n) hl (by omega)).mono ?_
      rintro e w1 ⟨t, rfl, hown, hB1⟩
      rw [HM.out] at hown
      go_wp2
      go_ret
      exact ⟨_, rfl, hown, (below_drewN' w n).trans hB1⟩

/-- Whether three numbers come in that order. -/
def orderB (l : List Int) (a b c : Int) : Bool :=
  decide (a ≠ b ∧ b ≠ c ∧ a ≠ c ∧ 0 ≤ Lib.idxOf l a ∧ 0 ≤ Lib.idxOf l b ∧ 0 ≤ Lib.idxOf l c ∧ Lib.idxOf (rotL l (Lib.idxOf l a).toNat) b < Lib.idxOf (rotL l (Lib.idxOf l a).toNat) c)

set_option maxRecDepth 100000 in
set_option maxHeartbeats 2000000 in
theorem refOrder_any (v : Value) (l : List Int) (a b c : Int) (w : World) (h : Ints w v l) (hl : l.length ≤ 1000000) :
    Calls Try.prog 23 #[v, .int .i64 a, .int .i64 b, .int .i64 c] w fun e w' => e = .returned (.bool (orderB l a b c)) ∧ Below w.heap.size w w' := by
  have HI := Lib.hid h
  obtain ⟨A, cap, rfl, hcap, _, hcell⟩ := h
  clear hcell
  go_enter Try.func23, Try.ntmps23
  by_cases hab : a = b
  · have HF := Lib.hid (show orderB l a b c = false by unfold orderB; simp [hab])
    have e1 : (a == b) = true := by simpa using hab
    clear hab
    go_wp2
    go_ret
    exact ⟨ret_bool HF.out.symm, Below.refl _ _⟩
  have e1 : (a == b) = false := by simpa using hab
  by_cases hbc : b = c
  · have HF := Lib.hid (show orderB l a b c = false by unfold orderB; simp [hbc])
    have e2 : (b == c) = true := by simpa using hbc
    clear hab hbc
    go_wp2
    go_ret
    exact ⟨ret_bool HF.out.symm, Below.refl _ _⟩
  have e2 : (b == c) = false := by simpa using hbc
  by_cases hac : a = c
  · have HF := Lib.hid (show orderB l a b c = false by unfold orderB; simp [hac])
    have e3 : (a == c) = true := by simpa using hac
    clear hab hbc hac
    go_wp2
    go_ret
    exact ⟨ret_bool HF.out.symm, Below.refl _ _⟩
  have e3 : (a == c) = false := by simpa using hac
  have HN : Hid (a ≠ b ∧ b ≠ c ∧ a ≠ c) := ⟨hab, hbc, hac⟩
  clear hab hbc hac
  rcases idx_cases l a with ⟨ka, hka, ea, _⟩ | ⟨ea, _⟩
  case inr =>
    have HF := Lib.hid (show orderB l a b c = false by unfold orderB; simp [ea])
    have HE := Lib.hid ea
    clear ea
    go_wp2_with fail
    refine (find_any _ l _ _ HI.out hl).mono ?_
    rintro e w' ⟨rfl, rfl⟩
    rw [HE.out]
    go_wp2
    go_ret
    exact ⟨ret_bool HF.out.symm, Below.refl _ _⟩
  have HA := Lib.hid ea
  rcases idx_cases l b with ⟨kb, hkb, eb, _⟩ | ⟨eb, _⟩
  case inr =>
    have HF := Lib.hid (show orderB l a b c = false by unfold orderB; simp [eb])
    have HE := Lib.hid eb
    clear ea eb
    go_wp2_with fail
    refine (find_any _ l _ _ HI.out hl).mono ?_
    rintro e w' ⟨rfl, rfl⟩
    rw [HA.out]
    go_wp2_with fail
    refine (find_any _ l _ _ HI.out hl).mono ?_
    rintro e w' ⟨rfl, rfl⟩
    rw [HE.out]
    go_wp2
    go_ret
    exact ⟨ret_bool HF.out.symm, Below.refl _ _⟩
  have HB := Lib.hid eb
  rcases idx_cases l c with ⟨kc, hkc, ec, _⟩ | ⟨ec, _⟩
  case inr =>
    have HF := Lib.hid (show orderB l a b c = false by unfold orderB; simp [ec])
    have HE := Lib.hid ec
    clear ea eb ec
    go_wp2_with fail
    refine (find_any _ l _ _ HI.out hl).mono ?_
    rintro e w' ⟨rfl, rfl⟩
    rw [HA.out]
    go_wp2_with fail
    refine (find_any _ l _ _ HI.out hl).mono ?_
    rintro e w' ⟨rfl, rfl⟩
    rw [HB.out]
    go_wp2_with fail
    refine (find_any _ l _ _ HI.out hl).mono ?_
    rintro e w' ⟨rfl, rfl⟩
    rw [HE.out]
    go_wp2
    go_ret
    exact ⟨ret_bool HF.out.symm, Below.refl _ _⟩
  have HC := Lib.hid ec
  have HF := Lib.hid (show orderB l a b c = decide (Lib.idxOf (rotL l ka) b < Lib.idxOf (rotL l ka) c) by
    have hn := HN.out
    unfold orderB
    rw [ea, eb, ec, Int.toNat_natCast, decide_eq_decide]
    exact ⟨fun h => h.2.2.2.2.2.2, fun h => ⟨hn.1, hn.2.1, hn.2.2, by omega, by omega, by omega, h⟩⟩)
  clear ea eb ec
  go_wp2_with fail
  refine (find_any _ l _ _ HI.out hl).mono ?_
  rintro e w' ⟨rfl, rfl⟩
  rw [HA.out]
  go_wp2_with fail
  refine (find_any _ l _ _ HI.out hl).mono ?_
  rintro e w' ⟨rfl, rfl⟩
  rw [HB.out]
  go_wp2_with fail
  refine (find_any _ l _ _ HI.out hl).mono ?_
  rintro e w' ⟨rfl, rfl⟩
  rw [HC.out]
  go_wp2_with fail
  refine (find_any _ l _ _ HI.out hl).mono ?_
  rintro e w' ⟨rfl, rfl⟩
  rw [HA.out]
  go_wp2_with fail
  refine (turned_any _ l ka _ HI.out hl (by omega)).mono ?_
  rintro e w1 ⟨t, rfl, hown, hB1⟩
  rw [Nat.mod_eq_of_lt hka, ← rotL_length l ka] at hown
  have HT := Lib.hid (Ints.of_own hown)
  have hrl := rotL_length l ka
  have hrl' : (rotL l ka).length ≤ 1000000 := by omega
  clear hown hrl
  generalize rotL l ka = m at *
  go_wp2_with fail
  refine (find_any _ m _ _ HT.out hrl').mono ?_
  rintro e w' ⟨rfl, rfl⟩
  generalize Lib.idxOf m b = ib at *
  go_wp2_with fail
  refine (find_any _ m _ _ HT.out hrl').mono ?_
  rintro e w' ⟨rfl, rfl⟩
  generalize Lib.idxOf m c = ic at *
  go_wp2
  go_ret
  exact ⟨ret_bool HF.out.symm, hB1⟩

end Go.Proofs.Ytkgggadcdmbglaa
