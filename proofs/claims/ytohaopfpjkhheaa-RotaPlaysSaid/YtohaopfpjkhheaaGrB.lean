/-
  Lists that rise, and whether a number is in a list: the program's and the document's.
-/
import Derived.Test.YtohaopfpjkhheaaGrA
namespace Go.Proofs.Ytohaopfpjkhheaa
open Go.RowKit

/-- The first k numbers rise, from 0 to n - 1. -/
def RisesTo (l : List Int) (n : Int) (k : Nat) : Prop := ∀ j, j < k → 0 ≤ getI l j ∧ getI l j < n ∧ (0 < j → getI l (j - 1) < getI l j)
def Rises (l : List Int) (n : Int) : Prop := RisesTo l n l.length
instance (l : List Int) (n : Int) : Decidable (Rises l n) := by unfold Rises RisesTo; infer_instance
def riseB (l : List Int) (n : Int) : Bool := decide (Rises l n)

/-- The number ahead of place k; -1 ahead of the first. -/
def ahead (l : List Int) (k : Nat) : Int := if k = 0 then -1 else getI l (k - 1)
theorem ahead_zero (l : List Int) : ahead l 0 = -1 := rfl
theorem ahead_succ (l : List Int) (k : Nat) : ahead l (k + 1) = getI l k := by unfold ahead; simp

theorem RisesTo.succ {l : List Int} {n : Int} {k : Nat} (h : RisesTo l n k) (h1 : ahead l k < getI l k) (h2 : getI l k < n) : RisesTo l n (k + 1) := by
  intro j hj
  by_cases e : j = k
  · subst e
    by_cases e0 : j = 0
    · subst e0
      rw [ahead_zero] at h1
      exact ⟨by omega, h2, fun h => absurd h (by omega)⟩
    · have h3 := h (j - 1) (by omega)
      unfold ahead at h1
      rw [if_neg e0] at h1
      exact ⟨by omega, h2, fun _ => h1⟩
  · exact h j (by omega)
theorem not_rises {l : List Int} {n : Int} {k : Nat} (hk : k < l.length) (h : ¬ (ahead l k < getI l k ∧ getI l k < n)) : riseB l n = false := by
  refine decide_eq_false (fun hr => h ?_)
  have h1 := hr k hk
  refine ⟨?_, h1.2.1⟩
  unfold ahead
  by_cases e : k = 0
  · rw [if_pos e]; omega
  · rw [if_neg e]; exact h1.2.2 (by omega)
theorem rises_all {l : List Int} {n : Int} (h : RisesTo l n l.length) : riseB l n = true := decide_eq_true h

set_option maxRecDepth 100000 in
set_option maxHeartbeats 1000000 in
theorem rise_any (v : Value) (l : List Int) (n : Int) (w : World) (h : Ints w v l) (hl : l.length ≤ 1000000) :
    Calls Try.prog 48 #[v, .int .i64 n] w fun e w' => e = .returned (.bool (riseB l n)) ∧ w = w' := by
  obtain ⟨A, cap, rfl, hcap, _, hcell⟩ := h
  have HM := Lib.hid (fun k (hk : k < l.length) (h : ¬ (ahead l k < getI l k ∧ getI l k < n)) => not_rises (n := n) hk h)
  go_enter Try.func48, Try.ntmps48
  go_wp2
  go_loop [5, 10] (fun p i => ∃ k : Nat, k ≤ l.length ∧ i = .int .i64 k ∧ p = .int .i64 (ahead l k) ∧ Hid (RisesTo l n k)) (fun _ i => l.length - (Go.RowKit.intOf i).toNat)
  case atStart => exact ⟨0, Nat.zero_le _, rfl, rfl, Lib.hid (fun j hj => absurd hj (Nat.not_lt_zero _))⟩
  case round =>
    obtain ⟨k, hk, rfl, rfl, hr⟩ := hrel
    by_cases hlt : k < l.length
    · obtain ⟨b, off, rfl, hb, hc⟩ := hcell (by omega)
      have hck := hc k hlt
      have HS := Lib.hid (ahead_succ l k)
      have HR := Lib.hid (fun h1 h2 => hr.out.succ h1 h2)
      have HF := Lib.hid (fun h => HM.out k hlt h)
      clear hc hcell HM hr
      generalize getI l k = x at *
      generalize ahead l k = y at *
      by_cases h1 : y < x
      · by_cases h2 : x < n
        · have HK := Lib.hid (HR.out h1 h2)
          go_wp2
          go_round
          case rel => exact ⟨k + 1, by omega, by go_num, by rw [HS.out], HK⟩
          case measure => simp [Go.RowKit.intOf]; omega
        · have HK := Lib.hid (HF.out (fun h => h2 h.2))
          go_wp2
          go_ret
          exact ⟨ret_bool HK.out.symm, rfl⟩
      · have HK := Lib.hid (HF.out (fun h => h1 h.1))
        go_wp2
        go_ret
        exact ⟨ret_bool HK.out.symm, rfl⟩
    · obtain rfl : k = l.length := by omega
      have HK := Lib.hid (rises_all hr.out)
      go_wp2
      go_ret
      exact ⟨ret_bool HK.out.symm, rfl⟩

set_option maxRecDepth 100000 in
set_option maxHeartbeats 1000000 in
theorem in_any (v : Value) (l : List Int) (x : Int) (w : World) (h : Ints w v l) (hl : l.length ≤ 1000000) :
    Calls Try.prog 15 #[v, .int .i64 x] w fun e w' => e = .returned (.bool (decide (x ∈ l))) ∧ w = w' := by
  obtain ⟨A, cap, rfl, hcap, _, hcell⟩ := h
  have HN := Lib.hid (fun k (hk : k < l.length) (h : getI l k = x) => (decide_eq_true ((mem_getI l x).2 ⟨k, hk, h⟩) : decide (x ∈ l) = true))
  go_enter Try.func15, Try.ntmps15
  go_wp2
  go_loop [5] (fun i => ∃ k : Nat, k ≤ l.length ∧ i = .int .i64 k ∧ Hid (∀ j, j < k → getI l j ≠ x)) (fun i => l.length - (Go.RowKit.intOf i).toNat)
  case atStart => exact ⟨0, Nat.zero_le _, rfl, Lib.hid (fun j hj => absurd hj (Nat.not_lt_zero _))⟩
  case round =>
    obtain ⟨k, hk, rfl, hne⟩ := hrel
    by_cases hlt : k < l.length
    · obtain ⟨b, off, rfl, hb, hc⟩ := hcell (by omega)
      have hck := hc k hlt
      clear hc hcell
      by_cases he : getI l k = x
      · have HK := Lib.hid (HN.out k hlt he)
        have he' : (getI l k == x) = true := by simpa using he
        clear he
        go_wp2
        go_ret
        exact ⟨ret_bool HK.out.symm, rfl⟩
      · have HK := Lib.hid he
        have he' : (getI l k == x) = false := by simpa using he
        clear he
        go_wp2
        go_round
        case rel => exact ⟨k + 1, by omega, by go_num, Lib.hid (fun j hj => by
          by_cases e : j = k
          · rw [e]; exact HK.out
          · exact hne.out j (by omega))⟩
        case measure => simp [Go.RowKit.intOf]; omega
    · obtain rfl : k = l.length := by omega
      have HK : Hid (decide (x ∈ l) = false) := decide_eq_false (fun hm => by
        obtain ⟨j, hj, e⟩ := (mem_getI l x).1 hm
        exact hne.out j hj e)
      go_wp2
      go_ret
      exact ⟨ret_bool HK.out.symm, rfl⟩

set_option maxRecDepth 100000 in
set_option maxHeartbeats 2000000 in
theorem rrises_any (v : Value) (l : List Int) (n : Int) (w : World) (h : Ints w v l) (hl : l.length ≤ 1000000) :
    Calls Try.prog 55 #[v, .int .i64 n] w fun e w' => e = .returned (.bool (riseB l n)) ∧ ∃ m, w' = w.drewN m := by
  obtain ⟨A, cap, rfl, hcap, _, hcell⟩ := h
  have HM := Lib.hid (fun k (hk : k < l.length) (h : ¬ (ahead l k < getI l k ∧ getI l k < n)) => not_rises (n := n) hk h)
  go_enter Try.func55, Try.ntmps55
  go_wp2
  go_loopw [5] (fun i wr => ∃ k m : Nat, k ≤ l.length ∧ i = .int .i64 k ∧ wr = w.drewN m ∧ Hid (RisesTo l n k)) (fun i _ => l.length - (Go.RowKit.intOf i).toNat)
  case atStart => exact ⟨0, 0, Nat.zero_le _, rfl, rfl, Lib.hid (fun j hj => absurd hj (Nat.not_lt_zero _))⟩
  case round =>
    obtain ⟨k, m, hk, rfl, rfl, hr⟩ := hrel
    by_cases hlt : k < l.length
    · obtain ⟨b, off, rfl, hb, hc⟩ := hcell (by omega)
      have hck := hc k hlt
      have HR := Lib.hid (fun h1 h2 => hr.out.succ h1 h2)
      have HF := Lib.hid (fun h => HM.out k hlt h)
      by_cases hk0 : k = 0
      · subst hk0
        clear hc hcell HM hr
        rw [ahead_zero] at HR HF
        rw [Nat.add_zero] at hck
        generalize getI l 0 = x at *
        by_cases h1 : x < 0
        · have HK := Lib.hid (HF.out (fun h => by omega))
          clear HF HR
          go_wp2_with fail
          go_quiet (fail)
          go_wp2
          go_ret
          exact ⟨ret_bool HK.out.symm, _, World.drewN_drewN _ _ _⟩
        have d1 : decide (x < 0) = false := by simp; omega
        by_cases h2 : n ≤ x
        · have HK := Lib.hid (HF.out (fun h => by omega))
          clear HF HR
          go_wp2_with fail
          go_quiet (fail)
          go_wp2
          go_ret
          exact ⟨ret_bool HK.out.symm, _, World.drewN_drewN _ _ _⟩
        have HK := Lib.hid (HR.out (by omega) (by omega))
        have d2 : decide (n ≤ x) = false := by simp; omega
        clear HF HR
        go_wp2_with fail
        go_quiet (fail)
        go_wp2
        go_roundw
        case rel => exact ⟨1, _, by omega, by go_num, rfl, HK⟩
        case measure => simp [Go.RowKit.intOf]; omega
      · obtain ⟨i, rfl⟩ : ∃ i, k = i + 1 := ⟨k - 1, by omega⟩
        have hci := hc i (by omega)
        rw [ahead_succ] at HR HF
        have H0 := Lib.hid (hr.out i (by omega)).1
        clear hc hcell HM hr
        generalize getI l (i + 1) = x at *
        generalize getI l i = y at *
        by_cases h1 : x < 0
        · have HK := Lib.hid (HF.out (fun h => by have := H0.out; omega))
          clear HF HR
          go_wp2_with fail
          go_quiet (fail)
          go_wp2
          go_ret
          exact ⟨ret_bool HK.out.symm, _, World.drewN_drewN _ _ _⟩
        have d1 : decide (x < 0) = false := by simp; omega
        by_cases h2 : n ≤ x
        · have HK := Lib.hid (HF.out (fun h => by omega))
          clear HF HR
          go_wp2_with fail
          go_quiet (fail)
          go_wp2
          go_ret
          exact ⟨ret_bool HK.out.symm, _, World.drewN_drewN _ _ _⟩
        have hi1 : decide ((0 : Int) < (i : Int) + 1) = true := decide_eq_true (by omega)
        have d3 : decide (n ≤ x) = false := by simp; omega
        by_cases h3 : x ≤ y
        · have HK := Lib.hid (HF.out (fun h => by omega))
          clear HF HR
          go_wp2_with fail
          go_quiet (fail)
          go_wp2
          go_ret
          exact ⟨ret_bool HK.out.symm, _, World.drewN_drewN _ _ _⟩
        have HK := Lib.hid (HR.out (by omega) (by omega))
        have d2 : decide (n ≤ x) = false := by simp; omega
        clear HF HR
        go_wp2_with fail
        go_quiet (fail)
        go_wp2
        go_roundw
        case rel => exact ⟨i + 1 + 1, _, by omega, by go_num, rfl, HK⟩
        case measure => simp [Go.RowKit.intOf]; omega
    · obtain rfl : k = l.length := by omega
      have HK := Lib.hid (rises_all hr.out)
      go_wp2
      go_ret
      exact ⟨ret_bool HK.out.symm, m, rfl⟩

end Go.Proofs.Ytohaopfpjkhheaa
