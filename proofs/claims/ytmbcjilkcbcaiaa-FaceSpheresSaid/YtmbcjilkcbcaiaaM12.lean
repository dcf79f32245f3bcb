/-
  RgF, RgG, RgH, in one text.
-/
import Derived.Test.YtmbcjilkcbcaiaaM01
import Derived.Deep.QuietTactic
import Derived.BigQuiet
import Derived.Maps.AppendAt
/-! The document's Find, Equal, Turned and Right: their calls answer the mathematics. -/
namespace Go.Proofs.Ytmbcjilkcbcaiaa
open Go.RowKit

set_option maxRecDepth 100000 in
set_option maxHeartbeats 1000000 in
theorem rgFind_any (v : Value) (l : List Int) (x : Int) (w : World) (h : Ints w v l) (hl : l.length ≤ 1000000) :
    Calls Try.prog 65 #[v, .int .i64 x] w fun e w' => e = .returned (.int .i64 (Lib.idxOf l x)) ∧ w = w' := by
  obtain ⟨A, cap, rfl, hcap, _, hcell⟩ := h
  have HN := Lib.hid (fun k => idx_at l k x)
  have HM := Lib.hid (idx_none l x)
  go_enter Try.func65, Try.ntmps65
  go_wp2
  go_loop [5] (fun i => ∃ k : Nat, k ≤ l.length ∧ i = .int .i64 k ∧ Hid (∀ j, j < k → getI l j ≠ x)) (fun i => l.length - (intOf i).toNat)
  case atStart => exact ⟨0, Nat.zero_le _, rfl, Lib.hid (fun j hj => absurd hj (Nat.not_lt_zero _))⟩
  case round =>
    obtain ⟨k, hk, rfl, hne⟩ := hrel
    by_cases hlt : k < l.length
    · obtain ⟨b, off, rfl, hb, hc⟩ := hcell (by omega)
      have hck := hc k hlt
      clear hc hcell
      by_cases he : getI l k = x
      · have HK := Lib.hid (HN.out k hlt he hne.out)
        have he' : (getI l k == x) = true := by simpa using he
        clear he
        go_wp2
        go_ret
        exact ⟨ret_int HK.out.symm, rfl⟩
      · have HK := Lib.hid he
        have he' : (getI l k == x) = false := by simpa using he
        clear he
        go_wp2
        go_round
        case rel => exact ⟨k + 1, by omega, by go_num, Lib.hid (fun j hj => by
          by_cases e : j = k
          · rw [e]; exact HK.out
          · exact hne.out j (by omega))⟩
        case measure => simp [intOf]; omega
    · obtain rfl : k = l.length := by omega
      have HK := Lib.hid (HM.out hne.out)
      go_wp2
      go_ret
      exact ⟨ret_int HK.out.symm, rfl⟩

theorem mod_nat (a k n : Nat) : (((a : Int) + (k : Int)) % (n : Int)).toNat = (a + k) % n := by
  rw [← Int.natCast_add, ← Int.natCast_emod, Int.toNat_natCast]

end Go.Proofs.Ytmbcjilkcbcaiaa

/-! The document's Right, Same, First, Order and Labels: their calls answer the mathematics. -/
namespace Go.Proofs.Ytmbcjilkcbcaiaa
open Go.RowKit

set_option maxRecDepth 100000 in
set_option maxHeartbeats 1000000 in
theorem refRight_any (v : Value) (l : List Int) (w : World) (h : Ints w v l) (hl : l.length ≤ 1000000) :
    Calls Try.prog 44 #[v] w fun e w' => e = .returned (.bool (nodupB l)) ∧ w = w' := by
  have HI := Lib.hid h
  obtain ⟨A, cap, rfl, hcap, _, hcell⟩ := h
  go_enter Try.func44, Try.ntmps44
  go_wp2
  go_loop [3] (fun i => ∃ k : Nat, k ≤ l.length ∧ i = .int .i64 k ∧ Hid (newTo l k)) (fun i => l.length - (intOf i).toNat)
  case atStart => exact ⟨0, Nat.zero_le _, rfl, Lib.hid (fun j hj => absurd hj (Nat.not_lt_zero _))⟩
  case round =>
    obtain ⟨k, hk, rfl, hne⟩ := hrel
    by_cases hlt : k < l.length
    · obtain ⟨b, off, rfl, hb, hc⟩ := hcell (by omega)
      have hck := hc k hlt
      clear hc hcell
      rcases idx_self l k hlt with ⟨e, hn⟩ | ⟨m, e, hm, he⟩
      · have HE := Lib.hid e
        have HK := Lib.hid (newTo_succ hne.out hn)
        clear e hn
        go_wp2_with fail
        refine (rgFind_any _ l _ _ HI.out hl).mono ?_
        rintro e w' ⟨rfl, rfl⟩
        rw [HE.out]
        go_wp2
        go_round
        case rel => exact ⟨k + 1, by omega, by go_num, HK⟩
        case measure => simp [intOf]; omega
      · have HE := Lib.hid e
        have HF := Lib.hid (nodupB_false (l := l) (fun h => (nodup_getI l).1 h m k hm hlt he))
        clear e he
        go_wp2_with fail
        refine (rgFind_any _ l _ _ HI.out hl).mono ?_
        rintro e w' ⟨rfl, rfl⟩
        rw [HE.out]
        go_wp2
        go_ret
        exact ⟨ret_bool HF.out.symm, rfl⟩
    · obtain rfl : k = l.length := by omega
      have HF := Lib.hid (nodupB_true (newTo_all hne.out))
      go_wp2
      go_ret
      exact ⟨ret_bool HF.out.symm, rfl⟩

/-- Whether three numbers come in that order. -/
def orderB (l : List Int) (a b c : Int) : Bool :=
  decide (a ≠ b ∧ b ≠ c ∧ a ≠ c ∧ 0 ≤ Lib.idxOf l a ∧ 0 ≤ Lib.idxOf l b ∧ 0 ≤ Lib.idxOf l c ∧ Lib.idxOf (rotL l (Lib.idxOf l a).toNat) b < Lib.idxOf (rotL l (Lib.idxOf l a).toNat) c)

end Go.Proofs.Ytmbcjilkcbcaiaa

/-! The document's Labels: its call answers the stretches' numbers, or that one has two. -/
namespace Go.Proofs.Ytmbcjilkcbcaiaa
open Go.RowKit

theorem Ints.cut {w : World} {A : Option Addr} {cap : Nat} {l : List Int} (h : Ints w (.slice A l.length cap) l) (k : Nat) (hk : k ≤ l.length) : Ints w (.slice A k cap) (l.take k) := by
  obtain ⟨A', cap', e, hc, hm, hr⟩ := h
  obtain ⟨rfl, _, rfl⟩ := Value.slice.inj e
  have hl : (l.take k).length = k := by simp; omega
  refine ⟨A, cap, by rw [hl], by omega, hm, fun h0 => ?_⟩
  obtain ⟨b', off, hA, hlt, hg⟩ := hr (by omega)
  refine ⟨b', off, hA, hlt, fun j hj => ?_⟩
  rw [hl] at hj
  rw [hg j (by omega), getI_take _ _ _ hj]

theorem isSome_some {o : Option (List Int)} {l : List Int} (h : o = some l) : o.isSome = true ∧ o.getD [] = l := by rw [h]; exact ⟨rfl, rfl⟩
theorem isSome_none {o : Option (List Int)} (h : o = none) : o.isSome = false ∧ o.getD [] = [] := by rw [h]; exact ⟨rfl, rfl⟩

/-- What a call that answers a list, or nothing, leaves. -/
def ListOrNot (o : Option (List Int)) (w : World) (e : Ending) (w' : World) : Prop :=
  ∃ u, e = .returned (.tuple #[u, .bool o.isSome]) ∧ Ints w' u (o.getD []) ∧ Below w.heap.size w w'

theorem ListOrNot.some {o : Option (List Int)} {l : List Int} (h : o = some l) {w w' : World} {u : Value} (hi : Ints w' u l) (hb : Below w.heap.size w w') : ListOrNot o w (.returned (.tuple #[u, .bool true])) w' := by
  subst h; exact ⟨u, rfl, hi, hb⟩
theorem ListOrNot.none {o : Option (List Int)} (h : o = none) {w w' : World} (hb : Below w.heap.size w w') : ListOrNot o w (.returned (.tuple #[.slice none 0 0, .bool false])) w' := by
  subst h; exact ⟨_, rfl, Ints.nil, hb⟩

end Go.Proofs.Ytmbcjilkcbcaiaa
