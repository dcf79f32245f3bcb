/-
  The document's Find, Equal, Turned and Right: their calls answer the mathematics.
-/
import Derived.Test.YtohaopfpjkhheaaIv
import Derived.Test.YtohaopfpjkhheaaRgM
import Derived.Deep.QuietTactic
import Derived.BigQuiet
import Derived.Maps.AppendAt
namespace Go.Proofs.Ytohaopfpjkhheaa
open Go.RowKit

set_option maxRecDepth 100000 in
set_option maxHeartbeats 1000000 in
theorem rgFind_any (v : Value) (l : List Int) (x : Int) (w : World) (h : Ints w v l) (hl : l.length ≤ 1000000) :
    Calls Try.prog 44 #[v, .int .i64 x] w fun e w' => e = .returned (.int .i64 (Lib.idxOf l x)) ∧ w = w' := by
  obtain ⟨A, cap, rfl, hcap, _, hcell⟩ := h
  have HN := Lib.hid (fun k => idx_at l k x)
  have HM := Lib.hid (idx_none l x)
  go_enter Try.func44, Try.ntmps44
  go_wp2
  go_loop [5] (fun i => ∃ k : Nat, k ≤ l.length ∧ i = .int .i64 k ∧ Hid (∀ j, j < k → getI l j ≠ x)) (fun i => l.length - (intOf i).toNat)
  case atStart => exact ⟨0, Nat.zero_le _, rfl, Lib.hid (fun j hj => absurd hj (Nat.not_lt_zero _))⟩
  case round =>
    obtain ⟨k, hk, rfl, hne⟩ := hrel
    by_cases hlt : k < l.length
    · obtain ⟨b, off, rfl, hb, hc⟩ := hcell (by omega)
      have hck := hc k hlt
      clear hc hcell
      by_cases he : getI l k = x
      · have HK := Lib.hid (HN.out k hlt he hne.out)
        have he' : (getI l k == x) = true := by simpa using he
        clear he
        go_wp2
        go_ret
        exact ⟨ret_int HK.out.symm, rfl⟩
      · have HK := Lib.hid he
        have he' : (getI l k == x) = false := by simpa using he
        clear he
        go_wp2
        go_round
        case rel => exact ⟨k + 1, by omega, by go_num, Lib.hid (fun j hj => by
          by_cases e : j = k
          · rw [e]; exact HK.out
          · exact hne.out j (by omega))⟩
        case measure => simp [intOf]; omega
    · obtain rfl : k = l.length := by omega
      have HK := Lib.hid (HM.out hne.out)
      go_wp2
      go_ret
      exact ⟨ret_int HK.out.symm, rfl⟩

theorem mod_nat (a k n : Nat) : (((a : Int) + (k : Int)) % (n : Int)).toNat = (a + k) % n := by
  rw [← Int.natCast_add, ← Int.natCast_emod, Int.toNat_natCast]

set_option maxRecDepth 100000 in
set_option maxHeartbeats 2000000 in
theorem turned_any (v : Value) (l : List Int) (a : Nat) (w : World) (h : Ints w v l) (hl : l.length ≤ 1000000) (ha : a ≤ 1000000) :
    Calls Try.prog 45 #[v, .int .i64 (a : Int)] w fun e w' => ∃ u, e = .returned u ∧ w'.ownsRow w.heap.size 3 1 u l.length ((rotL l (a % l.length)).map (Value.int .i64)) ∧ Below w.heap.size w w' := by
  have HA := Lib.hid (rotTo_all l a)
  obtain ⟨A, cap, rfl, hcap, _, hcell⟩ := h
  obtain ⟨i0, hi, hz0, hz1, hz2⟩ := info_parts Try.infoInt
  go_enter Try.func45, Try.ntmps45
  go_wp2
  go_loopw [5, 6] (fun o i wr => ∃ k : Nat, k ≤ l.length ∧ i = .int .i64 k ∧ wr.ownsRow w.heap.size 3 1 o k ((rotTo l a k).map (Value.int .i64)) ∧ Below w.heap.size w wr) (fun _ i _ => l.length - (intOf i).toNat)
  case atStart => exact ⟨0, Nat.zero_le _, rfl, World.ownsRow_nil _ _ _ _, Below.refl _ _⟩
  case round =>
    obtain ⟨k, hk, rfl, hown, hB⟩ := hrel
    rename_i wr
    by_cases hlt : k < l.length
    · obtain ⟨b, off, rfl, hb, hc⟩ := hcell (by omega)
      have hml := Nat.mod_lt (a + k) (show 0 < l.length by omega)
      have hmn := mod_nat a k l.length
      have hck := (hB.cell (p := ⟨b, off + (a + k) % l.length, none⟩) hb).trans (hc _ hml)
      have hm1 : 0 ≤ ((a : Int) + (k : Int)) % (l.length : Int) := Int.emod_nonneg _ (by omega)
      have hm2 : ((a : Int) + (k : Int)) % (l.length : Int) < (l.length : Int) := by omega
      clear hmn hml
      have HK := Lib.hid (rotTo_succ l a k)
      clear hc hcell
      go_wp2_with (at_builtin; refine wpList_append_own _ rfl _ _ 25 rfl w.heap.size 3 i0 _ 1 8 Try.underlying25 hi hz0 hz1 hz2 rfl (by decide) _ _ _ rfl (hown.alloc _) ⟨wr.heap.size, 0, none⟩ 1 1 _ rfl rfl (cell_one_new _ _ _) (by simp [Value.oneCell']) (by unfold maxLen; omega) (by omega) (by have := hB.size; simp; omega) ?_)
      intro v' w1 hown' hgrow _
      go_wp2
      go_roundw
      case rel =>
        have hBB := (hB.alloc hB.size _).grown hgrow (by have := hB.size; simp; omega) (fun k hk => (hown.lt k hk).1)
        exact ⟨k + 1, by omega, by go_num, by rw [HK.out, List.map_append]; exact hown', hBB⟩
      case measure => simp [intOf]; omega
    · obtain rfl : k = l.length := by omega
      go_wp2
      go_ret
      rw [HA.out] at hown
      exact ⟨_, rfl, hown, hB⟩

end Go.Proofs.Ytohaopfpjkhheaa
