/-
  RgF, RgG, RgH, in one text.
-/
import Derived.Test.YtmbpmepoaonleaaGreatM01
import Derived.Deep.QuietTactic
import Derived.BigQuiet
import Derived.Maps.AppendAt
/-! The document's Find, Equal, Turned and Right: their calls answer the mathematics. -/
namespace Go.Proofs.YtmbpmepoaonleaaGreat
open Go.RowKit

set_option maxRecDepth 100000 in
set_option maxHeartbeats 1000000 in
theorem rgFind_any (v : Value) (l : List Int) (x : Int) (w : World) (h : Ints w v l) (hl : l.length ≤ 1000000) :
    Calls Tryz.prog 90 #[v, .int .i64 x] w fun e w' => e = .returned (.int .i64 (Lib.idxOf l x)) ∧ w = w' := by
  obtain ⟨A, cap, rfl, hcap, _, hcell⟩ := h
  have HN := Lib.hid (fun k => idx_at l k x)
  have HM := Lib.hid (idx_none l x)
  go_enter Tryz.func90, Tryz.ntmps90
  go_wp2
  go_loop [5] (fun i => ∃ k : Nat, k ≤ l.length ∧ i = .int .i64 k ∧ Hid (∀ j, j < k → getI l j ≠ x)) (fun i => l.length - (intOf i).toNat)
  case atStart => exact ⟨0, Nat.zero_le _, rfl, Lib.hid (fun j hj => absurd hj (Nat.not_lt_zero _))⟩
  case round =>
    obtain ⟨k, hk, rfl, hne⟩ := hrel
    by_cases hlt : k < l.length
    · obtain ⟨b, off, rfl, hb, hc⟩ := hcell (by omega)
      have hck := hc k hlt
      clear hc hcell
      by_cases he : getI l k = x
      · have HK := Lib.hid (HN.out k hlt he hne.out)
        have he' : (getI l k == x) = true := by simpa using he
        clear he
        go_wp2
        go_ret
        exact ⟨ret_int HK.out.symm, rfl⟩
      · have HK := Lib.hid he
        have he' : (getI l k == x) = false := by simpa using he
        clear he
        go_wp2
        go_round
        case rel => exact ⟨k + 1, by omega, by go_num, Lib.hid (fun j hj => by
          by_cases e : j = k
          · rw [e]; exact HK.out
          · exact hne.out j (by omega))⟩
        case measure => simp [intOf]; omega
    · obtain rfl : k = l.length := by omega
      have HK := Lib.hid (HM.out hne.out)
      go_wp2
      go_ret
      exact ⟨ret_int HK.out.symm, rfl⟩

theorem mod_nat (a k n : Nat) : (((a : Int) + (k : Int)) % (n : Int)).toNat = (a + k) % n := by
  rw [← Int.natCast_add, ← Int.natCast_emod, Int.toNat_natCast]

set_option maxRecDepth 100000 in
set_option maxHeartbeats 2000000 in
theorem turned_any (v : Value) (l : List Int) (a : Nat) (w : World) (h : Ints w v l) (hl : l.length ≤ 1000000) (ha : a ≤ 1000000) :
    Calls Tryz.prog 74 #[v, .int .i64 (a : Int)] w fun e w' => ∃ u, e = .returned u ∧ w'.ownsRow w.heap.size 3 1 u l.length ((rotL l (a % l.length)).map (Value.int .i64)) ∧ Below w.heap.size w w' := by
  have HA := Lib.hid (rotTo_all l a)
  obtain ⟨A, cap, rfl, hcap, _, hcell⟩ := h
  obtain ⟨i0, hi, hz0, hz1, hz2⟩ := info_parts Tryz.infoInt
  go_enter Tryz.func74, Tryz.ntmps74
  go_wp2
  go_loopw [5, 6] (fun o i wr => ∃ k : Nat, k ≤ l.length ∧ i = .int .i64 k ∧ wr.ownsRow w.heap.size 3 1 o k ((rotTo l a k).map (Value.int .i64)) ∧ Below w.heap.size w wr) (fun _ i _ => l.length - (intOf i).toNat)
  case atStart => exact ⟨0, Nat.zero_le _, rfl, World.ownsRow_nil _ _ _ _, Below.refl _ _⟩
  case round =>
    obtain ⟨k, hk, rfl, hown, hB⟩ := hrel
    rename_i wr
    by_cases hlt : k < l.length
    · obtain ⟨b, off, rfl, hb, hc⟩ := hcell (by omega)
      have hml := Nat.mod_lt (a + k) (show 0 < l.length by omega)
      have hmn := mod_nat a k l.length
      have hck := (hB.cell (p := ⟨b, off + (a + k) % l.length, none⟩) hb).trans (hc _ hml)
      have hm1 : 0 ≤ ((a : Int) + (k : Int)) % (l.length : Int) := Int.emod_nonneg _ (by omega)
      have hm2 : ((a : Int) + (k : Int)) % (l.length : Int) < (l.length : Int) := by omega
      clear hmn hml
      have HK := Lib.hid (rotTo_succ l a k)
      clear hc hcell
      go_wp2_with (at_builtin; refine wpList_append_own _ rfl _ _ 25 rfl w.heap.size 3 i0 _ 1 8 Tryz.underlying25 hi hz0 hz1 hz2 rfl (by decide) _ _ _ rfl (hown.alloc _) ⟨wr.heap.size, 0, none⟩ 1 1 _ rfl rfl (cell_one_new _ _ _) (by simp [Value.oneCell']) (by unfold maxLen; omega) (by omega) (by have := hB.size; simp; omega) ?_)
      intro v' w1 hown' hgrow _
      go_wp2
      go_roundw
      case rel =>
        have hBB := (hB.alloc hB.size _).grown hgrow (by have := hB.size; simp; omega) (fun k hk => (hown.lt k hk).1)
        exact ⟨k + 1, by omega, by go_num, by rw [HK.out, List.map_append]; exact hown', hBB⟩
      case measure => simp [intOf]; omega
    · obtain rfl : k = l.length := by omega
      go_wp2
      go_ret
      rw [HA.out] at hown
      exact ⟨_, rfl, hown, hB⟩

end Go.Proofs.YtmbpmepoaonleaaGreat

/-! The document's Right, Same, First, Order and Labels: their calls answer the mathematics. -/
namespace Go.Proofs.YtmbpmepoaonleaaGreat
open Go.RowKit

set_option maxRecDepth 100000 in
set_option maxHeartbeats 1000000 in
theorem refRight_any (v : Value) (l : List Int) (w : World) (h : Ints w v l) (hl : l.length ≤ 1000000) :
    Calls Tryz.prog 60 #[v] w fun e w' => e = .returned (.bool (nodupB l)) ∧ w = w' := by
  have HI := Lib.hid h
  obtain ⟨A, cap, rfl, hcap, _, hcell⟩ := h
  go_enter Tryz.func60, Tryz.ntmps60
  go_wp2
  go_loop [3] (fun i => ∃ k : Nat, k ≤ l.length ∧ i = .int .i64 k ∧ Hid (newTo l k)) (fun i => l.length - (intOf i).toNat)
  case atStart => exact ⟨0, Nat.zero_le _, rfl, Lib.hid (fun j hj => absurd hj (Nat.not_lt_zero _))⟩
  case round =>
    obtain ⟨k, hk, rfl, hne⟩ := hrel
    by_cases hlt : k < l.length
    · obtain ⟨b, off, rfl, hb, hc⟩ := hcell (by omega)
      have hck := hc k hlt
      clear hc hcell
      rcases idx_self l k hlt with ⟨e, hn⟩ | ⟨m, e, hm, he⟩
      · have HE := Lib.hid e
        have HK := Lib.hid (newTo_succ hne.out hn)
        clear e hn
        go_wp2_with fail
        refine (rgFind_any _ l _ _ HI.out hl).mono ?_
        rintro e w' ⟨rfl, rfl⟩
        rw [HE.out]
        go_wp2
        go_round
        case rel => exact ⟨k + 1, by omega, by go_num, HK⟩
        case measure => simp [intOf]; omega
      · have HE := Lib.hid e
        have HF := Lib.hid (nodupB_false (l := l) (fun h => (nodup_getI l).1 h m k hm hlt he))
        clear e he
        go_wp2_with fail
        refine (rgFind_any _ l _ _ HI.out hl).mono ?_
        rintro e w' ⟨rfl, rfl⟩
        rw [HE.out]
        go_wp2
        go_ret
        exact ⟨ret_bool HF.out.symm, rfl⟩
    · obtain rfl : k = l.length := by omega
      have HF := Lib.hid (nodupB_true (newTo_all hne.out))
      go_wp2
      go_ret
      exact ⟨ret_bool HF.out.symm, rfl⟩

set_option maxRecDepth 100000 in
set_option maxHeartbeats 1000000 in
theorem refFirst_any (v : Value) (l : List Int) (w : World) (h : Ints w v l) (hl : l.length ≤ 1000000) :
    Calls Tryz.prog 41 #[v] w fun e w' => ∃ u, e = .returned u ∧ w'.ownsRow w.heap.size 3 1 u l.length ((rotL l (minAt l l.length)).map (Value.int .i64)) ∧ Below w.heap.size w w' := by
  have HI := Lib.hid h
  obtain ⟨A, cap, rfl, hcap, _, hcell⟩ := h
  go_enter Tryz.func41, Tryz.ntmps41
  go_wp2
  go_loopw [3, 4] (fun a i wr => ∃ k n : Nat, k ≤ l.length ∧ i = .int .i64 k ∧ a = .int .i64 (minAt l k : Nat) ∧ wr = w.drewN n) (fun _ i _ => l.length - (intOf i).toNat)
  case atStart => exact ⟨0, 0, Nat.zero_le _, rfl, rfl, rfl⟩
  case round =>
    obtain ⟨k, n, hk, rfl, rfl, rfl⟩ := hrel
    by_cases hlt : k < l.length
    · obtain ⟨b, off, rfl, hb, hc⟩ := hcell (by omega)
      have hck := hc k hlt
      have hml := minAt_le l k
      have hcm := hc (minAt l k) (by omega)
      have HK := Lib.hid (show minAt l (k + 1) = if getI l k < getI l (minAt l k) then k else minAt l k from rfl)
      clear hc hcell
      generalize minAt l k = a at *
      have hal : a < l.length := by omega
      by_cases he : getI l k < getI l a
      · rw [if_pos he] at HK
        have HK2 := Lib.hid HK.out
        have he' : decide (getI l k < getI l a) = true := by simpa using he
        clear he HK
        go_wp2_with fail
        go_quiet (fail)
        go_wp2
        go_roundw
        case rel => exact ⟨k + 1, _, by omega, by go_num, by rw [HK2.out], rfl⟩
        case measure => simp [intOf]; omega
      · rw [if_neg he] at HK
        have HK2 := Lib.hid HK.out
        have he' : decide (getI l k < getI l a) = false := by simpa using he
        clear he HK
        go_wp2_with fail
        go_quiet (fail)
        go_wp2
        go_roundw
        case rel => exact ⟨k + 1, _, by omega, by go_num, by rw [HK2.out], rfl⟩
        case measure => simp [intOf]; omega
    · obtain rfl : k = l.length := by omega
      have hml := minAt_le l l.length
      have HM := Lib.hid (show rotL l (minAt l l.length % l.length) = rotL l (minAt l l.length) by
        by_cases h0 : l.length = 0
        · have e1 : l = [] := List.length_eq_zero_iff.1 h0
          rw [e1]; simp [rotL]
        · rw [Nat.mod_eq_of_lt (minAt_lt l _ (by omega))])
      clear hcell
      go_wp2_with fail
      refine (turned_any _ l (minAt l l.length) _ (HI.out.drewN n) hl (by omega)).mono ?_
      rintro e w1 ⟨t, rfl, hown, hB1⟩
      rw [HM.out] at hown
      go_wp2
      go_ret
      exact ⟨_, rfl, hown, (below_drewN' w n).trans hB1⟩

end Go.Proofs.YtmbpmepoaonleaaGreat

/-! The document's Labels: its call answers the stretches' numbers, or that one has two. -/
namespace Go.Proofs.YtmbpmepoaonleaaGreat
open Go.RowKit

theorem Ints.cut {w : World} {A : Option Addr} {cap : Nat} {l : List Int} (h : Ints w (.slice A l.length cap) l) (k : Nat) (hk : k ≤ l.length) : Ints w (.slice A k cap) (l.take k) := by
  obtain ⟨A', cap', e, hc, hm, hr⟩ := h
  obtain ⟨rfl, _, rfl⟩ := Value.slice.inj e
  have hl : (l.take k).length = k := by simp; omega
  refine ⟨A, cap, by rw [hl], by omega, hm, fun h0 => ?_⟩
  obtain ⟨b', off, hA, hlt, hg⟩ := hr (by omega)
  refine ⟨b', off, hA, hlt, fun j hj => ?_⟩
  rw [hl] at hj
  rw [hg j (by omega), getI_take _ _ _ hj]

/-- What a call that answers a list, or nothing, leaves. -/
def ListOrNot (o : Option (List Int)) (w : World) (e : Ending) (w' : World) : Prop :=
  ∃ u, e = .returned (.tuple #[u, .bool o.isSome]) ∧ Ints w' u (o.getD []) ∧ Below w.heap.size w w'

theorem ListOrNot.some {o : Option (List Int)} {l : List Int} (h : o = some l) {w w' : World} {u : Value} (hi : Ints w' u l) (hb : Below w.heap.size w w') : ListOrNot o w (.returned (.tuple #[u, .bool true])) w' := by
  subst h; exact ⟨u, rfl, hi, hb⟩
theorem ListOrNot.none {o : Option (List Int)} (h : o = none) {w w' : World} (hb : Below w.heap.size w w') : ListOrNot o w (.returned (.tuple #[.slice none 0 0, .bool false])) w' := by
  subst h; exact ⟨_, rfl, Ints.nil, hb⟩

end Go.Proofs.YtmbpmepoaonleaaGreat
