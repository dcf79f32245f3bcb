/-
  RgT, RgR, RgS, in one text.
-/
import Derived.Test.YtmbpmepoaonleaaGreatM12
import Derived.Test.YtmbpmepoaonleaaGreatLays
import Derived.Shelf.SlicesG.Turned
import Derived.Deep.RegionLaw
import Derived.Deep.RegionLawGrows
import Derived.RangeFuncBox
import Derived.RangeFuncLeaves
import Derived.Shelf.Abstract
import Derived.OwnWalkIn
import Derived.TacticsInMore
import Derived.LoopNIn
import Derived.LoopIn
import Derived.Maps.AppendAt
import Derived.Shelf.SortM.Plain
import Derived.Shelf.SortM.SortNone
import Derived.Shelf.SlicesG.CompactI
import Derived.Lib.SlKeysI
/-! The program's turn, From, step, After, Before, First and Order; slices.Index and slices.Min. -/
namespace Go.Proofs.YtmbpmepoaonleaaGreat
open Go.RowKit Go.Shelf

theorem rgIndex_any (v : Value) (l : List Int) (x : Int) (w : World) (h : Ints w v l) (hl : l.length ≤ 1000000) :
    Calls Tryz.prog 84 #[v, .int .i64 x] w fun e w' => e = .returned (.int .i64 (Lib.idxOf l x)) ∧ w = w' := by
  obtain ⟨A, cap, rfl, hcap, _, hcell⟩ := h
  by_cases h0 : l.length = 0
  · have e : l = [] := List.length_eq_zero_iff.1 h0
    subst e
    have hcon := AnyG.slices_Index_int_empty Tryz.laysIndex A cap x w
    change Calls Tryz.prog 84 _ _ _ at hcon
    exact hcon.mono fun e w' h => ⟨h.1, h.2.symm⟩
  · obtain ⟨b, off, rfl, hb, hc⟩ := hcell (by omega)
    have hcon := AnyG.slices_Index_int Tryz.laysIndex b off l.length cap l x w (Nat.le_refl _) (by omega) hc
    change Calls Tryz.prog 84 _ _ _ at hcon
    rw [List.take_length] at hcon
    exact hcon.mono fun e w' h => ⟨h.1, h.2.symm⟩

theorem min_any (v : Value) (l : List Int) (w : World) (h : Ints w v l) (hl : l.length ≤ 1000000) (h0 : 0 < l.length) :
    Calls Tryz.prog 65 #[v] w fun e w' => e = .returned (.int .i64 (Lib.minOf l)) ∧ w = w' := by
  obtain ⟨A, cap, rfl, hcap, _, hcell⟩ := h
  obtain ⟨b, off, rfl, hb, hc⟩ := hcell (by omega)
  have hcon := AnyG.slices_Min_int Tryz.laysMin b off l.length cap l w h0 (Nat.le_refl _) (by omega) hc
  change Calls Tryz.prog 65 _ _ _ at hcon
  rw [List.take_length] at hcon
  exact hcon.mono fun e w' h => ⟨h.1, h.2.symm⟩

theorem map_get (l : List Int) (j : Nat) (u : Value) (h : (l.map (Value.int .i64))[j]? = some u) : j < l.length ∧ u = .int .i64 (getI l j) := by
  rw [List.getElem?_map] at h
  rcases hj : l[j]? with _ | x
  · rw [hj] at h; simp at h
  · rw [hj] at h
    have hlt := (List.getElem?_eq_some_iff.1 hj).1
    refine ⟨hlt, ?_⟩
    rw [getI_of l j hlt]
    have := (List.getElem?_eq_some_iff.1 hj).2
    rw [this]
    simpa using h.symm

theorem map_one (l : List Int) : ∀ u ∈ l.map (Value.int .i64), u.oneCell' = true := by
  intro u hu
  obtain ⟨x, _, rfl⟩ := List.mem_map.1 hu
  rfl

set_option maxRecDepth 100000 in
set_option maxHeartbeats 2000000 in
theorem turn_any (v : Value) (l : List Int) (a : Nat) (w : World) (h : Ints w v l) (hl : l.length ≤ 1000000) (ha : a < l.length) :
    Calls Tryz.prog 86 #[v, .int .i64 (a : Int)] w fun e w' => ∃ u, e = .returned u ∧ w'.ownsRow w.heap.size 3 1 u l.length ((rotL l a).map (Value.int .i64)) ∧ Below w.heap.size w w' := by
  obtain ⟨A, cap, rfl, hcap, hm, hcell⟩ := h
  obtain ⟨b, off, rfl, hb, hc⟩ := hcell (by omega)
  obtain ⟨i0, hi, hz0, hz1, hz2⟩ := info_parts Tryz.infoInt
  have hA : (if cap = a then some (⟨b, off, none⟩ : Addr) else some ⟨b, off + a, none⟩) = some ⟨b, off + a, none⟩ := if_neg (by omega)
  have HN : Hid (∀ j u, ((l.drop a).map (Value.int .i64))[j]? = some u → w.drew.cell? ((⟨b, off + a, none⟩ : Addr).add j) = some u) := by
    intro j u hu
    obtain ⟨h1, rfl⟩ := map_get _ _ _ hu
    rw [Addr.add_lit, getI_drop, Nat.add_assoc]
    simp only [List.length_drop] at h1
    exact hc (a + j) (by omega)
  have HT : Hid (∀ j u, ((l.take a).map (Value.int .i64))[j]? = some u → w.drew.cell? ((⟨b, off, none⟩ : Addr).add j) = some u) := by
    intro j u hu
    obtain ⟨h1, rfl⟩ := map_get _ _ _ hu
    simp only [List.length_take] at h1
    rw [Addr.add_lit, getI_take _ _ _ (by omega)]
    exact hc j (by omega)
  have HL : Hid (((l.drop a).map (Value.int .i64)).length = (l.length - a) * 1) := by simp [Hid]
  have HLT : Hid (((l.take a).map (Value.int .i64)).length = a * 1) := by simp [Hid]; omega
  have hac : a ≤ cap := by omega
  have hp0 : (0 : Int) ≤ (a : Int) := by omega
  have hp1 : (a : Int) ≤ (l.length : Int) := by omega
  have hp2 : (a : Int) ≤ (cap : Int) := by omega
  clear hc hcell
  go_enter Tryz.func86, Tryz.ntmps86
  go_wp2_with fail
  go_region_law ((refine step_append_grows rfl (.tmp 10) (.tmp 13) 25 rfl 3 i0 (.int .i64 0) 1 8 Tryz.underlying25 hi hz0 hz1 hz2 rfl (by decide) (some ⟨b, off, none⟩) 0 0 [] (by simp [Act.eval, Act.put]) (fun h => by cases h) rfl (fun _ _ _ _ h => by simp at h) ⟨b, off + a, none⟩ (l.length - a) (cap - a) ((l.drop a).map (Value.int .i64)) (by simp [Act.eval, Act.put]) HL.out HN.out (map_one _) (by omega) (by unfold maxLen; omega) (by omega) ?_; intro v1 w1 hown1 hgrow1))
  all_goals
    have hb1 : Below w.heap.size w w1 := (Below.refl _ w).drew.grown hgrow1 (Nat.le_refl _) (fun k hk => by cases hk)
    have hown2 : w1.ownsRow w.heap.size 3 1 v1 (l.length - a) ((l.drop a).map (Value.int .i64)) := by simpa using hown1
    have hHT : Hid (∀ j u, ((l.take a).map (Value.int .i64))[j]? = some u → w1.cell? ((⟨b, off, none⟩ : Addr).add j) = some u) := by
      intro j u hu
      have := HT.out j u hu
      rw [Addr.add_lit] at this ⊢
      exact (hb1.cell (p := ⟨b, off + j, none⟩) hb).trans this
    clear hown1 hgrow1
    go_wp2_with (at_builtin; refine wpList_append_own _ rfl _ _ 25 rfl w.heap.size 3 i0 _ 1 8 Tryz.underlying25 hi hz0 hz1 hz2 rfl (by decide) _ _ _ rfl hown2 ⟨b, off, none⟩ a cap ((l.take a).map (Value.int .i64)) rfl HLT.out hHT.out (map_one _) (by unfold maxLen; omega) (by omega) hb1.size ?_)
    intro v2 w2 hown3 hgrow2 _
    go_wp2
    go_ret
    refine ⟨_, rfl, ?_, hb1.grown hgrow2 hb1.size (fun k hk => (hown2.lt k hk).1)⟩
    have e : (rotL l a).map (Value.int .i64) = List.drop a (l.map (Value.int .i64)) ++ List.take a (l.map (Value.int .i64)) := by simp [rotL]
    rw [e]
    rw [show l.length - a + a = l.length by omega] at hown3
    exact hown3

set_option maxRecDepth 100000 in
set_option maxHeartbeats 1000000 in
theorem rgFirst_any (v : Value) (l : List Int) (w : World) (h : Ints w v l) (hl : l.length ≤ 1000000) :
    Calls Tryz.prog 55 #[v] w fun e w' => ∃ u, e = .returned u ∧ w'.ownsRow w.heap.size 3 1 u l.length ((rotL l (minAt l l.length)).map (Value.int .i64)) ∧ Below w.heap.size w w' := by
  have HI := Lib.hid h
  obtain ⟨A, cap, rfl, hcap, _, hcell⟩ := h
  clear hcell
  by_cases h0 : l.length = 0
  · have e : l = [] := List.length_eq_zero_iff.1 h0
    subst e
    clear h0
    go_enter Tryz.func55, Tryz.ntmps55
    go_wp2
    go_ret
    exact ⟨_, rfl, by rw [rotL_nil]; exact World.ownsRow_nil _ _ _ _, Below.refl _ _⟩
  · have h0' : ((l.length : Int) == 0) = false := beq_eq_false_iff_ne.2 (by omega)
    have hpos : 0 < l.length := by omega
    have hlt := minAt_lt l l.length hpos
    have HE := Lib.hid (idx_min l hpos)
    obtain ⟨k, hk⟩ : ∃ k, minAt l l.length = k := ⟨_, rfl⟩
    rw [hk] at hlt HE
    have HK := Lib.hid hk
    clear h0 hk
    go_enter Tryz.func55, Tryz.ntmps55
    go_wp2_with fail
    refine (min_any _ l _ HI.out hl hpos).mono ?_
    rintro e w' ⟨rfl, rfl⟩
    go_wp2_with fail
    refine (rgIndex_any _ l _ _ HI.out hl).mono ?_
    rintro e w' ⟨rfl, rfl⟩
    rw [HE.out]
    go_wp2_with fail
    refine (turn_any _ l k _ HI.out hl hlt).mono ?_
    rintro e w' ⟨u, rfl, hown, hB⟩
    go_wp2
    go_ret
    exact ⟨_, rfl, by rw [HK.out]; exact hown, hB⟩

/-! ### After and Before -/

/-! ### Order -/

end Go.Proofs.YtmbpmepoaonleaaGreat

/-! The library's slices.Values, AppendSeq, Collect over it: a new slice of the same numbers. -/
namespace Go.Proofs.YtmbpmepoaonleaaGreat
open Go.RowKit Go.Shelf

attribute [local go_sem] Oper.semAt_some

/-- The slice value lies below a block and reads as the numbers l. -/
def IntsB (n₀ : Nat) (w : World) (v : Value) (l : List Int) : Prop :=
  ∃ A cap, v = .slice A l.length cap ∧ (0 < l.length → ∃ b off, A = some ⟨b, off, none⟩ ∧ b < n₀ ∧ ∀ j, j < l.length → w.cell? ⟨b, off + j, none⟩ = some (.int .i64 (getI l j)))

theorem IntsB.of {w : World} {v : Value} {l : List Int} (h : Ints w v l) : IntsB w.heap.size w v l := by
  obtain ⟨A, cap, rfl, _, _, hr⟩ := h
  exact ⟨A, cap, rfl, hr⟩
theorem IntsB.below {n₀ : Nat} {w w' : World} {v : Value} {l : List Int} (h : IntsB n₀ w v l) (hb : Below n₀ w w') : IntsB n₀ w' v l := by
  obtain ⟨A, cap, rfl, hr⟩ := h
  refine ⟨A, cap, rfl, fun h0 => ?_⟩
  obtain ⟨b, off, hA, hlt, hg⟩ := hr h0
  exact ⟨b, off, hA, hlt, fun j hj => (hb.cell (p := ⟨b, off + j, none⟩) hlt).trans (hg j hj)⟩

end Go.Proofs.YtmbpmepoaonleaaGreat

/-! The program's Right: sorted, each number once, as many as there were. -/
namespace Go.Proofs.YtmbpmepoaonleaaGreat
open Go.RowKit Go.Shelf Go.Sort

/-! ### Sorted lists -/

/-! ### The library's calls -/

end Go.Proofs.YtmbpmepoaonleaaGreat
