/-
  The document's Labels: its call answers the stretches' numbers, or that one has two.
-/
import Derived.Test.YtkgggadcdmbglaaRgG
namespace Go.Proofs.Ytkgggadcdmbglaa
open Go.RowKit

theorem Ints.cut {w : World} {A : Option Addr} {cap : Nat} {l : List Int} (h : Ints w (.slice A l.length cap) l) (k : Nat) (hk : k ≤ l.length) : Ints w (.slice A k cap) (l.take k) := by
  obtain ⟨A', cap', e, hc, hm, hr⟩ := h
  obtain ⟨rfl, _, rfl⟩ := Value.slice.inj e
  have hl : (l.take k).length = k := by simp; omega
  refine ⟨A, cap, by rw [hl], by omega, hm, fun h0 => ?_⟩
  obtain ⟨b', off, hA, hlt, hg⟩ := hr (by omega)
  refine ⟨b', off, hA, hlt, fun j hj => ?_⟩
  rw [hl] at hj
  rw [hg j (by omega), getI_take _ _ _ hj]

theorem isSome_some {o : Option (List Int)} {l : List Int} (h : o = some l) : o.isSome = true ∧ o.getD [] = l := by rw [h]; exact ⟨rfl, rfl⟩
theorem isSome_none {o : Option (List Int)} (h : o = none) : o.isSome = false ∧ o.getD [] = [] := by rw [h]; exact ⟨rfl, rfl⟩

/-- What a call that answers a list, or nothing, leaves. -/
def ListOrNot (o : Option (List Int)) (w : World) (e : Ending) (w' : World) : Prop :=
  ∃ u, e = .returned (.tuple #[u, .bool o.isSome]) ∧ Ints w' u (o.getD []) ∧ Below w.heap.size w w'

theorem ListOrNot.some {o : Option (List Int)} {l : List Int} (h : o = some l) {w w' : World} {u : Value} (hi : Ints w' u l) (hb : Below w.heap.size w w') : ListOrNot o w (.returned (.tuple #[u, .bool true])) w' := by
  subst h; exact ⟨u, rfl, hi, hb⟩
theorem ListOrNot.none {o : Option (List Int)} (h : o = none) {w w' : World} (hb : Below w.heap.size w w') : ListOrNot o w (.returned (.tuple #[.slice none 0 0, .bool false])) w' := by
  subst h; exact ⟨_, rfl, Ints.nil, hb⟩

set_option maxRecDepth 100000 in
set_option maxHeartbeats 2000000 in
theorem refLabels_any (v : Value) (l : List Int) (w : World) (h : Ints w v l) (hl : l.length ≤ 1000000) :
    Calls Try.prog 29 #[v] w (ListOrNot (labelsO l) w) := by
  have HO := Lib.hid (show labelsO l = if (roundOff (cutTo l l.length)).Nodup then some (roundOff (cutTo l l.length)) else none from rfl)
  obtain ⟨A, cap, rfl, hcap, _, hcell⟩ := h
  obtain ⟨i0, hi, hz0, hz1, hz2⟩ := info_parts Try.infoInt
  go_enter Try.func29, Try.ntmps29
  go_wp2
  go_loopw [4, 5] (fun o i wr => ∃ k : Nat, k ≤ l.length ∧ i = .int .i64 k ∧ wr.ownsRow w.heap.size 3 1 o (cutTo l k).length ((cutTo l k).map (Value.int .i64)) ∧ Below w.heap.size w wr) (fun _ i _ => l.length - (intOf i).toNat)
  case atStart => exact ⟨0, Nat.zero_le _, rfl, World.ownsRow_nil _ _ _ _, Below.refl _ _⟩
  case round =>
    obtain ⟨k, hk, rfl, hown, hB⟩ := hrel
    rename_i wr
    by_cases hlt : k < l.length
    · obtain ⟨b, off, rfl, hb, hc⟩ := hcell (by omega)
      have hck := (hB.cell (p := ⟨b, off + k, none⟩) hb).trans (hc k hlt)
      have HK := Lib.hid (show cutTo l (k + 1) = if 0 < k ∧ getI l k = getI l (k - 1) then cutTo l k else cutTo l k ++ [getI l k] from rfl)
      have hlen := cutTo_length l k
      by_cases hkeep : 0 < k ∧ getI l k = getI l (k - 1)
      · rw [if_pos hkeep] at HK
        have HK2 := Lib.hid HK.out
        obtain ⟨h0, he⟩ := hkeep
        obtain ⟨q, rfl⟩ : ∃ q, k = q + 1 := ⟨k - 1, by omega⟩
        simp only [Nat.add_sub_cancel] at he
        have hcq := (hB.cell (p := ⟨b, off + q, none⟩) hb).trans (hc q (by omega))
        have he' : (getI l (q + 1) == getI l q) = true := by simpa using he
        clear he hc hcell HK h0
        go_wp2_with fail
        go_quiet (fail)
        go_wp2
        go_roundw
        case rel => exact ⟨q + 1 + 1, by omega, by go_num, by rw [HK2.out]; exact hown, below_drewN hB _⟩
        case measure => simp [intOf]; omega
      · rw [if_neg hkeep] at HK
        have HK2 := Lib.hid HK.out
        have hcase : k ≤ 0 ∨ ∃ q, k = q + 1 ∧ wr.cell? ⟨b, off + q, none⟩ = some (.int .i64 (getI l q)) ∧ (getI l (q + 1) == getI l q) = false := by
          by_cases h0 : k ≤ 0
          · exact .inl h0
          · refine .inr ⟨k - 1, by omega, (hB.cell (p := ⟨b, off + (k - 1), none⟩) hb).trans (hc _ (by omega)), ?_⟩
            rw [show k - 1 + 1 = k by omega]
            exact beq_eq_false_iff_ne.2 fun e => hkeep ⟨by omega, e⟩
        clear hkeep hc hcell HK
        rcases hcase with h0 | ⟨q, rfl, hcq, he'⟩
        all_goals
          try have hd : decide (0 < k) = false := by simpa using h0
          go_wp2_with fail
          go_quiet (fail)
          have hck2 : (wr.drewN nq).cell? ⟨b, off + _, none⟩ = some _ := hck
          have hown2 : (wr.drewN nq).ownsRow w.heap.size 3 1 u4 (cutTo l _).length ((cutTo l _).map (Value.int .i64)) := hown
          have hB2 := below_drewN hB nq
          clear hck hown hB
          try clear hcq
          generalize wr.drewN nq = wx at *
          go_wp2_with (at_builtin; refine wpList_append_own _ rfl _ _ 22 rfl w.heap.size 3 i0 _ 1 8 Try.underlying22 hi hz0 hz1 hz2 rfl (by decide) _ _ _ rfl (hown2.alloc _) ⟨wx.heap.size, 0, none⟩ 1 1 _ rfl rfl (cell_one_new _ _ _) (by simp [Value.oneCell']) (by unfold maxLen; omega) (by omega) (by have := hB2.size; simp; omega) ?_)
          intro v' w1 hown' hgrow _
          go_wp2
          go_roundw
          case rel =>
            have hBB := (hB2.alloc hB2.size _).grown hgrow (by have := hB2.size; simp; omega) (fun k hk => (hown2.lt k hk).1)
            first
            | exact ⟨k + 1, by omega, by go_num, by rw [HK2.out, List.map_append, List.length_append]; exact hown', hBB⟩
            | exact ⟨q + 1 + 1, by omega, by go_num, by rw [HK2.out, List.map_append, List.length_append]; exact hown', hBB⟩
          case measure => simp [intOf]; omega
    · obtain rfl : k = l.length := by omega
      have hlen := cutTo_length l l.length
      obtain ⟨A', cap', rfl, hcap', hm', hr'⟩ := Ints.of_own hown
      have HI := Lib.hid (Ints.of_own hown)
      clear hown hcell
      generalize cutTo l l.length = o at *
      have HRL := Lib.hid (show (roundOff o).length ≤ 1000000 by have := roundOff_length o; omega)
      have HR := Lib.hid (show roundOff o = if 1 < o.length ∧ getI o 0 = getI o (o.length - 1) then o.take (o.length - 1) else o from rfl)
      by_cases h1 : 1 < o.length
      · obtain ⟨b, off, rfl, hb, hc⟩ := hr' (by omega)
        have hc0 := hc 0 (by omega)
        rw [Nat.add_zero] at hc0
        have hcl := hc (o.length - 1) (by omega)
        have h1' : decide (1 < o.length) = true := by simpa using h1
        have h1i : decide ((1 : Int) < (o.length : Int)) = true := by simp; omega
        by_cases he : getI o 0 = getI o (o.length - 1)
        · rw [if_pos ⟨h1, he⟩] at HR
          have HR2 := Lib.hid HR.out
          have he' : (getI o 0 == getI o (o.length - 1)) = true := by simpa using he
          clear he hc hr' HR
          go_wp2_with fail
          go_quiet (fail)
          go_wp2_with fail
          have HJ := Lib.hid (show Ints (wr.drewN nq) (.slice (some ⟨b, off, none⟩) (o.length - 1) cap') (roundOff o) by rw [HR2.out]; exact (HI.out.cut (o.length - 1) (by omega)).drewN nq)
          refine (refRight_any _ (roundOff o) _ HJ.out HRL.out).mono ?_
          rintro e w' ⟨rfl, rfl⟩
          all_goals
            by_cases hn : (roundOff o).Nodup
            · have HN := Lib.hid (nodupB_true hn)
              rw [if_pos hn] at HO
              have HO2 := Lib.hid HO.out
              clear hn HO
              rw [HN.out]
              go_wp2
              go_ret2
              exact ListOrNot.some HO2.out HJ.out (below_drewN hB nq)
            · have HN := Lib.hid (nodupB_false hn)
              rw [if_neg hn] at HO
              have HO2 := Lib.hid HO.out
              clear hn HO
              rw [HN.out]
              go_wp2
              go_ret2
              exact ListOrNot.none HO2.out (below_drewN hB nq)
        · rw [if_neg (fun h => he h.2)] at HR
          have HR2 := Lib.hid HR.out
          have he' : (getI o 0 == getI o (o.length - 1)) = false := by simpa using he
          clear he hc hr' HR
          go_wp2_with fail
          go_quiet (fail)
          go_wp2_with fail
          have HJ := Lib.hid (show Ints (wr.drewN nq) (.slice (some ⟨b, off, none⟩) o.length cap') (roundOff o) by rw [HR2.out]; exact HI.out.drewN nq)
          refine (refRight_any _ (roundOff o) _ HJ.out HRL.out).mono ?_
          rintro e w' ⟨rfl, rfl⟩
          all_goals
            by_cases hn : (roundOff o).Nodup
            · have HN := Lib.hid (nodupB_true hn)
              rw [if_pos hn] at HO
              have HO2 := Lib.hid HO.out
              clear hn HO
              rw [HN.out]
              go_wp2
              go_ret2
              exact ListOrNot.some HO2.out HJ.out (below_drewN hB nq)
            · have HN := Lib.hid (nodupB_false hn)
              rw [if_neg hn] at HO
              have HO2 := Lib.hid HO.out
              clear hn HO
              rw [HN.out]
              go_wp2
              go_ret2
              exact ListOrNot.none HO2.out (below_drewN hB nq)
      · rw [if_neg (fun h => h1 h.1)] at HR
        have HR2 := Lib.hid HR.out
        have h1i : decide ((1 : Int) < (o.length : Int)) = false := by simp; omega
        clear HR hr'
        go_wp2_with fail
        go_quiet (fail)
        go_wp2_with fail
        have HJ := Lib.hid (show Ints (wr.drewN nq) (.slice A' o.length cap') (roundOff o) by rw [HR2.out]; exact HI.out.drewN nq)
        refine (refRight_any _ (roundOff o) _ HJ.out HRL.out).mono ?_
        rintro e w' ⟨rfl, rfl⟩
        by_cases hn : (roundOff o).Nodup
        · have HN := Lib.hid (nodupB_true hn)
          rw [if_pos hn] at HO
          have HO2 := Lib.hid HO.out
          clear hn HO
          rw [HN.out]
          go_wp2
          go_ret2
          exact ListOrNot.some HO2.out HJ.out (below_drewN hB nq)
        · have HN := Lib.hid (nodupB_false hn)
          rw [if_neg hn] at HO
          have HO2 := Lib.hid HO.out
          clear hn HO
          rw [HN.out]
          go_wp2
          go_ret2
          exact ListOrNot.none HO2.out (below_drewN hB nq)

end Go.Proofs.Ytkgggadcdmbglaa
