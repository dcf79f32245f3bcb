/-
  The program's Labels: its call answers the stretches' numbers, or that one has two.
-/
import Derived.Test.YtkgggadcdmbglaaRgK
import Derived.Deep.Heap
namespace Go.Proofs.Ytkgggadcdmbglaa
open Go.RowKit

theorem own_same {w w' : World} {base : Nat} {e : TypeId} {size : Nat} {v : Value} {n : Nat} {xs : List Value} (h : w.ownsRow base e size v n xs) (hs : ∀ g, base ≤ g → w'.heap[g]? = w.heap[g]?) : w'.ownsRow base e size v n xs := by
  refine ⟨h.1, ?_⟩
  rcases h.2 with hn | ⟨g, cap, cur, rfl, hbg, hg, rest⟩
  · exact .inl hn
  · exact .inr ⟨g, cap, cur, rfl, hbg, by rw [hs g hbg]; exact hg, rest⟩

set_option maxRecDepth 100000 in
set_option maxHeartbeats 1000000 in
theorem beg_any (B : Nat) (x y : Int) (w : World) (hc : w.cell? ⟨B, 0, none⟩ = some (.int .i64 y)) (hf : w.frozen? ⟨B, 0, none⟩ = false) :
    Calls Try.prog 41 #[.int .i64 x, .pointer (some ⟨B, 0, none⟩)] w fun e w' => e = .returned (.bool (x != y)) ∧ w' = w.setCell ⟨B, 0, none⟩ (.int .i64 x) := by
  go_enter Try.func41, Try.ntmps41
  go_wp2
  go_ret
  exact ⟨rfl, rfl⟩

set_option maxRecDepth 100000 in
set_option maxHeartbeats 2000000 in
theorem keepBeg_any (B : Nat) (v : Value) (l : List Int) (w : World) (h : IntsB B w v l) (hl : l.length ≤ 1000000) (hBw : B < w.heap.size) (hc0 : w.cell? ⟨B, 0, none⟩ = some (.int .i64 (ahead l 0))) (hf0 : w.frozen? ⟨B, 0, none⟩ = false) :
    Calls Try.prog 24 #[v, .func (.func 41) #[] #[.pointer (some ⟨B, 0, none⟩)]] w fun e w' => ∃ u, e = .returned u ∧ w'.ownsRow w.heap.size 3 1 u (begTo l l.length).length ((begTo l l.length).map (Value.int .i64)) ∧ Below B w w' := by
  obtain ⟨A, cap, rfl, hcell⟩ := h
  obtain ⟨i0, hi, hz0, hz1, hz2⟩ := info_parts Try.infoInt
  have hnil : Sem.run Try.prog (binOp BinOp.eql 37 (.func (.func 41) #[] #[.pointer (some ⟨B, 0, none⟩)]) .nilFunc) w = .ok (.bool false) w := by kernel_rfl
  have HC0 := Lib.hid hc0
  have HF0 := Lib.hid hf0
  clear hc0 hf0
  go_enter Try.func24, Try.ntmps24
  go_wp2
  go_loopw [5, 12] (fun o i wr => ∃ k : Nat, k ≤ l.length ∧ i = .int .i64 k ∧ wr.ownsRow w.heap.size 3 1 o (begTo l k).length ((begTo l k).map (Value.int .i64)) ∧ Below B w wr ∧
      Hid (wr.cell? ⟨B, 0, none⟩ = some (.int .i64 (ahead l k))) ∧ Hid (wr.frozen? ⟨B, 0, none⟩ = false) ∧ w.heap.size ≤ wr.heap.size) (fun _ i _ => l.length - (intOf i).toNat)
  case atStart => exact ⟨0, Nat.zero_le _, rfl, World.ownsRow_nil _ _ _ _, Below.refl _ _, HC0, HF0, Nat.le_refl _⟩
  case round =>
    obtain ⟨k, hk, rfl, hown, hB, HC, HF, hsz⟩ := hrel
    rename_i wr
    by_cases hlt : k < l.length
    · obtain ⟨b, off, rfl, hb, hc⟩ := hcell (by omega)
      have hck := (hB.cell (p := ⟨b, off + k, none⟩) hb).trans (hc k hlt)
      have HK := Lib.hid (show begTo l (k + 1) = if getI l k = ahead l k then begTo l k else begTo l k ++ [getI l k] from rfl)
      have HA := Lib.hid (show ahead l (k + 1) = getI l k from rfl)
      have hlen := begTo_length l k
      have HG := Lib.hid (beg_any B (getI l k) (ahead l k) wr HC.out HF.out)
      -- the world behind the closure's call
      have hB2 := hB.setCell (p := ⟨B, 0, none⟩) (Nat.le_refl _) (.int .i64 (getI l k))
      have hown2 : (wr.setCell ⟨B, 0, none⟩ (.int .i64 (getI l k))).ownsRow w.heap.size 3 1 u5 (begTo l k).length ((begTo l k).map (Value.int .i64)) :=
        own_same hown (fun g hg => Deep.blk_setCell_other wr _ _ g (by simp; omega))
      have HC2 : Hid ((wr.setCell ⟨B, 0, none⟩ (.int .i64 (getI l k))).cell? ⟨B, 0, none⟩ = some (.int .i64 (getI l k))) := World.cell?_setCell_same _ _ _ HC.out
      have HF2 : Hid ((wr.setCell ⟨B, 0, none⟩ (.int .i64 (getI l k))).frozen? ⟨B, 0, none⟩ = false) := (World.frozen?_setCell _ _ _ _).trans HF.out
      have hsz2 : w.heap.size ≤ (wr.setCell ⟨B, 0, none⟩ (.int .i64 (getI l k))).heap.size := by rw [Deep.nblk_setCell]; exact hsz
      clear hc hcell hown hB HC HF hsz
      by_cases hp : getI l k = ahead l k
      · rw [if_pos hp] at HK
        have HK2 := Lib.hid HK.out
        have HP := Lib.hid (show (getI l k != ahead l k) = false by simpa using hp)
        clear hp HK
        go_wp2_with fail
        refine HG.out.mono ?_
        rintro e w' ⟨rfl, rfl⟩
        rw [HP.out]
        generalize wr.setCell ⟨B, 0, none⟩ (.int .i64 (getI l k)) = wx at *
        go_wp2
        go_roundw
        case rel => exact ⟨k + 1, by omega, by go_num, by rw [HK2.out]; exact hown2, hB2, by rw [HA.out]; exact HC2, HF2, hsz2⟩
        case measure => simp [intOf]; omega
      · rw [if_neg hp] at HK
        have HK2 := Lib.hid HK.out
        have HP := Lib.hid (show (getI l k != ahead l k) = true by simpa using hp)
        clear hp HK
        go_wp2_with fail
        refine HG.out.mono ?_
        rintro e w' ⟨rfl, rfl⟩
        rw [HP.out]
        generalize wr.setCell ⟨B, 0, none⟩ (.int .i64 (getI l k)) = wx at *
        go_wp2_with (at_builtin; refine wpList_append_own _ rfl _ _ 22 rfl w.heap.size 3 i0 _ 1 8 Try.underlying22 hi hz0 hz1 hz2 rfl (by decide) _ _ _ rfl (hown2.alloc _) ⟨wx.heap.size, 0, none⟩ 1 1 _ rfl rfl (cell_one_new _ _ _) (by simp [Value.oneCell']) (by unfold maxLen; omega) (by omega) (by simp; omega) ?_)
        intro v' w1 hown' hgrow _
        have hBB : Below w.heap.size wx w1 := ((Below.refl _ wx).alloc hsz2 _).grown hgrow (by simp; omega) (fun k hk => (hown2.lt k hk).1)
        go_wp2
        go_roundw
        case rel =>
          exact ⟨k + 1, by omega, by go_num, by rw [HK2.out, List.map_append, List.length_append]; exact hown', hB2.trans (hBB.mono (by omega)), by rw [HA.out]; exact (hBB.cell (p := ⟨B, 0, none⟩) hBw).trans HC2, (hBB.frozen (p := ⟨B, 0, none⟩) hBw).trans HF2, by have := hBB.size; omega⟩
        case measure => simp [intOf]; omega
    · obtain rfl : k = l.length := by omega
      clear hcell
      go_wp2
      go_ret
      exact ⟨_, rfl, hown, hB⟩

set_option maxRecDepth 100000 in
set_option maxHeartbeats 2000000 in
theorem labels_any (v : Value) (l : List Int) (w : World) (h : Ints w v l) (hl : l.length ≤ 1000000) :
    Calls Try.prog 28 #[v] w (ListOrNot (labelsO l) w) := by
  have HI := Lib.hid h
  obtain ⟨A, cap, rfl, hcap, hm, hcell⟩ := h
  by_cases h0 : l.length = 0
  · have e : l = [] := List.length_eq_zero_iff.1 h0
    subst e
    have HF := Lib.hid (show labelsO [] = some [] by rfl)
    clear h0 hcell
    go_enter Try.func28, Try.ntmps28
    go_wp2
    go_ret2
    exact ListOrNot.some HF.out Ints.nil (Below.refl _ _)
  have hpos : 0 < l.length := by omega
  have h0' : ((l.length : Int) == 0) = false := beq_eq_false_iff_ne.2 (by omega)
  obtain ⟨b, off, rfl, hb, hc⟩ := hcell hpos
  have hcl := hc (l.length - 1) (by omega)
  have hcz := hc 0 hpos
  have hlp : 1 ≤ l.length := by omega
  have hx1 : (0 : Int) ≤ (l.length : Int) - 1 := by omega
  have hx2 : (l.length : Int) - 1 < (l.length : Int) := by omega
  rw [Nat.add_zero] at hcz
  have hfirst := labels_eq l hpos
  -- the cell of the closure
  obtain ⟨wa, hwa⟩ : ∃ wa, w.alloc (.cells #[.int .i64 (getI l (l.length - 1))] 3) = wa := ⟨_, rfl⟩
  have hBa : Below w.heap.size w wa := by rw [← hwa]; exact below_alloc _
  have hca : wa.cell? ⟨w.heap.size, 0, none⟩ = some (.int .i64 (ahead l 0)) := by rw [← hwa]; exact new_cell w _ 3
  have hfa : wa.frozen? ⟨w.heap.size, 0, none⟩ = false := by rw [← hwa]; exact new_thaw w _ _ 0
  have hsa : wa.heap.size = w.heap.size + 1 := by rw [← hwa]; simp
  have HK := Lib.hid (keepBeg_any w.heap.size _ l wa ((IntsB.of HI.out).below hBa) hl (by omega) hca hfa)
  have HWA := Lib.hid hwa
  have HF := Lib.hid hfirst
  have HBA := Lib.hid hBa
  clear h0 hc hcell hwa hBa hca hfa hsa hfirst
  go_enter Try.func28, Try.ntmps28
  go_wp2_with fail
  rw [HWA.out]
  refine HK.out.mono ?_
  rintro e w1 ⟨u, rfl, hown, hB⟩
  have hlen := begTo_length l l.length
  have HJ := Lib.hid (Ints.of_own hown)
  have HB1 := HBA.out.trans hB
  have hcz1 := (HB1.cell (p := ⟨b, off, none⟩) hb).trans hcz
  clear hown HK HWA HBA hB hcz hcl
  generalize begTo l l.length = bl at *
  obtain ⟨A', cap', rfl, hcap', _, hcell'⟩ := HJ.out
  clear hcell'
  rcases HF.out with ⟨rfl, e⟩ | ⟨hp, hn, e⟩ | ⟨k, hk, hn, hi, e⟩
  · have HE := Lib.hid e
    clear e HF
    go_wp2
    go_ret2
    refine ListOrNot.some HE.out ?_ (HB1.alloc HB1.size _)
    refine ⟨some ⟨w1.heap.size, 0, none⟩, 1, rfl, Nat.le_refl _, by unfold maxLen; omega, fun _ => ⟨w1.heap.size, 0, rfl, by simp, fun j hj => ?_⟩⟩
    obtain rfl : j = 0 := by simp at hj; exact hj
    exact new_cell w1 _ 3
  · have HE := Lib.hid e
    have HN := Lib.hid (nodupB_false hn)
    have h1' : ((bl.length : Int) == 0) = false := beq_eq_false_iff_ne.2 (by omega)
    clear e HF hn
    go_wp2_with fail
    refine (right_any _ bl _ HJ.out (by omega)).mono ?_
    rintro e w2 ⟨rfl, hB2⟩
    rw [HN.out]
    go_wp2
    go_ret2
    exact ListOrNot.none HE.out (HB1.trans (hB2.mono HB1.size))
  · have HE := Lib.hid e
    have HN := Lib.hid (nodupB_true hn)
    have HX := Lib.hid hi
    have h1' : ((bl.length : Int) == 0) = false := beq_eq_false_iff_ne.2 (by omega)
    clear e HF hn hi
    go_wp2_with fail
    refine (right_any _ bl _ HJ.out (by omega)).mono ?_
    rintro e w2 ⟨rfl, hB2⟩
    rw [HN.out]
    have HB3 := HB1.trans (hB2.mono HB1.size)
    have hcz2 := (HB3.cell (p := ⟨b, off, none⟩) hb).trans (((HB1.cell (p := ⟨b, off, none⟩) hb).symm).trans hcz1)
    have HC := Lib.hid ((from_any _ bl (getI l 0) w2 (HJ.out.below hB2) (by omega)).1 k hk HX.out)
    have HR := Lib.hid (rotL_length bl k).symm
    clear hcz1
    go_wp2_with fail
    refine HC.out.mono ?_
    rintro e w3 ⟨u3, rfl, hown3, hB3⟩
    rw [HR.out] at hown3
    have HI3 := Lib.hid (Ints.of_own hown3)
    have HB4 := HB3.trans (hB3.mono HB3.size)
    clear hown3
    go_wp2
    go_ret2
    exact ListOrNot.some HE.out HI3.out HB4

end Go.Proofs.Ytkgggadcdmbglaa
