/-
  The program's Darts: the slice that it goes through is of the call's own; a body that writes a variable of its caller's.
-/
import Derived.Test.YtohaopfpjkhheaaRuD
namespace Go.Proofs.Ytohaopfpjkhheaa.Rt
open Go.Proofs.Ytohaopfpjkhheaa Go.RowKit Go.Maps Go.Sort Go.Shelf

set_option maxRecDepth 100000 in
set_option maxHeartbeats 2000000 in
theorem darts_row (b : Nat) (g : Gph) (p : Prt) (U : List (List Int)) (w : World) (h : Ro w b g p U) (hp : perr g p = 0) :
    Calls Try.prog 19 #[.pointer (some ⟨b, 0, none⟩)] w fun e w' => ∃ B sv, e = .returned (.func (.func 39) #[] #[.pointer (some ⟨B, 0, none⟩)]) ∧ w.heap.size ≤ B ∧ B < w'.heap.size ∧ w'.cell? ⟨B, 0, none⟩ = some sv ∧ Row w' w.heap.size sv (allD p) ∧ w.heap.size < B + 1 ∧ Below w.heap.size w w' := by
  obtain ⟨A, cap, mb, nn, D, c0, c1, hbl, hLL, hnn, ho, hD⟩ := (h.below (below_alloc (.cells #[.slice none 0 0] 25))).at_
  have hsz : (w.alloc (.cells #[.slice none 0 0] 25)).heap.size = w.heap.size + 1 := by simp
  have hbw : b < w.heap.size := by obtain ⟨_, _, _, _, _, _, _, h0, _⟩ := h.at_; exact h0
  have hB0 := below_alloc (w := w) (.cells #[.slice none 0 0] 25)
  have hnc := new_cell w (.slice none 0 0) 25
  have hnf := new_thaw w #[.slice none 0 0] 25 0
  have HK := Lib.hid (keys_any (some mb) (w.alloc (.cells #[.slice none 0 0] 25)))
  have hB1 := below_alloc (w := w.alloc (.cells #[.slice none 0 0] 25)) (.cells #[.map (some mb)] 64)
  have HSK := Lib.hid (sortedKeys_any mb nn (w.heap.size + 1) g p D (plF g U) placeR ((w.alloc (.cells #[.slice none 0 0] 25)).alloc (.cells #[.map (some mb)] 64)) (by simp) (by have := new_cell (w.alloc (.cells #[.slice none 0 0] 25)) (.map (some mb)) 64; rwa [hsz] at this) (ho.alloc _) hnn hp hD)
  have HB1 := Lib.hid hB1
  have HB0 := Lib.hid hB0
  have HNC := Lib.hid hnc
  have HNF := Lib.hid hnf
  have HSZ := Lib.hid hsz
  clear ho hD hLL h hB1 hB0 hnc hnf c0 hsz
  go_enter Try.func19, Try.ntmps19
  go_wp2_with fail
  refine HK.out.mono ?_
  rintro e w1 ⟨rfl, rfl⟩
  clear HK c1
  go_wp2_with fail
  refine HSK.out.mono ?_
  rintro e w2 ⟨v, rfl, hrow, hB2⟩
  have HB2 := Lib.hid (HB1.out.trans (hB2.mono HB1.out.size))
  have hlt : w.heap.size < (w.alloc (.cells #[.slice none 0 0] 25)).heap.size := by rw [HSZ.out]; omega
  have hc2 := (HB2.out.cell (p := ⟨w.heap.size, 0, none⟩) hlt).trans HNC.out
  have hf2 := (HB2.out.frozen (p := ⟨w.heap.size, 0, none⟩) hlt).trans HNF.out
  obtain ⟨Av, cv, rfl⟩ := ints_form (Row.ints hrow)
  have hwl : w.heap.size < w2.heap.size := Nat.lt_of_lt_of_le hlt HB2.out.size
  have HR := Lib.hid hrow
  have HBF := Lib.hid ((HB0.out.trans (HB2.out.mono (by rw [HSZ.out]; omega))).setCell (p := ⟨w.heap.size, 0, none⟩) (Nat.le_refl _) (.slice Av (allD p).length cv))
  have HCC := Lib.hid (World.cell?_setCell_same w2 ⟨w.heap.size, 0, none⟩ (.slice Av (allD p).length cv) hc2)
  have HII := Lib.hid (show Row (w2.setCell ⟨w.heap.size, 0, none⟩ (.slice Av (allD p).length cv)) w.heap.size (.slice Av (allD p).length cv) (allD p) from
    Row.le (own_block hrow (fun k hk => Below.heap_setCell _ _ _ _ (fun e => by
      have h1 := (World.ownsRow.lt hrow k hk).1
      simp only [World.size_alloc] at h1
      simp only at e
      omega))) (by simp only [World.size_alloc]; omega))
  have HLT := Lib.hid (show w.heap.size < (w2.setCell ⟨w.heap.size, 0, none⟩ (.slice Av (allD p).length cv)).heap.size by simpa [World.setCell] using hwl)
  clear hrow hB2 HSK HB1 hlt
  go_wp2
  go_ret
  exact ⟨_, _, rfl, Nat.le_refl _, HLT.out, HCC.out, HII.out, Nat.lt_succ_self _, HBF.out⟩

/-- One block beside the slice's own has been written, new ones made. -/
theorem KpD.beside {sv : Value} {l : List Int} {W W' : World} {nb : Nat} (hne : sv.ownBlock ≠ some nb) (h : ∀ k, k < W.heap.size → k ≠ nb → W'.heap[k]? = W.heap[k]?) : KpD sv l W W' := by
  rintro ⟨A, cap, rfl, hr⟩
  refine ⟨A, cap, rfl, fun h0 => ?_⟩
  obtain ⟨bb, off, rfl, hg⟩ := hr h0
  refine ⟨bb, off, rfl, fun j hj => ?_⟩
  have h1 := World.block_lt_of_cell? W _ (hg j hj)
  exact (World.cell?_of_block (a := ⟨bb, off + j, none⟩) (h bb h1 (fun e => hne (by rw [← e]; rfl)))).trans (hg j hj)

theorem att_get {l : List Int} {pre : List (In l)} {x : In l} (h : pre ++ [x] <+: l.attach) : pre.length < l.length ∧ x.1 = getI l pre.length := by
  obtain ⟨t, e⟩ := h
  have hl := congrArg List.length e
  rw [att_len, List.length_append, List.length_append] at hl
  simp only [List.length_cons, List.length_nil] at hl
  have hlt : pre.length < l.length := by omega
  refine ⟨hlt, ?_⟩
  have h2 : l.attach[pre.length]? = some x := by rw [← e]; simp
  rw [List.getElem?_eq_getElem (by rw [att_len]; exact hlt), Option.some.injEq, List.getElem_attach] at h2
  rw [← h2, getI_of l _ hlt]
theorem att_more {l : List Int} {pre : List (In l)} {x : In l} (h : pre <+: l.attach) (hlt : pre.length < l.length) (hx : x.1 = getI l pre.length) : pre ++ [x] <+: l.attach := by
  obtain ⟨y, hy, ht⟩ := att_take hlt
  have e : x = y := Subtype.ext (hx.trans hy.symm)
  have hp : pre = l.attach.take pre.length := List.prefix_iff_eq_take.1 h
  rw [e]
  have : pre ++ [y] = l.attach.take (pre.length + 1) := by
    rw [ht]
    congr 1
  rw [this]
  exact List.take_prefix _ _

end Go.Proofs.Ytohaopfpjkhheaa.Rt
