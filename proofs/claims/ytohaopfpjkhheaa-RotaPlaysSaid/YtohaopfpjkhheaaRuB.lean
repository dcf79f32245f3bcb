/-
  The program's Darts: all darts, rising, handed out one by one.
-/
import Derived.Test.YtohaopfpjkhheaaRuA
import Derived.Test.YtohaopfpjkhheaaRgR
import Derived.Shelf.SlIterI.Nil
import Derived.Shelf.SortM.Plain
import Derived.Shelf.SortM.SortNone
namespace Go.Proofs.Ytohaopfpjkhheaa.Rt
open Go.Proofs.Ytohaopfpjkhheaa Go.RowKit Go.Maps Go.Sort Go.Shelf

theorem up_pairs : ∀ l : List Int, Up l → Up (l.flatMap fun e => [2 * e, 2 * e + 1])
  | [], _ => List.Pairwise.nil
  | e :: l, h => by
    have h' := List.pairwise_cons.1 h
    have ih := up_pairs l h'.2
    have hm : ∀ x ∈ l.flatMap (fun e => [2 * e, 2 * e + 1]), 2 * e + 1 < x := by
      intro x hx
      obtain ⟨y, hy, hx⟩ := List.mem_flatMap.1 hx
      have := h'.1 y hy
      simp only [List.mem_cons, List.not_mem_nil, or_false] at hx
      omega
    rw [List.flatMap_cons]
    refine List.pairwise_cons.2 ⟨fun x hx => ?_, List.pairwise_cons.2 ⟨hm, ih⟩⟩
    rcases List.mem_cons.1 hx with rfl | hx
    · omega
    · have := hm x hx; omega

theorem allD_up {g : Gph} {p : Prt} (h : perr g p = 0) : Up (allD p) := up_pairs p.e (perr_rises h).2.2.1.up

/-- The map's keys, sorted, are all darts. -/
theorem keys_allD {w : World} {g : Gph} {p : Prt} {R : Value → Option (DataW Unit × List MemPlace)} {b n : Nat} {D : DataW Unit} {f : Int → DataW Unit} (hp : perr g p = 0) (ho : w.ownsMap Try.prog 3 R b n D) (hD : Hd D (Dart p) f) {ss : List Int} (hs : ss.Perm (intKeys D)) :
    (ss.mergeSort fun x y => decide (x ≤ y)) = allD p := by
  have hup := allD_up hp
  have hnd : (allD p).Nodup := hup.imp fun h => by omega
  have hperm : (allD p).Perm (intKeys D) := by
    obtain ⟨es, hE, hpw, _⟩ := ho.entries Try.keyInt
    obtain ⟨es', hE', hko⟩ := ho.keysOf
    obtain rfl : es = es' := by rw [hE] at hE'; simpa using hE'
    subst hE
    exact perm_intKeys hpw (fun q hq => by obtain ⟨v, hv⟩ := hko q hq; obtain ⟨x, _, hx, _⟩ := Maps.keyOf_i64 Try.underlying3 hv; exact ⟨x, hx⟩) hnd (fun x => by rw [mem_allD hp, ← hD.has x])
  have hp2 := hs.trans hperm.symm
  refine List.Perm.eq_of_pairwise (le := fun a b : Int => a ≤ b) (fun a b _ _ h1 h2 => by omega) ?_ (hup.imp fun h => by omega) ((List.mergeSort_perm ss _).trans hp2)
  have := List.pairwise_mergeSort (le := fun x y : Int => decide (x ≤ y)) (fun a b c h1 h2 => by simp at *; omega) (fun a b => by simp; omega) ss
  exact this.imp fun h => of_decide_eq_true h

theorem keys_any (mb : Option Nat) (W : World) :
    Calls Try.prog 38 #[.map mb] W fun e w' => e = .returned (.func (.func 53) #[] #[.pointer (some ⟨W.heap.size, 0, none⟩)]) ∧ w' = W.alloc (.cells #[.map mb] 64) :=
  (callsIn_wide (n := 6)).1 (AnyZI.keys_in Try.laysKeys Fence.wide 6 trivial rfl mb W)

theorem sortsK (m : Nat) : AnyZI.SortsIn Try.prog Try.laysSorted_ren Fence.wide m :=
  ⟨fun blk off cap ss W hH hblk hsz => callsIn_wide.2 (AnyM.slices_Sort_int Try.laysSort blk off cap ss W hH hblk hsz),
   fun p cap W => callsIn_wide.2 (AnyM.slices_Sort_int_none Try.laysSort p cap W)⟩

theorem sortedKeys_any (b n Bm : Nat) (g : Gph) (p : Prt) (D : DataW Unit) (f : Int → DataW Unit) (R : Value → Option (DataW Unit × List MemPlace)) (w : World) (hBm : Bm < w.heap.size) (hm : w.cell? ⟨Bm, 0, none⟩ = some (.map (some b))) (ho : w.ownsMap Try.prog 3 R b n D) (hn : n ≤ 1000000) (hp : perr g p = 0) (hD : Hd D (Dart p) f) :
    Calls Try.prog 37 #[.func (.func 53) #[] #[.pointer (some ⟨Bm, 0, none⟩)]] w fun e w' => ∃ v, e = .returned v ∧ Row w' w.heap.size v (allD p) ∧ Below w.heap.size w w' := by
  have hsz := ho.size_le
  have hseq : SeqGives Fence.wide 3 Try.prog 53 #[.pointer (some ⟨Bm, 0, none⟩)] encZ (fun ss => ss.Perm (intKeys D)) (Maps.size D) w :=
    AnyZI.keys_gives (ρ := Try.laysKeys_ren) { Try.laysKeys with } Fence.wide _ trivial rfl (by omega) Bm b n D w hBm hm ho
  have cS := AnyZI.sorted_in Try.laysSorted Fence.wide 6 trivial trivial trivial trivial rfl (by omega) (sortsK _) (enters_of Try.func52 (by kernel_rfl) rfl) 53 #[.pointer (some ⟨Bm, 0, none⟩)] trivial (enters_of Try.func53 (by kernel_rfl) rfl) _ _ (by unfold maxLen; omega) (by omega) _ hseq
  change CallsIn _ _ Try.prog 37 _ _ _ at cS
  refine ((callsIn_wide (n := 6)).1 cS).mono ?_
  rintro e w' ⟨v, ss, rfl, hS, hrow, _, hb⟩
  have hk := keys_allD hp ho hD hS
  refine ⟨v, rfl, ?_, hb⟩
  rw [hk] at hrow
  have hl : ss.length = (allD p).length := by rw [← hk, List.length_mergeSort]
  rw [hl] at hrow
  exact hrow

/-! ### Darts -/

set_option maxRecDepth 100000 in
set_option maxHeartbeats 2000000 in
theorem darts_nil (w : World) :
    Calls Try.prog 19 #[.pointer none] w fun e w' => ∃ B sv, e = .returned (.func (.func 39) #[] #[.pointer (some ⟨B, 0, none⟩)]) ∧ w.heap.size ≤ B ∧ B < w'.heap.size ∧ w'.cell? ⟨B, 0, none⟩ = some sv ∧ Ints w' sv [] ∧ Below w.heap.size w w' := by
  have hc := new_cell w (.slice none 0 0) 25
  have HC := Lib.hid hc
  go_enter Try.func19, Try.ntmps19
  go_wp2
  go_ret
  exact ⟨_, _, rfl, Nat.le_refl _, by simp, HC.out, Ints.nil, below_alloc _⟩

set_option maxRecDepth 100000 in
set_option maxHeartbeats 2000000 in
theorem darts_any' (b : Nat) (g : Gph) (p : Prt) (U : List (List Int)) (w : World) (h : Ro w b g p U) (hp : perr g p = 0) :
    Calls Try.prog 19 #[.pointer (some ⟨b, 0, none⟩)] w fun e w' => ∃ B sv, e = .returned (.func (.func 39) #[] #[.pointer (some ⟨B, 0, none⟩)]) ∧ w.heap.size ≤ B ∧ B < w'.heap.size ∧ w'.cell? ⟨B, 0, none⟩ = some sv ∧ Ints w' sv (allD p) ∧ Below w.heap.size w w' := by
  obtain ⟨A, cap, mb, nn, D, c0, c1, hbl, hLL, hnn, ho, hD⟩ := (h.below (below_alloc (.cells #[.slice none 0 0] 25))).at_
  have hsz : (w.alloc (.cells #[.slice none 0 0] 25)).heap.size = w.heap.size + 1 := by simp
  have hbw : b < w.heap.size := by obtain ⟨_, _, _, _, _, _, _, h0, _⟩ := h.at_; exact h0
  have hB0 := below_alloc (w := w) (.cells #[.slice none 0 0] 25)
  have hnc := new_cell w (.slice none 0 0) 25
  have hnf := new_thaw w #[.slice none 0 0] 25 0
  have HK := Lib.hid (keys_any (some mb) (w.alloc (.cells #[.slice none 0 0] 25)))
  have hB1 := below_alloc (w := w.alloc (.cells #[.slice none 0 0] 25)) (.cells #[.map (some mb)] 64)
  have HSK := Lib.hid (sortedKeys_any mb nn (w.heap.size + 1) g p D (plF g U) placeR ((w.alloc (.cells #[.slice none 0 0] 25)).alloc (.cells #[.map (some mb)] 64)) (by simp) (by have := new_cell (w.alloc (.cells #[.slice none 0 0] 25)) (.map (some mb)) 64; rwa [hsz] at this) (ho.alloc _) hnn hp hD)
  have HB1 := Lib.hid hB1
  have HB0 := Lib.hid hB0
  have HNC := Lib.hid hnc
  have HNF := Lib.hid hnf
  have HSZ := Lib.hid hsz
  clear ho hD hLL h hB1 hB0 hnc hnf c0 hsz
  go_enter Try.func19, Try.ntmps19
  go_wp2_with fail
  refine HK.out.mono ?_
  rintro e w1 ⟨rfl, rfl⟩
  clear HK c1
  go_wp2_with fail
  refine HSK.out.mono ?_
  rintro e w2 ⟨v, rfl, hrow, hB2⟩
  have HB2 := Lib.hid (HB1.out.trans (hB2.mono HB1.out.size))
  have hlt : w.heap.size < (w.alloc (.cells #[.slice none 0 0] 25)).heap.size := by rw [HSZ.out]; omega
  have hc2 := (HB2.out.cell (p := ⟨w.heap.size, 0, none⟩) hlt).trans HNC.out
  have hf2 := (HB2.out.frozen (p := ⟨w.heap.size, 0, none⟩) hlt).trans HNF.out
  obtain ⟨Av, cv, rfl⟩ := ints_form (Row.ints hrow)
  have hwl : w.heap.size < w2.heap.size := Nat.lt_of_lt_of_le hlt HB2.out.size
  have HR := Lib.hid hrow
  have HBF := Lib.hid ((HB0.out.trans (HB2.out.mono (by rw [HSZ.out]; omega))).setCell (p := ⟨w.heap.size, 0, none⟩) (Nat.le_refl _) (.slice Av (allD p).length cv))
  have HCC := Lib.hid (World.cell?_setCell_same w2 ⟨w.heap.size, 0, none⟩ (.slice Av (allD p).length cv) hc2)
  have HII := Lib.hid (show Ints (w2.setCell ⟨w.heap.size, 0, none⟩ (.slice Av (allD p).length cv)) (.slice Av (allD p).length cv) (allD p) from
    Row.ints (own_block hrow (fun k hk => Below.heap_setCell _ _ _ _ (fun e => by
      have h1 := (World.ownsRow.lt hrow k hk).1
      simp only [World.size_alloc] at h1
      simp only at e
      omega))))
  have HLT := Lib.hid (show w.heap.size < (w2.setCell ⟨w.heap.size, 0, none⟩ (.slice Av (allD p).length cv)).heap.size by simpa [World.setCell] using hwl)
  clear hrow hB2 HSK HB1 hlt
  go_wp2
  go_ret
  exact ⟨_, _, rfl, Nat.le_refl _, HLT.out, HCC.out, HII.out, HBF.out⟩

end Go.Proofs.Ytohaopfpjkhheaa.Rt
