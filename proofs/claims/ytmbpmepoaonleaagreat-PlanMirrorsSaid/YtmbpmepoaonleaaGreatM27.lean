/-
  RuD, RuE, in one text.
-/
import Derived.Test.YtmbpmepoaonleaaGreatM26
/-! What goes through all darts, as an iterator: for whatever body, one that leaves early too. -/
namespace Go.Proofs.YtmbpmepoaonleaaGreat.Rt
open Go.Proofs.YtmbpmepoaonleaaGreat Go.RowKit Go.Maps Go.Shelf

attribute [local go_sem] Oper.semAt_some

/-- The slice value reads as the numbers l, wherever it lies. -/
def IntsR (w : World) (v : Value) (l : List Int) : Prop :=
  ∃ A cap, v = .slice A l.length cap ∧ (0 < l.length → ∃ b off, A = some ⟨b, off, none⟩ ∧ ∀ j, j < l.length → w.cell? ⟨b, off + j, none⟩ = some (.int .i64 (getI l j)))
theorem IntsR.of {w : World} {v : Value} {l : List Int} (h : Ints w v l) : IntsR w v l := by
  obtain ⟨A, cap, rfl, _, _, hr⟩ := h
  refine ⟨A, cap, rfl, fun h0 => ?_⟩
  obtain ⟨b, off, hA, _, hg⟩ := hr h0
  exact ⟨b, off, hA, hg⟩
/-- What a body has to leave as it was. -/
def KpD (v : Value) (l : List Int) (w w' : World) : Prop := IntsR w v l → IntsR w' v l
theorem KpD.trans {v : Value} {l : List Int} {A B C : World} (h : KpD v l A B) (k : KpD v l B C) : KpD v l A C := fun x => k (h x)
theorem KpD.obj {v : Value} {l : List Int} (W : World) (b : Nat) (o o' : Obj) (ho : W.heap[b]? = some o) (hc : o.isCells = false) : KpD v l W (W.putObj b o') := by
  rintro ⟨A, cap, rfl, hr⟩
  refine ⟨A, cap, rfl, fun h0 => ?_⟩
  obtain ⟨bb, off, hA, hg⟩ := hr h0
  refine ⟨bb, off, hA, fun j hj => ?_⟩
  have hne : bb ≠ b := fun e => by
    have h1 := hg j hj
    unfold World.cell? at h1
    simp only [e, ho] at h1
    cases o <;> simp [Obj.isCells] at hc h1
  exact (World.cell?_of_block (World.putObj_heap_other hne)).trans (hg j hj)
theorem KpD.block {v : Value} {l : List Int} {W W' : World} (h : ∀ b, (∃ A, v.ownBlock = some b ∧ A = b) → W'.heap[b]? = W.heap[b]?) : KpD v l W W' := by
  rintro ⟨A, cap, rfl, hr⟩
  refine ⟨A, cap, rfl, fun h0 => ?_⟩
  obtain ⟨bb, off, rfl, hg⟩ := hr h0
  refine ⟨bb, off, rfl, fun j hj => ?_⟩
  exact (World.cell?_of_block (a := ⟨bb, off + j, none⟩) (h bb ⟨bb, rfl, rfl⟩)).trans (hg j hj)
theorem KpD.below {v : Value} {l : List Int} {w W W' : World} (hI : Ints w v l) (h' : Below w.heap.size w W') : KpD v l W W' := fun _ => IntsR.of (hI.below h')

abbrev In (l : List Int) := { x : Int // x ∈ l }

theorem att_len (l : List Int) : l.attach.length = l.length := List.length_attach
theorem att_take {l : List Int} {k : Nat} (h : k < l.length) : ∃ x : In l, x.1 = getI l k ∧ l.attach.take (k + 1) = l.attach.take k ++ [x] := by
  refine ⟨l.attach[k]'(by rw [att_len]; exact h), ?_, ?_⟩
  · rw [List.getElem_attach, getI_of l k h]
  · rw [List.take_add_one]
    simp [h]

set_option maxRecDepth 100000 in
set_option maxHeartbeats 2000000 in
theorem iter1_in (F : Fence) (n : Nat) (h7 : F.fn 112) (hro : F.round = none) (hn : 1 ≤ n) (lp Bs : Nat) (sv : Value) (l : List Int) (hlen : l.length ≤ 1000000) (J Jx : List (In l) → World → Prop)
    (hY : ∀ pre x W, J pre W → pre.length < l.length → YieldAt F (n - 1) Tryz.prog lp #[.int .i64 x.1] W fun e W' =>
      (e = .returned (.bool true) ∧ J (pre ++ [x]) W' ∧ KpD sv l W W') ∨ (e = .returned (.bool false) ∧ Jx (pre ++ [x]) W'))
    (W : World) (hBs : W.cell? ⟨Bs, 0, none⟩ = some sv) (hI : IntsR W sv l) (h0 : J [] W) :
    CallsIn F n Tryz.prog 112 #[.func (.yield lp) #[] #[], .pointer (some ⟨Bs, 0, none⟩)] W fun e W' => (∃ v, e = .returned v) ∧
      ((∃ ys, ys = l.attach ∧ J ys W') ∨ (∃ pre, pre <+: l.attach ∧ Jx pre W')) := by
  have HI := Lib.hid hI
  obtain ⟨A, cap, rfl, hcell⟩ := hI
  clear hcell
  refine callsIn_of_wp Tryz.func112 rfl h7 ?_ hro
  simp only [Tryz.ntmps112, List.size_toArray, List.length_cons, List.length_nil, Nat.reduceAdd, Nat.reduceSub, Array.replicate_succ, Array.replicate_zero, List.push_toArray, List.append_toArray, List.nil_append, List.cons_append]
  gi_wp2
  gi_loopw [7] (fun i wr => ∃ k : Nat, k ≤ l.length ∧ i = .int .i64 k ∧ J (l.attach.take k) wr ∧ Hid (IntsR wr (.slice A l.length cap) l))
    (fun i _ => l.length - (intOf i).toNat)
  case atStart => exact ⟨0, Nat.zero_le _, rfl, by rw [List.take_zero]; exact h0, HI⟩
  case round =>
    obtain ⟨k, hk, rfl, hJs, hnx⟩ := hrel
    rename_i wr
    by_cases hlt : k < l.length
    · obtain ⟨A', cap', e', hcell⟩ := hnx.out
      cases e'
      obtain ⟨b, off, rfl, hc⟩ := hcell (by omega)
      have hck := hc k hlt
      obtain ⟨x, hx, HT0⟩ := att_take hlt
      have HT := Lib.hid HT0
      obtain ⟨fn, tmps, assign, body, hy, hR⟩ := hY _ x wr hJs (by rw [List.length_take, att_len]; omega)
      have HP := Lib.hid (List.take_prefix (k + 1) l.attach)
      rw [← hx] at hck
      clear hc hcell HT0 hx
      gi_wp2
      refine hR.mono ?_
      rintro e W3 (⟨rfl, hJ3, hk3⟩ | ⟨rfl, hJx3⟩)
      · have HN := Lib.hid (hk3 hnx.out)
        gi_wp2
        go_roundw
        case rel => exact ⟨k + 1, by omega, by go_num, by rw [HT.out]; exact hJ3, HN⟩
        case measure => simp [intOf]; omega
      · gi_wp2
        refine bodyPost_ret (results_none rfl _ _ _) rfl ?_
        exact ⟨⟨_, rfl⟩, .inr ⟨_, HP.out, by rw [HT.out]; exact hJx3⟩⟩
    · obtain rfl : k = l.length := by omega
      have HT := Lib.hid (show l.attach.take l.length = l.attach by rw [← att_len, List.take_length])
      rw [HT.out] at hJs
      gi_wp2
      go_end0
      exact ⟨⟨_, rfl⟩, .inl ⟨_, rfl, hJs⟩⟩

theorem iter_stops (F : Fence) (n : Nat) (h7 : F.fn 112) (hro : F.round = none) (hn : 1 ≤ n) (Bs : Nat) (sv : Value) (l : List Int) (hlen : l.length ≤ 1000000) (w : World) (hBs : Bs < w.heap.size)
    (hc : w.cell? ⟨Bs, 0, none⟩ = some sv) (hI : Ints w sv l) :
    SeqStopsK F n Tryz.prog 112 #[.pointer (some ⟨Bs, 0, none⟩)] (fun x : In l => #[Value.int .i64 x.1]) (KpD sv l) (fun ys => ys = l.attach) (fun pre => pre <+: l.attach) l.length w := fun lp J Jx W hW _ _ hY h0 =>
  iter1_in F n h7 hro hn lp Bs sv l hlen J Jx hY W ((hW.cell (p := ⟨Bs, 0, none⟩) hBs).trans hc) (IntsR.of (hI.below hW)) h0

/-- Calls that only make memory of their own leave all other things as they were. -/
theorem keepsOthers_below {W W' : World} (h : Below W.heap.size W W') : KeepsOthers W W' := ⟨h.size, fun k _ ho _ => (h.block k (Array.getElem?_eq_some_iff.1 ho).1).trans ho⟩

end Go.Proofs.YtmbpmepoaonleaaGreat.Rt

/-! The program's Darts: the slice that it goes through is of the call's own; a body that writes a variable of its caller's. -/
namespace Go.Proofs.YtmbpmepoaonleaaGreat.Rt
open Go.Proofs.YtmbpmepoaonleaaGreat Go.RowKit Go.Maps Go.Sort Go.Shelf

set_option maxRecDepth 100000 in
set_option maxHeartbeats 2000000 in
theorem darts_row (b : Nat) (g : Gph) (p : Prt) (U : List (List Int)) (w : World) (h : Ro w b g p U) (hp : perr g p = 0) :
    Calls Tryz.prog 93 #[.pointer (some ⟨b, 0, none⟩)] w fun e w' => ∃ B sv, e = .returned (.func (.func 112) #[] #[.pointer (some ⟨B, 0, none⟩)]) ∧ w.heap.size ≤ B ∧ B < w'.heap.size ∧ w'.cell? ⟨B, 0, none⟩ = some sv ∧ Row w' w.heap.size sv (allD p) ∧ w.heap.size < B + 1 ∧ Below w.heap.size w w' := by
  obtain ⟨A, cap, mb, nn, D, c0, c1, hbl, hLL, hnn, ho, hD⟩ := (h.below (below_alloc (.cells #[.slice none 0 0] 25))).at_
  have hsz : (w.alloc (.cells #[.slice none 0 0] 25)).heap.size = w.heap.size + 1 := by simp
  have hbw : b < w.heap.size := by obtain ⟨_, _, _, _, _, _, _, h0, _⟩ := h.at_; exact h0
  have hB0 := below_alloc (w := w) (.cells #[.slice none 0 0] 25)
  have hnc := new_cell w (.slice none 0 0) 25
  have hnf := new_thaw w #[.slice none 0 0] 25 0
  have HK := Lib.hid (keys_any (some mb) (w.alloc (.cells #[.slice none 0 0] 25)))
  have hB1 := below_alloc (w := w.alloc (.cells #[.slice none 0 0] 25)) (.cells #[.map (some mb)] 101)
  have HSK := Lib.hid (sortedKeys_any mb nn (w.heap.size + 1) g p D (plF g U) placeR ((w.alloc (.cells #[.slice none 0 0] 25)).alloc (.cells #[.map (some mb)] 101)) (by simp) (by have := new_cell (w.alloc (.cells #[.slice none 0 0] 25)) (.map (some mb)) 101; rwa [hsz] at this) (ho.alloc _) hnn hp hD)
  have HB1 := Lib.hid hB1
  have HB0 := Lib.hid hB0
  have HNC := Lib.hid hnc
  have HNF := Lib.hid hnf
  have HSZ := Lib.hid hsz
  clear ho hD hLL h hB1 hB0 hnc hnf c0 hsz
  go_enter Tryz.func93, Tryz.ntmps93
  go_wp2_with fail
  refine HK.out.mono ?_
  rintro e w1 ⟨rfl, rfl⟩
  clear HK c1
  go_wp2_with fail
  refine HSK.out.mono ?_
  rintro e w2 ⟨v, rfl, hrow, hB2⟩
  have HB2 := Lib.hid (HB1.out.trans (hB2.mono HB1.out.size))
  have hlt : w.heap.size < (w.alloc (.cells #[.slice none 0 0] 25)).heap.size := by rw [HSZ.out]; omega
  have hc2 := (HB2.out.cell (p := ⟨w.heap.size, 0, none⟩) hlt).trans HNC.out
  have hf2 := (HB2.out.frozen (p := ⟨w.heap.size, 0, none⟩) hlt).trans HNF.out
  obtain ⟨Av, cv, rfl⟩ := ints_form (Row.ints hrow)
  have hwl : w.heap.size < w2.heap.size := Nat.lt_of_lt_of_le hlt HB2.out.size
  have HR := Lib.hid hrow
  have HBF := Lib.hid ((HB0.out.trans (HB2.out.mono (by rw [HSZ.out]; omega))).setCell (p := ⟨w.heap.size, 0, none⟩) (Nat.le_refl _) (.slice Av (allD p).length cv))
  have HCC := Lib.hid (World.cell?_setCell_same w2 ⟨w.heap.size, 0, none⟩ (.slice Av (allD p).length cv) hc2)
  have HII := Lib.hid (show Row (w2.setCell ⟨w.heap.size, 0, none⟩ (.slice Av (allD p).length cv)) w.heap.size (.slice Av (allD p).length cv) (allD p) from
    Row.le (own_block hrow (fun k hk => Below.heap_setCell _ _ _ _ (fun e => by
      have h1 := (World.ownsRow.lt hrow k hk).1
      simp only [World.size_alloc] at h1
      simp only at e
      omega))) (by simp only [World.size_alloc]; omega))
  have HLT := Lib.hid (show w.heap.size < (w2.setCell ⟨w.heap.size, 0, none⟩ (.slice Av (allD p).length cv)).heap.size by simpa [World.setCell] using hwl)
  clear hrow hB2 HSK HB1 hlt
  go_wp2
  go_ret
  exact ⟨_, _, rfl, Nat.le_refl _, HLT.out, HCC.out, HII.out, Nat.lt_succ_self _, HBF.out⟩

/-- One block beside the slice's own has been written, new ones made. -/
theorem KpD.beside {sv : Value} {l : List Int} {W W' : World} {nb : Nat} (hne : sv.ownBlock ≠ some nb) (h : ∀ k, k < W.heap.size → k ≠ nb → W'.heap[k]? = W.heap[k]?) : KpD sv l W W' := by
  rintro ⟨A, cap, rfl, hr⟩
  refine ⟨A, cap, rfl, fun h0 => ?_⟩
  obtain ⟨bb, off, rfl, hg⟩ := hr h0
  refine ⟨bb, off, rfl, fun j hj => ?_⟩
  have h1 := World.block_lt_of_cell? W _ (hg j hj)
  exact (World.cell?_of_block (a := ⟨bb, off + j, none⟩) (h bb h1 (fun e => hne (by rw [← e]; rfl)))).trans (hg j hj)

end Go.Proofs.YtmbpmepoaonleaaGreat.Rt
