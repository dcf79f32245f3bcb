/-
  slices.Concat and the program's Put.
-/
import Derived.Test.YtkgggadcdmbglaaRgP
import Derived.Deep.DrawnRows
namespace Go.Proofs.Ytkgggadcdmbglaa
open Go.RowKit Go.Shelf

set_option maxRecDepth 100000 in
set_option maxHeartbeats 2000000 in
theorem concat_any (b : Nat) (vs : List (Value × List Int)) (w : World) (hc : ∀ j x, vs[j]? = some x → w.cell? ⟨b, j, none⟩ = some x.1) (hb : b < w.heap.size) (hI : ∀ x ∈ vs, Ints w x.1 x.2) (hn : vs.length ≤ 1000) (hlen : (allOf vs).length ≤ 1000000) :
    Calls Try.prog 40 #[.slice (some ⟨b, 0, none⟩) vs.length vs.length] w fun e w' => ∃ u, e = .returned u ∧ w'.ownsRow w.heap.size 3 1 u (allOf vs).length ((allOf vs).map (Value.int .i64)) ∧ Below w.heap.size w w' := by
  obtain ⟨i0, hi, hz0, hz1, hz2⟩ := info_parts Try.infoInt
  have HC := Lib.hid hc
  have HI := Lib.hid hI
  clear hc hI
  go_enter Try.func40, Try.ntmps40
  go_wp2
  go_loop [3, 11] (fun z i => ∃ k : Nat, k ≤ vs.length ∧ i = .int .i64 k ∧ z = .int .i64 ((allOf (vs.take k)).length : Nat)) (fun _ i => vs.length - (intOf i).toNat)
  case atStart => exact ⟨0, Nat.zero_le _, rfl, by simp [allOf]⟩
  case round =>
    obtain ⟨k, hk, rfl, rfl⟩ := hrel
    by_cases hlt : k < vs.length
    · obtain ⟨⟨v, l⟩, hx⟩ : ∃ x, vs[k]? = some x := ⟨vs[k], by simp [hlt]⟩
      have hck := HC.out k _ hx
      obtain ⟨A, cap, hv, hcap, hm, _⟩ := HI.out _ (List.mem_of_getElem? hx)
      simp only at hck hv hcap
      subst hv
      have hle := allOf_le vs (k + 1)
      have HS := Lib.hid (allOf_snoc vs k _ hx)
      rw [HS.out, List.length_append] at hle
      simp only at hle
      have HS2 := Lib.hid (show ((allOf (vs.take (k + 1))).length : Nat) = (allOf (vs.take k)).length + l.length by rw [HS.out, List.length_append])
      clear hx HS
      generalize (allOf (vs.take k)).length = z at *
      go_wp2
      go_round
      case rel => exact ⟨k + 1, by omega, by go_num, by rw [HS2.out]; go_num⟩
      case measure => simp [intOf]; omega
    · obtain rfl : k = vs.length := by omega
      have HT := Lib.hid (List.take_length (l := vs))
      rw [HT.out]
      go_wp2_with fail
      refine (grow_any (allOf vs).length w hlen).mono ?_
      rintro e w1 ⟨u, rfl, hown1, hB1⟩
      go_wp2
      go_loopw [6, 27] (fun o i wr => ∃ k : Nat, k ≤ vs.length ∧ i = .int .i64 k ∧ wr.ownsRow w.heap.size 3 1 o (allOf (vs.take k)).length ((allOf (vs.take k)).map (Value.int .i64)) ∧ Below w.heap.size w wr) (fun _ i _ => vs.length - (intOf i).toNat)
      case atStart => exact ⟨0, Nat.zero_le _, rfl, by simpa [allOf] using hown1, hB1⟩
      case round =>
        obtain ⟨k, hk, rfl, hown, hB⟩ := hrel
        rename_i wr
        by_cases hlt : k < vs.length
        · obtain ⟨⟨v, l⟩, hx⟩ : ∃ x, vs[k]? = some x := ⟨vs[k], by simp [hlt]⟩
          have hck := (hB.cell (p := ⟨b, k, none⟩) hb).trans (HC.out k _ hx)
          have hIk := Lib.hid ((HI.out _ (List.mem_of_getElem? hx)).below hB)
          have hle := allOf_le vs (k + 1)
          have HS := Lib.hid (allOf_snoc vs k _ hx)
          rw [HS.out, List.length_append] at hle
          simp only at hck hle
          clear hx
          obtain ⟨A, cap, hv, hcap, hm, _⟩ := hIk.out
          simp only at hv
          subst hv
          go_wp2_with (at_builtin; refine wpList_append_ints rfl _ _ 22 rfl w.heap.size 3 i0 Try.underlying22 hi hz0 hz1 hz2 _ _ _ rfl hown _ l rfl hIk.out (by omega) hB.size ?_)
          intro v' w2 hown2 hB2
          go_wp2
          go_roundw
          case rel => exact ⟨k + 1, by omega, by go_num, by rw [HS.out, List.map_append, List.length_append]; exact hown2, hB.trans hB2⟩
          case measure => simp [intOf]; omega
        · obtain rfl : k = vs.length := by omega
          rw [HT.out] at hown
          go_wp2
          go_ret
          exact ⟨_, rfl, hown, hB⟩

theorem concat3 (w : World) (v1 v2 v3 : Value) (l1 l2 l3 : List Int) (h1 : Ints w v1 l1) (h2 : Ints w v2 l2) (h3 : Ints w v3 l3) (hlen : (l1 ++ (l2 ++ l3)).length ≤ 1000000) :
    Calls Try.prog 40 #[.slice (some ⟨w.heap.size, 0, none⟩) 3 3] (w.alloc (.cells #[v1, v2, v3] 22)) fun e w' =>
      ∃ u, e = .returned u ∧ Ints w' u (l1 ++ (l2 ++ l3)) ∧ Below w.heap.size w w' := by
  have hB : Below w.heap.size w (w.alloc (.cells #[v1, v2, v3] 22)) := below_alloc _
  have ha : allOf [(v1, l1), (v2, l2), (v3, l3)] = l1 ++ (l2 ++ l3) := by simp [allOf]
  have h := concat_any w.heap.size [(v1, l1), (v2, l2), (v3, l3)] (w.alloc (.cells #[v1, v2, v3] 22)) ?_ (by simp) ?_ (by simp) (by rw [ha]; exact hlen)
  · refine h.mono ?_
    rintro e w' ⟨u, rfl, hown, hB'⟩
    rw [ha] at hown
    exact ⟨u, rfl, Ints.of_own hown, trans2 hB hB'⟩
  · intro j x hx
    refine (cell_of_row _ _ _ #[v1, v2, v3] 22 (0, 0) (heap_alloc_new w _)).trans ?_
    match j, hx with
    | 0, hx => (simp at hx; subst hx; rfl)
    | 1, hx => (simp at hx; subst hx; rfl)
    | 2, hx => (simp at hx; subst hx; rfl)
    | j + 3, hx => simp at hx
  · intro x hx
    simp at hx
    rcases hx with rfl | rfl | rfl
    · exact h1.below hB
    · exact h2.below hB
    · exact h3.below hB

theorem Ints.behind {w : World} {b off cap : Nat} {l : List Int} (h : Ints w (.slice (some ⟨b, off, none⟩) l.length cap) l) (k : Nat) (hk : k ≤ l.length) :
    Ints w (.slice (if cap = k then some ⟨b, off, none⟩ else some ⟨b, off + k, none⟩) (l.length - k) (cap - k)) (l.drop k) := by
  obtain ⟨A', cap', e, hc, hm, hr⟩ := h
  obtain ⟨rfl, _, rfl⟩ := Value.slice.inj e
  have hl : (l.drop k).length = l.length - k := by simp
  refine ⟨_, _, by rw [hl], by omega, by omega, fun h0 => ?_⟩
  rw [hl] at h0
  obtain ⟨b', off', hA, hlt, hg⟩ := hr (by omega)
  simp only [Option.some.injEq, Addr.mk.injEq, and_true] at hA
  obtain ⟨rfl, rfl⟩ := hA
  refine ⟨b, off + k, if_neg (by omega), hlt, fun j hj => ?_⟩
  rw [hl] at hj
  rw [getI_drop, Nat.add_assoc]
  exact hg (k + j) (by omega)

theorem below_drew (w : World) : Below w.heap.size w w.drew := (Below.refl _ w).drew

set_option maxRecDepth 100000 in
set_option maxHeartbeats 2000000 in
theorem put_any (v : Value) (l : List Int) (x : Int) (u : Value) (m : List Int) (w : World) (h : Ints w v l) (h' : Ints w u m) (hl : l.length ≤ 100000) (hm : m.length ≤ 100000) :
    (∀ k : Nat, k < l.length → Lib.idxOf l x = (k : Int) →
      Calls Try.prog 26 #[v, .int .i64 x, u] w fun e w' => ∃ r, e = .returned (.tuple #[r, .bool true]) ∧ Ints w' r (l.take k ++ (m ++ l.drop (k + 1))) ∧ Below w.heap.size w w') ∧
    (Lib.idxOf l x = -1 → Calls Try.prog 26 #[v, .int .i64 x, u] w fun e w' => e = .returned (.tuple #[.slice none 0 0, .bool false]) ∧ w = w') := by
  have HI := Lib.hid h
  have HI2 := Lib.hid h'
  obtain ⟨A, cap, rfl, hcap, hmx, hcell⟩ := h
  obtain ⟨A2, cap2, rfl, _, _, hcell2⟩ := h'
  unfold maxLen at hmx
  clear hcell2
  constructor
  · intro k hk e
    have HE := Lib.hid e
    obtain ⟨b, off, rfl, hb0, hb1⟩ := hcell (by omega)
    clear hb0 hb1
    have hC := concat3 w.drew _ _ _ (l.take k) m (l.drop (k + 1)) ((HI.out.cut k (by omega)).below (below_drew w)) (HI2.out.below (below_drew w)) ((HI.out.behind (k + 1) (by omega)).below (below_drew w)) (by simp; omega)
    obtain ⟨A', hA'⟩ : ∃ A', (if cap = k + 1 then some (⟨b, off, none⟩ : Addr) else some ⟨b, off + (k + 1), none⟩) = some A' := by split <;> exact ⟨_, rfl⟩
    rw [hA'] at hC
    have HCO := Lib.hid hC
    have hwr : IntKind.i64.wrap ((k : Int) + 1) = (k : Int) + 1 := by rw [IntKind.wrap_i64]; omega
    have hp0 : (0 : Int) ≤ (k : Int) + 1 := by omega
    have hp1 : (k : Int) + 1 ≤ (l.length : Int) := by omega
    have hp2 : ((k : Int) + 1).toNat = k + 1 := by omega
    have hp3 : (0 : Int) ≤ (k : Int) := by omega
    have hp4 : (k : Int) ≤ (cap : Int) := by omega
    have hp5 : (k : Int) + 1 ≤ (cap : Int) := by omega
    clear e hC hcell
    go_enter Try.func26, Try.ntmps26
    go_wp2_with fail
    refine (index_any _ l _ _ HI.out (by omega)).mono ?_
    rintro e w' ⟨rfl, rfl⟩
    rw [HE.out]
    go_wp2_with fail
    go_region_with (first | (go_at_call 40; refine HCO.out.mono ?_; rintro e w2 ⟨r, rfl, hr, hB⟩))
    all_goals
      go_wp2
      go_ret2
      exact ⟨_, rfl, hr, trans2 (below_drew w) hB⟩
  · intro e
    have HE := Lib.hid e
    clear e hcell
    go_enter Try.func26, Try.ntmps26
    go_wp2_with fail
    refine (index_any _ l _ _ HI.out (by omega)).mono ?_
    rintro e w' ⟨rfl, rfl⟩
    rw [HE.out]
    go_wp2
    go_ret2
    exact ⟨rfl, rfl⟩

end Go.Proofs.Ytkgggadcdmbglaa
