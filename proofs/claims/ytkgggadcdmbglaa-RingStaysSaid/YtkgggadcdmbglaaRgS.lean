/-
  The program's Right: sorted, each number once, as many as there were.
-/
import Derived.Test.YtkgggadcdmbglaaRgR
import Derived.Shelf.SortM.Plain
import Derived.Shelf.SortM.SortNone
import Derived.Shelf.SlicesG.CompactI
import Derived.Lib.SlKeysI
namespace Go.Proofs.Ytkgggadcdmbglaa
open Go.RowKit Go.Shelf Go.Sort

/-! ### Sorted lists -/

theorem steps_lt (s : List Int) (h : ∀ j, 0 < j → j < s.length → getI s (j - 1) < getI s j) : ∀ i j, i < j → j < s.length → getI s i < getI s j
  | i, 0, hij, _ => absurd hij (Nat.not_lt_zero _)
  | i, j + 1, hij, hj => by
    have h1 := h (j + 1) (by omega) hj
    rw [Nat.add_sub_cancel] at h1
    by_cases e : i = j
    · rw [e]; exact h1
    · have := steps_lt s h i j (by omega) (by omega); omega

theorem compact_nodup (s : List Int) (hs : ∀ i j, i < j → j < s.length → getI s i ≤ getI s j) : (Lib.compact s).length = s.length ↔ s.Nodup := by
  have hk : ∀ j, j < s.length → (Lib.keeps s.toArray j = true ↔ (j = 0 ∨ getI s j ≠ getI s (j - 1))) := by
    intro j hj
    have e1 : s.toArray[j]! = getI s j := by rw [getI_of s j hj]; simp [hj]
    have e2 : s.toArray[j - 1]! = getI s (j - 1) := by rw [getI_of s (j - 1) (by omega)]; simp [show j - 1 < s.length by omega]
    unfold Lib.keeps
    rw [e1, e2, decide_eq_true_iff]
  have hall : (Lib.compact s).length = s.length ↔ ∀ j, j < s.length → Lib.keeps s.toArray j = true := by
    unfold Lib.compact Lib.compactUpTo
    rw [List.length_map]
    have := @List.length_filter_eq_length_iff _ (Lib.keeps s.toArray) (List.range s.length)
    rw [List.length_range] at this
    rw [this]
    simp only [List.mem_range]
  rw [hall]
  constructor
  · intro h
    refine (nodup_getI s).2 fun i j hij hj => ?_
    have := steps_lt s (fun k h0 hk' => by
      have h1 := (hk k hk').1 (h k hk')
      have h2 := hs (k - 1) k (by omega) hk'
      rcases h1 with h1 | h1
      · omega
      · omega) i j hij hj
    omega
  · intro h j hj
    refine (hk j hj).2 ?_
    by_cases h0 : j = 0
    · exact .inl h0
    · exact .inr fun e => (nodup_getI s).1 h (j - 1) j (by omega) hj e.symm

/-- A list, sorted. -/
def sortL (l : List Int) : List Int := l.mergeSort fun x y => decide (x ≤ y)

theorem sortL_length (l : List Int) : (sortL l).length = l.length := List.length_mergeSort l
theorem sortL_le (l : List Int) : ∀ i j, i < j → j < (sortL l).length → getI (sortL l) i ≤ getI (sortL l) j := by
  intro i j hij hj
  have h := List.pairwise_mergeSort (le := fun x y : Int => decide (x ≤ y)) (fun a b c h1 h2 => by simp at *; omega) (fun a b => by simp; omega) l
  have := (List.pairwise_iff_getElem.1 h) i j (show i < (sortL l).length by omega) hj hij
  rw [getI_of _ i (by omega), getI_of _ j hj]
  exact of_decide_eq_true this
theorem sortL_nodup (l : List Int) : (Lib.compact (sortL l)).length = l.length ↔ l.Nodup := by
  rw [← sortL_length l, compact_nodup _ (sortL_le l)]
  exact (List.mergeSort_perm l _).nodup_iff

/-! ### The library's calls -/

set_option maxRecDepth 100000 in
set_option maxHeartbeats 1000000 in
theorem collect_in (F : Fence) (n : Nat) (h2 : F.fn 42) (h3 : F.fn 46) (h5 : F.fn 44) (hro : F.round = none) (hn : 4 ≤ n) (Bs : Nat) (sv : Value) (l : List Int) (hlen : l.length ≤ 1000000) (w : World) (hBs : Bs < w.heap.size)
    (hc : w.cell? ⟨Bs, 0, none⟩ = some sv) (hI : IntsB w.heap.size w sv l) :
    CallsIn F n Try.prog 42 #[.func (.func 44) #[] #[.pointer (some ⟨Bs, 0, none⟩)]] w fun e W' => ∃ v, e = .returned v ∧ W'.ownsRow w.heap.size 3 1 v l.length (l.map (Value.int .i64)) ∧ Below w.heap.size w W' := by
  have h1 : 1 ≤ n := by omega
  have HI := Lib.hid hI
  have HA := Lib.hid (appendSeq_in F (n - 1) h3 h5 hro (by omega) Bs sv l hlen w hBs hc hI)
  clear hI
  refine callsIn_of_wp Try.func42 rfl h2 ?_ hro
  simp only [Try.ntmps42, List.size_toArray, List.length_cons, List.length_nil, Nat.reduceAdd, Nat.reduceSub, Array.replicate_succ, Array.replicate_zero, List.push_toArray, List.append_toArray, List.nil_append, List.cons_append]
  gi_wp2_with (gi_at_call 46; refine HA.out.mono ?_; rintro e w' ⟨v, rfl, hown, hB⟩)
  go_ret
  exact ⟨_, rfl, hown, hB⟩

theorem collect_any (Bs : Nat) (sv : Value) (l : List Int) (hlen : l.length ≤ 1000000) (w : World) (hBs : Bs < w.heap.size)
    (hc : w.cell? ⟨Bs, 0, none⟩ = some sv) (hI : IntsB w.heap.size w sv l) :
    Calls Try.prog 42 #[.func (.func 44) #[] #[.pointer (some ⟨Bs, 0, none⟩)]] w fun e W' => ∃ v, e = .returned v ∧ W'.ownsRow w.heap.size 3 1 v l.length (l.map (Value.int .i64)) ∧ Below w.heap.size w W' :=
  (callsIn_wide (n := 6)).1 (collect_in Fence.wide 6 trivial trivial trivial rfl (by omega) Bs sv l hlen w hBs hc hI)

set_option maxRecDepth 100000 in
set_option maxHeartbeats 1000000 in
theorem sorted_any (Bs : Nat) (sv : Value) (l : List Int) (hlen : l.length ≤ 1000000) (w : World) (hBs : Bs < w.heap.size)
    (hc : w.cell? ⟨Bs, 0, none⟩ = some sv) (hI : IntsB w.heap.size w sv l) :
    Calls Try.prog 36 #[.func (.func 44) #[] #[.pointer (some ⟨Bs, 0, none⟩)]] w fun e W' => ∃ v, e = .returned v ∧ W'.ownsRow w.heap.size 3 1 v l.length ((sortL l).map (Value.int .i64)) ∧ Below w.heap.size w W' := by
  have HA := Lib.hid (collect_any Bs sv l hlen w hBs hc hI)
  clear hI hc
  go_enter Try.func36, Try.ntmps36
  go_wp2_with fail
  refine HA.out.mono ?_
  rintro e w1 ⟨v, rfl, hown, hB⟩
  have HO := Lib.hid hown
  rcases hown.2 with ⟨rfl, hz⟩ | ⟨g, cap, cur, rfl, hbase, hg, r1, r2, r3, r4⟩
  · have e : l = [] := List.eq_nil_of_length_eq_zero hz
    subst e
    clear hown hz HA
    have hcon := AnyM.slices_Sort_int_none Try.laysSort none 0 w1
    change Calls Try.prog 43 _ _ _ at hcon
    have HC := Lib.hid hcon
    clear hcon
    go_wp2_with fail
    refine HC.out.mono ?_
    rintro e w' ⟨rfl, rfl⟩
    go_wp2
    go_ret
    have es : sortL [] = [] := by simp [sortL]
    exact ⟨_, rfl, by rw [es]; exact HO.out, hB⟩
  · have hH : Holds encZ w1 g 0 l.toArray := holds_of_block_i hg (by simpa using r4)
    have hgl : g < w1.heap.size := (Array.getElem?_eq_some_iff.1 hg).1
    have hcon := AnyM.slices_Sort_int Try.laysSort g 0 cap l w1 hH hgl (by omega)
    change Calls Try.prog 43 _ _ _ at hcon
    have HC := Lib.hid hcon
    have HS := Lib.hid (fun (n : Nat) (os : Array Obj) => ownsRow_sorted_i (n := n) (os := os) (ts := sortL l) (sortL_length l) hbase hg r1 r2 r3)
    clear hcon hH hown r4 hg HA
    go_wp2_with fail
    refine HC.out.mono ?_
    rintro e w' ⟨rfl, n, os, rfl⟩
    have HB := Lib.hid (hB.grown (grownBy_sorted_i (w := w1) (g := g) (n := n) (os := os) (sortL l).toArray) hB.size (fun j hj => by cases hj; exact hbase))
    have HS2 := Lib.hid (HS.out n os)
    change Hid (Below _ _ (grow (putRow (Value.int .i64) (Sort.ahead w1 n) g 0 (sortL l).toArray) os)) at HB
    change Hid (World.ownsRow (grow (putRow (Value.int .i64) (Sort.ahead w1 n) g 0 (sortL l).toArray) os) _ _ _ _ _ _) at HS2
    unfold sortL at HB HS2
    generalize grow (putRow (Value.int .i64) (Sort.ahead w1 n) g 0 (l.mergeSort fun x y => decide (x ≤ y)).toArray) os = w2 at *
    go_wp2
    go_ret
    exact ⟨_, rfl, HS2.out, HB.out⟩

set_option maxHeartbeats 1000000 in
theorem values_any (v : Value) (l : List Int) (w : World) (h : Ints w v l) :
    Calls Try.prog 37 #[v] w fun e w' => e = .returned (.func (.func 44) #[] #[.pointer (some ⟨w.heap.size, 0, none⟩)]) ∧ w' = w.alloc (.cells #[v] 22) := by
  obtain ⟨A, cap, rfl, _, _, hcell⟩ := h
  clear hcell
  go_enter Try.func37, Try.ntmps37
  go_wp2
  go_ret
  exact ⟨rfl, rfl⟩

/-- slices.Compact of a slice of the call's own: as many numbers are left as the mathematics says. -/
theorem compact_any (base : Nat) (v : Value) (l : List Int) (w : World) (h : w.ownsRow base 3 1 v l.length (l.map (Value.int .i64))) (hb : base ≤ w.heap.size) (hl : l.length ≤ 1000000) :
    Calls Try.prog 38 #[v] w fun e w' => ∃ A cap, e = .returned (.slice A (Lib.compact l).length cap) ∧ Below base w w' := by
  rcases h.2 with ⟨rfl, hz⟩ | ⟨g, cap, cur, rfl, hbase, hg, r1, r2, r3, r4⟩
  · have e : l = [] := List.eq_nil_of_length_eq_zero hz
    subst e
    have hcon := AnyG.slices_Compact_int_empty Try.laysCompact none 0 w
    change Calls Try.prog 38 _ _ _ at hcon
    exact hcon.mono fun e w' h => ⟨none, 0, h.1, by rw [h.2]; exact Below.refl _ _⟩
  · have hH : Holds encZ w g 0 l.toArray := holds_of_block_i hg (by simpa using r4)
    have hcon := AnyG.slices_Compact_int Try.laysCompact g 0 cap l w hH (by omega) r1
    change Calls Try.prog 38 _ _ _ at hcon
    refine hcon.mono ?_
    rintro e w' ⟨rfl, q, rfl⟩
    refine ⟨_, _, rfl, ?_⟩
    have hgr := grownBy_sorted_i (w := w) (g := g) (n := q) (os := #[]) (Lib.compact l ++ List.replicate (l.length - (Lib.compact l).length) 0).toArray
    have := (Below.refl base w).grown hgr hb (fun j hj => by cases hj; exact hbase)
    exact ⟨this.os, this.tape, this.output, by simp, fun k hk => by have h2 := this.block k hk; simpa [grow] using h2⟩

set_option maxRecDepth 100000 in
set_option maxHeartbeats 1000000 in
theorem right_any (v : Value) (l : List Int) (w : World) (h : Ints w v l) (hl : l.length ≤ 1000000) :
    Calls Try.prog 15 #[v] w fun e w' => e = .returned (.bool (nodupB l)) ∧ Below w.heap.size w w' := by
  have HV := Lib.hid (values_any v l w h)
  have hB0 : Below w.heap.size w (w.alloc (.cells #[v] 22)) := (Below.refl _ w).alloc (Nat.le_refl _) _
  have hI0 := (IntsB.of (h.below hB0))
  have HSo := Lib.hid (sorted_any w.heap.size v l hl (w.alloc (.cells #[v] 22)) (by simp) (new_cell w v 22) hI0)
  have hsl := sortL_length l
  have HSL := Lib.hid hsl
  have HSN := Lib.hid (sortL_nodup l)
  obtain ⟨A, cap, rfl, hcap, hm, hcell⟩ := h
  clear hcell hI0
  have HB0 := Lib.hid hB0
  clear hB0 hsl
  go_enter Try.func15, Try.ntmps15
  go_wp2_with fail
  refine HV.out.mono ?_
  rintro e w' ⟨rfl, rfl⟩
  go_wp2_with fail
  refine HSo.out.mono ?_
  rintro e w2 ⟨u, rfl, hown, hB2⟩
  have hown' : w2.ownsRow (w.alloc (.cells #[.slice A l.length cap] 22)).heap.size 3 1 u (sortL l).length ((sortL l).map (Value.int .i64)) := by rw [HSL.out]; exact hown
  have hB3 := HB0.out.trans (hB2.mono (by simp))
  have HC := Lib.hid (compact_any _ u (sortL l) w2 hown' hB2.size (by rw [HSL.out]; exact hl))
  clear hown hown'
  go_wp2_with fail
  refine HC.out.mono ?_
  rintro e w3 ⟨A', cap', rfl, hB4⟩
  have hB5 := hB3.trans (hB4.mono (by simp))
  by_cases hn : l.Nodup
  · have HF := Lib.hid (nodupB_true hn)
    have he : (((Lib.compact (sortL l)).length : Int) == (l.length : Int)) = true := beq_iff_eq.2 (by rw [HSN.out.2 hn])
    clear hn
    go_wp2
    go_ret
    exact ⟨ret_bool HF.out.symm, hB5⟩
  · have HF := Lib.hid (nodupB_false hn)
    have he : (((Lib.compact (sortL l)).length : Int) == (l.length : Int)) = false := beq_eq_false_iff_ne.2 (fun e => hn (HSN.out.1 (by omega)))
    clear hn
    go_wp2
    go_ret
    exact ⟨ret_bool HF.out.symm, hB5⟩

end Go.Proofs.Ytkgggadcdmbglaa
