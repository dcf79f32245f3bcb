/-
  The program's Same and About.
-/
import Derived.Test.YtkgggadcdmbglaaRgW
import Derived.Shelf.SlicesG.Clone
import Derived.Shelf.SlicesG.Reverse
namespace Go.Proofs.Ytkgggadcdmbglaa
open Go.RowKit Go.Shelf Go.Sort

/-- None of a list's first beginnings is a least one of both. -/
def Passed (a b : List Int) (i : Nat) : Prop := ∀ s, s < i → ∃ p, Less a.length (from_ b p) (from_ a s)
/-- Both lists are one for so many places. -/
def Along (a b : List Int) (i j k : Nat) : Prop := ∀ t, t < k → from_ a i t = from_ b j t

theorem Passed.step {a b : List Int} {i : Nat} (h : Passed a b i) (hl : a.length = b.length) (j k : Nat) (hk : k < a.length) (hp : Along a b i j k) (hg : from_ b j k < from_ a i k) : Passed a b (i + k + 1) := by
  intro s hs
  by_cases h1 : s < i
  · exact h s h1
  · obtain ⟨t, rfl⟩ : ∃ t, s = i + t := ⟨s - i, by omega⟩
    exact ⟨j + t, greater_from a b hl i j k hk hp hg t (by omega)⟩
theorem Along.symm {a b : List Int} {i j k : Nat} (h : Along a b i j k) : Along b a j i k := fun t ht => (h t ht).symm
theorem Along.step {a b : List Int} {i j k : Nat} (h : Along a b i j k) (he : from_ a i k = from_ b j k) : Along a b i j (k + 1) := fun t ht => by
  by_cases e : t = k
  · rw [e]; exact he
  · exact h t (by omega)
theorem along_zero (a b : List Int) (i j : Nat) : Along a b i j 0 := fun _ ht => absurd ht (Nat.not_lt_zero _)

theorem ring_of_along {a b : List Int} (hl : a.length = b.length) {i j : Nat} (h : Along a b i j a.length) : ring1B a b = true := by
  refine ring1B_true ?_
  by_cases h0 : a.length = 0
  · have e1 : a = [] := List.length_eq_zero_iff.1 h0
    have e2 : b = [] := List.length_eq_zero_iff.1 (by omega)
    rw [e1, e2]; exact Ring1.refl []
  · exact one_of_all a b hl (by omega) i j h
theorem apart_of_passed {a b : List Int} {i : Nat} (h : Passed a b i) (h0 : 0 < a.length) (hi : a.length ≤ i) : ring1B a b = false :=
  ring1B_false (apart_of_less a b h0 fun s hs => h s (by omega))
theorem apart_of_passed' {a b : List Int} {j : Nat} (h : Passed b a j) (h0 : 0 < b.length) (hj : b.length ≤ j) : ring1B a b = false :=
  ring1B_false fun hr => apart_of_less b a h0 (fun s hs => h s (by omega)) hr.symm

theorem from_eq (a : List Int) (i k : Nat) : from_ a i k = getI a ((i + k) % a.length) := rfl

set_option maxRecDepth 100000 in
set_option maxHeartbeats 2000000 in
theorem same_any (v : Value) (l : List Int) (u : Value) (m : List Int) (w : World) (h : Ints w v l) (h' : Ints w u m) (hl : l.length ≤ 1000000) :
    Calls Try.prog 11 #[v, u] w fun e w' => e = .returned (.bool (ring1B l m)) ∧ ∃ n, w' = w.drewN n := by
  obtain ⟨A, cap, rfl, hcap, _, hcell⟩ := h
  obtain ⟨A', cap', rfl, hcap', hm', hcell'⟩ := h'
  unfold maxLen at hm'
  by_cases hlen : l.length = m.length
  case neg =>
    have HF := Lib.hid (ring1B_false (a := l) (b := m) (fun h => hlen h.1))
    have hne' : ((l.length : Int) != (m.length : Int)) = true := by simp; omega
    clear hlen
    go_enter Try.func11, Try.ntmps11
    go_wp2
    go_ret
    exact ⟨ret_bool HF.out.symm, 0, rfl⟩
  have HL := Lib.hid hlen
  have hne' : ((l.length : Int) != (m.length : Int)) = false := by simp; omega
  have hle : l.length ≤ m.length := by omega
  clear hlen
  go_enter Try.func11, Try.ntmps11
  go_wp2
  go_loopw [6, 7, 8] (fun si sj sk wr => ∃ i j k n : Nat, i ≤ 2 * l.length ∧ j ≤ 2 * l.length ∧ k ≤ l.length ∧ si = .int .i64 i ∧ sj = .int .i64 j ∧ sk = .int .i64 k ∧ wr = w.drewN n ∧
      Hid (Passed l m i) ∧ Hid (Passed m l j) ∧ Hid (Along l m i j k))
    (fun si sj sk _ => 6 * l.length - ((intOf si).toNat + (intOf sj).toNat + (intOf sk).toNat))
  case atStart => exact ⟨0, 0, 0, 0, by omega, by omega, by omega, rfl, rfl, rfl, rfl, Lib.hid (fun s hs => absurd hs (Nat.not_lt_zero _)), Lib.hid (fun s hs => absurd hs (Nat.not_lt_zero _)), Lib.hid (along_zero _ _ _ _)⟩
  case round =>
    obtain ⟨i, j, k, n, hi, hj, hk, rfl, rfl, rfl, rfl, HPA, HPB, HAL⟩ := hrel
    by_cases hgo : i < l.length ∧ j < l.length ∧ k < l.length
    · obtain ⟨hi', hj', hk'⟩ := hgo
      obtain ⟨b, off, rfl, hb, hc⟩ := hcell (by omega)
      obtain ⟨b', off', rfl, hb', hc'⟩ := hcell' (by omega)
      have h0 : 0 < l.length := by omega
      have hml := Nat.mod_lt (i + k) h0
      have hml' := Nat.mod_lt (j + k) h0
      have hmn := mod_nat i k l.length
      have hmn' := mod_nat j k l.length
      have hck := hc _ hml
      have hck' := hc' ((j + k) % l.length) (by omega)
      have hm1 : 0 ≤ ((i : Int) + (k : Int)) % (l.length : Int) := Int.emod_nonneg _ (by omega)
      have hm2 : ((i : Int) + (k : Int)) % (l.length : Int) < (l.length : Int) := by omega
      have hm3 : 0 ≤ ((j : Int) + (k : Int)) % (l.length : Int) := Int.emod_nonneg _ (by omega)
      have hm4 : ((j : Int) + (k : Int)) % (l.length : Int) < (m.length : Int) := by omega
      have HX := Lib.hid (from_eq l i k)
      have HY := Lib.hid (show from_ m j k = getI m ((j + k) % l.length) by rw [from_eq, HL.out])
      clear hmn hmn' hml hml' hc hc' hcell hcell'
      generalize getI l ((i + k) % l.length) = X at *
      generalize getI m ((j + k) % l.length) = Y at *
      rcases Int.lt_trichotomy X Y with hxy | hxy | hxy
      · have e1 : decide (Y < X) = false := by simp; omega
        have e2 : decide (X < Y) = true := by simp; omega
        have HS := Lib.hid (HPB.out.step HL.out.symm i k (by rw [← HL.out]; exact hk') HAL.out.symm (by rw [HX.out, HY.out]; exact hxy))
        clear hxy
        go_wp2_with fail
        go_quiet (fail)
        go_wp2
        go_roundw
        case rel => exact ⟨i, j + k + 1, 0, _, by omega, by omega, by omega, rfl, by go_num, rfl, rfl, HPA, HS, Lib.hid (along_zero _ _ _ _)⟩
        case measure => simp [intOf]; omega
      · have e1 : decide (Y < X) = false := by simp; omega
        have e2 : decide (X < Y) = false := by simp; omega
        have HS := Lib.hid (HAL.out.step (by rw [HX.out, HY.out]; exact hxy))
        have HXY := Lib.hid hxy
        clear hxy
        go_wp2_with fail
        go_quiet (fail)
        go_wp2
        go_roundw
        case rel => exact ⟨i, j, k + 1, _, by omega, by omega, by omega, rfl, rfl, by go_num, rfl, HPA, HPB, HS⟩
        case measure => simp [intOf]; omega
      · have e1 : decide (Y < X) = true := by simp; omega
        have HS := Lib.hid (HPA.out.step HL.out j k hk' HAL.out (by rw [HX.out, HY.out]; exact hxy))
        clear hxy
        go_wp2_with fail
        go_quiet (fail)
        go_wp2
        go_roundw
        case rel => exact ⟨i + k + 1, j, 0, _, by omega, by omega, by omega, by go_num, rfl, rfl, rfl, HS, HPB, Lib.hid (along_zero _ _ _ _)⟩
        case measure => simp [intOf]; omega
    · have hout : (¬ i < l.length) ∨ (i < l.length ∧ ¬ j < l.length) ∨ (i < l.length ∧ j < l.length ∧ ¬ k < l.length) := by omega
      clear hgo hcell hcell'
      have hend : ((k : Int) == (l.length : Int)) = ring1B l m := by
        by_cases hkn : k = l.length
        · rw [ring_of_along HL.out (i := i) (j := j) (by rw [← hkn]; exact HAL.out)]
          exact beq_iff_eq.2 (by omega)
        · have h0 : 0 < l.length := by omega
          have e1 : ((k : Int) == (l.length : Int)) = false := beq_eq_false_iff_ne.2 (by omega)
          rw [e1]
          by_cases hin : l.length ≤ i
          · exact (apart_of_passed HPA.out h0 hin).symm
          · exact (apart_of_passed' HPB.out (by rw [← HL.out]; exact h0) (by rw [← HL.out]; omega)).symm
      have HE := Lib.hid hend
      clear hend
      rcases hout with ho | ⟨ho1, ho2⟩ | ⟨ho1, ho2, ho3⟩
      all_goals
        go_wp2
        go_ret
        exact ⟨ret_bool HE.out, n, rfl⟩

/-! ### About -/

/-- What slices.Clone makes: a slice of the call's own. -/
theorem clone_any (v : Value) (l : List Int) (w : World) (h : Ints w v l) (hl : l.length ≤ 1000000) :
    Calls Try.prog 34 #[v] w fun e w' => ∃ u, e = .returned u ∧ w'.ownsRow w.heap.size 3 1 u l.length (l.map (Value.int .i64)) ∧ Below w.heap.size w w' := by
  obtain ⟨A, cap, rfl, hcap, hm, hcell⟩ := h
  by_cases h0 : l.length = 0
  · have e0 : l = [] := List.length_eq_zero_iff.1 h0
    subst e0
    rcases A with _ | a
    · have hcon := AnyG.slices_Clone_int_nil Try.laysClone 0 cap w
      change Calls Try.prog 34 _ _ _ at hcon
      exact hcon.mono fun e w' h => ⟨_, h.1, World.ownsRow_nil _ _ _ _, by rw [h.2]; exact Below.refl _ _⟩
    · have hcon := AnyG.slices_Clone_int_zero Try.laysClone a cap w
      change Calls Try.prog 34 _ _ _ at hcon
      refine hcon.mono ?_
      rintro e w' ⟨v', rfl, hown, _, hB⟩
      exact ⟨v', rfl, hown, hB⟩
  · obtain ⟨b, off, rfl, hb, hc⟩ := hcell (by omega)
    have hcon := AnyG.slices_Clone_int Try.laysClone b off l.length cap l w (Nat.le_refl _) (by omega) hc
    change Calls Try.prog 34 _ _ _ at hcon
    refine hcon.mono ?_
    rintro e w' ⟨v', rfl, hown, _, hB⟩
    rw [List.take_length] at hown
    exact ⟨v', rfl, hown, hB⟩

theorem reverse_any (base : Nat) (v : Value) (l : List Int) (w : World) (h : w.ownsRow base 3 1 v l.length (l.map (Value.int .i64))) (hb : base ≤ w.heap.size) (hl : l.length ≤ 1000000) :
    Calls Try.prog 35 #[v] w fun e w' => e = .returned (.tuple #[]) ∧ w'.ownsRow base 3 1 v l.length (l.reverse.map (Value.int .i64)) ∧ Below base w w' := by
  rcases h.2 with ⟨rfl, hz⟩ | ⟨g, cap, cur, rfl, hbase, hg, r1, r2, r3, r4⟩
  · have e : l = [] := List.eq_nil_of_length_eq_zero hz
    subst e
    have hcon := AnyG.slices_Reverse_int_empty Try.laysReverse none 0 w
    change Calls Try.prog 35 _ _ _ at hcon
    exact hcon.mono fun e w' h => ⟨h.1, World.ownsRow_nil _ _ _ _, by rw [h.2]; exact Below.refl _ _⟩
  · have hH : Holds encZ w g 0 l.toArray := holds_of_block_i hg (by simpa using r4)
    have hcon := AnyG.slices_Reverse_int Try.laysReverse g 0 cap l w hH (by omega)
    change Calls Try.prog 35 _ _ _ at hcon
    refine hcon.mono ?_
    rintro e w' ⟨rfl, q, rfl⟩
    have hgr := grownBy_sorted_i (w := w) (g := g) (n := q) (os := #[]) l.reverse.toArray
    have hbl := (Below.refl base w).grown hgr hb (fun j hj => by cases hj; exact hbase)
    have hown := ownsRow_sorted_i (n := q) (os := #[]) (ts := l.reverse) (by simp) hbase hg r1 r2 r3
    refine ⟨rfl, own_same hown (fun g' _ => by simp [grow]), ⟨hbl.os, hbl.tape, hbl.output, by simp, fun k hk => ?_⟩⟩
    have h2 := hbl.block k hk
    simpa [grow] using h2

set_option maxRecDepth 100000 in
set_option maxHeartbeats 1000000 in
theorem about_any (v : Value) (l : List Int) (w : World) (h : Ints w v l) (hl : l.length ≤ 1000000) :
    Calls Try.prog 14 #[v] w fun e w' => ∃ u, e = .returned u ∧ Ints w' u l.reverse ∧ Below w.heap.size w w' := by
  have HI := Lib.hid h
  obtain ⟨A, cap, rfl, _, _, hcell⟩ := h
  clear hcell
  go_enter Try.func14, Try.ntmps14
  go_wp2_with fail
  refine (clone_any _ l w HI.out hl).mono ?_
  rintro e w1 ⟨u, rfl, hown, hB⟩
  have HR := Lib.hid (reverse_any _ u l w1 hown hB.size hl)
  clear hown
  go_wp2_with fail
  refine HR.out.mono ?_
  rintro e w2 ⟨rfl, hown2, hB2⟩
  have hl2 : l.reverse.length = l.length := List.length_reverse
  rw [← hl2] at hown2
  have HI2 := Lib.hid (Ints.of_own hown2)
  clear hown2 hl2
  go_wp2
  go_ret
  exact ⟨_, rfl, HI2.out, hB.trans hB2⟩

end Go.Proofs.Ytkgggadcdmbglaa
