/-
  The program's Has, Same; slices.Equal, slices.Clone, slices.BinarySearch at lists of numbers.
-/
import Derived.Test.YtpcjdkldonikfaaGrM
import Derived.Test.YtpcjdkldonikfaaGrH
import Derived.Test.YtpcjdkldonikfaaGLays
namespace Go.Proofs.Ytpcjdkldonikfaa
open Go.RowKit Go.Shelf

theorem getD_getI (l : List Int) (j : Nat) : l.getD j 0 = getI l j := rfl

set_option maxRecDepth 100000 in
set_option maxHeartbeats 1000000 in
theorem search_any (v : Value) (l : List Int) (x : Int) (w : World) (h : Ints w v l) (hu : Up l) (hl : l.length ≤ 1000000) :
    Calls Try.prog 44 #[v, .int .i64 x] w fun e w' => (∃ n : Int, e = .returned (.tuple #[.int .i64 n, .bool (decide (x ∈ l))])) ∧ ∃ q, w' = w.drewN q := by
  obtain ⟨A, cap, rfl, hcap, hm, hcell⟩ := h
  by_cases h0 : l.length = 0
  · have e0 : l = [] := List.length_eq_zero_iff.1 h0
    subst e0
    clear hcell h0
    simp only [List.length_nil]
    go_enter Try.func44, Try.ntmps44
    go_wp2
    go_loop [7, 8] (fun i j => i = .int .i64 0 ∧ j = .int .i64 0) (fun _ _ => 0)
    case atStart => exact ⟨rfl, rfl⟩
    case round =>
      obtain ⟨rfl, rfl⟩ := hrel
      go_wp2
      go_ret2
      exact ⟨⟨0, rfl⟩, 0, rfl⟩
  · obtain ⟨b, off, rfl, hb, hc⟩ := hcell (by omega)
    have hcon := AnyG.slices_BinarySearch_int Try.laysSearch b off l.length cap l x w (Nat.le_refl _) (by omega) hc (by rw [List.take_length]; exact List.Pairwise.imp (fun h => Int.le_of_lt h) hu)
    change Calls Try.prog 44 _ _ _ at hcon
    refine hcon.mono ?_
    rintro e w' ⟨rfl, hq⟩
    have e : (l.take l.length).contains x = decide (x ∈ l) := by rw [List.take_length, Bool.eq_iff_iff, List.contains_iff_mem, decide_eq_true_eq]
    exact ⟨⟨((l.take l.length).countP (fun y => decide (y < x)) : Nat), by rw [e]⟩, hq⟩

set_option maxRecDepth 100000 in
set_option maxHeartbeats 1000000 in
theorem has_any (v : Value) (l : List Int) (x : Int) (w : World) (h : Ints w v l) (hu : Up l) (hl : l.length ≤ 1000000) :
    Calls Try.prog 23 #[v, .int .i64 x] w fun e w' => e = .returned (.bool (decide (x ∈ l))) ∧ Below w.heap.size w w' := by
  have HI := Lib.hid h
  obtain ⟨A, c, rfl⟩ := ints_form h
  clear h
  go_enter Try.func23, Try.ntmps23
  go_wp2_with fail
  refine (search_any _ l x w HI.out hu hl).mono ?_
  rintro e w1 ⟨⟨n, rfl⟩, q, rfl⟩
  obtain ⟨r, hr⟩ : ∃ r, decide (x ∈ l) = r := ⟨_, rfl⟩
  have HR := Lib.hid hr
  rw [hr]
  clear hr
  go_wp2
  go_ret
  exact ⟨ret_bool HR.out.symm, below_drewN' w q⟩

theorem pequal_any (v : Value) (l : List Int) (u : Value) (m : List Int) (w : World) (h : Ints w v l) (h' : Ints w u m) (hl : l.length ≤ 1000000) (hm : m.length ≤ 1000000) :
    Calls Try.prog 45 #[v, u] w fun e w' => e = .returned (.bool (decide (l = m))) ∧ ∃ q, w' = w.drewN q := by
  obtain ⟨A, cap, rfl, _, _, hcell⟩ := h
  obtain ⟨A', cap', rfl, _, _, hcell'⟩ := h'
  by_cases h0 : l.length = 0
  · have e0 : l = [] := List.length_eq_zero_iff.1 h0
    subst e0
    have hcon := AnyG.slices_Equal_int_empty Try.laysEqual A A' cap m.length cap' w (by omega)
    change Calls Try.prog 45 _ _ _ at hcon
    refine hcon.mono ?_
    rintro e w' ⟨rfl, rfl⟩
    refine ⟨ret_bool (decide_eq_decide.2 ⟨fun e => (List.length_eq_zero_iff.1 e).symm, fun e => by rw [← e]; rfl⟩), 0, rfl⟩
  by_cases hlm : l.length = m.length
  · obtain ⟨b, off, rfl, hb, hc⟩ := hcell (by omega)
    obtain ⟨b', off', rfl, hb', hc'⟩ := hcell' (by omega)
    have hcon := AnyG.slices_Equal_int Try.laysEqual b off l.length cap b' off' m.length cap' l m w (Nat.le_refl _) (Nat.le_refl _) (by omega) (by omega) hc hc'
    change Calls Try.prog 45 _ _ _ at hcon
    refine hcon.mono ?_
    rintro e w' ⟨rfl, hq⟩
    refine ⟨ret_bool ?_, hq⟩
    rw [List.take_length, List.take_length, Bool.eq_iff_iff, beq_iff_eq, decide_eq_true_eq]
  · have HF := Lib.hid (show decide (l = m) = false by simpa using fun e : l = m => hlm (by rw [e]))
    have hne : ((l.length : Int) != (m.length : Int)) = true := by simp; omega
    clear hlm hcell hcell'
    go_enter Try.func45, Try.ntmps45
    go_wp2
    go_ret
    exact ⟨ret_bool HF.out.symm, 0, rfl⟩

def sameB (p q : Prt) : Bool := decide (p.v = q.v) && decide (p.e = q.e)
theorem sameB_iff (p q : Prt) : sameB p q = true ↔ p = q := by
  unfold sameB
  rw [Bool.and_eq_true, decide_eq_true_eq, decide_eq_true_eq]
  constructor
  · rintro ⟨h1, h2⟩
    cases p; cases q
    simp only at h1 h2
    rw [h1, h2]
  · rintro rfl
    exact ⟨rfl, rfl⟩

set_option maxRecDepth 100000 in
set_option maxHeartbeats 1000000 in
theorem same_any (v u : Value) (p q : Prt) (w : World) (h : Pt w v p) (h' : Pt w u q) (h1 : p.v.length ≤ 1000000) (h2 : p.e.length ≤ 1000000) (h3 : q.v.length ≤ 1000000) (h4 : q.e.length ≤ 1000000) :
    Calls Try.prog 24 #[v, u] w fun e w' => e = .returned (.bool (sameB p q)) ∧ Below w.heap.size w w' := by
  obtain ⟨va, ve, rfl, i1, i2⟩ := h
  obtain ⟨ua, ue, rfl, i3, i4⟩ := h'
  obtain ⟨A1, c1, rfl⟩ := ints_form i1
  obtain ⟨A2, c2, rfl⟩ := ints_form i2
  obtain ⟨A3, c3, rfl⟩ := ints_form i3
  obtain ⟨A4, c4, rfl⟩ := ints_form i4
  obtain ⟨b1, b2, hm⟩ := two_boxes w (.slice A1 p.v.length c1) (.slice A2 p.e.length c2) (.slice A3 q.v.length c3) (.slice A4 q.e.length c4) 29 29
  have I1 := Lib.hid (i1.below hm)
  have I2 := Lib.hid (i2.below hm)
  have I3 := Lib.hid (i3.below hm)
  have I4 := Lib.hid (i4.below hm)
  have x0 := b1.c0
  have x1 := b1.c1
  have y0 := b2.c0
  have y1 := b2.c1
  have HM := Lib.hid hm
  clear i1 i2 i3 i4 b1 b2 hm
  go_enter Try.func24, Try.ntmps24
  go_wp2_with fail
  generalize (w.alloc (.cells #[.slice A1 p.v.length c1, .slice A2 p.e.length c2] 29)).alloc (.cells #[.slice A3 q.v.length c3, .slice A4 q.e.length c4] 29) = w1 at *
  refine (pequal_any _ p.v _ q.v _ I1.out I3.out h1 h3).mono ?_
  rintro e w2 ⟨rfl, n, rfl⟩
  have J2 := Lib.hid (I2.out.drewN n)
  have J4 := Lib.hid (I4.out.drewN n)
  have HB := Lib.hid (fun m => below_drewN (below_drewN HM.out n) m)
  clear I1 I2 I3 I4 HM
  by_cases e1 : p.v = q.v
  · have HN := Lib.hid (show sameB p q = decide (p.e = q.e) by unfold sameB; rw [decide_eq_true e1, Bool.true_and])
    rw [decide_eq_true e1]
    clear e1
    go_wp2_with fail
    refine (pequal_any _ p.e _ q.e _ J2.out J4.out h2 h4).mono ?_
    rintro e w2 ⟨rfl, n2, rfl⟩
    generalize decide (p.e = q.e) = r at *
    go_wp2
    go_ret
    exact ⟨ret_bool HN.out.symm, by rw [← World.drewN_drewN]; exact HB.out n2⟩
  · have HN := Lib.hid (show sameB p q = false by unfold sameB; rw [decide_eq_false e1, Bool.false_and])
    rw [decide_eq_false e1]
    clear e1
    go_wp2
    go_ret
    exact ⟨ret_bool HN.out.symm, HB.out 0⟩

/-- What slices.Clone makes: a slice of the call's own. -/
theorem clone_any (v : Value) (l : List Int) (w : World) (h : Ints w v l) (hl : l.length ≤ 1000000) :
    Calls Try.prog 42 #[v] w fun e w' => ∃ u, e = .returned u ∧ Below w.heap.size w w' ∧ Row w' w.heap.size u l := by
  obtain ⟨A, cap, rfl, hcap, hm, hcell⟩ := h
  by_cases h0 : l.length = 0
  · have e0 : l = [] := List.length_eq_zero_iff.1 h0
    subst e0
    rcases A with _ | a
    · have hcon := AnyG.slices_Clone_int_nil Try.laysClone 0 cap w
      change Calls Try.prog 42 _ _ _ at hcon
      exact hcon.mono fun e w' h => ⟨_, h.1, by rw [h.2]; exact Below.refl _ _, Row.nil _ _⟩
    · have hcon := AnyG.slices_Clone_int_zero Try.laysClone a cap w
      change Calls Try.prog 42 _ _ _ at hcon
      refine hcon.mono ?_
      rintro e w' ⟨v', rfl, hown, _, hB⟩
      exact ⟨v', rfl, hB, hown⟩
  · obtain ⟨b, off, rfl, hb, hc⟩ := hcell (by omega)
    have hcon := AnyG.slices_Clone_int Try.laysClone b off l.length cap l w (Nat.le_refl _) (by omega) hc
    change Calls Try.prog 42 _ _ _ at hcon
    refine hcon.mono ?_
    rintro e w' ⟨v', rfl, hown, _, hB⟩
    rw [List.take_length] at hown
    exact ⟨v', rfl, hB, hown⟩

end Go.Proofs.Ytpcjdkldonikfaa
