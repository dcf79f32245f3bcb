/-
  The program's And, Or, Within.
-/
import Derived.Test.YtpcjdkldonikfaaGrK
namespace Go.Proofs.Ytpcjdkldonikfaa
open Go.RowKit

def Prt.and (p q : Prt) : Prt := ⟨mrg 2 p.v q.v, mrg 2 p.e q.e⟩
def Prt.or (p q : Prt) : Prt := ⟨mrg 1 p.v q.v, mrg 1 p.e q.e⟩

/-- Not too long for the walk. -/
def Prt.few (p : Prt) : Prop := p.v.length ≤ 1000000 ∧ p.e.length ≤ 1000000

theorem merge_base (v u : Value) (l m : List Int) (k : Int) (w : World) (h : Ints w v l) (h' : Ints w u m) (hl : l.length ≤ 1000000) (hm : m.length ≤ 1000000) (base : Nat) (hb : base ≤ w.heap.size) :
    Calls Try.prog 40 #[v, u, .int .i64 k] w fun e w' => ∃ r, e = .returned r ∧ Below w.heap.size w w' ∧ (spRow base (mrg k l m)).p w' r :=
  (merge_any v u l m k w h h' hl hm).mono fun _ _ ⟨r, he, hB, ho⟩ => ⟨r, he, hB, ho.le hb⟩

set_option maxRecDepth 100000 in
set_option maxHeartbeats 1000000 in
theorem and_own (v u : Value) (p q : Prt) (w : World) (h : Pt w v p) (h' : Pt w u q) (hp : p.few) (hq : q.few) :
    Calls Try.prog 19 #[v, u] w fun e w' => ∃ r, e = .returned r ∧ Below w.heap.size w w' ∧ (spPair w.heap.size (p.and q)).p w' r := by
  obtain ⟨va, ve, rfl, i1, i2⟩ := h
  obtain ⟨ua, ue, rfl, i3, i4⟩ := h'
  obtain ⟨A1, c1, rfl⟩ := ints_form i1
  obtain ⟨A2, c2, rfl⟩ := ints_form i2
  obtain ⟨A3, c3, rfl⟩ := ints_form i3
  obtain ⟨A4, c4, rfl⟩ := ints_form i4
  obtain ⟨b1, b2, b3, hm⟩ := three_boxes w (.slice A1 p.v.length c1) (.slice A2 p.e.length c2) (.slice A3 q.v.length c3) (.slice A4 q.e.length c4) (.slice none 0 0) (.slice none 0 0) 29 29 29
  have I1 := Lib.hid (i1.below hm)
  have I2 := Lib.hid (i2.below hm)
  have I3 := Lib.hid (i3.below hm)
  have I4 := Lib.hid (i4.below hm)
  have B1 := Lib.hid b1
  have B2 := Lib.hid b2
  have B3 := Lib.hid b3
  have HM := Lib.hid hm
  clear i1 i2 i3 i4 b1 b2 b3 hm
  go_enter Try.func19, Try.ntmps19
  go_wp2_with fail
  generalize ((w.alloc (.cells #[.slice A1 p.v.length c1, .slice A2 p.e.length c2] 29)).alloc (.cells #[.slice A3 q.v.length c3, .slice A4 q.e.length c4] 29)).alloc (.cells #[.slice none 0 0, .slice none 0 0] 29) = w1 at *
  refine wp_region_plan [is (.pointer (some ⟨w.heap.size, 0, none⟩)), is (.slice A1 p.v.length c1), is (.pointer (some ⟨w.heap.size + 1, 0, none⟩)), is (.slice A3 q.v.length c3), spRow w1.heap.size (mrg 2 p.v q.v), is (.pointer (some ⟨w.heap.size, 1, none⟩)), is (.slice A2 p.e.length c2), is (.pointer (some ⟨w.heap.size + 1, 1, none⟩)), is (.slice A4 q.e.length c4), spRow w1.heap.size (mrg 2 p.e q.e), spPair w1.heap.size (p.and q)] (by kernel_rfl) (by kernel_rfl) ?_ ?_
  · skip
    refine StepsP.cons ?_ ?_
    · refine step_val (fun a wx hB O D => ?_)
      have e2 : a.tmps[2]? = some (.pointer (some ⟨w.heap.size, 0, none⟩)) := O 2 (by rfl)
      clear O D
      exact ⟨rfl, by go_simp⟩
    refine StepsP.cons ?_ ?_
    · refine step_val (fun a wx hB O D => ?_)
      obtain ⟨_, e5, rfl⟩ := D 0 _ _ _ (by decide) rfl rfl rfl
      obtain ⟨c0, c1, _⟩ := B1.out.below hB
      clear O D
      exact ⟨rfl, by go_simp⟩
    refine StepsP.cons ?_ ?_
    · refine step_val (fun a wx hB O D => ?_)
      have e3 : a.tmps[3]? = some (.pointer (some ⟨w.heap.size + 1, 0, none⟩)) := O 3 (by rfl)
      clear O D
      exact ⟨rfl, by go_simp⟩
    refine StepsP.cons ?_ ?_
    · refine step_val (fun a wx hB O D => ?_)
      obtain ⟨_, e7, rfl⟩ := D 2 _ _ _ (by decide) rfl rfl rfl
      obtain ⟨c0, c1, _⟩ := B2.out.below hB
      clear O D
      exact ⟨rfl, by go_simp⟩
    refine StepsP.cons ?_ ?_
    · refine step_call (enters_of Try.func40 (by kernel_rfl) rfl) rfl rfl (fun a wx hB O D => ?_)
      obtain ⟨_, e6, rfl⟩ := D 1 _ _ _ (by decide) rfl rfl rfl
      obtain ⟨_, e8, rfl⟩ := D 3 _ _ _ (by decide) rfl rfl rfl
      refine ⟨rfl, #[.slice A1 p.v.length c1, .slice A3 q.v.length c3, .int .i64 2], by simp only [List.map_toArray, List.map_cons, List.map_nil, ev e6, ev e8] <;> rfl, ?_⟩
      exact merge_base _ _ p.v q.v 2 _ (I1.out.below hB) (I3.out.below hB) hp.1 hq.1 _ hB.size
    refine StepsP.cons ?_ ?_
    · refine step_val (fun a wx hB O D => ?_)
      have e2 : a.tmps[2]? = some (.pointer (some ⟨w.heap.size, 0, none⟩)) := O 2 (by rfl)
      clear O D
      exact ⟨rfl, by go_simp⟩
    refine StepsP.cons ?_ ?_
    · refine step_val (fun a wx hB O D => ?_)
      obtain ⟨_, e10, rfl⟩ := D 5 _ _ _ (by decide) rfl rfl rfl
      obtain ⟨c0, c1, _⟩ := B1.out.below hB
      clear O D
      exact ⟨rfl, by go_simp⟩
    refine StepsP.cons ?_ ?_
    · refine step_val (fun a wx hB O D => ?_)
      have e3 : a.tmps[3]? = some (.pointer (some ⟨w.heap.size + 1, 0, none⟩)) := O 3 (by rfl)
      clear O D
      exact ⟨rfl, by go_simp⟩
    refine StepsP.cons ?_ ?_
    · refine step_val (fun a wx hB O D => ?_)
      obtain ⟨_, e12, rfl⟩ := D 7 _ _ _ (by decide) rfl rfl rfl
      obtain ⟨c0, c1, _⟩ := B2.out.below hB
      clear O D
      exact ⟨rfl, by go_simp⟩
    refine StepsP.cons ?_ ?_
    · refine step_call (enters_of Try.func40 (by kernel_rfl) rfl) rfl rfl (fun a wx hB O D => ?_)
      obtain ⟨_, e11, rfl⟩ := D 6 _ _ _ (by decide) rfl rfl rfl
      obtain ⟨_, e13, rfl⟩ := D 8 _ _ _ (by decide) rfl rfl rfl
      refine ⟨rfl, #[.slice A2 p.e.length c2, .slice A4 q.e.length c4, .int .i64 2], by simp only [List.map_toArray, List.map_cons, List.map_nil, ev e11, ev e13] <;> rfl, ?_⟩
      exact merge_base _ _ p.e q.e 2 _ (I2.out.below hB) (I4.out.below hB) hp.2 hq.2 _ hB.size
    refine StepsP.cons ?_ ?_
    · refine step_op rfl (fun a wx hB O D => ?_)
      obtain ⟨v9, e9, s9⟩ := D 4 _ _ _ (by decide) rfl rfl rfl
      obtain ⟨v14, e14, s14⟩ := D 9 _ _ _ (by decide) rfl rfl rfl
      obtain ⟨_, _, rfl⟩ := ints_form (Row.ints s9)
      obtain ⟨_, _, rfl⟩ := ints_form (Row.ints s14)
      clear O D
      refine ⟨rfl, _, by (go_simp; try rfl), ?_⟩
      exact ⟨_, _, rfl, s9, s14⟩
    exact StepsP.nil
  · intro wz hZ
    refine EndP.is ?_
    refine EndP.is ?_
    refine EndP.is ?_
    refine EndP.is ?_
    refine EndP.sp rfl (fun v9 s9 => ?_)
    refine EndP.is ?_
    refine EndP.is ?_
    refine EndP.is ?_
    refine EndP.is ?_
    refine EndP.sp rfl (fun v14 s14 => ?_)
    refine EndP.sp rfl (fun v15 s15 => ?_)
    refine EndP.nil ?_
    have z := B3.out.below hZ
    have z0 := z.c0
    have z1 := z.c1
    have z2 := z.thaw 0
    have z3 := z.thaw 1
    obtain ⟨A5, c5, A6, c6, rfl, W2, hB2, hP⟩ := pair_stored2 s15 z B3.out.lt (trans2 HM.out hZ) (Nat.le_add_right _ 2)
    have HP := Lib.hid hP
    have HB2 := Lib.hid hB2
    clear hP hB2 hZ s9 s14 s15
    go_wp2
    refine bodyPost_ret (v := .agg #[.slice A5 (p.and q).v.length c5, .slice A6 (p.and q).e.length c6]) ?_ rfl ⟨_, rfl, HB2.out, pair_le HP.out (Below.size HM.out)⟩
    simp [results, Try.results19, go_sem, W2.c0, W2.c1]

theorem and_any (v u : Value) (p q : Prt) (w : World) (h : Pt w v p) (h' : Pt w u q) (hp : p.few) (hq : q.few) :
    Calls Try.prog 19 #[v, u] w fun e w' => ∃ r, e = .returned r ∧ Below w.heap.size w w' ∧ (spPt (p.and q)).p w' r :=
  (and_own v u p q w h h' hp hq).mono fun _ _ ⟨r, he, hb, hr⟩ => ⟨r, he, hb, pair_pt hr⟩

set_option maxRecDepth 100000 in
set_option maxHeartbeats 1000000 in
theorem or_own (v u : Value) (p q : Prt) (w : World) (h : Pt w v p) (h' : Pt w u q) (hp : p.few) (hq : q.few) :
    Calls Try.prog 20 #[v, u] w fun e w' => ∃ r, e = .returned r ∧ Below w.heap.size w w' ∧ (spPair w.heap.size (p.or q)).p w' r := by
  obtain ⟨va, ve, rfl, i1, i2⟩ := h
  obtain ⟨ua, ue, rfl, i3, i4⟩ := h'
  obtain ⟨A1, c1, rfl⟩ := ints_form i1
  obtain ⟨A2, c2, rfl⟩ := ints_form i2
  obtain ⟨A3, c3, rfl⟩ := ints_form i3
  obtain ⟨A4, c4, rfl⟩ := ints_form i4
  obtain ⟨b1, b2, b3, hm⟩ := three_boxes w (.slice A1 p.v.length c1) (.slice A2 p.e.length c2) (.slice A3 q.v.length c3) (.slice A4 q.e.length c4) (.slice none 0 0) (.slice none 0 0) 29 29 29
  have I1 := Lib.hid (i1.below hm)
  have I2 := Lib.hid (i2.below hm)
  have I3 := Lib.hid (i3.below hm)
  have I4 := Lib.hid (i4.below hm)
  have B1 := Lib.hid b1
  have B2 := Lib.hid b2
  have B3 := Lib.hid b3
  have HM := Lib.hid hm
  clear i1 i2 i3 i4 b1 b2 b3 hm
  go_enter Try.func20, Try.ntmps20
  go_wp2_with fail
  generalize ((w.alloc (.cells #[.slice A1 p.v.length c1, .slice A2 p.e.length c2] 29)).alloc (.cells #[.slice A3 q.v.length c3, .slice A4 q.e.length c4] 29)).alloc (.cells #[.slice none 0 0, .slice none 0 0] 29) = w1 at *
  refine wp_region_plan [is (.pointer (some ⟨w.heap.size, 0, none⟩)), is (.slice A1 p.v.length c1), is (.pointer (some ⟨w.heap.size + 1, 0, none⟩)), is (.slice A3 q.v.length c3), spRow w1.heap.size (mrg 1 p.v q.v), is (.pointer (some ⟨w.heap.size, 1, none⟩)), is (.slice A2 p.e.length c2), is (.pointer (some ⟨w.heap.size + 1, 1, none⟩)), is (.slice A4 q.e.length c4), spRow w1.heap.size (mrg 1 p.e q.e), spPair w1.heap.size (p.or q)] (by kernel_rfl) (by kernel_rfl) ?_ ?_
  · skip
    refine StepsP.cons ?_ ?_
    · refine step_val (fun a wx hB O D => ?_)
      have e2 : a.tmps[2]? = some (.pointer (some ⟨w.heap.size, 0, none⟩)) := O 2 (by rfl)
      clear O D
      exact ⟨rfl, by go_simp⟩
    refine StepsP.cons ?_ ?_
    · refine step_val (fun a wx hB O D => ?_)
      obtain ⟨_, e5, rfl⟩ := D 0 _ _ _ (by decide) rfl rfl rfl
      obtain ⟨c0, c1, _⟩ := B1.out.below hB
      clear O D
      exact ⟨rfl, by go_simp⟩
    refine StepsP.cons ?_ ?_
    · refine step_val (fun a wx hB O D => ?_)
      have e3 : a.tmps[3]? = some (.pointer (some ⟨w.heap.size + 1, 0, none⟩)) := O 3 (by rfl)
      clear O D
      exact ⟨rfl, by go_simp⟩
    refine StepsP.cons ?_ ?_
    · refine step_val (fun a wx hB O D => ?_)
      obtain ⟨_, e7, rfl⟩ := D 2 _ _ _ (by decide) rfl rfl rfl
      obtain ⟨c0, c1, _⟩ := B2.out.below hB
      clear O D
      exact ⟨rfl, by go_simp⟩
    refine StepsP.cons ?_ ?_
    · refine step_call (enters_of Try.func40 (by kernel_rfl) rfl) rfl rfl (fun a wx hB O D => ?_)
      obtain ⟨_, e6, rfl⟩ := D 1 _ _ _ (by decide) rfl rfl rfl
      obtain ⟨_, e8, rfl⟩ := D 3 _ _ _ (by decide) rfl rfl rfl
      refine ⟨rfl, #[.slice A1 p.v.length c1, .slice A3 q.v.length c3, .int .i64 1], by simp only [List.map_toArray, List.map_cons, List.map_nil, ev e6, ev e8] <;> rfl, ?_⟩
      exact merge_base _ _ p.v q.v 1 _ (I1.out.below hB) (I3.out.below hB) hp.1 hq.1 _ hB.size
    refine StepsP.cons ?_ ?_
    · refine step_val (fun a wx hB O D => ?_)
      have e2 : a.tmps[2]? = some (.pointer (some ⟨w.heap.size, 0, none⟩)) := O 2 (by rfl)
      clear O D
      exact ⟨rfl, by go_simp⟩
    refine StepsP.cons ?_ ?_
    · refine step_val (fun a wx hB O D => ?_)
      obtain ⟨_, e10, rfl⟩ := D 5 _ _ _ (by decide) rfl rfl rfl
      obtain ⟨c0, c1, _⟩ := B1.out.below hB
      clear O D
      exact ⟨rfl, by go_simp⟩
    refine StepsP.cons ?_ ?_
    · refine step_val (fun a wx hB O D => ?_)
      have e3 : a.tmps[3]? = some (.pointer (some ⟨w.heap.size + 1, 0, none⟩)) := O 3 (by rfl)
      clear O D
      exact ⟨rfl, by go_simp⟩
    refine StepsP.cons ?_ ?_
    · refine step_val (fun a wx hB O D => ?_)
      obtain ⟨_, e12, rfl⟩ := D 7 _ _ _ (by decide) rfl rfl rfl
      obtain ⟨c0, c1, _⟩ := B2.out.below hB
      clear O D
      exact ⟨rfl, by go_simp⟩
    refine StepsP.cons ?_ ?_
    · refine step_call (enters_of Try.func40 (by kernel_rfl) rfl) rfl rfl (fun a wx hB O D => ?_)
      obtain ⟨_, e11, rfl⟩ := D 6 _ _ _ (by decide) rfl rfl rfl
      obtain ⟨_, e13, rfl⟩ := D 8 _ _ _ (by decide) rfl rfl rfl
      refine ⟨rfl, #[.slice A2 p.e.length c2, .slice A4 q.e.length c4, .int .i64 1], by simp only [List.map_toArray, List.map_cons, List.map_nil, ev e11, ev e13] <;> rfl, ?_⟩
      exact merge_base _ _ p.e q.e 1 _ (I2.out.below hB) (I4.out.below hB) hp.2 hq.2 _ hB.size
    refine StepsP.cons ?_ ?_
    · refine step_op rfl (fun a wx hB O D => ?_)
      obtain ⟨v9, e9, s9⟩ := D 4 _ _ _ (by decide) rfl rfl rfl
      obtain ⟨v14, e14, s14⟩ := D 9 _ _ _ (by decide) rfl rfl rfl
      obtain ⟨_, _, rfl⟩ := ints_form (Row.ints s9)
      obtain ⟨_, _, rfl⟩ := ints_form (Row.ints s14)
      clear O D
      refine ⟨rfl, _, by (go_simp; try rfl), ?_⟩
      exact ⟨_, _, rfl, s9, s14⟩
    exact StepsP.nil
  · intro wz hZ
    refine EndP.is ?_
    refine EndP.is ?_
    refine EndP.is ?_
    refine EndP.is ?_
    refine EndP.sp rfl (fun v9 s9 => ?_)
    refine EndP.is ?_
    refine EndP.is ?_
    refine EndP.is ?_
    refine EndP.is ?_
    refine EndP.sp rfl (fun v14 s14 => ?_)
    refine EndP.sp rfl (fun v15 s15 => ?_)
    refine EndP.nil ?_
    have z := B3.out.below hZ
    have z0 := z.c0
    have z1 := z.c1
    have z2 := z.thaw 0
    have z3 := z.thaw 1
    obtain ⟨A5, c5, A6, c6, rfl, W2, hB2, hP⟩ := pair_stored2 s15 z B3.out.lt (trans2 HM.out hZ) (Nat.le_add_right _ 2)
    have HP := Lib.hid hP
    have HB2 := Lib.hid hB2
    clear hP hB2 hZ s9 s14 s15
    go_wp2
    refine bodyPost_ret (v := .agg #[.slice A5 (p.or q).v.length c5, .slice A6 (p.or q).e.length c6]) ?_ rfl ⟨_, rfl, HB2.out, pair_le HP.out (Below.size HM.out)⟩
    simp [results, Try.results20, go_sem, W2.c0, W2.c1]

theorem or_any (v u : Value) (p q : Prt) (w : World) (h : Pt w v p) (h' : Pt w u q) (hp : p.few) (hq : q.few) :
    Calls Try.prog 20 #[v, u] w fun e w' => ∃ r, e = .returned r ∧ Below w.heap.size w w' ∧ (spPt (p.or q)).p w' r :=
  (or_own v u p q w h h' hp hq).mono fun _ _ ⟨r, he, hb, hr⟩ => ⟨r, he, hb, pair_pt hr⟩

theorem mrg2_len (l m : List Int) : (mrg 2 l m).length ≤ l.length := by
  refine mrg_ind (C := fun l m => (mrg 2 l m).length ≤ l.length) ?_ ?_ ?_ ?_ ?_ ?_ _ l m (Nat.le_refl _)
  · rw [mrg_nil]; simp
  · intro y m _; rw [and_right]; simp
  · intro x l _; rw [and_left]; simp
  · intro x y l m h ih; rw [mrg_lt 2 l m h, if_neg (by omega), List.nil_append, List.length_cons]; omega
  · intro x y l m h ih; rw [mrg_gt 2 l m h, if_neg (by omega), List.nil_append]; exact ih
  · intro x l m ih; rw [mrg_eq 2 l m rfl, if_pos (by omega), List.length_append, List.length_cons]; simp; omega
theorem and_few {p : Prt} (hp : p.few) (q : Prt) : (p.and q).few := by
  have h1 := mrg2_len p.v q.v
  have h2 := mrg2_len p.e q.e
  exact ⟨Nat.le_trans h1 hp.1, Nat.le_trans h2 hp.2⟩

set_option maxRecDepth 100000 in
set_option maxHeartbeats 1000000 in
theorem within_any (v u : Value) (p q : Prt) (w : World) (h : Pt w v p) (h' : Pt w u q) (hp : p.few) (hq : q.few) :
    Calls Try.prog 22 #[v, u] w fun e w' => e = .returned (.bool (sameB (p.and q) p)) ∧ Below w.heap.size w w' := by
  have HP := Lib.hid h
  have HQ := Lib.hid h'
  obtain ⟨va, ve, rfl, i1, i2⟩ := h
  obtain ⟨ua, ue, rfl, i3, i4⟩ := h'
  obtain ⟨A1, c1, rfl⟩ := ints_form i1
  obtain ⟨A2, c2, rfl⟩ := ints_form i2
  obtain ⟨A3, c3, rfl⟩ := ints_form i3
  obtain ⟨A4, c4, rfl⟩ := ints_form i4
  obtain ⟨b1, b2, hm⟩ := two_boxes w (.slice A1 p.v.length c1) (.slice A2 p.e.length c2) (.slice A3 q.v.length c3) (.slice A4 q.e.length c4) 29 29
  have P1 := Lib.hid (HP.out.below hm)
  have P2 := Lib.hid (HQ.out.below hm)
  have B1 := Lib.hid b1
  have B2 := Lib.hid b2
  have HM := Lib.hid hm
  clear i1 i2 i3 i4 b1 b2 hm HP HQ
  go_enter Try.func22, Try.ntmps22
  go_wp2_with fail
  generalize (w.alloc (.cells #[.slice A1 p.v.length c1, .slice A2 p.e.length c2] 29)).alloc (.cells #[.slice A3 q.v.length c3, .slice A4 q.e.length c4] 29) = w1 at *
  refine wp_region_plan [is (.agg #[.slice A1 p.v.length c1, .slice A2 p.e.length c2]), is (.agg #[.slice A3 q.v.length c3, .slice A4 q.e.length c4]), spPt (p.and q), is (.agg #[.slice A1 p.v.length c1, .slice A2 p.e.length c2]), is (.bool (sameB (p.and q) p)), is (.bool (sameB (p.and q) p))] (by kernel_rfl) (by kernel_rfl) ?_ ?_
  · skip
    refine StepsP.cons ?_ ?_
    · refine step_val (fun a wx hB O D => ?_)
      have e2 : a.tmps[2]? = some (.pointer (some ⟨w.heap.size, 0, none⟩)) := O 2 (by rfl)
      obtain ⟨c0, c1, _⟩ := B1.out.below hB
      clear O D
      exact ⟨rfl, by go_simp⟩
    refine StepsP.cons ?_ ?_
    · refine step_val (fun a wx hB O D => ?_)
      have e3 : a.tmps[3]? = some (.pointer (some ⟨w.heap.size + 1, 0, none⟩)) := O 3 (by rfl)
      obtain ⟨c0, c1, _⟩ := B2.out.below hB
      clear O D
      exact ⟨rfl, by go_simp⟩
    refine StepsP.cons ?_ ?_
    · refine step_call (enters_of Try.func19 (by kernel_rfl) rfl) rfl rfl (fun a wx hB O D => ?_)
      obtain ⟨_, e5, rfl⟩ := D 0 _ _ _ (by decide) rfl rfl rfl
      obtain ⟨_, e6, rfl⟩ := D 1 _ _ _ (by decide) rfl rfl rfl
      refine ⟨rfl, #[.agg #[.slice A1 p.v.length c1, .slice A2 p.e.length c2], .agg #[.slice A3 q.v.length c3, .slice A4 q.e.length c4]], by simp only [List.map_toArray, List.map_cons, List.map_nil, ev e5, ev e6] <;> rfl, ?_⟩
      exact and_any _ _ p q _ (P1.out.below hB) (P2.out.below hB) hp hq
    refine StepsP.cons ?_ ?_
    · refine step_val (fun a wx hB O D => ?_)
      have e2 : a.tmps[2]? = some (.pointer (some ⟨w.heap.size, 0, none⟩)) := O 2 (by rfl)
      obtain ⟨c0, c1, _⟩ := B1.out.below hB
      clear O D
      exact ⟨rfl, by go_simp⟩
    refine StepsP.cons ?_ ?_
    · refine step_call (enters_of Try.func24 (by kernel_rfl) rfl) rfl rfl (fun a wx hB O D => ?_)
      obtain ⟨v7, e7, s7⟩ := D 2 _ _ _ (by decide) rfl rfl rfl
      obtain ⟨_, e8, rfl⟩ := D 3 _ _ _ (by decide) rfl rfl rfl
      refine ⟨rfl, #[v7, .agg #[.slice A1 p.v.length c1, .slice A2 p.e.length c2]], by simp only [List.map_toArray, List.map_cons, List.map_nil, ev e7, ev e8] <;> rfl, ?_⟩
      exact (same_any _ _ (p.and q) p _ s7 (P1.out.below hB) (and_few hp q).1 (and_few hp q).2 hp.1 hp.2).mono fun _ _ ⟨he, hb⟩ => ⟨_, he, hb, rfl⟩
    refine StepsP.cons ?_ ?_
    · refine step_val (fun a wx hB O D => ?_)
      obtain ⟨_, e9, rfl⟩ := D 4 _ _ _ (by decide) rfl rfl rfl
      clear O D
      exact ⟨rfl, by unfold execOp; simp only [ev e9]; rfl⟩
    exact StepsP.nil
  · intro wz hZ
    refine EndP.is ?_
    refine EndP.is ?_
    refine EndP.sp rfl (fun v7 s7 => ?_)
    refine EndP.is ?_
    refine EndP.is ?_
    refine EndP.is ?_
    refine EndP.nil ?_
    have HZ := Lib.hid (trans2 HM.out hZ)
    clear hZ s7
    refine wpList_nil ?_
    obtain ⟨r, hr⟩ : ∃ r, sameB (p.and q) p = r := ⟨_, rfl⟩
    have HR := Lib.hid hr
    rw [hr]
    clear hr
    go_wp2
    go_ret
    exact ⟨ret_bool HR.out.symm, HZ.out⟩

end Go.Proofs.Ytpcjdkldonikfaa
