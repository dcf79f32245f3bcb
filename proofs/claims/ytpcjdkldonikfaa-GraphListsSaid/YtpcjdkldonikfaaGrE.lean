/-
  The program's upTo and Whole.
-/
import Derived.Test.YtpcjdkldonikfaaGrD
import Derived.Test.YtpcjdkldonikfaaPlan
namespace Go.Proofs.Ytpcjdkldonikfaa
open Go.RowKit

/-- The numbers from 0 to n - 1. -/
def countTo (n : Nat) : List Int := (List.range n).map (fun i : Nat => (i : Int))
theorem countTo_zero : countTo 0 = [] := rfl
theorem countTo_succ (n : Nat) : countTo (n + 1) = countTo n ++ [(n : Int)] := by unfold countTo; rw [List.range_succ, List.map_append]; rfl
theorem countTo_length (n : Nat) : (countTo n).length = n := by simp [countTo]
theorem countTo_get (n j : Nat) (h : j < n) : getI (countTo n) j = (j : Int) := by unfold getI countTo; simp [h]
theorem mem_countTo (n : Nat) (x : Int) : x ∈ countTo n ↔ 0 ≤ x ∧ x < n := by
  unfold countTo
  rw [List.mem_map]
  exact ⟨fun ⟨i, h, e⟩ => by have := List.mem_range.1 h; omega, fun ⟨h1, h2⟩ => ⟨x.toNat, List.mem_range.2 (by omega), by omega⟩⟩

/-- All of a right graph. -/
def Gph.whole (g : Gph) : Prt := if g.err = 0 then ⟨countTo g.n.toNat, countTo g.e.length⟩ else ⟨[], []⟩

def spInts (l : List Int) : Sp := ⟨fun w v => Ints w v l, false, fun _ _ _ hb h => h.below hb⟩
def spPt (p : Prt) : Sp := ⟨fun w v => Pt w v p, false, fun _ _ _ hb h => h.below hb⟩

/-- v is a slice of the call's own, in a block from base on, that reads as l. -/
def Row (w : World) (base : Nat) (v : Value) (l : List Int) : Prop := w.ownsRow base 3 1 v l.length (l.map (Value.int .i64))
theorem Row.below {w w' : World} {base : Nat} {v : Value} {l : List Int} (h : Row w base v l) (hb : Below w.heap.size w w') : Row w' base v l := own_below h hb
theorem Row.ints {w : World} {base : Nat} {v : Value} {l : List Int} (h : Row w base v l) : Ints w v l := Ints.of_own h
theorem Row.nil (w : World) (base : Nat) : Row w base (.slice none 0 0) [] := World.ownsRow_nil _ _ _ _
theorem own_block {w w' : World} {base : Nat} {e : TypeId} {size : Nat} {v : Value} {n : Nat} {xs : List Value} (h : w.ownsRow base e size v n xs) (hs : ∀ g, v.ownBlock = some g → w'.heap[g]? = w.heap[g]?) : w'.ownsRow base e size v n xs := by
  refine ⟨h.1, ?_⟩
  rcases h.2 with hn | ⟨g, cap, cur, rfl, hbg, hg, rest⟩
  · exact .inl hn
  · exact .inr ⟨g, cap, cur, rfl, hbg, by rw [hs g rfl]; exact hg, rest⟩
theorem Row.le {w : World} {base base' : Nat} {v : Value} {l : List Int} (h : Row w base v l) (hb : base' ≤ base) : Row w base' v l := by
  refine ⟨h.1, ?_⟩
  rcases h.2 with hn | ⟨g, cap, cur, rfl, hbg, rest⟩
  · exact .inl hn
  · exact .inr ⟨g, cap, cur, rfl, by omega, rest⟩
theorem Row.stored {w : World} {base : Nat} {v : Value} {l : List Int} (h : Row w base v l) {b : Nat} (hb : b < base) (u' v' : Value) : Row ((w.setCell ⟨b, 0, none⟩ u').setCell ⟨b, 1, none⟩ v') base v l :=
  own_block h fun g hg => by
    have h1 := (h.lt g hg).1
    exact (Below.heap_setCell _ _ _ _ (fun e => by simp only at e; omega)).trans (Below.heap_setCell _ _ _ _ (fun e => by simp only at e; omega))
def spRow (base : Nat) (l : List Int) : Sp := ⟨fun w v => Row w base v l, false, fun _ _ _ hb h => h.below hb⟩
/-- Two lists of the call's own, as a part. -/
def spPair (base : Nat) (p : Prt) : Sp := ⟨fun w v => ∃ v1 v2, v = .agg #[v1, v2] ∧ Row w base v1 p.v ∧ Row w base v2 p.e, false, fun _ _ _ hb ⟨v1, v2, e, h1, h2⟩ => ⟨v1, v2, e, h1.below hb, h2.below hb⟩⟩

/-- A part that is stored as a function's result. -/
theorem pair_stored {w wz : World} {base n b : Nat} {v : Value} {p : Prt} {x y : Value} (h : (spPair base p).p wz v) (hz : Box wz b x y) (hb : b < base) (hB : Below n w wz) (hn : n ≤ b) :
    ∃ A1 c1 A2 c2, v = .agg #[.slice A1 p.v.length c1, .slice A2 p.e.length c2] ∧
      Box ((wz.setCell ⟨b, 0, none⟩ (.slice A1 p.v.length c1)).setCell ⟨b, 1, none⟩ (.slice A2 p.e.length c2)) b (.slice A1 p.v.length c1) (.slice A2 p.e.length c2) ∧
      Below n w ((wz.setCell ⟨b, 0, none⟩ (.slice A1 p.v.length c1)).setCell ⟨b, 1, none⟩ (.slice A2 p.e.length c2)) ∧
      Pt ((wz.setCell ⟨b, 0, none⟩ (.slice A1 p.v.length c1)).setCell ⟨b, 1, none⟩ (.slice A2 p.e.length c2)) v p := by
  obtain ⟨v1, v2, rfl, h1, h2⟩ := h
  obtain ⟨A1, c1, rfl⟩ := ints_form h1.ints
  obtain ⟨A2, c2, rfl⟩ := ints_form h2.ints
  exact ⟨A1, c1, A2, c2, rfl, hz.stored _ _, below_stored hB hn, _, _, rfl, (h1.stored hb _ _).ints, (h2.stored hb _ _).ints⟩

theorem pair_stored2 {w wz : World} {base n b : Nat} {v : Value} {p : Prt} {x y : Value} (h : (spPair base p).p wz v) (hz : Box wz b x y) (hb : b < base) (hB : Below n w wz) (hn : n ≤ b) :
    ∃ A1 c1 A2 c2, v = .agg #[.slice A1 p.v.length c1, .slice A2 p.e.length c2] ∧
      Box ((wz.setCell ⟨b, 0, none⟩ (.slice A1 p.v.length c1)).setCell ⟨b, 1, none⟩ (.slice A2 p.e.length c2)) b (.slice A1 p.v.length c1) (.slice A2 p.e.length c2) ∧
      Below n w ((wz.setCell ⟨b, 0, none⟩ (.slice A1 p.v.length c1)).setCell ⟨b, 1, none⟩ (.slice A2 p.e.length c2)) ∧
      (spPair base p).p ((wz.setCell ⟨b, 0, none⟩ (.slice A1 p.v.length c1)).setCell ⟨b, 1, none⟩ (.slice A2 p.e.length c2)) v := by
  obtain ⟨v1, v2, rfl, h1, h2⟩ := h
  obtain ⟨A1, c1, rfl⟩ := ints_form h1.ints
  obtain ⟨A2, c2, rfl⟩ := ints_form h2.ints
  exact ⟨A1, c1, A2, c2, rfl, hz.stored _ _, below_stored hB hn, _, _, rfl, h1.stored hb _ _, h2.stored hb _ _⟩
theorem pair_pt {w : World} {base : Nat} {v : Value} {p : Prt} (h : (spPair base p).p w v) : Pt w v p := by
  obtain ⟨v1, v2, e, h1, h2⟩ := h
  exact ⟨v1, v2, e, h1.ints, h2.ints⟩
theorem pair_le {w : World} {base base' : Nat} {v : Value} {p : Prt} (h : (spPair base p).p w v) (hb : base' ≤ base) : (spPair base' p).p w v := by
  obtain ⟨v1, v2, e, h1, h2⟩ := h
  exact ⟨v1, v2, e, h1.le hb, h2.le hb⟩

set_option maxRecDepth 100000 in
set_option maxHeartbeats 2000000 in
theorem upTo_any (n : Nat) (w : World) (hn : n ≤ 1000000) :
    Calls Try.prog 38 #[.int .i64 (n : Int)] w fun e w' => ∃ u, e = .returned u ∧ w'.ownsRow w.heap.size 3 1 u n ((countTo n).map (Value.int .i64)) ∧ Below w.heap.size w w' := by
  obtain ⟨i0, hi, hz0, hz1, hz2⟩ := info_parts Try.infoInt
  go_enter Try.func38, Try.ntmps38
  go_wp2
  go_loopw [3, 6] (fun o i wr => ∃ k : Nat, k ≤ n ∧ i = .int .i64 k ∧ wr.ownsRow w.heap.size 3 1 o k ((countTo k).map (Value.int .i64)) ∧ Below w.heap.size w wr) (fun _ i _ => n - (intOf i).toNat)
  case atStart => exact ⟨0, Nat.zero_le _, rfl, World.ownsRow_nil _ _ _ _, Below.refl _ _⟩
  case round =>
    obtain ⟨k, hk, rfl, hown, hB⟩ := hrel
    rename_i wr
    by_cases hlt : k < n
    · have HK := Lib.hid (countTo_succ k)
      go_wp2_with (at_builtin; refine wpList_append_own _ rfl _ _ 27 rfl w.heap.size 3 i0 _ 1 8 Try.underlying27 hi hz0 hz1 hz2 rfl (by decide) _ _ _ rfl (hown.alloc _) ⟨wr.heap.size, 0, none⟩ 1 1 _ rfl rfl (cell_one_new _ _ _) (by simp [Value.oneCell']) (by unfold maxLen; omega) (by omega) (by have := hB.size; simp; omega) ?_)
      intro v' w1 hown' hgrow _
      go_wp2
      go_roundw
      case rel =>
        have hBB := (hB.alloc hB.size _).grown hgrow (by have := hB.size; simp; omega) (fun k hk => (hown.lt k hk).1)
        exact ⟨k + 1, by omega, by go_num, by rw [HK.out, List.map_append]; exact hown', hBB⟩
      case measure => simp [intOf]; omega
    · obtain rfl : k = n := by omega
      go_wp2
      go_ret
      exact ⟨_, rfl, hown, hB⟩

theorem upTo_int (x : Int) (w : World) (h0 : 0 ≤ x) (h1 : x ≤ 1000000) :
    Calls Try.prog 38 #[.int .i64 x] w fun e w' => ∃ u, e = .returned u ∧ Below w.heap.size w w' ∧ (spRow w.heap.size (countTo x.toNat)).p w' u := by
  obtain ⟨n, rfl⟩ : ∃ n : Nat, x = (n : Int) := ⟨x.toNat, by omega⟩
  refine (upTo_any n w (by omega)).mono fun e w' ⟨u, he, ho, hb⟩ => ⟨u, he, hb, by
    show w'.ownsRow _ _ _ _ _ _
    rw [Int.toNat_natCast, countTo_length]; exact ho⟩

theorem upTo_baseN (n : Nat) (w : World) (h1 : n ≤ 1000000) (base : Nat) (hb : base ≤ w.heap.size) :
    Calls Try.prog 38 #[.int .i64 (n : Int)] w fun e w' => ∃ u, e = .returned u ∧ Below w.heap.size w w' ∧ (spRow base (countTo n)).p w' u :=
  (upTo_any n w h1).mono fun e w' ⟨u, he, ho, hB⟩ => ⟨u, he, hB, Row.le (base := w.heap.size) (by show w'.ownsRow _ _ _ _ _ _; rw [countTo_length]; exact ho) hb⟩
theorem upTo_base (x : Int) (w : World) (h0 : 0 ≤ x) (h1 : x ≤ 1000000) (base : Nat) (hb : base ≤ w.heap.size) :
    Calls Try.prog 38 #[.int .i64 x] w fun e w' => ∃ u, e = .returned u ∧ Below w.heap.size w w' ∧ (spRow base (countTo x.toNat)).p w' u :=
  (upTo_int x w h0 h1).mono fun _ _ ⟨u, he, hB, h⟩ => ⟨u, he, hB, Row.le h hb⟩

set_option maxRecDepth 100000 in
set_option maxHeartbeats 2000000 in
theorem whole_any (v : Value) (g : Gph) (w : World) (h : Gr w v g) (hl : g.e.length ≤ 1000000) :
    Calls Try.prog 15 #[v] w fun e w' => ∃ u, e = .returned u ∧ Below w.heap.size w w' ∧ (spPt g.whole).p w' u := by
  have HG := Lib.hid h
  obtain ⟨ve, rfl, h1⟩ := h
  obtain ⟨Ae, ce, rfl⟩ := h1.form
  obtain ⟨b1, b2, hm⟩ := two_boxes w (.int .i64 g.n) (.slice Ae g.e.length ce) (.slice none 0 0) (.slice none 0 0) 24 29
  have HG2 := Lib.hid (HG.out.below hm)
  have HB1 := Lib.hid b1
  have HB2 := Lib.hid b2
  have HM := Lib.hid hm
  clear b1 b2 hm h1 HG
  go_enter Try.func15, Try.ntmps15
  go_wp2_with fail
  generalize (w.alloc (.cells #[.int .i64 g.n, .slice Ae g.e.length ce] 24)).alloc (.cells #[.slice none 0 0, .slice none 0 0] 29) = w1 at *
  refine (right_any _ g _ HG2.out hl).mono ?_
  rintro e w2 ⟨rfl, hB2⟩
  have HM2 := Lib.hid (trans2 HM.out hB2)
  have B1 := Lib.hid (HB1.out.below hB2)
  have B2 := Lib.hid (HB2.out.below hB2)
  clear HB1 HB2 HG2 hB2 HM
  by_cases he : g.err = 0
  · have HW : Hid (g.whole = ⟨countTo g.n.toNat, countTo g.e.length⟩) := if_pos he
    rw [he]
    go_wp2_with fail
    have h0 : 0 ≤ g.n := by
      unfold Gph.err at he
      split at he <;> omega
    have h1 : g.n ≤ 1000000 := by have := err_n he; omega
    refine wp_region_plan [is (.pointer (some ⟨w.heap.size, 0, none⟩)), is (.int .i64 g.n), spRow w2.heap.size (countTo g.n.toNat), is (.pointer (some ⟨w.heap.size, 1, none⟩)), is (.slice Ae g.e.length ce), is (.int .i64 (g.e.length : Int)), spRow w2.heap.size (countTo g.e.length), spPair w2.heap.size ⟨countTo g.n.toNat, countTo g.e.length⟩] (by kernel_rfl) (by kernel_rfl) ?_ ?_
    · skip
      refine StepsP.cons ?_ ?_
      · refine step_val (fun a wx hB O D => ?_)
        have e1 : a.tmps[1]? = some (.pointer (some ⟨w.heap.size, 0, none⟩)) := O 1 (by rfl)
        clear O D
        exact ⟨rfl, by go_simp⟩
      refine StepsP.cons ?_ ?_
      · refine step_val (fun a wx hB O D => ?_)
        obtain ⟨_, e7, rfl⟩ := D 0 _ _ _ (by decide) rfl rfl rfl
        obtain ⟨c0, c1, _⟩ := B1.out.below hB
        clear O D
        exact ⟨rfl, by go_simp⟩
      refine StepsP.cons ?_ ?_
      · refine step_call (enters_of Try.func38 (by kernel_rfl) rfl) rfl rfl (fun a wx hB O D => ?_)
        obtain ⟨_, e8, rfl⟩ := D 1 _ _ _ (by decide) rfl rfl rfl
        refine ⟨rfl, #[.int .i64 g.n], by simp only [List.map_toArray, List.map_cons, List.map_nil, ev e8] <;> rfl, ?_⟩
        exact upTo_base _ _ h0 h1 _ hB.size
      refine StepsP.cons ?_ ?_
      · refine step_val (fun a wx hB O D => ?_)
        have e1 : a.tmps[1]? = some (.pointer (some ⟨w.heap.size, 0, none⟩)) := O 1 (by rfl)
        clear O D
        exact ⟨rfl, by go_simp⟩
      refine StepsP.cons ?_ ?_
      · refine step_val (fun a wx hB O D => ?_)
        obtain ⟨_, e10, rfl⟩ := D 3 _ _ _ (by decide) rfl rfl rfl
        obtain ⟨c0, c1, _⟩ := B1.out.below hB
        clear O D
        exact ⟨rfl, by go_simp⟩
      refine StepsP.cons ?_ ?_
      · refine step_val (fun a wx hB O D => ?_)
        obtain ⟨_, e11, rfl⟩ := D 4 _ _ _ (by decide) rfl rfl rfl
        clear O D
        exact ⟨rfl, by go_simp⟩
      refine StepsP.cons ?_ ?_
      · refine step_call (enters_of Try.func38 (by kernel_rfl) rfl) rfl rfl (fun a wx hB O D => ?_)
        obtain ⟨_, e12, rfl⟩ := D 5 _ _ _ (by decide) rfl rfl rfl
        refine ⟨rfl, #[.int .i64 (g.e.length : Int)], by simp only [List.map_toArray, List.map_cons, List.map_nil, ev e12] <;> rfl, ?_⟩
        exact upTo_baseN _ _ hl _ hB.size
      refine StepsP.cons ?_ ?_
      · refine step_op rfl (fun a wx hB O D => ?_)
        obtain ⟨v9, e9, s9⟩ := D 2 _ _ _ (by decide) rfl rfl rfl
        obtain ⟨v13, e13, s13⟩ := D 6 _ _ _ (by decide) rfl rfl rfl
        obtain ⟨_, _, rfl⟩ := ints_form (Row.ints s9)
        obtain ⟨_, _, rfl⟩ := ints_form (Row.ints s13)
        clear O D
        refine ⟨rfl, _, by (go_simp; try rfl), ?_⟩
        exact ⟨_, _, rfl, s9, s13⟩
      exact StepsP.nil
    · intro wz hZ
      refine EndP.is ?_
      refine EndP.is ?_
      refine EndP.sp rfl (fun v9 s9 => ?_)
      refine EndP.is ?_
      refine EndP.is ?_
      refine EndP.is ?_
      refine EndP.sp rfl (fun v13 s13 => ?_)
      refine EndP.sp rfl (fun v14 s14 => ?_)
      refine EndP.nil ?_
      have z := B2.out.below hZ
      have z0 := z.c0
      have z1 := z.c1
      have z2 := z.thaw 0
      have z3 := z.thaw 1
      obtain ⟨A1, c1, A2, c2, rfl, W2, hB2, hP⟩ := pair_stored s14 z B2.out.lt (trans2 HM2.out hZ) (Nat.le_succ _)
      have HP := Lib.hid hP
      have HB2 := Lib.hid hB2
      clear hP hB2 hZ s9 s13 s14
      go_wp2
      refine bodyPost_ret (v := .agg #[.slice A1 (countTo g.n.toNat).length c1, .slice A2 (countTo g.e.length).length c2]) ?_ rfl ⟨_, rfl, HB2.out, ?_⟩
      · simp [results, Try.results15, go_sem, W2.c0, W2.c1]
      · rw [HW.out]; exact HP.out
  · have HW : Hid (g.whole = ⟨[], []⟩) := if_neg he
    have he' : (g.err != 0) = true := by simpa using he
    have z0 := B2.out.c0
    have z1 := B2.out.c1
    have z2 := B2.out.thaw 0
    have z3 := B2.out.thaw 1
    have W2 := B2.out.stored (.slice none 0 0) (.slice none 0 0)
    have HB2 := Lib.hid (below_stored (u' := .slice none 0 0) (v' := .slice none 0 0) HM2.out (Nat.le_succ w.heap.size))
    generalize g.err = ge at *
    go_wp2
    refine bodyPost_ret (v := .agg #[.slice none 0 0, .slice none 0 0]) ?_ rfl ⟨_, rfl, HB2.out, ?_⟩
    · simp [results, Try.results15, go_sem, W2.c0, W2.c1]
    · rw [HW.out]; exact Pt.nil

end Go.Proofs.Ytpcjdkldonikfaa
