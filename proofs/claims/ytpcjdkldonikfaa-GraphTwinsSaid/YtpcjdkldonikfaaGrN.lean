/-
  The program's Drop.
-/
import Derived.Test.YtpcjdkldonikfaaGrL
import Derived.Lib.SlKeysI
namespace Go.Proofs.Ytpcjdkldonikfaa
open Go.RowKit Go.Shelf Go.Sort Go.Lib

/-- The part without an edge. -/
def dropL (l : List Int) (x : Int) : List Int := l.filter fun y => !decide (y = x)
def Prt.drop (p : Prt) (x : Int) : Prt := ⟨p.v, dropL p.e x⟩

theorem dropL_len (l : List Int) (x : Int) : (dropL l x).length ≤ l.length := List.length_filter_le _ _
theorem mem_dropL (l : List Int) (x z : Int) : z ∈ dropL l x ↔ z ∈ l ∧ z ≠ x := by
  unfold dropL
  rw [List.mem_filter]
  simp
theorem up_dropL {l : List Int} (h : Up l) (x : Int) : Up (dropL l x) := List.Pairwise.filter _ h
theorem drop_few {p : Prt} (h : p.few) (x : Int) : (p.drop x).few := ⟨h.1, Nat.le_trans (dropL_len _ _) h.2⟩

/-- The first few of a slice of the call's own. -/
theorem row_cut {w : World} {base : Nat} {g cap n : Nat} {l m : List Int} (h : w.ownsRow base 3 1 (.slice (some ⟨g, 0, none⟩) n cap) n ((l ++ m).map (Value.int .i64))) (hn : n = l.length + m.length) : Row w base (.slice (some ⟨g, 0, none⟩) l.length cap) l := by
  rcases h.2 with ⟨e, _⟩ | ⟨g', cap', cur, e, h1, h2, h3, h4, h5, h6⟩
  · cases e
  · cases e
    refine ⟨by simp, .inr ⟨g, cap, cur, rfl, h1, h2, by omega, h4, h5, ?_⟩⟩
    rw [Nat.mul_one] at h6 ⊢
    have h7 := congrArg (List.take l.length) h6
    rw [List.take_take, Nat.min_eq_left (by omega), List.map_append, List.take_left' (by simp)] at h7
    exact h7

theorem closure_any (x y : Int) (B : Nat) (w : World) (hc : w.cell? ⟨B, 0, none⟩ = some (.int .i64 x)) :
    FnGives Try.prog 43 #[.pointer (some ⟨B, 0, none⟩)] #[.int .i64 y] (.bool (decide (y = x))) w := by
  show Calls Try.prog 43 #[.int .i64 y, .pointer (some ⟨B, 0, none⟩)] w _
  by_cases e : y = x
  · have HN := Lib.hid (show decide (y = x) = true from decide_eq_true e)
    have h1 : (y == x) = true := by simpa using e
    clear e
    go_enter Try.func43, Try.ntmps43
    go_wp2
    go_ret
    exact ⟨ret_bool HN.out.symm, 0, rfl⟩
  · have HN := Lib.hid (show decide (y = x) = false from decide_eq_false e)
    have h1 : (y == x) = false := by simpa using e
    clear e
    go_enter Try.func43, Try.ntmps43
    go_wp2
    go_ret
    exact ⟨ret_bool HN.out.symm, 0, rfl⟩

theorem indexFunc_nil (A : Option Addr) (c : Nat) (f : Value) (w : World) :
    Calls Try.prog 47 #[.slice A 0 c, f] w fun e w' => e = .returned (.int .i64 (-1)) ∧ w = w' := by
  go_enter Try.func47, Try.ntmps47
  go_wp2
  go_loop [8] (fun i => i = .int .i64 0) (fun _ => 0)
  case atStart => rfl
  case round =>
    obtain rfl := hrel
    go_wp2
    go_ret
    exact ⟨rfl, rfl⟩

set_option maxRecDepth 100000 in
set_option maxHeartbeats 1000000 in
theorem deleteFunc_any (w : World) (base : Nat) (v : Value) (l : List Int) (x : Int) (B : Nat) (h : Row w base v l) (hb : base ≤ w.heap.size) (hB : B < base) (hc : w.cell? ⟨B, 0, none⟩ = some (.int .i64 x)) (hl : l.length ≤ 1000000) :
    Calls Try.prog 41 #[v, .func (.func 43) #[] #[.pointer (some ⟨B, 0, none⟩)]] w fun e w' => ∃ u, e = .returned u ∧ Below base w w' ∧ Row w' base u (dropL l x) := by
  rcases h.2 with ⟨rfl, hz⟩ | ⟨g, cap, cur, rfl, hbase, hg, r1, r2, r3, r4⟩
  · have e : l = [] := List.eq_nil_of_length_eq_zero hz
    subst e
    go_enter Try.func41, Try.ntmps41
    go_wp2_with fail
    refine (indexFunc_nil _ _ _ w).mono ?_
    rintro e w' ⟨rfl, rfl⟩
    go_wp2
    go_ret
    exact ⟨_, rfl, Below.refl _ _, Row.nil _ _⟩
  · have hBlt : B < w.heap.size := by omega
    have hBg : B ≠ g := by omega
    have eg : ∀ args w, (callFunc 43 args).run Try.prog w = .ok (.enter 43 args) w := enters_of Try.func43 (by kernel_rfl) rfl
    have hH : Holds encZ w g 0 l.toArray := holds_of_block_i hg (by simpa using r4)
    have hcon := AnyE.slices_DeleteFunc Try.laysDeleteFunc (Value.int .i64) (fun _ => rfl) (fun y => decide (y = x)) 43 #[.pointer (some ⟨B, 0, none⟩)] eg 0 Try.zeroValue3 g 0 cap l.toArray w
      (fun W y hW => closure_any x y B W ((hW.cell (p := ⟨B, 0, none⟩) hBlt).trans hc))
      (fun n os dk y _ => closure_any x y B _ (by
        unfold sortWorld
        rw [cell?_grow _ _ _ (by show B < (putRow _ _ _ _ _).heap.size; rw [size_putRow]; exact hBlt), cell?_putRow_other _ _ g 0 _ _ (Or.inl hBg)]
        exact hc)) hH (by simp; omega) (by simpa using r1)
    change Calls Try.prog 41 _ _ _ at hcon
    rw [List.size_toArray] at hcon
    refine hcon.mono ?_
    rintro e w' ⟨rfl, q, rfl⟩
    have hfl : (l.filter fun y => !decide (y = x)) = dropL l x := rfl
    rw [hfl]
    have hdl := dropL_len l x
    have hlen : (dropL l x ++ List.replicate (l.length - (dropL l x).length) (0 : Int)).length = l.length := by simp; omega
    have hgr := grownBy_sorted_i (w := w) (g := g) (n := q) (os := #[]) (dropL l x ++ List.replicate (l.length - (dropL l x).length) (0 : Int)).toArray
    have hown := ownsRow_sorted_i (n := q) (os := #[]) (ts := dropL l x ++ List.replicate (l.length - (dropL l x).length) (0 : Int)) hlen hbase hg r1 r2 r3
    have hbl := (Below.refl base w).grown hgr hb (fun j hj => by cases hj; exact hbase)
    rw [Sort.grow_empty] at hown hbl
    refine ⟨_, rfl, hbl, row_cut hown (by simp; omega)⟩

theorem mid_boxes (w : World) (u v x u2 v2 : Value) (t t' t2 : TypeId) :
    Box (((w.alloc (.cells #[u, v] t)).alloc (.cells #[x] t')).alloc (.cells #[u2, v2] t2)) w.heap.size u v ∧ (((w.alloc (.cells #[u, v] t)).alloc (.cells #[x] t')).alloc (.cells #[u2, v2] t2)).cell? ⟨w.heap.size + 1, 0, none⟩ = some x ∧
      Box (((w.alloc (.cells #[u, v] t)).alloc (.cells #[x] t')).alloc (.cells #[u2, v2] t2)) (w.heap.size + 2) u2 v2 ∧
      Below w.heap.size w (((w.alloc (.cells #[u, v] t)).alloc (.cells #[x] t')).alloc (.cells #[u2, v2] t2)) := by
  obtain ⟨h1, h2⟩ := one_box w u v t
  have h3 := new_cell (w.alloc (.cells #[u, v] t)) x t'
  have h4 := below_alloc (w := w.alloc (.cells #[u, v] t)) (.cells #[x] t')
  obtain ⟨h5, h6⟩ := one_box ((w.alloc (.cells #[u, v] t)).alloc (.cells #[x] t')) u2 v2 t2
  have e1 : (w.alloc (.cells #[u, v] t)).heap.size = w.heap.size + 1 := by simp
  have e2 : ((w.alloc (.cells #[u, v] t)).alloc (.cells #[x] t')).heap.size = w.heap.size + 2 := by simp
  rw [e1] at h3
  rw [e2] at h5
  exact ⟨(h1.below h4).below h6, old_cell _ h3, h5, (h2.trans (h4.mono (by omega))).trans (h6.mono (by omega))⟩

set_option maxRecDepth 100000 in
set_option maxHeartbeats 1000000 in
theorem drop_own (v : Value) (p : Prt) (x : Int) (w : World) (h : Pt w v p) (hp : p.few) :
    Calls Try.prog 21 #[v, .int .i64 x] w fun e w' => ∃ r, e = .returned r ∧ Below w.heap.size w w' ∧ (spPair w.heap.size (p.drop x)).p w' r := by
  obtain ⟨va, ve, rfl, i1, i2⟩ := h
  obtain ⟨A1, c1, rfl⟩ := ints_form i1
  obtain ⟨A2, c2, rfl⟩ := ints_form i2
  obtain ⟨b1, bx, b3, hm⟩ := mid_boxes w (.slice A1 p.v.length c1) (.slice A2 p.e.length c2) (.int .i64 x) (.slice none 0 0) (.slice none 0 0) 29 3 29
  have I1 := Lib.hid (i1.below hm)
  have I2 := Lib.hid (i2.below hm)
  have x0 := b1.c0
  have x1 := b1.c1
  have HB1 := Lib.hid b1
  have HB3 := Lib.hid b3
  have HBX := Lib.hid bx
  have HM := Lib.hid hm
  clear i1 i2 b1 b3 bx hm
  go_enter Try.func21, Try.ntmps21
  go_wp2_with fail
  generalize ((w.alloc (.cells #[.slice A1 p.v.length c1, .slice A2 p.e.length c2] 29)).alloc (.cells #[.int .i64 x] 3)).alloc (.cells #[.slice none 0 0, .slice none 0 0] 29) = w1 at *
  refine (clone_any _ p.e w1 I2.out hp.2).mono ?_
  rintro e w2 ⟨u, rfl, hB2, hR2⟩
  have HD := Lib.hid (deleteFunc_any w2 w1.heap.size u p.e x (w.heap.size + 1) hR2 hB2.size (by have := HB3.out.lt; omega) ((hB2.cell (p := ⟨w.heap.size + 1, 0, none⟩) (by have := HB3.out.lt; show w.heap.size + 1 < w1.heap.size; omega)).trans HBX.out) hp.2)
  have HB12 := Lib.hid hB2
  clear hR2 hB2 x0 x1
  go_wp2_with fail
  refine HD.out.mono ?_
  rintro e w3 ⟨r, rfl, hB3, hR3⟩
  have HB13 := Lib.hid (HB12.out.trans hB3)
  have HR3 := Lib.hid hR3
  have Z1 := HB1.out.below HB13.out
  have z0 := Z1.c0
  have z1 := Z1.c1
  have I13 := Lib.hid (I1.out.below HB13.out)
  clear hB3 hR3 HD Z1
  go_wp2_with fail
  refine (clone_any _ p.v w3 I13.out hp.1).mono ?_
  rintro e w4 ⟨s, rfl, hB4, hR4⟩
  have HB14 := Lib.hid (trans2 HB13.out hB4)
  have HP := Lib.hid (show (spPair w1.heap.size (p.drop x)).p w4 (.agg #[s, r]) from ⟨s, r, rfl, Row.le hR4 HB13.out.size, HR3.out.below hB4⟩)
  have hz := HB3.out.below HB14.out
  obtain ⟨A5, c5, A6, c6, hv, W2, hB2, hPt⟩ := pair_stored2 HP.out hz HB3.out.lt (trans2 HM.out HB14.out) (Nat.le_add_right _ 2)
  have z2 := hz.c0
  have z3 := hz.c1
  have z4 := hz.thaw 0
  have z5 := hz.thaw 1
  simp only [Value.agg.injEq, Array.mk.injEq, List.cons.injEq, and_true] at hv
  obtain ⟨rfl, rfl⟩ := hv
  have HPT := Lib.hid hPt
  have HBB := Lib.hid hB2
  clear hPt hB2 hR4 hB4 HR3 HP z0 z1 hz
  go_wp2
  refine bodyPost_ret (v := .agg #[.slice A5 (p.drop x).v.length c5, .slice A6 (p.drop x).e.length c6]) ?_ rfl ⟨_, rfl, HBB.out, pair_le HPT.out (Below.size HM.out)⟩
  simp [results, Try.results21, go_sem, W2.c0, W2.c1]

theorem drop_any (v : Value) (p : Prt) (x : Int) (w : World) (h : Pt w v p) (hp : p.few) :
    Calls Try.prog 21 #[v, .int .i64 x] w fun e w' => ∃ r, e = .returned r ∧ Below w.heap.size w w' ∧ (spPt (p.drop x)).p w' r :=
  (drop_own v p x w h hp).mono fun _ _ ⟨r, he, hb, hr⟩ => ⟨r, he, hb, pair_pt hr⟩

end Go.Proofs.Ytpcjdkldonikfaa
