/-
  GrE, GrF, GrG, GrH, in one text.
-/
import Derived.Test.YtmbpmepoaonleaaGreatM02
import Derived.Test.YtmbpmepoaonleaaGreatPlan
/-! The program's upTo and Whole. -/
namespace Go.Proofs.YtmbpmepoaonleaaGreat
open Go.RowKit

/-- The numbers from 0 to n - 1. -/
def countTo (n : Nat) : List Int := (List.range n).map (fun i : Nat => (i : Int))
theorem countTo_succ (n : Nat) : countTo (n + 1) = countTo n ++ [(n : Int)] := by unfold countTo; rw [List.range_succ, List.map_append]; rfl
theorem countTo_length (n : Nat) : (countTo n).length = n := by simp [countTo]
theorem countTo_get (n j : Nat) (h : j < n) : getI (countTo n) j = (j : Int) := by unfold getI countTo; simp [h]
theorem mem_countTo (n : Nat) (x : Int) : x ∈ countTo n ↔ 0 ≤ x ∧ x < n := by
  unfold countTo
  rw [List.mem_map]
  exact ⟨fun ⟨i, h, e⟩ => by have := List.mem_range.1 h; omega, fun ⟨h1, h2⟩ => ⟨x.toNat, List.mem_range.2 (by omega), by omega⟩⟩

/-- All of a right graph. -/
def Gph.whole (g : Gph) : Prt := if g.err = 0 then ⟨countTo g.n.toNat, countTo g.e.length⟩ else ⟨[], []⟩

def spInts (l : List Int) : Sp := ⟨fun w v => Ints w v l, false, fun _ _ _ hb h => h.below hb⟩
def spPt (p : Prt) : Sp := ⟨fun w v => Pt w v p, false, fun _ _ _ hb h => h.below hb⟩

/-- v is a slice of the call's own, in a block from base on, that reads as l. -/
def Row (w : World) (base : Nat) (v : Value) (l : List Int) : Prop := w.ownsRow base 3 1 v l.length (l.map (Value.int .i64))
theorem Row.below {w w' : World} {base : Nat} {v : Value} {l : List Int} (h : Row w base v l) (hb : Below w.heap.size w w') : Row w' base v l := own_below h hb
theorem Row.ints {w : World} {base : Nat} {v : Value} {l : List Int} (h : Row w base v l) : Ints w v l := Ints.of_own h
theorem Row.nil (w : World) (base : Nat) : Row w base (.slice none 0 0) [] := World.ownsRow_nil _ _ _ _
theorem own_block {w w' : World} {base : Nat} {e : TypeId} {size : Nat} {v : Value} {n : Nat} {xs : List Value} (h : w.ownsRow base e size v n xs) (hs : ∀ g, v.ownBlock = some g → w'.heap[g]? = w.heap[g]?) : w'.ownsRow base e size v n xs := by
  refine ⟨h.1, ?_⟩
  rcases h.2 with hn | ⟨g, cap, cur, rfl, hbg, hg, rest⟩
  · exact .inl hn
  · exact .inr ⟨g, cap, cur, rfl, hbg, by rw [hs g rfl]; exact hg, rest⟩
theorem Row.le {w : World} {base base' : Nat} {v : Value} {l : List Int} (h : Row w base v l) (hb : base' ≤ base) : Row w base' v l := by
  refine ⟨h.1, ?_⟩
  rcases h.2 with hn | ⟨g, cap, cur, rfl, hbg, rest⟩
  · exact .inl hn
  · exact .inr ⟨g, cap, cur, rfl, by omega, rest⟩
theorem Row.stored {w : World} {base : Nat} {v : Value} {l : List Int} (h : Row w base v l) {b : Nat} (hb : b < base) (u' v' : Value) : Row ((w.setCell ⟨b, 0, none⟩ u').setCell ⟨b, 1, none⟩ v') base v l :=
  own_block h fun g hg => by
    have h1 := (h.lt g hg).1
    exact (Below.heap_setCell _ _ _ _ (fun e => by simp only at e; omega)).trans (Below.heap_setCell _ _ _ _ (fun e => by simp only at e; omega))
/-- Two lists of the call's own, as a part. -/
def spPair (base : Nat) (p : Prt) : Sp := ⟨fun w v => ∃ v1 v2, v = .agg #[v1, v2] ∧ Row w base v1 p.v ∧ Row w base v2 p.e, false, fun _ _ _ hb ⟨v1, v2, e, h1, h2⟩ => ⟨v1, v2, e, h1.below hb, h2.below hb⟩⟩

/-- A part that is stored as a function's result. -/
theorem pair_stored {w wz : World} {base n b : Nat} {v : Value} {p : Prt} {x y : Value} (h : (spPair base p).p wz v) (hz : Box wz b x y) (hb : b < base) (hB : Below n w wz) (hn : n ≤ b) :
    ∃ A1 c1 A2 c2, v = .agg #[.slice A1 p.v.length c1, .slice A2 p.e.length c2] ∧
      Box ((wz.setCell ⟨b, 0, none⟩ (.slice A1 p.v.length c1)).setCell ⟨b, 1, none⟩ (.slice A2 p.e.length c2)) b (.slice A1 p.v.length c1) (.slice A2 p.e.length c2) ∧
      Below n w ((wz.setCell ⟨b, 0, none⟩ (.slice A1 p.v.length c1)).setCell ⟨b, 1, none⟩ (.slice A2 p.e.length c2)) ∧
      Pt ((wz.setCell ⟨b, 0, none⟩ (.slice A1 p.v.length c1)).setCell ⟨b, 1, none⟩ (.slice A2 p.e.length c2)) v p := by
  obtain ⟨v1, v2, rfl, h1, h2⟩ := h
  obtain ⟨A1, c1, rfl⟩ := ints_form h1.ints
  obtain ⟨A2, c2, rfl⟩ := ints_form h2.ints
  exact ⟨A1, c1, A2, c2, rfl, hz.stored _ _, below_stored hB hn, _, _, rfl, (h1.stored hb _ _).ints, (h2.stored hb _ _).ints⟩

end Go.Proofs.YtmbpmepoaonleaaGreat

/-! Darts: which vertex each leaves and comes to; the program's Ends, the document's Tail, Head, Twin. -/
namespace Go.Proofs.YtmbpmepoaonleaaGreat
open Go.RowKit

def tailOf (g : Gph) (d : Nat) : Int := if d % 2 = 0 then (getE g.e (d / 2)).a else (getE g.e (d / 2)).b
def twin (d : Nat) : Nat := if d % 2 = 0 then d + 1 else d - 1
theorem twin_even {d : Nat} (h : d % 2 = 0) : twin d = d + 1 := if_pos h
theorem twin_odd {d : Nat} (h : ¬ d % 2 = 0) : twin d = d - 1 := if_neg h
theorem quo_nat (d : Nat) : ((d : Int)).tdiv 2 = ((d / 2 : Nat) : Int) := by rw [Int.tdiv_eq_ediv_of_nonneg (by omega)]; rfl
theorem rem_nat (d : Nat) : ((d : Int)).tmod 2 = ((d % 2 : Nat) : Int) := by rw [Int.tmod_eq_emod_of_nonneg (by omega)]; rfl

set_option maxRecDepth 100000 in
set_option maxHeartbeats 1000000 in
theorem twin_any (d : Nat) (w : World) (hd : d ≤ 4000000) :
    Calls Tryz.prog 54 #[.int .i64 (d : Int)] w fun e w' => e = .returned (.int .i64 (twin d : Nat)) ∧ w = w' := by
  have hr := rem_nat d
  by_cases h : d % 2 = 0
  · have HN : Hid (((twin d : Nat) : Int) = (d : Int) + 1) := by rw [twin_even h]; rfl
    rw [h] at hr
    clear h
    go_enter Tryz.func54, Tryz.ntmps54
    go_wp2
    go_ret
    exact ⟨ret_int HN.out.symm, rfl⟩
  · have HN := Lib.hid (show ((twin d : Nat) : Int) = (d : Int) - 1 by rw [twin_odd h]; omega)
    have h1 : d % 2 = 1 := by omega
    rw [h1] at hr
    clear h h1
    go_enter Tryz.func54, Tryz.ntmps54
    go_wp2
    go_ret
    exact ⟨ret_int HN.out.symm, rfl⟩

set_option maxRecDepth 100000 in
set_option maxHeartbeats 1000000 in
theorem tail_any (v : Value) (g : Gph) (d : Nat) (w : World) (h : Gr w v g) (hd : d < 2 * g.e.length) (hl : g.e.length ≤ 1000000) :
    Calls Tryz.prog 89 #[v, .int .i64 (d : Int)] w fun e w' => e = .returned (.int .i64 (tailOf g d)) ∧ Below w.heap.size w w' := by
  obtain ⟨ve, rfl, h1⟩ := h
  obtain ⟨Ae, ce, rfl⟩ := h1.form
  obtain ⟨b1, hm⟩ := one_box w (.int .i64 g.n) (.slice Ae g.e.length ce) 24
  obtain ⟨be, oe, rfl, hbe, hca, hcb⟩ := edges_at (h1.below hm) (show d / 2 < g.e.length by omega)
  have c0 := b1.c0
  have c1 := b1.c1
  have HM := Lib.hid hm
  have hr := rem_nat d
  have hq := quo_nat d
  have hlt : ((d / 2 : Nat) : Int) < (g.e.length : Int) := by omega
  have h0 : (0 : Int) ≤ ((d / 2 : Nat) : Int) := by omega
  generalize hi : d / 2 = i at *
  clear b1 hm
  by_cases h2 : d % 2 = 0
  · have HN := Lib.hid (show (getE g.e i).a = tailOf g d by unfold tailOf; rw [if_pos h2, hi])
    rw [h2] at hr
    clear h2
    go_enter Tryz.func89, Tryz.ntmps89
    go_wp2
    go_ret
    exact ⟨ret_int HN.out, HM.out⟩
  · have HN := Lib.hid (show (getE g.e i).b = tailOf g d by unfold tailOf; rw [if_neg h2, hi])
    have h3 : d % 2 = 1 := by omega
    rw [h3] at hr
    clear h2 h3
    go_enter Tryz.func89, Tryz.ntmps89
    go_wp2
    go_ret
    exact ⟨ret_int HN.out, HM.out⟩

end Go.Proofs.YtmbpmepoaonleaaGreat

/-! The program's Ends. -/
namespace Go.Proofs.YtmbpmepoaonleaaGreat
open Go.RowKit

end Go.Proofs.YtmbpmepoaonleaaGreat

/-! Darts: the program's and the document's. -/
namespace Go.Proofs.YtmbpmepoaonleaaGreat
open Go.RowKit

/-- append(l, x): the list has one number more. -/
theorem wpList_append1 {wr : World} {ops : Array Oper} {rest : List Oper} {o : Oper} {a : Act} {Q : Exit → Act → World → Prop} (hgd : o.guard = none) (s x : Operand)
    (ho : o.op = .call { callee := .builtin .append, args := #[s, x], argTypes := #[25, 25] })
    {base : Nat} {v : Value} {L : List Int} {z : Int} (hs : a.eval s = v) (hx : a.eval x = .slice (some ⟨wr.heap.size, 0, none⟩) 1 1) (hown : Row wr base v L) (hbase : base ≤ wr.heap.size) (hL : L.length ≤ 4000000)
    (h : ∀ v' w', Row w' base v' (L ++ [z]) → Below base wr w' → wpList Tryz.prog ops Q rest (a.put o.dst v') w') : wpList Tryz.prog ops Q (o :: rest) a (wr.alloc (.cells #[.int .i64 z] 3)) := by
  obtain ⟨i0, hi, hz0, hz1, hz2⟩ := info_parts Tryz.infoInt
  refine wpList_append_own _ hgd s x 25 ho base 3 i0 _ 1 8 Tryz.underlying25 hi hz0 hz1 hz2 rfl (by decide) v L.length (L.map (Value.int .i64)) hs (World.ownsRow.alloc hown _) ⟨wr.heap.size, 0, none⟩ 1 1 [.int .i64 z] hx rfl (cell_one_new _ _ _) (by simp [Value.oneCell']) (by unfold maxLen; omega) (by omega) (by simp; omega) ?_
  intro v' w1 h1 h2 _
  refine h v' w1 ?_ (((Below.refl base wr).alloc hbase _).grown h2 (by simp; omega) (fun k hk => (World.ownsRow.lt hown k hk).1))
  show w1.ownsRow _ _ _ _ _ _
  rw [List.length_append, List.map_append]
  exact h1

/-- The darts of an edge that leave v. -/
def dOf (g : Gph) (v : Int) (e : Int) : List Int := (if (getE g.e e.toNat).a = v then [2 * e] else []) ++ (if (getE g.e e.toNat).b = v then [2 * e + 1] else [])
def dartsL (g : Gph) (v : Int) (l : List Int) : List Int := l.flatMap (dOf g v)
theorem dartsL_succ (g : Gph) (v : Int) (l : List Int) (k : Nat) (h : k < l.length) : dartsL g v (l.take (k + 1)) = dartsL g v (l.take k) ++ dOf g v (getI l k) := by
  rw [take_succ_getI l k h]
  simp [dartsL]
theorem dOf_len (g : Gph) (v e : Int) : (dOf g v e).length ≤ 2 := by unfold dOf; split <;> split <;> simp
theorem dartsL_len (g : Gph) (v : Int) : ∀ l, (dartsL g v l).length ≤ 2 * l.length
  | [] => Nat.le_refl _
  | e :: l => by
    have h1 := dartsL_len g v l
    have h2 := dOf_len g v e
    simp only [dartsL, List.flatMap_cons, List.length_append, List.length_cons] at h1 ⊢
    omega

theorem perr_rises {g : Gph} {p : Prt} (h : perr g p = 0) : g.err = 0 ∧ Rises p.v g.n ∧ Rises p.e g.e.length ∧ ∀ e ∈ p.e, (getE g.e e.toNat).a ∈ p.v ∧ (getE g.e e.toNat).b ∈ p.v := by
  unfold perr at h
  split at h
  · rename_i he
    split at h
    · rename_i hr
      rw [Bool.and_eq_true] at hr
      split at h
      · rename_i ha
        rw [List.all_eq_true] at ha
        refine ⟨he, of_decide_eq_true hr.1, of_decide_eq_true hr.2, fun e he' => ?_⟩
        have := ha e he'
        unfold endsIn at this
        rw [Bool.and_eq_true] at this
        exact ⟨of_decide_eq_true this.1, of_decide_eq_true this.2⟩
      · omega
    · omega
  · rename_i he; exact absurd h he

end Go.Proofs.YtmbpmepoaonleaaGreat
