/-
  GrN, GrO, GrT, GrU, in one text.
-/
import Derived.Test.YtmbpmepoaonleaaGreatM04
import Derived.Lib.SlKeysI
import Derived.Test.YtmbpmepoaonleaaGreatM05
import Derived.Lib.AppendZeros
/-! The program's Drop. -/
namespace Go.Proofs.YtmbpmepoaonleaaGreat
open Go.RowKit Go.Shelf Go.Sort Go.Lib

/-- The part without an edge. -/
def dropL (l : List Int) (x : Int) : List Int := l.filter fun y => !decide (y = x)
def Prt.drop (p : Prt) (x : Int) : Prt := ⟨p.v, dropL p.e x⟩

end Go.Proofs.YtmbpmepoaonleaaGreat

/-! The program's Span. -/
namespace Go.Proofs.YtmbpmepoaonleaaGreat
open Go.RowKit

theorem Box.store0 {w : World} {b : Nat} {u v : Value} (h : Box w b u v) (u' : Value) : Box (w.setCell ⟨b, 0, none⟩ u') b u' v :=
  ⟨World.cell?_setCell_same _ _ _ h.c0, (World.cell?_setCell_other _ _ _ _ (by simp)).trans h.c1, by simpa [World.setCell] using h.lt, fun i => by rw [World.frozen?_setCell]; exact h.thaw i⟩
theorem Box.store1 {w : World} {b : Nat} {u v : Value} (h : Box w b u v) (v' : Value) : Box (w.setCell ⟨b, 1, none⟩ v') b u v' :=
  ⟨(World.cell?_setCell_other _ _ _ _ (by simp)).trans h.c0, World.cell?_setCell_same _ _ _ h.c1, by simpa [World.setCell] using h.lt, fun i => by rw [World.frozen?_setCell]; exact h.thaw i⟩
theorem Row.store {w : World} {base : Nat} {v : Value} {l : List Int} (h : Row w base v l) {b : Nat} (hb : b < base) (i : Nat) (u' : Value) : Row (w.setCell ⟨b, i, none⟩ u') base v l :=
  own_block h fun g hg => by
    have h1 := (h.lt g hg).1
    exact Below.heap_setCell _ _ _ _ (fun e => by simp only at e; omega)
/-- What lies below a base is as it was. -/
theorem Row.mid {w w' : World} {base n : Nat} {v : Value} {l : List Int} (h : Row w base v l) (hv : ∀ g, v.ownBlock = some g → g < n) (hb : Below n w w') : Row w' base v l :=
  own_block h fun g hg => hb.block g (hv g hg)

end Go.Proofs.YtmbpmepoaonleaaGreat

/-! The document's Whole. -/
namespace Go.Proofs.YtmbpmepoaonleaaGreat
open Go.RowKit

/-- A box keeps where what lies below it has not changed. -/
theorem Box.keep {w w' : World} {b n : Nat} {u v : Value} (h : Box w b u v) (hb : Below n w w') (hn : b < n) : Box w' b u v :=
  ⟨(hb.cell (p := ⟨b, 0, none⟩) hn).trans h.c0, (hb.cell (p := ⟨b, 1, none⟩) hn).trans h.c1, Nat.lt_of_lt_of_le h.lt hb.size, fun i => (hb.frozen (p := ⟨b, i, none⟩) hn).trans (h.thaw i)⟩

set_option maxRecDepth 100000 in
set_option maxHeartbeats 2000000 in
theorem rwhole_any (v : Value) (g : Gph) (n : Nat) (w : World) (h : Gr w v g) (hn : g.n = (n : Int)) (hn1 : n ≤ 1000000) (hl : g.e.length ≤ 1000000) :
    Calls Tryz.prog 31 #[v] w fun e w' => ∃ u, e = .returned u ∧ Below w.heap.size w w' ∧ (spPt ⟨countTo n, countTo g.e.length⟩).p w' u := by
  obtain ⟨ve, rfl, h1⟩ := h
  obtain ⟨Ae, ce, rfl⟩ := h1.form
  rw [hn]
  obtain ⟨b1, b2, b3, hm⟩ := three_boxes w (.int .i64 (n : Int)) (.slice Ae g.e.length ce) (.slice none 0 0) (.slice none 0 0) (.slice none 0 0) (.slice none 0 0) 24 27 27
  have HB1 := Lib.hid b1
  have HB2 := Lib.hid b2
  have HB3 := Lib.hid b3
  have HM := Lib.hid hm
  clear b1 b2 b3 hm h1
  go_enter Tryz.func31, Tryz.ntmps31
  go_wp2
  generalize ((w.alloc (.cells #[.int .i64 (n : Int), .slice Ae g.e.length ce] 24)).alloc (.cells #[.slice none 0 0, .slice none 0 0] 27)).alloc (.cells #[.slice none 0 0, .slice none 0 0] 27) = w1 at *
  have HSZ := Lib.hid (show w.heap.size + 2 + 1 ≤ w1.heap.size by have := HB3.out.lt; omega)
  go_loopw [4] (fun i wr => ∃ (k : Nat) (u0 : Value), k ≤ n ∧ i = .int .i64 k ∧ Hid (Below (w.heap.size + 2) w1 wr) ∧ Hid (Box wr (w.heap.size + 2) u0 (.slice none 0 0)) ∧ Hid (Row wr (w.heap.size + 2 + 1) u0 (countTo k))) (fun i _ => n - (Go.RowKit.intOf i).toNat)
  case atStart => exact ⟨0, _, Nat.zero_le _, rfl, Lib.hid (Below.refl _ _), HB3, Lib.hid (Row.nil _ _)⟩
  case round =>
    obtain ⟨k, u0, hk, rfl, hB, hX, hR⟩ := hrel
    have X1 := HB1.out.keep hB.out (by omega)
    have x1 := X1.c0
    by_cases hlt : k < n
    · have HE1 := Lib.hid (countTo_succ k)
      have HLN := Lib.hid (show (countTo k).length ≤ 4000000 by rw [countTo_length]; omega)
      have x0 := hX.out.c0
      have HBS := Lib.hid (show w.heap.size + 2 + 1 ≤ wr.heap.size from Nat.le_trans HSZ.out hB.out.size)
      clear X1
      go_wp2_with (at_builtin; refine wpList_append1 rfl _ _ rfl rfl rfl hR.out HBS.out HLN.out ?_)
      intro v7 w7 hO hB7
      have hX7 := hX.out.keep hB7 (Nat.lt_succ_self _)
      obtain ⟨A7, c7, rfl⟩ := ints_form hO.ints
      have y0 := hX7.c0
      have y2 := hX7.thaw 0
      have HX8 := Lib.hid (hX7.store0 (.slice A7 (countTo k ++ [(k : Int)]).length c7))
      have HB8 := Lib.hid ((hB.out.trans (hB7.mono (Nat.le_succ _))).setCell (p := ⟨w.heap.size + 2, 0, none⟩) (Nat.le_refl _) (.slice A7 (countTo k ++ [(k : Int)]).length c7))
      have HO8 := Lib.hid (hO.store (Nat.lt_succ_self _) 0 (.slice A7 (countTo k ++ [(k : Int)]).length c7))
      clear hO hB7 hX7 x0 x1
      generalize (countTo k ++ [(k : Int)]).length = ln at *
      go_wp2
      go_roundw
      case rel => exact ⟨k + 1, _, by omega, by go_num, HB8, HX8, by rw [HE1.out]; exact HO8⟩
      case measure => simp [Go.RowKit.intOf]; omega
    · obtain rfl : k = n := by omega
      obtain ⟨wo, hwo⟩ : ∃ z, z = wr := ⟨_, rfl⟩
      subst hwo
      have HUL := Lib.hid (fun g hg => (World.ownsRow.lt hR.out g hg).2)
      have HBV := Lib.hid hB.out.size
      have hB0 := hB.out
      have hR0 := hR
      have hX0 := hX
      clear X1 hR hX hB
      go_wp2
      clear x1
      go_loopw [5] (fun i wq => ∃ (j : Nat) (u1 : Value), j ≤ g.e.length ∧ i = .int .i64 j ∧ Hid (Below (w.heap.size + 2) w1 wq) ∧ Hid (Box wq (w.heap.size + 2) u0 u1) ∧ Hid (Row wq wo.heap.size u1 (countTo j)) ∧ Hid (Row wq (w.heap.size + 2 + 1) u0 (countTo k)) ∧ Hid (wo.heap.size ≤ wq.heap.size)) (fun i _ => g.e.length - (Go.RowKit.intOf i).toNat)
      case atStart => exact ⟨0, _, Nat.zero_le _, rfl, Lib.hid hB0, hX0, Lib.hid (Row.nil _ _), hR0, Lib.hid (Nat.le_refl _)⟩
      case round =>
        obtain ⟨j, u1, hj, rfl, hB, hX, hR, hV, hS⟩ := hrel
        have X1 := HB1.out.keep hB.out (by omega)
        have x1 := X1.c1
        by_cases hlt : j < g.e.length
        · have HE1 := Lib.hid (countTo_succ j)
          have HLN := Lib.hid (show (countTo j).length ≤ 4000000 by rw [countTo_length]; omega)
          have x0 := hX.out.c1
          have HBS := Lib.hid (show w.heap.size + 2 < wo.heap.size from Nat.lt_of_lt_of_le HSZ.out HBV.out)
          clear X1 hB0 hR0 hX0
          go_wp2_with (at_builtin; refine wpList_append1 rfl _ _ rfl rfl rfl hR.out hS.out HLN.out ?_)
          intro v7 w7 hO hB7
          have hX7 := hX.out.keep hB7 HBS.out
          obtain ⟨A7, c7, rfl⟩ := ints_form hO.ints
          have y0 := hX7.c1
          have y2 := hX7.thaw 1
          have HX8 := Lib.hid (hX7.store1 (.slice A7 (countTo j ++ [(j : Int)]).length c7))
          have HB8 := Lib.hid ((hB.out.trans (hB7.mono (Nat.le_of_lt HBS.out))).setCell (p := ⟨w.heap.size + 2, 1, none⟩) (Nat.le_refl _) (.slice A7 (countTo j ++ [(j : Int)]).length c7))
          have HO8 := Lib.hid (hO.store HBS.out 1 (.slice A7 (countTo j ++ [(j : Int)]).length c7))
          have HV8 := Lib.hid (Row.store (hV.out.mid (n := wo.heap.size) HUL.out hB7) (Nat.lt_succ_self _) 1 (.slice A7 (countTo j ++ [(j : Int)]).length c7))
          have HS8 := Lib.hid (show wo.heap.size ≤ (w7.setCell ⟨w.heap.size + 2, 1, none⟩ (.slice A7 (countTo j ++ [(j : Int)]).length c7)).heap.size by have := hB7.size; have := hS.out; simp [World.setCell]; omega)
          clear hO hB7 hX7 x0 x1
          generalize (countTo j ++ [(j : Int)]).length = ln at *
          go_wp2
          go_roundw
          case rel => exact ⟨j + 1, _, by omega, by go_num, HB8, HX8, by rw [HE1.out]; exact HO8, HV8, HS8⟩
          case measure => simp [Go.RowKit.intOf]; omega
        · obtain rfl : j = g.e.length := by omega
          have Z2 := HB2.out.keep hB.out (by omega)
          have z0 := Z2.c0
          have z1 := Z2.c1
          have z2 := Z2.thaw 0
          have z3 := Z2.thaw 1
          obtain ⟨A7, c7, hu0⟩ := ints_form hV.out.ints
          obtain ⟨A6, c6, hu1⟩ := ints_form hR.out.ints
          subst hu0 hu1
          have x0 := hX.out.c0
          have x1' := hX.out.c1
          obtain ⟨A8, c8, A9, c9, hv, W2, hBB, hPt⟩ := pair_stored (v := .agg #[.slice A7 (countTo k).length c7, .slice A6 (countTo g.e.length).length c6]) (p := ⟨countTo k, countTo g.e.length⟩) (base := w.heap.size + 2)
            ⟨_, _, rfl, hV.out.le (Nat.le_succ _), hR.out.le (by have := HSZ.out; have := HBV.out; omega)⟩ Z2 (by omega) (HM.out.trans (hB.out.mono (by omega))) (Nat.le_succ _)
          simp only [Value.agg.injEq, Array.mk.injEq, List.cons.injEq, and_true, Value.slice.injEq, true_and] at hv
          obtain ⟨⟨rfl, rfl⟩, rfl, rfl⟩ := hv
          have HPT := Lib.hid hPt
          have HBB := Lib.hid hBB
          have HWB := Lib.hid W2
          clear hPt hBB W2 Z2 hB0 hR0 hX0 X1
          go_wp2
          refine bodyPost_ret (v := .agg #[.slice A7 (countTo k).length c7, .slice A6 (countTo g.e.length).length c6]) ?_ rfl ⟨_, rfl, HBB.out, HPT.out⟩
          simp [results, Tryz.results31, go_sem, HWB.out.c0, HWB.out.c1]

end Go.Proofs.YtmbpmepoaonleaaGreat

/-! The document's Span. -/
namespace Go.Proofs.YtmbpmepoaonleaaGreat
open Go.RowKit

theorem run_append_empty {P : Program} {w : World} {base n : Nat} {t ty e : TypeId} {i : TypeInfo} {size : Nat} {v : Value} {xs : List Value} (ht : P.underlying t = some (.slice e)) (hi : P.info? e = some i)
    (hown : w.ownsRow base e size v n xs) (A' : Option Addr) (cap' : Nat) : (Builtin.append_ #[t, t] ty #[v, .slice A' 0 cap']).run P w = .ok v w := by
  rcases hown.2 with ⟨rfl, rfl⟩ | ⟨g, cap, cur, rfl, _, _, hnc, _⟩
  · cases A' <;> simp [Builtin.append_, run_underlying ht, sizeOf, typeInfo, hi, Builtin.lenOf, Builtin.firstCells, loadCells, loadCellsFrom]
  · cases A' <;> simp [Builtin.append_, run_underlying ht, sizeOf, typeInfo, hi, Builtin.lenOf, Builtin.firstCells, hnc, storeCells, loadCells, loadCellsFrom]

/-- append(l, m..): a whole list behind another. -/
theorem wpList_append_all {w : World} {ops : Array Oper} {rest : List Oper} {o : Oper} {a : Act} {Q : Exit → Act → World → Prop} (hgd : o.guard = none) (s x : Operand)
    (ho : o.op = .call { callee := .builtin .append, args := #[s, x], argTypes := #[25, 25] })
    {base : Nat} {v : Value} {L : List Int} (hs : a.eval s = v) (hown : Row w base v L) {u : Value} {m : List Int} (hx : a.eval x = u) (hI : Ints w u m) (h63 : L.length + m.length ≤ 4000000) (hbase : base ≤ w.heap.size)
    (h : ∀ v' w', Row w' base v' (L ++ m) → Below base w w' → wpList Tryz.prog ops Q rest (a.put o.dst v') w') : wpList Tryz.prog ops Q (o :: rest) a w := by
  obtain ⟨i0, hi, hz0, hz1, hz2⟩ := info_parts Tryz.infoInt
  obtain ⟨A', cap', rfl, hc, _, hr⟩ := hI
  by_cases h0 : m.length = 0
  · have e0 : m = [] := List.length_eq_zero_iff.1 h0
    subst e0
    refine Lib.wpList_append_run w hgd s x 25 25 ho v (.slice A' 0 cap') hs hx v w (run_append_empty Tryz.underlying25 hi hown A' cap') (h v w ?_ (Below.refl _ _))
    rw [List.append_nil]; exact hown
  · obtain ⟨b, off, rfl, hb, hg⟩ := hr (by omega)
    refine wpList_append_own w hgd s x 25 ho base 3 i0 (.int .i64 0) 1 8 Tryz.underlying25 hi hz0 hz1 hz2 rfl (by decide) v L.length (L.map (Value.int .i64)) hs hown ⟨b, off, none⟩ m.length cap' (m.map (Value.int .i64)) hx (by simp) (fun j u hu => ?_) (fun u hu => by obtain ⟨z, _, rfl⟩ := List.mem_map.1 hu; rfl) (by unfold maxLen; omega) (by omega) hbase fun v' w' h1 h2 _ => h v' w' ?_ ((Below.refl base w).grown h2 hbase (fun k hk => (World.ownsRow.lt hown k hk).1))
    · rw [List.getElem?_eq_some_iff] at hu
      obtain ⟨hj, hu⟩ := hu
      simp at hj
      rw [← hu, List.getElem_map, ← getI_of m j hj, Addr.add_lit]
      exact hg j hj
    · show w'.ownsRow _ _ _ _ _ _
      rw [List.length_append, List.map_append]
      exact h1

end Go.Proofs.YtmbpmepoaonleaaGreat
