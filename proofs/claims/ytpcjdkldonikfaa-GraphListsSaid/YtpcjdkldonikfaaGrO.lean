/-
  The program's Span.
-/
import Derived.Test.YtpcjdkldonikfaaGrN
namespace Go.Proofs.Ytpcjdkldonikfaa
open Go.RowKit

/-- Is a vertex an end of one of the edges? -/
def endOf (g : Gph) (v : Int) (e : Int) : Bool := decide ((getE g.e e.toNat).a = v ∨ (getE g.e e.toNat).b = v)
def endB (g : Gph) (l : List Int) (v : Int) : Bool := l.any (endOf g v)
/-- Edges and their ends. -/
def Gph.span (g : Gph) (l : List Int) : Prt := ⟨(countTo g.n.toNat).filter (endB g l), l⟩
def spanErr (g : Gph) (l : List Int) : Int := if g.err = 0 then (if riseB l g.e.length then 0 else 4) else g.err
def spanOf (g : Gph) (l : List Int) : Prt := if spanErr g l = 0 then g.span l else ⟨[], []⟩

theorem endB_zero (g : Gph) (l : List Int) (v : Int) : endB g (l.take 0) v = false := rfl
theorem endB_succ (g : Gph) (l : List Int) (v : Int) (k : Nat) (h : k < l.length) : endB g (l.take (k + 1)) v = (endB g (l.take k) v || endOf g v (getI l k)) := by
  unfold endB
  rw [take_succ_getI l k h, List.any_append]
  simp
theorem filter_succ (g : Gph) (l : List Int) (k : Nat) : (countTo (k + 1)).filter (endB g l) = (countTo k).filter (endB g l) ++ (if endB g l (k : Int) then [(k : Int)] else []) := by
  rw [countTo_succ, List.filter_append]
  congr 1
  by_cases h : endB g l (k : Int) = true
  · rw [if_pos h, List.filter_cons, if_pos h]; rfl
  · rw [if_neg h, List.filter_cons, if_neg h]; rfl
theorem filter_len (g : Gph) (l : List Int) (k : Nat) : ((countTo k).filter (endB g l)).length ≤ k := by
  have := List.length_filter_le (endB g l) (countTo k)
  rw [countTo_length] at this
  exact this

theorem Box.store0 {w : World} {b : Nat} {u v : Value} (h : Box w b u v) (u' : Value) : Box (w.setCell ⟨b, 0, none⟩ u') b u' v :=
  ⟨World.cell?_setCell_same _ _ _ h.c0, (World.cell?_setCell_other _ _ _ _ (by simp)).trans h.c1, by simpa [World.setCell] using h.lt, fun i => by rw [World.frozen?_setCell]; exact h.thaw i⟩
theorem Box.store1 {w : World} {b : Nat} {u v : Value} (h : Box w b u v) (v' : Value) : Box (w.setCell ⟨b, 1, none⟩ v') b u v' :=
  ⟨(World.cell?_setCell_other _ _ _ _ (by simp)).trans h.c0, World.cell?_setCell_same _ _ _ h.c1, by simpa [World.setCell] using h.lt, fun i => by rw [World.frozen?_setCell]; exact h.thaw i⟩
theorem Row.store {w : World} {base : Nat} {v : Value} {l : List Int} (h : Row w base v l) {b : Nat} (hb : b < base) (i : Nat) (u' : Value) : Row (w.setCell ⟨b, i, none⟩ u') base v l :=
  own_block h fun g hg => by
    have h1 := (h.lt g hg).1
    exact Below.heap_setCell _ _ _ _ (fun e => by simp only at e; omega)
/-- What lies below a base is as it was. -/
theorem Row.mid {w w' : World} {base n : Nat} {v : Value} {l : List Int} (h : Row w base v l) (hv : ∀ g, v.ownBlock = some g → g < n) (hb : Below n w w') : Row w' base v l :=
  own_block h fun g hg => hb.block g (hv g hg)

set_option maxRecDepth 100000 in
set_option maxHeartbeats 2000000 in
theorem span_any (v u : Value) (g : Gph) (l : List Int) (w : World) (h : Gr w v g) (h' : Ints w u l) (hl : g.e.length ≤ 1000000) (hp : l.length ≤ 1000000) :
    Calls Try.prog 35 #[v, u] w fun e w' => ∃ r, e = .returned (.tuple #[r, .int .i64 (spanErr g l)]) ∧ Below w.heap.size w w' ∧ (spPt (spanOf g l)).p w' r := by
  have HG := Lib.hid h
  obtain ⟨ve, rfl, h1⟩ := h
  obtain ⟨Ae, ce, rfl⟩ := h1.form
  obtain ⟨Al, cl, rfl⟩ := ints_form h'
  obtain ⟨b1, b2, hm⟩ := two_boxes w (.int .i64 g.n) (.slice Ae g.e.length ce) (.slice none 0 0) (.slice none 0 0) 24 29
  have HG2 := Lib.hid (HG.out.below hm)
  have HE := Lib.hid (h1.below hm)
  have HL := Lib.hid (h'.below hm)
  have HB1 := Lib.hid b1
  have HB2 := Lib.hid b2
  have HM := Lib.hid hm
  have HS := Lib.hid (show (w.alloc (.cells #[.int .i64 g.n, .slice Ae g.e.length ce] 24)).heap.size + 1 = w.heap.size + 2 by simp)
  clear b1 b2 hm h1 HG h'
  go_enter Try.func35, Try.ntmps35
  go_wp2_with fail
  generalize (w.alloc (.cells #[.int .i64 g.n, .slice Ae g.e.length ce] 24)).alloc (.cells #[.slice none 0 0, .slice none 0 0] 29) = w1 at *
  refine (right_any _ g _ HG2.out hl).mono ?_
  rintro e w2 ⟨rfl, hB2⟩
  have HM2 := Lib.hid (trans2 HM.out hB2)
  have HE2 := Lib.hid (HE.out.below hB2)
  have HL2 := Lib.hid (HL.out.below hB2)
  have B1 := HB1.out.below hB2
  have B2 := HB2.out.below hB2
  have c10 := B1.c0
  have c11 := B1.c1
  have c20 := B2.c0
  have c21 := B2.c1
  have f20 := B2.thaw 0
  have f21 := B2.thaw 1
  have HX1 := Lib.hid B1
  have HX2 := Lib.hid B2
  have HZ2 := Lib.hid (B2.stored (.slice none 0 0) (.slice none 0 0))
  have HZB := Lib.hid (below_stored (u' := .slice none 0 0) (v' := .slice none 0 0) HM2.out (Nat.le_succ w.heap.size))
  clear HB1 HB2 HL HE HG2 hB2 HM B1 B2 HS
  by_cases he : g.err = 0
  · have HN : Hid (g.n ≤ 1024) := err_n he
    have HEE := Lib.hid (err_ends he)
    have HN0 := Lib.hid (show 0 ≤ g.n by unfold Gph.err at he; split at he <;> omega)
    rw [he]
    go_wp2_with fail
    refine (rise_any _ l g.e.length w2 HL2.out hp).mono ?_
    rintro e w3 ⟨rfl, rfl⟩
    by_cases r2 : riseB l g.e.length = true
    · have HSE := Lib.hid (show spanErr g l = 0 by unfold spanErr; rw [if_pos he, if_pos r2])
      have HSO := Lib.hid (show spanOf g l = g.span l from if_pos HSE.out)
      have HR2 := Lib.hid (of_decide_eq_true r2 : Rises l g.e.length)
      rw [r2]
      have hz := Try.zeroFlags
      have HF0 := Lib.hid (Flags.new w2)
      have HB0 := Lib.hid (below_alloc (w := w2) (.cells noes 59))
      clear c10 c11 c20 c21 f20 f21 he r2 HZ2 HZB
      go_wp2
      generalize hw3 : w2.alloc (.cells noes 59) = w3 at *
      clear hw3
      go_loopw [27] (fun i wr => ∃ k : Nat, k ≤ l.length ∧ i = .int .i64 k ∧ Hid (Below w2.heap.size w2 wr) ∧ Hid (Flags wr w2.heap.size (fun i => endB g (l.take k) (i : Int)))) (fun i _ => l.length - (intOf i).toNat)
      case atStart => exact ⟨0, Nat.zero_le _, rfl, HB0, HF0⟩
      case round =>
        obtain ⟨k, hk, rfl, hB, hF⟩ := hrel
        rename_i wr
        by_cases hlt : k < l.length
        · obtain ⟨b, off, rfl, hb, hck⟩ := ints_at (HL2.out.below hB.out) hlt
          obtain ⟨x0, x1, _⟩ := HR2.out k hlt
          obtain ⟨i, hi⟩ : ∃ i : Nat, getI l k = (i : Int) := ⟨(getI l k).toNat, by omega⟩
          have hil : i < g.e.length := by omega
          obtain ⟨be, oe, rfl, hbe, hca, hcb⟩ := edges_at (HE2.out.below hB.out) hil
          obtain ⟨a0, a1, b0, b1⟩ := HEE.out i hil
          have hn := HN.out
          have HO := Lib.hid (fun v : Int => show endOf g v (getI l k) = decide ((getE g.e i).a = v ∨ (getE g.e i).b = v) by rw [hi]; rfl)
          have HSU := Lib.hid (fun v : Int => endB_succ g l v k hlt)
          rw [hi] at hck
          have HBB := Lib.hid hbe
          generalize (getE g.e i).a = xa at *
          generalize (getE g.e i).b = xb at *
          obtain ⟨ia, rfl⟩ : ∃ i : Nat, xa = (i : Int) := ⟨xa.toNat, by omega⟩
          obtain ⟨ib, rfl⟩ : ∃ i : Nat, xb = (i : Int) := ⟨xb.toNat, by omega⟩
          have la : ia < 1024 := by omega
          have lb : ib < 1024 := by omega
          have X1 := HX1.out.below hB.out
          have g1 := X1.c1
          have s1 := hF.out.cell la
          have s2 := hF.out.thaw ia
          have HF1 := Lib.hid (hF.out.set ia la)
          have HF2 := Lib.hid (HF1.out.set ib lb)
          have HB3 := Lib.hid (below_store (i := ib) (v := .bool true) (below_store (i := ia) (v := .bool true) hB.out (Nat.le_refl _)) (Nat.le_refl _))
          have hHB1 := below_store (i := ia) (v := .bool true) hB.out (Nat.le_refl w2.heap.size)
          have s3 := HF1.out.cell lb
          have s4 := HF1.out.thaw ib
          have g2 := (HX1.out.below hHB1).c1
          have hcb2 : (wr.setCell ⟨w2.heap.size, ia, none⟩ (.bool true)).cell? ⟨be, oe + i * 2 + 1, none⟩ = some (.int .i64 (ib : Int)) := by
            rw [World.cell?_setCell_other _ _ _ _ (fun e => by
              have h1 := edges_block HE2.out hil
              have h2 := congrArg Addr.block e
              simp only at h2
              omega)]
            exact hcb
          have HFI : Hid (∀ j : Nat, j < 1024 → ((endB g (l.take k) (j : Int) || decide (j = ia)) || decide (j = ib)) = endB g (l.take (k + 1)) (j : Int)) := fun j _ => by
            rw [HSU.out, HO.out, Bool.or_assoc, ← Bool.decide_or]
            congr 1
            refine decide_eq_decide.2 ⟨fun h => ?_, fun h => ?_⟩
            · rcases h with h | h <;> omega
            · rcases h with h | h <;> omega
          have hil' : (i : Int) < (g.e.length : Int) := by omega
          have a2 : (ia : Int) < 1024 := by omega
          have b2 : (ib : Int) < 1024 := by omega
          clear hn a1 b1 x0 x1 hi hbe hHB1 X1 HSU HO hcb hB hF
          go_wp2
          go_roundw
          case rel => exact ⟨k + 1, by omega, by go_num, HB3, Lib.hid (HF2.out.congr HFI.out)⟩
          case measure => simp [intOf]; omega
        · obtain rfl : k = l.length := by omega
          have HT := Lib.hid (List.take_length (l := l))
          rw [HT.out] at hF
          have hLL := HL2.out.below hB.out
          go_wp2_with fail
          refine (clone_any _ l wr hLL hp).mono ?_
          rintro e w5 ⟨u, rfl, hB5, hR5⟩
          have HB5 := Lib.hid (trans2 hB.out hB5)
          have HF5 := Lib.hid (hF.out.below hB5)
          have HR5 := Lib.hid (hR5.le hB.out.size)
          have HUL := Lib.hid (fun g hg => (World.ownsRow.lt hR5 g hg).2)
          clear hB hF hB5 hLL hz HB0 HF0 HEE HR2 hk hlt
          obtain ⟨A6, c6, rfl⟩ := ints_form hR5.ints
          clear hR5
          have hbx := one_box w5 (.slice none 0 0) (.slice A6 l.length c6) 29
          have HX := Lib.hid hbx.1
          have HW := Lib.hid hbx.2
          have hg := (HX1.out.below (HB5.out.trans (hbx.2.mono HB5.out.size))).c0
          clear hbx
          have hn := HN.out
          have hn0 := HN0.out
          obtain ⟨n, hgn⟩ : ∃ n : Nat, g.n = (n : Int) := ⟨g.n.toNat, by omega⟩
          have HGN := Lib.hid (show g.n.toNat = n by omega)
          have HNL := Lib.hid (show n ≤ 1024 by omega)
          have HRW := Lib.hid (fun (w9 : World) (hb : Below w5.heap.size w5 w9) => HR5.out.mid (w' := w9) HUL.out hb)
          have HSZ := Lib.hid (show (w5.alloc (.cells #[.slice none 0 0, .slice A6 l.length c6] 29)).heap.size = w5.heap.size + 1 by simp)
          rw [hgn] at hg
          clear hn hn0
          go_wp2
          generalize hw6 : w5.alloc (.cells #[.slice none 0 0, .slice A6 l.length c6] 29) = w6 at *
          clear hw6 hg
          go_loopw [51] (fun i wr => ∃ (k : Nat) (u0 : Value), k ≤ n ∧ i = .int .i64 k ∧ Hid (Below w5.heap.size w6 wr) ∧ Hid (Box wr w5.heap.size u0 (.slice A6 l.length c6)) ∧ Hid (Row wr (w5.heap.size + 1) u0 ((countTo k).filter (endB g l)))) (fun i _ => n - (intOf i).toNat)
          case atStart => exact ⟨0, _, Nat.zero_le _, rfl, Lib.hid (Below.refl _ _), HX, Lib.hid (Row.nil _ _)⟩
          case round =>
            obtain ⟨k, u0, hk, rfl, hB, hX, hR⟩ := hrel
            rename_i wr
            by_cases hlt : k < n
            · have HFS := Lib.hid (filter_succ g l k)
              have hB5 : Below w5.heap.size w5 wr := HW.out.trans hB.out
              have s1 := (HF5.out.below hB5).cell (show k < 1024 by have := HNL.out; omega)
              have hk1 : (k : Int) < 1024 := by have := HNL.out; omega
              by_cases hend : endB g l (k : Int) = true
              · rw [hend] at s1
                have HE1 := Lib.hid (show (countTo (k + 1)).filter (endB g l) = (countTo k).filter (endB g l) ++ [(k : Int)] by rw [HFS.out, if_pos hend])
                have HLN := Lib.hid (show ((countTo k).filter (endB g l)).length ≤ 4000000 by have := filter_len g l k; have := HNL.out; omega)
                have x0 := hX.out.c0
                have HBS := Lib.hid (show w5.heap.size + 1 ≤ wr.heap.size by rw [← HSZ.out]; exact hB.out.size)
                clear hend hB5
                go_wp2_with (at_builtin; refine wpList_append1 rfl _ _ rfl rfl rfl hR.out HBS.out HLN.out ?_)
                intro v7 w7 hO hB7
                have hX7 : Box w7 w5.heap.size u0 (.slice A6 l.length c6) := ⟨(hB7.cell (p := ⟨w5.heap.size, 0, none⟩) (Nat.lt_succ_self _)).trans hX.out.c0, (hB7.cell (p := ⟨w5.heap.size, 1, none⟩) (Nat.lt_succ_self _)).trans hX.out.c1, Nat.lt_of_lt_of_le hX.out.lt hB7.size, fun i => (hB7.frozen (p := ⟨w5.heap.size, i, none⟩) (Nat.lt_succ_self _)).trans (hX.out.thaw i)⟩
                obtain ⟨A7, c7, rfl⟩ := ints_form hO.ints
                have y0 := hX7.c0
                have y2 := hX7.thaw 0
                have HX8 := Lib.hid (hX7.store0 (.slice A7 ((countTo k).filter (endB g l) ++ [(k : Int)]).length c7))
                have HB8 := Lib.hid ((hB.out.trans (hB7.mono (Nat.le_succ _))).setCell (p := ⟨w5.heap.size, 0, none⟩) (Nat.le_refl _) (.slice A7 ((countTo k).filter (endB g l) ++ [(k : Int)]).length c7))
                have HO8 := Lib.hid (hO.store (Nat.lt_succ_self _) 0 (.slice A7 ((countTo k).filter (endB g l) ++ [(k : Int)]).length c7))
                clear hO hB7 hX7 x0
                generalize ((countTo k).filter (endB g l) ++ [(k : Int)]).length = ln at *
                go_wp2
                go_roundw
                case rel => exact ⟨k + 1, _, by omega, by go_num, HB8, HX8, by rw [HE1.out]; exact HO8⟩
                case measure => simp [intOf]; omega
              · rw [Bool.eq_false_iff.2 hend] at s1
                have HE1 := Lib.hid (show (countTo (k + 1)).filter (endB g l) = (countTo k).filter (endB g l) by rw [HFS.out, if_neg hend, List.append_nil])
                clear hend hB5
                go_wp2
                go_roundw
                case rel => exact ⟨k + 1, _, by omega, by go_num, hB, hX, by rw [HE1.out]; exact hR⟩
                case measure => simp [intOf]; omega
            · obtain rfl : k = n := by omega
              have hB5 : Below w5.heap.size w5 wr := HW.out.trans hB.out
              have HZ := Lib.hid (HB5.out.trans (hB5.mono HB5.out.size))
              have Z2 := HX2.out.below HZ.out
              have z0 := Z2.c0
              have z1 := Z2.c1
              have z2 := Z2.thaw 0
              have z3 := Z2.thaw 1
              obtain ⟨A7, c7, rfl⟩ := ints_form hR.out.ints
              have x0 := hX.out.c0
              have x1 := hX.out.c1
              obtain ⟨A8, c8, A9, c9, hv, W2, hB2, hPt⟩ := pair_stored (v := .agg #[.slice A7 ((countTo k).filter (endB g l)).length c7, .slice A6 l.length c6]) (p := ⟨(countTo k).filter (endB g l), l⟩) (base := w2.heap.size)
                ⟨_, _, rfl, hR.out.le (by have := HB5.out.size; omega), HRW.out _ hB5⟩ Z2 HX2.out.lt (trans2 HM2.out HZ.out) (Nat.le_succ _)
              simp only [Value.agg.injEq, Array.mk.injEq, List.cons.injEq, and_true, Value.slice.injEq, true_and] at hv
              obtain ⟨⟨rfl, rfl⟩, rfl, rfl⟩ := hv
              have HPT := Lib.hid hPt
              have HBB := Lib.hid hB2
              have HWB := Lib.hid W2
              clear hPt hB2 W2 Z2 hB5
              go_wp2
              refine bodyPost_ret (v := .tuple #[.agg #[.slice A7 ((countTo k).filter (endB g l)).length c7, .slice A6 l.length c6], .int .i64 0]) ?_ rfl ⟨_, by rw [HSE.out], HBB.out, ?_⟩
              · simp [results, Try.results35, go_sem, HWB.out.c0, HWB.out.c1]
              · rw [HSO.out]
                unfold Gph.span
                rw [HGN.out]
                exact HPT.out
    · have HSE := Lib.hid (show spanErr g l = 4 by unfold spanErr; rw [if_pos he, if_neg r2])
      have HSO := Lib.hid (show spanOf g l = ⟨[], []⟩ from if_neg (by rw [HSE.out]; decide))
      rw [Bool.eq_false_iff.2 r2]
      clear c10 c11 he r2
      go_wp2
      refine bodyPost_ret (v := .tuple #[.agg #[.slice none 0 0, .slice none 0 0], .int .i64 4]) ?_ rfl ⟨_, by rw [HSE.out], HZB.out, ?_⟩
      · simp [results, Try.results35, go_sem, HZ2.out.c0, HZ2.out.c1]
      · rw [HSO.out]; exact Pt.nil
  · have HSE := Lib.hid (show spanErr g l = g.err from if_neg he)
    have HSO := Lib.hid (show spanOf g l = ⟨[], []⟩ from if_neg (by rw [HSE.out]; exact he))
    have he' : (g.err != 0) = true := by simpa using he
    generalize g.err = ge at *
    clear c10 c11
    go_wp2
    refine bodyPost_ret (v := .tuple #[.agg #[.slice none 0 0, .slice none 0 0], .int .i64 ge]) ?_ rfl ⟨_, by rw [HSE.out], HZB.out, ?_⟩
    · simp [results, Try.results35, go_sem, HZ2.out.c0, HZ2.out.c1]
    · rw [HSO.out]; exact Pt.nil

end Go.Proofs.Ytpcjdkldonikfaa
