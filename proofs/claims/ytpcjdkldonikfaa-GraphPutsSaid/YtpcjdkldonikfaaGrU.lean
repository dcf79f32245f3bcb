/-
  The document's Span.
-/
import Derived.Test.YtpcjdkldonikfaaGrT
import Derived.Lib.AppendZeros
namespace Go.Proofs.Ytpcjdkldonikfaa
open Go.RowKit

theorem run_append_empty {P : Program} {w : World} {base n : Nat} {t ty e : TypeId} {i : TypeInfo} {size : Nat} {v : Value} {xs : List Value} (ht : P.underlying t = some (.slice e)) (hi : P.info? e = some i)
    (hown : w.ownsRow base e size v n xs) (A' : Option Addr) (cap' : Nat) : (Builtin.append_ #[t, t] ty #[v, .slice A' 0 cap']).run P w = .ok v w := by
  rcases hown.2 with ⟨rfl, rfl⟩ | ⟨g, cap, cur, rfl, _, _, hnc, _⟩
  · cases A' <;> simp [Builtin.append_, run_underlying ht, sizeOf, typeInfo, hi, Builtin.lenOf, Builtin.firstCells, loadCells, loadCellsFrom]
  · cases A' <;> simp [Builtin.append_, run_underlying ht, sizeOf, typeInfo, hi, Builtin.lenOf, Builtin.firstCells, hnc, storeCells, loadCells, loadCellsFrom]

/-- append(l, m..): a whole list behind another. -/
theorem wpList_append_all {w : World} {ops : Array Oper} {rest : List Oper} {o : Oper} {a : Act} {Q : Exit → Act → World → Prop} (hgd : o.guard = none) (s x : Operand)
    (ho : o.op = .call { callee := .builtin .append, args := #[s, x], argTypes := #[27, 27] })
    {base : Nat} {v : Value} {L : List Int} (hs : a.eval s = v) (hown : Row w base v L) {u : Value} {m : List Int} (hx : a.eval x = u) (hI : Ints w u m) (h63 : L.length + m.length ≤ 4000000) (hbase : base ≤ w.heap.size)
    (h : ∀ v' w', Row w' base v' (L ++ m) → Below base w w' → wpList Try.prog ops Q rest (a.put o.dst v') w') : wpList Try.prog ops Q (o :: rest) a w := by
  obtain ⟨i0, hi, hz0, hz1, hz2⟩ := info_parts Try.infoInt
  obtain ⟨A', cap', rfl, hc, _, hr⟩ := hI
  by_cases h0 : m.length = 0
  · have e0 : m = [] := List.length_eq_zero_iff.1 h0
    subst e0
    refine Lib.wpList_append_run w hgd s x 27 27 ho v (.slice A' 0 cap') hs hx v w (run_append_empty Try.underlying27 hi hown A' cap') (h v w ?_ (Below.refl _ _))
    rw [List.append_nil]; exact hown
  · obtain ⟨b, off, rfl, hb, hg⟩ := hr (by omega)
    refine wpList_append_own w hgd s x 27 ho base 3 i0 (.int .i64 0) 1 8 Try.underlying27 hi hz0 hz1 hz2 rfl (by decide) v L.length (L.map (Value.int .i64)) hs hown ⟨b, off, none⟩ m.length cap' (m.map (Value.int .i64)) hx (by simp) (fun j u hu => ?_) (fun u hu => by obtain ⟨z, _, rfl⟩ := List.mem_map.1 hu; rfl) (by unfold maxLen; omega) (by omega) hbase fun v' w' h1 h2 _ => h v' w' ?_ ((Below.refl base w).grown h2 hbase (fun k hk => (World.ownsRow.lt hown k hk).1))
    · rw [List.getElem?_eq_some_iff] at hu
      obtain ⟨hj, hu⟩ := hu
      simp at hj
      rw [← hu, List.getElem_map, ← getI_of m j hj, Addr.add_lit]
      exact hg j hj
    · show w'.ownsRow _ _ _ _ _ _
      rw [List.length_append, List.map_append]
      exact h1

theorem endB_none {g : Gph} {l : List Int} {v : Int} (h : ∀ j, j < l.length → endOf g v (getI l j) = false) : endB g l v = false := by
  unfold endB
  rw [Bool.eq_false_iff]
  intro ha
  rw [List.any_eq_true] at ha
  obtain ⟨x, hx, he⟩ := ha
  obtain ⟨j, hj, rfl⟩ := (mem_getI l x).1 hx
  rw [h j hj] at he; cases he
theorem endB_hit {g : Gph} {l : List Int} {v : Int} {j : Nat} (hj : j < l.length) (h : endOf g v (getI l j) = true) : endB g l v = true := by
  unfold endB
  rw [List.any_eq_true]
  exact ⟨_, (mem_getI l _).2 ⟨j, hj, rfl⟩, h⟩

set_option maxRecDepth 100000 in
set_option maxHeartbeats 4000000 in
theorem rspan_any (v u : Value) (g : Gph) (l : List Int) (n : Nat) (w : World) (h : Gr w v g) (h' : Ints w u l) (hn : g.n = (n : Int)) (hn1 : n ≤ 1000000) (hp : l.length ≤ 1000000) (hr : Rises l g.e.length) :
    Calls Try.prog 36 #[v, u] w fun e w' => ∃ r, e = .returned r ∧ Below w.heap.size w w' ∧ (spPt (g.span l)).p w' r := by
  have HR := Lib.hid hr
  have HSP := Lib.hid (show g.span l = ⟨(countTo n).filter (endB g l), l⟩ by unfold Gph.span; rw [hn, Int.toNat_natCast])
  obtain ⟨ve, rfl, h1⟩ := h
  obtain ⟨Ae, ce, rfl⟩ := h1.form
  obtain ⟨Al, cl, rfl⟩ := ints_form h'
  rw [hn]
  obtain ⟨b1, b2, b3, hm⟩ := three_boxes w (.int .i64 (n : Int)) (.slice Ae g.e.length ce) (.slice none 0 0) (.slice none 0 0) (.slice none 0 0) (.slice none 0 0) 24 29 29
  have HE := Lib.hid h1
  have HLw := Lib.hid h'
  have HL := Lib.hid (h'.below hm)
  have HB1 := Lib.hid b1
  have HB2 := Lib.hid b2
  have c31 := b3.c1
  have HB3 := Lib.hid b3
  have HM := Lib.hid hm
  clear b1 b2 b3 hm h1 h' hr
  go_enter Try.func36, Try.ntmps36
  go_wp2_with (at_builtin; refine wpList_append_all rfl _ _ rfl rfl (Row.nil _ _) rfl HL.out (by simp; omega) (Nat.le_refl _) ?_)
  intro v2 w2 hO2 hB2
  generalize ((w.alloc (.cells #[.int .i64 (n : Int), .slice Ae g.e.length ce] 24)).alloc (.cells #[.slice none 0 0, .slice none 0 0] 29)).alloc (.cells #[.slice none 0 0, .slice none 0 0] 29) = w1 at *
  have HSZ := Lib.hid (show w.heap.size + 2 + 1 ≤ w1.heap.size by have := HB3.out.lt; omega)
  replace hO2 : Row w2 (w.heap.size + 2 + 1) v2 l := hO2
  replace hB2 : Below (w.heap.size + 2 + 1) w1 w2 := hB2
  obtain ⟨A6, c6, rfl⟩ := ints_form hO2.ints
  have hX2 := HB3.out.keep hB2 (Nat.lt_succ_self _)
  have y1 := hX2.c1
  have y2 := hX2.thaw 1
  have HX3 := Lib.hid (hX2.store1 (.slice A6 l.length c6))
  have HR3 := Lib.hid (Row.store hO2 (Nat.lt_succ_self _) 1 (.slice A6 l.length c6))
  have HB3' := Lib.hid ((hB2.mono (Nat.le_succ _)).setCell (p := ⟨w.heap.size + 2, 1, none⟩) (Nat.le_refl _) (.slice A6 l.length c6))
  clear c31 hO2 hB2 hX2
  go_wp2
  generalize w2.setCell ⟨w.heap.size + 2, 1, none⟩ (.slice A6 l.length c6) = w3 at *
  have HUL := Lib.hid (fun g hg => (World.ownsRow.lt HR3.out g hg).2)
  clear y1 y2
  go_loopw [6] (fun i wq => ∃ (k : Nat) (u0 : Value), k ≤ n ∧ i = .int .i64 k ∧ Hid (Below (w.heap.size + 2) w1 wq) ∧ Hid (Box wq (w.heap.size + 2) u0 (.slice A6 l.length c6)) ∧ Hid (Row wq (w.heap.size + 2 + 1) (.slice A6 l.length c6) l) ∧ Hid (Row wq w3.heap.size u0 ((countTo k).filter (endB g l))) ∧ Hid (w3.heap.size ≤ wq.heap.size)) (fun i _ => n - (intOf i).toNat)
  case atStart => exact ⟨0, _, Nat.zero_le _, rfl, HB3', HX3, HR3, Lib.hid (Row.nil _ _), Lib.hid (Nat.le_refl _)⟩
  case round =>
    obtain ⟨k, u0, hk, rfl, hB, hX, hL, hR, hS⟩ := hrel
    obtain ⟨wo, hwo⟩ : ∃ z, z = wr := ⟨_, rfl⟩
    subst hwo
    have X1 := HB1.out.keep hB.out (by omega)
    have x1 := X1.c0
    by_cases hlt : k < n
    · clear X1
      have HP3 := Lib.hid (show w.heap.size + 2 < w3.heap.size from HX3.out.lt)
      go_wp2
      clear x1
      go_loopw [7] (fun i wq => ∃ j : Nat, j ≤ l.length ∧ i = .int .i64 j ∧ Hid (Below wo.heap.size wo wq) ∧ Hid (∀ t, t < j → endOf g (k : Int) (getI l t) = false)) (fun i _ => l.length - (intOf i).toNat)
      case atStart => exact ⟨0, Nat.zero_le _, rfl, Lib.hid (Below.refl _ _), Lib.hid (fun t ht => absurd ht (Nat.not_lt_zero _))⟩
      case round =>
        obtain ⟨j, hj, rfl, hQ, hN⟩ := hrel
        have hBQ : Below (w.heap.size + 2) w1 wr := hB.out.trans (hQ.out.mono (by have := hS.out; have := HP3.out; omega))
        by_cases hjl : j < l.length
        · have BW : Below w.heap.size w wr := HM.out.trans (hBQ.mono (by omega))
          obtain ⟨bl, ol, rfl, hbl, hck⟩ := ints_at (HLw.out.below BW) hjl
          obtain ⟨z0, z1, _⟩ := HR.out j hjl
          obtain ⟨i, hi⟩ : ∃ i : Nat, getI l j = (i : Int) := ⟨(getI l j).toNat, by omega⟩
          have hil : i < g.e.length := by omega
          obtain ⟨be, oe, rfl, hbe, hcx, hcy⟩ := edges_at (HE.out.below BW) hil
          have x11 := (HB1.out.keep hBQ (by omega)).c1
          have HEN := Lib.hid (show endOf g (k : Int) (getI l j) = decide ((getE g.e i).a = (k : Int) ∨ (getE g.e i).b = (k : Int)) by rw [hi]; rfl)
          have HH := Lib.hid (fun (h : endOf g (k : Int) (getI l j) = true) => endB_hit hjl h)
          have HJ : Hid (endOf g (k : Int) (getI l j) = false → ∀ t, t < j + 1 → endOf g (k : Int) (getI l t) = false) := fun h t ht => by
            by_cases e : t = j
            · rw [e]; exact h
            · exact hN.out t (by omega)
          rw [hi] at hck
          have hck2 := hck
          have hil' : (i : Int) < (g.e.length : Int) := by omega
          have hil0 : (0 : Int) ≤ (i : Int) := by omega
          have HBQ := Lib.hid hBQ
          have HQ := hQ
          clear hi z0 z1 hbl hbe hBQ BW hck hQ
          generalize (getE g.e i).a = xa at *
          generalize (getE g.e i).b = xb at *
          by_cases e1 : xa = (k : Int)
          · have HK := Lib.hid (HH.out (by rw [HEN.out]; exact decide_eq_true (.inl e1)))
            have d1 : (xa == (k : Int)) = true := by simpa using e1
            clear e1
            go_wp2_with fail
            go_quiet (fail)
            have HQ2 := Lib.hid (below_drewN HBQ.out nq)
            have HWO := Lib.hid (below_drewN HQ.out nq)
            have hX2 := hX.out.below HWO.out
            have x50 := hX2.c0
            have HX2 := Lib.hid hX2
            have HL2 := Lib.hid (hL.out.below HWO.out)
            have HR2 := Lib.hid (hR.out.below HWO.out)
            have HS2 := Lib.hid (Nat.le_trans hS.out HWO.out.size)
            have HLN := Lib.hid (show ((countTo k).filter (endB g l)).length ≤ 4000000 by have := filter_len g l k; omega)
            have HF := Lib.hid (show (countTo (k + 1)).filter (endB g l) = (countTo k).filter (endB g l) ++ [(k : Int)] by rw [filter_succ, if_pos HK.out])
            clear hX2 hX hL hR hS hB HBQ HQ hN hcx hcy hck2 x11
            generalize wr.drewN nq = w5 at *
            go_wp2_with (at_builtin; refine wpList_append1 rfl _ _ rfl rfl rfl HR2.out HS2.out HLN.out ?_)
            intro v7 w7 hO hB7
            have hX7 := HX2.out.keep hB7 HP3.out
            obtain ⟨A7, c7, rfl⟩ := ints_form hO.ints
            have y0 := hX7.c0
            have y2 := hX7.thaw 0
            have HX8 := Lib.hid (hX7.store0 (.slice A7 ((countTo k).filter (endB g l) ++ [(k : Int)]).length c7))
            have HB8 := Lib.hid ((HQ2.out.trans (hB7.mono (Nat.le_of_lt HP3.out))).setCell (p := ⟨w.heap.size + 2, 0, none⟩) (Nat.le_refl _) (.slice A7 ((countTo k).filter (endB g l) ++ [(k : Int)]).length c7))
            have HO8 := Lib.hid (hO.store HP3.out 0 (.slice A7 ((countTo k).filter (endB g l) ++ [(k : Int)]).length c7))
            have HL8 := Lib.hid (Row.store (HL2.out.mid (n := w3.heap.size) HUL.out hB7) (Nat.lt_succ_self _) 0 (.slice A7 ((countTo k).filter (endB g l) ++ [(k : Int)]).length c7))
            have HS8 := Lib.hid (show w3.heap.size ≤ (w7.setCell ⟨w.heap.size + 2, 0, none⟩ (.slice A7 ((countTo k).filter (endB g l) ++ [(k : Int)]).length c7)).heap.size by have := hB7.size; have := HS2.out; simp [World.setCell]; omega)
            clear hO hB7 hX7 x50
            generalize ((countTo k).filter (endB g l) ++ [(k : Int)]).length = ln at *
            go_wp2
            go_roundw
            case rel => exact ⟨k + 1, _, by omega, by go_num, HB8, HX8, HL8, by rw [HF.out]; exact HO8, HS8⟩
            case measure => simp [intOf]; omega
          · have d1 : (xa == (k : Int)) = false := by simpa using e1
            by_cases e2 : xb = (k : Int)
            · have HK := Lib.hid (HH.out (by rw [HEN.out]; exact decide_eq_true (.inr e2)))
              have d2 : (xb == (k : Int)) = true := by simpa using e2
              clear e1 e2
              go_wp2_with fail
              go_quiet (fail)
              have HQ2 := Lib.hid (below_drewN HBQ.out nq)
              have HWO := Lib.hid (below_drewN HQ.out nq)
              have hX2 := hX.out.below HWO.out
              have x50 := hX2.c0
              have HX2 := Lib.hid hX2
              have HL2 := Lib.hid (hL.out.below HWO.out)
              have HR2 := Lib.hid (hR.out.below HWO.out)
              have HS2 := Lib.hid (Nat.le_trans hS.out HWO.out.size)
              have HLN := Lib.hid (show ((countTo k).filter (endB g l)).length ≤ 4000000 by have := filter_len g l k; omega)
              have HF := Lib.hid (show (countTo (k + 1)).filter (endB g l) = (countTo k).filter (endB g l) ++ [(k : Int)] by rw [filter_succ, if_pos HK.out])
              clear hX2 hX hL hR hS hB HBQ HQ hN hcx hcy hck2 x11
              generalize wr.drewN nq = w5 at *
              go_wp2_with (at_builtin; refine wpList_append1 rfl _ _ rfl rfl rfl HR2.out HS2.out HLN.out ?_)
              intro v7 w7 hO hB7
              have hX7 := HX2.out.keep hB7 HP3.out
              obtain ⟨A7, c7, rfl⟩ := ints_form hO.ints
              have y0 := hX7.c0
              have y2 := hX7.thaw 0
              have HX8 := Lib.hid (hX7.store0 (.slice A7 ((countTo k).filter (endB g l) ++ [(k : Int)]).length c7))
              have HB8 := Lib.hid ((HQ2.out.trans (hB7.mono (Nat.le_of_lt HP3.out))).setCell (p := ⟨w.heap.size + 2, 0, none⟩) (Nat.le_refl _) (.slice A7 ((countTo k).filter (endB g l) ++ [(k : Int)]).length c7))
              have HO8 := Lib.hid (hO.store HP3.out 0 (.slice A7 ((countTo k).filter (endB g l) ++ [(k : Int)]).length c7))
              have HL8 := Lib.hid (Row.store (HL2.out.mid (n := w3.heap.size) HUL.out hB7) (Nat.lt_succ_self _) 0 (.slice A7 ((countTo k).filter (endB g l) ++ [(k : Int)]).length c7))
              have HS8 := Lib.hid (show w3.heap.size ≤ (w7.setCell ⟨w.heap.size + 2, 0, none⟩ (.slice A7 ((countTo k).filter (endB g l) ++ [(k : Int)]).length c7)).heap.size by have := hB7.size; have := HS2.out; simp [World.setCell]; omega)
              clear hO hB7 hX7 x50
              generalize ((countTo k).filter (endB g l) ++ [(k : Int)]).length = ln at *
              go_wp2
              go_roundw
              case rel => exact ⟨k + 1, _, by omega, by go_num, HB8, HX8, HL8, by rw [HF.out]; exact HO8, HS8⟩
              case measure => simp [intOf]; omega
            · have HK := Lib.hid (HJ.out (by rw [HEN.out]; exact decide_eq_false (fun h => h.elim e1 e2)))
              have d2 : (xb == (k : Int)) = false := by simpa using e2
              clear e1 e2
              go_wp2_with fail
              go_quiet (fail)
              have HQ2 := Lib.hid (below_drewN HBQ.out nq)
              have HWO := Lib.hid (below_drewN HQ.out nq)
              go_wp2
              go_roundw
              case rel => exact ⟨j + 1, by omega, by go_num, HWO, HK⟩
              case measure => simp [intOf]; omega
        · obtain rfl : j = l.length := by omega
          have HNE := Lib.hid (endB_none hN.out)
          have HF := Lib.hid (show (countTo (k + 1)).filter (endB g l) = (countTo k).filter (endB g l) by rw [filter_succ, if_neg (by rw [HNE.out]; decide), List.append_nil])
          have HQ := Lib.hid hBQ
          have HX' := Lib.hid (hX.out.below hQ.out)
          have HL' := Lib.hid (hL.out.below hQ.out)
          have HR' := Lib.hid (hR.out.below hQ.out)
          have HS' := Lib.hid (Nat.le_trans hS.out hQ.out.size)
          clear hBQ
          go_wp2
          go_roundw
          case rel => exact ⟨k + 1, _, by omega, by go_num, HQ, HX', HL', by rw [HF.out]; exact HR', HS'⟩
          case measure => simp [intOf]; omega
    · obtain rfl : k = n := by omega
      have Z2 := HB2.out.keep hB.out (by omega)
      have z0 := Z2.c0
      have z1 := Z2.c1
      have z2 := Z2.thaw 0
      have z3 := Z2.thaw 1
      obtain ⟨A7, c7, hu0⟩ := ints_form hR.out.ints
      subst hu0
      have x0 := hX.out.c0
      have x1' := hX.out.c1
      obtain ⟨A8, c8, A9, c9, hv, W2, hBB, hPt⟩ := pair_stored (v := .agg #[.slice A7 ((countTo k).filter (endB g l)).length c7, .slice A6 l.length c6]) (p := ⟨(countTo k).filter (endB g l), l⟩) (base := w.heap.size + 2)
        ⟨_, _, rfl, hR.out.le (by have := HX3.out.lt; omega), hL.out.le (Nat.le_succ _)⟩ Z2 (by omega) (HM.out.trans (hB.out.mono (by omega))) (Nat.le_succ _)
      simp only [Value.agg.injEq, Array.mk.injEq, List.cons.injEq, and_true, Value.slice.injEq, true_and] at hv
      obtain ⟨⟨rfl, rfl⟩, rfl, rfl⟩ := hv
      have HPT := Lib.hid hPt
      have HBB := Lib.hid hBB
      have HWB := Lib.hid W2
      clear hPt hBB W2 Z2 X1
      go_wp2
      refine bodyPost_ret (v := .agg #[.slice A7 ((countTo k).filter (endB g l)).length c7, .slice A6 l.length c6]) ?_ rfl ⟨_, rfl, HBB.out, by rw [HSP.out]; exact HPT.out⟩
      simp [results, Try.results36, go_sem, HWB.out.c0, HWB.out.c1]

end Go.Proofs.Ytpcjdkldonikfaa
