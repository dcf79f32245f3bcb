/-
  The document's Or.
-/
import Derived.Test.YtjnohnbppkhbaaaGrP
namespace Go.Proofs.Ytjnohnbppkhbaaa
open Go.RowKit

theorem drop_getI (l : List Int) (i : Nat) (h : i < l.length) : l.drop i = getI l i :: l.drop (i + 1) := by
  rw [List.drop_eq_getElem_cons h, getI_of l i h]

structure Ro (w : World) (l m : List Int) (wr : World) (v : Value) (i j : Nat) (out : List Int) : Prop where
  low : Below w.heap.size w wr
  own : Row wr w.heap.size v out
  eq : out ++ mrg 1 (l.drop i) (m.drop j) = mrg 1 l m
  len : out.length ≤ i + j

theorem Ro.drew {w : World} {l m : List Int} {wr : World} {v : Value} {i j : Nat} {out : List Int} (h : Ro w l m wr v i j out) (n : Nat) : Ro w l m (wr.drewN n) v i j out :=
  ⟨below_drewN h.low n, h.own.below (below_drewN' wr n), h.eq, h.len⟩
theorem Ro.take {w : World} {l m : List Int} {wr w1 : World} {v u : Value} {i j i' j' : Nat} {out : List Int} {x : Int} (h : Ro w l m wr v i j out)
    (e : mrg 1 (l.drop i) (m.drop j) = [x] ++ mrg 1 (l.drop i') (m.drop j')) (hl : i + j + 1 ≤ i' + j') (ho : Row w1 w.heap.size u (out ++ [x])) (hB : Below w.heap.size w w1) : Ro w l m w1 u i' j' (out ++ [x]) :=
  ⟨hB, ho, by rw [← h.eq, e, List.append_assoc], by have := h.len; simp; omega⟩

set_option maxRecDepth 100000 in
set_option maxHeartbeats 2000000 in
theorem ror_any (v u : Value) (l m : List Int) (w : World) (h : Ints w v l) (h' : Ints w u m) (hl : l.length ≤ 1000000) (hm : m.length ≤ 1000000) :
    Calls Try.prog 21 #[v, u] w fun e w' => ∃ r, e = .returned r ∧ Below w.heap.size w w' ∧ Row w' w.heap.size r (mrg 1 l m) := by
  have HA := Lib.hid h
  have HB := Lib.hid h'
  obtain ⟨A, c, rfl⟩ := ints_form h
  obtain ⟨A', c', rfl⟩ := ints_form h'
  clear h h'
  go_enter Try.func21, Try.ntmps21
  go_wp2
  go_loopw [5, 6, 7] (fun o a b wr => ∃ (i j : Nat) (out : List Int), i ≤ l.length ∧ j ≤ m.length ∧ a = .int .i64 i ∧ b = .int .i64 j ∧ Hid (Ro w l m wr o i j out)) (fun _ a b _ => (l.length + m.length) - ((Go.RowKit.intOf a).toNat + (Go.RowKit.intOf b).toNat))
  case atStart => exact ⟨0, 0, [], Nat.zero_le _, Nat.zero_le _, rfl, rfl, Lib.hid ⟨Below.refl _ _, Row.nil _ _, rfl, by simp⟩⟩
  case round =>
    obtain ⟨i, j, out, hi, hj, rfl, rfl, hR⟩ := hrel
    rename_i wr
    have HLN := Lib.hid (show out.length ≤ 4000000 by have := hR.out.len; omega)
    by_cases h1 : i < l.length
    · obtain ⟨b, off, rfl, _, hcx⟩ := ints_at (HA.out.below hR.out.low) h1
      have HD1 := Lib.hid (drop_getI l i h1)
      by_cases h2 : j < m.length
      · obtain ⟨b', off', rfl, _, hcy⟩ := ints_at (HB.out.below hR.out.low) h2
        have HD2 := Lib.hid (drop_getI m j h2)
        generalize getI l i = x at *
        generalize getI m j = y at *
        have d0 : ((j : Int) == (m.length : Int)) = false := beq_eq_false_iff_ne.2 (by omega)
        by_cases h3 : x < y
        · have HE := Lib.hid (show mrg 1 (l.drop i) (m.drop j) = [x] ++ mrg 1 (l.drop (i + 1)) (m.drop j) by
            rw [HD1.out, HD2.out]; exact mrg_lt 1 _ _ h3)
          have d1 : decide (x ≤ y) = true := decide_eq_true (by omega)
          have d2 : (x == y) = false := beq_eq_false_iff_ne.2 (by omega)
          clear h3 HD1 HD2
          go_wp2_with fail
          go_quiet (fail)
          have hR2 := Lib.hid (hR.out.drew nq)
          have hcx2 := (World.cell?_drewN wr nq _).trans hcx
          have hcy2 := (World.cell?_drewN wr nq _).trans hcy
          clear hR hcx hcy
          generalize wr.drewN nq = w2 at *
          go_wp2_with fail
          go_quiet (fail)
          have hR3 := Lib.hid (hR2.out.drew nq)
          have hcx3 := (World.cell?_drewN w2 nq _).trans hcx2
          clear hR2 hcx2 hcy2
          generalize w2.drewN nq = w3 at *
          go_wp2_with (at_builtin; refine wpList_append1 rfl _ _ rfl rfl rfl hR3.out.own hR3.out.low.size HLN.out ?_)
          intro v7 w7 hO7 hB7
          have HR7 := Lib.hid (hR3.out.take (i' := i + 1) (j' := j) HE.out (by omega) hO7 (hR3.out.low.trans hB7))
          clear hO7 hB7
          go_wp2
          go_roundw
          case rel => exact ⟨i + 1, j, _, by omega, by omega, by go_num, by go_num, HR7⟩
          case measure => simp [Go.RowKit.intOf]; omega
        · by_cases h4 : y < x
          · have HE := Lib.hid (show mrg 1 (l.drop i) (m.drop j) = [y] ++ mrg 1 (l.drop i) (m.drop (j + 1)) by
              rw [HD1.out, HD2.out]; exact mrg_gt 1 _ _ h4)
            have d1 : decide (x ≤ y) = false := decide_eq_false (by omega)
            clear h3 h4 HD1 HD2
            go_wp2_with fail
            go_quiet (fail)
            have hR3 := Lib.hid (hR.out.drew nq)
            have hcy3 := (World.cell?_drewN wr nq _).trans hcy
            clear hR hcy hcx
            generalize wr.drewN nq = w3 at *
            go_wp2_with (at_builtin; refine wpList_append1 rfl _ _ rfl rfl rfl hR3.out.own hR3.out.low.size HLN.out ?_)
            intro v7 w7 hO7 hB7
            have HR7 := Lib.hid (hR3.out.take (i' := i) (j' := j + 1) HE.out (by omega) hO7 (hR3.out.low.trans hB7))
            clear hO7 hB7
            go_wp2
            go_roundw
            case rel => exact ⟨i, j + 1, _, by omega, by omega, by go_num, by go_num, HR7⟩
            case measure => simp [Go.RowKit.intOf]; omega
          · have e : x = y := by omega
            subst e
            have HE := Lib.hid (show mrg 1 (l.drop i) (m.drop j) = [x] ++ mrg 1 (l.drop (i + 1)) (m.drop (j + 1)) by
              rw [HD1.out, HD2.out]; exact mrg_eq 1 _ _ rfl)
            have d1 : decide (x ≤ x) = true := decide_eq_true (by omega)
            have d2 : (x == x) = true := by simp
            clear h3 h4 HD1 HD2
            go_wp2_with fail
            go_quiet (fail)
            have hR2 := Lib.hid (hR.out.drew nq)
            have hcx2 := (World.cell?_drewN wr nq _).trans hcx
            have hcy2 := (World.cell?_drewN wr nq _).trans hcy
            clear hR hcx hcy
            generalize wr.drewN nq = w2 at *
            go_wp2_with fail
            go_quiet (fail)
            have hR3 := Lib.hid (hR2.out.drew nq)
            have hcx3 := (World.cell?_drewN w2 nq _).trans hcx2
            clear hR2 hcx2 hcy2
            generalize w2.drewN nq = w3 at *
            go_wp2_with (at_builtin; refine wpList_append1 rfl _ _ rfl rfl rfl hR3.out.own hR3.out.low.size HLN.out ?_)
            intro v7 w7 hO7 hB7
            have HR7 := Lib.hid (hR3.out.take (i' := i + 1) (j' := j + 1) HE.out (by omega) hO7 (hR3.out.low.trans hB7))
            clear hO7 hB7
            go_wp2
            go_roundw
            case rel => exact ⟨i + 1, j + 1, _, by omega, by omega, by go_num, by go_num, HR7⟩
            case measure => simp [Go.RowKit.intOf]; omega
      · obtain rfl : j = m.length := by omega
        have HE := Lib.hid (show mrg 1 (l.drop i) (m.drop m.length) = [getI l i] ++ mrg 1 (l.drop (i + 1)) (m.drop m.length) by
          rw [HD1.out, List.drop_length]; exact mrg_left 1 _ _)
        generalize getI l i = x at *
        have d0 : ((m.length : Int) == (m.length : Int)) = true := by simp
        clear h2 HD1
        go_wp2_with fail
        go_quiet (fail)
        have hR2 := Lib.hid (hR.out.drew nq)
        have hcx2 := (World.cell?_drewN wr nq _).trans hcx
        clear hR hcx
        generalize wr.drewN nq = w2 at *
        go_wp2_with fail
        go_quiet (fail)
        have hR3 := Lib.hid (hR2.out.drew nq)
        have hcx3 := (World.cell?_drewN w2 nq _).trans hcx2
        clear hR2 hcx2
        generalize w2.drewN nq = w3 at *
        go_wp2_with (at_builtin; refine wpList_append1 rfl _ _ rfl rfl rfl hR3.out.own hR3.out.low.size HLN.out ?_)
        intro v7 w7 hO7 hB7
        have HR7 := Lib.hid (hR3.out.take (i' := i + 1) (j' := m.length) HE.out (by omega) hO7 (hR3.out.low.trans hB7))
        clear hO7 hB7
        go_wp2
        go_roundw
        case rel => exact ⟨i + 1, m.length, _, by omega, by omega, by go_num, by go_num, HR7⟩
        case measure => simp [Go.RowKit.intOf]; omega
    · obtain rfl : i = l.length := by omega
      by_cases h2 : j < m.length
      · obtain ⟨b', off', rfl, _, hcy⟩ := ints_at (HB.out.below hR.out.low) h2
        have HD2 := Lib.hid (drop_getI m j h2)
        have d0 : ((j : Int) == (m.length : Int)) = false := beq_eq_false_iff_ne.2 (by omega)
        have HE := Lib.hid (show mrg 1 (l.drop l.length) (m.drop j) = [getI m j] ++ mrg 1 (l.drop l.length) (m.drop (j + 1)) by
          rw [HD2.out, List.drop_length]; exact mrg_right 1 _ _)
        generalize getI m j = y at *
        have d3 : decide (l.length < l.length) = false := decide_eq_false (by omega)
        have d4 : decide ((l.length : Int) < (l.length : Int)) = false := decide_eq_false (by omega)
        clear h1 HD2
        go_wp2_with fail
        go_quiet (fail)
        have hR3 := Lib.hid (hR.out.drew nq)
        have hcy3 := (World.cell?_drewN wr nq _).trans hcy
        clear hR hcy
        generalize wr.drewN nq = w3 at *
        go_wp2_with (at_builtin; refine wpList_append1 rfl _ _ rfl rfl rfl hR3.out.own hR3.out.low.size HLN.out ?_)
        intro v7 w7 hO7 hB7
        have HR7 := Lib.hid (hR3.out.take (i' := l.length) (j' := j + 1) HE.out (by omega) hO7 (hR3.out.low.trans hB7))
        clear hO7 hB7
        go_wp2
        go_roundw
        case rel => exact ⟨l.length, j + 1, _, by omega, by omega, by go_num, by go_num, HR7⟩
        case measure => simp [Go.RowKit.intOf]; omega
      · obtain rfl : j = m.length := by omega
        have HE := Lib.hid (show out = mrg 1 l m by have := hR.out.eq; rw [List.drop_length, List.drop_length, mrg_nil, List.append_nil] at this; exact this)
        go_wp2
        go_ret
        exact ⟨_, rfl, hR.out.low, by rw [← HE.out]; exact hR.out.own⟩

end Go.Proofs.Ytjnohnbppkhbaaa
