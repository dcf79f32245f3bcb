/-
  The document's Equal, Same, And, Or.
-/
import Derived.Test.YtjnohnbppkhbaaaGrL
namespace Go.Proofs.Ytjnohnbppkhbaaa
open Go.RowKit

set_option maxRecDepth 100000 in
set_option maxHeartbeats 1000000 in
theorem requal_any (v : Value) (l : List Int) (u : Value) (m : List Int) (w : World) (h : Ints w v l) (h' : Ints w u m) (hl : l.length ≤ 4000000) :
    Calls Try.prog 24 #[v, u] w fun e w' => e = .returned (.bool (decide (l = m))) ∧ ∃ n, w' = w.drewN n := by
  obtain ⟨A, cap, rfl, hcap, _, hcell⟩ := h
  obtain ⟨A', cap', rfl, hcap', hm', hcell'⟩ := h'
  unfold maxLen at hm'
  by_cases hlen : l.length = m.length
  case neg =>
    have HF := Lib.hid (show decide (l = m) = false by simpa using fun e : l = m => hlen (by rw [e]))
    have hne' : ((l.length : Int) != (m.length : Int)) = true := by simp; omega
    clear hlen hcell hcell'
    go_enter Try.func24, Try.ntmps24
    go_wp2
    go_ret
    exact ⟨ret_bool HF.out.symm, 0, rfl⟩
  have HL := Lib.hid hlen
  have hne' : ((l.length : Int) != (m.length : Int)) = false := by simp; omega
  have hle : l.length ≤ m.length := by omega
  clear hlen
  go_enter Try.func24, Try.ntmps24
  go_wp2
  go_loopw [5] (fun i wr => ∃ k n : Nat, k ≤ l.length ∧ i = .int .i64 k ∧ wr = w.drewN n ∧ Hid (∀ j, j < k → getI l j = getI m j)) (fun i _ => l.length - (Go.RowKit.intOf i).toNat)
  case atStart => exact ⟨0, 0, Nat.zero_le _, rfl, rfl, Lib.hid (fun j hj => absurd hj (Nat.not_lt_zero _))⟩
  case round =>
    obtain ⟨k, n, hk, rfl, rfl, heq⟩ := hrel
    by_cases hlt : k < l.length
    · obtain ⟨b, off, rfl, hb, hc⟩ := hcell (by omega)
      obtain ⟨b', off', rfl, hb', hc'⟩ := hcell' (by omega)
      have hck := hc k hlt
      have hck' := hc' k (by omega)
      have hlt' : k < m.length := by omega
      clear hc hcell hc' hcell'
      by_cases he : getI l k = getI m k
      · have HK := Lib.hid he
        have he' : (getI l k != getI m k) = false := by simpa using he
        clear he
        go_wp2_with fail
        go_quiet (fail)
        go_wp2
        go_roundw
        case rel => exact ⟨k + 1, _, by omega, by go_num, rfl, Lib.hid (fun j hj => by
          by_cases e : j = k
          · rw [e]; exact HK.out
          · exact heq.out j (by omega))⟩
        case measure => simp [Go.RowKit.intOf]; omega
      · have HF := Lib.hid (show decide (l = m) = false by simpa using fun e : l = m => he (by rw [e]))
        have he' : (getI l k != getI m k) = true := by simpa using he
        clear he
        go_wp2_with fail
        go_quiet (fail)
        go_wp2
        go_ret
        exact ⟨ret_bool HF.out.symm, _, World.drewN_drewN _ _ _⟩
    · obtain rfl : k = l.length := by omega
      have HF := Lib.hid (show decide (l = m) = true by simpa using ext_getI l m HL.out heq.out)
      go_wp2
      go_ret
      exact ⟨ret_bool HF.out.symm, n, rfl⟩

set_option maxRecDepth 100000 in
set_option maxHeartbeats 1000000 in
theorem rsame_any (v u : Value) (p q : Prt) (w : World) (h : Pt w v p) (h' : Pt w u q) (h1 : p.v.length ≤ 4000000) (h2 : p.e.length ≤ 4000000) :
    Calls Try.prog 22 #[v, u] w fun e w' => e = .returned (.bool (sameB p q)) ∧ Below w.heap.size w w' := by
  obtain ⟨va, ve, rfl, i1, i2⟩ := h
  obtain ⟨ua, ue, rfl, i3, i4⟩ := h'
  obtain ⟨A1, c1, rfl⟩ := ints_form i1
  obtain ⟨A2, c2, rfl⟩ := ints_form i2
  obtain ⟨A3, c3, rfl⟩ := ints_form i3
  obtain ⟨A4, c4, rfl⟩ := ints_form i4
  obtain ⟨b1, b2, hm⟩ := two_boxes w (.slice A1 p.v.length c1) (.slice A2 p.e.length c2) (.slice A3 q.v.length c3) (.slice A4 q.e.length c4) 27 27
  have I1 := Lib.hid (i1.below hm)
  have I2 := Lib.hid (i2.below hm)
  have I3 := Lib.hid (i3.below hm)
  have I4 := Lib.hid (i4.below hm)
  have x0 := b1.c0
  have x1 := b1.c1
  have y0 := b2.c0
  have y1 := b2.c1
  have HM := Lib.hid hm
  clear i1 i2 i3 i4 b1 b2 hm
  go_enter Try.func22, Try.ntmps22
  go_wp2_with fail
  generalize (w.alloc (.cells #[.slice A1 p.v.length c1, .slice A2 p.e.length c2] 27)).alloc (.cells #[.slice A3 q.v.length c3, .slice A4 q.e.length c4] 27) = w1 at *
  refine (requal_any _ p.v _ q.v _ I1.out I3.out h1).mono ?_
  rintro e w2 ⟨rfl, n, rfl⟩
  have J2 := Lib.hid (I2.out.drewN n)
  have J4 := Lib.hid (I4.out.drewN n)
  have HB := Lib.hid (fun m => below_drewN (below_drewN HM.out n) m)
  clear I1 I2 I3 I4 HM
  by_cases e1 : p.v = q.v
  · have HN := Lib.hid (show sameB p q = decide (p.e = q.e) by unfold sameB; rw [decide_eq_true e1, Bool.true_and])
    rw [decide_eq_true e1]
    clear e1
    go_wp2_with fail
    refine (requal_any _ p.e _ q.e _ J2.out J4.out h2).mono ?_
    rintro e w2 ⟨rfl, n2, rfl⟩
    generalize decide (p.e = q.e) = r at *
    go_wp2
    go_ret
    exact ⟨ret_bool HN.out.symm, by rw [← World.drewN_drewN]; exact HB.out n2⟩
  · have HN := Lib.hid (show sameB p q = false by unfold sameB; rw [decide_eq_false e1, Bool.false_and])
    rw [decide_eq_false e1]
    clear e1
    go_wp2
    go_ret
    exact ⟨ret_bool HN.out.symm, HB.out 0⟩

/-! ### And -/

def andL (l m : List Int) : List Int := l.filter (fun x => decide (x ∈ m))
theorem andL_succ (l m : List Int) (k : Nat) (h : k < l.length) : andL (l.take (k + 1)) m = andL (l.take k) m ++ (if decide (getI l k ∈ m) then [getI l k] else []) := by
  unfold andL
  rw [take_succ_getI l k h, List.filter_append]
  congr 1
  by_cases e : getI l k ∈ m
  · rw [if_pos (decide_eq_true e), List.filter_cons, if_pos (decide_eq_true e)]; rfl
  · rw [if_neg (by simpa using e), List.filter_cons, if_neg (by simpa using e)]; rfl
theorem andL_len (l m : List Int) : (andL l m).length ≤ l.length := List.length_filter_le _ _

set_option maxRecDepth 100000 in
set_option maxHeartbeats 1000000 in
theorem rand_any (v u : Value) (l m : List Int) (w : World) (h : Ints w v l) (h' : Ints w u m) (hl : l.length ≤ 1000000) (hm : m.length ≤ 1000000) :
    Calls Try.prog 11 #[v, u] w fun e w' => ∃ r, e = .returned r ∧ Below w.heap.size w w' ∧ Row w' w.heap.size r (andL l m) := by
  have HA := Lib.hid h
  have HB := Lib.hid h'
  obtain ⟨A, c, rfl⟩ := ints_form h
  obtain ⟨A', c', rfl⟩ := ints_form h'
  clear h h'
  go_enter Try.func11, Try.ntmps11
  go_wp2
  go_loopw [5, 6] (fun o i wr => ∃ k : Nat, k ≤ l.length ∧ i = .int .i64 k ∧ Hid (Below w.heap.size w wr) ∧ Hid (Row wr w.heap.size o (andL (l.take k) m))) (fun _ i _ => l.length - (Go.RowKit.intOf i).toNat)
  case atStart => exact ⟨0, Nat.zero_le _, rfl, Lib.hid (Below.refl _ _), Lib.hid (Row.nil _ _)⟩
  case round =>
    obtain ⟨k, hk, rfl, hL, hO⟩ := hrel
    rename_i wr
    by_cases hlt : k < l.length
    · obtain ⟨b, off, rfl, hb, hck⟩ := ints_at (HA.out.below hL.out) hlt
      have HS := Lib.hid (andL_succ l m k hlt)
      have HLN := Lib.hid (show (andL (l.take k) m).length ≤ 4000000 by have := andL_len (l.take k) m; simp at this; omega)
      have HI := Lib.hid (in_any _ m (getI l k) wr (HB.out.below hL.out) hm)
      clear hb
      by_cases he : getI l k ∈ m
      · rw [decide_eq_true he] at HI
        have HS2 := Lib.hid (show andL (l.take (k + 1)) m = andL (l.take k) m ++ [getI l k] by rw [HS.out, if_pos (decide_eq_true he)])
        clear he
        generalize getI l k = x at *
        go_wp2_with fail
        refine HI.out.mono ?_
        rintro e w' ⟨rfl, rfl⟩
        go_wp2_with (at_builtin; refine wpList_append1 rfl _ _ rfl rfl rfl hO.out hL.out.size HLN.out ?_)
        intro v7 w7 hO7 hB7
        have HO7 := Lib.hid hO7
        have HL7 := Lib.hid (hL.out.trans hB7)
        clear hO7 hB7
        go_wp2
        go_roundw
        case rel => exact ⟨k + 1, by omega, by go_num, HL7, by rw [HS2.out]; exact HO7⟩
        case measure => simp [Go.RowKit.intOf]; omega
      · rw [decide_eq_false he] at HI
        have HS2 := Lib.hid (show andL (l.take (k + 1)) m = andL (l.take k) m by rw [HS.out, if_neg (by simpa using he), List.append_nil])
        clear he
        go_wp2_with fail
        refine HI.out.mono ?_
        rintro e w' ⟨rfl, rfl⟩
        go_wp2
        go_roundw
        case rel => exact ⟨k + 1, by omega, by go_num, hL, by rw [HS2.out]; exact hO⟩
        case measure => simp [Go.RowKit.intOf]; omega
    · obtain rfl : k = l.length := by omega
      have HT := Lib.hid (List.take_length (l := l))
      rw [HT.out] at hO
      go_wp2
      go_ret
      exact ⟨_, rfl, hL.out, hO.out⟩

end Go.Proofs.Ytjnohnbppkhbaaa
