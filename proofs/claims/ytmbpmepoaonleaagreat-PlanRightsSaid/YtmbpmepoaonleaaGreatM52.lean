/-
  PlJ, PlK, PlN, in one text.
-/
import Derived.Test.YtmbpmepoaonleaaGreatM22
import Derived.Test.YtmbpmepoaonleaaGreatM34
import Derived.StillTactics
import Derived.Test.YtmbpmepoaonleaaGreatM25
import Derived.Test.YtmbpmepoaonleaaGreatM05
import Derived.Test.YtmbpmepoaonleaaGreatM14
import Derived.Test.YtmbpmepoaonleaaGreatSortLays
import Derived.Shelf.SlSortCmp.NoneTotal
/-! What the program calls of the library: is a list in order, which of two lists comes first, are two alike, has one a number. -/
namespace Go.Proofs.YtmbpmepoaonleaaGreat.Pl
open Go.Proofs.YtmbpmepoaonleaaGreat Go.Proofs.YtmbpmepoaonleaaGreat.Rt Go.RowKit

set_option maxRecDepth 100000 in
set_option maxHeartbeats 1000000 in
theorem isNaN_any (x : Int) (w : World) : Calls Tryz.prog 124 #[.int .i64 x] w fun e w' => e = .returned (.bool false) ∧ w = w' := by
  go_enter Tryz.func124, Tryz.ntmps124
  go_wp2
  go_ret
  exact ⟨by simp, rfl⟩

set_option maxRecDepth 100000 in
set_option maxHeartbeats 1000000 in
theorem cmpLess_any (x y : Int) (w : World) : Calls Tryz.prog 108 #[.int .i64 x, .int .i64 y] w fun e w' => e = .returned (.bool (decide (x < y))) ∧ w = w' := by
  have HN := Lib.hid (isNaN_any x w)
  obtain ⟨b, hb⟩ : ∃ b, decide (x < y) = b := ⟨_, rfl⟩
  have HB := Lib.hid hb
  rw [hb]
  go_enter Tryz.func108, Tryz.ntmps108
  go_wp2_with fail
  refine HN.out.mono ?_
  rintro e w1 ⟨rfl, rfl⟩
  cases b <;> (go_wp2; go_ret; exact ⟨rfl, rfl⟩)

theorem cmpLess_same (x y : Int) (w : World) : Calls Tryz.prog 108 #[.int .i64 x, .int .i64 y] w fun e w' => e = .returned (.bool (decide (x < y))) ∧ w' = w :=
  (cmpLess_any x y w).mono fun _ _ h => ⟨h.1, h.2.symm⟩

/-- The library's three-way order of two numbers. -/
def cmpI (x y : Int) : Int := if x < y then -1 else if y < x then 1 else 0

set_option maxRecDepth 100000 in
set_option maxHeartbeats 1000000 in
theorem cmpCompare_any (x y : Int) (w : World) : Calls Tryz.prog 97 #[.int .i64 x, .int .i64 y] w fun e w' => e = .returned (.int .i64 (cmpI x y)) ∧ w = w' := by
  have HN := Lib.hid (isNaN_any x w)
  have HM := Lib.hid (isNaN_any y w)
  by_cases h1 : x < y
  · have HC := Lib.hid (show cmpI x y = -1 from if_pos h1)
    go_enter Tryz.func97, Tryz.ntmps97
    go_wp2_with fail
    refine HN.out.mono ?_
    rintro e w1 ⟨rfl, rfl⟩
    go_wp2_with fail
    refine HM.out.mono ?_
    rintro e w1 ⟨rfl, rfl⟩
    go_wp2
    go_ret
    exact ⟨by rw [HC.out]; rfl, rfl⟩
  · by_cases h2 : y < x
    · have HC := Lib.hid (show cmpI x y = 1 by unfold cmpI; rw [if_neg h1, if_pos h2])
      go_enter Tryz.func97, Tryz.ntmps97
      go_wp2_with fail
      refine HN.out.mono ?_
      rintro e w1 ⟨rfl, rfl⟩
      go_wp2_with fail
      refine HM.out.mono ?_
      rintro e w1 ⟨rfl, rfl⟩
      go_wp2
      go_ret
      exact ⟨by rw [HC.out]; rfl, rfl⟩
    · have HC := Lib.hid (show cmpI x y = 0 by unfold cmpI; rw [if_neg h1, if_neg h2])
      go_enter Tryz.func97, Tryz.ntmps97
      go_wp2_with fail
      refine HN.out.mono ?_
      rintro e w1 ⟨rfl, rfl⟩
      go_wp2_with fail
      refine HM.out.mono ?_
      rintro e w1 ⟨rfl, rfl⟩
      go_wp2
      go_ret
      exact ⟨by rw [HC.out]; rfl, rfl⟩

theorem w64p (n : Int) (h0 : -9223372036854775808 ≤ n) (h1 : n ≤ 9223372036854775807) : IntKind.i64.wrap n = n := by
  simp [IntKind.wrap, IntKind.bits, IntKind.signed]
  omega
/-- In order. -/
def SortedL (l : List Int) : Prop := ∀ k, k + 1 < l.length → getI l k ≤ getI l (k + 1)

set_option maxRecDepth 100000 in
set_option maxHeartbeats 1000000 in
theorem isSorted_any (v : Value) (l : List Int) (w : World) (h : Ints w v l) (hl : l.length ≤ 1000000) :
    Calls Tryz.prog 80 #[v] w fun e w' => (∃ b, e = .returned (.bool b) ∧ (b = true ↔ SortedL l)) ∧ ∃ n, w' = w.drewN n := by
  have HI := Lib.hid h
  obtain ⟨A, c, rfl⟩ := ints_form h
  clear h
  rcases Nat.eq_zero_or_pos l.length with h0 | h0
  · have HS := Lib.hid (show SortedL l from fun k hk => by omega)
    rw [h0]
    clear HI h0
    go_enter Tryz.func80, Tryz.ntmps80
    go_wp2
    go_loopw [3] (fun i wr => i = .int .i64 (-1) ∧ wr = w) (fun _ _ => 0)
    case atStart => exact ⟨rfl, rfl⟩
    case round =>
      obtain ⟨rfl, rfl⟩ := hrel
      go_wp2
      go_ret
      exact ⟨⟨true, rfl, by simp; exact HS.out⟩, 0, rfl⟩
  · go_enter Tryz.func80, Tryz.ntmps80
    go_wp2
    go_loopw [3] (fun i wr => ∃ k : Nat, k < l.length ∧ i = .int .i64 (k : Nat) ∧ Hid (∃ n, wr = w.drewN n) ∧ Hid (∀ j, k ≤ j → j + 1 < l.length → getI l j ≤ getI l (j + 1))) (fun i _ => (Go.RowKit.intOf i).toNat)
    case atStart => exact ⟨l.length - 1, by omega, by go_num, Lib.hid ⟨0, rfl⟩, Lib.hid (fun j h1 h2 => by omega)⟩
    case round =>
      obtain ⟨k, hk, rfl, hn, hs⟩ := hrel
      rename_i wr
      have HW := Lib.hid (show Below w.heap.size w wr by obtain ⟨n, rfl⟩ := hn.out; exact below_drewN' w n)
      have HD := Lib.hid (fun m => show ∃ n, wr.drewN m = w.drewN n by obtain ⟨n, rfl⟩ := hn.out; exact ⟨_, World.drewN_drewN _ _ _⟩)
      rcases Nat.eq_zero_or_pos k with rfl | hk0
      · have HS := Lib.hid (show SortedL l from fun j hj => hs.out j (Nat.zero_le _) hj)
        clear hs
        go_wp2
        go_ret
        exact ⟨⟨true, rfl, by simp; exact HS.out⟩, hn.out⟩
      · obtain ⟨m, hm, hkm⟩ : ∃ m : Nat, k = m + 1 ∧ (k : Int) - 1 = (m : Int) := ⟨k - 1, by omega, by omega⟩
        have HM := Lib.hid hm
        have hI := HI.out.below HW.out
        obtain ⟨b, o, rfl, hb, hc1⟩ := ints_at hI hk
        obtain ⟨b', o', e, _, hc2⟩ := ints_at hI (show m < l.length by omega)
        cases e
        have HC := Lib.hid (fun n => cmpLess_same (getI l k) (getI l m) (wr.drewN n))
        have i4 : m < l.length := by omega
        have hw := w64p (m : Int) (by omega) (by omega)
        have hw2 := w64p ((k : Int) - 1) (by omega) (by omega)
        rw [hkm] at hw2
        clear hI HW hn hb hm
        by_cases hlt : getI l k < getI l m
        · have HNO := Lib.hid (show ¬ SortedL l from fun h => by have := h m (by have := HM.out; omega); rw [← HM.out] at this; omega)
          simp only [decide_eq_true hlt] at HC
          clear hlt hs
          generalize getI l k = x at *
          generalize getI l m = y at *
          go_wp2_with fail
          go_quiet ((go_at_call 108; exact Calls.quiet_of_same (HC.out _)))
          go_wp2
          go_ret
          exact ⟨⟨false, rfl, by simp; exact HNO.out⟩, HD.out _⟩
        · have HS := Lib.hid (show ∀ j, m ≤ j → j + 1 < l.length → getI l j ≤ getI l (j + 1) from fun j h1 h2 => by
            rcases Nat.lt_or_eq_of_le h1 with h | rfl
            · exact hs.out j (by have := HM.out; omega) h2
            · rw [← HM.out]; omega)
          simp only [decide_eq_false hlt] at HC
          clear hlt hs
          generalize getI l k = x at *
          generalize getI l m = y at *
          go_wp2_with fail
          go_quiet ((go_at_call 108; exact Calls.quiet_of_same (HC.out _)))
          go_wp2
          go_roundw
          case rel => exact ⟨m, by omega, by go_num, Lib.hid (HD.out _), HS⟩
          case measure => have := HM.out; simp [Go.RowKit.intOf]; omega
end Go.Proofs.YtmbpmepoaonleaaGreat.Pl

/-! What the program calls of the library, further: which of two lists comes first, are two lists, and lists of lists, alike, has one a number; and its copies. -/
namespace Go.Proofs.YtmbpmepoaonleaaGreat.Pl
open Go.Proofs.YtmbpmepoaonleaaGreat Go.Proofs.YtmbpmepoaonleaaGreat.Rt Go.RowKit

/-- The library's three-way order of two lists. -/
def lexI : List Int → List Int → Int
  | [], [] => 0
  | [], _ :: _ => -1
  | _ :: _, [] => 1
  | x :: l, y :: m => if cmpI x y = 0 then lexI l m else cmpI x y
theorem cmpI_zero {x y : Int} : cmpI x y = 0 ↔ x = y := by unfold cmpI; split; omega; split <;> omega
theorem lexI_irrefl : ∀ l : List Int, lexI l l = 0
  | [] => rfl
  | x :: l => by unfold lexI; rw [if_pos (cmpI_zero.2 rfl)]; exact lexI_irrefl l
theorem lexI_trans : ∀ {a b c : List Int}, lexI a b < 0 → lexI b c < 0 → lexI a c < 0
  | [], [], _, h, _ => absurd h (by decide)
  | [], _ :: _, [], _, h => absurd h (by unfold lexI; decide)
  | [], _ :: _, _ :: _, _, _ => by unfold lexI; decide
  | _ :: _, [], _, h, _ => absurd h (by unfold lexI; decide)
  | _ :: _, _ :: _, [], _, h => absurd h (by unfold lexI; decide)
  | x :: a, y :: b, z :: c, h1, h2 => by
    unfold lexI at h1 h2 ⊢
    unfold cmpI at *
    by_cases e1 : x < y <;> by_cases e2 : y < z <;> by_cases e3 : x < z <;> by_cases e4 : y < x <;> by_cases e5 : z < y <;> by_cases e6 : z < x <;> simp [e1, e2, e3, e4, e5, e6] at h1 h2 ⊢ <;> first | omega | exact lexI_trans h1 h2
theorem lexI_ntrans : ∀ {a b c : List Int}, ¬ lexI a b < 0 → ¬ lexI b c < 0 → ¬ lexI a c < 0
  | [], [], _, _, h => h
  | [], _ :: _, _, h, _ => absurd (by unfold lexI; decide) h
  | _ :: _, [], [], _, _ => by unfold lexI; decide
  | _ :: _, [], _ :: _, _, h => absurd (by unfold lexI; decide) h
  | _ :: _, _ :: _, [], _, _ => by unfold lexI; decide
  | x :: a, y :: b, z :: c, h1, h2 => by
    unfold lexI at h1 h2 ⊢
    unfold cmpI at *
    by_cases e1 : x < y <;> by_cases e2 : y < z <;> by_cases e3 : x < z <;> by_cases e4 : y < x <;> by_cases e5 : z < y <;> by_cases e6 : z < x <;> simp [e1, e2, e3, e4, e5, e6] at h1 h2 ⊢ <;> first | omega | (have := lexI_ntrans (a := a) (b := b) (c := c) (by omega) (by omega); omega)
/-- Which of two lists comes first, whose first numbers are unlike. -/
theorem lexI_head {a b : List Int} (ha : 0 < a.length) (hb : 0 < b.length) (h : getI a 0 < getI b 0) : lexI a b < 0 := by
  match a, b, ha, hb with
  | x :: a, y :: b, _, _ =>
    have h' : x < y := h
    unfold lexI cmpI
    simp [h']
theorem lexI_drop {l m : List Int} {k : Nat} (h1 : k < l.length) (h2 : k < m.length) : lexI (l.drop k) (m.drop k) = if cmpI (getI l k) (getI m k) = 0 then lexI (l.drop (k + 1)) (m.drop (k + 1)) else cmpI (getI l k) (getI m k) := by
  rw [List.drop_eq_getElem_cons h1, List.drop_eq_getElem_cons h2, getI_of l k h1, getI_of m k h2]
  conv => lhs; unfold lexI
theorem lexI_out {l m : List Int} {k : Nat} (h1 : k < l.length) (h2 : m.length ≤ k) : lexI (l.drop k) (m.drop k) = 1 := by
  rw [List.drop_eq_getElem_cons h1, List.drop_of_length_le h2]
  rfl
theorem lexI_end {l m : List Int} (h : l.length ≤ m.length) : lexI (l.drop l.length) (m.drop l.length) = if l.length < m.length then -1 else 0 := by
  rw [List.drop_length]
  by_cases h2 : l.length < m.length
  · rw [if_pos h2, List.drop_eq_getElem_cons h2]
    rfl
  · rw [if_neg h2, List.drop_of_length_le (by omega)]
    rfl

set_option maxRecDepth 100000 in
set_option maxHeartbeats 2000000 in
theorem sCompare_any (v u : Value) (l m : List Int) (w : World) (h : Ints w v l) (h' : Ints w u m) (hl : l.length ≤ 1000000) (_ : m.length ≤ 1000000) :
    Calls Tryz.prog 67 #[v, u] w fun e w' => e = .returned (.int .i64 (lexI l m)) ∧ w = w' := by
  have HI := Lib.hid h
  have HJ := Lib.hid h'
  obtain ⟨A, c, rfl⟩ := ints_form h
  obtain ⟨A', c', rfl⟩ := ints_form h'
  clear h h'
  go_enter Tryz.func67, Tryz.ntmps67
  go_wp2
  go_loopw [11] (fun i wr => ∃ k : Nat, k ≤ l.length ∧ k ≤ m.length ∧ i = .int .i64 (k : Nat) ∧ wr = w ∧ Hid (lexI l m = lexI (l.drop k) (m.drop k))) (fun i _ => l.length - (Go.RowKit.intOf i).toNat)
  case atStart => exact ⟨0, Nat.zero_le _, Nat.zero_le _, rfl, rfl, Lib.hid rfl⟩
  case round =>
    obtain ⟨k, hk, hk', rfl, rfl, hE⟩ := hrel
    by_cases hlt : k < l.length
    · obtain ⟨b, o, rfl, hb, hc⟩ := ints_at HI.out hlt
      by_cases hlt' : k < m.length
      · obtain ⟨b', o', rfl, hb', hc'⟩ := ints_at HJ.out hlt'
        have HC := Lib.hid (cmpCompare_any (getI l k) (getI m k) wr)
        have hd := lexI_drop hlt hlt'
        have hcr : -1 ≤ cmpI (getI l k) (getI m k) ∧ cmpI (getI l k) (getI m k) ≤ 1 := by unfold cmpI; split; omega; split <;> omega
        by_cases h0 : cmpI (getI l k) (getI m k) = 0
        · have HE := Lib.hid (show lexI l m = lexI (l.drop (k + 1)) (m.drop (k + 1)) by rw [hE.out, hd, if_pos h0])
          rw [h0] at HC
          clear hd h0 hE hb hb' hcr
          generalize getI l k = x at *
          generalize getI m k = y at *
          go_wp2_with fail
          refine HC.out.mono ?_
          rintro e w1 ⟨rfl, rfl⟩
          go_wp2
          go_roundw
          case rel => exact ⟨k + 1, by omega, by omega, by go_num, by first | rfl | trivial, HE⟩
          case measure => simp [Go.RowKit.intOf]; omega
        · have HE := Lib.hid (show lexI l m = cmpI (getI l k) (getI m k) by rw [hE.out, hd, if_neg h0])
          have t0 : (cmpI (getI l k) (getI m k) != 0) = true := by simpa using h0
          clear hd h0 hE hb hb' hcr
          generalize hcc : cmpI (getI l k) (getI m k) = cc at *
          clear hcc
          generalize getI l k = x at *
          generalize getI m k = y at *
          go_wp2_with fail
          refine HC.out.mono ?_
          rintro e w1 ⟨rfl, rfl⟩
          go_wp2
          go_ret
          exact ⟨by rw [HE.out]; rfl, rfl⟩
      · have HE := Lib.hid (show lexI l m = 1 by rw [hE.out, lexI_out hlt (by omega)])
        have hge : m.length ≤ k := by omega
        clear hE hb
        generalize getI l k = x at *
        go_wp2
        go_ret
        exact ⟨by rw [HE.out]; rfl, rfl⟩
    · obtain rfl : k = l.length := by omega
      have HE := Lib.hid (show lexI l m = if l.length < m.length then -1 else 0 by rw [hE.out, lexI_end hk'])
      clear hE
      by_cases h2 : l.length < m.length
      · rw [if_pos h2] at HE
        go_wp2
        go_ret
        exact ⟨by rw [HE.out]; rfl, rfl⟩
      · rw [if_neg h2] at HE
        have h3 : m.length ≤ l.length := by omega
        go_wp2
        go_ret
        exact ⟨by rw [HE.out]; rfl, rfl⟩

set_option maxRecDepth 100000 in
set_option maxHeartbeats 1000000 in
theorem contains_any (v : Value) (l : List Int) (x : Int) (w : World) (h : Ints w v l) (hl : l.length ≤ 1000000) :
    Calls Tryz.prog 51 #[v, .int .i64 x] w fun e w' => e = .returned (.bool (decide (x ∈ l))) ∧ w = w' := by
  have HX := Lib.hid (rgIndex_any v l x w h hl)
  obtain ⟨A, c, rfl⟩ := ints_form h
  clear h
  have hb : decide (x ∈ l) = decide (0 ≤ Lib.idxOf l x) := by
    rw [Bool.eq_iff_iff, decide_eq_true_eq, decide_eq_true_eq, Lib.idxOf_nonneg_iff, List.contains_iff_mem]
  obtain ⟨b, hbb⟩ : ∃ b, decide (0 ≤ Lib.idxOf l x) = b := ⟨_, rfl⟩
  rw [hb, hbb]
  generalize Lib.idxOf l x = ix at *
  clear hb
  go_enter Tryz.func51, Tryz.ntmps51
  go_wp2_with fail
  refine HX.out.mono ?_
  rintro e w1 ⟨rfl, rfl⟩
  go_wp2
  go_ret
  exact ⟨rfl, rfl⟩

set_option maxRecDepth 100000 in
set_option maxHeartbeats 2000000 in
theorem copies_any (v : Value) (T : List (List Int)) (w : World) (h : LL w v T) (hl : T.length ≤ 1000000) (hr : ∀ j, (getT T j).length ≤ 1000000) :
    Calls Tryz.prog 46 #[v] w fun e w' => ∃ u us, e = .returned u ∧ Made w' w.heap.size u us T ∧ Below w.heap.size w w' := by
  have HV := Lib.hid h
  obtain ⟨A, cap, rfl, hcap, hm⟩ := h.form
  clear h
  go_enter Tryz.func46, Tryz.ntmps46
  go_wp2
  go_loopw [3, 8] (fun o i wr => ∃ k us, k ≤ T.length ∧ i = .int .i64 (k : Nat) ∧ Hid (Below w.heap.size w wr) ∧ Hid (Made wr w.heap.size o us (T.take k))) (fun _ i _ => T.length - (Go.RowKit.intOf i).toNat)
  case atStart => exact ⟨0, [], Nat.zero_le _, rfl, Lib.hid (Below.refl _ _), Lib.hid (Made.start _ _)⟩
  case round =>
    obtain ⟨k, us, hk, rfl, hB, hM⟩ := hrel
    rename_i o wr
    by_cases hlt : k < T.length
    · obtain ⟨b, off, rfl, hb, A1, c1, hck, hi⟩ := (HV.out.below hB.out).get hlt
      obtain ⟨Ao, co, hso⟩ := hM.out.shape
      have HS := Lib.hid (take_getT T k hlt)
      have HN := Lib.hid (show (T.take k).length ≤ 1000000 by rw [List.length_take]; omega)
      have HF := Lib.hid (clone_row _ _ wr hi (hr k))
      have hne : (T.take k).length = k := by rw [List.length_take]; omega
      rw [hne] at hso
      subst hso
      clear hi hne
      generalize (getT T k).length = n1 at *
      go_wp2_with fail
      refine HF.out.mono ?_
      rintro e w1 ⟨u, rfl, hu, hB1⟩
      have HB1 := Lib.hid (hB.out.trans (hB1.mono hB.out.size))
      have HM1 := Lib.hid (hM.out.below hB1)
      have HU := Lib.hid (Row.le hu hB.out.size)
      obtain ⟨Au, cu, rfl⟩ := ints_form (Row.ints hu)
      clear hu hB1 hM
      generalize getT T k = fl at *
      go_wp2_with (at_builtin; refine wpList_append_list rfl _ _ rfl (v := .slice Ao k co) rfl rfl HM1.out HU.out HB1.out.size HN.out ?_; intro v' us' w2 hM2 hG2 hB2)
      have HM2 := Lib.hid hM2
      have HB2 := Lib.hid (HB1.out.trans hB2)
      obtain ⟨Av, cv, hsv⟩ := hM2.shape
      subst hsv
      clear hM2 hG2 hB2
      go_wp2
      go_roundw
      case rel => exact ⟨k + 1, _, by omega, by go_num, HB2, Lib.hid (by rw [HS.out]; exact HM2.out)⟩
      case measure => simp [Go.RowKit.intOf]; omega
    · obtain rfl : k = T.length := by omega
      go_wp2
      go_ret
      exact ⟨_, us, rfl, by rw [List.take_length] at hM; exact hM.out, hB.out⟩
end Go.Proofs.YtmbpmepoaonleaaGreat.Pl

/-! The program's sortByFirst: lists in the order of what they begin with. -/
namespace Go.Proofs.YtmbpmepoaonleaaGreat.Pl
open Go.Proofs.YtmbpmepoaonleaaGreat Go.Proofs.YtmbpmepoaonleaaGreat.Rt Go.RowKit Go.Shelf Go.Sort Go.Lib

variable {w w1 : World} {base : Nat} {v : Value} {us : List Value} {T : List (List Int)}

/-- A list of the call's own. -/
structure RowOf (w : World) (base : Nat) where
  u : Value
  l : List Int
  own : w.ownsRow base 3 1 u l.length (l.map (Value.int .i64))
  few : l.length ≤ 1000000
def RowOf.none (w : World) (base : Nat) : RowOf w base := ⟨.slice .none 0 0, [], ⟨by simp, .inl ⟨rfl, rfl⟩⟩, by simp⟩
instance (w : World) (base : Nat) : Inhabited (RowOf w base) := ⟨RowOf.none w base⟩
def encR {w : World} {base : Nat} (x : RowOf w base) : Value := x.u
def cfR {w : World} {base : Nat} (x y : RowOf w base) : Int := lexI x.l y.l
theorem oneR : OneCell (encR (w := w) (base := base)) := fun x => by
  rcases x.own.2 with ⟨h, _⟩ | ⟨_, _, _, h, _⟩ <;> (show x.u.oneCell' = true; rw [h]; rfl)
theorem swoR : SWO (ltOf (cfR (w := w) (base := base))) where
  irrefl x := by show decide (lexI x.l x.l < 0) = false; rw [lexI_irrefl]; rfl
  trans x y z h1 h2 := by
    have h1 : decide (lexI x.l y.l < 0) = true := h1
    have h2 : decide (lexI y.l z.l < 0) = true := h2
    show decide (lexI x.l z.l < 0) = true
    rw [decide_eq_true_iff] at *
    exact lexI_trans h1 h2
  ntrans x y z h1 h2 := by
    have h1 : decide (lexI x.l y.l < 0) = false := h1
    have h2 : decide (lexI y.l z.l < 0) = false := h2
    show decide (lexI x.l z.l < 0) = false
    rw [decide_eq_false_iff_not] at *
    exact lexI_ntrans h1 h2

theorem heap_sortWorld {α : Type} [Inhabited α] (enc : α → Value) (w : World) (blk off m : Nat) (d : Array α) (os : Array Obj) {k : Nat} (hk : k < w.heap.size) (hne : k ≠ blk) : (sortWorld enc w blk off m d os).heap[k]? = w.heap[k]? := by
  show ((w.heap.modify blk _) ++ os)[k]? = _
  rw [Array.getElem?_append_left (by rw [Array.size_modify]; exact hk), Array.getElem?_modify, if_neg (Ne.symm hne)]
theorem row_sortWorld {α : Type} [Inhabited α] (enc : α → Value) {w : World} {blk : Nat} (off m : Nat) (d : Array α) (os : Array Obj) {cur : Array Value} (hb : w.heap[blk]? = some (.cells cur 25 (0, 0))) {u : Value} {n : Nat} {xs : List Value} (h : w.ownsRow base 3 1 u n xs) :
    (sortWorld enc w blk off m d os).ownsRow base 3 1 u n xs :=
  own_block h fun g hg => heap_sortWorld enc w blk off m d os (h.lt g hg).2 (fun e => own_apart h hb (by decide) (by rw [hg, e]))
theorem toList_putCells {α : Type} [Inhabited α] (enc : α → Value) (d : Array α) (c : Array Value) (hc : d.size ≤ c.size) : (putCells enc 0 d c).toList.take d.size = d.toList.map enc := by
  apply List.ext_getElem?
  intro i
  rw [List.getElem?_take]
  by_cases hi : i < d.size
  · rw [if_pos hi]
    unfold putCells
    rw [Array.getElem?_toList, Array.getElem?_mapIdx, Array.getElem?_eq_getElem (show i < c.size by omega), List.getElem?_map, Array.getElem?_toList, Array.getElem?_eq_getElem hi]
    simp [hi]
  · rw [if_neg hi, List.getElem?_eq_none (by simp; omega)]

set_option maxRecDepth 100000 in
set_option maxHeartbeats 2000000 in
theorem sorted_any (h : Made w base v us T) (hr : ∀ j, (getT T j).length ≤ 1000000) (hl : T.length ≤ 1000000) (hn : (T.map fun l => getI l 0).Nodup) (hp : ∀ l ∈ T, 0 < l.length) :
    Calls Tryz.prog 66 #[v, .func (.func 67) #[] #[]] w fun e w' => e = .returned (.tuple #[]) ∧ ∃ us' T', T'.Perm T ∧ T'.Pairwise (fun l m => getI l 0 < getI m 0) ∧ Made w' base v us' T' ∧ Only (fun k => v.ownBlock = some k) w w' := by
  rcases h.own.2 with ⟨rfl, h0⟩ | ⟨g, cap, cur, rfl, hbg, hg, hc1, hc2, hc3, hc4⟩
  · have hT : T = [] := List.eq_nil_of_length_eq_zero (by rw [← h.len]; exact h0)
    subst hT
    have hcon := AnyF.slices_SortFunc_none ({ Tryz.laysSortFunc with } : SlLaysF0.n6 Tryz.prog Tryz.laysSortFunc_ren) .none 0 (.func (.func 67) #[] #[]) w
    change Calls Tryz.prog 66 _ _ _ at hcon
    refine hcon.mono ?_
    rintro e w' ⟨rfl, rfl⟩
    exact ⟨rfl, us, [], List.Perm.refl _, List.Pairwise.nil, h, Only.refl _ _⟩
  · have hlen := h.len
    have rows : ∀ j, (hj : j < T.length) → ∃ x : RowOf w base, x.u = us[j]'(by omega) ∧ x.l = T[j] := fun j hj => by
      have h1 := h.each j hj
      rw [getU_of us j (by omega), getT_of T j hj] at h1
      exact ⟨⟨us[j]'(by omega), T[j], h1, by have := hr j; rw [getT_of T j hj] at this; exact this⟩, rfl, rfl⟩
    obtain ⟨xs, hx1, hx2, hx3⟩ : ∃ xs : List (RowOf w base), xs.length = T.length ∧ xs.map encR = us ∧ xs.map RowOf.l = T := by
      refine ⟨(List.finRange T.length).map fun i => (rows i.1 i.2).choose, by simp, ?_, ?_⟩
      · apply List.ext_getElem
        · simp [hlen]
        · intro i h1 h2
          simp only [List.getElem_map, List.getElem_finRange]
          have := (rows i (by omega)).choose_spec.1
          exact this
      · apply List.ext_getElem
        · simp
        · intro i h1 h2
          simp only [List.getElem_map, List.getElem_finRange]
          have := (rows i (by omega)).choose_spec.2
          exact this
    have hsz : xs.toArray.size = us.length := by rw [List.size_toArray, hx1, hlen]
    have hgl : g < w.heap.size := (Array.getElem?_eq_some_iff.1 hg).1
    have hH : Go.Sort.Holds encR w g 0 xs.toArray := fun j hj => by
      rw [hsz] at hj
      constructor
      · rw [Nat.zero_add, cell_of_row w g j cur 25 (0, 0) hg]
        have h5 := congrArg (fun m : List Value => m[j]?) hc4
        simp only [List.getElem?_take, Nat.mul_one, if_pos hj, Array.getElem?_toList] at h5
        rw [h5, ← hx2, List.getElem?_map]
        have hjx : j < xs.length := by omega
        rw [List.getElem?_eq_getElem hjx]
        simp [hjx]
      · rw [Nat.zero_add]
        exact frozen_of_row w g j cur 25 hg
    have hcmp : CmpLays1 Tryz.prog 67 #[] encR (cfR (w := w) (base := base)) g 0 xs.toArray.size w := fun m os dk _ x y => by
      have hx := Row.ints (row_sortWorld encR 0 m dk os hg x.own)
      have hy := Row.ints (row_sortWorld encR 0 m dk os hg y.own)
      refine (sCompare_any _ _ x.l y.l _ hx hy x.few y.few).mono ?_
      rintro e w' ⟨rfl, rfl⟩
      exact ⟨rfl, 0, #[], by rw [grow_empty]; rfl⟩
    have hcon := Any.slices_SortFunc Tryz.laysSortFunc encR oneR (cfR (w := w) (base := base)) swoR 67 #[] g 0 cap xs.toArray w (enters_of Tryz.func67 (by kernel_rfl) rfl) hcmp hH hgl (by rw [hsz]; omega)
    rw [hsz] at hcon
    change Calls Tryz.prog 66 _ _ _ at hcon
    refine hcon.mono ?_
    rintro e w' ⟨rfl, d', m, os, hperm, hsort, rfl⟩
    obtain ⟨hd1, _, hd2⟩ := hperm
    have e1 : d'.extract 0 us.length = d' := by rw [← hsz, ← hd1]; simp
    have e2 : xs.toArray.extract 0 us.length = xs.toArray := by rw [← hsz]; simp
    rw [e1, e2] at hd2
    have hTp : (d'.toList.map RowOf.l).Perm T := by rw [← hx3]; exact hd2.map _
    have hd3 : d'.size = us.length := hd1.trans hsz
    have hhead : ((d'.toList.map RowOf.l).map fun l => getI l 0).Nodup := ((hTp.map _).nodup_iff).2 hn
    refine ⟨rfl, d'.toList.map encR, d'.toList.map RowOf.l, hTp, ?_, ⟨?_, by simp, fun j hj => ?_⟩, ⟨rfl, rfl, rfl, ?_, fun k hk hf => heap_sortWorld _ _ _ _ _ _ _ hk (fun e => hf (by rw [e]; rfl))⟩⟩
    · rw [List.pairwise_iff_getElem]
      intro i j hi hj hij
      simp only [List.length_map, Array.length_toList] at hi hj
      have h1 := hsort i j (Nat.zero_le _) hij (by omega)
      have h2 : ¬ lexI (d'[j]!).l (d'[i]!).l < 0 := by
        have h1 : decide (lexI (d'[j]!).l (d'[i]!).l < 0) = false := h1
        simpa using h1
      rw [getElem!_pos d' j hj, getElem!_pos d' i hi] at h2
      simp only [List.getElem_map, Array.getElem_toList]
      have p1 := hp _ (hTp.mem_iff.1 (List.mem_map.2 ⟨d'[i], by simp, rfl⟩))
      have p2 := hp _ (hTp.mem_iff.1 (List.mem_map.2 ⟨d'[j], by simp, rfl⟩))
      have h3 : ¬ getI (d'[j]).l 0 < getI (d'[i]).l 0 := fun h => h2 (lexI_head p2 p1 h)
      have h4 : getI (d'[i]).l 0 ≠ getI (d'[j]).l 0 := fun e => by
        have := (List.pairwise_iff_getElem.1 hhead) i j (by simp; exact hi) (by simp; exact hj) hij
        simp only [List.getElem_map, Array.getElem_toList] at this
        exact this e
      omega
    · refine ⟨by simp, .inr ⟨g, cap, putCells encR 0 d' cur, by simp [hd3], hbg, ?_, by simp [hd3]; omega, hc2, ?_, ?_⟩⟩
      · show ((w.heap.modify g _) ++ os)[g]? = _
        rw [Array.getElem?_append_left (by rw [Array.size_modify]; exact hgl), Array.getElem?_modify, if_pos rfl, hg]
        rfl
      · unfold putCells
        simp [hc3]
      · have := toList_putCells (encR (w := w) (base := base)) d' cur (by rw [hd3, hc3]; omega)
        simp only [List.length_map, Array.length_toList, Nat.mul_one]
        exact this
    · simp only [List.length_map, Array.length_toList] at hj
      rw [getU_of _ j (by simp; exact hj), getT_of _ j (by simp; exact hj)]
      simp only [List.getElem_map, Array.getElem_toList]
      exact row_sortWorld encR 0 m d' os hg (d'[j]).own
    · show w.heap.size ≤ ((w.heap.modify g _) ++ os).size
      rw [Array.size_append, Array.size_modify]
      omega

set_option maxRecDepth 100000 in
set_option maxHeartbeats 1000000 in
theorem sortByFirst_any (h : Made w base v us T) (hr : ∀ j, (getT T j).length ≤ 1000000) (hl : T.length ≤ 1000000) (hn : (T.map fun l => getI l 0).Nodup) (hp : ∀ l ∈ T, 0 < l.length) :
    Calls Tryz.prog 35 #[v] w fun e w' => e = .returned (.tuple #[]) ∧ ∃ us' T', T'.Perm T ∧ T'.Pairwise (fun l m => getI l 0 < getI m 0) ∧ Made w' base v us' T' ∧ Only (fun k => v.ownBlock = some k) w w' := by
  have HS := Lib.hid (sorted_any h hr hl hn hp)
  obtain ⟨A, c, rfl⟩ := h.shape
  clear h
  go_enter Tryz.func35, Tryz.ntmps35
  go_wp2_with fail
  refine HS.out.mono ?_
  rintro e w1 ⟨rfl, h⟩
  have HH := Lib.hid h
  clear h HS
  go_wp2
  go_end0
  exact ⟨rfl, HH.out⟩
end Go.Proofs.YtmbpmepoaonleaaGreat.Pl
