/-
  The program's At, Turn, Mirror.
-/
import Derived.Test.YtohaopfpjkhheaaRtYZ
namespace Go.Proofs.Ytohaopfpjkhheaa.Rt
open Go.Proofs.Ytohaopfpjkhheaa Go.RowKit Go.Maps

/-- A vertex's turn; of what is no vertex nothing. -/
def atL (U : List (List Int)) (v : Int) : List Int := if 0 ≤ v ∧ v < U.length then getT U v.toNat else []

theorem clone_row (v : Value) (l : List Int) (w : World) (h : Ints w v l) (hl : l.length ≤ 1000000) :
    Calls Try.prog 46 #[v] w fun e w' => ∃ u, e = .returned u ∧ Row w' w.heap.size u l ∧ Below w.heap.size w w' := rgClone_any v l w h hl

set_option maxRecDepth 100000 in
set_option maxHeartbeats 1000000 in
theorem at_nil (v : Int) (w : World) :
    Calls Try.prog 27 #[.pointer none, .int .i64 v] w fun e w' => e = .returned (.slice none 0 0) ∧ w = w' := by
  go_enter Try.func27, Try.ntmps27
  go_wp2
  go_ret
  exact ⟨rfl, rfl⟩

set_option maxRecDepth 100000 in
set_option maxHeartbeats 2000000 in
theorem at_any (b : Nat) (g : Gph) (p : Prt) (U : List (List Int)) (w : World) (v : Int) (h : Ro w b g p U) (hr : ∀ j, (getT U j).length ≤ 1000000) :
    Calls Try.prog 27 #[.pointer (some ⟨b, 0, none⟩), .int .i64 v] w fun e w' => ∃ u, e = .returned u ∧ Row w' w.heap.size u (atL U v) ∧ Below w.heap.size w w' := by
  obtain ⟨A, cap, mb, nn, D, c0, c1, hbl, hLL, hnn, ho, hD⟩ := h.at_
  have HL := Lib.hid hLL
  clear ho hLL h c1 hD
  by_cases h0 : v < 0
  · have HK := Lib.hid (show atL U v = [] from if_neg (by omega))
    go_enter Try.func27, Try.ntmps27
    go_wp2
    go_ret
    exact ⟨_, rfl, by rw [HK.out]; exact Row.nil _ _, Below.refl _ _⟩
  by_cases h1 : (U.length : Int) ≤ v
  · have HK := Lib.hid (show atL U v = [] from if_neg (by omega))
    go_enter Try.func27, Try.ntmps27
    go_wp2
    go_ret
    exact ⟨_, rfl, by rw [HK.out]; exact Row.nil _ _, Below.refl _ _⟩
  have HK := Lib.hid (show atL U v = getT U v.toNat from if_pos (by omega))
  obtain ⟨k, rfl⟩ : ∃ k : Nat, v = (k : Int) := ⟨v.toNat, by omega⟩
  rw [Int.toNat_natCast] at HK
  have hlt : k < U.length := by omega
  obtain ⟨bT, oT, rfl, hbT, A1, cc, hcT, hi⟩ := HL.out.get hlt
  have HC := Lib.hid (clone_row _ _ w hi (hr k))
  have h2 : (k : Int) < (U.length : Int) := by omega
  clear hi h1
  generalize (getT U k).length = nk at *
  go_enter Try.func27, Try.ntmps27
  go_wp2_with fail
  refine HC.out.mono ?_
  rintro e w1 ⟨u, rfl, hu, hB⟩
  have HU := Lib.hid hu
  have HB := Lib.hid hB
  obtain ⟨Au, cu, rfl⟩ := ints_form (Row.ints hu)
  clear hu hB
  go_wp2
  go_ret
  exact ⟨_, rfl, by rw [HK.out]; exact HU.out, HB.out⟩

set_option maxRecDepth 100000 in
set_option maxHeartbeats 1000000 in
theorem turn_nil (w : World) :
    Calls Try.prog 18 #[.pointer none] w fun e w' => e = .returned (.slice none 0 0) ∧ w = w' := by
  go_enter Try.func18, Try.ntmps18
  go_wp2
  go_ret
  exact ⟨rfl, rfl⟩

set_option maxRecDepth 100000 in
set_option maxHeartbeats 2000000 in
theorem turn_any (b : Nat) (g : Gph) (p : Prt) (U : List (List Int)) (w : World) (h : Ro w b g p U) (hl : U.length ≤ 1000000) (hr : ∀ j, (getT U j).length ≤ 1000000) :
    Calls Try.prog 18 #[.pointer (some ⟨b, 0, none⟩)] w fun e w' => ∃ u us, e = .returned u ∧ Made w' w.heap.size u us U ∧ Below w.heap.size w w' := by
  have HR := Lib.hid h
  have HRL := Lib.hid hr
  obtain ⟨A, cap, mb, nn, D, c0, c1, hbl, hLL, hnn, ho, hD⟩ := h.at_
  obtain ⟨_, _, e3, hcc, hcm, _⟩ := hLL
  cases e3
  unfold maxLen at hcm
  clear ho h c1 hD hr
  go_enter Try.func18, Try.ntmps18
  go_wp2
  clear c0
  go_loopw [3, 12] (fun o i wr => ∃ k us, k ≤ U.length ∧ i = .int .i64 (k : Nat) ∧ Hid (Below w.heap.size w wr) ∧ Hid (Made wr w.heap.size o us (U.take k))) (fun _ i _ => U.length - (Go.RowKit.intOf i).toNat)
  case atStart => exact ⟨0, [], Nat.zero_le _, rfl, Lib.hid (Below.refl _ _), Lib.hid (Made.start _ _)⟩
  case round =>
    obtain ⟨k, us, hk, rfl, hB, hM⟩ := hrel
    rename_i o wr
    by_cases hlt : k < U.length
    · obtain ⟨Ao, co, hso⟩ := hM.out.shape
      have HS := Lib.hid (take_getT U k hlt)
      have HN := Lib.hid (show (U.take k).length ≤ 1000000 by simp; omega)
      have HX := Lib.hid (show atL U (k : Int) = getT U k by unfold atL; rw [if_pos (by omega), Int.toNat_natCast])
      have HF := Lib.hid (at_any b g p U wr (k : Int) (HR.out.below hB.out) HRL.out)
      rw [HX.out] at HF
      have hne : (U.take k).length = k := by simp; omega
      rw [hne] at hso
      subst hso
      clear hne HX
      go_wp2_with fail
      refine HF.out.mono ?_
      rintro e w1 ⟨u, rfl, hu, hB1⟩
      have HB1 := Lib.hid (hB.out.trans (hB1.mono hB.out.size))
      have HM1 := Lib.hid (hM.out.below hB1)
      have HU := Lib.hid (Row.le hu hB.out.size)
      obtain ⟨Au, cu, rfl⟩ := ints_form (Row.ints hu)
      clear hu hB1 hM
      go_wp2_with (at_builtin; refine wpList_append_list rfl _ _ rfl (v := .slice Ao k co) rfl rfl HM1.out HU.out HB1.out.size HN.out ?_; intro v' us' w2 hM2 hG2 hB2)
      have HM2 := Lib.hid hM2
      have HB2 := Lib.hid (HB1.out.trans hB2)
      obtain ⟨Av, cv, hsv⟩ := hM2.shape
      subst hsv
      clear hM2 hG2 hB2
      go_wp2
      go_roundw
      case rel => exact ⟨k + 1, _, by omega, by go_num, HB2, Lib.hid (by rw [HS.out]; exact HM2.out)⟩
      case measure => simp [Go.RowKit.intOf]; omega
    · obtain rfl : k = U.length := by omega
      go_wp2
      go_ret
      exact ⟨_, us, rfl, by rw [List.take_length] at hM; exact hM.out, hB.out⟩

set_option maxRecDepth 100000 in
set_option maxHeartbeats 1000000 in
theorem mirror_nil (w : World) :
    Calls Try.prog 16 #[.pointer none] w fun e w' => e = .returned (.pointer none) ∧ w = w' := by
  go_enter Try.func16, Try.ntmps16
  go_wp2
  go_ret
  exact ⟨rfl, rfl⟩

set_option maxRecDepth 100000 in
set_option maxHeartbeats 2000000 in
theorem mirror_any (b : Nat) (g : Gph) (p : Prt) (U : List (List Int)) (w : World) (h : Ro w b g p U) (hU : Turns g p U) (hl : U.length ≤ 1000) (hr : ∀ j, (getT U j).length ≤ 500) (hw : ∀ j, ∀ x ∈ getT U j, (Lit.int .i64 x).wf = true) :
    Calls Try.prog 16 #[.pointer (some ⟨b, 0, none⟩)] w fun e w' => ∃ m, e = .returned (.pointer (some ⟨m, 0, none⟩)) ∧ Ro w' m g p ((mir U).map fst) ∧ Below w.heap.size w w' := by
  have HRL := Lib.hid hr
  have HU := Lib.hid hU
  have HW := Lib.hid hw
  obtain ⟨A, cap, mb, nn, D, c0, c1, hbl, hLL, hnn, ho, hD⟩ := h.at_
  have HLL := Lib.hid hLL
  obtain ⟨_, _, e3, hcc, hcm, _⟩ := hLL
  cases e3
  unfold maxLen at hcm
  clear ho h c1 hD hr hU hw
  go_enter Try.func16, Try.ntmps16
  go_wp2
  clear c0
  go_loopw [3, 13] (fun o i wr => ∃ k us, k ≤ U.length ∧ i = .int .i64 (k : Nat) ∧ Hid (Below w.heap.size w wr) ∧ Hid (Made wr w.heap.size o us ((U.take k).map List.reverse))) (fun _ i _ => U.length - (Go.RowKit.intOf i).toNat)
  case atStart => exact ⟨0, [], Nat.zero_le _, rfl, Lib.hid (Below.refl _ _), Lib.hid (Made.start _ _)⟩
  case round =>
    obtain ⟨k, us, hk, rfl, hB, hM⟩ := hrel
    rename_i o wr
    obtain ⟨Ao, co, hso⟩ := hM.out.shape
    have hne : ((U.take k).map List.reverse).length = k := by simp; omega
    rw [hne] at hso
    subst hso
    by_cases hlt : k < U.length
    · obtain ⟨bT, oT, rfl, hbT, A1, cc, hcT, hi⟩ := (HLL.out.below hB.out).get hlt
      have HS := Lib.hid (show (U.take (k + 1)).map List.reverse = (U.take k).map List.reverse ++ [(getT U k).reverse] by rw [take_getT U k hlt]; simp)
      have HN := Lib.hid (show ((U.take k).map List.reverse).length ≤ 1000000 by omega)
      have HF := Lib.hid (about_row _ _ wr hi (by have := HRL.out k; omega))
      clear hne hi
      generalize (getT U k).length = nk at *
      go_wp2_with fail
      clear hcT
      refine HF.out.mono ?_
      rintro e w1 ⟨u, rfl, hu, hB1⟩
      have HB1 := Lib.hid (hB.out.trans (hB1.mono hB.out.size))
      have HM1 := Lib.hid (hM.out.below hB1)
      have HUU := Lib.hid (Row.le hu hB.out.size)
      obtain ⟨Au, cu, rfl⟩ := ints_form (Row.ints hu)
      clear hu hB1 hM HF
      generalize (getT U k).reverse = rl at *
      go_wp2_with (at_builtin; refine wpList_append_list rfl _ _ rfl (v := .slice Ao k co) rfl rfl HM1.out HUU.out HB1.out.size HN.out ?_; intro v' us' w2 hM2 hG2 hB2)
      have HM2 := Lib.hid hM2
      have HB2 := Lib.hid (HB1.out.trans hB2)
      obtain ⟨Av, cv, hsv⟩ := hM2.shape
      subst hsv
      clear hM2 hG2 hB2
      go_wp2
      go_roundw
      case rel => exact ⟨k + 1, _, by omega, by go_num, HB2, Lib.hid (by rw [HS.out]; exact HM2.out)⟩
      case measure => simp [Go.RowKit.intOf]; omega
    · obtain rfl : k = U.length := by omega
      have hMR := hM.out.reads
      rw [List.take_length] at hMR
      have HT := Lib.hid (take_any _ g p (mir U) wr hMR HU.out.mir (by unfold mir; rw [List.length_map]; exact hl) (fun j => by rw [getT_mir, List.length_reverse]; exact HRL.out j) (fun j x hx => by rw [getT_mir, List.mem_reverse] at hx; exact HW.out j x hx))
      clear hMR hM
      go_wp2_with fail
      refine HT.out.mono ?_
      rintro e w1 ⟨m, rfl, hm, hRo, hB1⟩
      have HRo := Lib.hid hRo
      have HB1 := Lib.hid (hB.out.trans (hB1.mono hB.out.size))
      clear hm hRo hB1 HT
      go_wp2
      go_ret
      exact ⟨m, rfl, HRo.out, HB1.out⟩

end Go.Proofs.Ytohaopfpjkhheaa.Rt
