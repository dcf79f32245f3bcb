/-
  FaceKeys: a walk's key is its own; each dart's key is a dart of its walk, the least one: the law's call answers true at every input.
-/
import Derived.Test.YtmbcjilkcbcaiaaM32
namespace Go.Proofs.Ytmbcjilkcbcaiaa.Fc
open Go.Proofs.Ytmbcjilkcbcaiaa Go.RowKit Go.Maps

theorem key_wf {g : Gph} {p : Prt} {T : List (List Int)} (h : Rt.Turns g p T) (hn : g.n ≤ 1000000) (hl : g.e.length ≤ 1000000) (d : Int) : (Lit.int .i64 (keyI (walksOf g p T) d)).wf = true := by
  unfold keyI
  cases e : (walksOf g p T).find? (hitB d) with
  | none => exact WalkArith.wf_i64 (n := 0) (by omega)
  | some x =>
    have hx := List.mem_of_find?_eq_some e
    have hk := walk_keys h hn hx
    show (Lit.int .i64 x.1).wf = true
    exact WalkArith.wf_i64 (by omega)
theorem key_none_zero {L : List Wlk} {d : Int} (h : keyB L d = false) : keyI L d = 0 := by
  unfold keyB at h
  unfold keyI
  cases e : L.find? (hitB d) with
  | none => rfl
  | some x => rw [e] at h; cases h

set_option maxRecDepth 100000 in
set_option maxHeartbeats 16000000 in
theorem faceKeys_any (v : Value) (g : Gph) (u : Value) (p : Prt) (x : Value) (T : List (List Int)) (d : Int) (w : World) (h : Gr w v g) (h' : Pt w u p) (hT : LL w x T) (hw : ∀ j, ∀ y ∈ Rt.getT T j, (Lit.int .i64 y).wf = true) (hwd : (Lit.int .i64 d).wf = true) :
    Calls Try.prog 7 #[v, u, x, .int .i64 d] w fun e w' => e = .returned (.bool true) ∧ Below w.heap.size w w' := by
  have HG := Lib.hid h
  have HP := Lib.hid h'
  obtain ⟨ve, rfl, h1⟩ := h
  obtain ⟨vv, vp, rfl, h2, h3⟩ := h'
  obtain ⟨Ae, ce, rfl⟩ := h1.form
  obtain ⟨Av, cv, rfl⟩ := ints_form h2
  obtain ⟨Ap, cp, rfl⟩ := ints_form h3
  obtain ⟨A, cap, rfl, _, _⟩ := hT.form
  obtain ⟨b1, b2, hm⟩ := two_boxes w (.int .i64 g.n) (.slice Ae g.e.length ce) (.slice Av p.v.length cv) (.slice Ap p.e.length cp) 24 27
  have HB1 := Lib.hid b1
  have HB2 := Lib.hid b2
  have HM := Lib.hid hm
  have HG1 := Lib.hid (HG.out.below hm)
  have HP1 := Lib.hid (HP.out.below hm)
  have HT1 := Lib.hid (hT.below hm)
  have HW := Lib.hid hw
  clear b1 b2 hm h1 h2 h3 HG HP hT hw
  go_enter Try.func7, Try.ntmps7
  go_wp2_with fail
  generalize (w.alloc (.cells #[.int .i64 g.n, .slice Ae g.e.length ce] 24)).alloc (.cells #[.slice Av p.v.length cv, .slice Ap p.e.length cp] 27) = w1 at *
  refine (fawake_any w1).mono ?_
  rintro e w2 ⟨rfl, hB2⟩
  have c0 := (HB1.out.below hB2).c0
  have c1 := (HB1.out.below hB2).c1
  have d0 := (HB2.out.below hB2).c0
  have d1 := (HB2.out.below hB2).c1
  have HBB2 := Lib.hid hB2
  clear hB2
  go_wp2_with fail
  refine (Rt.small6_any _ _ _ g p T w2 (HG1.out.below HBB2.out) (HP1.out.below HBB2.out) (HT1.out.below HBB2.out)).mono ?_
  rintro e w3 ⟨rfl, hB3⟩
  have HB3 := Lib.hid (trans2 HBB2.out hB3)
  clear hB3 c0 c1 d0 d1 HBB2
  by_cases hs : Rt.small6 g p T = true
  case neg =>
    have e : Rt.small6I g p T = 0 := if_neg hs
    rw [e]
    clear e hs
    go_wp2_with fail
    refine (fawake_any w3).mono ?_
    rintro e w4 ⟨rfl, hB4⟩
    go_wp2
    go_ret
    exact ⟨rfl, trans2 HM.out (trans2 HB3.out hB4)⟩
  have e : Rt.small6I g p T = 1 := if_pos hs
  obtain ⟨hl, hp1, hp2, hlT, hrT⟩ := small_facts hs
  rw [e]
  have c0 := (HB1.out.below HB3.out).c0
  have c1 := (HB1.out.below HB3.out).c1
  have d0 := (HB2.out.below HB3.out).c0
  have d1 := (HB2.out.below HB3.out).c1
  clear e hs
  have HKY := Lib.hid (fun (W : World) (hW : Below w1.heap.size w1 W) (k : Int) (hk : (Lit.int .i64 k).wf = true) => key_any _ _ _ g p T k W (HG1.out.below hW) (HP1.out.below hW) (HT1.out.below hW) (by omega) (by omega) (by omega) (by omega) (fun j => by have := hrT j; omega) HW.out hk)
  have HK1 := Lib.hid (HKY.out w3 HB3.out d hwd)
  by_cases ht : Rt.terr g p T = 0
  case neg =>
    have e1 : keyA g p T d = 0 := if_neg ht
    have e2 : keyAB g p T d = false := if_neg ht
    rw [e1, e2] at HK1
    clear e1 e2 ht
    go_wp2_with fail
    refine HK1.out.mono ?_
    rintro e w4 ⟨rfl, hB4⟩
    have HZ := Lib.hid (trans2 HM.out (trans2 HB3.out hB4))
    clear hB4 HK1 HKY c0 c1 d0 d1
    go_wp2
    go_ret
    exact ⟨rfl, HZ.out⟩
  have hTu := Rt.terr_iff.1 ht
  have e1 : ∀ k, keyA g p T k = keyI (walksOf g p T) k := fun k => if_pos ht
  have e2 : ∀ k, keyAB g p T k = keyB (walksOf g p T) k := fun k => if_pos ht
  rw [e1, e2] at HK1
  by_cases hb : keyB (walksOf g p T) d = true
  case neg =>
    have hbf : keyB (walksOf g p T) d = false := by simpa using hb
    rw [hbf, key_none_zero hbf] at HK1
    clear e1 e2 ht hb hbf hTu
    go_wp2_with fail
    refine HK1.out.mono ?_
    rintro e w4 ⟨rfl, hB4⟩
    have HZ := Lib.hid (trans2 HM.out (trans2 HB3.out hB4))
    clear hB4 HK1 HKY c0 c1 d0 d1
    go_wp2
    go_ret
    exact ⟨rfl, HZ.out⟩
  obtain ⟨k1, k2, k3, k4⟩ := key_key hTu d hb
  have hkw := key_wf hTu (by have := hTu.len; omega) (by omega) d
  rw [hb] at HK1
  have HK2 := Lib.hid (fun W hW => HKY.out W hW (keyI (walksOf g p T) d) hkw)
  simp only [e1, e2, k1, k2] at HK2
  have t1 : decide (keyI (walksOf g p T) d ≤ d) = true := decide_eq_true k3
  have t2 : (decide (keyI (walksOf g p T) d < 0) == decide (d < 0)) = true := by
    rw [beq_iff_eq, decide_eq_decide]
    exact k4
  clear e1 e2 ht hb hTu k1 k2 k3 k4 hkw HKY
  generalize keyI (walksOf g p T) d = k at *
  go_wp2_with fail
  refine HK1.out.mono ?_
  rintro e w4 ⟨rfl, hB4⟩
  have HB4 := Lib.hid (trans2 HB3.out hB4)
  have HK4 := Lib.hid (HK2.out w4 HB4.out)
  clear hB4 HK1 HK2 c0 c1 d0 d1
  have c0 := (HB1.out.below HB4.out).c0
  have c1 := (HB1.out.below HB4.out).c1
  have d0 := (HB2.out.below HB4.out).c0
  have d1 := (HB2.out.below HB4.out).c1
  go_wp2_with fail
  refine HK4.out.mono ?_
  rintro e w5 ⟨rfl, hB5⟩
  have HZ := Lib.hid (trans2 HM.out (trans2 HB4.out hB5))
  clear hB5 HK4 c0 c1 d0 d1
  cases hk0 : decide (k < 0) with
  | true =>
    rw [hk0] at t2
    have t3 : decide (d < 0) = true := by simpa using t2
    clear t2
    go_wp2
    go_ret
    exact ⟨rfl, HZ.out⟩
  | false =>
    rw [hk0] at t2
    have t3 : decide (d < 0) = false := by simpa using t2
    clear t2
    go_wp2
    go_ret
    exact ⟨rfl, HZ.out⟩
end Go.Proofs.Ytmbcjilkcbcaiaa.Fc
