/-
  RtY, RtZ, RuA, in one text.
-/
import Derived.Test.YtmbpmepoaonleaaGreatM24
/-! The program's steps: After, Before, Next, Back. -/
namespace Go.Proofs.YtmbpmepoaonleaaGreat.Rt
open Go.Proofs.YtmbpmepoaonleaaGreat Go.RowKit Go.Maps

def placeZ : DataW Unit := .agg [.lit (.int .i64 0), .lit (.int .i64 0)]
theorem zeroPlace (w : World) : (zeroValue 136).run Tryz.prog w = .ok (.agg #[.int .i64 0, .int .i64 0]) w := by kernel_rfl

/-- 'p, is := r.places[d]'. -/
theorem wpList_lookup_place {w : World} {ops : Array Oper} {rest : List Oper} {o : Oper} {a : Act} {Q : Exit → Act → World → Prop} (hg : o.guard = none) (m x : Operand) (hop : o.op = Op.lookup 101 m x true) (b n : Nat) (D : DataW Unit)
    (hm : a.eval m = .map (some b)) (hown : w.ownsMap Tryz.prog 3 placeR b n D) (key : Value) (kl : Lit) (hx : a.eval x = key) (hkey : keyOf Tryz.prog 3 key = some kl) {s t : Int} (hat : D.atKey kl placeZ = .agg [.lit (.int .i64 s), .lit (.int .i64 t)]) {r : Bool} (hh : Maps.has D kl = r)
    (hK : wpList Tryz.prog ops Q rest (a.put o.dst (.tuple #[.agg #[.int .i64 s, .int .i64 t], .bool r])) w) : wpList Tryz.prog ops Q (o :: rest) a w :=
  wpList_lookup_own_ok w hg m x 101 hop 3 136 Tryz.keyInt Tryz.underlying101 placeR (zeroPlace w) placeZ [] (placeR_mk 0 0) b n D hm hown key kl hx hkey (fun v ps hv => by
    rw [hat] at hv
    rw [placeR_inv hv, hh]
    exact hK)

theorem ret_pair {a b : Int} {r s : Bool} (h : a = b) (h' : r = s) : Ending.returned (.tuple #[.int .i64 a, .bool r]) = .returned (.tuple #[.int .i64 b, .bool s]) := by rw [h, h']

def stp (p : Prt) (d f : Int) : Int := if Dart p d then f else 0
theorem stp_yes {p : Prt} {d : Int} (h : Dart p d) (f : Int) : stp p d f = f := if_pos h
theorem stp_no {p : Prt} {d : Int} (h : ¬ Dart p d) (f : Int) : stp p d f = 0 := if_neg h

theorem Ro.at_ {w : World} {b : Nat} {g : Gph} {p : Prt} {U : List (List Int)} (h : Ro w b g p U) : ∃ A cap mb n D, w.cell? ⟨b, 0, none⟩ = some (.slice A U.length cap) ∧ w.cell? ⟨b, 1, none⟩ = some (.map (some mb)) ∧ b < w.heap.size ∧ LL w (.slice A U.length cap) U ∧ n ≤ 1000000 ∧ w.ownsMap Tryz.prog 3 placeR mb n D ∧ Hd D (Dart p) (plF g U) := by
  obtain ⟨sv, mb, n, D, h1, h2, h3, h4, h5⟩ := h
  obtain ⟨A, cap, rfl, _, _⟩ := h2.form
  exact ⟨A, cap, mb, n, D, cell_of_row w b 0 _ _ (0, 0) h1, cell_of_row w b 1 _ _ (0, 0) h1, (Array.getElem?_eq_some_iff.1 h1).1, h2, h3, h4, h5⟩

set_option maxRecDepth 100000 in
set_option maxHeartbeats 2000000 in
theorem pstep_any (b : Nat) (g : Gph) (p : Prt) (U : List (List Int)) (w : World) (d n f : Int) (h : Ro w b g p U) (hU : Turns g p U) (hwd : (Lit.int .i64 d).wf = true) (hr : ∀ j, (getT U j).length ≤ 1000000) (hn : -1 ≤ n ∧ n ≤ 1)
    (hf : Dart p d → ∀ k, k < (getT U (tl g d)).length → getI (getT U (tl g d)) k = d → ∃ m : Nat, m < (getT U (tl g d)).length ∧ ((k : Int) + n + ((getT U (tl g d)).length : Int)).tmod ((getT U (tl g d)).length : Int) = (m : Int) ∧ getI (getT U (tl g d)) m = f) :
    Calls Tryz.prog 143 #[.pointer (some ⟨b, 0, none⟩), .int .i64 d, .int .i64 n] w fun e w' => e = .returned (.tuple #[.int .i64 (stp p d f), .bool (decide (Dart p d))]) ∧ Below w.heap.size w w' := by
  obtain ⟨A, cap, mb, nn, D, c0, c1, hbl, hLL, hnn, ho, hD⟩ := h.at_
  have hkey := keyOf_int_mk Tryz.underlying3 hwd
  have HO := Lib.hid ho
  have HL := Lib.hid hLL
  clear ho hLL h
  by_cases hd : Dart p d
  case neg =>
    have HF := Lib.hid (stp_no hd f)
    have HFB := Lib.hid (decide_eq_false hd)
    have hh := hD.no hd
    have hat : D.atKey (dk d) placeZ = placeZ := atKey_of_not_has hh placeZ
    obtain ⟨b1, hm⟩ := one_box w (.int .i64 0) (.int .i64 0) 136
    have HB := Lib.hid hm
    clear hf hd hm b1
    go_enter Tryz.func143, Tryz.ntmps143
    go_wp2_with (at_lookup; refine wpList_lookup_place rfl _ _ rfl mb nn D rfl HO.out _ _ rfl hkey hat hh ?_)
    go_ret2
    exact ⟨ret_pair HF.out.symm HFB.out.symm, HB.out⟩
  have hmem := hU.mem hd
  have htl := tl_lt hU hd
  obtain ⟨k, hk, hgk, _⟩ := idx_lt hmem
  obtain ⟨m, hml, hmod, hgm⟩ := hf hd k hk hgk
  have hix := idx_nodup (hU.once (tl g d)) k hk
  rw [hgk] at hix
  have hrk := hr (tl g d)
  have HF := Lib.hid (stp_yes hd f)
  have HFB := Lib.hid (decide_eq_true hd)
  have hh := hD.yes hd
  have hat : D.atKey (dk d) placeZ = .agg [.lit (.int .i64 ((tl g d : Nat) : Int)), .lit (.int .i64 (k : Int))] := by
    rw [hD.at_ d hd placeZ]
    unfold plF
    rw [hix]
  obtain ⟨b1, hm⟩ := one_box w (.int .i64 ((tl g d : Nat) : Int)) (.int .i64 (k : Int)) 136
  have HB := Lib.hid hm
  obtain ⟨bT, oT, rfl, hbT, A1, cc, hcT, hi⟩ := HL.out.get htl
  obtain ⟨A2, c2, e2, hrc, hrm, hrcell⟩ := hi
  cases e2
  obtain ⟨b', off', rfl, hb', hg'⟩ := hrcell (by omega)
  have hgm' := hg' m hml
  rw [hgm] at hgm'
  have y0 := HB.out.cell (p := ⟨b, 0, none⟩) hbl |>.trans c0
  have y1 := HB.out.cell (p := ⟨bT, oT + tl g d, none⟩) hbT |>.trans hcT
  have y2 := HB.out.cell (p := ⟨b', off' + m, none⟩) hb' |>.trans hgm'
  have z0 := b1.c0
  have z1 := b1.c1
  clear hf hd hm hD hU hmem hix hgk hgm hg' hrcell hcT hgm' b1
  generalize (getT U (tl g d)).length = len at *
  generalize tl g d = t at *
  have hti : ((t : Nat) : Int) < (U.length : Int) := by omega
  have hlz : ((len : Nat) : Int) ≠ 0 := by omega
  have hm0 : (0 : Int) ≤ (m : Int) := by omega
  have hm1 : (m : Int) < (len : Int) := by omega
  go_enter Tryz.func143, Tryz.ntmps143
  go_wp2_with (at_lookup; refine wpList_lookup_place rfl _ _ rfl mb nn D rfl HO.out _ _ rfl hkey hat hh ?_)
  generalize w.alloc (.cells #[.int .i64 (t : Int), .int .i64 (k : Int)] 136) = w1 at *
  go_quiet (fail)
  go_wp2
  go_ret2
  exact ⟨ret_pair HF.out.symm HFB.out.symm, below_drewN HB.out _⟩

theorem pstep_back {g : Gph} {p : Prt} {U : List (List Int)} (hU : Turns g p U) (d : Int) : Dart p d → ∀ k, k < (getT U (tl g d)).length → getI (getT U (tl g d)) k = d → ∃ m : Nat, m < (getT U (tl g d)).length ∧ ((k : Int) + -1 + ((getT U (tl g d)).length : Int)).tmod ((getT U (tl g d)).length : Int) = (m : Int) ∧ getI (getT U (tl g d)) m = befT g U d := fun _ k hk hg =>
  ⟨(k + ((getT U (tl g d)).length - 1)) % _, Nat.mod_lt _ (by omega), tmod_back hk, by
    unfold befT
    have := bef_at (hU.once (tl g d)) hk
    rw [hg] at this
    exact this.symm⟩

section
variable (b : Nat) (g : Gph) (p : Prt) (U : List (List Int)) (w : World) (d : Int)

set_option maxRecDepth 100000 in
set_option maxHeartbeats 2000000 in
theorem before_any (h : Ro w b g p U) (hU : Turns g p U) (hwd : (Lit.int .i64 d).wf = true) (hr : ∀ j, (getT U j).length ≤ 1000000) :
    Calls Tryz.prog 133 #[.pointer (some ⟨b, 0, none⟩), .int .i64 d] w fun e w' => e = .returned (.tuple #[.int .i64 (stp p d (befT g U d)), .bool (decide (Dart p d))]) ∧ Below w.heap.size w w' := by
  have HS := Lib.hid (pstep_any b g p U w d (-1) _ h hU hwd hr (by omega) (pstep_back hU d))
  clear h hU
  generalize decide (Dart p d) = r at *
  generalize stp p d (befT g U d) = x at *
  go_enter Tryz.func133, Tryz.ntmps133
  go_wp2_with fail
  refine HS.out.mono ?_
  rintro e w1 ⟨rfl, hB⟩
  have HB := Lib.hid hB
  clear hB
  go_wp2
  go_ret2
  exact ⟨rfl, HB.out⟩

theorem wf_bounds {d : Int} (h : (Lit.int .i64 d).wf = true) : -9223372036854775808 ≤ d ∧ d ≤ 9223372036854775807 := by
  have h' : (decide (IntKind.i64.min ≤ d) && decide (d ≤ IntKind.i64.max)) = true := h
  rw [Bool.and_eq_true, decide_eq_true_iff, decide_eq_true_iff] at h'
  exact h'
theorem dart_twi {p : Prt} {d : Int} : Dart p (twi d) ↔ Dart p d := ⟨fun h => by have := h.twi; rwa [twi_twi] at this, fun h => h.twi⟩
theorem wf_twi {d : Int} (h : (Lit.int .i64 d).wf = true) : (Lit.int .i64 (twi d)).wf = true := by
  have h1 := wf_bounds h
  refine WalkArith.wf_i64 ?_
  unfold twi
  split <;> omega

set_option maxRecDepth 100000 in
set_option maxHeartbeats 2000000 in
theorem next_any (h : Ro w b g p U) (hU : Turns g p U) (hwd : (Lit.int .i64 d).wf = true) (hr : ∀ j, (getT U j).length ≤ 1000000) :
    Calls Tryz.prog 113 #[.pointer (some ⟨b, 0, none⟩), .int .i64 d] w fun e w' => e = .returned (.tuple #[.int .i64 (stp p d (nxt g U d)), .bool (decide (Dart p d))]) ∧ Below w.heap.size w w' := by
  have hbd := wf_bounds hwd
  have HT := Lib.hid (ptwin_any d w (by omega) (by omega))
  have HS := Lib.hid (before_any b g p U w (twi d) h hU (wf_twi hwd) hr)
  have HE : Hid (stp p (twi d) (befT g U (twi d)) = stp p d (nxt g U d)) := by
    unfold stp nxt
    by_cases hd : Dart p d
    · rw [if_pos hd, if_pos (dart_twi.2 hd)]; rfl
    · rw [if_neg hd, if_neg (fun e => hd (dart_twi.1 e))]; rfl
  have HD : Hid (decide (Dart p (twi d)) = decide (Dart p d)) := decide_eq_decide.2 dart_twi
  rw [HE.out, HD.out] at HS
  clear h hU HE HD
  generalize decide (Dart p d) = r at *
  generalize stp p d (nxt g U d) = x at *
  generalize twi d = t at *
  go_enter Tryz.func113, Tryz.ntmps113
  go_wp2_with fail
  refine HT.out.mono ?_
  rintro e w1 ⟨rfl, rfl⟩
  go_wp2_with fail
  refine HS.out.mono ?_
  rintro e w1 ⟨rfl, hB⟩
  have HB := Lib.hid hB
  clear hB
  go_wp2
  go_ret2
  exact ⟨rfl, HB.out⟩

end

end Go.Proofs.YtmbpmepoaonleaaGreat.Rt

/-! The program's New. -/
namespace Go.Proofs.YtmbpmepoaonleaaGreat.Rt
open Go.Proofs.YtmbpmepoaonleaaGreat Go.RowKit Go.Maps

theorem terr_five {g : Gph} {p : Prt} {T : List (List Int)} (h : perr g p = 0) (hn : ¬ terr g p T = 0) : terr g p T = 5 := by
  unfold terr at hn ⊢
  rw [if_pos h] at hn ⊢
  split at hn
  · exact absurd rfl hn
  · rename_i e; rw [if_neg e]

theorem ret_err {a b : Int} (h : a = b) : Ending.returned (.tuple #[.pointer none, .int .i64 a]) = .returned (.tuple #[.pointer none, .int .i64 b]) := by rw [h]

set_option maxRecDepth 100000 in
set_option maxHeartbeats 4000000 in
theorem new_any (v u x : Value) (g : Gph) (p : Prt) (T : List (List Int)) (w : World) (h : Gr w v g) (h' : Pt w u p) (hT : LL w x T) (hl : g.e.length ≤ 1000000) (hp1 : p.v.length ≤ 1000000) (hp2 : p.e.length ≤ 1000000) (hlT : T.length ≤ 1000) (hr : ∀ j, (getT T j).length ≤ 500) (hw : ∀ j, ∀ x ∈ getT T j, (Lit.int .i64 x).wf = true) :
    Calls Tryz.prog 36 #[v, u, x] w fun e w' => Below w.heap.size w w' ∧ ((¬ terr g p T = 0 ∧ e = .returned (.tuple #[.pointer none, .int .i64 (terr g p T)])) ∨ (Turns g p T ∧ ∃ b, e = .returned (.tuple #[.pointer (some ⟨b, 0, none⟩), .int .i64 0]) ∧ Ro w' b g p (T.map fst))) := by
  have HG := Lib.hid h
  have HP := Lib.hid h'
  obtain ⟨ve, rfl, h1⟩ := h
  obtain ⟨vv, vp, rfl, h2, h3⟩ := h'
  obtain ⟨Ae, ce, rfl⟩ := h1.form
  obtain ⟨Av, cv, rfl⟩ := ints_form h2
  obtain ⟨Ap, cp, rfl⟩ := ints_form h3
  obtain ⟨A, cap, rfl, hcap, hmx⟩ := hT.form
  obtain ⟨b1, b2, hm⟩ := two_boxes w (.int .i64 g.n) (.slice Ae g.e.length ce) (.slice Av p.v.length cv) (.slice Ap p.e.length cp) 24 27
  have HG1 := Lib.hid (HG.out.below hm)
  have HP1 := Lib.hid (HP.out.below hm)
  have HT1 := Lib.hid (hT.below hm)
  have HB1 := Lib.hid b1
  have HB2 := Lib.hid b2
  have HM := Lib.hid hm
  have HW := Lib.hid hw
  have HR := Lib.hid hr
  clear b1 b2 hm h1 h2 h3 hT HG HP hw hr
  go_enter Tryz.func36, Tryz.ntmps36
  go_wp2_with fail
  generalize (w.alloc (.cells #[.int .i64 g.n, .slice Ae g.e.length ce] 24)).alloc (.cells #[.slice Av p.v.length cv, .slice Ap p.e.length cp] 27) = w1 at *
  refine (rightPart_any _ _ g p _ HG1.out HP1.out hl hp1 hp2).mono ?_
  rintro e w2 ⟨rfl, hB2⟩
  have HM2 := Lib.hid (trans2 HM.out hB2)
  have HG2 := Lib.hid (HG1.out.below hB2)
  have HP2 := Lib.hid (HP1.out.below hB2)
  have HT2 := Lib.hid (HT1.out.below hB2)
  have HX1 := Lib.hid (HB1.out.below hB2)
  have HX2 := Lib.hid (HB2.out.below hB2)
  clear HB1 HB2 HG1 HP1 HT1 hB2 HM
  by_cases he : perr g p = 0
  case neg =>
    have HK := Lib.hid (terr_bad (T := T) he)
    have HN := Lib.hid (show ¬ terr g p T = 0 by rw [HK.out]; exact he)
    have hne : (perr g p != 0) = true := by simpa using he
    clear he
    go_wp2
    go_ret2
    exact ⟨HM2.out, .inl ⟨HN.out, ret_err HK.out.symm⟩⟩
  have HE := Lib.hid he
  rw [he]
  clear he
  have c10 := HX1.out.c0
  have c11 := HX1.out.c1
  have c20 := HX2.out.c0
  have c21 := HX2.out.c1
  by_cases hn : (T.length : Int) = g.n
  case neg =>
    have HK := Lib.hid (terr_len HE.out hn)
    have HN := Lib.hid (show ¬ terr g p T = 0 by rw [HK.out]; decide)
    have hne : ((T.length : Int) != g.n) = true := by simpa using hn
    clear hn
    go_wp2
    go_ret2
    exact ⟨HM2.out, .inl ⟨HN.out, ret_err HK.out.symm⟩⟩
  have HN := Lib.hid hn
  have hne : ((T.length : Int) != g.n) = false := by simpa using hn
  clear hn
  have HL := Lib.hid (leavesOf_any _ _ g p w2 HG2.out HP2.out HE.out hl hp2)
  go_wp2_with fail
  clear c10 c11 c20 c21
  refine HL.out.mono ?_
  rintro e w3 ⟨b, n, D, rfl, hbb, hn3, ho3, hD3, hB3⟩
  have HA := Lib.hid (areTurns_any _ g p T w2 w3 b n D HT2.out hB3 hbb ho3 hD3 HE.out HN.out HW.out)
  clear hbb ho3 hD3 hB3
  go_wp2_with fail
  refine HA.out.mono ?_
  rintro e w4 ⟨rfl, hB4⟩
  have HM4 := Lib.hid (trans2 HM2.out hB4)
  have HT4 := Lib.hid (HT2.out.below hB4)
  clear hB4 HA HL
  by_cases ht : terr g p T = 0
  case neg =>
    have HK := Lib.hid (terr_five HE.out ht)
    have HNT := Lib.hid ht
    rw [decide_eq_false ht]
    clear ht
    go_wp2
    go_ret2
    exact ⟨HM4.out, .inl ⟨HNT.out, ret_err HK.out.symm⟩⟩
  have HTU := Lib.hid (terr_iff.1 ht)
  rw [decide_eq_true ht]
  clear ht
  have HTK := Lib.hid (take_any _ g p T w4 HT4.out HTU.out hlT HR.out HW.out)
  go_wp2_with fail
  refine HTK.out.mono ?_
  rintro e w5 ⟨rb, rfl, hrb, hRo, hB5⟩
  have HRo := Lib.hid hRo
  have HM5 := Lib.hid (trans2 HM4.out hB5)
  clear hrb hRo hB5 HTK
  go_wp2
  go_ret2
  exact ⟨HM5.out, .inr ⟨HTU.out, rb, rfl, HRo.out⟩⟩

end Go.Proofs.YtmbpmepoaonleaaGreat.Rt

/-! The program's At, Turn, Mirror. -/
namespace Go.Proofs.YtmbpmepoaonleaaGreat.Rt
open Go.Proofs.YtmbpmepoaonleaaGreat Go.RowKit Go.Maps

/-- A vertex's turn; of what is no vertex nothing. -/
def atL (U : List (List Int)) (v : Int) : List Int := if 0 ≤ v ∧ v < U.length then getT U v.toNat else []

theorem clone_row (v : Value) (l : List Int) (w : World) (h : Ints w v l) (hl : l.length ≤ 1000000) :
    Calls Tryz.prog 83 #[v] w fun e w' => ∃ u, e = .returned u ∧ Row w' w.heap.size u l ∧ Below w.heap.size w w' := rgClone_any v l w h hl

set_option maxRecDepth 100000 in
set_option maxHeartbeats 2000000 in
theorem at_any (b : Nat) (g : Gph) (p : Prt) (U : List (List Int)) (w : World) (v : Int) (h : Ro w b g p U) (hr : ∀ j, (getT U j).length ≤ 1000000) :
    Calls Tryz.prog 73 #[.pointer (some ⟨b, 0, none⟩), .int .i64 v] w fun e w' => ∃ u, e = .returned u ∧ Row w' w.heap.size u (atL U v) ∧ Below w.heap.size w w' := by
  obtain ⟨A, cap, mb, nn, D, c0, c1, hbl, hLL, hnn, ho, hD⟩ := h.at_
  have HL := Lib.hid hLL
  clear ho hLL h c1 hD
  by_cases h0 : v < 0
  · have HK := Lib.hid (show atL U v = [] from if_neg (by omega))
    go_enter Tryz.func73, Tryz.ntmps73
    go_wp2
    go_ret
    exact ⟨_, rfl, by rw [HK.out]; exact Row.nil _ _, Below.refl _ _⟩
  by_cases h1 : (U.length : Int) ≤ v
  · have HK := Lib.hid (show atL U v = [] from if_neg (by omega))
    go_enter Tryz.func73, Tryz.ntmps73
    go_wp2
    go_ret
    exact ⟨_, rfl, by rw [HK.out]; exact Row.nil _ _, Below.refl _ _⟩
  have HK := Lib.hid (show atL U v = getT U v.toNat from if_pos (by omega))
  obtain ⟨k, rfl⟩ : ∃ k : Nat, v = (k : Int) := ⟨v.toNat, by omega⟩
  rw [Int.toNat_natCast] at HK
  have hlt : k < U.length := by omega
  obtain ⟨bT, oT, rfl, hbT, A1, cc, hcT, hi⟩ := HL.out.get hlt
  have HC := Lib.hid (clone_row _ _ w hi (hr k))
  have h2 : (k : Int) < (U.length : Int) := by omega
  clear hi h1
  generalize (getT U k).length = nk at *
  go_enter Tryz.func73, Tryz.ntmps73
  go_wp2_with fail
  refine HC.out.mono ?_
  rintro e w1 ⟨u, rfl, hu, hB⟩
  have HU := Lib.hid hu
  have HB := Lib.hid hB
  obtain ⟨Au, cu, rfl⟩ := ints_form (Row.ints hu)
  clear hu hB
  go_wp2
  go_ret
  exact ⟨_, rfl, by rw [HK.out]; exact HU.out, HB.out⟩

set_option maxRecDepth 100000 in
set_option maxHeartbeats 2000000 in
theorem turn_any (b : Nat) (g : Gph) (p : Prt) (U : List (List Int)) (w : World) (h : Ro w b g p U) (hl : U.length ≤ 1000000) (hr : ∀ j, (getT U j).length ≤ 1000000) :
    Calls Tryz.prog 38 #[.pointer (some ⟨b, 0, none⟩)] w fun e w' => ∃ u us, e = .returned u ∧ Made w' w.heap.size u us U ∧ Below w.heap.size w w' := by
  have HR := Lib.hid h
  have HRL := Lib.hid hr
  obtain ⟨A, cap, mb, nn, D, c0, c1, hbl, hLL, hnn, ho, hD⟩ := h.at_
  obtain ⟨_, _, e3, hcc, hcm, _⟩ := hLL
  cases e3
  unfold maxLen at hcm
  clear ho h c1 hD hr
  go_enter Tryz.func38, Tryz.ntmps38
  go_wp2
  clear c0
  go_loopw [3, 12] (fun o i wr => ∃ k us, k ≤ U.length ∧ i = .int .i64 (k : Nat) ∧ Hid (Below w.heap.size w wr) ∧ Hid (Made wr w.heap.size o us (U.take k))) (fun _ i _ => U.length - (Go.RowKit.intOf i).toNat)
  case atStart => exact ⟨0, [], Nat.zero_le _, rfl, Lib.hid (Below.refl _ _), Lib.hid (Made.start _ _)⟩
  case round =>
    obtain ⟨k, us, hk, rfl, hB, hM⟩ := hrel
    rename_i o wr
    by_cases hlt : k < U.length
    · obtain ⟨Ao, co, hso⟩ := hM.out.shape
      have HS := Lib.hid (take_getT U k hlt)
      have HN := Lib.hid (show (U.take k).length ≤ 1000000 by simp; omega)
      have HX := Lib.hid (show atL U (k : Int) = getT U k by unfold atL; rw [if_pos (by omega), Int.toNat_natCast])
      have HF := Lib.hid (at_any b g p U wr (k : Int) (HR.out.below hB.out) HRL.out)
      rw [HX.out] at HF
      have hne : (U.take k).length = k := by simp; omega
      rw [hne] at hso
      subst hso
      clear hne HX
      go_wp2_with fail
      refine HF.out.mono ?_
      rintro e w1 ⟨u, rfl, hu, hB1⟩
      have HB1 := Lib.hid (hB.out.trans (hB1.mono hB.out.size))
      have HM1 := Lib.hid (hM.out.below hB1)
      have HU := Lib.hid (Row.le hu hB.out.size)
      obtain ⟨Au, cu, rfl⟩ := ints_form (Row.ints hu)
      clear hu hB1 hM
      go_wp2_with (at_builtin; refine wpList_append_list rfl _ _ rfl (v := .slice Ao k co) rfl rfl HM1.out HU.out HB1.out.size HN.out ?_; intro v' us' w2 hM2 hG2 hB2)
      have HM2 := Lib.hid hM2
      have HB2 := Lib.hid (HB1.out.trans hB2)
      obtain ⟨Av, cv, hsv⟩ := hM2.shape
      subst hsv
      clear hM2 hG2 hB2
      go_wp2
      go_roundw
      case rel => exact ⟨k + 1, _, by omega, by go_num, HB2, Lib.hid (by rw [HS.out]; exact HM2.out)⟩
      case measure => simp [Go.RowKit.intOf]; omega
    · obtain rfl : k = U.length := by omega
      go_wp2
      go_ret
      exact ⟨_, us, rfl, by rw [List.take_length] at hM; exact hM.out, hB.out⟩

set_option maxRecDepth 100000 in
set_option maxHeartbeats 2000000 in
theorem mirror_any (b : Nat) (g : Gph) (p : Prt) (U : List (List Int)) (w : World) (h : Ro w b g p U) (hU : Turns g p U) (hl : U.length ≤ 1000) (hr : ∀ j, (getT U j).length ≤ 500) (hw : ∀ j, ∀ x ∈ getT U j, (Lit.int .i64 x).wf = true) :
    Calls Tryz.prog 37 #[.pointer (some ⟨b, 0, none⟩)] w fun e w' => ∃ m, e = .returned (.pointer (some ⟨m, 0, none⟩)) ∧ Ro w' m g p ((mir U).map fst) ∧ Below w.heap.size w w' := by
  have HRL := Lib.hid hr
  have HU := Lib.hid hU
  have HW := Lib.hid hw
  obtain ⟨A, cap, mb, nn, D, c0, c1, hbl, hLL, hnn, ho, hD⟩ := h.at_
  have HLL := Lib.hid hLL
  obtain ⟨_, _, e3, hcc, hcm, _⟩ := hLL
  cases e3
  unfold maxLen at hcm
  clear ho h c1 hD hr hU hw
  go_enter Tryz.func37, Tryz.ntmps37
  go_wp2
  clear c0
  go_loopw [3, 13] (fun o i wr => ∃ k us, k ≤ U.length ∧ i = .int .i64 (k : Nat) ∧ Hid (Below w.heap.size w wr) ∧ Hid (Made wr w.heap.size o us ((U.take k).map List.reverse))) (fun _ i _ => U.length - (Go.RowKit.intOf i).toNat)
  case atStart => exact ⟨0, [], Nat.zero_le _, rfl, Lib.hid (Below.refl _ _), Lib.hid (Made.start _ _)⟩
  case round =>
    obtain ⟨k, us, hk, rfl, hB, hM⟩ := hrel
    rename_i o wr
    obtain ⟨Ao, co, hso⟩ := hM.out.shape
    have hne : ((U.take k).map List.reverse).length = k := by simp; omega
    rw [hne] at hso
    subst hso
    by_cases hlt : k < U.length
    · obtain ⟨bT, oT, rfl, hbT, A1, cc, hcT, hi⟩ := (HLL.out.below hB.out).get hlt
      have HS := Lib.hid (show (U.take (k + 1)).map List.reverse = (U.take k).map List.reverse ++ [(getT U k).reverse] by rw [take_getT U k hlt]; simp)
      have HN := Lib.hid (show ((U.take k).map List.reverse).length ≤ 1000000 by omega)
      have HF := Lib.hid (about_row _ _ wr hi (by have := HRL.out k; omega))
      clear hne hi
      generalize (getT U k).length = nk at *
      go_wp2_with fail
      clear hcT
      refine HF.out.mono ?_
      rintro e w1 ⟨u, rfl, hu, hB1⟩
      have HB1 := Lib.hid (hB.out.trans (hB1.mono hB.out.size))
      have HM1 := Lib.hid (hM.out.below hB1)
      have HUU := Lib.hid (Row.le hu hB.out.size)
      obtain ⟨Au, cu, rfl⟩ := ints_form (Row.ints hu)
      clear hu hB1 hM HF
      generalize (getT U k).reverse = rl at *
      go_wp2_with (at_builtin; refine wpList_append_list rfl _ _ rfl (v := .slice Ao k co) rfl rfl HM1.out HUU.out HB1.out.size HN.out ?_; intro v' us' w2 hM2 hG2 hB2)
      have HM2 := Lib.hid hM2
      have HB2 := Lib.hid (HB1.out.trans hB2)
      obtain ⟨Av, cv, hsv⟩ := hM2.shape
      subst hsv
      clear hM2 hG2 hB2
      go_wp2
      go_roundw
      case rel => exact ⟨k + 1, _, by omega, by go_num, HB2, Lib.hid (by rw [HS.out]; exact HM2.out)⟩
      case measure => simp [Go.RowKit.intOf]; omega
    · obtain rfl : k = U.length := by omega
      have hMR := hM.out.reads
      rw [List.take_length] at hMR
      have HT := Lib.hid (take_any _ g p (mir U) wr hMR HU.out.mir (by unfold mir; rw [List.length_map]; exact hl) (fun j => by rw [getT_mir, List.length_reverse]; exact HRL.out j) (fun j x hx => by rw [getT_mir, List.mem_reverse] at hx; exact HW.out j x hx))
      clear hMR hM
      go_wp2_with fail
      refine HT.out.mono ?_
      rintro e w1 ⟨m, rfl, hm, hRo, hB1⟩
      have HRo := Lib.hid hRo
      have HB1 := Lib.hid (hB.out.trans (hB1.mono hB.out.size))
      clear hm hRo hB1 HT
      go_wp2
      go_ret
      exact ⟨m, rfl, HRo.out, HB1.out⟩

end Go.Proofs.YtmbpmepoaonleaaGreat.Rt
