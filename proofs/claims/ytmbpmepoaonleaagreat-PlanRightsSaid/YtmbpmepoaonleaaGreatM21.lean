/-
  RtS, RtT, RtU, RtV, in one text.
-/
import Derived.Test.YtmbpmepoaonleaaGreatM34
import Derived.Test.YtmbpmepoaonleaaGreatM05
import Derived.Laws.BitsAllLaws
import Derived.Maps.OwnSet
import Derived.Maps.OwnOps
import Derived.Lib.SlKeysI
import Derived.Carry
/-! The document's Right: whether lists are turns; the law's Small. -/
namespace Go.Proofs.YtmbpmepoaonleaaGreat.Rt
open Go.Proofs.YtmbpmepoaonleaaGreat Go.RowKit

theorem terr_bad {g : Gph} {p : Prt} {T : List (List Int)} (h : ¬ perr g p = 0) : terr g p T = perr g p := by unfold terr; rw [if_neg h]
theorem terr_len {g : Gph} {p : Prt} {T : List (List Int)} (h : perr g p = 0) (hn : ¬ (T.length : Int) = g.n) : terr g p T = 5 := by unfold terr; rw [if_pos h, if_neg (fun e => hn e.1)]
theorem terr_no {g : Gph} {p : Prt} {T : List (List Int)} (h : perr g p = 0) {v : Nat} (hv : v < T.length) (hb : turnB g p T v = false) : terr g p T = 5 := by
  unfold terr; rw [if_pos h, if_neg (fun e => by have := e.2 v hv; rw [hb] at this; cases this)]
theorem terr_yes {g : Gph} {p : Prt} {T : List (List Int)} (h : perr g p = 0) (hn : (T.length : Int) = g.n) (hb : ∀ v, v < T.length → turnB g p T v = true) : terr g p T = 0 := by unfold terr; rw [if_pos h, if_pos ⟨hn, hb⟩]
theorem turn_len {g : Gph} {p : Prt} {T : List (List Int)} {v : Nat} (h : ¬ (dartsL g (v : Int) p.e).length = (getT T v).length) : turnB g p T v = false := by unfold turnB; rw [decide_eq_false h]; rfl
theorem turn_dup {g : Gph} {p : Prt} {T : List (List Int)} {v : Nat} (h : nodupB (getT T v) = false) : turnB g p T v = false := by unfold turnB; rw [h]; simp
theorem turn_in {g : Gph} {p : Prt} {T : List (List Int)} {v : Nat} {j : Nat} (hj : j < (dartsL g (v : Int) p.e).length) (h : ¬ getI (dartsL g (v : Int) p.e) j ∈ getT T v) : turnB g p T v = false := by
  unfold turnB
  have : ((dartsL g (v : Int) p.e).all fun d => decide (d ∈ getT T v)) = false := by
    rw [List.all_eq_false]
    exact ⟨_, getI_in _ _ hj, by simpa using h⟩
  rw [this]; simp
theorem turn_yes {g : Gph} {p : Prt} {T : List (List Int)} {v : Nat} (h1 : (dartsL g (v : Int) p.e).length = (getT T v).length) (h2 : nodupB (getT T v) = true) (h3 : ∀ j, j < (dartsL g (v : Int) p.e).length → getI (dartsL g (v : Int) p.e) j ∈ getT T v) : turnB g p T v = true := by
  unfold turnB
  rw [decide_eq_true h1, h2, Bool.true_and, Bool.true_and, List.all_eq_true]
  intro x hx
  obtain ⟨j, hj, rfl⟩ := (mem_getI _ x).1 hx
  exact decide_eq_true (h3 j hj)

set_option maxRecDepth 100000 in
set_option maxHeartbeats 4000000 in
theorem r6Right_any (v u x : Value) (g : Gph) (p : Prt) (T : List (List Int)) (w : World) (h : Gr w v g) (h' : Pt w u p) (hT : LL w x T) (hl : g.e.length ≤ 1000000) (hp1 : p.v.length ≤ 1000000) (hp2 : p.e.length ≤ 1000000) (hr : ∀ j, (getT T j).length ≤ 1000000) :
    Calls Tryz.prog 28 #[v, u, x] w fun e w' => e = .returned (.int .i64 (terr g p T)) ∧ Below w.heap.size w w' := by
  have HG := Lib.hid h
  have HP := Lib.hid h'
  obtain ⟨ve, rfl, h1⟩ := h
  obtain ⟨vv, vp, rfl, h2, h3⟩ := h'
  obtain ⟨Ae, ce, rfl⟩ := h1.form
  obtain ⟨Av, cv, rfl⟩ := ints_form h2
  obtain ⟨Ap, cp, rfl⟩ := ints_form h3
  obtain ⟨A, cap, rfl, hcap, hmx⟩ := hT.form
  obtain ⟨b1, b2, hm⟩ := two_boxes w (.int .i64 g.n) (.slice Ae g.e.length ce) (.slice Av p.v.length cv) (.slice Ap p.e.length cp) 24 27
  have HG1 := Lib.hid (HG.out.below hm)
  have HP1 := Lib.hid (HP.out.below hm)
  have HT1 := Lib.hid (hT.below hm)
  have HB1 := Lib.hid b1
  have HB2 := Lib.hid b2
  have HM := Lib.hid hm
  unfold maxLen at hmx
  clear b1 b2 hm h1 h2 h3 hT HG HP
  go_enter Tryz.func28, Tryz.ntmps28
  go_wp2_with fail
  generalize (w.alloc (.cells #[.int .i64 g.n, .slice Ae g.e.length ce] 24)).alloc (.cells #[.slice Av p.v.length cv, .slice Ap p.e.length cp] 27) = w1 at *
  refine (rrightPart_any _ _ g p _ HG1.out HP1.out hl hp1 hp2).mono ?_
  rintro e w2 ⟨rfl, hB2⟩
  have HM2 := Lib.hid (trans2 HM.out hB2)
  have HG2 := Lib.hid (HG1.out.below hB2)
  have HP2 := Lib.hid (HP1.out.below hB2)
  have HT2 := Lib.hid (HT1.out.below hB2)
  have HX1 := Lib.hid (HB1.out.below hB2)
  have HX2 := Lib.hid (HB2.out.below hB2)
  clear HB1 HB2 HG1 HP1 HT1 hB2 HM
  by_cases he : perr g p = 0
  case neg =>
    have HK := Lib.hid (terr_bad (T := T) he)
    have hne : (perr g p != 0) = true := by simpa using he
    clear he
    go_wp2
    go_ret
    exact ⟨ret_int HK.out.symm, HM2.out⟩
  have HE := Lib.hid he
  have HRI := Lib.hid (perr_rises he).2.2.1
  rw [he]
  clear he
  have c10 := HX1.out.c0
  by_cases hn : (T.length : Int) = g.n
  case neg =>
    have HK := Lib.hid (terr_len HE.out hn)
    have hne : ((T.length : Int) != g.n) = true := by simpa using hn
    clear hn
    go_wp2
    go_ret
    exact ⟨ret_int HK.out.symm, HM2.out⟩
  have HN := Lib.hid hn
  have hne : ((T.length : Int) != g.n) = false := by simpa using hn
  clear hn
  go_wp2
  clear c10
  go_loopw [8] (fun a wr => ∃ k : Nat, k ≤ T.length ∧ a = .int .i64 k ∧ Hid (Below w2.heap.size w2 wr) ∧ Hid (∀ j, j < k → turnB g p T j = true)) (fun a _ => T.length - (Go.RowKit.intOf a).toNat)
  case atStart => exact ⟨0, Nat.zero_le _, rfl, Lib.hid (Below.refl _ _), Lib.hid (fun j hj => absurd hj (Nat.not_lt_zero _))⟩
  case round =>
    obtain ⟨k, hk, rfl, hB, hA⟩ := hrel
    obtain ⟨wo, hwo⟩ : ∃ z, z = wr := ⟨_, rfl⟩
    subst hwo
    have X1 := HX1.out.below hB.out
    have X2 := HX2.out.below hB.out
    have x10 := X1.c0
    have x11 := X1.c1
    have x20 := X2.c0
    have x21 := X2.c1
    clear X1 X2
    by_cases hlt : k < T.length
    · have hkn : (k : Int) < g.n := by have := HN.out; omega
      obtain ⟨bT, oT, rfl, hbT, A1, c1, hcT, hi⟩ := (HT2.out.below hB.out).get hlt
      have HD := Lib.hid (rdarts_any _ _ g p (k : Int) wo (HG2.out.below hB.out) (HP2.out.below hB.out) hl hp2 HRI.out)
      have hrk := hr k
      have HI := Lib.hid hi
      have HC := Lib.hid hcT
      have HBT := Lib.hid hbT
      have hdl := dartsL_len g (k : Int) p.e
      clear hi hcT hbT
      go_wp2_with fail
      clear x10 x11 x20 x21
      refine HD.out.mono ?_
      rintro e w3 ⟨ud, rfl, hB3, hO3⟩
      have HB3 := Lib.hid (trans2 hB.out hB3)
      have hcT3 := (hB3.cell (p := ⟨bT, oT + k, none⟩) HBT.out).trans HC.out
      have HI3 := Lib.hid (HI.out.below hB3)
      have HO3 := Lib.hid hO3.ints
      have HC3 := Lib.hid hcT3
      have HBT3 := Lib.hid (Nat.lt_of_lt_of_le HBT.out hB3.size)
      obtain ⟨Ad, cd, rfl⟩ := ints_form hO3.ints
      have y10 := (HX1.out.below HB3.out).c0
      have HMB := Lib.hid (trans2 HM2.out HB3.out)
      have HQ := Lib.hid (refRight_any _ (getT T k) w3 HI3.out hrk)
      clear hB3 hO3 hB HD HC HI HBT
      by_cases hlen : (dartsL g (k : Int) p.e).length = (getT T k).length
      case neg =>
        have HK := Lib.hid (terr_no HE.out hlt (turn_len hlen))
        have hne' : (((dartsL g (k : Int) p.e).length : Int) != ((getT T k).length : Int)) = true := by simp; omega
        clear hlen
        go_wp2
        go_ret
        exact ⟨ret_int HK.out.symm, HMB.out⟩
      have HL := Lib.hid hlen
      have hne' : (((dartsL g (k : Int) p.e).length : Int) != ((getT T k).length : Int)) = false := by simp; omega
      clear hlen
      by_cases hnd : nodupB (getT T k) = true
      case neg =>
        have hnd' : nodupB (getT T k) = false := by simpa using hnd
        have HK := Lib.hid (terr_no HE.out hlt (turn_dup hnd'))
        rw [hnd'] at HQ
        clear hnd hnd'
        go_wp2_with (go_at_call 60; refine HQ.out.mono ?_; rintro e w4 ⟨rfl, rfl⟩)
        go_ret
        exact ⟨ret_int HK.out.symm, HMB.out⟩
      have HND := Lib.hid hnd
      rw [hnd] at HQ
      clear hnd
      go_wp2_with (go_at_call 60; refine HQ.out.mono ?_; rintro e w4 ⟨rfl, rfl⟩)
      clear HQ hcT3 y10
      go_loopw [10] (fun a wr => ∃ s : Nat, s ≤ (dartsL g (k : Int) p.e).length ∧ a = .int .i64 s ∧ Hid (∃ n, wr = w3.drewN n) ∧ Hid (∀ j, j < s → getI (dartsL g (k : Int) p.e) j ∈ getT T k)) (fun a _ => (dartsL g (k : Int) p.e).length - (Go.RowKit.intOf a).toNat)
      case atStart => exact ⟨0, Nat.zero_le _, rfl, Lib.hid ⟨0, rfl⟩, Lib.hid (fun j hj => absurd hj (Nat.not_lt_zero _))⟩
      case round =>
        obtain ⟨s, hs, rfl, hW, hS⟩ := hrel
        have HW := Lib.hid (show Below w3.heap.size w3 wr by obtain ⟨n, rfl⟩ := hW.out; exact below_drewN' w3 n)
        have HBW := Lib.hid (fun n => below_drewN (trans2 HB3.out HW.out) n)
        have HMW := Lib.hid (fun n => below_drewN (trans2 HMB.out HW.out) n)
        by_cases hslt : s < (dartsL g (k : Int) p.e).length
        · obtain ⟨bd, od, rfl, hbd, hcd⟩ := ints_at (HO3.out.below HW.out) hslt
          have hcT4 := (HW.out.cell (p := ⟨bT, oT + k, none⟩) HBT3.out).trans HC3.out
          have HIN := Lib.hid (fun n => same_of (in_any _ (getT T k) (getI (dartsL g (k : Int) p.e) s) (wr.drewN n) ((HI3.out.below HW.out).drewN n) hrk))
          have HD2 := Lib.hid (fun m => show ∃ n, wr.drewN m = w3.drewN n by obtain ⟨n, rfl⟩ := hW.out; exact ⟨_, World.drewN_drewN _ _ _⟩)
          have HF := Lib.hid (fun e => terr_no HE.out hlt (turn_in (T := T) hslt e))
          generalize (dartsL g (k : Int) p.e).length = nd at *
          by_cases hm : getI (dartsL g (k : Int) p.e) s ∈ getT T k
          · have HH := Lib.hid (show ∀ j, j < s + 1 → getI (dartsL g (k : Int) p.e) j ∈ getT T k from fun j hj => by
              by_cases e : j = s
              · rw [e]; exact hm
              · exact hS.out j (by omega))
            rw [decide_eq_true hm] at HIN
            clear hm hbd
            generalize getI (dartsL g (k : Int) p.e) s = y at *
            go_wp2_with fail
            go_quiet ((go_at_call 22; exact Calls.quiet_of_same (HIN.out _)))
            go_wp2
            go_roundw
            case rel => exact ⟨s + 1, by omega, by go_num, Lib.hid (HD2.out _), HH⟩
            case measure => simp [Go.RowKit.intOf]; omega
          · have HH := Lib.hid (HF.out hm)
            rw [decide_eq_false hm] at HIN
            clear hm hbd
            generalize getI (dartsL g (k : Int) p.e) s = y at *
            go_wp2_with fail
            go_quiet ((go_at_call 22; exact Calls.quiet_of_same (HIN.out _)))
            go_wp2
            go_ret
            exact ⟨ret_int HH.out.symm, HMW.out _⟩
        · obtain rfl : s = (dartsL g (k : Int) p.e).length := by omega
          have HY := Lib.hid (turn_yes HL.out HND.out hS.out)
          have HBZ := Lib.hid (trans2 HB3.out HW.out)
          go_wp2
          go_roundw
          case rel => exact ⟨k + 1, by omega, by go_num, HBZ, Lib.hid (fun j hj => by
            by_cases e : j = k
            · rw [e]; exact HY.out
            · exact hA.out j (by omega))⟩
          case measure => simp [Go.RowKit.intOf]; omega
    · obtain rfl : k = T.length := by omega
      have HK := Lib.hid (terr_yes HE.out HN.out hA.out)
      have hkn : ¬ (T.length : Int) < g.n := by have := HN.out; omega
      have HZ := Lib.hid (trans2 HM2.out hB.out)
      go_wp2
      go_ret
      exact ⟨ret_int HK.out.symm, HZ.out⟩

/-! ### The law's Small -/

def small6 (g : Gph) (p : Prt) (T : List (List Int)) : Bool := smallB g p && (decide (T.length ≤ 100) && decide (∀ v, v < T.length → (getT T v).length ≤ 200))
def small6I (g : Gph) (p : Prt) (T : List (List Int)) : Int := if small6 g p T then 1 else 0
theorem small6_no {g : Gph} {p : Prt} {T : List (List Int)} (h : smallB g p = false) : small6I g p T = 0 := by unfold small6I small6; rw [h]; rfl
theorem small6_len {g : Gph} {p : Prt} {T : List (List Int)} (h : ¬ T.length ≤ 100) : small6I g p T = 0 := by unfold small6I small6; rw [decide_eq_false h]; simp
theorem small6_row {g : Gph} {p : Prt} {T : List (List Int)} {k : Nat} (hk : k < T.length) (h : 200 < (getT T k).length) : small6I g p T = 0 := by
  unfold small6I small6; rw [decide_eq_false (p := ∀ v, v < T.length → (getT T v).length ≤ 200) (fun e => by have := e k hk; omega)]; simp
theorem small6_yes {g : Gph} {p : Prt} {T : List (List Int)} (h : smallB g p = true) (h2 : T.length ≤ 100) (h3 : ∀ v, v < T.length → (getT T v).length ≤ 200) : small6I g p T = 1 := by
  unfold small6I small6; rw [h, decide_eq_true h2, decide_eq_true h3]; rfl

set_option maxRecDepth 100000 in
set_option maxHeartbeats 2000000 in
theorem small6_any (v u x : Value) (g : Gph) (p : Prt) (T : List (List Int)) (w : World) (h : Gr w v g) (h' : Pt w u p) (hT : LL w x T) :
    Calls Tryz.prog 26 #[v, u, x] w fun e w' => e = .returned (.int .i64 (small6I g p T)) ∧ Below w.heap.size w w' := by
  have HG := Lib.hid h
  have HP := Lib.hid h'
  obtain ⟨ve, rfl, h1⟩ := h
  obtain ⟨vv, vp, rfl, h2, h3⟩ := h'
  obtain ⟨Ae, ce, rfl⟩ := h1.form
  obtain ⟨Av, cv, rfl⟩ := ints_form h2
  obtain ⟨Ap, cp, rfl⟩ := ints_form h3
  obtain ⟨A, cap, rfl, hcap, hmx⟩ := hT.form
  obtain ⟨b1, b2, hm⟩ := two_boxes w (.int .i64 g.n) (.slice Ae g.e.length ce) (.slice Av p.v.length cv) (.slice Ap p.e.length cp) 24 27
  have HG1 := Lib.hid (HG.out.below hm)
  have HP1 := Lib.hid (HP.out.below hm)
  have HT1 := Lib.hid (hT.below hm)
  have HM := Lib.hid hm
  have c10 := b1.c0
  unfold maxLen at hmx
  clear b1 b2 hm h1 h2 h3 hT HG HP
  go_enter Tryz.func26, Tryz.ntmps26
  go_wp2_with fail
  generalize (w.alloc (.cells #[.int .i64 g.n, .slice Ae g.e.length ce] 24)).alloc (.cells #[.slice Av p.v.length cv, .slice Ap p.e.length cp] 27) = w1 at *
  refine (small_any _ _ g p _ HG1.out HP1.out).mono ?_
  rintro e w2 ⟨rfl, hB2⟩
  have HM2 := Lib.hid (trans2 HM.out hB2)
  have HT2 := Lib.hid (HT1.out.below hB2)
  clear HG1 HP1 HT1 hB2 HM c10
  by_cases hs : smallB g p = true
  case neg =>
    have hs' : smallB g p = false := by simpa using hs
    have HK := Lib.hid (small6_no (T := T) hs')
    have hz : smallI g p = 0 := by unfold smallI; rw [hs']; rfl
    rw [hz]
    clear hs hs' hz
    go_wp2
    go_ret
    exact ⟨ret_int HK.out.symm, HM2.out⟩
  have HS := Lib.hid hs
  have hz : smallI g p = 1 := by unfold smallI; rw [hs]; rfl
  rw [hz]
  clear hs hz
  by_cases hl : T.length ≤ 100
  case neg =>
    have HK := Lib.hid (small6_len (g := g) (p := p) hl)
    have hl' : (100 : Int) < (T.length : Int) := by omega
    clear hl
    go_wp2
    go_ret
    exact ⟨ret_int HK.out.symm, HM2.out⟩
  have hl' : ¬ (100 : Int) < (T.length : Int) := by omega
  go_wp2
  go_loopw [7] (fun a wr => ∃ k : Nat, k ≤ T.length ∧ a = .int .i64 k ∧ Hid (wr = w2) ∧ Hid (∀ j, j < k → (getT T j).length ≤ 200)) (fun a _ => T.length - (Go.RowKit.intOf a).toNat)
  case atStart => exact ⟨0, Nat.zero_le _, rfl, Lib.hid rfl, Lib.hid (fun j hj => absurd hj (Nat.not_lt_zero _))⟩
  case round =>
    obtain ⟨k, hk, rfl, hB, hA⟩ := hrel
    obtain rfl := hB.out
    by_cases hlt : k < T.length
    · obtain ⟨bT, oT, rfl, hbT, A1, c1, hcT, hi⟩ := HT2.out.get hlt
      by_cases hrk : 200 < (getT T k).length
      · have HK := Lib.hid (small6_row (g := g) (p := p) hlt hrk)
        have hrk' : (200 : Int) < ((getT T k).length : Int) := by omega
        clear hrk hi hbT
        generalize (getT T k).length = nk at *
        go_wp2
        go_ret
        exact ⟨ret_int HK.out.symm, HM2.out⟩
      · have HH := Lib.hid (show ∀ j, j < k + 1 → (getT T j).length ≤ 200 from fun j hj => by
          by_cases e : j = k
          · rw [e]; omega
          · exact hA.out j (by omega))
        have hrk' : ¬ (200 : Int) < ((getT T k).length : Int) := by omega
        clear hrk hi hbT
        generalize (getT T k).length = nk at *
        go_wp2
        go_roundw
        case rel => exact ⟨k + 1, by omega, by go_num, Lib.hid (by trivial), HH⟩
        case measure => simp [Go.RowKit.intOf]; omega
    · obtain rfl : k = T.length := by omega
      have HK := Lib.hid (small6_yes HS.out hl hA.out)
      go_wp2
      go_ret
      exact ⟨ret_int HK.out.symm, HM2.out⟩

end Go.Proofs.YtmbpmepoaonleaaGreat.Rt

/-! What a map of darts tells; a dart's twin; how far a walk through lists has come. -/
namespace Go.Proofs.YtmbpmepoaonleaaGreat.Rt
open Go.Proofs.YtmbpmepoaonleaaGreat Go.RowKit Go.Maps

theorem xor_one {d : Int} (h0 : -9223372036854775808 ≤ d) (h1 : d ≤ 9223372036854775807) : bits .xor .i64 d 1 = twi d := by
  show IntKind.i64.wrap ((BitVec.ofInt 64 d ^^^ BitVec.ofInt 64 1).toNat : Int) = _
  have e1 : (BitVec.ofInt 64 1).toNat = 1 := by decide
  have e2 : ((BitVec.ofInt 64 d).toNat : Int) = d % 18446744073709551616 := by
    rw [BitVec.toNat_ofInt]; omega
  rw [BitVec.toNat_xor, e1]
  generalize (BitVec.ofInt 64 d).toNat = n at *
  have h2 : (n ^^^ 1) / 2 = n / 2 := by rw [Nat.xor_div_two]; simp
  have h3 : (n ^^^ 1) % 2 = (n + 1) % 2 := by
    have h4 := Nat.testBit_xor (x := n) (y := 1) (i := 0)
    rw [Nat.testBit_zero, Nat.testBit_zero, Nat.testBit_zero] at h4
    generalize n ^^^ 1 = m at h4 ⊢
    have h6 : m % 2 = 1 ↔ ¬ n % 2 = 1 := by
      by_cases a : m % 2 = 1 <;> by_cases b : n % 2 = 1 <;> simp [a, b] at h4 ⊢
    omega
  generalize n ^^^ 1 = m at *
  unfold twi
  simp [IntKind.wrap, IntKind.bits, IntKind.signed]
  split <;> omega

/-! ### A map of darts -/

abbrev dk (x : Int) : Lit := .int .i64 x

/-- The datum has those x of which Q holds, and tells f of each. -/
structure Hd (D : DataW Unit) (Q : Int → Prop) (f : Int → DataW Unit) : Prop where
  map : IsMap D
  has : ∀ x, Maps.has D (dk x) = true ↔ Q x
  at_ : ∀ x, Q x → ∀ z, D.atKey (dk x) z = f x

theorem Hd.start (f : Int → DataW Unit) : Hd (.map []) (fun _ => False) f := ⟨⟨[], rfl⟩, fun x => by simp [Maps.has], fun x h => h.elim⟩
theorem Hd.cong {D : DataW Unit} {Q Q' : Int → Prop} {f : Int → DataW Unit} (h : Hd D Q f) (hq : ∀ x, Q' x ↔ Q x) : Hd D Q' f := ⟨h.map, fun x => (h.has x).trans (hq x).symm, fun x hx z => h.at_ x ((hq x).1 hx) z⟩
theorem isMap_put {D : DataW Unit} (h : IsMap D) (k : Lit) (d : DataW Unit) : IsMap (D.put k d) := by
  obtain ⟨es, rfl⟩ := h
  exact ⟨_, rfl⟩
theorem isMap_del {D : DataW Unit} (h : IsMap D) (k : Lit) : IsMap (D.del k) := by
  obtain ⟨es, rfl⟩ := h
  exact ⟨_, rfl⟩
theorem dk_ne {x y : Int} (h : y ≠ x) : dk y ≠ dk x := fun e => h (by simpa [dk] using e)
theorem dk_lit (x : Int) : WideAt.IsKeyLit (dk x) := trivial
theorem Hd.put {D : DataW Unit} {Q : Int → Prop} {f : Int → DataW Unit} (h : Hd D Q f) (x : Int) : Hd (D.put (dk x) (f x)) (fun y => Q y ∨ y = x) f := by
  refine ⟨isMap_put h.map _ _, fun y => ?_, fun y hy z => ?_⟩
  · by_cases e : y = x
    · subst e
      rw [has_put_same h.map (dk_lit y)]
      simp
    · rw [has_put_other (dk_ne e), h.has y]
      simp [e]
  · by_cases e : y = x
    · subst e
      exact atKey_put_same h.map (dk_lit y) _ _
    · rw [atKey_put_other (dk_ne e)]
      exact h.at_ y (hy.resolve_right e) z
theorem Hd.del {D : DataW Unit} {Q : Int → Prop} {f : Int → DataW Unit} (h : Hd D Q f) (x : Int) : Hd (D.del (dk x)) (fun y => Q y ∧ y ≠ x) f := by
  refine ⟨isMap_del h.map _, fun y => ?_, fun y hy z => ?_⟩
  · by_cases e : y = x
    · subst e
      rw [has_del_same]
      simp
    · rw [has_del_other (dk_ne e), h.has y]
      simp [e]
  · rw [atKey_del_other (dk_ne hy.2)]
    exact h.at_ y hy.1 z
theorem Hd.yes {D : DataW Unit} {Q : Int → Prop} {f : Int → DataW Unit} (h : Hd D Q f) {x : Int} (hx : Q x) : Maps.has D (dk x) = true := (h.has x).2 hx
theorem Hd.no {D : DataW Unit} {Q : Int → Prop} {f : Int → DataW Unit} (h : Hd D Q f) {x : Int} (hx : ¬ Q x) : Maps.has D (dk x) = false := by
  cases e : Maps.has D (dk x)
  · rfl
  · exact absurd ((h.has x).1 e) hx
/-- It has none just where there is none. -/
theorem Hd.none {D : DataW Unit} {Q : Int → Prop} {f : Int → DataW Unit} (h : Hd D Q f) {w : World} {R : Value → Option (DataW Unit × List MemPlace)} {b n : Nat} (ho : w.ownsMap Tryz.prog 3 R b n D) : Maps.size D = 0 ↔ ∀ x, ¬ Q x := by
  obtain ⟨es, hD, hko⟩ := ho.keysOf
  subst hD
  constructor
  · intro h0 x hx
    have e : es = [] := List.eq_nil_of_length_eq_zero h0
    subst e
    have := (h.has x).2 hx
    simp [Maps.has] at this
  · intro hn
    cases es with
    | nil => rfl
    | cons p es =>
      obtain ⟨v, hv⟩ := hko p (List.mem_cons_self ..)
      obtain ⟨x, _, hx, _⟩ := Maps.keyOf_i64 Tryz.underlying3 hv
      refine absurd ((h.has x).1 ?_) (hn x)
      rw [has_eq, List.any_cons, hx]
      simp [Lit.sameKey]

/-! ### How far -/

/-- x stands in one of the first k lists, or among the first j of the one behind them. -/
def Met (T : List (List Int)) (k j : Nat) (x : Int) : Prop := (∃ v, v < k ∧ x ∈ getT T v) ∨ x ∈ (getT T k).take j
theorem Met.start (T : List (List Int)) (x : Int) : ¬ Met T 0 0 x := by
  rintro (⟨v, h, _⟩ | h)
  · omega
  · simp at h
theorem Met.step {T : List (List Int)} {k j : Nat} (h : j < (getT T k).length) (x : Int) : Met T k (j + 1) x ↔ Met T k j x ∨ x = getI (getT T k) j := by
  unfold Met
  rw [take_succ_getI _ j h, List.mem_append, List.mem_singleton, or_assoc]
theorem Met.next {T : List (List Int)} {k : Nat} (x : Int) : Met T (k + 1) 0 x ↔ Met T k (getT T k).length x := by
  unfold Met
  rw [List.take_length, List.take_zero]
  constructor
  · rintro (⟨v, h, hx⟩ | h)
    · by_cases e : v = k
      · subst e; exact .inr hx
      · exact .inl ⟨v, by omega, hx⟩
    · exact absurd h List.not_mem_nil
  · rintro (⟨v, h, hx⟩ | h)
    · exact .inl ⟨v, by omega, hx⟩
    · exact .inl ⟨k, by omega, h⟩
theorem Met.all {T : List (List Int)} (x : Int) : Met T T.length 0 x ↔ ∃ v, x ∈ getT T v := by
  unfold Met
  rw [List.take_zero]
  constructor
  · rintro (⟨v, _, hx⟩ | h)
    · exact ⟨v, hx⟩
    · exact absurd h List.not_mem_nil
  · rintro ⟨v, hx⟩
    refine .inl ⟨v, Classical.byContradiction fun hn => ?_, hx⟩
    rw [getT_out _ _ hn] at hx
    exact absurd hx List.not_mem_nil

variable {g : Gph} {p : Prt} {T : List (List Int)}

/-- Of turns: all darts, and no others. -/
theorem Turns.met (h : Turns g p T) (x : Int) : Met T T.length 0 x ↔ Dart p x := by
  rw [Met.all]
  exact ⟨fun ⟨v, hx⟩ => (h.dart hx).2.1, fun hx => ⟨_, h.mem hx⟩⟩

/-- So far they are turns. -/
structure Good (g : Gph) (p : Prt) (T : List (List Int)) (k j : Nat) : Prop where
  left : ∀ v, v < k → (getT T v).Nodup ∧ ∀ x ∈ getT T v, Dart p x ∧ tl g x = v
  here : ((getT T k).take j).Nodup ∧ ∀ x ∈ (getT T k).take j, Dart p x ∧ tl g x = k
theorem Good.start (g : Gph) (p : Prt) (T : List (List Int)) : Good g p T 0 0 := ⟨fun v h => absurd h (Nat.not_lt_zero _), by simp⟩
theorem Good.next {k : Nat} (h : Good g p T k (getT T k).length) : Good g p T (k + 1) 0 := by
  have hh := h.here
  rw [List.take_length] at hh
  refine ⟨fun v hv => ?_, by simp⟩
  by_cases e : v = k
  · subst e; exact hh
  · exact h.left v (by omega)
theorem Good.step {k j : Nat} (h : Good g p T k j) (hj : j < (getT T k).length) (hd : Dart p (getI (getT T k) j)) (hm : ¬ Met T k j (getI (getT T k) j)) (ht : tl g (getI (getT T k) j) = k) : Good g p T k (j + 1) := by
  refine ⟨h.left, ?_⟩
  rw [take_succ_getI _ j hj]
  refine ⟨List.nodup_append.2 ⟨h.here.1, by simp, fun a ha b hb e => ?_⟩, fun x hx => ?_⟩
  · simp at hb
    subst hb
    exact hm (.inr (e ▸ ha))
  · rcases List.mem_append.1 hx with hx | hx
    · exact h.here.2 x hx
    · simp at hx
      subst hx
      exact ⟨hd, ht⟩
theorem not_turns_tail {k j : Nat} (hj : j < (getT T k).length) (ht : ¬ tl g (getI (getT T k) j) = k) : ¬ Turns g p T := fun h => ht (h.dart (getI_in _ _ hj)).2.2
theorem Good.met {k j : Nat} (h : Good g p T k j) (hj : j < (getT T k).length) (hm : Met T k j (getI (getT T k) j)) : ¬ Turns g p T := by
  intro ht
  have h1 := (ht.dart (getI_in _ _ hj)).2.2
  rcases hm with ⟨v, hv, hx⟩ | hx
  · have := ((h.left v hv).2 _ hx).2
    omega
  · have h2 := ht.once k
    have h3 : ((getT T k).take (j + 1)).Nodup := h2.sublist (List.take_sublist _ _)
    rw [take_succ_getI _ j hj, List.nodup_append] at h3
    exact h3.2.2 _ hx _ (by simp) rfl
theorem Good.all (h : Good g p T T.length 0) (hp : perr g p = 0) (hl : (T.length : Int) = g.n) : Turns g p T ↔ ∀ x, ¬ (Dart p x ∧ ¬ Met T T.length 0 x) := by
  constructor
  · intro ht x ⟨hx, hn⟩
    exact hn ((ht.met x).2 hx)
  · intro hn
    refine ⟨hp, hl, fun v => ?_, fun v hv d => ?_⟩
    · by_cases hv : v < T.length
      · exact (h.left v hv).1
      · rw [getT_out _ _ hv]; exact List.nodup_nil
    · rw [mem_dartsL g p hp v d]
      constructor
      · intro hd
        exact (h.left v hv).2 d hd
      · rintro ⟨hd, ht⟩
        have hm : Met T T.length 0 d := Classical.byContradiction fun e => hn d ⟨hd, e⟩
        rw [Met.all] at hm
        obtain ⟨v', hx⟩ := hm
        have hv' : v' < T.length := Classical.byContradiction fun hn' => by rw [getT_out _ _ hn'] at hx; exact absurd hx List.not_mem_nil
        have := ((h.left v' hv').2 d hx).2
        have e : v' = v := by omega
        rw [← e]; exact hx

end Go.Proofs.YtmbpmepoaonleaaGreat.Rt

/-! The program's twin, leavesOf, areTurns. -/
namespace Go.Proofs.YtmbpmepoaonleaaGreat.Rt
open Go.Proofs.YtmbpmepoaonleaaGreat Go.RowKit Go.Maps

theorem Tryz.keyInt : Keyed Tryz.prog 3 := int_keyed Tryz.underlying3
theorem Tryz.zeroInt (w : World) : (zeroValue 3).run Tryz.prog w = .ok (.int .i64 0) w := by kernel_rfl

theorem below_turned {n b : Nat} {w0 w w' : World} (h : Below n w0 w) (ht : w.mapTurned w' b) (hn : n ≤ b) (hs : n ≤ w.heap.size) : Below n w0 w' :=
  h.grown ht.grown hs (fun k e => by cases e; exact hn)

set_option maxRecDepth 100000 in
set_option maxHeartbeats 1000000 in
theorem ptwin_any (d : Int) (w : World) (h0 : -9223372036854775808 ≤ d) (h1 : d ≤ 9223372036854775807) :
    Calls Tryz.prog 134 #[.int .i64 d] w fun e w' => e = .returned (.int .i64 (twi d)) ∧ w = w' := by
  have hx := xor_one h0 h1
  go_enter Tryz.func134, Tryz.ntmps134
  go_wp2
  go_ret
  exact ⟨rfl, rfl⟩

/-! ### Which vertex each dart leaves -/

def lvF (g : Gph) (x : Int) : DataW Unit := .lit (.int .i64 (tl g x : Nat))
def LvQ (p : Prt) (k : Nat) (x : Int) : Prop := 0 ≤ x ∧ x / 2 ∈ p.e.take k
theorem LvQ.start (p : Prt) (x : Int) : False ↔ LvQ p 0 x := by simp [LvQ]
theorem LvQ.step {p : Prt} {k : Nat} (h : k < p.e.length) {i : Nat} (hi : getI p.e k = (i : Int)) (x : Int) : LvQ p (k + 1) x ↔ ((LvQ p k x ∨ x = 2 * (i : Int)) ∨ x = 2 * (i : Int) + 1) := by
  unfold LvQ
  rw [take_succ_getI _ k h, List.mem_append, List.mem_singleton, hi]
  constructor
  · rintro ⟨h0, h1 | h1⟩
    · exact .inl (.inl ⟨h0, h1⟩)
    · omega
  · rintro ((h | rfl) | rfl)
    · exact ⟨h.1, .inl h.2⟩
    · exact ⟨by omega, .inr (by omega)⟩
    · exact ⟨by omega, .inr (by omega)⟩
theorem LvQ.all (p : Prt) (x : Int) : Dart p x ↔ LvQ p p.e.length x := by unfold LvQ Dart; rw [List.take_length]

theorem tl_even (g : Gph) (i : Nat) : tl g (2 * (i : Int)) = ((getE g.e i).a).toNat := by
  unfold tl tailOf
  rw [show (2 * (i : Int)).toNat = 2 * i by omega, if_pos (by omega), show 2 * i / 2 = i by omega]
theorem tl_odd (g : Gph) (i : Nat) : tl g (2 * (i : Int) + 1) = ((getE g.e i).b).toNat := by
  unfold tl tailOf
  rw [show (2 * (i : Int) + 1).toNat = 2 * i + 1 by omega, if_neg (by omega), show (2 * i + 1) / 2 = i by omega]

set_option maxRecDepth 100000 in
set_option maxHeartbeats 2000000 in
theorem leavesOf_any (v u : Value) (g : Gph) (p : Prt) (w : World) (h : Gr w v g) (h' : Pt w u p) (hp : perr g p = 0) (hl : g.e.length ≤ 1000000) (hp2 : p.e.length ≤ 1000000) :
    Calls Tryz.prog 70 #[v, u] w fun e w' => ∃ b n D, e = .returned (.map (some b)) ∧ w.heap.size ≤ b ∧ n ≤ 2000000 ∧ w'.ownsMap Tryz.prog 3 (plainElem Tryz.prog 3) b n D ∧ Hd D (Dart p) (lvF g) ∧ Below w.heap.size w w' := by
  have HPE := Lib.hid hp
  obtain ⟨ve, rfl, h1⟩ := h
  obtain ⟨vv, vp, rfl, h2, h3⟩ := h'
  obtain ⟨Ae, ce, rfl⟩ := h1.form
  obtain ⟨Av, cv, rfl⟩ := ints_form h2
  obtain ⟨Ap, cp, rfl⟩ := ints_form h3
  obtain ⟨b1, b2, hm⟩ := two_boxes w (.int .i64 g.n) (.slice Ae g.e.length ce) (.slice Av p.v.length cv) (.slice Ap p.e.length cp) 24 27
  have HP := Lib.hid (h3.below hm)
  have HE := Lib.hid (h1.below hm)
  have HB1 := Lib.hid b1
  have HB2 := Lib.hid b2
  have HM := Lib.hid hm
  have y1 := b2.c1
  have hmm := @run_makeMap Tryz.prog
  have HZ0 := Lib.hid (show ((w.alloc (.cells #[.int .i64 g.n, .slice Ae g.e.length ce] 24)).alloc (.cells #[.slice Av p.v.length cv, .slice Ap p.e.length cp] 27)).heap.size = w.heap.size + 1 + 1 by simp)
  clear b1 b2 hm h1 h2 h3 hp
  go_enter Tryz.func70, Tryz.ntmps70
  go_wp2_with fail
  generalize (w.alloc (.cells #[.int .i64 g.n, .slice Ae g.e.length ce] 24)).alloc (.cells #[.slice Av p.v.length cv, .slice Ap p.e.length cp] 27) = w1 at *
  have HS0 := Lib.hid HM.out.size
  have y1' := (below_alloc (w := w1) (.map #[] 0)).cell (p := ⟨w.heap.size + 1, 1, none⟩) (World.block_lt_of_cell? w1 _ y1) |>.trans y1
  clear y1
  go_wp2
  clear y1'
  go_loopw [12] (fun i wr => ∃ k n D, k ≤ p.e.length ∧ n ≤ 2 * k ∧ i = .int .i64 (k : Nat) ∧ Hid (wr.ownsMap Tryz.prog 3 (plainElem (H := Unit) Tryz.prog 3) (w.heap.size + 1 + 1) n D) ∧ Hid (Hd D (LvQ p k) (lvF g)) ∧ Hid (Below w1.heap.size w1 wr)) (fun i _ => p.e.length - (Go.RowKit.intOf i).toNat)
  case atStart => exact ⟨0, 0, _, Nat.zero_le _, Nat.zero_le _, rfl, Lib.hid (by rw [← HZ0.out]; exact World.ownsMap_made w1 Tryz.prog 3 _), Lib.hid ((Hd.start _).cong (fun x => (LvQ.start p x).symm)), Lib.hid (below_alloc _)⟩
  case round =>
    obtain ⟨k, n, D, hk, hnk, rfl, hO, hD, hB⟩ := hrel
    by_cases hlt : k < p.e.length
    · obtain ⟨bp, op, rfl, hbp, hck0⟩ := ints_at HP.out hlt
      have hck := (hB.out.cell (p := ⟨bp, op + k, none⟩) hbp).trans hck0
      obtain ⟨i, hi⟩ : ∃ i : Nat, getI p.e k = (i : Int) := ⟨(getI p.e k).toNat, by have := ints g p HPE.out (getI_in _ _ hlt); omega⟩
      obtain ⟨z0, z1, ⟨a0, a1⟩, b0, b1⟩ := ints g p HPE.out (getI_in _ _ hlt)
      have hgn := err_n (perr_rises HPE.out).1
      rw [hi] at hck z0 z1 a0 a1 b0 b1
      rw [Int.toNat_natCast] at a0 a1 b0 b1
      have hil : i < g.e.length := by omega
      obtain ⟨be, oe, rfl, hbe, hca, hcb⟩ := edges_at HE.out hil
      have hca2 := (hB.out.cell (p := ⟨be, oe + i * 2, none⟩) hbe).trans hca
      have hcb2 := (hB.out.cell (p := ⟨be, oe + i * 2 + 1, none⟩) hbe).trans hcb
      have x1 := (HB1.out.below hB.out).c1
      have HF1 := Lib.hid (show lvF g (2 * (i : Int)) = .lit (.int .i64 (getE g.e i).a) by unfold lvF; rw [tl_even, Int.toNat_of_nonneg a0])
      have HF2 := Lib.hid (show lvF g (2 * (i : Int) + 1) = .lit (.int .i64 (getE g.e i).b) by unfold lvF; rw [tl_odd, Int.toNat_of_nonneg b0])
      have HQ := Lib.hid (LvQ.step hlt hi)
      have hwa : (Lit.int .i64 (getE g.e i).a).wf = true := WalkArith.wf_i64 (by omega)
      have hwb : (Lit.int .i64 (getE g.e i).b).wf = true := WalkArith.wf_i64 (by omega)
      have hwk1 : (Lit.int .i64 (2 * (i : Int))).wf = true := WalkArith.wf_i64 (by omega)
      have hwk2 : (Lit.int .i64 (2 * (i : Int) + 1)).wf = true := WalkArith.wf_i64 (by omega)
      have hkey1 := keyOf_int_mk Tryz.underlying3 hwk1
      have hkey2 := keyOf_int_mk Tryz.underlying3 hwk2
      have hil' : (i : Int) < (g.e.length : Int) := by omega
      have HCA := Lib.hid hca
      have HCB := Lib.hid hcb
      have HBE := Lib.hid hbe
      clear a0 a1 b0 b1 z0 z1 hca hcb hi hgn hck0
      generalize (getE g.e i).a = xa at *
      generalize (getE g.e i).b = xb at *
      go_wp2_with (at_mapUpdate; refine wpList_mapUpdate_in _ rfl _ _ _ 62 rfl 3 3 Tryz.keyInt Tryz.underlying62 _ (w.heap.size + 1 + 1) n D rfl hO.out (by unfold maxLen; omega) _ _ _ rfl rfl hkey1 _ [] (plainElem_int Tryz.underlying3 hwa) ?_)
      intro w2 ho2 ht2
      have HB2' := Lib.hid (below_turned hB.out ht2 (by rw [HZ0.out]; exact Nat.le_refl _) hB.out.size)
      have HD2 := Lib.hid (hD.out.put (2 * (i : Int)))
      rw [HF1.out] at HD2
      have HO2 := Lib.hid ho2
      have hca3 := (HB2'.out.cell (p := ⟨be, oe + i * 2, none⟩) HBE.out).trans HCA.out
      have hcb3 := (HB2'.out.cell (p := ⟨be, oe + i * 2 + 1, none⟩) HBE.out).trans HCB.out
      have x2 := (HB1.out.below HB2'.out).c1
      clear x1 hca2 hcb2 ho2 ht2 hck hO hD hB
      go_wp2_with (at_mapUpdate; refine wpList_mapUpdate_in _ rfl _ _ _ 62 rfl 3 3 Tryz.keyInt Tryz.underlying62 _ (w.heap.size + 1 + 1) (n + 1) _ rfl HO2.out (by unfold maxLen; omega) _ _ _ rfl rfl hkey2 _ [] (plainElem_int Tryz.underlying3 hwb) ?_)
      intro w3 ho3 ht3
      have HB3 := Lib.hid (below_turned HB2'.out ht3 (by rw [HZ0.out]; exact Nat.le_refl _) HB2'.out.size)
      have HD3 := Lib.hid ((HD2.out.put (2 * (i : Int) + 1)).cong HQ.out)
      rw [HF2.out] at HD3
      have HO3 := Lib.hid ho3
      clear x2 hca3 hcb3 ho3 ht3 HD2 HO2 HB2'
      go_wp2
      go_roundw
      case rel => exact ⟨k + 1, n + 1 + 1, _, by omega, by omega, by go_num, HO3, HD3, HB3⟩
      case measure => simp [Go.RowKit.intOf]; omega
    · obtain rfl : k = p.e.length := by omega
      have HD2 := Lib.hid (hD.out.cong (LvQ.all p))
      go_wp2
      go_ret
      exact ⟨_, n, D, rfl, by omega, by omega, hO.out, HD2.out, HM.out.trans (hB.out.mono HS0.out)⟩

end Go.Proofs.YtmbpmepoaonleaaGreat.Rt

/-! The program's areTurns. -/
namespace Go.Proofs.YtmbpmepoaonleaaGreat.Rt
open Go.Proofs.YtmbpmepoaonleaaGreat Go.RowKit Go.Maps

def AtQ (p : Prt) (T : List (List Int)) (k j : Nat) (x : Int) : Prop := Dart p x ∧ ¬ Met T k j x
theorem AtQ.start (p : Prt) (T : List (List Int)) (x : Int) : AtQ p T 0 0 x ↔ Dart p x := ⟨fun h => h.1, fun h => ⟨h, Met.start T x⟩⟩
theorem AtQ.step {p : Prt} {T : List (List Int)} {k j : Nat} (h : j < (getT T k).length) (x : Int) : AtQ p T k (j + 1) x ↔ AtQ p T k j x ∧ x ≠ getI (getT T k) j := by
  unfold AtQ
  rw [Met.step h, not_or, and_assoc]
theorem AtQ.next {p : Prt} {T : List (List Int)} {k : Nat} (x : Int) : AtQ p T (k + 1) 0 x ↔ AtQ p T k (getT T k).length x := by unfold AtQ; rw [Met.next]

theorem terr_no_turns {g : Gph} {p : Prt} {T : List (List Int)} (h : ¬ Turns g p T) : decide (terr g p T = 0) = false := decide_eq_false (fun e => h (terr_iff.1 e))
theorem terr_turns {g : Gph} {p : Prt} {T : List (List Int)} (h : Turns g p T) : decide (terr g p T = 0) = true := decide_eq_true (terr_iff.2 h)
theorem not_turns_at {g : Gph} {p : Prt} {T : List (List Int)} {k j : Nat} (hG : Good g p T k j) (hj : j < (getT T k).length) (h : ¬ AtQ p T k j (getI (getT T k) j)) : ¬ Turns g p T := fun ht =>
  h ⟨(ht.dart (getI_in _ _ hj)).2.1, fun hm => hG.met hj hm ht⟩

set_option maxRecDepth 100000 in
set_option maxHeartbeats 4000000 in
theorem areTurns_any (u : Value) (g : Gph) (p : Prt) (T : List (List Int)) (w0 w : World) (b n : Nat) (D : DataW Unit) (hT : LL w0 u T) (hB0 : Below w0.heap.size w0 w) (hb : w0.heap.size ≤ b)
    (ho : w.ownsMap Tryz.prog 3 (plainElem Tryz.prog 3) b n D) (hD : Hd D (Dart p) (lvF g)) (hp : perr g p = 0) (hn : (T.length : Int) = g.n) (hw : ∀ j, ∀ x ∈ getT T j, (Lit.int .i64 x).wf = true) :
    Calls Tryz.prog 69 #[u, .map (some b)] w fun e w' => e = .returned (.bool (decide (terr g p T = 0))) ∧ Below w0.heap.size w0 w' := by
  obtain ⟨A, cap, rfl, hcap, hmx⟩ := hT.form
  have HT := Lib.hid hT
  have HP := Lib.hid hp
  have HN := Lib.hid hn
  have HW := Lib.hid hw
  have HO := Lib.hid ho
  have HD := Lib.hid (hD.cong (AtQ.start p T))
  have HB := Lib.hid hB0
  unfold maxLen at hmx
  clear hT hp hn hw ho hD hB0
  go_enter Tryz.func69, Tryz.ntmps69
  go_wp2
  go_loopw [13] (fun i wr => ∃ k D, k ≤ T.length ∧ i = .int .i64 (k : Nat) ∧ Hid (wr.ownsMap Tryz.prog 3 (plainElem (H := Unit) Tryz.prog 3) b n D) ∧ Hid (Hd D (AtQ p T k 0) (lvF g)) ∧ Hid (Below w0.heap.size w0 wr) ∧ Hid (Good g p T k 0)) (fun i _ => T.length - (Go.RowKit.intOf i).toNat)
  case atStart => exact ⟨0, D, Nat.zero_le _, rfl, HO, HD, HB, Lib.hid (Good.start g p T)⟩
  case round =>
    clear HO HD HB
    obtain ⟨k, D, hk, rfl, hO, hD, hB, hG⟩ := hrel
    obtain ⟨wo, hwo⟩ : ∃ z, z = wr := ⟨_, rfl⟩
    subst hwo
    by_cases hlt : k < T.length
    · obtain ⟨bT, oT, rfl, hbT, A1, c1, hcT, hi⟩ := HT.out.get hlt
      have hcT2 := (hB.out.cell (p := ⟨bT, oT + k, none⟩) hbT).trans hcT
      have HI := Lib.hid hi
      obtain ⟨_, hl1, hl2⟩ := ints_cap hi
      unfold maxLen at hl2
      clear hcT hi hbT
      go_wp2
      clear hcT2
      go_loopw [20] (fun i wr => ∃ j D, j ≤ (getT T k).length ∧ i = .int .i64 (j : Nat) ∧ Hid (wr.ownsMap Tryz.prog 3 (plainElem (H := Unit) Tryz.prog 3) b n D) ∧ Hid (Hd D (AtQ p T k j) (lvF g)) ∧ Hid (Below w0.heap.size w0 wr) ∧ Hid (Good g p T k j)) (fun i _ => (getT T k).length - (Go.RowKit.intOf i).toNat)
      case atStart => exact ⟨0, D, Nat.zero_le _, rfl, hO, hD, hB, hG⟩
      case round =>
        clear hO hD hB hG
        obtain ⟨j, D2, hj, rfl, hO, hD, hB, hG⟩ := hrel
        by_cases hjt : j < (getT T k).length
        · obtain ⟨bl, ol, rfl, hbl, hcl⟩ := ints_at HI.out hjt
          have hcl2 := (hB.out.cell (p := ⟨bl, ol + j, none⟩) hbl).trans hcl
          have HNO := Lib.hid (fun h => terr_no_turns (not_turns_at hG.out hjt h))
          have HNT := Lib.hid (fun h => terr_no_turns (not_turns_tail (g := g) (p := p) hjt h))
          have HST := Lib.hid (fun hd hm ht => hG.out.step hjt hd hm ht)
          have HDL := Lib.hid ((hD.out.del (getI (getT T k) j)).cong (AtQ.step hjt))
          have hwx := HW.out k _ (getI_in _ _ hjt)
          have hkey := keyOf_int_mk Tryz.underlying3 hwx
          have HDD := Lib.hid hD.out
          have HBD := Lib.hid (fun (w' : World) (ht : wr.mapTurned w' b) => below_turned hB.out ht hb hB.out.size)
          clear hcl hbl hD hwx hG
          generalize getI (getT T k) j = x at *
          generalize (getT T k).length = nk at *
          by_cases hq : AtQ p T k j x
          · have hh := HDD.out.yes hq
            have HAT := Lib.hid (fun c (hc : D2.atKey (.int .i64 x) (.lit (.int .i64 0)) = .lit (.int .i64 c)) => show c = ((tl g x : Nat) : Int) by
              have := (HDD.out.at_ x hq (.lit (.int .i64 0))).symm.trans hc
              unfold lvF at this
              simpa using this.symm)
            by_cases ht : tl g x = k
            · have HG2 := Lib.hid (HST.out hq.1 hq.2 ht)
              rw [ht] at HAT
              clear hq ht HNO HNT
              go_wp2_with (first
                | (at_lookup; refine wpList_lookup_own_ok_int _ rfl _ _ 62 rfl 3 3 .i64 Tryz.keyInt Tryz.underlying62 Tryz.underlying3 (Tryz.zeroInt _) b n D2 rfl hO.out _ _ rfl hkey ?_; intro c hat hwc; obtain rfl := HAT.out c hat; rw [hh]; clear hat hwc)
                | (at_delete; refine wpList_delete_own _ rfl _ _ 62 3 rfl 3 Tryz.keyInt Tryz.underlying62 _ b n D2 rfl hO.out _ _ rfl hkey ?_))
              intro w2 ho2 ht2
              have HO2 := Lib.hid ho2
              have HB2 := Lib.hid (HBD.out w2 ht2)
              clear ho2 ht2 HBD hO hB hcl2 HDD HAT HST
              go_wp2
              go_roundw
              case rel => exact ⟨j + 1, _, by omega, by go_num, HO2, HDL, HB2, HG2⟩
              case measure => simp [Go.RowKit.intOf]; omega
            · have HK := Lib.hid (HNT.out ht)
              have hne : (((tl g x : Nat) : Int) != (k : Int)) = true := by simp; omega
              clear hq ht HNO HNT HST HBD
              generalize tl g x = t at *
              go_wp2_with (at_lookup; refine wpList_lookup_own_ok_int _ rfl _ _ 62 rfl 3 3 .i64 Tryz.keyInt Tryz.underlying62 Tryz.underlying3 (Tryz.zeroInt _) b n D2 rfl hO.out _ _ rfl hkey ?_; intro c hat hwc; obtain rfl := HAT.out c hat; rw [hh]; clear hat hwc)
              go_ret
              exact ⟨ret_bool HK.out.symm, hB.out⟩
          · have HK := Lib.hid (HNO.out hq)
            have hh := HDD.out.no hq
            clear hq HNO HNT HST HBD
            go_wp2_with (at_lookup; refine wpList_lookup_own_ok_int _ rfl _ _ 62 rfl 3 3 .i64 Tryz.keyInt Tryz.underlying62 Tryz.underlying3 (Tryz.zeroInt _) b n D2 rfl hO.out _ _ rfl hkey ?_; intro c hat hwc; rw [hh]; clear hat hwc)
            go_ret
            exact ⟨ret_bool HK.out.symm, hB.out⟩
        · obtain rfl : j = (getT T k).length := by omega
          have HD2 := Lib.hid (hD.out.cong (AtQ.next (p := p)))
          have HG2 := Lib.hid hG.out.next
          clear hD hG
          go_wp2
          go_roundw
          case rel => exact ⟨k + 1, D2, by omega, by go_num, hO, HD2, hB, HG2⟩
          case measure => simp [Go.RowKit.intOf]; omega
    · obtain rfl : k = T.length := by omega
      have HA := Lib.hid (hG.out.all HP.out HN.out)
      have HZ := Lib.hid (hD.out.none hO.out)
      by_cases ht : Turns g p T
      · have HK := Lib.hid (terr_turns ht)
        have hz : Maps.size D = 0 := HZ.out.2 (HA.out.1 ht)
        have hz' : ((Maps.size D : Nat) : Int) = 0 := by omega
        clear hz ht
        go_wp2_with (at_len; refine wpList_len_own _ rfl _ 62 rfl 3 3 Tryz.underlying62 _ b n D rfl hO.out ?_; rw [hz'])
        go_ret
        exact ⟨ret_bool HK.out.symm, hB.out⟩
      · have HK := Lib.hid (terr_no_turns ht)
        have hz : ¬ Maps.size D = 0 := fun e => ht (HA.out.2 (HZ.out.1 e))
        have hz' : (((Maps.size D : Nat) : Int) == 0) = false := beq_eq_false_iff_ne.2 (by omega)
        clear hz ht
        go_wp2_with (at_len; refine wpList_len_own _ rfl _ 62 rfl 3 3 Tryz.underlying62 _ b n D rfl hO.out ?_)
        go_ret
        exact ⟨ret_bool HK.out.symm, hB.out⟩

end Go.Proofs.YtmbpmepoaonleaaGreat.Rt
