/-
  PlQ, PlR, in one text.
-/
import Derived.Test.YtmbpmepoaonleaaGreatM54
import Derived.Test.YtmbpmepoaonleaaGreatM06
import Derived.Test.YtmbpmepoaonleaaGreatM05
import Derived.Test.YtmbpmepoaonleaaGreatM21
import Derived.Test.YtmbpmepoaonleaaGreatM26
/-! The program's Right; the law's Small, and its awake: the document's example. -/
namespace Go.Proofs.YtmbpmepoaonleaaGreat.Pl
open Go.Proofs.YtmbpmepoaonleaaGreat Go.Proofs.YtmbpmepoaonleaaGreat.Fc Go.Proofs.YtmbpmepoaonleaaGreat.Rt Go.RowKit Go.Maps

variable {g : Gph} {p : Prt} {T S : List (List Int)} {w w' : World}

set_option maxRecDepth 100000 in
set_option maxHeartbeats 2000000 in
theorem right_any (v u x : Value) (w : World) (h : Gr w v g) (h' : Pt w u p) (hx : Pn w x T S) (hf : Fits g p T S) {er : Int} (hE : PErr g p T S er) :
    Calls Tryz.prog 13 #[v, u, x] w fun e w' => e = .returned (.int .i64 er) ∧ Below w.heap.size w w' := by
  have HG := Lib.hid h
  have HP := Lib.hid h'
  have HX := Lib.hid hx
  obtain ⟨ve, rfl, h1⟩ := h
  obtain ⟨vv, vp, rfl, h2, h3⟩ := h'
  obtain ⟨vT, vS, rfl, h4, h5⟩ := hx
  obtain ⟨Ae, ce, rfl⟩ := h1.form
  obtain ⟨Av, cv, rfl⟩ := ints_form h2
  obtain ⟨Ap, cp, rfl⟩ := ints_form h3
  obtain ⟨AT, cT, rfl, _, _⟩ := h4.form
  obtain ⟨AS, cS, rfl, _, _⟩ := h5.form
  obtain ⟨b1, b2, b3, hm⟩ := three_boxes w (.int .i64 g.n) (.slice Ae g.e.length ce) (.slice Av p.v.length cv) (.slice Ap p.e.length cp) (.slice AT T.length cT) (.slice AS S.length cS) 24 27 30
  have HM := Lib.hid hm
  have HR := Lib.hid (regions_any _ _ _ _ (HG.out.below hm) (HP.out.below hm) (HX.out.below hm) hf hE)
  have c0 := b1.c0
  have c1 := b1.c1
  have d0 := b2.c0
  have d1 := b2.c1
  have e0 := b3.c0
  have e1 := b3.c1
  clear b1 b2 b3 hm h1 h2 h3 h4 h5 HG HP HX hf hE
  go_enter Tryz.func13, Tryz.ntmps13
  go_wp2_with fail
  generalize ((w.alloc (.cells #[.int .i64 g.n, .slice Ae g.e.length ce] 24)).alloc (.cells #[.slice Av p.v.length cv, .slice Ap p.e.length cp] 27)).alloc (.cells #[.slice AT T.length cT, .slice AS S.length cS] 30) = w1 at *
  refine HR.out.mono ?_
  clear HR c0 c1 d0 d1 e0 e1
  rintro e w2 ⟨hB2, ⟨_, rfl⟩ | ⟨rfl, m, us, rfl, _⟩⟩
  · have HZ := Lib.hid (trans2 HM.out hB2)
    clear hB2
    go_wp2
    go_ret
    exact ⟨rfl, HZ.out⟩
  · have HZ := Lib.hid (trans2 HM.out hB2)
    clear hB2
    go_wp2
    go_ret
    exact ⟨rfl, HZ.out⟩

/-! ### Small -/

def small8 (g : Gph) (p : Prt) (T S : List (List Int)) : Bool := small6 g p T && (decide (S.length ≤ 60) && decide (∀ v, v < S.length → (getT S v).length ≤ 60))
def small8I (g : Gph) (p : Prt) (T S : List (List Int)) : Int := if small8 g p T S = true then 1 else 0
theorem small8_one (h : small6 g p T = false) : small8I g p T S = 0 := by unfold small8I small8; rw [h]; rfl
theorem small8_two (h : ¬ S.length ≤ 60) : small8I g p T S = 0 := by unfold small8I small8; rw [decide_eq_false h]; simp
theorem small8_row {k : Nat} (hk : k < S.length) (h : 60 < (getT S k).length) : small8I g p T S = 0 := by
  unfold small8I small8
  have : decide (∀ v, v < S.length → (getT S v).length ≤ 60) = false := decide_eq_false fun ha => by have := ha k hk; omega
  rw [this]
  simp
theorem small8_yes (h1 : small6 g p T = true) (h2 : S.length ≤ 60) (h3 : ∀ v, v < S.length → (getT S v).length ≤ 60) : small8I g p T S = 1 := by
  unfold small8I small8
  rw [h1, decide_eq_true h2, decide_eq_true h3]
  rfl

set_option maxRecDepth 100000 in
set_option maxHeartbeats 4000000 in
theorem small8_any (v u x : Value) (w : World) (h : Gr w v g) (h' : Pt w u p) (hx : Pn w x T S) :
    Calls Tryz.prog 11 #[v, u, x] w fun e w' => e = .returned (.int .i64 (small8I g p T S)) ∧ Below w.heap.size w w' := by
  have HG := Lib.hid h
  have HP := Lib.hid h'
  obtain ⟨ve, rfl, h1⟩ := h
  obtain ⟨vv, vp, rfl, h2, h3⟩ := h'
  obtain ⟨vT, vS, rfl, h4, h5⟩ := hx
  have HT := Lib.hid h4
  have HS := Lib.hid h5
  obtain ⟨Ae, ce, rfl⟩ := h1.form
  obtain ⟨Av, cv, rfl⟩ := ints_form h2
  obtain ⟨Ap, cp, rfl⟩ := ints_form h3
  obtain ⟨AT, cT, rfl, _, _⟩ := h4.form
  obtain ⟨AS, cS, rfl, _, hmx⟩ := h5.form
  unfold maxLen at hmx
  obtain ⟨b1, b2, b3, hm⟩ := three_boxes w (.int .i64 g.n) (.slice Ae g.e.length ce) (.slice Av p.v.length cv) (.slice Ap p.e.length cp) (.slice AT T.length cT) (.slice AS S.length cS) 24 27 30
  have HB3 := Lib.hid b3
  have HM := Lib.hid hm
  have HSM := Lib.hid (small6_any _ _ _ g p T _ (HG.out.below hm) (HP.out.below hm) (HT.out.below hm))
  have HS1 := Lib.hid (HS.out.below hm)
  have c0 := b1.c0
  have c1 := b1.c1
  have d0 := b2.c0
  have d1 := b2.c1
  have e0 := b3.c0
  clear b1 b2 b3 hm h1 h2 h3 h4 h5 HG HP HT HS
  go_enter Tryz.func11, Tryz.ntmps11
  go_wp2_with fail
  generalize ((w.alloc (.cells #[.int .i64 g.n, .slice Ae g.e.length ce] 24)).alloc (.cells #[.slice Av p.v.length cv, .slice Ap p.e.length cp] 27)).alloc (.cells #[.slice AT T.length cT, .slice AS S.length cS] 30) = w1 at *
  refine HSM.out.mono ?_
  clear HSM c0 c1 d0 d1 e0
  rintro e w2 ⟨rfl, hB2⟩
  have HB := Lib.hid (HB3.out.below hB2)
  have HS2 := Lib.hid (HS1.out.below hB2)
  have HM2 := Lib.hid (trans2 HM.out hB2)
  clear hB2
  by_cases hs : small6 g p T = true
  case neg =>
    have HK := Lib.hid (small8_one (S := S) (by simpa using hs : small6 g p T = false))
    have hz : small6I g p T = 0 := if_neg hs
    rw [hz]
    clear hs hz
    go_wp2
    go_ret
    exact ⟨ret_int HK.out.symm, HM2.out⟩
  have HSS := Lib.hid hs
  have hz : small6I g p T = 1 := if_pos hs
  rw [hz]
  have e1 := HB.out.c1
  clear hs hz
  by_cases hl : S.length ≤ 60
  case neg =>
    have HK := Lib.hid (small8_two (g := g) (p := p) (T := T) hl)
    have hl' : (60 : Int) < (S.length : Int) := by omega
    clear hl
    go_wp2
    go_ret
    exact ⟨ret_int HK.out.symm, HM2.out⟩
  have hl' : ¬ (60 : Int) < (S.length : Int) := by omega
  go_wp2
  clear e1
  go_loopw [7] (fun a wr => ∃ k : Nat, k ≤ S.length ∧ a = .int .i64 k ∧ Hid (wr = w2) ∧ Hid (∀ j, j < k → (getT S j).length ≤ 60)) (fun a _ => S.length - (Go.RowKit.intOf a).toNat)
  case atStart => exact ⟨0, Nat.zero_le _, rfl, Lib.hid rfl, Lib.hid (fun j hj => absurd hj (Nat.not_lt_zero _))⟩
  case round =>
    obtain ⟨k, hk, rfl, hB, hA⟩ := hrel
    obtain rfl := hB.out
    have e1 := HB.out.c1
    by_cases hlt : k < S.length
    · obtain ⟨bT, oT, rfl, hbT, A1, c1, hcT, hi⟩ := HS2.out.get hlt
      by_cases hrk : 60 < (getT S k).length
      · have HK := Lib.hid (small8_row (g := g) (p := p) (T := T) hlt hrk)
        have hrk' : (60 : Int) < ((getT S k).length : Int) := by omega
        clear hrk hi hbT
        generalize (getT S k).length = nk at *
        go_wp2
        go_ret
        exact ⟨ret_int HK.out.symm, HM2.out⟩
      · have HH := Lib.hid (show ∀ j, j < k + 1 → (getT S j).length ≤ 60 from fun j hj => by
          by_cases e : j = k
          · rw [e]; omega
          · exact hA.out j (by omega))
        have hrk' : ¬ (60 : Int) < ((getT S k).length : Int) := by omega
        clear hrk hi hbT
        generalize (getT S k).length = nk at *
        go_wp2
        go_roundw
        case rel => exact ⟨k + 1, by omega, by go_num, Lib.hid (by trivial), HH⟩
        case measure => simp [Go.RowKit.intOf]; omega
    · obtain rfl : k = S.length := by omega
      have HK := Lib.hid (small8_yes HSS.out hl hA.out)
      go_wp2
      go_ret
      exact ⟨ret_int HK.out.symm, HM2.out⟩
theorem small8_facts (h : small8 g p T S = true) (hwT : ∀ j, ∀ x ∈ getT T j, (Lit.int .i64 x).wf = true) (hwS : ∀ j, ∀ x ∈ getT S j, (Lit.int .i64 x).wf = true) :
    Fits g p T S ∧ g.e.length ≤ 60 ∧ p.v.length ≤ 60 ∧ p.e.length ≤ 60 ∧ T.length ≤ 100 ∧ (∀ j, (getT T j).length ≤ 200) ∧ S.length ≤ 60 ∧ ∀ j, (getT S j).length ≤ 60 := by
  unfold small8 small6 smallB at h
  simp only [Bool.and_eq_true, decide_eq_true_iff] at h
  obtain ⟨⟨⟨a1, a2, a3, _⟩, a4, a5⟩, a6, a7⟩ := h
  have r1 : ∀ j, (getT T j).length ≤ 200 := fun j => by
    by_cases hj : j < T.length
    · exact a5 j hj
    · rw [getT_out _ _ hj]; exact Nat.zero_le _
  have r2 : ∀ j, (getT S j).length ≤ 60 := fun j => by
    by_cases hj : j < S.length
    · exact a7 j hj
    · rw [getT_out _ _ hj]; exact Nat.zero_le _
  exact ⟨⟨by omega, by omega, by omega, by omega, fun j => Nat.le_trans (r1 j) (by decide), hwT, by omega, fun j => Nat.le_trans (r2 j) (by decide), hwS⟩, a1, a2, a3, a4, r1, a6, r2⟩

/-! ### awake -/

def eG : Gph := ⟨2, []⟩
def eP : Prt := ⟨countTo 2, countTo 0⟩
def eT : List (List Int) := [[], []]
def eS : List (List Int) := [[-2, -1]]
theorem eKeys : keysOf eG eP eT = [-2, -1] := by decide +kernel
theorem ePcs : (pcs eG eP).length = 2 := by decide +kernel
theorem eOwn : owns eG eP eS = [[1, 0]] := by decide +kernel
theorem eSph : sphE eG eP eT = 0 := by decide +kernel
theorem eStars : stars (owns eG eP eS) = [(1, 0)] := by rw [eOwn]; rfl
theorem eHung : Hung eG eP eT eS where
  lists := by
    rw [eKeys]
    exact ⟨by decide, by decide, by unfold Up; decide, by decide, by decide⟩
  forest := by
    rw [eStars]
    intro i hi hl hc
    have h0 : i = 0 := by simp at hl; exact hl
    subst h0
    exact absurd (show (1 : Int) = 0 from conn_none hc) (by decide)
  all := fun i j hi hj => by
    rw [ePcs] at hi hj
    rw [eStars]
    have a : Conn (relE [((1 : Int), (0 : Int))]) 1 0 := Conn.arc (List.mem_singleton.2 rfl)
    rcases (show i = 0 ∨ i = 1 by omega) with rfl | rfl <;> rcases (show j = 0 ∨ j = 1 by omega) with rfl | rfl
    · exact Conn.refl _ _
    · exact a.symm
    · exact a
    · exact Conn.refl _ _
theorem eErr : PErr eG eP eT eS 0 := .inr (.inr ⟨eSph, eHung, rfl⟩)
theorem eErr2 : PErr eG eP eT [] 7 := .inr (.inl ⟨eSph, fun h => by
  have := h.all 0 1 (by rw [ePcs]; decide) (by rw [ePcs]; decide)
  exact absurd (conn_none this) (by decide), rfl⟩)
theorem eRegs : regs (keysOf eG eP eT) eS = [[-2, -1]] := by decide +kernel
theorem eRow (j : Nat) : getT eT j = [] := by
  match j with
  | 0 => rfl
  | 1 => rfl
  | n + 2 => rfl
theorem eRowS (j : Nat) : getT eS j = [-2, -1] ∨ getT eS j = [] := by
  match j with
  | 0 => exact .inl rfl
  | n + 1 => exact .inr rfl
theorem eFits : Fits eG eP eT eS := by
  refine ⟨by decide, by decide, by decide, by decide, fun j => by rw [eRow]; decide, fun j x hx => by rw [eRow] at hx; exact absurd hx List.not_mem_nil, by decide, fun j => ?_, fun j x hx => ?_⟩
  · rcases eRowS j with h | h <;> (rw [h]; decide)
  · rcases eRowS j with h | h
    · rw [h] at hx
      simp at hx
      rcases hx with rfl | rfl <;> decide
    · rw [h] at hx; exact absurd hx List.not_mem_nil
theorem eFits2 : Fits eG eP eT [] := ⟨by decide, by decide, by decide, by decide, fun j => by rw [eRow]; decide, fun j x hx => by rw [eRow] at hx; exact absurd hx List.not_mem_nil, by decide, fun j => by rw [getT_out _ _ (by simp)]; decide, fun j x hx => by rw [getT_out _ _ (by simp)] at hx; exact absurd hx List.not_mem_nil⟩
end Go.Proofs.YtmbpmepoaonleaaGreat.Pl

/-! The document's example, as the law's awake asks it. -/
namespace Go.Proofs.YtmbpmepoaonleaaGreat.Pl
open Go.Proofs.YtmbpmepoaonleaaGreat Go.Proofs.YtmbpmepoaonleaaGreat.Fc Go.Proofs.YtmbpmepoaonleaaGreat.Rt Go.RowKit Go.Maps

variable {w : World}
theorem lit1_lists {u : Value} {l : List Int} (h : Ints w u l) : LL (w.alloc (.cells #[u] 25)) (.slice (some ⟨w.heap.size, 0, none⟩) 1 1) [l] := by
  refine ⟨_, _, rfl, Nat.le_refl _, by unfold maxLen; omega, fun _ => ⟨w.heap.size, 0, rfl, by simp, fun j hj => ?_⟩⟩
  have hj' : j < 1 := hj
  obtain rfl : j = 0 := by omega
  exact ⟨u, new_cell w u 25, h.below (below_alloc _)⟩

theorem eT_lit (w : World) : LL (w.alloc (.cells #[.slice none 0 0, .slice none 0 0] 25)) (.slice (some ⟨w.heap.size, 0, none⟩) 2 2) eT := lit2_lists Ints.nil Ints.nil
theorem eS_lit (w : World) : LL ((w.alloc (.cells #[.int .i64 (-2), .int .i64 (-1)] 3)).alloc (.cells #[.slice (some ⟨w.heap.size, 0, none⟩) 2 2] 25)) (.slice (some ⟨w.heap.size + 1, 0, none⟩) 1 1) eS := by
  have h := lit1_lists (lit2_ints w (-2) (-1))
  rw [World.size_alloc] at h
  exact h

set_option maxRecDepth 100000 in
set_option maxHeartbeats 8000000 in
theorem pawake_any (w : World) :
    Calls Tryz.prog 10 #[] w fun e w' => e = .returned (.bool true) ∧ Below w.heap.size w w' := by
  obtain ⟨b1, hm1⟩ := one_box w (.int .i64 2) (.slice none 0 0) 24
  have HB1 := Lib.hid b1
  have HM := Lib.hid hm1
  have HG := Lib.hid (show Gr (w.alloc (.cells #[.int .i64 2, .slice none 0 0] 24)) (.agg #[.int .i64 2, .slice none 0 0]) eG from ⟨_, rfl, Edges.nil⟩)
  have c0 := b1.c0
  have c1 := b1.c1
  clear b1 hm1
  go_enter Tryz.func10, Tryz.ntmps10
  go_wp2_with fail
  generalize w.alloc (.cells #[.int .i64 2, .slice none 0 0] 24) = w1 at *
  refine (rwhole_any _ eG 2 w1 HG.out rfl (by decide) (by decide)).mono ?_
  rintro e w2 ⟨u, rfl, hB2, hPt⟩
  have HP := Lib.hid (show Pt w2 u eP from hPt)
  clear hPt
  obtain ⟨vv, vp, rfl, h2, h3⟩ := id HP.out
  obtain ⟨Av, cv, rfl⟩ := ints_form h2
  obtain ⟨Ap, cp, rfl⟩ := ints_form h3
  have HG2 := Lib.hid (HG.out.below hB2)
  have HM2 := Lib.hid (trans2 HM.out hB2)
  have HB2 := Lib.hid (HB1.out.below hB2)
  obtain ⟨b2, hm2⟩ := one_box w2 (.slice Av eP.v.length cv) (.slice Ap eP.e.length cp) 27
  have HBP := Lib.hid b2
  have HMP := Lib.hid hm2
  have d0 := b2.c0
  have d1 := b2.c1
  have HB3 := Lib.hid (HB2.out.below hm2)
  have c0 := HB3.out.c0
  have c1 := HB3.out.c1
  clear b2 hm2 h2 h3 hB2 HB1 HG HM HB2
  go_wp2_with fail
  have HGD := Lib.hid (HG2.out.below HMP.out)
  have HPD := Lib.hid (HP.out.below HMP.out)
  have hszA : (w2.alloc (.cells #[.slice Av eP.v.length cv, .slice Ap eP.e.length cp] 27)).heap.size = w2.heap.size + 1 := World.size_alloc _ _
  have HM3 := Lib.hid (trans2 HM2.out HMP.out)
  generalize w2.alloc (.cells #[.slice Av eP.v.length cv, .slice Ap eP.e.length cp] 27) = wA at *
  have hT := eT_lit wA
  have hbT := below_alloc (w := wA) (.cells #[.slice none 0 0, .slice none 0 0] 25)
  have hszB : (wA.alloc (.cells #[.slice none 0 0, .slice none 0 0] 25)).heap.size = w2.heap.size + 1 + 1 := by rw [World.size_alloc, hszA]
  rw [hszA] at hT
  generalize wA.alloc (.cells #[.slice none 0 0, .slice none 0 0] 25) = wB at *
  have hS := eS_lit wB
  have hbS := trans2 (below_alloc (w := wB) (.cells #[.int .i64 (-2), .int .i64 (-1)] 3)) (below_alloc (.cells #[.slice (some ⟨w2.heap.size + 1 + 1, 0, none⟩) 2 2] 25))
  rw [hszB] at hS
  generalize (wB.alloc (.cells #[.int .i64 (-2), .int .i64 (-1)] 3)).alloc (.cells #[.slice (some ⟨w2.heap.size + 1 + 1, 0, none⟩) 2 2] 25) = wD at *
  have HBD := Lib.hid (trans2 hbT hbS)
  have HR := Lib.hid (regions_any _ _ _ wD (HGD.out.below HBD.out) (HPD.out.below HBD.out) ⟨_, _, rfl, hT.below hbS, hS⟩ eFits eErr)
  have HX1 := Lib.hid (HB3.out.below HBD.out)
  have HX2 := Lib.hid (HBP.out.below HBD.out)
  have HMD := Lib.hid (trans2 HM3.out HBD.out)
  clear c0 c1 d0 d1 hT hbT hS hbS hszA hszB HM2 HG2
  refine HR.out.mono ?_
  clear HR
  rintro e w5 ⟨hB5, ⟨h, _⟩ | ⟨_, m, us, rfl, hMd⟩⟩
  · exact absurd rfl h
  rw [eRegs] at hMd
  have hL := hMd.reads
  obtain ⟨Am, cm, rfl, _, _⟩ := hL.form
  obtain ⟨bm, om, e, hbm, Ar, cr, hcr, hIr⟩ := hL.get (show 0 < [[(-2 : Int), -1]].length by decide)
  cases e
  have HIR := Lib.hid hIr
  have HX1 := Lib.hid (HX1.out.below hB5)
  have HX2 := Lib.hid (HX2.out.below hB5)
  have HG5 := Lib.hid ((HGD.out.below HBD.out).below hB5)
  have HP5 := Lib.hid ((HPD.out.below HBD.out).below hB5)
  have HM5 := Lib.hid (trans2 HMD.out hB5)
  rw [Nat.add_zero] at hcr
  have hnr : (getT [[(-2 : Int), -1]] 0).length = 2 := rfl
  have hn1 : [[(-2 : Int), -1]].length = 1 := rfl
  rw [hnr] at hcr HIR
  rw [hn1]
  have HI2 := Lib.hid (lit2_ints w5 (-2) (-1))
  have hb6 := below_alloc (w := w5) (.cells #[.int .i64 (-2), .int .i64 (-1)] 3)
  have HEQ := Lib.hid (requal_any _ [-2, -1] _ [-2, -1] _ (show Ints _ (.slice Ar 2 cr) [-2, -1] from HIR.out.below hb6) HI2.out (by decide))
  have HX1 := Lib.hid (HX1.out.below hb6)
  have HX2 := Lib.hid (HX2.out.below hb6)
  have HG6 := Lib.hid (HG5.out.below hb6)
  have HP6 := Lib.hid (HP5.out.below hb6)
  have HM6 := Lib.hid (trans2 HM5.out hb6)
  clear hMd hL hIr hB5 hbm hnr hn1 hb6 HBD HMD HGD HPD HG5 HP5
  go_wp2_with fail
  refine HEQ.out.mono ?_
  clear HEQ
  rintro e w7 ⟨rfl, n7, hw7⟩
  have hb7 : Below (w5.alloc (.cells #[.int .i64 (-2), .int .i64 (-1)] 3)).heap.size (w5.alloc (.cells #[.int .i64 (-2), .int .i64 (-1)] 3)) w7 := by rw [hw7]; exact below_drewN' _ _
  have HX1 := Lib.hid (HX1.out.below hb7)
  have HX2 := Lib.hid (HX2.out.below hb7)
  have HG7 := Lib.hid (HG6.out.below hb7)
  have HP7 := Lib.hid (HP6.out.below hb7)
  have HM7 := Lib.hid (trans2 HM6.out hb7)
  have hT := eT_lit w7
  have hbT := below_alloc (w := w7) (.cells #[.slice none 0 0, .slice none 0 0] 25)
  have HRT := Lib.hid (right_any _ _ _ _ (HG7.out.below hbT) (HP7.out.below hbT) ⟨_, _, rfl, hT, LL.nil⟩ eFits2 eErr2)
  have HM8 := Lib.hid (trans2 HM7.out hbT)
  have f0 := HX1.out.c0
  have f1 := HX1.out.c1
  have g0 := HX2.out.c0
  have g1 := HX2.out.c1
  clear hw7 hb7 hT hbT hcr HG6 HP6 HM6 HIR HI2 HG7 HP7 HM7
  go_wp2_with fail
  clear f0 f1 g0 g1
  refine HRT.out.mono ?_
  rintro e w9 ⟨rfl, hB9⟩
  have HZ := Lib.hid (trans2 HM8.out hB9)
  clear hB9 HRT
  go_wp2
  go_ret
  exact ⟨rfl, HZ.out⟩
end Go.Proofs.YtmbpmepoaonleaaGreat.Pl
