/-
  The program's together and Joined.
-/
import Derived.Test.YtjnohnbppkhbaaaStY
import Derived.Test.YtjnohnbppkhbaaaWkH
import Derived.Test.YtjnohnbppkhbaaaGrV
import Derived.StillTactics
import Derived.StillTailTactics
namespace Go.Proofs.Ytjnohnbppkhbaaa
open Go.RowKit Go.Maps

variable {g : Gph} {p : Prt}

theorem tog_len (hp : perr g p = 0) {k : Nat} (hk : k ≤ p.e.length) : (togTo g p k).ts.length = p.v.length := by rw [(tog_tells hp k hk).1]

set_option maxRecDepth 100000 in
set_option maxHeartbeats 2000000 in
theorem together_any (v u : Value) (g : Gph) (p : Prt) (w : World) (h : Gr w v g) (h' : Pt w u p) (hp : perr g p = 0) (hp1 : p.v.length ≤ 100000) (hp2 : p.e.length ≤ 100000) :
    Calls Try.prog 26 #[v, u] w fun e w' => ∃ sb F, e = .returned (.pointer (some ⟨sb, 0, none⟩)) ∧ Holds w' F sb (tog g p) ∧ Below w.heap.size w w' ∧ ∀ k, F k → w.heap.size ≤ k := by
  obtain ⟨he, hr1, hr2, hends⟩ := perr_rises hp
  obtain ⟨ve, rfl, h1⟩ := h
  obtain ⟨vv, vp, rfl, h2, h3⟩ := h'
  obtain ⟨Ae, ce, rfl⟩ := h1.form
  obtain ⟨Av, cv, rfl⟩ := ints_form h2
  obtain ⟨Ap, cp, rfl⟩ := ints_form h3
  obtain ⟨b1, b2, hm⟩ := two_boxes w (.int .i64 g.n) (.slice Ae g.e.length ce) (.slice Av p.v.length cv) (.slice Ap p.e.length cp) 24 27
  have HB1 := Lib.hid b1
  have HB2 := Lib.hid b2
  have HM := Lib.hid hm
  have HE1 := Lib.hid h1
  have HE3 := Lib.hid h3
  have d0 := b2.c0
  have HN := Lib.hid (new_any _ _ p.v (h2.below hm) (fun x hx => wf_in hp hx) hp1)
  clear b1 b2 hm h1 h2 h3
  go_enter Try.func26, Try.ntmps26
  go_wp2_with fail
  generalize (w.alloc (.cells #[.int .i64 g.n, .slice Ae g.e.length ce] 24)).alloc (.cells #[.slice Av p.v.length cv, .slice Ap p.e.length cp] 27) = w0 at *
  refine HN.out.mono ?_
  rintro e w1 ⟨sb, F0, rfl, hH, hb, hF⟩
  have HB := Lib.hid hb
  have HH0 := Lib.hid (show Holds w1 F0 sb (togTo g p 0) from hH)
  have hF0 := Lib.hid hF
  have d1 := (HB2.out.below hb).c1
  clear hb hF hH HN d0
  go_wp2
  go_loopw [14] (fun i wr => ∃ (k : Nat) (F : Nat → Prop), k ≤ p.e.length ∧ i = .int .i64 k ∧ Hid (Holds wr F sb (togTo g p k)) ∧ Hid (∀ j, F j → w0.heap.size ≤ j) ∧ Hid (Below w0.heap.size w0 wr)) (fun i _ => p.e.length - (Go.RowKit.intOf i).toNat)
  case atStart => exact ⟨0, F0, Nat.zero_le _, rfl, HH0, hF0, HB⟩
  case round =>
    obtain ⟨k, F, hk, rfl, hH, hF, hB⟩ := hrel
    obtain ⟨wq, hwq⟩ : ∃ z, z = wr := ⟨_, rfl⟩
    subst hwq
    have HHq := Lib.hid hH.out
    have HFq := Lib.hid hF.out
    have HBq := Lib.hid hB.out
    clear hH hF hB
    by_cases hlt : k < p.e.length
    · obtain ⟨pb, po, rfl, hpb, hpc⟩ := ints_at HE3.out hlt
      have hrk := hr2 k hlt
      have hmem : getI p.e k ∈ p.e := (mem_getI _ _).2 ⟨k, hlt, rfl⟩
      obtain ⟨en, hen⟩ : ∃ en : Nat, getI p.e k = en := ⟨(getI p.e k).toNat, by omega⟩
      have hel : en < g.e.length := by omega
      obtain ⟨eb, eo, rfl, heb, he1, he2⟩ := edges_at HE1.out hel
      have hbw := HM.out.trans (HBq.out.mono HM.out.size)
      have hck := (hbw.cell (p := ⟨pb, po + k, none⟩) hpb).trans hpc
      have g1 := (hbw.cell (p := ⟨eb, eo + en * 2, none⟩) heb).trans he1
      have g2 := (hbw.cell (p := ⟨eb, eo + en * 2 + 1, none⟩) heb).trans he2
      have c1 := (HB1.out.below HBq.out).c1
      obtain ⟨ha, hb⟩ := hends _ hmem
      have HS := Lib.hid (togTo_succ g p k hlt)
      rw [hen] at HS hck ha hb
      rw [Int.toNat_natCast] at ha hb
      have HJ := Lib.hid (join_any wq.drew F sb _ (getE g.e en).a (getE g.e en).b (HHq.out.below (below_drewN' wq 1)) (wf_in hp ha) (wf_in hp hb) (by rw [tog_len hp (by omega)]; omega))
      have HS2 := Lib.hid (show togTo g p (k + 1) = (togTo g p k).join (getE g.e en).a (getE g.e en).b by rw [HS.out, Int.toNat_natCast])
      have hn0 : (0 : Int) ≤ (en : Int) := by omega
      have hn1 : (en : Int) < (g.e.length : Int) := by omega
      generalize (getE g.e en).a = xa at *
      generalize (getE g.e en).b = xb at *
      clear hbw hpc he1 he2 hrk hmem hen HS ha hb
      go_wp2_with fail
      go_still_tail 13, (by kernel_rfl)
      change wpList _ _ _ _ _ wq.drew
      have HBd := Lib.hid (HBq.out.trans ((below_drewN' wq 1).mono HBq.out.size))
      clear hck g1 g2 c1
      go_wp2_with fail
      refine HJ.out.mono ?_
      rintro e w6 ⟨rfl, F6, hH6, hO6, hF6⟩
      have hz : w0.heap.size ≤ wq.heap.size := HBq.out.size
      have HH6 := Lib.hid (show Holds w6 F6 sb (togTo g p (k + 1)) by rw [HS2.out]; exact hH6)
      have HB6 := Lib.hid (show Below w0.heap.size w0 w6 from HBd.out.trans (hO6.below hz HFq.out))
      have HF6 := Lib.hid (show ∀ j, F6 j → w0.heap.size ≤ j from fun j hj => (hF6 j hj).elim (HFq.out j) (fun h => Nat.le_trans hz h))
      clear hH6 hO6 hF6 HJ hz
      go_wp2
      go_roundw
      case rel => exact ⟨k + 1, F6, by omega, by go_num, HH6, HF6, HB6⟩
      case measure => simp [Go.RowKit.intOf]; omega
    · obtain rfl : k = p.e.length := by omega
      go_wp2
      go_ret
      exact ⟨sb, F, rfl, HHq.out, HM.out.trans (HBq.out.mono HM.out.size), fun j hj => Nat.le_trans HM.out.size (HFq.out j hj)⟩

set_option maxRecDepth 100000 in
set_option maxHeartbeats 2000000 in
theorem joined_any (v u : Value) (g : Gph) (p : Prt) (w : World) (h : Gr w v g) (h' : Pt w u p) (hl : g.e.length ≤ 100000) (hp1 : p.v.length ≤ 100000) (hp2 : p.e.length ≤ 100000) :
    Calls Try.prog 10 #[v, u] w fun e w' => e = .returned (.bool (joinedB g p)) ∧ Below w.heap.size w w' := by
  have HG := Lib.hid h
  have HP := Lib.hid h'
  obtain ⟨ve, rfl, h1⟩ := h
  obtain ⟨vv, vp, rfl, h2, h3⟩ := h'
  obtain ⟨Ae, ce, rfl⟩ := h1.form
  obtain ⟨Av, cv, rfl⟩ := ints_form h2
  obtain ⟨Ap, cp, rfl⟩ := ints_form h3
  obtain ⟨b1, b2, hm⟩ := two_boxes w (.int .i64 g.n) (.slice Ae g.e.length ce) (.slice Av p.v.length cv) (.slice Ap p.e.length cp) 24 27
  have HB1 := Lib.hid b1
  have HB2 := Lib.hid b2
  have HM := Lib.hid hm
  have c0 := b1.c0
  have c1 := b1.c1
  have d0 := b2.c0
  have d1 := b2.c1
  have HR := Lib.hid (rightPart_any _ _ g p _ (HG.out.below HM.out) (HP.out.below HM.out) (by omega) (by omega) (by omega))
  clear b1 b2 hm h1 h2 h3
  by_cases hp : perr g p = 0
  · rw [hp] at HR
    have HPP := Lib.hid hp
    have HJ := Lib.hid (show joinedB g p = decide (heads (tog g p).gr ≤ 1) by unfold joinedB; rw [decide_eq_true hp, Bool.true_and])
    clear hp
    go_enter Try.func10, Try.ntmps10
    go_wp2_with fail
    generalize (w.alloc (.cells #[.int .i64 g.n, .slice Ae g.e.length ce] 24)).alloc (.cells #[.slice Av p.v.length cv, .slice Ap p.e.length cp] 27) = w0 at *
    refine HR.out.mono ?_
    rintro e w1 ⟨rfl, hb⟩
    have HB := Lib.hid (HM.out.trans (hb.mono HM.out.size))
    have c0' := (HB1.out.below hb).c0
    have c1' := (HB1.out.below hb).c1
    have d0' := (HB2.out.below hb).c0
    have d1' := (HB2.out.below hb).c1
    have HT := Lib.hid (together_any _ _ g p w1 (HG.out.below HB.out) (HP.out.below HB.out) HPP.out hp1 hp2)
    clear hb HR c0 c1 d0 d1
    go_wp2_with fail
    refine HT.out.mono ?_
    rintro e w2 ⟨sb, F, rfl, hH, hb, _⟩
    have HC := Lib.hid (count_any w2 F sb _ hH)
    have HB2' := Lib.hid (HB.out.trans (hb.mono HB.out.size))
    have hh : heads (tog g p).gr ≤ 100000 := by
      have := heads_le (tog g p).gr
      rw [hH.ok.len, show (tog g p).ts.length = p.v.length from tog_len HPP.out (Nat.le_refl _)] at this
      omega
    clear hH hb HT c0' c1' d0' d1'
    generalize heads (tog g p).gr = nh at *
    go_wp2_with fail
    refine HC.out.mono ?_
    rintro e w3 ⟨rfl, rfl⟩
    go_wp2
    go_ret
    exact ⟨ret_bool (by rw [HJ.out]; simp; omega), HB2'.out⟩
  · have h0 : (perr g p == 0) = false := beq_eq_false_iff_ne.2 hp
    have HJ := Lib.hid (show joinedB g p = false by unfold joinedB; rw [decide_eq_false hp, Bool.false_and])
    generalize perr g p = np at *
    clear hp
    go_enter Try.func10, Try.ntmps10
    go_wp2_with fail
    refine HR.out.mono ?_
    rintro e w1 ⟨rfl, hb⟩
    go_wp2
    go_ret
    exact ⟨ret_bool HJ.out.symm, HM.out.trans (hb.mono HM.out.size)⟩
end Go.Proofs.Ytjnohnbppkhbaaa
