/-
  PmI, in one text.
-/
import Derived.Test.YtmbpmepoaonleaaGreatM61
import Derived.Test.YtmbpmepoaonleaaGreatM54
import Derived.Test.YtmbpmepoaonleaaGreatM37
/-! The document's Right. -/
namespace Go.Proofs.YtmbpmepoaonleaaGreat.Pl
open Go.Proofs.YtmbpmepoaonleaaGreat Go.Proofs.YtmbpmepoaonleaaGreat.Fc Go.Proofs.YtmbpmepoaonleaaGreat.Rt Go.RowKit Go.Maps

variable {g : Gph} {p : Prt} {T S : List (List Int)} {w w' : World}
set_option maxRecDepth 100000 in
set_option maxHeartbeats 16000000 in
theorem rright_any (v u x : Value) (w : World) (h : Gr w v g) (h' : Pt w u p) (hx : Pn w x T S) (hl : g.e.length ≤ 60) (hp1 : p.v.length ≤ 60) (hp2 : p.e.length ≤ 60) (hlT : T.length ≤ 100) (hr : ∀ j, (getT T j).length ≤ 200) (hlS : S.length ≤ 60) (hrS : ∀ j, (getT S j).length ≤ 60) {er : Int} (hE : PErr g p T S er) :
    Calls Tryz.prog 20 #[v, u, x] w fun e w' => e = .returned (.int .i64 er) ∧ Below w.heap.size w w' := by
  have HG := Lib.hid h
  have HP := Lib.hid h'
  have HX := Lib.hid hx
  have HE := Lib.hid hE
  obtain ⟨ve, rfl, h1⟩ := h
  obtain ⟨vv, vp, rfl, h2, h3⟩ := h'
  obtain ⟨vT, vS, rfl, h4, h5⟩ := hx
  obtain ⟨Ae, ce, rfl⟩ := h1.form
  obtain ⟨Av, cv, rfl⟩ := ints_form h2
  obtain ⟨Ap, cp, rfl⟩ := ints_form h3
  obtain ⟨AT, cT, rfl, _, _⟩ := h4.form
  obtain ⟨AS, cS, rfl, _, _⟩ := h5.form
  obtain ⟨b1, b2, b3, hm⟩ := three_boxes w (.int .i64 g.n) (.slice Ae g.e.length ce) (.slice Av p.v.length cv) (.slice Ap p.e.length cp) (.slice AT T.length cT) (.slice AS S.length cS) 24 27 30
  have HB1 := Lib.hid b1
  have HB2 := Lib.hid b2
  have HB3 := Lib.hid b3
  have HM := Lib.hid hm
  have HG1 := Lib.hid (HG.out.below hm)
  have HP1 := Lib.hid (HP.out.below hm)
  have HTL := Lib.hid (h4.below hm)
  have HSL := Lib.hid (h5.below hm)
  have HRT := Lib.hid (show ∀ j, (getT T j).length ≤ 1000000 from fun j => Nat.le_trans (hr j) (by decide))
  clear b1 b2 b3 hm h1 h2 h3 h4 h5 HG HP HX hE
  go_enter Tryz.func20, Tryz.ntmps20
  go_wp2_with fail
  generalize ((w.alloc (.cells #[.int .i64 g.n, .slice Ae g.e.length ce] 24)).alloc (.cells #[.slice Av p.v.length cv, .slice Ap p.e.length cp] 27)).alloc (.cells #[.slice AT T.length cT, .slice AS S.length cS] 30) = w1 at *
  have HCB := Lib.hid (fun (W : World) (hW : Below w1.heap.size w1 W) => (⟨(HB1.out.below hW).c0, (HB1.out.below hW).c1, (HB2.out.below hW).c0, (HB2.out.below hW).c1, (HB3.out.below hW).c0, (HB3.out.below hW).c1⟩ :
    W.cell? ⟨w.heap.size, 0, none⟩ = some (.int .i64 g.n) ∧ W.cell? ⟨w.heap.size, 1, none⟩ = some (.slice Ae g.e.length ce) ∧ W.cell? ⟨w.heap.size + 1, 0, none⟩ = some (.slice Av p.v.length cv) ∧ W.cell? ⟨w.heap.size + 1, 1, none⟩ = some (.slice Ap p.e.length cp) ∧ W.cell? ⟨w.heap.size + 2, 0, none⟩ = some (.slice AT T.length cT) ∧ W.cell? ⟨w.heap.size + 2, 1, none⟩ = some (.slice AS S.length cS)))
  refine (r6Right_any _ _ _ g p T w1 HG1.out HP1.out HTL.out (by omega) (by omega) (by omega) HRT.out).mono ?_
  rintro e w2 ⟨rfl, hB2⟩
  have HBB2 := Lib.hid hB2
  clear hB2
  by_cases ht : terr g p T = 0
  case neg =>
    have HER := Lib.hid (show er = terr g p T by
      have hs : sphE g p T = terr g p T := if_neg ht
      rcases HE.out with ⟨_, h2⟩ | ⟨h1, _⟩ | ⟨h1, _⟩
      · rw [h2, hs]
      · exact absurd (hs ▸ h1) ht
      · exact absurd (hs ▸ h1) ht)
    have t0 : (terr g p T != 0) = true := by simpa using ht
    have HZ := Lib.hid (trans2 HM.out HBB2.out)
    clear ht
    generalize terr g p T = te at *
    go_wp2
    go_ret
    exact ⟨by rw [HER.out]; rfl, HZ.out⟩
  have hTu := terr_iff.1 ht
  have HTU := Lib.hid hTu
  have hn : g.n ≤ 100000 := by have := hTu.len; omega
  have HSP := Lib.hid (rsphere_any _ _ _ g p T w2 (HG1.out.below HBB2.out) (HP1.out.below HBB2.out) (HTL.out.below HBB2.out) (by omega) hn (by omega) (by omega) HRT.out)
  rw [ht] at HSP ⊢
  obtain ⟨c0, c1, d0, d1, e0, e1⟩ := HCB.out w2 HBB2.out
  have HT0 := Lib.hid ht
  clear ht hTu
  go_wp2_with fail
  refine HSP.out.mono ?_
  clear HSP c0 c1 d0 d1 e0 e1
  rintro e w3 ⟨rfl, hB3⟩
  have HBB3 := Lib.hid (trans2 HBB2.out hB3)
  clear hB3
  cases hsb : sphB (genL g p T)
  · have HER := Lib.hid (show er = 6 by
      have hs : sphE g p T = 6 := by unfold sphE; rw [if_pos HT0.out, hsb]; rfl
      rcases HE.out with ⟨_, h2⟩ | ⟨h1, _⟩ | ⟨h1, _⟩
      · rw [h2, hs]
      · rw [hs] at h1; cases h1
      · rw [hs] at h1; cases h1)
    have HZ := Lib.hid (trans2 HM.out HBB3.out)
    clear hsb
    go_wp2
    go_ret
    exact ⟨by rw [HER.out]; rfl, HZ.out⟩
  have HS0 := Lib.hid (show sphE g p T = 0 from sphE_iff.2 ⟨HTU.out, hsb⟩)
  clear hsb
  have HWK := Lib.hid (rwalks_any _ _ _ g p T w3 (HG1.out.below HBB3.out) (HP1.out.below HBB3.out) (HTL.out.below HBB3.out) HTU.out (by omega) (by omega) (by omega) hn HRT.out)
  obtain ⟨c0, c1, d0, d1, e0, e1⟩ := HCB.out w3 HBB3.out
  go_wp2_with fail
  refine HWK.out.mono ?_
  clear HWK c0 c1 d0 d1 e0 e1
  rintro e w4 ⟨mw, usw, rfl, hTw, hB4⟩
  have hTr := hTw.reads
  obtain ⟨Am, cm, rfl⟩ := hTw.shape
  rw [List.length_map] at hTr ⊢
  have HTW := Lib.hid hTr
  have HBB4 := Lib.hid (trans2 HBB3.out hB4)
  clear hTw hTr hB4
  have HPI := Lib.hid (rpieces_any _ _ g p w4 (HG1.out.below HBB4.out) (HP1.out.below HBB4.out) HTU.out.right (by omega) (by omega))
  obtain ⟨c0, c1, d0, d1, e0, e1⟩ := HCB.out w4 HBB4.out
  go_wp2_with fail
  refine HPI.out.mono ?_
  clear HPI c0 c1 d0 d1 e0 e1
  rintro e w5 ⟨mp, usp, rfl, hTp, hB5⟩
  obtain ⟨A5, k5, rfl⟩ := hTp.shape
  have hPL := parts_list hTp.reads
  have hlm : ((pcs g p).map cmpP).length = (pcs g p).length := List.length_map _
  rw [hlm]
  have HPL := Lib.hid hPL
  have HBB5 := Lib.hid (trans2 HBB4.out hB5)
  have HTW5 := Lib.hid (HTW.out.below hB5)
  have hpn : (pcs g p).length ≤ 60 := Nat.le_trans (pcs_facts HTU.out.right).len hp1
  clear hTp hPL hB5 hlm HTW
  go_wp2
  go_loopw [10, 11] (fun o i wr => ∃ k : Nat, k ≤ (pcs g p).length ∧ i = .int .i64 k ∧ Hid (Row wr w5.heap.size o (countTo k)) ∧ Hid (Below w5.heap.size w5 wr)) (fun _ i _ => (pcs g p).length - (Go.RowKit.intOf i).toNat)
  case atStart => exact ⟨0, Nat.zero_le _, rfl, Lib.hid (Row.nil _ _), Lib.hid (Below.refl _ _)⟩
  case round =>
    obtain ⟨k, hk, rfl, hR, hB⟩ := hrel
    by_cases hlt : k < (pcs g p).length
    · have HLE := Lib.hid (show (countTo k).length ≤ 4000000 by rw [countTo_length]; omega)
      have HSZ := Lib.hid hB.out.size
      have HCS := Lib.hid (countTo_succ k)
      obtain ⟨Aq, cq, hso⟩ := ints_form hR.out.ints
      subst hso
      go_wp2_with (at_builtin; refine wpList_append1 rfl _ _ rfl rfl rfl hR.out HSZ.out HLE.out ?_)
      intro v7 w7 hR7 hB7
      rw [← HCS.out] at hR7
      have HR7 := Lib.hid hR7
      have HB7 := Lib.hid (hB.out.trans hB7)
      obtain ⟨A7, c7, hv7⟩ := ints_form hR7.ints
      subst hv7
      clear hR7 hB7 hR hB HLE HSZ
      go_wp2
      go_roundw
      case rel => exact ⟨k + 1, by omega, by go_num, HR7, HB7⟩
      case measure => simp [Go.RowKit.intOf]; omega
    · obtain rfl : k = (pcs g p).length := by omega
      obtain ⟨w6, hw6⟩ : ∃ z, z = wr := ⟨_, rfl⟩
      subst hw6
      obtain ⟨Ag, cg, rfl⟩ := ints_form hR.out.ints
      rw [countTo_length] at hR ⊢
      have HGL := Lib.hid (World.ownsRow.lt hR.out)
      have HG0 := Lib.hid hR.out
      have HB6 := Lib.hid hB.out
      have HW5 := Lib.hid hB.out.size
      have HPN := Lib.hid hpn
      have hn2 : (walksOf g p T).length ≤ 1000 := by have := walksOf_len g p T; omega
      have HWN := Lib.hid hn2
      have HPF := Lib.hid (pcs_facts HTU.out.right)
      have HKR := Lib.hid (fun x (hx : x ∈ keysOf g p T) => key_range HTU.out (by omega) hn hx)
      have HFN := Lib.hid (fun (x : Int) (W : World) (hW : Below w5.heap.size w5 W) => find_any _ (walksOf g p T) x W (HTW5.out.below hW) (by omega))
      have HOW := Lib.hid (fun (x : Int) (hx : x ∈ keysOf g p T) (A : Option Addr) (n c : Nat) (W : World) (hW : Below w5.heap.size w5 W) => owner_any _ x A5 k5 (pcs g p) A n c W (HG1.out.below (trans2 HBB5.out hW)) (HPL.out.below hW) (by omega) (by omega) (fun j hj => by have := (HPF.out.few j hj).1; omega) (HKR.out x hx).1 (HKR.out x hx).2 HPF.out.av (own_in HTU.out hx))
      have HBAD := Lib.hid (fun v (hv : v < S.length) hD => bad_list (v := v) HS0.out HE.out hv hD)
      have HALL := Lib.hid (fun gr hA hT hg => all_right (gr := gr) HS0.out HE.out hA hT hg)
      have HNOT := Lib.hid (fun gr i hT hi hg => not_all (gr := gr) (i := i) HS0.out HE.out hT hi hg)
      have HLS := Lib.hid hlS
      have HLR := Lib.hid hrS
      clear hR hB hn2 hpn HE HS0 HBB2 HBB3 HBB4 HTL HRT hlT hr hrS
      go_wp2
      go_loopw [12, 13] (fun mv i wr => ∃ (k : Nat) (gr : List Int), k ≤ S.length ∧ i = .int .i64 k ∧ Hid (Row wr w6.heap.size mv (metTo S k 0)) ∧ Hid (Row wr w5.heap.size (.slice Ag (pcs g p).length cg) gr) ∧ Hid (Told gr (upto (ownI g p) S k 0) (pcs g p).length) ∧ Hid (Below w5.heap.size w5 wr ∧ w6.heap.size ≤ wr.heap.size) ∧ Hid (∀ v, v < k → Doc1 (keysOf g p T) (ownI g p) S v)) (fun _ i _ => S.length - (Go.RowKit.intOf i).toNat)
      case atStart => exact ⟨0, countTo (pcs g p).length, Nat.zero_le _, rfl, Lib.hid (by rw [metTo_zero]; exact Row.nil _ _), HG0, Lib.hid (told_first _), Lib.hid ⟨HB6.out, Nat.le_refl _⟩, Lib.hid (fun v hv => absurd hv (Nat.not_lt_zero _))⟩
      case round =>
        obtain ⟨k, gr, hk, rfl, hR, hG, hT, hB, hD⟩ := hrel
        obtain ⟨wk, hwk⟩ : ∃ z, z = wr := ⟨_, rfl⟩
        subst hwk
        have HWK1 := Lib.hid (trans2 HBB5.out hB.out.1)
        obtain ⟨c0, c1, d0, d1, e0, e1⟩ := HCB.out wk HWK1.out
        clear c0 c1 d0 d1
        by_cases hlt : k < S.length
        · obtain ⟨b, off, rfl, hb, A1, c1, hck, hi⟩ := HSL.out.get hlt
          have hln := HLR.out k
          have HBK := Lib.hid (fun h => HBAD.out k hlt h)
          have HLT := Lib.hid hlt
          have HI := Lib.hid hi
          obtain ⟨nl, hnl⟩ : ∃ z, z = (getT S k).length := ⟨_, rfl⟩
          rw [← hnl] at hck HI hln
          have HNL := Lib.hid hnl
          replace hck := (HWK1.out.cell (p := ⟨b, off + k, none⟩) hb).trans hck
          by_cases h2 : nl < 2
          · have HER := Lib.hid (HBK.out (fun hD => by have := hD.two; have := HNL.out; omega))
            have HZ := Lib.hid (trans2 HM.out HWK1.out)
            have t1 : decide ((nl : Int) < 2) = true := decide_eq_true (by omega)
            clear hi hnl hb
            go_wp2_with fail
            go_quiet (fail)
            go_wp2
            go_ret
            exact ⟨by rw [HER.out]; rfl, below_drewN HZ.out _⟩
          have h2' : 2 ≤ nl := by omega
          obtain ⟨lb, lo, hA1, hlb, hl0⟩ := ints_at hi (show 0 < (getT S k).length by omega)
          subst hA1
          rw [Nat.add_zero] at hl0
          replace hl0 := (HWK1.out.cell (p := ⟨lb, lo, none⟩) hlb).trans hl0
          have t1 : decide ((nl : Int) < 2) = false := decide_eq_false (by omega)
          rcases Nat.eq_zero_or_pos k with h0 | h0
          case' inl =>
            have t2 : decide (0 < k) = false := decide_eq_false (by omega)
            have HHD := Lib.hid (show 0 < k → getI (getT S (k - 1)) 0 < getI (getT S k) 0 from fun h => by omega)
            clear hi hnl hb h0
            go_wp2_with fail
            go_quiet (fail)
          case' inr =>
            obtain ⟨m, hm⟩ : ∃ m, k = m + 1 := ⟨k - 1, by omega⟩
            obtain ⟨b2, off2, he, hb2, A2, c2, hck2, hi2⟩ := HSL.out.get (show m < S.length by omega)
            cases he
            replace hck2 := (HWK1.out.cell (p := ⟨b, off + m, none⟩) hb2).trans hck2
            obtain ⟨qb, qo, hA2, hqb, hq0⟩ := ints_at hi2 (show 0 < (getT S m).length by have := (hD.out m (by omega)).two; omega)
            subst hA2
            rw [Nat.add_zero] at hq0
            replace hq0 := (HWK1.out.cell (p := ⟨qb, qo, none⟩) hqb).trans hq0
            have t2 : decide (0 < k) = true := decide_eq_true (by omega)
            have t2' : decide (0 < (k : Int)) = true := decide_eq_true (by omega)
            have hkm : (k : Int) - 1 = (m : Int) := by omega
            have hl00 : 0 < nl := by omega
            have hl01 : (0 : Int) < (nl : Int) := by omega
            have hl02 : 0 < (getT S m).length := by have := (hD.out m (by omega)).two; omega
            have hl03 : (0 : Int) < ((getT S m).length : Int) := by omega
            have hm0 : m < S.length := by omega
            by_cases hle : getI (getT S k) 0 ≤ getI (getT S m) 0
            case pos =>
              have HER := Lib.hid (HBK.out (fun hD => by have := hD.head h0; rw [show k - 1 = m by omega] at this; omega))
              have HZ := Lib.hid (trans2 HM.out HWK1.out)
              have t3 : decide (getI (getT S k) 0 ≤ getI (getT S m) 0) = true := decide_eq_true hle
              generalize (getT S m).length = nm at *
              generalize getI (getT S m) 0 = ym at *
              generalize getI (getT S k) 0 = yk at *
              clear hi hi2 hnl hb hb2 hle h0 hm
              go_wp2_with fail
              go_quiet (fail)
              go_wp2
              go_ret
              exact ⟨by rw [HER.out]; rfl, below_drewN HZ.out _⟩
            have HHD := Lib.hid (show 0 < k → getI (getT S (k - 1)) 0 < getI (getT S k) 0 from fun h => by rw [show k - 1 = m by omega]; omega)
            have t3 : decide (getI (getT S k) 0 ≤ getI (getT S m) 0) = false := decide_eq_false hle
            generalize (getT S m).length = nm at *
            generalize getI (getT S m) 0 = ym at *
            generalize hyk : getI (getT S k) 0 = yk at *
            replace hyk := Lib.hid hyk
            clear hi hi2 hnl hb hb2 hle h0 hm
            go_wp2_with fail
            go_quiet (fail)
            replace HHD := Lib.hid (show 0 < k → getI (getT S (k - 1)) 0 < getI (getT S k) 0 by rw [hyk.out]; exact HHD.out)
            clear t2' hkm hl00 hl01 hl02 hl03 hm0 t3 hck2 hq0 hyk hqb
          all_goals
            have HWQ := Lib.hid (below_drewN' wk nq)
            clear t1 t2 e0 e1 hck hl0
            generalize wk.drewN nq = wq at *
            have HRq := Lib.hid (hR.out.below HWQ.out)
            have HGq := Lib.hid (Row.below hG.out HWQ.out)
            have HBq := Lib.hid (show Below w5.heap.size w5 wq ∧ w6.heap.size ≤ wq.heap.size from ⟨trans2 hB.out.1 HWQ.out, Nat.le_trans hB.out.2 HWQ.out.size⟩)
            have HTo := Lib.hid hT.out
            clear hR hG hB HWQ HWK1 hT
            go_wp2
            go_loopw [12, 15] (fun mv i wr => ∃ j : Nat, j ≤ nl ∧ i = .int .i64 j ∧ Hid (Row wr w6.heap.size mv (metTo S k j)) ∧ Hid (Row wr w5.heap.size (.slice Ag (pcs g p).length cg) gr) ∧ Hid (Below w5.heap.size w5 wr ∧ w6.heap.size ≤ wr.heap.size) ∧ Hid (∀ i, i < j → KeyOk (keysOf g p T) S k i)) (fun _ i _ => nl - (Go.RowKit.intOf i).toNat)
            case atStart => exact ⟨0, Nat.zero_le _, rfl, HRq, HGq, HBq, Lib.hid (fun v hv => absurd hv (Nat.not_lt_zero _))⟩
            case round =>
              obtain ⟨j, hj, rfl, hR, hG, hB, hK⟩ := hrel
              obtain ⟨wj, hwj⟩ : ∃ z, z = wr := ⟨_, rfl⟩
              subst hwj
              have HWJ1 := Lib.hid (trans2 HBB5.out hB.out.1)
              by_cases hjt : j < nl
              · have hjl : j < (getT S k).length := by have := HNL.out; omega
                obtain ⟨ub, uo, he, hub, huc⟩ := ints_at HI.out hjl
                cases he
                replace huc := (HWJ1.out.cell (p := ⟨lb, lo + j, none⟩) hub).trans huc
                obtain ⟨Aq, cq, hmv⟩ := ints_form hR.out.ints
                subst hmv
                have HSC := Lib.hid (metTo_succ hjl)
                have hml : (metTo S k j).length ≤ 4000 := by
                  have h1 := metTo_len (k := j) hk
                  have h2 : S.flatten.length ≤ S.length * 60 := by
                    have : ∀ L : List (List Int), (∀ l ∈ L, l.length ≤ 60) → L.flatten.length ≤ L.length * 60 := fun L => by
                      induction L with
                      | nil => intro _; simp
                      | cons l L ih =>
                        intro h
                        have h1 := h l (List.mem_cons_self ..)
                        have h2 := ih fun l hl => h l (List.mem_cons_of_mem _ hl)
                        rw [List.flatten_cons, List.length_append, List.length_cons, Nat.add_mul]
                        omega
                    exact this S fun l hl => few_getT HLR.out hl
                  omega
                have HLE := Lib.hid hml
                have HBKj := Lib.hid (fun (h : ¬ KeyOk (keysOf g p T) S k j) => HBK.out fun hD => h (hD.keys j hjl))
                have HZ := Lib.hid (trans2 HM.out HWJ1.out)
                have hj0 : (0 : Int) ≤ (j : Int) := by omega
                have hj1 : (j : Int) < (nl : Int) := by omega
                have hFD := fun (n : Nat) => HFN.out (getI (getT S k) j) (wj.drewN n) (below_drewN hB.out.1 n)
                have hIN := fun (n : Nat) => same_of (in_any _ (metTo S k j) (getI (getT S k) j) (wj.drewN n) (hR.out.ints.drewN n) (by omega))
                by_cases hks : getI (getT S k) j ∈ keysOf g p T
                case neg =>
                  have HER := Lib.hid (HBKj.out fun h => hks h.1)
                  have HFD := Lib.hid (fun (n : Nat) => (hFD n).mono (fun e w' h => show e = .returned (.int .i64 (-1)) ∧ w' = wj.drewN n from by
                    obtain ⟨⟨i, rfl, hi⟩, hw⟩ := h
                    exact ⟨by rw [key_no hks hi], hw.symm⟩))
                  have HIN := Lib.hid hIN
                  clear hFD hIN hks hub hml hjl
                  generalize getI (getT S k) j = y at *
                  generalize metTo S k j = MT at *
                  go_wp2_with fail
                  go_quiet ((first | (go_at_call 52; exact Calls.quiet_of_same (HFD.out _)) | (go_at_call 22; exact Calls.quiet_of_same (HIN.out _))))
                  go_wp2
                  go_ret
                  exact ⟨by rw [HER.out]; rfl, below_drewN HZ.out _⟩
                obtain ⟨q, hq, hqe, hqf⟩ := key_at HTU.out hks
                have HFD := Lib.hid (fun (n : Nat) => (hFD n).mono (fun e w' h => show e = .returned (.int .i64 (q : Int)) ∧ w' = wj.drewN n from by
                  obtain ⟨⟨i, rfl, hi⟩, hw⟩ := h
                  exact ⟨by rw [hqf i hi], hw.symm⟩))
                have hq2 : decide ((q : Int) < 0) = false := decide_eq_false (by omega)
                by_cases hmt : getI (getT S k) j ∈ metTo S k j
                case pos =>
                  have HER := Lib.hid (HBKj.out fun h => h.2.1 (metTo_seen.1 hmt))
                  rw [decide_eq_true hmt] at hIN
                  have HIN := Lib.hid hIN
                  clear hFD hIN hks hub hml hjl hq hqe hqf hmt
                  generalize getI (getT S k) j = y at *
                  generalize metTo S k j = MT at *
                  go_wp2_with fail
                  go_quiet ((first | (go_at_call 52; exact Calls.quiet_of_same (HFD.out _)) | (go_at_call 22; exact Calls.quiet_of_same (HIN.out _))))
                  go_wp2
                  go_ret
                  exact ⟨by rw [HER.out]; rfl, below_drewN HZ.out _⟩
                rw [decide_eq_false hmt] at hIN
                have HIN := Lib.hid hIN
                have hns : ¬ Seen S k j (getI (getT S k) j) := fun h => hmt (metTo_seen.2 h)
                clear hFD hIN hq hqe hqf hmt
                rcases Nat.eq_zero_or_pos j with h0 | h0
                case' inl =>
                  have t2 : decide (0 < j) = false := decide_eq_false (by omega)
                  have HKO := Lib.hid (show KeyOk (keysOf g p T) S k j from ⟨hks, hns, fun h => by omega⟩)
                  have HMT := Lib.hid (show (metTo S k j).length ≤ 4000000 by omega)
                  clear hks hns hjl h0 hml
                  generalize getI (getT S k) j = y at *
                  generalize metTo S k j = MT at *
                  go_wp2_with fail
                  go_quiet ((first | (go_at_call 52; exact Calls.quiet_of_same (HFD.out _)) | (go_at_call 22; exact Calls.quiet_of_same (HIN.out _))))
                case' inr =>
                  obtain ⟨m, hm⟩ : ∃ m, j = m + 1 := ⟨j - 1, by omega⟩
                  obtain ⟨ub2, uo2, he, hub2, huc2⟩ := ints_at HI.out (show m < (getT S k).length by omega)
                  cases he
                  replace huc2 := (HWJ1.out.cell (p := ⟨lb, lo + m, none⟩) hub2).trans huc2
                  have t2 : decide (0 < j) = true := decide_eq_true (by omega)
                  have t2' : decide (0 < (j : Int)) = true := decide_eq_true (by omega)
                  have hkm : (j : Int) - 1 = (m : Int) := by omega
                  have hm0 : (m : Int) < (nl : Int) := by omega
                  have hm1 : m < nl := by omega
                  by_cases hle : getI (getT S k) j ≤ getI (getT S k) m
                  case pos =>
                    have HER := Lib.hid (HBKj.out fun h => by have := h.2.2 h0; rw [show j - 1 = m by omega] at this; omega)
                    have t3 : decide (getI (getT S k) j ≤ getI (getT S k) m) = true := decide_eq_true hle
                    clear hks hns hjl h0 hle hm hml
                    generalize getI (getT S k) j = y at *
                    generalize getI (getT S k) m = ym at *
                    generalize metTo S k j = MT at *
                    go_wp2_with fail
                    go_quiet ((first | (go_at_call 52; exact Calls.quiet_of_same (HFD.out _)) | (go_at_call 22; exact Calls.quiet_of_same (HIN.out _))))
                    go_wp2
                    go_ret
                    exact ⟨by rw [HER.out]; rfl, below_drewN HZ.out _⟩
                  have t3 : decide (getI (getT S k) j ≤ getI (getT S k) m) = false := decide_eq_false hle
                  have HKO := Lib.hid (show KeyOk (keysOf g p T) S k j from ⟨hks, hns, fun h => by rw [show j - 1 = m by omega]; omega⟩)
                  have HMT := Lib.hid (show (metTo S k j).length ≤ 4000000 by omega)
                  clear hks hns hjl h0 hle hm hml
                  generalize getI (getT S k) j = y at *
                  generalize getI (getT S k) m = ym at *
                  generalize metTo S k j = MT at *
                  go_wp2_with fail
                  go_quiet ((first | (go_at_call 52; exact Calls.quiet_of_same (HFD.out _)) | (go_at_call 22; exact Calls.quiet_of_same (HIN.out _))))
                  clear t2' hkm hm0 hm1 t3 hub2 huc2
                all_goals
                  have HWQ := Lib.hid (below_drewN' wj nq)
                  replace huc := (HWQ.out.cell (p := ⟨lb, lo + j, none⟩) (Nat.lt_of_lt_of_le hub HWJ1.out.size)).trans huc
                  clear t2 hq2 HFD HIN
                  generalize wj.drewN nq = wq2 at *
                  have HRq := Lib.hid (hR.out.below HWQ.out)
                  have HGq := Lib.hid (Row.below hG.out HWQ.out)
                  have HBq := Lib.hid (show Below w5.heap.size w5 wq2 ∧ w6.heap.size ≤ wq2.heap.size from ⟨trans2 hB.out.1 HWQ.out, Nat.le_trans hB.out.2 HWQ.out.size⟩)
                  have HSQ := Lib.hid HBq.out.2
                  clear hR hG hB HWQ HWJ1
                  go_wp2_with (at_builtin; refine wpList_append1 rfl _ _ rfl rfl rfl HRq.out HSQ.out HMT.out ?_)
                  intro v7 w7 hR7 hB7
                  rw [← HSC.out] at hR7
                  have HR7 := Lib.hid hR7
                  have HG7 := Lib.hid (show Row w7 w5.heap.size _ gr from own_block HGq.out fun gg hgg => hB7.block gg (HGL.out gg hgg).2)
                  have HB7 := Lib.hid (show Below w5.heap.size w5 w7 ∧ w6.heap.size ≤ w7.heap.size from ⟨HBq.out.1.trans (hB7.mono HW5.out), Nat.le_trans HBq.out.2 hB7.size⟩)
                  have HK7 := Lib.hid (show ∀ i, i < j + 1 → KeyOk (keysOf g p T) S k i from fun i hi => by
                    rcases Nat.lt_or_eq_of_le (Nat.le_of_lt_succ hi) with h | rfl
                    · exact hK.out i h
                    · exact HKO.out)
                  obtain ⟨A7, c7, hv7⟩ := ints_form hR7.ints
                  subst hv7
                  clear hR7 hB7 HRq HGq HBq huc
                  go_wp2
                  go_roundw
                  case rel => exact ⟨j + 1, by omega, by go_num, HR7, HG7, HB7, HK7⟩
                  case measure => simp [Go.RowKit.intOf]; omega
              · obtain rfl : nl = j := by omega
                -- keys done
                have HMX := Lib.hid (show metTo S (k + 1) 0 = metTo S k nl by rw [metTo_next HLT.out, HNL.out])
                clear hj hjt
                go_wp2
                go_loopw [16] (fun i wr => ∃ (j : Nat) (gr' : List Int), 1 ≤ j ∧ j ≤ nl ∧ i = .int .i64 (j : Nat) ∧ Hid (Row wr w6.heap.size u12 (metTo S k nl)) ∧ Hid (Row wr w5.heap.size (.slice Ag (pcs g p).length cg) gr') ∧ Hid (Told gr' (upto (ownI g p) S k (j - 1)) (pcs g p).length) ∧ Hid (Below w5.heap.size w5 wr ∧ w6.heap.size ≤ wr.heap.size) ∧ Hid (∀ i, i + 1 < j → ¬ Conn (relE (upto (ownI g p) S k i)) (ownI g p (getI (getT S k) 0)) (ownI g p (getI (getT S k) (i + 1))))) (fun i _ => nl - (Go.RowKit.intOf i).toNat)
                case atStart => exact ⟨1, gr, Nat.le_refl _, by omega, rfl, hR, hG, HTo, hB, Lib.hid (fun v hv => absurd hv (by omega))⟩
                case round =>
                  clear hR hG hB HTo
                  obtain ⟨j, gr', hj1, hjn, rfl, hR, hG, hT, hB, hC⟩ := hrel
                  obtain ⟨wj, hwj⟩ : ∃ z, z = wr := ⟨_, rfl⟩
                  subst hwj
                  have HWJ1 := Lib.hid (trans2 HBB5.out hB.out.1)
                  by_cases hjt : j < nl
                  · obtain ⟨q, hjq⟩ : ∃ q, q + 1 = j := ⟨j - 1, by omega⟩
                    rw [show j - 1 = q by omega] at hT
                    have hql : q + 1 < (getT S k).length := by have := HNL.out; omega
                    have hy0 := (hK.out 0 (by omega)).1
                    have hy1 := (hK.out j hjt).1
                    obtain ⟨q0, hq0, hqe0, hqf0⟩ := key_at HTU.out hy0
                    obtain ⟨q1, hq1, hqe1, hqf1⟩ := key_at HTU.out hy1
                    obtain ⟨mb, hAm, hmb, hw0, W0, x0, hv0⟩ := fwalk_at (HTW5.out.below hB.out.1) hq0
                    subst hAm
                    obtain ⟨mb', hAm', _, hw1, W1, x1, hv1⟩ := fwalk_at (HTW5.out.below hB.out.1) hq1
                    cases hAm'
                    rw [hqe0] at hw0
                    rw [hqe1] at hw1
                    have hgl := hT.out.len
                    have ho0 := ownN_lt HTU.out hy0
                    have ho1 := ownN_lt HTU.out hy1
                    obtain ⟨gb, cg', hAg, hgb5, hgbw⟩ := row_form hG.out (by omega)
                    simp only [Value.slice.injEq] at hAg
                    obtain ⟨rfl, hnpg, rfl⟩ := hAg
                    clear hnpg
                    have hg0 := row_get hG.out hgl.symm (i := ownN g p (getI (getT S k) 0)) (by omega)
                    have hg1 := row_get hG.out hgl.symm (i := ownN g p (getI (getT S k) j)) (by omega)
                    have hTK := told_key hT.out hql (ownN_eq g p _) (ownN_eq g p _) ho0 (by rw [hjq]; exact ho1)
                    rw [hjq] at hTK hql
                    obtain ⟨ub, uo, he, hub0, huc0⟩ := ints_at HI.out (show 0 < (getT S k).length by omega)
                    cases he
                    obtain ⟨ub, uo, he, hub1, huc1⟩ := ints_at HI.out hql
                    cases he
                    rw [Nat.add_zero] at huc0
                    have HL0 := Lib.hid ((HWJ1.out.cell (p := ⟨lb, lo, none⟩) hub0).trans huc0)
                    have HL1 := Lib.hid ((HWJ1.out.cell (p := ⟨lb, lo + j, none⟩) hub1).trans huc1)
                    have HLB := Lib.hid (Nat.lt_of_lt_of_le hub0 HWJ1.out.size)
                    have HMB := Lib.hid hmb
                    have HGB := Lib.hid hgbw
                    have HGB5 := Lib.hid hgb5
                    have HGB6 := Lib.hid ((HGL.out gb rfl).2)
                    have HK0 := Lib.hid hw0
                    have HV0 := Lib.hid hv0
                    have HK1 := Lib.hid hw1
                    have HV1 := Lib.hid hv1
                    have HC0 := Lib.hid hg0
                    have HC1 := Lib.hid hg1
                    have HF0 := Lib.hid (fun (W : World) (hW : Below wj.heap.size wj W) => (HFN.out (getI (getT S k) 0) W (trans2 hB.out.1 hW)).mono (fun e w' h => show e = .returned (.int .i64 (q0 : Int)) ∧ W = w' from by
                      obtain ⟨⟨i, rfl, hi⟩, hw⟩ := h
                      exact ⟨by rw [hqf0 i hi], hw⟩))
                    have HF1 := Lib.hid (fun (W : World) (hW : Below wj.heap.size wj W) => (HFN.out (getI (getT S k) j) W (trans2 hB.out.1 hW)).mono (fun e w' h => show e = .returned (.int .i64 (q1 : Int)) ∧ W = w' from by
                      obtain ⟨⟨i, rfl, hi⟩, hw⟩ := h
                      exact ⟨by rw [hqf1 i hi], hw⟩))
                    have HO0 := Lib.hid (fun (A : Option Addr) (n c : Nat) (W : World) (hW : Below wj.heap.size wj W) => (HOW.out (getI (getT S k) 0) hy0 A n c W (trans2 hB.out.1 hW)).mono (fun e w' h => show e = .returned (.int .i64 (ownN g p (getI (getT S k) 0) : Int)) ∧ Below W.heap.size W w' from h))
                    have HO1 := Lib.hid (fun (A : Option Addr) (n c : Nat) (W : World) (hW : Below wj.heap.size wj W) => (HOW.out (getI (getT S k) j) hy1 A n c W (trans2 hB.out.1 hW)).mono (fun e w' h => show e = .returned (.int .i64 (ownN g p (getI (getT S k) j) : Int)) ∧ Below W.heap.size W w' from h))
                    have HTK := Lib.hid hTK
                    have HO2 := Lib.hid (show (0 : Int) ≤ (ownN g p (getI (getT S k) 0) : Int) ∧ (ownN g p (getI (getT S k) 0) : Int) < ((pcs g p).length : Int) ∧ ownN g p (getI (getT S k) 0) < (pcs g p).length ∧ ownN g p (getI (getT S k) 0) ≤ 1000 from ⟨by omega, by omega, ho0, by have := HPN.out; omega⟩)
                    have HO3 := Lib.hid (show (0 : Int) ≤ (ownN g p (getI (getT S k) j) : Int) ∧ (ownN g p (getI (getT S k) j) : Int) < ((pcs g p).length : Int) ∧ ownN g p (getI (getT S k) j) < (pcs g p).length ∧ ownN g p (getI (getT S k) j) ≤ 1000 from ⟨by omega, by omega, ho1, by have := HPN.out; omega⟩)
                    have HQ0 := Lib.hid (show (0 : Int) ≤ (q0 : Int) ∧ (q0 : Int) < ((walksOf g p T).length : Int) ∧ q0 < (walksOf g p T).length ∧ q0 ≤ 1000 from ⟨by omega, by omega, hq0, by have := HWN.out; omega⟩)
                    have HQ1 := Lib.hid (show (0 : Int) ≤ (q1 : Int) ∧ (q1 : Int) < ((walksOf g p T).length : Int) ∧ q1 < (walksOf g p T).length ∧ q1 ≤ 1000 from ⟨by omega, by omega, hq1, by have := HWN.out; omega⟩)
                    have HX := Lib.hid (HB1.out.below HWJ1.out)
                    have HJ := Lib.hid (show (0 : Int) ≤ (j : Int) ∧ (j : Int) < (nl : Int) ∧ j < nl ∧ 0 < nl ∧ j ≤ 100 from ⟨by omega, by omega, hjt, by omega, by omega⟩)
                    have HBK1 := Lib.hid (fun h => HBK.out fun hD => hD.forest q (by rw [hjq]; exact hql) h)
                    rw [hjq] at HBK1
                    have HGN := Lib.hid hgl
                    have hnp : (pcs g p).length ≤ 60 := HPN.out
                    generalize ((walksOf g p T)[q0]).2.length = n0 at *
                    generalize ((walksOf g p T)[q1]).2.length = n1 at *
                    clear hqf0 hqf1 hqe0 hqe1 hw0 hw1 hv0 hv1 hmb hgl ho0 ho1 hgb5 hgbw hg0 hg1 hTK hub0 hub1 huc0 huc1 hq0 hq1 hql hy0 hy1
                    generalize getI gr' (ownN g p (getI (getT S k) 0)) = ga at *
                    generalize getI gr' (ownN g p (getI (getT S k) j)) = gc at *
                    generalize ownN g p (getI (getT S k) 0) = o0 at *
                    generalize ownN g p (getI (getT S k) j) = o1 at *
                    generalize hgy0 : getI (getT S k) 0 = y0 at *
                    generalize hgy1 : getI (getT S k) j = y1 at *
                    replace hgy0 := Lib.hid hgy0
                    replace hgy1 := Lib.hid hgy1
                    generalize hgw : (walksOf g p T).length = nw at *
                    generalize hgp : (pcs g p).length = np at *
                    replace hgw := Lib.hid hgw
                    replace hgp := Lib.hid hgp
                    go_wp2_with fail
                    -- region 29
                    refine wp_region_plan [is (.slice (some ⟨gb, 0, none⟩) np cg), is (.agg #[.int .i64 g.n, .slice Ae g.e.length ce]), is (.slice A5 np k5), is (.slice (some ⟨mb, 0, none⟩) nw cm), is (.slice (some ⟨mb, 0, none⟩) nw cm), is (.slice (some ⟨lb, lo, none⟩) nl c1), is (.pointer (some ⟨lb, lo, none⟩)), is (.int .i64 y0), is (.int .i64 (q0 : Int)), is (.pointer (some ⟨mb, q0 * 2, none⟩)), is (.agg #[.int .i64 y0, .slice W0 n0 x0]), is (.int .i64 (o0 : Int)), is (.pointer (some ⟨gb, o0, none⟩)), is (.int .i64 ga), is (.int .i64 ga)] (by kernel_rfl) (by kernel_rfl) ?_ ?_
                    · skip
                      refine StepsP.cons ?_ ?_
                      · refine step_val (fun a wx hB O D => ?_)
                        have e10 : a.tmps[10]? = some (.slice (some ⟨gb, 0, none⟩) np cg) := O 10 (by rfl)
                        clear O D
                        exact ⟨rfl, by unfold execOp; simp only [ev e10]; rfl⟩
                      refine StepsP.cons ?_ ?_
                      · refine step_val (fun a wx hB O D => ?_)
                        have e3 : a.tmps[3]? = some (.pointer (some ⟨w.heap.size, 0, none⟩)) := O 3 (by rfl)
                        obtain ⟨c0, c1, _⟩ := HX.out.below hB
                        clear O D
                        exact ⟨rfl, by go_simp⟩
                      refine StepsP.cons ?_ ?_
                      · refine step_val (fun a wx hB O D => ?_)
                        have e9 : a.tmps[9]? = some (.slice A5 np k5) := O 9 (by rfl)
                        clear O D
                        exact ⟨rfl, by unfold execOp; simp only [ev e9]; rfl⟩
                      refine StepsP.cons ?_ ?_
                      · refine step_val (fun a wx hB O D => ?_)
                        have e8 : a.tmps[8]? = some (.slice (some ⟨mb, 0, none⟩) nw cm) := O 8 (by rfl)
                        clear O D
                        exact ⟨rfl, by unfold execOp; simp only [ev e8]; rfl⟩
                      refine StepsP.cons ?_ ?_
                      · refine step_val (fun a wx hB O D => ?_)
                        have e8 : a.tmps[8]? = some (.slice (some ⟨mb, 0, none⟩) nw cm) := O 8 (by rfl)
                        clear O D
                        exact ⟨rfl, by unfold execOp; simp only [ev e8]; rfl⟩
                      refine StepsP.cons ?_ ?_
                      · refine step_val (fun a wx hB O D => ?_)
                        have e14 : a.tmps[14]? = some (.slice (some ⟨lb, lo, none⟩) nl c1) := O 14 (by rfl)
                        clear O D
                        exact ⟨rfl, by unfold execOp; simp only [ev e14]; rfl⟩
                      refine StepsP.cons ?_ ?_
                      · refine step_val (fun a wx hB O D => ?_)
                        obtain ⟨_, e141, rfl⟩ := D 5 _ _ _ (by decide) rfl rfl rfl
                        obtain ⟨j0, j1, j2, j3, j4⟩ := HJ.out
                        clear O D
                        exact ⟨rfl, by go_simp⟩
                      refine StepsP.cons ?_ ?_
                      · refine step_val (fun a wx hB O D => ?_)
                        obtain ⟨_, e142, rfl⟩ := D 6 _ _ _ (by decide) rfl rfl rfl
                        have zc0 := (hB.cell (p := ⟨lb, lo, none⟩) HLB.out).trans HL0.out
                        clear O D
                        exact ⟨rfl, by go_simp⟩
                      refine StepsP.cons ?_ ?_
                      · refine step_call (enters_of Tryz.func52 (by kernel_rfl) rfl) rfl rfl (fun a wx hB O D => ?_)
                        obtain ⟨_, e140, rfl⟩ := D 4 _ _ _ (by decide) rfl rfl rfl
                        obtain ⟨_, e143, rfl⟩ := D 7 _ _ _ (by decide) rfl rfl rfl
                        refine ⟨rfl, #[.slice (some ⟨mb, 0, none⟩) nw cm, .int .i64 y0], by simp only [List.map_toArray, List.map_cons, List.map_nil, ev e140, ev e143] <;> rfl, ?_⟩
                        exact (HF0.out _ hB).mono fun _ _ ⟨he, hw⟩ => ⟨_, he, hw ▸ Below.refl _ _, rfl⟩
                      refine StepsP.cons ?_ ?_
                      · refine step_val (fun a wx hB O D => ?_)
                        obtain ⟨_, e139, rfl⟩ := D 3 _ _ _ (by decide) rfl rfl rfl
                        obtain ⟨_, e144, rfl⟩ := D 8 _ _ _ (by decide) rfl rfl rfl
                        obtain ⟨j0, j1, j2, j3⟩ := HQ0.out
                        clear O D
                        exact ⟨rfl, by go_simp⟩
                      refine StepsP.cons ?_ ?_
                      · refine step_val (fun a wx hB O D => ?_)
                        obtain ⟨_, e145, rfl⟩ := D 9 _ _ _ (by decide) rfl rfl rfl
                        have zc1 := (hB.cell (p := ⟨mb, q0 * 2, none⟩) HMB.out).trans HK0.out
                        have zc2 := (hB.cell (p := ⟨mb, q0 * 2 + 1, none⟩) HMB.out).trans HV0.out
                        clear O D
                        exact ⟨rfl, by go_simp⟩
                      refine StepsP.cons ?_ ?_
                      · refine step_call (enters_of Tryz.func53 (by kernel_rfl) rfl) rfl rfl (fun a wx hB O D => ?_)
                        obtain ⟨_, e137, rfl⟩ := D 1 _ _ _ (by decide) rfl rfl rfl
                        obtain ⟨_, e138, rfl⟩ := D 2 _ _ _ (by decide) rfl rfl rfl
                        obtain ⟨_, e146, rfl⟩ := D 10 _ _ _ (by decide) rfl rfl rfl
                        refine ⟨rfl, #[.agg #[.int .i64 g.n, .slice Ae g.e.length ce], .slice A5 np k5, .agg #[.int .i64 y0, .slice W0 n0 x0]], by simp only [List.map_toArray, List.map_cons, List.map_nil, ev e137, ev e138, ev e146] <;> rfl, ?_⟩
                        exact (HO0.out _ _ _ _ hB).mono fun _ _ ⟨he, hb⟩ => ⟨_, he, hb, rfl⟩
                      refine StepsP.cons ?_ ?_
                      · refine step_val (fun a wx hB O D => ?_)
                        obtain ⟨_, e136, rfl⟩ := D 0 _ _ _ (by decide) rfl rfl rfl
                        obtain ⟨_, e147, rfl⟩ := D 11 _ _ _ (by decide) rfl rfl rfl
                        obtain ⟨j0, j1, j2, j3⟩ := HO2.out
                        clear O D
                        exact ⟨rfl, by go_simp⟩
                      refine StepsP.cons ?_ ?_
                      · refine step_val (fun a wx hB O D => ?_)
                        obtain ⟨_, e148, rfl⟩ := D 12 _ _ _ (by decide) rfl rfl rfl
                        have zc0 := (hB.cell (p := ⟨gb, o0, none⟩) HGB.out).trans HC0.out
                        clear O D
                        exact ⟨rfl, by go_simp⟩
                      refine StepsP.cons ?_ ?_
                      · refine step_val (fun a wx hB O D => ?_)
                        obtain ⟨_, e149, rfl⟩ := D 13 _ _ _ (by decide) rfl rfl rfl
                        clear O D
                        exact ⟨rfl, by unfold execOp; simp only [ev e149]; rfl⟩
                      exact StepsP.nil
                    · intro wz hZ
                      refine EndP.is ?_
                      refine EndP.is ?_
                      refine EndP.is ?_
                      refine EndP.is ?_
                      refine EndP.is ?_
                      refine EndP.is ?_
                      refine EndP.is ?_
                      refine EndP.is ?_
                      refine EndP.is ?_
                      refine EndP.is ?_
                      refine EndP.is ?_
                      refine EndP.is ?_
                      refine EndP.is ?_
                      refine EndP.is ?_
                      refine EndP.is ?_
                      refine EndP.nil ?_
                    -- behind 29
                      have HZ8 := Lib.hid hZ
                      have HB8 := Lib.hid (show Below w5.heap.size w5 wz ∧ w6.heap.size ≤ wz.heap.size from ⟨trans2 hB.out.1 hZ, Nat.le_trans hB.out.2 hZ.size⟩)
                      have HR8 := Lib.hid (hR.out.below hZ)
                      have HG8 := Lib.hid (Row.below hG.out hZ)
                      have HX8 := Lib.hid (HX.out.below hZ)
                      obtain ⟨wy, hwy⟩ : ∃ z, z = wz := ⟨_, rfl⟩
                      subst hwy
                      clear hZ hR hG
                      refine wpList_nil ?_
                      simp only [Act.put, List.setIfInBounds_toArray, List.set_cons_zero, List.set_cons_succ]
                      go_wp2_with fail
                      -- region 30
                      refine wp_region_plan [is (.slice (some ⟨gb, 0, none⟩) np cg), is (.agg #[.int .i64 g.n, .slice Ae g.e.length ce]), is (.slice A5 np k5), is (.slice (some ⟨mb, 0, none⟩) nw cm), is (.slice (some ⟨mb, 0, none⟩) nw cm), is (.slice (some ⟨lb, lo, none⟩) nl c1), is (.int .i64 (j : Int)), is (.pointer (some ⟨lb, lo + j, none⟩)), is (.int .i64 y1), is (.int .i64 (q1 : Int)), is (.pointer (some ⟨mb, q1 * 2, none⟩)), is (.agg #[.int .i64 y1, .slice W1 n1 x1]), is (.int .i64 (o1 : Int)), is (.pointer (some ⟨gb, o1, none⟩)), is (.int .i64 gc), is (.int .i64 gc)] (by kernel_rfl) (by kernel_rfl) ?_ ?_
                      · skip
                        refine StepsP.cons ?_ ?_
                        · refine step_val (fun a wx hB O D => ?_)
                          have e10 : a.tmps[10]? = some (.slice (some ⟨gb, 0, none⟩) np cg) := O 10 (by rfl)
                          clear O D
                          exact ⟨rfl, by unfold execOp; simp only [ev e10]; rfl⟩
                        refine StepsP.cons ?_ ?_
                        · refine step_val (fun a wx hB O D => ?_)
                          have e3 : a.tmps[3]? = some (.pointer (some ⟨w.heap.size, 0, none⟩)) := O 3 (by rfl)
                          obtain ⟨c0, c1, _⟩ := HX8.out.below hB
                          clear O D
                          exact ⟨rfl, by go_simp⟩
                        refine StepsP.cons ?_ ?_
                        · refine step_val (fun a wx hB O D => ?_)
                          have e9 : a.tmps[9]? = some (.slice A5 np k5) := O 9 (by rfl)
                          clear O D
                          exact ⟨rfl, by unfold execOp; simp only [ev e9]; rfl⟩
                        refine StepsP.cons ?_ ?_
                        · refine step_val (fun a wx hB O D => ?_)
                          have e8 : a.tmps[8]? = some (.slice (some ⟨mb, 0, none⟩) nw cm) := O 8 (by rfl)
                          clear O D
                          exact ⟨rfl, by unfold execOp; simp only [ev e8]; rfl⟩
                        refine StepsP.cons ?_ ?_
                        · refine step_val (fun a wx hB O D => ?_)
                          have e8 : a.tmps[8]? = some (.slice (some ⟨mb, 0, none⟩) nw cm) := O 8 (by rfl)
                          clear O D
                          exact ⟨rfl, by unfold execOp; simp only [ev e8]; rfl⟩
                        refine StepsP.cons ?_ ?_
                        · refine step_val (fun a wx hB O D => ?_)
                          have e14 : a.tmps[14]? = some (.slice (some ⟨lb, lo, none⟩) nl c1) := O 14 (by rfl)
                          clear O D
                          exact ⟨rfl, by unfold execOp; simp only [ev e14]; rfl⟩
                        refine StepsP.cons ?_ ?_
                        · refine step_val (fun a wx hB O D => ?_)
                          have e16 : a.tmps[16]? = some (.int .i64 (j : Int)) := O 16 (by rfl)
                          clear O D
                          exact ⟨rfl, by unfold execOp; simp only [ev e16]; rfl⟩
                        refine StepsP.cons ?_ ?_
                        · refine step_val (fun a wx hB O D => ?_)
                          obtain ⟨_, e155, rfl⟩ := D 5 _ _ _ (by decide) rfl rfl rfl
                          obtain ⟨_, e156, rfl⟩ := D 6 _ _ _ (by decide) rfl rfl rfl
                          obtain ⟨j0, j1, j2, j3, j4⟩ := HJ.out
                          clear O D
                          exact ⟨rfl, by go_simp⟩
                        refine StepsP.cons ?_ ?_
                        · refine step_val (fun a wx hB O D => ?_)
                          obtain ⟨_, e157, rfl⟩ := D 7 _ _ _ (by decide) rfl rfl rfl
                          have zc0 := ((trans2 HZ8.out hB).cell (p := ⟨lb, lo + j, none⟩) HLB.out).trans HL1.out
                          clear O D
                          exact ⟨rfl, by go_simp⟩
                        refine StepsP.cons ?_ ?_
                        · refine step_call (enters_of Tryz.func52 (by kernel_rfl) rfl) rfl rfl (fun a wx hB O D => ?_)
                          obtain ⟨_, e154, rfl⟩ := D 4 _ _ _ (by decide) rfl rfl rfl
                          obtain ⟨_, e158, rfl⟩ := D 8 _ _ _ (by decide) rfl rfl rfl
                          refine ⟨rfl, #[.slice (some ⟨mb, 0, none⟩) nw cm, .int .i64 y1], by simp only [List.map_toArray, List.map_cons, List.map_nil, ev e154, ev e158] <;> rfl, ?_⟩
                          exact (HF1.out _ (trans2 HZ8.out hB)).mono fun _ _ ⟨he, hw⟩ => ⟨_, he, hw ▸ Below.refl _ _, rfl⟩
                        refine StepsP.cons ?_ ?_
                        · refine step_val (fun a wx hB O D => ?_)
                          obtain ⟨_, e153, rfl⟩ := D 3 _ _ _ (by decide) rfl rfl rfl
                          obtain ⟨_, e159, rfl⟩ := D 9 _ _ _ (by decide) rfl rfl rfl
                          obtain ⟨j0, j1, j2, j3⟩ := HQ1.out
                          clear O D
                          exact ⟨rfl, by go_simp⟩
                        refine StepsP.cons ?_ ?_
                        · refine step_val (fun a wx hB O D => ?_)
                          obtain ⟨_, e160, rfl⟩ := D 10 _ _ _ (by decide) rfl rfl rfl
                          have zc1 := ((trans2 HZ8.out hB).cell (p := ⟨mb, q1 * 2, none⟩) HMB.out).trans HK1.out
                          have zc2 := ((trans2 HZ8.out hB).cell (p := ⟨mb, q1 * 2 + 1, none⟩) HMB.out).trans HV1.out
                          clear O D
                          exact ⟨rfl, by go_simp⟩
                        refine StepsP.cons ?_ ?_
                        · refine step_call (enters_of Tryz.func53 (by kernel_rfl) rfl) rfl rfl (fun a wx hB O D => ?_)
                          obtain ⟨_, e151, rfl⟩ := D 1 _ _ _ (by decide) rfl rfl rfl
                          obtain ⟨_, e152, rfl⟩ := D 2 _ _ _ (by decide) rfl rfl rfl
                          obtain ⟨_, e161, rfl⟩ := D 11 _ _ _ (by decide) rfl rfl rfl
                          refine ⟨rfl, #[.agg #[.int .i64 g.n, .slice Ae g.e.length ce], .slice A5 np k5, .agg #[.int .i64 y1, .slice W1 n1 x1]], by simp only [List.map_toArray, List.map_cons, List.map_nil, ev e151, ev e152, ev e161] <;> rfl, ?_⟩
                          exact (HO1.out _ _ _ _ (trans2 HZ8.out hB)).mono fun _ _ ⟨he, hb⟩ => ⟨_, he, hb, rfl⟩
                        refine StepsP.cons ?_ ?_
                        · refine step_val (fun a wx hB O D => ?_)
                          obtain ⟨_, e150, rfl⟩ := D 0 _ _ _ (by decide) rfl rfl rfl
                          obtain ⟨_, e162, rfl⟩ := D 12 _ _ _ (by decide) rfl rfl rfl
                          obtain ⟨j0, j1, j2, j3⟩ := HO3.out
                          clear O D
                          exact ⟨rfl, by go_simp⟩
                        refine StepsP.cons ?_ ?_
                        · refine step_val (fun a wx hB O D => ?_)
                          obtain ⟨_, e163, rfl⟩ := D 13 _ _ _ (by decide) rfl rfl rfl
                          have zc0 := ((trans2 HZ8.out hB).cell (p := ⟨gb, o1, none⟩) HGB.out).trans HC1.out
                          clear O D
                          exact ⟨rfl, by go_simp⟩
                        refine StepsP.cons ?_ ?_
                        · refine step_val (fun a wx hB O D => ?_)
                          obtain ⟨_, e164, rfl⟩ := D 14 _ _ _ (by decide) rfl rfl rfl
                          clear O D
                          exact ⟨rfl, by unfold execOp; simp only [ev e164]; rfl⟩
                        exact StepsP.nil
                      · intro wz hZ
                        refine EndP.is ?_
                        refine EndP.is ?_
                        refine EndP.is ?_
                        refine EndP.is ?_
                        refine EndP.is ?_
                        refine EndP.is ?_
                        refine EndP.is ?_
                        refine EndP.is ?_
                        refine EndP.is ?_
                        refine EndP.is ?_
                        refine EndP.is ?_
                        refine EndP.is ?_
                        refine EndP.is ?_
                        refine EndP.is ?_
                        refine EndP.is ?_
                        refine EndP.is ?_
                        refine EndP.nil ?_
                      -- behind 30
                        have HZ9 := Lib.hid (trans2 HM.out (trans2 HBB5.out (trans2 HB8.out.1 hZ)))
                        have HB9 := Lib.hid (show Below w5.heap.size w5 wz ∧ w6.heap.size ≤ wz.heap.size from ⟨trans2 HB8.out.1 hZ, Nat.le_trans HB8.out.2 hZ.size⟩)
                        have HR9 := Lib.hid (HR8.out.below hZ)
                        have HG9 := Lib.hid (Row.below HG8.out hZ)
                        obtain ⟨wv, hwv⟩ : ∃ z, z = wz := ⟨_, rfl⟩
                        subst hwv
                        clear hZ HR8 HG8 HX8 HB8 HZ8 HF0 HF1 HO0 HO1 HC0 HC1 HK0 HK1 HV0 HV1 HQ0 HQ1 HL0 HL1 HX hB hT HWJ1
                        refine wpList_nil ?_
                        simp only [Act.put, List.setIfInBounds_toArray, List.set_cons_zero, List.set_cons_succ]
                        by_cases hac : ga = gc
                        · have HER := Lib.hid (HBK1.out (HTK.out.1.1 hac))
                          have t1 : (ga == gc) = true := beq_iff_eq.2 hac
                          clear hac
                          go_wp2
                          go_ret
                          exact ⟨by rw [HER.out]; rfl, HZ9.out⟩
                        have HNC := Lib.hid (fun h => hac (HTK.out.1.2 h))
                        have t1 : (ga == gc) = false := beq_eq_false_iff_ne.2 hac
                        clear hac
                        go_wp2
                        clear t1
                        go_loopw [19] (fun i wr => ∃ z : Nat, z ≤ np ∧ i = .int .i64 z ∧ Hid (Row wr w6.heap.size u12 (metTo S k nl)) ∧ Hid (Row wr w5.heap.size (.slice (some ⟨gb, 0, none⟩) np cg) (ovTo gr' ga gc z)) ∧ Hid (Below w5.heap.size w5 wr ∧ w6.heap.size ≤ wr.heap.size)) (fun i _ => np - (Go.RowKit.intOf i).toNat)
                        case atStart => exact ⟨0, Nat.zero_le _, rfl, HR9, Lib.hid (by rw [ovTo_zero]; exact HG9.out), HB9⟩
                        case round =>
                          obtain ⟨z, hz, rfl, hR, hG, hB⟩ := hrel
                          by_cases hzt : z < np
                          · have hzl : z < gr'.length := by rw [HGN.out]; exact hzt
                            have hol : np = (ovTo gr' ga gc z).length := by rw [ovTo_len (Nat.le_of_lt hzl), HGN.out]
                            have hgz := row_get hG.out hol (i := z) (by rw [← hol]; exact hzt)
                            rw [ovTo_get hzl] at hgz
                            have hfz := row_thaw hG.out hol z
                            have hgz0 : (0 : Int) ≤ (z : Int) := by omega
                            have hgz1 : (z : Int) < (np : Int) := by omega
                            by_cases e : getI gr' z = gc
                            · have HGz := Lib.hid (show Row (wr.setCell ⟨gb, z, none⟩ (.int .i64 ga)) w5.heap.size (.slice (some ⟨gb, 0, none⟩) np cg) (ovTo gr' ga gc (z + 1)) by
                                rw [ovTo_yes hzl e]
                                exact row_put hG.out hol z ga)
                              have HRz := Lib.hid (show Row (wr.setCell ⟨gb, z, none⟩ (.int .i64 ga)) w6.heap.size u12 (metTo S k nl) from own_block hR.out fun gg hgg => Below.heap_setCell _ _ _ _ (by have h1 := (World.ownsRow.lt hR.out gg hgg).1; have h2 := HGB6.out; show gg ≠ gb; omega))
                              have HBz := Lib.hid (show Below w5.heap.size w5 (wr.setCell ⟨gb, z, none⟩ (.int .i64 ga)) ∧ w6.heap.size ≤ (wr.setCell ⟨gb, z, none⟩ (.int .i64 ga)).heap.size from ⟨hB.out.1.setCell (p := ⟨gb, z, none⟩) HGB5.out _, by have := hB.out.2; simpa [World.setCell] using this⟩)
                              have t2 : (getI gr' z == gc) = true := beq_iff_eq.2 e
                              clear hol hzl e
                              generalize getI gr' z = gz at *
                              clear hR hG hB
                              go_wp2
                              go_roundw
                              case rel => exact ⟨z + 1, by omega, by go_num, HRz, HGz, HBz⟩
                              case measure => simp [Go.RowKit.intOf]; omega
                            · have HGz := Lib.hid (show Row wr w5.heap.size (.slice (some ⟨gb, 0, none⟩) np cg) (ovTo gr' ga gc (z + 1)) by
                                rw [ovTo_no hzl e]
                                exact hG.out)
                              have t2 : (getI gr' z == gc) = false := beq_eq_false_iff_ne.2 e
                              clear hol hzl e
                              generalize getI gr' z = gz at *
                              clear hG
                              go_wp2
                              go_roundw
                              case rel => exact ⟨z + 1, by omega, by go_num, hR, HGz, hB⟩
                              case measure => simp [Go.RowKit.intOf]; omega
                          · obtain rfl : np = z := by omega
                            have HGo := Lib.hid (show Row wr w5.heap.size (.slice (some ⟨gb, 0, none⟩) np cg) (over gr' ga gc) by
                              have h := ovTo_all gr' ga gc
                              rw [HGN.out] at h
                              rw [← h]
                              exact hG.out)
                            have HTo := Lib.hid (show Told (over gr' ga gc) (upto (ownI g p) S k (j + 1 - 1)) np by rw [Nat.add_sub_cancel]; exact HTK.out.2)
                            have HCo := Lib.hid (show ∀ i, i + 1 < j + 1 → ¬ Conn (relE (upto (ownI g p) S k i)) (ownI g p y0) (ownI g p (getI (getT S k) (i + 1))) from fun i hi => by
                              rcases Nat.lt_or_eq_of_le (Nat.le_of_lt_succ hi) with h | h
                              · exact hC.out i h
                              · rw [h, hgy1.out, show i = q by omega]
                                exact HNC.out)
                            have hj5 := HJ.out
                            clear hG hz hzt
                            go_wp2
                            go_roundw
                            case rel => exact ⟨j + 1, over gr' ga gc, by omega, by omega, by go_num, hR, HGo, HTo, hB, HCo⟩
                            case measure => simp [Go.RowKit.intOf]; omega
                  · obtain rfl : nl = j := by omega
                    have HTn := Lib.hid (show Told gr' (upto (ownI g p) S (k + 1) 0) (pcs g p).length from told_list (by rw [← HNL.out]; exact hT.out) HLT.out)
                    have HDn := Lib.hid (show ∀ v, v < k + 1 → Doc1 (keysOf g p T) (ownI g p) S v from fun v hv => by
                      rcases Nat.lt_or_eq_of_le (Nat.le_of_lt_succ hv) with h | rfl
                      · exact hD.out v h
                      · exact ⟨by rw [← HNL.out]; exact h2', HHD.out, fun i hi => hK.out i (by rw [HNL.out]; exact hi), fun i hi => hC.out i (by rw [HNL.out]; exact hi)⟩)
                    have HRn := Lib.hid (show Row wj w6.heap.size u12 (metTo S (k + 1) 0) by rw [HMX.out]; exact hR.out)
                    have hlt5 := HLT.out
                    clear hR hT hjt hjn
                    go_wp2
                    go_roundw
                    case rel => exact ⟨k + 1, gr', by omega, by go_num, HRn, hG, HTn, hB, HDn⟩
                    case measure => simp [Go.RowKit.intOf]; omega
        · obtain rfl : k = S.length := by omega
          have HGk := Lib.hid hG.out
          have HTk := Lib.hid hT.out
          have HZk := Lib.hid (trans2 HM.out HWK1.out)
          have HDk := Lib.hid hD.out
          clear hR hG hT hB hD hlt hk e0
          go_wp2
          clear e1
          go_loopw [20] (fun i wr => ∃ z : Nat, z ≤ (pcs g p).length ∧ i = .int .i64 z ∧ Hid (Below wk.heap.size wk wr) ∧ Hid (∀ i, i < z → getI gr i = getI gr 0)) (fun i _ => (pcs g p).length - (Go.RowKit.intOf i).toNat)
          case atStart => exact ⟨0, Nat.zero_le _, rfl, Lib.hid (Below.refl _ _), Lib.hid (fun v hv => absurd hv (Nat.not_lt_zero _))⟩
          case round =>
            obtain ⟨z, hz, rfl, hB, hA⟩ := hrel
            have hgl := HTk.out.len
            have hpn := HPN.out
            by_cases hzt : z < (pcs g p).length
            · have hGz := Row.below HGk.out hB.out
              obtain ⟨gb, cg', hAg, _, _⟩ := row_form HGk.out (by omega)
              simp only [Value.slice.injEq] at hAg
              obtain ⟨rfl, hnpg, rfl⟩ := hAg
              clear hnpg
              have hg0 := row_get hGz hgl.symm (i := 0) (by omega)
              have hgz := row_get hGz hgl.symm (i := z) (by omega)
              have hgz0 : (0 : Int) ≤ (z : Int) := by omega
              have hgz1 : (z : Int) < ((pcs g p).length : Int) := by omega
              have hgz2 : (0 : Int) < ((pcs g p).length : Int) := by omega
              have hgz3 : 0 < (pcs g p).length := by omega
              by_cases e : getI gr z = getI gr 0
              · have HAz := Lib.hid (show ∀ i, i < z + 1 → getI gr i = getI gr 0 from fun i hi => by
                  rcases Nat.lt_or_eq_of_le (Nat.le_of_lt_succ hi) with h | rfl
                  · exact hA.out i h
                  · exact e)
                rw [e] at hgz
                have t1 : (getI gr 0 != getI gr 0) = false := by simp
                have HBz := Lib.hid (fun n => below_drewN hB.out n)
                clear hGz e hgl
                generalize getI gr 0 = y0 at *
                go_wp2_with fail
                go_quiet (fail)
                go_wp2
                go_roundw
                case rel => exact ⟨z + 1, by omega, by go_num, Lib.hid (HBz.out _), HAz⟩
                case measure => simp [Go.RowKit.intOf]; omega
              · have HER := Lib.hid (HNOT.out gr z HTk.out hzt e)
                have HBz := Lib.hid (fun n => below_drewN (trans2 HZk.out hB.out) n)
                have t1 : (getI gr z != getI gr 0) = true := by simpa using e
                clear hGz e hgl
                generalize getI gr 0 = y0 at *
                generalize getI gr z = yz at *
                go_wp2_with fail
                go_quiet (fail)
                go_wp2
                go_ret
                exact ⟨by rw [HER.out]; rfl, HBz.out _⟩
            · obtain rfl : z = (pcs g p).length := by omega
              have HER := Lib.hid (HALL.out gr HDk.out HTk.out hA.out)
              have HBz := Lib.hid (trans2 HZk.out hB.out)
              go_wp2
              go_ret
              exact ⟨by rw [HER.out]; rfl, HBz.out⟩
end Go.Proofs.YtmbpmepoaonleaaGreat.Pl
