/-
  PlanEuler: of a drawing, vertices less edges and regions are one and the pieces: the law's call answers true at every input.
-/
import Derived.Test.YtmedagangpjlkaaGreatM55
import Derived.Test.YtmedagangpjlkaaGreatM56
import Derived.Test.YtmedagangpjlkaaGreatM32
namespace Go.Proofs.YtmedagangpjlkaaGreat.Pl
open Go.Proofs.YtmedagangpjlkaaGreat Go.Proofs.YtmedagangpjlkaaGreat.Fc Go.Proofs.YtmedagangpjlkaaGreat.Rt Go.RowKit Go.Maps

set_option maxRecDepth 100000 in
set_option maxHeartbeats 16000000 in
theorem planEuler_any (v : Value) (g : Gph) (u : Value) (p : Prt) (x : Value) (q : List (List Int) × List (List Int)) (w : World) (h : Gr w v g) (h' : Pt w u p) (hx : PlanIn w x q.1 q.2) :
    Calls Tryz.prog 4 #[v, u, x] w fun e w' => e = .returned (.bool true) ∧ Below w.heap.size w w' := by
  obtain ⟨T, S⟩ := q
  have HG := Lib.hid h
  have HP := Lib.hid h'
  have HX := Lib.hid hx.pn
  have HWT := Lib.hid (show ∀ j, ∀ y ∈ getT T j, (Lit.int .i64 y).wf = true from hx.wT)
  have HWS := Lib.hid (show ∀ j, ∀ y ∈ getT S j, (Lit.int .i64 y).wf = true from hx.wS)
  obtain ⟨⟨vT, vS, rfl, h4, h5⟩, _, _⟩ := hx
  have h4 : LL w vT T := h4
  have h5 : LL w vS S := h5
  obtain ⟨ve, rfl, h1⟩ := h
  obtain ⟨vv, vp, rfl, h2, h3⟩ := h'
  obtain ⟨Ae, ce, rfl⟩ := h1.form
  obtain ⟨Av, cv, rfl⟩ := ints_form h2
  obtain ⟨Ap, cp, rfl⟩ := ints_form h3
  obtain ⟨AT, cT, rfl, _, _⟩ := h4.form
  obtain ⟨AS, cS, rfl, _, _⟩ := h5.form
  obtain ⟨b1, b2, b3, hm⟩ := three_boxes w (.int .i64 g.n) (.slice Ae g.e.length ce) (.slice Av p.v.length cv) (.slice Ap p.e.length cp) (.slice AT T.length cT) (.slice AS S.length cS) 24 27 30
  have HB1 := Lib.hid b1
  have HB2 := Lib.hid b2
  have HB3 := Lib.hid b3
  have HM := Lib.hid hm
  have HG1 := Lib.hid (HG.out.below hm)
  have HP1 := Lib.hid (HP.out.below hm)
  have HX1 := Lib.hid (show Pn _ (.agg #[.slice AT T.length cT, .slice AS S.length cS]) T S from HX.out.below hm)
  clear b1 b2 b3 hm h1 h2 h3 h4 h5 HG HP HX
  go_enter Tryz.func4, Tryz.ntmps4
  go_wp2_with fail
  generalize ((w.alloc (.cells #[.int .i64 g.n, .slice Ae g.e.length ce] 24)).alloc (.cells #[.slice Av p.v.length cv, .slice Ap p.e.length cp] 27)).alloc (.cells #[.slice AT T.length cT, .slice AS S.length cS] 30) = w1 at *
  have HCB := Lib.hid (fun (W : World) (hW : Below w1.heap.size w1 W) => (⟨(HB1.out.below hW).c0, (HB1.out.below hW).c1, (HB2.out.below hW).c0, (HB2.out.below hW).c1, (HB3.out.below hW).c0, (HB3.out.below hW).c1⟩ :
    W.cell? ⟨w.heap.size, 0, none⟩ = some (.int .i64 g.n) ∧ W.cell? ⟨w.heap.size, 1, none⟩ = some (.slice Ae g.e.length ce) ∧ W.cell? ⟨w.heap.size + 1, 0, none⟩ = some (.slice Av p.v.length cv) ∧ W.cell? ⟨w.heap.size + 1, 1, none⟩ = some (.slice Ap p.e.length cp) ∧ W.cell? ⟨w.heap.size + 2, 0, none⟩ = some (.slice AT T.length cT) ∧ W.cell? ⟨w.heap.size + 2, 1, none⟩ = some (.slice AS S.length cS)))
  clear HB1 HB2 HB3
  refine (pawake_any w1).mono ?_
  rintro e w2 ⟨rfl, hB2⟩
  obtain ⟨c0, c1, d0, d1, e0, e1⟩ := HCB.out w2 hB2
  have HBB2 := Lib.hid hB2
  clear hB2
  go_wp2_with fail
  refine (small8_any _ _ _ w2 (HG1.out.below HBB2.out) (HP1.out.below HBB2.out) (HX1.out.below HBB2.out)).mono ?_
  rintro e w3 ⟨rfl, hB3⟩
  have HB3 := Lib.hid (trans2 HBB2.out hB3)
  clear hB3 c0 c1 d0 d1 e0 e1 HBB2
  by_cases hs : small8 g p T S = true
  case neg =>
    have e : small8I g p T S = 0 := if_neg hs
    rw [e]
    clear e hs
    go_wp2_with fail
    refine (pawake_any w3).mono ?_
    rintro e w4 ⟨rfl, hB4⟩
    go_wp2
    go_ret
    exact ⟨rfl, trans2 HM.out (trans2 HB3.out hB4)⟩
  have e : small8I g p T S = 1 := if_pos hs
  obtain ⟨hf, hl, hp1, hp2, hlT, hrT, hlS, hrS⟩ := small8_facts hs HWT.out HWS.out
  have HF := Lib.hid hf
  have HRT := Lib.hid hrT
  have HRS := Lib.hid hrS
  obtain ⟨er, hE⟩ := perr_ex g p T S
  have HE := Lib.hid hE
  rw [e]
  obtain ⟨c0, c1, d0, d1, e0, e1⟩ := HCB.out w3 HB3.out
  clear e hs hf hE hrT hrS
  have HR := Lib.hid (regions_any _ _ _ w3 (HG1.out.below HB3.out) (HP1.out.below HB3.out) (HX1.out.below HB3.out) HF.out HE.out)
  go_wp2_with fail
  clear c0 c1 d0 d1 e0 e1
  refine HR.out.mono ?_
  clear HR
  rintro e w4 ⟨hB4, ⟨hne, rfl⟩ | ⟨h0, m, us, rfl, hMd⟩⟩
  · have HZ := Lib.hid (trans2 HM.out (trans2 HB3.out hB4))
    have t1 : (er != 0) = true := by simpa using hne
    clear hB4 hne HE
    go_wp2
    go_ret
    exact ⟨rfl, HZ.out⟩
  have HB4 := Lib.hid (trans2 HB3.out hB4)
  have HD := Lib.hid (HE.out.zero.1 h0)
  have HTU := Lib.hid (sphE_iff.1 HD.out.1).1
  obtain ⟨Am, cm, rfl⟩ := hMd.shape
  have HPI := Lib.hid (rpieces_any _ _ g p w4 (HG1.out.below HB4.out) (HP1.out.below HB4.out) HTU.out.right (by omega) (by omega))
  have hrl := regs_few (keysOf g p T) S
  have hkl : (keysOf g p T).length = (walksOf g p T).length := by unfold keysOf; rw [List.length_map]
  have hwl := walksOf_len g p T
  have hpl := (pcs_facts HTU.out.right).len
  have HK0 := Lib.hid (show (pcs g p).length = 0 → (regs (keysOf g p T) S).length = 0 from fun h => by
    have hF := pcs_facts HTU.out.right
    have hp : pcs g p = [] := List.eq_nil_of_length_eq_zero h
    have h1 := hF.vs
    have h2 := hF.es
    rw [hp] at h1 h2
    simp at h1 h2
    omega)
  have HK1 := Lib.hid (show 0 < (pcs g p).length → p.v.length + (regs (keysOf g p T) S).length = p.e.length + 1 + (pcs g p).length from fun h => euler_drawn HTU.out (sphE_iff.1 HD.out.1).2 HD.out.2.lists (HD.out.2.sum HTU.out h))
  obtain ⟨c0, c1, d0, d1, e0, e1⟩ := HCB.out w4 HB4.out
  clear hB4 HE HD hMd h0
  generalize (regs (keysOf g p T) S).length = nr at *
  go_wp2_with fail
  refine HPI.out.mono ?_
  clear HPI c0 c1 d0 d1 e0 e1
  rintro e w5 ⟨mp, usp, rfl, hTw, hB5⟩
  obtain ⟨A5, k5, rfl⟩ := hTw.shape
  have hlm : ((pcs g p).map cmpP).length = (pcs g p).length := List.length_map _
  rw [hlm]
  have HB5 := Lib.hid (trans2 HB4.out hB5)
  obtain ⟨c0, c1, d0, d1, e0, e1⟩ := HCB.out w5 HB5.out
  have HZ := Lib.hid (trans2 HM.out HB5.out)
  clear hTw hB5 hlm HTU
  generalize (pcs g p).length = np at *
  rcases Nat.eq_zero_or_pos np with h0 | h0
  · have hr0 := HK0.out h0
    subst h0 hr0
    go_wp2
    go_ret
    exact ⟨rfl, HZ.out⟩
  · have hr1 := HK1.out h0
    have t0 : ((np : Int) == 0) = false := by simp; omega
    have HR1 := Lib.hid hr1
    clear hr1 HK0 HK1 c0 c1 e0 e1
    generalize p.v.length = nv at *
    generalize p.e.length = ne at *
    go_wp2
    go_ret
    exact ⟨ret_bool (by have := HR1.out; simp; omega), HZ.out⟩
end Go.Proofs.YtmedagangpjlkaaGreat.Pl
