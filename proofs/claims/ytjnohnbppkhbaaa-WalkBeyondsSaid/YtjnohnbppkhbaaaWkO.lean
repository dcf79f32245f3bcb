/-
  The program's Pieces.
-/
import Derived.Test.YtjnohnbppkhbaaaWkL
namespace Go.Proofs.Ytjnohnbppkhbaaa
open Go.RowKit Go.Maps

variable {g : Gph} {p : Prt}

theorem Try.infoPart : (Try.prog.info? 27).map (fun i => (i.zero, i.size, i.bytes)) = some (some (.agg #[.slice none 0 0, .slice none 0 0]), 2, 48) := by kernel_rfl

/-- What Pieces answers of a right part. -/
def PiecesOf (g : Gph) (p : Prt) (w : World) (e : Ending) (w' : World) : Prop :=
  ∃ A cap, e = .returned (.tuple #[.slice A (pcs g p).length cap, .int .i64 0]) ∧ Below w.heap.size w w' ∧
    ∀ j (hj : j < (pcs g p).length), ∃ gb uv ue, A = some ⟨gb, 0, none⟩ ∧ gb < w'.heap.size ∧ w'.cell? ⟨gb, j * 2, none⟩ = some uv ∧ w'.cell? ⟨gb, j * 2 + 1, none⟩ = some ue ∧ Ints w' uv ((pcs g p)[j]).v ∧ Ints w' ue ((pcs g p)[j]).e

set_option maxRecDepth 100000 in
set_option maxHeartbeats 4000000 in
theorem pieces_no (v u : Value) (g : Gph) (p : Prt) (w : World) (h : Gr w v g) (h' : Pt w u p) (hl : g.e.length ≤ 100000) (hp1 : p.v.length ≤ 100000) (hp2 : p.e.length ≤ 100000) (hn : perr g p ≠ 0) :
    Calls Try.prog 9 #[v, u] w fun e w' => e = .returned (.tuple #[.slice none 0 0, .int .i64 (perr g p)]) ∧ Below w.heap.size w w' := by
  have HG := Lib.hid h
  have HP := Lib.hid h'
  obtain ⟨ve, rfl, h1⟩ := h
  obtain ⟨vv, vp, rfl, h2, h3⟩ := h'
  obtain ⟨Ae, ce, rfl⟩ := h1.form
  obtain ⟨Av, cv, rfl⟩ := ints_form h2
  obtain ⟨Ap, cp, rfl⟩ := ints_form h3
  obtain ⟨b1, b2, hm⟩ := two_boxes w (.int .i64 g.n) (.slice Ae g.e.length ce) (.slice Av p.v.length cv) (.slice Ap p.e.length cp) 24 27
  have HM := Lib.hid hm
  have c0 := b1.c0
  have c1 := b1.c1
  have d0 := b2.c0
  have d1 := b2.c1
  have HR := Lib.hid (rightPart_any _ _ g p _ (HG.out.below HM.out) (HP.out.below HM.out) (by omega) (by omega) (by omega))
  clear b1 b2 hm h1 h2 h3
  generalize perr g p = np at *
  have h0 : (np != 0) = true := bne_iff_ne.2 hn
  go_enter Try.func9, Try.ntmps9
  go_wp2_with fail
  refine HR.out.mono ?_
  rintro e w1 ⟨rfl, hb⟩
  go_wp2
  go_ret2
  exact ⟨rfl, HM.out.trans (hb.mono HM.out.size)⟩

set_option maxRecDepth 100000 in
set_option maxHeartbeats 8000000 in
theorem pieces_yes (v u : Value) (g : Gph) (p : Prt) (w : World) (h : Gr w v g) (h' : Pt w u p) (hl : g.e.length ≤ 100000) (hp1 : p.v.length ≤ 100000) (hp2 : p.e.length ≤ 100000) (hpp : perr g p = 0) :
    Calls Try.prog 9 #[v, u] w (PiecesOf g p w) := by
  have hmm := @run_makeMap Try.prog
  have HPP := Lib.hid hpp
  have HG := Lib.hid h
  have HP := Lib.hid h'
  obtain ⟨ve, rfl, h1⟩ := h
  obtain ⟨vv, vp, rfl, h2, h3⟩ := h'
  obtain ⟨Ae, ce, rfl⟩ := h1.form
  obtain ⟨Av, cv, rfl⟩ := ints_form h2
  obtain ⟨Ap, cp, rfl⟩ := ints_form h3
  obtain ⟨b1, b2, hm⟩ := two_boxes w (.int .i64 g.n) (.slice Ae g.e.length ce) (.slice Av p.v.length cv) (.slice Ap p.e.length cp) 24 27
  have HB1 := Lib.hid b1
  have HB2 := Lib.hid b2
  have HM := Lib.hid hm
  have HE1 := Lib.hid h1
  have HE3 := Lib.hid h3
  have c0 := b1.c0
  have c1 := b1.c1
  have d0 := b2.c0
  have d1 := b2.c1
  have HR := Lib.hid (rightPart_any _ _ g p _ (HG.out.below HM.out) (HP.out.below HM.out) (by omega) (by omega) (by omega))
  rw [hpp] at HR
  obtain ⟨i0, hi, hz0, hz1, hz2⟩ := info_parts Try.infoInt
  obtain ⟨j0, hj, hy0, hy1, hy2⟩ := info_parts Try.infoPart
  clear b1 b2 hm h1 h2 h3 hpp
  go_enter Try.func9, Try.ntmps9
  go_wp2_with fail
  generalize (w.alloc (.cells #[.int .i64 g.n, .slice Ae g.e.length ce] 24)).alloc (.cells #[.slice Av p.v.length cv, .slice Ap p.e.length cp] 27) = w0 at *
  refine HR.out.mono ?_
  rintro e w1 ⟨rfl, hb⟩
  have hba := below_alloc (w := w1) (.map #[] 0)
  have hb1 := hb.trans (hba.mono hb.size)
  have HBM := Lib.hid (HM.out.trans (hb1.mono HM.out.size))
  have X0 := Lib.hid (HB1.out.below hb1)
  have X1 := Lib.hid (HB2.out.below hb1)
  have HMS := Lib.hid (Mp.start w1)
  have HSZ := Lib.hid (show (w1.alloc (.map #[] 0)).heap.size = w1.heap.size + 1 by simp)
  have HX0S := Lib.hid (show w.heap.size + 2 ≤ w1.heap.size by have := HB2.out.lt; have := hb.size; omega)
  have HW1 := Lib.hid (HM.out.trans (hb.mono HM.out.size))
  have c0' := X0.out.c0
  have c1' := X0.out.c1
  have d0' := X1.out.c0
  have d1' := X1.out.c1
  have HT := Lib.hid (together_any _ _ g p _ (HG.out.below HBM.out) (HP.out.below HBM.out) HPP.out hp1 hp2)
  clear hb hba hb1 HR c0 c1 d0 d1
  go_wp2_with fail
  refine HT.out.mono ?_
  rintro e w2 ⟨sb, F, rfl, hH, hb2, hF⟩
  have htl : (tog g p).ts.length ≤ 1000000 := by
    rw [show (tog g p).ts.length = p.v.length from tog_len HPP.out (Nat.le_refl _)]
    omega
  have HGR := Lib.hid (groups_any w2 F sb (tog g p) hH htl)
  have HM2 := Lib.hid (HMS.out.below hb2)
  have HBB2 := Lib.hid hb2
  have HFF := Lib.hid hF
  clear hH hb2 hF HT c0' c1' d0' d1' HMS htl
  go_wp2_with fail
  refine HGR.out.mono ?_
  rintro e w3 ⟨gv, rfl, hL, hK⟩
  have hbm3 : ¬ F w1.heap.size := fun h => by have := HFF.out _ h; rw [HSZ.out] at this; omega
  have HM3 := Lib.hid (HM2.out.only hK.2 hbm3)
  have HB3 := Lib.hid (HBB2.out.trans (hK.2.below HBB2.out.size HFF.out))
  have X03 := Lib.hid (X0.out.below HB3.out)
  have X13 := Lib.hid (X1.out.below HB3.out)
  have HW3 := Lib.hid (HBM.out.trans (HB3.out.mono HBM.out.size))
  obtain ⟨Ag, cg, rfl, _, _, hgr⟩ := hL
  have HGL := Lib.hid (show ∀ j, j < (tog g p).groups.length → ∃ b u, Ag = some ⟨b, 0, none⟩ ∧ w3.cell? ⟨b, j, none⟩ = some u ∧ Ints w3 u (getL (tog g p).groups j) from fun j hj => by
    obtain ⟨b, hA, _, _, hc⟩ := hgr (by omega)
    obtain ⟨u, h1, h2, _⟩ := hc j hj
    exact ⟨b, u, hA, h1, h2⟩)
  have HAP := Lib.hid (tog_all HPP.out).apart
  have HUP := Lib.hid (show ∀ V ∈ (tog g p).groups, Up V from fun V hV => (piece_group HPP.out hV).1)
  have HIN := Lib.hid (show ∀ j, j < (tog g p).groups.length → ∀ x ∈ getL (tog g p).groups j, x ∈ p.v from fun j hj x hx => by
    obtain ⟨_, z, _, hz⟩ := piece_group HPP.out (getL_mem hj)
    exact ((hz x).1 hx).1)
  have HLEN := Lib.hid (show ∀ j, j < (tog g p).groups.length → (getL (tog g p).groups j).length ≤ p.v.length from fun j hj =>
    once_len (List.Pairwise.imp (fun {a b} (hab : a < b) => (by omega : a ≠ b)) (HUP.out _ (getL_mem hj))) (HIN.out j hj))
  have HPC := Lib.hid (show pcs g p = (tog g p).groups.map (pieceOf g p) from rfl)
  have HCV := Lib.hid (show ∀ x ∈ p.v, ∃ j, j < (tog g p).groups.length ∧ x ∈ getL (tog g p).groups j from fun x hx => by
    obtain ⟨V, hV, hxV⟩ := (tog_all HPP.out).covers hx
    obtain ⟨j, hj, rfl⟩ := List.mem_iff_getElem.1 hV
    exact ⟨j, hj, by rw [getL_of hj]; exact hxV⟩)
  have hgl : (tog g p).groups.length ≤ p.v.length := by
    rw [(tog_all HPP.out).heads]
    have := heads_le (tog g p).gr
    rw [(tog_all HPP.out).2.1.len, (tog_all HPP.out).1] at this
    exact this
  generalize (tog g p).groups = L at *
  clear hK hbm3 hgr HGR HM2 HBB2 HFF
  go_wp2
  go_loopw [7, 28] (fun pv iv wr => ∃ (k : Nat) (vl : List Value) (D : DataW Unit) (ts : List Int) (ds : List Nat), k ≤ L.length ∧ iv = .int .i64 k ∧ vl.length = k ∧ Hid (wr.ownsRow w3.heap.size 27 2 pv k (flatV vl)) ∧
    Hid (∀ j, j < k → Ints w3 (getV vl j) (getL L j)) ∧ Hid (Mp wr w1.heap.size D ts ds) ∧ Hid (Placed L k 0 ts ds) ∧ Hid (Only (New w1.heap.size w3.heap.size) w3 wr)) (fun _ iv _ => L.length - (Go.RowKit.intOf iv).toNat)
  case atStart => exact ⟨0, [], _, [], [], Nat.zero_le _, rfl, rfl, Lib.hid (World.ownsRow_nil _ _ _ _), Lib.hid (fun j h => absurd h (Nat.not_lt_zero _)), HM3, Lib.hid (Placed.start L), Lib.hid (Only.refl _ _)⟩
  case round =>
    obtain ⟨k, vl, D, ts, ds, hk, rfl, hvl, hrow, hvs, hMp, hPl, hO⟩ := hrel
    obtain ⟨wq, hwq⟩ : ∃ z, z = wr := ⟨_, rfl⟩
    subst hwq
    have hbw3 : w1.heap.size < w3.heap.size := HM3.out.lt
    by_cases hlt : k < L.length
    · obtain ⟨gb0, u, rfl, hcu, hIu⟩ := HGL.out k hlt
      have hcq := cell_keep hcu HM3.out hO.out
      obtain ⟨Au, cu, rfl⟩ := ints_form hIu
      have HIU := Lib.hid hIu
      have HO0 := Lib.hid hO.out
      have HMp0 := Lib.hid hMp.out
      have HPl0 := Lib.hid hPl.out
      have HVS0 := Lib.hid hvs.out
      have HR0 := Lib.hid hrow.out
      have hzq : w3.heap.size ≤ wq.heap.size := HO0.out.size
      have hml := HLEN.out k hlt
      have hk0 : (0 : Int) ≤ (k : Int) := by omega
      have hk1 : (k : Int) < (L.length : Int) := by omega
      generalize hnl : (getL L k).length = nl at *
      clear hcu hIu hO hMp hPl hvs hrow hmm
      go_wp2_with (at_builtin; refine wpList_append_own_at _ rfl _ _ 30 rfl w3.heap.size 27 j0 (.agg #[.slice none 0 0, .slice none 0 0]) 2 48 Try.underlying30 hj hy0 hy1 hy2 rfl (by decide) _ _ _ rfl (HR0.out.alloc _) ⟨wq.heap.size, 0, none⟩ 1 1 [.slice Au nl cu, .slice none 0 0] rfl rfl (cell_two_new _ _ _ _) (by simp [Value.oneCell']) (by unfold maxLen; omega) (by omega) (by simp; omega) ?_)
      intro v5 w5 hown5 hgrow5 _ _
      have hba := below_alloc (w := wq) (.cells #[.slice Au nl cu, .slice none 0 0] 27)
      have hvn : (vl ++ [Value.slice Au nl cu]).length = k + 1 := by rw [List.length_append, hvl]; rfl
      have hown6 : w5.ownsRow w3.heap.size 27 2 v5 (k + 1) (flatV (vl ++ [.slice Au nl cu])) := by
        have e : flatV (vl ++ [.slice Au nl cu]) = flatV vl ++ [.slice Au nl cu, .slice none 0 0] := by simp [flatV]
        rw [e]
        exact hown5
      have hlo : ∀ j, Value.ownBlock _ = some j → w3.heap.size ≤ j := fun j hj' => (World.ownsRow.lt HR0.out j hj').1
      have hO5 : Only (New w1.heap.size w3.heap.size) wq w5 := (Only.of_below hba).trans' (Only.of_grown hgrow5 (fun j hj' => .inr (hlo j hj')))
      have HO5 := Lib.hid (HO0.out.trans' hO5)
      have HMp5 := Lib.hid ((HMp0.out.below hba).only (Only.of_grown (F := fun j => w3.heap.size ≤ j) hgrow5 (fun j hj' => hlo j hj')) (by omega))
      have HR5 := Lib.hid hown6
      have HVS5 := Lib.hid (show ∀ j, j < k + 1 → Ints w3 (getV (vl ++ [.slice Au nl cu]) j) (getL L j) from fun j hj' => by
        rcases Nat.lt_or_ge j k with h | h
        · rw [getV_app_left _ _ _ (by omega)]
          exact HVS0.out j h
        · obtain rfl : j = k := by omega
          rw [show getV (vl ++ [.slice Au nl cu]) j = .slice Au nl cu by rw [← hvl]; exact getV_app_right _ _]
          exact HIU.out)
      obtain ⟨A5, c5, rfl⟩ := own_shape hown6
      generalize vl ++ [.slice Au nl cu] = vl5 at *
      clear hown5 hgrow5 hba hown6 hlo hO5 HR0 HMp0 HVS0 hcq HO0 hvl
      go_wp2
      go_loopw [40] (fun mv wr => ∃ (m : Nat) (D2 : DataW Unit) (ts2 : List Int) (ds2 : List Nat), m ≤ nl ∧ mv = .int .i64 m ∧ Hid (wr.ownsRow w3.heap.size 27 2 (.slice A5 (k + 1) c5) (k + 1) (flatV vl5)) ∧
        Hid (Mp wr w1.heap.size D2 ts2 ds2) ∧ Hid (Placed L k m ts2 ds2) ∧ Hid (Only (New w1.heap.size w3.heap.size) w3 wr)) (fun mv _ => nl - (Go.RowKit.intOf mv).toNat)
      case atStart => exact ⟨0, D, ts, ds, Nat.zero_le _, rfl, HR5, HMp5, HPl0, HO5⟩
      case round =>
        obtain ⟨m, D2, ts2, ds2, hm, rfl, hrow, hMp, hPl, hO⟩ := hrel
        obtain ⟨wi, hwi⟩ : ∃ z, z = wr := ⟨_, rfl⟩
        subst hwi
        have HRi := Lib.hid hrow.out
        have HMi := Lib.hid hMp.out
        have HPi := Lib.hid hPl.out
        have HOi := Lib.hid hO.out
        clear hrow hMp hPl hO
        by_cases hml2 : m < nl
        · have hml3 : m < (getL L k).length := by omega
          obtain ⟨ub, uo, rfl, hub, huc⟩ := ints_at (ints_keep HIU.out HM3.out HOi.out) hml3
          have hxm : getI (getL L k) m ∈ getL L k := (mem_getI _ _).2 ⟨m, hml3, rfl⟩
          have hwx := wf_in HPP.out (HIN.out k hlt _ hxm)
          have hkey := keyOf_int_mk Try.underlying3 hwx
          have HFR := Lib.hid (HPi.out.fresh hlt hml3 HAP.out HUP.out)
          have HPN := Lib.hid (HPi.out.put hlt hml3 HMi.out.2.2)
          have hwk : (Lit.int .i64 (k : Int)).wf = true := WalkArith.wf_i64 (by omega)
          have htl : ts2.length ≤ 200000 := by
            have h1 : ts2.Nodup ∨ True := .inr trivial
            have h2 := HPi.out.all
            have h3 : (L.take k).flatten.length ≤ p.v.length := by
              refine once_len ?_ (fun x hx => ?_)
              · unfold List.Nodup
                rw [List.pairwise_flatten]
                exact ⟨fun V hV => List.Pairwise.imp (fun {a b} (hab : a < b) => (by omega : a ≠ b)) (HUP.out V (List.mem_of_mem_take hV)), List.Pairwise.imp (S := fun V W : List Int => ∀ x ∈ V, ∀ y ∈ W, x ≠ y) (fun {V W} h x hx y hy e => h x hx (by rw [e]; exact hy)) (List.Pairwise.sublist (List.take_sublist k L) HAP.out)⟩
              · obtain ⟨V, hV, hxV⟩ := List.mem_flatten.1 hx
                obtain ⟨j, hj', rfl⟩ := List.mem_iff_getElem.1 (List.mem_of_mem_take hV)
                exact HIN.out j hj' x (by rw [getL_of hj']; exact hxV)
            rw [h2, List.length_append, List.length_take]
            omega
          generalize getI (getL L k) m = x at *
          clear hxm hwx
          go_wp2_with (at_mapUpdate; refine wpList_mapUpdate_in _ rfl _ _ _ 43 rfl 3 3 Try.keyInt Try.underlying43 _ w1.heap.size ts2.length D2 rfl HMi.out.1 (by unfold maxLen; omega) _ _ _ rfl rfl hkey _ [] (plainElem_int Try.underlying3 hwk) ?_)
          intro w8 hown8 hturn8
          have hO8 := only_turned hturn8
          have HM8 := Lib.hid (HMi.out.put HFR.out k hown8)
          have HR8 := Lib.hid (own_block HRi.out (fun gg hg => hO8.block gg (World.ownsRow.lt HRi.out gg hg).2 (fun e => by have := (World.ownsRow.lt HRi.out gg hg).1; omega)))
          have HO8 := Lib.hid (HOi.out.trans' (hO8.more (G := New w1.heap.size w3.heap.size) (fun j _ h => .inl h)))
          clear hown8 hturn8 hO8 huc
          go_wp2
          go_roundw
          case rel => exact ⟨m + 1, _, _, _, by omega, by go_num, HR8, HM8, HPN, HO8⟩
          case measure => simp [Go.RowKit.intOf]; omega
        · obtain rfl : m = nl := by omega
          have HPN := Lib.hid (HPi.out.next hlt (by omega))
          go_wp2
          go_roundw
          case rel => exact ⟨k + 1, vl5, D2, ts2, ds2, by omega, by go_num, hvn, HRi, HVS5, HMi, HPN, HOi⟩
          case measure => simp [Go.RowKit.intOf]; omega
    · obtain rfl : k = L.length := by omega
      have HO0 := Lib.hid hO.out
      have HMp0 := Lib.hid hMp.out
      have HPl0 := Lib.hid hPl.out
      have HVS0 := Lib.hid hvs.out
      have HR0 := Lib.hid hrow.out
      have hFw : ∀ j, New w1.heap.size w3.heap.size j → w.heap.size + 2 ≤ j := fun j hj' => by
        have := HX0S.out
        rcases hj' with rfl | hj'
        · exact this
        · omega
      have HFW := Lib.hid hFw
      have hw2 : w.heap.size + 2 ≤ w3.heap.size := by have := HX0S.out; omega
      have hBq := hO.out.below hw2 hFw
      have c0 := (X03.out.keep hBq (by omega)).c0
      have c1 := (X03.out.keep hBq (by omega)).c1
      have d1 := (X13.out.keep hBq (by omega)).c1
      by_cases hK : 0 < L.length
      · obtain ⟨gb, cap, hpv⟩ : ∃ gb cap, u7 = .slice (some ⟨gb, 0, none⟩) L.length cap := by
          rcases hrow.out.2 with ⟨_, h0⟩ | ⟨gg, cap, cur, e, _⟩
          · omega
          · exact ⟨gg, cap, e⟩
        have hrow2 := hrow.out
        rw [hpv] at hrow2
        have HPS := Lib.hid (Pcs.start hrow2 hvl)
        subst hpv
        clear hrow hMp hPl hvs hO hBq hFw hrow2 HR0 hmm
        go_wp2
        go_loopw [52] (fun iv wr => ∃ (k : Nat) (es : Nat → Value), k ≤ p.e.length ∧ iv = .int .i64 k ∧ Hid (Pcs wr w3.heap.size gb L.length (getV vl) es (fun j => (p.e.take k).filter fun e => decide ((getE g.e e.toNat).a ∈ getL L j))) ∧
          Hid (Mp wr w1.heap.size D ts ds) ∧ Hid (Only (New w1.heap.size w3.heap.size) w3 wr)) (fun iv _ => p.e.length - (Go.RowKit.intOf iv).toNat)
        case atStart => exact ⟨0, _, Nat.zero_le _, rfl, HPS, HMp0, HO0⟩
        case round =>
          obtain ⟨k, es, hk, rfl, hP, hMp, hO⟩ := hrel
          obtain ⟨wi, hwi⟩ : ∃ z, z = wr := ⟨_, rfl⟩
          subst hwi
          have HPi := Lib.hid hP.out
          have HMi := Lib.hid hMp.out
          have HOi := Lib.hid hO.out
          clear hP hMp hO
          by_cases hlt : k < p.e.length
          · have hBi := HOi.out.below hw2 HFW.out
            have hBw := HW3.out.trans ((HOi.out.below (B := w.heap.size) (by omega) (fun j hj' => by have := HFW.out j hj'; omega)))
            obtain ⟨pb, po, rfl, hpb, hpc⟩ := ints_at HE3.out hlt
            have hrk := (perr_rises HPP.out).2.2.1 k hlt
            have hmem : getI p.e k ∈ p.e := (mem_getI _ _).2 ⟨k, hlt, rfl⟩
            have hea := ((perr_rises HPP.out).2.2.2 _ hmem).1
            obtain ⟨en, hen⟩ : ∃ en : Nat, getI p.e k = en := ⟨(getI p.e k).toNat, by omega⟩
            have hel : en < g.e.length := by omega
            obtain ⟨eb, eo, rfl, heb, he1, _⟩ := edges_at HE1.out hel
            have hck := (hBw.cell (p := ⟨pb, po + k, none⟩) hpb).trans hpc
            have g1 := (hBw.cell (p := ⟨eb, eo + en * 2, none⟩) heb).trans he1
            have cc1 := (X03.out.keep hBi (by omega)).c1
            have HT := Lib.hid (take_succ_getI p.e k hlt)
            rw [hen] at HT hck hea
            rw [Int.toNat_natCast] at hea
            obtain ⟨i, hiL, hiV⟩ := HCV.out _ hea
            obtain ⟨jt, hjt, hjx, hji⟩ := HPl0.out.who rfl hiL hiV HAP.out
            have hwx := wf_in HPP.out hea
            have hkey := keyOf_int_mk Try.underlying3 hwx
            have HVAL := Lib.hid (fun c (hc : D.atKey (.int .i64 (getE g.e en).a) (.lit (.int .i64 0)) = .lit (.int .i64 c)) => show c = (i : Int) by
              rw [← hjx] at hc
              rw [HMi.out.at_ hjt hc, hji])
            have HMO := Lib.hid (show moreI (fun j => (p.e.take k).filter fun e => decide ((getE g.e e.toNat).a ∈ getL L j)) i (en : Int) = (fun j => (p.e.take (k + 1)).filter fun e => decide ((getE g.e e.toNat).a ∈ getL L j)) from by
              funext j
              unfold moreI
              rw [HT.out, List.filter_append]
              by_cases e : j = i
              · subst e
                rw [if_pos rfl]
                simp [hiV]
              · rw [if_neg e]
                have hn : (getE g.e en).a ∉ getL L j := fun hx => by
                  rcases Nat.lt_or_ge j L.length with h | h
                  · exact e (apart_at HAP.out h hiL hx hiV)
                  · unfold getL at hx
                    rw [List.getD_eq_getElem?_getD, List.getElem?_eq_none h] at hx
                    cases hx
                simp [hn])
            have hn0 : (0 : Int) ≤ (en : Int) := by omega
            have hn1 : (en : Int) < (g.e.length : Int) := by omega
            have hi0 : (0 : Int) ≤ (i : Int) := by omega
            have hi1 : (i : Int) < (L.length : Int) := by omega
            obtain ⟨fl, hfl⟩ : ∃ fl, (fun j => (p.e.take k).filter fun e => decide ((getE g.e e.toNat).a ∈ getL L j)) = fl := ⟨_, rfl⟩
            have hli : (fl i).length ≤ 100000 := by
              rw [← hfl]
              exact Nat.le_trans (List.length_filter_le _ _) (by rw [List.length_take]; omega)
            rw [hfl] at HPi HMO
            have cE := HPi.out.ce i hiL
            have roE := HPi.out.row i hiL
            have HSZi := Lib.hid HPi.out.lt
            have hzi : w3.heap.size ≤ wi.heap.size := HOi.out.size
            generalize (getE g.e en).a = xa at *
            clear hpc hrk hmem he1 hen hwx hea hBi hBw hfl hiV hjx hji hjt HT
            go_wp2_with (first
              | (at_lookup; refine wpList_lookup_own_int _ rfl _ _ 43 rfl 3 3 .i64 Try.keyInt Try.underlying43 Try.underlying3 (Try.zeroInt _) w1.heap.size ts.length D rfl HMi.out.1 _ _ rfl hkey ?_; intro c2 hat2 hwc2; obtain rfl := HVAL.out c2 hat2; clear hat2 hwc2)
              | (at_builtin; refine wpList_append_own_at _ rfl _ _ 25 rfl w3.heap.size 3 i0 (.int .i64 0) 1 8 Try.underlying25 hi hz0 hz1 hz2 rfl (by decide) _ _ _ rfl (World.ownsRow.alloc roE _) ⟨wi.heap.size, 0, none⟩ 1 1 [.int .i64 en] rfl rfl (cell_one_new _ _ _) (by simp [Value.oneCell']) (by unfold maxLen; omega) (by omega) (by simp; omega) ?_))
            intro v5 w5 hown5 hgrow5 _ hat5
            have hown5' : Row w5 w3.heap.size v5 (fl i ++ [(en : Int)]) := by
              show w5.ownsRow _ _ _ _ _ _
              rw [List.length_append, List.map_append]
              exact hown5
            obtain ⟨A5, c5, hv5⟩ := own_shape hown5'
            have HV5 := Lib.hid hv5
            have hba := below_alloc (w := wi) (.cells #[.int .i64 (en : Int)] 3)
            obtain ⟨M5, ce5, f5, B5⟩ := (HPi.out.below hba).put (x := (en : Int)) hiL hgrow5 hown5' (hat5.imp id (fun h => by rw [h]; simp))
            have hlo : ∀ j, (es i).ownBlock = some j → w3.heap.size ≤ j := fun j hj' => (World.ownsRow.lt (HPi.out.row i hiL) j hj').1
            have hO5 : Only (New w1.heap.size w3.heap.size) wi w5 := (Only.of_below hba).trans' (Only.of_grown hgrow5 (fun j hj' => .inr (hlo j hj')))
            have hO6 : Only (fun j => w3.heap.size ≤ j) w5 (w5.setCell ⟨gb, i * 2 + 1, none⟩ v5) := Only.setCell w5 HPi.out.at_ _
            have HO6 := Lib.hid ((HOi.out.trans' hO5).trans' (hO6.more (G := New w1.heap.size w3.heap.size) (fun j _ h => .inr h)))
            have HM6 := Lib.hid (((HMi.out.below hba).only (Only.of_grown (F := fun j => w3.heap.size ≤ j) hgrow5 hlo) (by omega)).only hO6 (by omega))
            have HP6 := Lib.hid M5
            rw [HMO.out] at HP6
            clear hown5 hown5' hgrow5 hat5 hba M5 B5 hlo hO5 hO6 hv5 cE roE
            rw [HV5.out] at HP6 HM6 HO6 ⊢
            clear HV5
            generalize (fl i ++ [(en : Int)]).length = l5 at *
            go_wp2
            go_roundw
            case rel => exact ⟨k + 1, _, by omega, by go_num, HP6, HM6, HO6⟩
            case measure => simp [Go.RowKit.intOf]; omega
          · obtain rfl : k = p.e.length := by omega
            have HT := Lib.hid (List.take_length (l := p.e))
            rw [HT.out] at HPi
            have hBw := HW3.out.trans ((HOi.out.below (B := w.heap.size) (by omega) (fun j hj' => by have := HFW.out j hj'; omega)))
            have HBW := Lib.hid hBw
            clear hBw HT
            have HLL := Lib.hid (show (pcs g p).length = L.length by rw [HPC.out, List.length_map])
            go_wp2
            go_ret2
            refine ⟨some ⟨gb, 0, none⟩, cap, by rw [HLL.out]; rfl, HBW.out, fun j hj' => ?_⟩
            have hjL : j < L.length := by rw [← HLL.out]; exact hj'
            have e : (pcs g p)[j] = pieceOf g p (getL L j) := by
              rw [getL_of hjL]
              simp only [HPC.out, List.getElem_map]
            rw [e]
            exact ⟨gb, _, _, rfl, HPi.out.lt, HPi.out.cv j hjL, HPi.out.ce j hjL, ints_keep (HVS0.out j hjL) HM3.out HOi.out, (HPi.out.row j hjL).ints⟩
      · have hL0 : L.length = 0 := by omega
        have he0 : p.e.length = 0 := by
          rcases Nat.eq_zero_or_pos p.e.length with h | h
          · exact h
          · exfalso
            obtain ⟨j, hj', _⟩ := HCV.out _ ((perr_rises HPP.out).2.2.2 _ ((mem_getI _ _).2 ⟨0, h, rfl⟩)).1
            omega
        have HBW := Lib.hid (HW3.out.trans ((hO.out.below (B := w.heap.size) (by omega) (fun j hj' => by have := hFw j hj'; omega))))
        obtain ⟨A7, c7, hpv⟩ := own_shape hrow.out
        subst hpv
        clear hrow hMp hPl hvs hO hBq hFw HR0 hmm
        have HLL := Lib.hid (show (pcs g p).length = L.length by rw [HPC.out, List.length_map])
        have HE0 := Lib.hid he0
        clear he0
        go_wp2
        go_loopw [52] (fun iv wr => iv = .int .i64 0 ∧ wr = wq) (fun _ _ => 0)
        case atStart => exact ⟨rfl, rfl⟩
        case round =>
          obtain ⟨rfl, rfl⟩ := hrel
          rw [HE0.out]
          go_wp2
          go_ret2
          refine ⟨A7, c7, by rw [HLL.out]; rfl, HBW.out, fun j hj' => ?_⟩
          have := HLL.out
          omega
end Go.Proofs.Ytjnohnbppkhbaaa
