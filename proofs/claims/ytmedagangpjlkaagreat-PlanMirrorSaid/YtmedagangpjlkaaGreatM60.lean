/-
  PlY, PlZ, in one text.
-/
import Derived.Test.YtmedagangpjlkaaGreatM55
import Derived.Test.YtmedagangpjlkaaGreatM57
import Derived.Test.YtmedagangpjlkaaGreatM59
import Derived.Test.YtmedagangpjlkaaGreatM25
/-! The program's Mirror. -/
namespace Go.Proofs.YtmedagangpjlkaaGreat.Pl
open Go.Proofs.YtmedagangpjlkaaGreat Go.Proofs.YtmedagangpjlkaaGreat.Fc Go.Proofs.YtmedagangpjlkaaGreat.Rt Go.RowKit Go.Maps

variable {g : Gph} {p : Prt} {T S : List (List Int)} {w w' : World}
def mpTo (f : Int → Int) (l : List Int) (j : Nat) : List Int := (l.take j).map f
theorem mpTo_zero (f : Int → Int) (l : List Int) : mpTo f l 0 = [] := by simp [mpTo]
theorem mpTo_succ (f : Int → Int) {l : List Int} {j : Nat} (h : j < l.length) : mpTo f l (j + 1) = mpTo f l j ++ [f (getI l j)] := by
  unfold mpTo
  rw [take_succ_getI _ j h, List.map_append]
  rfl
theorem mpTo_len (f : Int → Int) {l : List Int} {j : Nat} (h : j ≤ l.length) : (mpTo f l j).length = j := by unfold mpTo; rw [List.length_map, List.length_take]; omega
theorem mpTo_all (f : Int → Int) (l : List Int) : mpTo f l l.length = l.map f := by unfold mpTo; rw [List.take_length]
def thTo (f : Int → Int) (S : List (List Int)) (k : Nat) : List (List Int) := (S.take k).map fun l => l.map f
theorem thTo_zero (f : Int → Int) (S : List (List Int)) : thTo f S 0 = [] := by simp [thTo]
theorem thTo_succ (f : Int → Int) {S : List (List Int)} {k : Nat} (h : k < S.length) : thTo f S (k + 1) = thTo f S k ++ [(getT S k).map f] := by
  unfold thTo
  rw [take_getT S k h, List.map_append]
  rfl
theorem thTo_len (f : Int → Int) {S : List (List Int)} {k : Nat} (h : k ≤ S.length) : (thTo f S k).length = k := by unfold thTo; rw [List.length_map, List.length_take]; omega
theorem thTo_all (g : Gph) (p : Prt) (T S : List (List Int)) : thTo (mk g p T) S S.length = there g p T S := by unfold thTo there; rw [List.take_length]

/-- What a walk's key, and its darts, are, as numbers. -/
theorem key_facts (h : Turns g p T) (hl : g.e.length ≤ 100000) (hn : g.n ≤ 100000) : ∀ x ∈ walksOf g p T, (Lit.int .i64 x.1).wf = true ∧ (Lit.int .i64 (mk g p T x.1)).wf = true ∧ (p.e.length ≤ 1000 → x.2.length ≤ 1000000) ∧ ∀ d ∈ x.2, -9223372036854775808 ≤ d ∧ d ≤ 9223372036854775807 := fun x hx => by
  have hk : x.1 ∈ keysOf g p T := List.mem_map.2 ⟨x, hx, rfl⟩
  have b : ∀ {U : List (List Int)} (_ : Turns g p U) {d : Int}, d ∈ prs p.e → 0 ≤ d ∧ d ≤ 200000 := fun hU d hd => by
    have h1 := (mem_dart hU.right).1 hd
    have h2 := (ints g p hU.right h1.2).2.1
    have := h1.1
    omega
  have key : ∀ {U : List (List Int)} (hU : Turns g p U) {κ : Int}, κ ∈ keysOf g p U → -100000 ≤ κ ∧ κ ≤ 200000 := fun hU κ hκ => by
    rcases mem_keys.1 hκ with ⟨v, hv, _, rfl⟩ | hf
    · have := v_nn hU.right hv
      omega
    · have := b hU ((nxt_perm hU).mem_faces.1 hf).1
      omega
  have k1 := key h hk
  have k2 := key h.mir ((ren h).to _ hk)
  refine ⟨wf64 (by omega) (by omega), wf64 (by omega) (by omega), fun hp => ?_, fun d hd => ?_⟩
  · rcases walk_facts h hx with ⟨e, _⟩ | ⟨_, _, _, _, _, h5⟩
    · rw [e]; exact Nat.zero_le _
    · omega
  · rcases mem_walks.1 hx with ⟨v, hv, _, rfl⟩ | ⟨a, ha, rfl⟩
    · exact absurd hd List.not_mem_nil
    · have := b h ((nxt_perm h).orb_in ((nxt_perm h).mem_faces.1 ha).1 hd)
      omega

set_option maxRecDepth 100000 in
set_option maxHeartbeats 2000000 in
theorem mirror_plan (v u x : Value) (w : World) (h : Gr w v g) (h' : Pt w u p) (hx : Pn w x T S) (hf : Fits g p T S) {er : Int} (hE : PErr g p T S er) :
    Calls Tryz.prog 11 #[v, u, x] w fun e w' => Below w.heap.size w w' ∧ ((er ≠ 0 ∧ e = .returned (.tuple #[.agg #[.slice none 0 0, .slice none 0 0], .int .i64 er])) ∨ (er = 0 ∧ ∃ r, e = .returned (.tuple #[r, .int .i64 0]) ∧ MadeP w' w.heap.size r ((mir (T.map fst)).map fst) (mirP g p T S))) := by
  have HG := Lib.hid h
  have HP := Lib.hid h'
  have HX := Lib.hid hx
  have HF := Lib.hid hf
  have HE := Lib.hid hE
  obtain ⟨ve, rfl, h1⟩ := h
  obtain ⟨vv, vp, rfl, h2, h3⟩ := h'
  obtain ⟨vT, vS, rfl, h4, h5⟩ := hx
  obtain ⟨Ae, ce, rfl⟩ := h1.form
  obtain ⟨Av, cv, rfl⟩ := ints_form h2
  obtain ⟨Ap, cp, rfl⟩ := ints_form h3
  obtain ⟨AT, cT, rfl, _, _⟩ := h4.form
  obtain ⟨AS, cS, rfl, _, _⟩ := h5.form
  obtain ⟨b1, b2, b3, hm⟩ := three_boxes w (.int .i64 g.n) (.slice Ae g.e.length ce) (.slice Av p.v.length cv) (.slice Ap p.e.length cp) (.slice AT T.length cT) (.slice AS S.length cS) 24 27 30
  have HB1 := Lib.hid b1
  have HB2 := Lib.hid b2
  have HB3 := Lib.hid b3
  have HM := Lib.hid hm
  have HG1 := Lib.hid (HG.out.below hm)
  have HP1 := Lib.hid (HP.out.below hm)
  have HX1 := Lib.hid (HX.out.below hm)
  clear b1 b2 b3 hm h1 h2 h3 h4 h5 HG HP HX hf hE
  go_enter Tryz.func11, Tryz.ntmps11
  go_wp2_with fail
  generalize hw0 : ((w.alloc (.cells #[.int .i64 g.n, .slice Ae g.e.length ce] 24)).alloc (.cells #[.slice Av p.v.length cv, .slice Ap p.e.length cp] 27)).alloc (.cells #[.slice AT T.length cT, .slice AS S.length cS] 30) = w0 at *
  have hs0 : w0.heap.size = w.heap.size + 1 + 1 + 1 := by rw [← hw0]; simp
  have HS0 := Lib.hid hs0
  obtain ⟨b4, hm4⟩ := one_box w0 (.slice none 0 0) (.slice none 0 0) 30
  rw [hs0] at b4
  have hsz : (w0.alloc (.cells #[.slice none 0 0, .slice none 0 0] 30)).heap.size = w.heap.size + 1 + 1 + 1 + 1 := by rw [World.size_alloc, hs0]
  have HB4 := Lib.hid b4
  have HB1 := Lib.hid (HB1.out.below hm4)
  have HB2 := Lib.hid (HB2.out.below hm4)
  have HB3 := Lib.hid (HB3.out.below hm4)
  have HM := Lib.hid (trans2 HM.out hm4)
  have HG1 := Lib.hid (HG1.out.below hm4)
  have HP1 := Lib.hid (HP1.out.below hm4)
  have HX1 := Lib.hid (HX1.out.below hm4)
  clear b4 hm4 hw0 hs0 HS0
  generalize w0.alloc (.cells #[.slice none 0 0, .slice none 0 0] 30) = w1 at *
  have HSZ := Lib.hid hsz
  clear hsz
  have HCB := Lib.hid (fun (W : World) (hW : Below w1.heap.size w1 W) => (⟨(HB1.out.below hW).c0, (HB1.out.below hW).c1, (HB2.out.below hW).c0, (HB2.out.below hW).c1, (HB3.out.below hW).c0, (HB3.out.below hW).c1⟩ :
    W.cell? ⟨w.heap.size, 0, none⟩ = some (.int .i64 g.n) ∧ W.cell? ⟨w.heap.size, 1, none⟩ = some (.slice Ae g.e.length ce) ∧ W.cell? ⟨w.heap.size + 1, 0, none⟩ = some (.slice Av p.v.length cv) ∧ W.cell? ⟨w.heap.size + 1, 1, none⟩ = some (.slice Ap p.e.length cp) ∧ W.cell? ⟨w.heap.size + 1 + 1, 0, none⟩ = some (.slice AT T.length cT) ∧ W.cell? ⟨w.heap.size + 1 + 1, 1, none⟩ = some (.slice AS S.length cS)))
  refine (right_any _ _ _ w1 HG1.out HP1.out HX1.out HF.out HE.out).mono ?_
  rintro e w2 ⟨rfl, hB2⟩
  have HBB2 := Lib.hid hB2
  clear hB2
  by_cases hs : er = 0
  case neg =>
    have t0 : (er != 0) = true := by simpa using hs
    have HNE := Lib.hid hs
    have HZ := Lib.hid (HB4.out.below HBB2.out)
    have z0 := HZ.out.c0
    have z1 := HZ.out.c1
    have z2 := HZ.out.thaw 0
    have z3 := HZ.out.thaw 1
    have HZ3 := Lib.hid (HZ.out.stored (.slice none 0 0) (.slice none 0 0))
    have HZC := Lib.hid (below_stored (b := w.heap.size + 1 + 1 + 1) (u' := .slice none 0 0) (v' := .slice none 0 0) (trans2 HM.out HBB2.out) (Nat.le_add_right _ 3))
    clear hs
    go_wp2
    refine bodyPost_ret (v := .tuple #[.agg #[.slice none 0 0, .slice none 0 0], .int .i64 er]) ?_ rfl ⟨HZC.out, .inl ⟨HNE.out, rfl⟩⟩
    simp [results, Tryz.results11, go_sem, HZ3.out.c0, HZ3.out.c1]
  subst hs
  obtain ⟨hsp, hHu⟩ := HE.out.zero.1 rfl
  have HTU := Lib.hid (sphE_iff.1 hsp).1
  have HHU := Lib.hid hHu
  have hn : g.n ≤ 100000 := by have := HTU.out.len; have := HF.out.hlT; omega
  have HKF := Lib.hid (key_facts HTU.out HF.out.hl hn)
  clear hsp hHu
  obtain ⟨c0, c1, d0, d1, e0, e1⟩ := HCB.out w2 HBB2.out
  have HWK := Lib.hid (walks_any _ _ _ g p T w2 (HG1.out.below HBB2.out) (HP1.out.below HBB2.out) (show LL w2 (.slice AT T.length cT) T from by obtain ⟨_, _, e, h1, _⟩ := HX1.out.below HBB2.out; cases e; exact h1) (Nat.le_trans HF.out.hl (by decide)) (Nat.le_trans HF.out.hp1 (by decide)) (Nat.le_trans HF.out.hp2 (by decide)) HF.out.hlT HF.out.hr HF.out.hw)
  go_wp2_with fail
  clear c0 c1 d0 d1 e0 e1
  refine HWK.out.mono ?_
  clear HWK
  rintro e w3 ⟨hB3, ⟨hne, _⟩ | ⟨_, mw, usw, rfl, hTw⟩⟩
  · exact absurd (terr_iff.2 HTU.out) hne
  have hTr := hTw.reads
  obtain ⟨Am, cm, rfl⟩ := hTw.shape
  rw [List.length_map] at hTr ⊢
  have HBB3 := Lib.hid (trans2 HBB2.out hB3)
  have hlW := walksOf_len g p T
  have hp1 := HF.out.hp1
  have hp2 := HF.out.hp2
  have HKT := Lib.hid (keysThere_any (f := mk g p T) _ w3 hTr (by omega) (fun x hx => (thr_mk HTU.out hx).symm) (fun x hx => ⟨(HKF.out x hx).1, (HKF.out x hx).2.1, (HKF.out x hx).2.2.1 hp2, (HKF.out x hx).2.2.2⟩))
  clear hTw hTr hB3
  go_wp2_with fail
  refine HKT.out.mono ?_
  clear HKT
  rintro e w4 ⟨mb, nn, rfl, hmb, hIM, hB4⟩
  have HIM := Lib.hid (show IMap w4 mb nn (fun x => x ∈ keysOf g p T) (mk g p T) from hIM)
  have HBB4 := Lib.hid (trans2 HBB3.out hB4)
  obtain ⟨c0, c1, d0, d1, e0, e1⟩ := HCB.out w4 HBB4.out
  have HWM := Lib.hid (fun (x : Int) (hx : x ∈ keysOf g p T) => (show (Lit.int .i64 x).wf = true ∧ (Lit.int .i64 (mk g p T x)).wf = true from by
    obtain ⟨a, ha, rfl⟩ := List.mem_map.1 hx
    exact ⟨(HKF.out a ha).1, (HKF.out a ha).2.1⟩))
  have HSL := Lib.hid (show LL w4 (.slice AS S.length cS) S from by obtain ⟨_, _, e, _, h1⟩ := HX1.out.below HBB4.out; cases e; exact h1)
  have hlS := HF.out.hlS
  clear hIM hB4 hmb HKF
  go_wp2
  clear c0 c1 d0 d1 e0 e1
  go_loopw [12, 41] (fun o i wr => ∃ k us, k ≤ S.length ∧ i = .int .i64 (k : Nat) ∧ Hid (Below w4.heap.size w4 wr) ∧ Hid (Made wr w4.heap.size o us (thTo (mk g p T) S k))) (fun _ i _ => S.length - (Go.RowKit.intOf i).toNat)
  case atStart => exact ⟨0, [], Nat.zero_le _, rfl, Lib.hid (Below.refl _ _), Lib.hid (by rw [thTo_zero]; exact Made.start _ _)⟩
  case round =>
    obtain ⟨k, us, hk, rfl, hB, hM⟩ := hrel
    rename_i o wr
    obtain ⟨wo, hwo⟩ : ∃ z, z = wr := ⟨_, rfl⟩
    subst hwo
    by_cases hlt : k < S.length
    · obtain ⟨b, off, rfl, hb, A1, c1, hck, hi⟩ := (HSL.out.below hB.out).get hlt
      obtain ⟨Ao, co, hso⟩ := hM.out.shape
      rw [thTo_len _ hk] at hso
      subst hso
      have HI := Lib.hid hi
      have HTS := Lib.hid (thTo_succ (mk g p T) hlt)
      have HN := Lib.hid (show (thTo (mk g p T) S k).length ≤ 1000000 by rw [thTo_len _ hk]; omega)
      have HKY := Lib.hid (HHU.out.lists.keys _ (getT_mem hlt))
      have hll := HF.out.hrS k
      clear hi
      generalize getT S k = l at *
      go_wp2
      clear hck
      go_loopw [15, 47] (fun o2 i wr => ∃ j, j ≤ l.length ∧ i = .int .i64 (j : Nat) ∧ Hid (Row wr wo.heap.size o2 (mpTo (mk g p T) l j)) ∧ Hid (Below wo.heap.size wo wr)) (fun _ i _ => l.length - (Go.RowKit.intOf i).toNat)
      case atStart => exact ⟨0, Nat.zero_le _, rfl, Lib.hid (by rw [mpTo_zero]; exact Row.nil _ _), Lib.hid (Below.refl _ _)⟩
      case round =>
        obtain ⟨j, hj, rfl, hR, hB2⟩ := hrel
        rename_i o2 wr
        by_cases hjl : j < l.length
        · obtain ⟨ub, uo, rfl, hub, huc⟩ := ints_at (HI.out.below hB2.out) hjl
          have hkin := HKY.out _ (Rt.getI_in _ _ hjl)
          have HKI := Lib.hid hkin
          have hwk := (HWM.out _ hkin).1
          have HMS := Lib.hid (mpTo_succ (mk g p T) hjl)
          have HLE := Lib.hid (show (mpTo (mk g p T) l j).length ≤ 4000000 by rw [mpTo_len _ hj]; omega)
          have HSZ2 := Lib.hid hB2.out.size
          have HIW := Lib.hid ((HIM.out.below hB.out).below hB2.out)
          obtain ⟨Aq, cq, rfl⟩ := ints_form hR.out.ints
          rw [mpTo_len _ hj] at hR ⊢
          clear hub hkin
          generalize getI l j = x at *
          go_wp2_with (first
            | (at_lookup; refine wpList_imap_get rfl _ _ rfl mb nn HIW.out hwk rfl rfl ?_; intro c hc; obtain rfl := hc HKI.out; clear hc)
            | (at_builtin; refine wpList_append1 rfl _ _ rfl rfl rfl hR.out HSZ2.out HLE.out ?_))
          intro v7 w7 hR7 hB7
          rw [← HMS.out] at hR7
          have HR7 := Lib.hid hR7
          have HB7 := Lib.hid (hB2.out.trans hB7)
          obtain ⟨A7, c7, hv7⟩ := ints_form hR7.ints
          subst hv7
          clear hR7 hB7 hR hB2 HLE HSZ2 HMS huc HIW
          go_wp2
          go_roundw
          case rel => exact ⟨j + 1, by omega, by go_num, HR7, HB7⟩
          case measure => simp [Go.RowKit.intOf]; omega
        · obtain rfl : j = l.length := by omega
          rw [mpTo_all] at hR
          have HU := Lib.hid (Row.le hR.out hB.out.size)
          have HB1' := Lib.hid (hB.out.trans (hB2.out.mono hB.out.size))
          have HM1 := Lib.hid (hM.out.below hB2.out)
          obtain ⟨Au, cu, rfl⟩ := ints_form hR.out.ints
          clear hR hB2
          generalize l.map (mk g p T) = fl at *
          go_wp2_with (at_builtin; refine wpList_append_list rfl _ _ rfl (v := .slice Ao k co) rfl rfl HM1.out HU.out HB1'.out.size HN.out ?_; intro v' us' w2 hM2 hG2 hB2)
          have HM2 := Lib.hid hM2
          have HB2' := Lib.hid (HB1'.out.trans hB2)
          obtain ⟨Av', cv', hsv⟩ := hM2.shape
          subst hsv
          clear hM2 hG2 hB2
          go_wp2
          go_roundw
          case rel => exact ⟨k + 1, _, by omega, by go_num, HB2', Lib.hid (by rw [HTS.out]; exact HM2.out)⟩
          case measure => simp [Go.RowKit.intOf]; omega
    · obtain rfl : k = S.length := by omega
      rw [thTo_all] at hM
      obtain ⟨Ao, co, rfl⟩ := hM.out.shape
      have hlt : (there g p T S).length = S.length := by unfold there; exact List.length_map _
      have hrt : ∀ j, (getT (there g p T S) j).length ≤ 1000000 := getT_few (fun l hl => by
        obtain ⟨m, hm, rfl⟩ := List.mem_map.1 hl
        rw [List.length_map]
        exact Nat.le_trans (few_getT HF.out.hrS hm) (by decide))
      have HSO := Lib.hid (sortByFirst_any hM.out hrt (by omega) (there_heads HTU.out HHU.out) (there_some HHU.out))
      rw [hlt] at HSO ⊢
      have hML := hM.out.own
      rw [hlt] at hML
      clear hM hrt
      go_wp2_with fail
      refine HSO.out.mono ?_
      clear HSO
      rintro e w6 ⟨rfl, us', T', hp, hup, hMd, hO6⟩
      have hB6 : Below w4.heap.size w4 w6 := hB.out.trans (hO6.below hB.out.size (fun i e => (hML.lt i e).1))
      have hTe := there_sorted HTU.out hp1 hp2 HF.out.hl HHU.out hp hup
      have hlT' : T'.length = S.length := by rw [hp.length_eq, hlt]
      subst hTe
      have HMD := Lib.hid hMd
      have HBB6 := Lib.hid (trans2 HBB4.out hB6)
      have HW4 := Lib.hid (trans2 HM.out HBB4.out).size
      have HLM := Lib.hid hlT'
      clear hML hp hup hMd hO6 hlt hlT' hB6 hB
      obtain ⟨c0, c1, d0, d1, e0, e1⟩ := HCB.out w6 HBB6.out
      have HNW := Lib.hid (Rt.new_any _ _ _ g p T w6 (HG1.out.below HBB6.out) (HP1.out.below HBB6.out) (show LL w6 (.slice AT T.length cT) T from by obtain ⟨_, _, e, h1, _⟩ := HX1.out.below HBB6.out; cases e; exact h1) (Nat.le_trans HF.out.hl (by decide)) (by omega) (by omega) HF.out.hlT HF.out.hr HF.out.hw)
      go_wp2_with fail
      clear c0 c1 d0 d1 e0 e1
      refine HNW.out.mono ?_
      clear HNW
      rintro e w7 ⟨hB7, ⟨hne, _⟩ | ⟨_, rb, rfl, hRo⟩⟩
      · exact absurd (terr_iff.2 HTU.out) hne
      have hU := HTU.out.alike (alike_fst T)
      have hlU : (T.map fst).length ≤ 1000 := by rw [List.length_map]; exact HF.out.hlT
      have hrU : ∀ j, (getT (T.map fst) j).length ≤ 500 := fun j => by rw [getT_map fst fst_nil, fst_len]; exact HF.out.hr j
      have hwU : ∀ j, ∀ y ∈ getT (T.map fst) j, (Lit.int .i64 y).wf = true := fun j y hy => by
        rw [getT_map fst fst_nil] at hy
        exact HF.out.hw j y ((fst_in _ _).1 hy)
      have hlV : ((mir (T.map fst)).map fst).length = T.length := by rw [List.length_map, mir, List.length_map, List.length_map]
      have hrV : ∀ j, (getT ((mir (T.map fst)).map fst) j).length ≤ 1000000 := fun j => by
        rw [getT_map fst fst_nil, fst_len, getT_mir, List.length_reverse]
        have := hrU j
        omega
      have HMI := Lib.hid (Rt.mirror_any rb g p (T.map fst) w7 hRo hU hlU hrU hwU)
      have HBB7 := Lib.hid (trans2 HBB6.out hB7)
      have HMD7 := Lib.hid (HMD.out.below hB7)
      have HLV := Lib.hid hlV
      have hlT := HF.out.hlT
      have hlV2 : ((mir (T.map fst)).map fst).length ≤ 1000000 := by omega
      clear hU hlU hrU hwU hRo hB7 HMD hlV
      generalize hV : (mir (T.map fst)).map fst = V at *
      have HV := Lib.hid hV
      clear hV
      go_wp2_with fail
      refine HMI.out.mono ?_
      clear HMI
      rintro e w8 ⟨m, rfl, hRm, hB8⟩
      have HTN := Lib.hid (Rt.turn_any m g p V w8 hRm hlV2 hrV)
      have HBB8 := Lib.hid (trans2 HBB7.out hB8)
      have HMD8 := Lib.hid (HMD7.out.below hB8)
      clear hRm hB8 HMD7
      go_wp2_with fail
      refine HTN.out.mono ?_
      clear HTN
      rintro e w9 ⟨vt, ut, rfl, hMt, hB9⟩
      obtain ⟨At, ct, rfl⟩ := hMt.shape
      have hlV3 := HLV.out
      rw [hlV3] at hMt ⊢
      have HBB9 := Lib.hid (trans2 HBB8.out hB9)
      have HMD9 := Lib.hid (HMD8.out.below hB9)
      have HZ := Lib.hid (HB4.out.below HBB9.out)
      have z0 := HZ.out.c0
      have z1 := HZ.out.c1
      have z2 := HZ.out.thaw 0
      have z3 := HZ.out.thaw 1
      have h84 : w.heap.size + 1 + 1 + 1 < w8.heap.size := by have := HBB8.out.size; rw [HSZ.out] at this; omega
      have h44 : w.heap.size + 1 + 1 + 1 < w4.heap.size := by have := HBB4.out.size; rw [HSZ.out] at this; omega
      have HZ3 := Lib.hid (HZ.out.stored (.slice At T.length ct) (.slice Ao S.length co))
      have HZC := Lib.hid (below_stored (b := w.heap.size + 1 + 1 + 1) (u' := .slice At T.length ct) (v' := .slice Ao S.length co) (trans2 HM.out HBB9.out) (Nat.le_add_right _ 3))
      have HR1 := Lib.hid (Made.le (Made.set (Made.set hMt h84 0 (.slice At T.length ct)) h84 1 (.slice Ao S.length co)) (show w.heap.size ≤ w8.heap.size by omega))
      have HR2 := Lib.hid (Made.le (Made.set (Made.set HMD9.out h44 0 (.slice At T.length ct)) h44 1 (.slice Ao S.length co)) (show w.heap.size ≤ w4.heap.size by omega))
      clear hMt hB9 HMD8 HMD9
      go_wp2
      refine bodyPost_ret (v := .tuple #[.agg #[.slice At T.length ct, .slice Ao S.length co], .int .i64 0]) ?_ rfl ⟨HZC.out, ⟨_, rfl, _, _, _, _, rfl, by rw [HV.out]; exact HR1.out, HR2.out⟩⟩
      simp [results, Tryz.results11, go_sem, HZ3.out.c0, HZ3.out.c1]
end Go.Proofs.YtmedagangpjlkaaGreat.Pl

/-! A drawing's mirror is a drawing, and its mirror is the drawing again. -/
namespace Go.Proofs.YtmedagangpjlkaaGreat.Pl
open Go.Proofs.YtmedagangpjlkaaGreat Go.Proofs.YtmedagangpjlkaaGreat.Fc Go.Proofs.YtmedagangpjlkaaGreat.Rt Go.RowKit Go.Maps

variable {g : Gph} {p : Prt} {T U S : List (List Int)}
theorem walks_same (hT : Turns g p T) (hU : Turns g p U) (e : U.map fst = T.map fst) : walksOf g p U = walksOf g p T := by rw [← walks_alike hU, e, walks_alike hT]
theorem fst_fst (h : Turns g p T) : (T.map fst).map fst = T.map fst := h.fst_alike (alike_fst T)
theorem mir_fst (h : Turns g p T) : (mir (T.map fst)).map fst = (mir T).map fst :=
  h.mir.fst_alike ⟨by simp [mir], fun v => by rw [getT_mir, getT_mir]; exact Ring1.reverse ((alike_fst T).2 v)⟩
/-- Turned about, and begun with the least. -/
def mirF (T : List (List Int)) : List (List Int) := (mir T).map fst
theorem mirF_turns (h : Turns g p T) : Turns g p (mirF T) := h.mir.alike (alike_fst _)
theorem mirF_mir (h : Turns g p T) : (mir (mirF T)).map fst = T.map fst := h.fst_alike (alike_mir_mir (alike_fst _) (Alike.refl _))
theorem mirF_again (h : Turns g p T) : (mir ((mirF T).map fst)).map fst = T.map fst := (mir_fst (mirF_turns h)).trans (mirF_mir h)
theorem walks_mirF (h : Turns g p T) : walksOf g p (mirF T) = walksOf g p (mir T) := walks_alike h.mir
theorem walks_back (h : Turns g p T) : walksOf g p (mir (mirF T)) = walksOf g p T := walks_same h (mirF_turns h).mir (mirF_mir h)
theorem keys_mirF (h : Turns g p T) : keysOf g p (mirF T) = keysOf g p (mir T) := by unfold keysOf; rw [walks_mirF h]
theorem mirP_back (h : Turns g p T) (hS : Lists (keysOf g p T) S) : mirP g p (mirF T) (mirP g p T S) = S := by
  have e1 : keysOf g p (mir (mirF T)) = keysOf g p (mir (mir T)) := by unfold keysOf; rw [walks_back h, mirmir]
  have e2 : mk g p (mirF T) = mk g p (mir T) := by
    funext κ
    unfold mk
    rw [walks_back h, mirmir]
  have := mirP_mirP h hS
  unfold mirP at this ⊢
  rw [e1, e2]
  exact this
theorem mirF_perr (hs : sphE g p T = 0) (hH : Hung g p T S) : PErr g p (mirF T) (mirP g p T S) 0 := by
  obtain ⟨h, hz⟩ := sphE_iff.1 hs
  have hM := hH.mir h
  refine .inr (.inr ⟨sphE_iff.2 ⟨mirF_turns h, ?_⟩, ⟨?_, hM.forest, hM.all⟩, rfl⟩)
  · have := genL_mir (g := g) (p := p) h
    unfold genL at this hz ⊢
    rw [walks_mirF h, this]
    exact hz
  · rw [keys_mirF h]
    exact hM.lists
theorem mirF_fits (hf : Fits g p T S) (hs : sphE g p T = 0) (hH : Hung g p T S) : Fits g p (mirF T) (mirP g p T S) := by
  obtain ⟨h, _⟩ := sphE_iff.1 hs
  have hM := (hH.mir h).lists
  have hr := ren h
  have hlk : (keysOf g p (mir T)).length ≤ 3000 := by
    have := walksOf_len g p (mir T)
    have := hf.hp1
    have := hf.hp2
    unfold keysOf
    rw [List.length_map]
    omega
  have hn : g.n ≤ 100000 := by have := h.len; have := hf.hlT; omega
  have hm : ∀ l ∈ mirP g p T S, l.length ≤ 3000 := fun l hl => by
    obtain ⟨m, _, rfl⟩ := (mem_mirS hr hH.lists).1 hl
    exact Nat.le_trans (List.length_filter_le _ _) hlk
  refine ⟨hf.hl, hf.hp1, hf.hp2, by unfold mirF; rw [List.length_map, mir, List.length_map]; exact hf.hlT, fun j => ?_, fun j x hx => ?_, ?_, fun j => ?_, fun j x hx => ?_⟩
  · unfold mirF
    rw [getT_map fst fst_nil, fst_len, getT_mir, List.length_reverse]
    exact hf.hr j
  · unfold mirF at hx
    rw [getT_map fst fst_nil] at hx
    have := (fst_in _ _).1 hx
    rw [getT_mir, List.mem_reverse] at this
    exact hf.hw j x this
  · have h1 := hM.heads_count (up_nodup (keys_up h.mir))
    have h2 : ((keysOf g p (mir T)).filter fun κ => inB (mirP g p T S) κ && fstB (mirP g p T S) κ).length ≤ (keysOf g p (mir T)).length := List.length_filter_le _ _
    rw [h1] at h2
    omega
  · exact Nat.le_trans (getT_few hm j) (by decide)
  · by_cases hj : j < (mirP g p T S).length
    · have hk := hM.keys _ (getT_mem hj) x hx
      obtain ⟨a, ha, rfl⟩ := List.mem_map.1 hk
      exact (key_facts h.mir hf.hl hn a ha).1
    · rw [getT_out _ _ hj] at hx
      exact absurd hx List.not_mem_nil
end Go.Proofs.YtmedagangpjlkaaGreat.Pl
