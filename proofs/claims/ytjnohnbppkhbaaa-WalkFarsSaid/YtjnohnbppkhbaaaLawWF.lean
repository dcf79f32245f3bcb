/-
  WalkFars: how far all vertices are is the document's: the law's call answers true at every input.
-/
import Derived.Test.YtjnohnbppkhbaaaWkK
import Derived.Test.YtjnohnbppkhbaaaWkG
namespace Go.Proofs.Ytjnohnbppkhbaaa
open Go.RowKit Go.Maps

/-- Of a list those that are in another, each once. -/
theorem both_len {l ts : List Int} (h1 : l.Nodup) (h2 : ts.Nodup) (h3 : ∀ x ∈ ts, x ∈ l) : (l.filter fun x => decide (x ∈ ts)).length = ts.length := by
  refine Nat.le_antisymm (once_len (List.Pairwise.filter _ h1) (fun x hx => ?_)) (once_len h2 (fun x hx => ?_))
  · exact of_decide_eq_true (List.mem_filter.1 hx).2
  · exact List.mem_filter.2 ⟨h3 x hx, decide_eq_true hx⟩
theorem up_nodup {l : List Int} (h : Up l) : l.Nodup := List.Pairwise.imp (fun {a b} (hab : a < b) => (by omega : a ≠ b)) h

set_option maxRecDepth 100000 in
set_option maxHeartbeats 8000000 in
theorem walkFars_any (v : Value) (g : Gph) (u : Value) (p : Prt) (aa : Int) (w : World) (h : Gr w v g) (h' : Pt w u p) :
    Calls Try.prog 5 #[v, u, .int .i64 aa] w fun e w' => e = .returned (.bool true) ∧ Below w.heap.size w w' := by
  have HG := Lib.hid h
  have HP := Lib.hid h'
  obtain ⟨ve, rfl, h1⟩ := h
  obtain ⟨vv, vp, rfl, h2, h3⟩ := h'
  obtain ⟨Ae, ce, rfl⟩ := h1.form
  obtain ⟨Av, cv, rfl⟩ := ints_form h2
  obtain ⟨Ap, cp, rfl⟩ := ints_form h3
  obtain ⟨b1, b2, hm⟩ := two_boxes w (.int .i64 g.n) (.slice Ae g.e.length ce) (.slice Av p.v.length cv) (.slice Ap p.e.length cp) 24 27
  have HB1 := Lib.hid b1
  have HB2 := Lib.hid b2
  have HM := Lib.hid hm
  have HG1 := Lib.hid (HG.out.below hm)
  have HP1 := Lib.hid (HP.out.below hm)
  have HI2 := Lib.hid (h2.below hm)
  clear b1 b2 hm h1 h2 h3 HG HP
  go_enter Try.func5, Try.ntmps5
  go_wp2_with fail
  generalize (w.alloc (.cells #[.int .i64 g.n, .slice Ae g.e.length ce] 24)).alloc (.cells #[.slice Av p.v.length cv, .slice Ap p.e.length cp] 27) = w1 at *
  refine (wawake_any w1).mono ?_
  rintro e w2 ⟨rfl, hB2⟩
  have c0 := (HB1.out.below hB2).c0
  have c1 := (HB1.out.below hB2).c1
  have d0 := (HB2.out.below hB2).c0
  have d1 := (HB2.out.below hB2).c1
  have HBB2 := Lib.hid hB2
  clear hB2
  go_wp2_with fail
  refine (small_any _ _ g p w2 (HG1.out.below HBB2.out) (HP1.out.below HBB2.out)).mono ?_
  rintro e w3 ⟨rfl, hB3⟩
  have HB3 := Lib.hid (trans2 HBB2.out hB3)
  clear hB3 c0 c1 d0 d1 HBB2
  by_cases hs : smallB g p = true
  case neg =>
    have e : smallI g p = 0 := if_neg hs
    rw [e]
    clear e hs
    go_wp2_with fail
    refine (wawake_any w3).mono ?_
    rintro e w4 ⟨rfl, hB4⟩
    go_wp2
    go_ret
    exact ⟨rfl, trans2 HM.out (trans2 HB3.out hB4)⟩
  have e : smallI g p = 1 := if_pos hs
  obtain ⟨hl, hp1, hp2, _⟩ := (of_decide_eq_true hs : g.e.length ≤ 60 ∧ p.v.length ≤ 60 ∧ p.e.length ≤ 60 ∧ ¬ (60 < g.n ∧ g.n ≤ 1024))
  rw [e]
  have c0 := (HB1.out.below HB3.out).c0
  have c1 := (HB1.out.below HB3.out).c1
  have d0 := (HB2.out.below HB3.out).c0
  have d1 := (HB2.out.below HB3.out).c1
  clear e hs
  go_wp2_with fail
  refine (far_any _ _ g p aa w3 (HG1.out.below HB3.out) (HP1.out.below HB3.out) (by omega) (by omega) (by omega)).mono ?_
  rintro e w4 hfa
  by_cases hok : perr g p = 0 ∧ aa ∈ p.v
  · obtain ⟨bm, D, ts, ds, rfl, hbm, hMp, hFo, hB4⟩ := hfa.yes hok.1 hok.2
    have HB4 := Lib.hid (trans2 HB3.out hB4)
    have HR := Lib.hid (rrightPart_any _ _ g p w4 (HG1.out.below HB4.out) (HP1.out.below HB4.out) (by omega) (by omega) (by omega))
    rw [hok.1] at HR
    have HOK := Lib.hid hok
    have HMp := Lib.hid hMp
    have HFo := Lib.hid hFo
    clear hfa hB4 c0 c1 d0 d1 HB3 hMp hFo hok hbm
    have c0 := (HB1.out.below HB4.out).c0
    have c1 := (HB1.out.below HB4.out).c1
    have d0 := (HB2.out.below HB4.out).c0
    have d1 := (HB2.out.below HB4.out).c1
    go_wp2_with fail
    refine HR.out.mono ?_
    rintro e w5 ⟨rfl, hB5⟩
    have HB5 := Lib.hid (trans2 HB4.out hB5)
    replace HMp := Lib.hid (HMp.out.below hB5)
    clear hB5 c0 c1 d0 d1 HR HB4
    have HI := Lib.hid (in_any _ p.v aa w5 (HI2.out.below HB5.out) (by omega))
    rw [decide_eq_true HOK.out.2] at HI
    have d0 := (HB2.out.below HB5.out).c0
    go_wp2_with fail
    refine HI.out.mono ?_
    rintro e w' ⟨rfl, rfl⟩
    clear d0 HI
    go_wp2
    go_loopw [8, 9] (fun c i wr => ∃ k : Nat, k ≤ p.v.length ∧ i = .int .i64 k ∧ c = .int .i64 (((p.v.take k).filter fun x => decide (x ∈ ts)).length : Nat) ∧ Hid (Mp wr bm D ts ds) ∧ Hid (Below w1.heap.size w1 wr)) (fun _ i _ => p.v.length - (Go.RowKit.intOf i).toNat)
    case atStart => exact ⟨0, Nat.zero_le _, rfl, rfl, HMp, HB5⟩
    case round =>
      obtain ⟨k, hk, rfl, rfl, hMp, hB⟩ := hrel
      obtain ⟨wq, hwq⟩ : ∃ z, z = wr := ⟨_, rfl⟩
      subst hwq
      have HMq := Lib.hid hMp.out
      have HBq := Lib.hid hB.out
      have d0 := (HB2.out.below hB.out).c0
      clear hMp hB
      by_cases hlt : k < p.v.length
      · obtain ⟨pb, po, rfl, hpb, hpc⟩ := ints_at HI2.out hlt
        have hmem : getI p.v k ∈ p.v := (mem_getI _ _).2 ⟨k, hlt, rfl⟩
        have hrx := (perr_rises HOK.out.1).2.1.mem hmem
        have hgn := err_n (perr_rises HOK.out.1).1
        have hck := (HBq.out.cell (p := ⟨pb, po + k, none⟩) hpb).trans hpc
        have HT := Lib.hid (take_succ_getI p.v k hlt)
        have hfl : ((p.v.take k).filter fun x => decide (x ∈ ts)).length ≤ k := Nat.le_trans (List.length_filter_le _ _) (by rw [List.length_take]; omega)
        generalize hx : getI p.v k = x at *
        have hwx : (Lit.int .i64 x).wf = true := WalkArith.wf_i64 (by omega)
        have hkey := keyOf_int_mk Try.underlying3 hwx
        have HFR := Lib.hid (fun W (hb : Below wq.heap.size wq W) => rfar_any _ _ g p aa x W (HG1.out.below (HBq.out.trans (Below.mono hb HBq.out.size))) (HP1.out.below (HBq.out.trans (Below.mono hb HBq.out.size))) HOK.out.1 (by omega) (by omega))
        have X0 := Lib.hid (HB1.out.below HBq.out)
        have X1 := Lib.hid (HB2.out.below HBq.out)
        have hpz : pb < wq.heap.size := Nat.lt_of_lt_of_le hpb HBq.out.size
        clear hpc hmem hrx hgn hx
        go_wp2_with fail
        -- the region
        refine wp_region_plan [is (.agg #[.int .i64 g.n, .slice Ae g.e.length ce]), is (.agg #[.slice (some ⟨pb, po, none⟩) p.v.length cv, .slice Ap p.e.length cp]), is (.int .i64 aa), is (.pointer (some ⟨w.heap.size + 1, 0, none⟩)), is (.slice (some ⟨pb, po, none⟩) p.v.length cv), is (.int .i64 (k : Int)), is (.pointer (some ⟨pb, po + k, none⟩)), is (.int .i64 x), is (.int .i64 (farI g p aa x))] (by kernel_rfl) (by kernel_rfl) ?_ ?_
        · skip
          refine StepsP.cons ?_ ?_
          · refine step_val (fun a wx hB O D => ?_)
            have e3 : a.tmps[3]? = some (.pointer (some ⟨w.heap.size, 0, none⟩)) := O 3 (by rfl)
            obtain ⟨c0, c1, _⟩ := X0.out.below hB
            clear O D
            exact ⟨rfl, by go_simp⟩
          refine StepsP.cons ?_ ?_
          · refine step_val (fun a wx hB O D => ?_)
            have e4 : a.tmps[4]? = some (.pointer (some ⟨w.heap.size + 1, 0, none⟩)) := O 4 (by rfl)
            obtain ⟨c0, c1, _⟩ := X1.out.below hB
            clear O D
            exact ⟨rfl, by go_simp⟩
          refine StepsP.cons ?_ ?_
          · refine step_val (fun a wx hB O D => ?_)
            have e2 : a.tmps[2]? = some (.int .i64 aa) := O 2 (by rfl)
            clear O D
            exact ⟨rfl, by unfold execOp; simp only [ev e2]; rfl⟩
          refine StepsP.cons ?_ ?_
          · refine step_val (fun a wx hB O D => ?_)
            have e4 : a.tmps[4]? = some (.pointer (some ⟨w.heap.size + 1, 0, none⟩)) := O 4 (by rfl)
            clear O D
            exact ⟨rfl, by go_simp⟩
          refine StepsP.cons ?_ ?_
          · refine step_val (fun a wx hB O D => ?_)
            obtain ⟨_, e50, rfl⟩ := D 3 _ _ _ (by decide) rfl rfl rfl
            obtain ⟨c0, c1, _⟩ := X1.out.below hB
            clear O D
            exact ⟨rfl, by go_simp⟩
          refine StepsP.cons ?_ ?_
          · refine step_val (fun a wx hB O D => ?_)
            have e9 : a.tmps[9]? = some (.int .i64 (k : Int)) := O 9 (by rfl)
            clear O D
            exact ⟨rfl, by unfold execOp; simp only [ev e9]; rfl⟩
          refine StepsP.cons ?_ ?_
          · refine step_val (fun a wx hB O D => ?_)
            obtain ⟨_, e51, rfl⟩ := D 4 _ _ _ (by decide) rfl rfl rfl
            obtain ⟨_, e52, rfl⟩ := D 5 _ _ _ (by decide) rfl rfl rfl
            clear O D
            exact ⟨rfl, by go_simp⟩
          refine StepsP.cons ?_ ?_
          · refine step_val (fun a wx hB O D => ?_)
            obtain ⟨_, e53, rfl⟩ := D 6 _ _ _ (by decide) rfl rfl rfl
            have q0 := (hB.cell (p := ⟨pb, po + k, none⟩) hpz).trans hck
            clear O D
            exact ⟨rfl, by go_simp⟩
          refine StepsP.cons ?_ ?_
          · refine step_call (enters_of Try.func14 (by kernel_rfl) rfl) rfl rfl (fun a wx hB O D => ?_)
            obtain ⟨_, e47, rfl⟩ := D 0 _ _ _ (by decide) rfl rfl rfl
            obtain ⟨_, e48, rfl⟩ := D 1 _ _ _ (by decide) rfl rfl rfl
            obtain ⟨_, e49, rfl⟩ := D 2 _ _ _ (by decide) rfl rfl rfl
            obtain ⟨_, e54, rfl⟩ := D 7 _ _ _ (by decide) rfl rfl rfl
            refine ⟨rfl, #[.agg #[.int .i64 g.n, .slice Ae g.e.length ce], .agg #[.slice (some ⟨pb, po, none⟩) p.v.length cv, .slice Ap p.e.length cp], .int .i64 aa, .int .i64 x], by simp only [List.map_toArray, List.map_cons, List.map_nil, ev e47, ev e48, ev e49, ev e54] <;> rfl, ?_⟩
            exact (HFR.out _ hB).mono fun _ _ ⟨he, hb⟩ => ⟨_, he, hb, rfl⟩
          exact StepsP.nil
        · intro wz hZ
          refine EndP.is ?_
          refine EndP.is ?_
          refine EndP.is ?_
          refine EndP.is ?_
          refine EndP.is ?_
          refine EndP.is ?_
          refine EndP.is ?_
          refine EndP.is ?_
          refine EndP.is ?_
          refine EndP.nil ?_
        -- behind the region
          have HMz := Lib.hid (HMq.out.below hZ)
          have HBz := Lib.hid (HBq.out.trans (hZ.mono HBq.out.size))
          have hckz := (hZ.cell (p := ⟨pb, po + k, none⟩) hpz).trans hck
          have d0z := (X1.out.below hZ).c0
          clear hZ HFR X0 X1 hck d0 HMp
          rcases far_cases HOK.out.1 HOK.out.2 x with ⟨d, hd, hf⟩ | ⟨hno, hf⟩
          · have hxt : x ∈ ts := (HFo.out.all x).2 hd.reach
            have hh := HMz.out.has_yes hxt
            have HV := Lib.hid (fun c (hc : D.atKey (.int .i64 x) (.lit (.int .i64 0)) = .lit (.int .i64 c)) => HFo.out.val HMz.out hd hc)
            have HT2 := Lib.hid (show ((p.v.take (k + 1)).filter fun x => decide (x ∈ ts)).length = ((p.v.take k).filter fun x => decide (x ∈ ts)).length + 1 by rw [HT.out, List.filter_append, List.length_append]; simp [hxt])
            have hd0 : (0 : Int) ≤ (d : Int) := by omega
            rw [hf]
            clear hf hd hxt HT
            generalize ((p.v.take k).filter fun x => decide (x ∈ ts)).length = m at *
            go_wp2_with (at_lookup; refine wpList_lookup_own_ok_int _ rfl _ _ 43 rfl 3 3 .i64 Try.keyInt Try.underlying43 Try.underlying3 (Try.zeroInt _) bm ts.length D rfl HMz.out.1 _ _ rfl hkey ?_; intro c hat hwc; obtain rfl := HV.out c hat; rw [hh]; clear hat hwc)
            go_roundw
            case rel => exact ⟨k + 1, by omega, by go_num, by rw [HT2.out]; go_num, HMz, HBz⟩
            case measure => simp [Go.RowKit.intOf]; omega
          · have hxt : x ∉ ts := fun hx => by
              obtain ⟨n, hn⟩ := (HFo.out.all x).1 hx
              exact hno n hn
            have hh := HMz.out.has_no hxt
            have HT2 := Lib.hid (show ((p.v.take (k + 1)).filter fun x => decide (x ∈ ts)).length = ((p.v.take k).filter fun x => decide (x ∈ ts)).length by rw [HT.out, List.filter_append, List.length_append]; simp [hxt])
            rw [hf]
            clear hf hno hxt HT
            generalize ((p.v.take k).filter fun x => decide (x ∈ ts)).length = m at *
            go_wp2_with (at_lookup; refine wpList_lookup_own_ok_int _ rfl _ _ 43 rfl 3 3 .i64 Try.keyInt Try.underlying43 Try.underlying3 (Try.zeroInt _) bm ts.length D rfl HMz.out.1 _ _ rfl hkey ?_; intro c hat hwc; skip; rw [hh]; clear hat hwc)
            go_roundw
            case rel => exact ⟨k + 1, by omega, by go_num, by rw [HT2.out], HMz, HBz⟩
            case measure => simp [Go.RowKit.intOf]; omega
      · obtain rfl : k = p.v.length := by omega
        have hts : ∀ x ∈ ts, x ∈ p.v := fun x hx => nbr_reach HOK.out.1 HOK.out.2 ((HFo.out.all x).1 hx)
        have hcount := both_len (up_nodup (perr_rises HOK.out.1).2.1.up) HFo.out.once hts
        have hsz := HMq.out.2.1.2.1
        have HC := Lib.hid (show (((p.v.take p.v.length).filter fun x => decide (x ∈ ts)).length : Int) = ((Maps.size D : Nat) : Int) by rw [List.take_length, hcount, hsz])
        rw [HC.out]
        clear hts hcount hsz HC
        go_wp2_with (at_len; refine wpList_len_own _ rfl _ 43 rfl 3 3 Try.underlying43 _ bm ts.length D rfl HMq.out.1 ?_)
        go_ret
        exact ⟨ret_bool (by simp), trans2 HM.out HBq.out⟩
  · obtain ⟨rfl, hB4⟩ := hfa.no hok
    have HB4 := Lib.hid (trans2 HB3.out hB4)
    have HR := Lib.hid (rrightPart_any _ _ g p w4 (HG1.out.below HB4.out) (HP1.out.below HB4.out) (by omega) (by omega) (by omega))
    clear hfa hB4 c0 c1 d0 d1 HB3
    have c0 := (HB1.out.below HB4.out).c0
    have c1 := (HB1.out.below HB4.out).c1
    have d0 := (HB2.out.below HB4.out).c0
    have d1 := (HB2.out.below HB4.out).c1
    have hln := fun (ty : TypeId) (w : World) => Maps.len_nil (P := Try.prog) (w := w) Try.underlying43 ty
    go_wp2_with fail
    refine HR.out.mono ?_
    rintro e w5 ⟨rfl, hB5⟩
    have HB5 := Lib.hid (trans2 HB4.out hB5)
    clear hB5 c0 c1 d0 d1 HR HB4
    generalize hnp : perr g p = np at *
    by_cases hp : np = 0
    · have hna : aa ∉ p.v := fun h => hok ⟨hp, h⟩
      have HI := Lib.hid (in_any _ p.v aa w5 (HI2.out.below HB5.out) (by omega))
      rw [decide_eq_false hna] at HI
      have h0 : (np != 0) = false := by rw [hp]; rfl
      have d0 := (HB2.out.below HB5.out).c0
      clear hna hok hp hnp
      go_wp2_with fail
      refine HI.out.mono ?_
      rintro e w' ⟨rfl, rfl⟩
      go_wp2
      go_ret
      exact ⟨rfl, trans2 HM.out HB5.out⟩
    · have h0 : (np != 0) = true := bne_iff_ne.2 hp
      clear hok hp hnp
      go_wp2
      go_ret
      exact ⟨rfl, trans2 HM.out HB5.out⟩
end Go.Proofs.Ytjnohnbppkhbaaa
