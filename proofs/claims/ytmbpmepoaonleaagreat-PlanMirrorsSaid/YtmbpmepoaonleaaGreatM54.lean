/-
  PlO, PlP, in one text.
-/
import Derived.Test.YtmbpmepoaonleaaGreatM50
import Derived.Test.YtmbpmepoaonleaaGreatM53
import Derived.Test.YtmbpmepoaonleaaGreatM51
import Derived.Test.YtmbpmepoaonleaaGreatM52
/-! A plan's regions, sorted; the pieces of its keys; its error (plain mathematics). -/
namespace Go.Proofs.YtmbpmepoaonleaaGreat.Pl
open Go.Proofs.YtmbpmepoaonleaaGreat Go.Proofs.YtmbpmepoaonleaaGreat.Fc Go.Proofs.YtmbpmepoaonleaaGreat.Rt Go.RowKit

variable {g : Gph} {p : Prt} {T S : List (List Int)} {ks : List Int} {κ : Int} {l : List Int}

/-- The walks that stand in no list, each alone. -/
def alone (ks : List Int) (S : List (List Int)) : List (List Int) := (ks.filter fun x => decide (x ∉ S.flatten)).map fun x => [x]
theorem mem_regs (hS : Lists ks S) : l ∈ regs ks S ↔ l ∈ S ++ alone ks S := by
  unfold regs alone
  rw [List.mem_map, List.mem_append, List.mem_map]
  constructor
  · rintro ⟨κ, hκ, rfl⟩
    obtain ⟨h1, h2⟩ := List.mem_filter.1 hκ
    by_cases h : ∃ l ∈ S, κ ∈ l
    · obtain ⟨l, hl, hk⟩ := h
      rw [lstOf_of hS.once hl hk]
      exact .inl hl
    · rw [lstOf_none h]
      exact .inr ⟨κ, List.mem_filter.2 ⟨h1, decide_eq_true (fun hf => h (by
        obtain ⟨l, hl, hx⟩ := List.mem_flatten.1 hf
        exact ⟨l, hl, hx⟩))⟩, rfl⟩
  · rintro (hl | ⟨κ, hκ, rfl⟩)
    · have hm := head_in hS hl
      refine ⟨getI l 0, List.mem_filter.2 ⟨hS.keys l hl _ hm, ?_⟩, lstOf_of hS.once hl hm⟩
      unfold fstB
      rw [lstOf_of hS.once hl hm]
      simp
    · obtain ⟨h1, h2⟩ := List.mem_filter.1 hκ
      have h3 : ¬ ∃ l ∈ S, κ ∈ l := fun ⟨l, hl, hx⟩ => (of_decide_eq_true h2) (List.mem_flatten.2 ⟨l, hl, hx⟩)
      refine ⟨κ, List.mem_filter.2 ⟨h1, ?_⟩, lstOf_none h3⟩
      unfold fstB
      rw [lstOf_none h3]
      simp [getI]
theorem regs_head (h : κ ∈ ks.filter (fstB S)) : getI (lstOf S κ) 0 = κ := by
  have := (List.mem_filter.1 h).2
  unfold fstB at this
  simpa using this
theorem regs_rise (hk : Up ks) : (regs ks S).Pairwise fun l m => getI l 0 < getI m 0 := by
  unfold regs
  rw [List.pairwise_map]
  refine List.Pairwise.imp_of_mem (fun {a b} ha hb hab => ?_) (List.Pairwise.filter _ hk)
  rw [regs_head ha, regs_head hb]
  exact hab
/-- The lists and those that are alone, in order: the regions. -/
theorem regs_eq (hk : Up ks) (hS : Lists ks S) {U : List (List Int)} (hp : U.Perm (S ++ alone ks S)) (hu : U.Pairwise fun l m => getI l 0 < getI m 0) : U = regs ks S :=
  sorted_ext (fun a b h1 h2 => by omega) hu (regs_rise hk) (fun l => by rw [hp.mem_iff, mem_regs hS])
theorem alone_heads (ks : List Int) (S : List (List Int)) : (alone ks S).map (fun l => getI l 0) = ks.filter fun x => decide (x ∉ S.flatten) := by
  unfold alone
  rw [List.map_map]
  conv => rhs; rw [← List.map_id (ks.filter _)]
  rfl
theorem all_heads (hk : Up ks) (hS : Lists ks S) : ((S ++ alone ks S).map fun l => getI l 0).Nodup := by
  rw [List.map_append, alone_heads, List.nodup_append]
  refine ⟨hS.heads_nodup, (up_nodup hk).filter _, fun a ha b hb e => ?_⟩
  subst e
  obtain ⟨l, hl, rfl⟩ := List.mem_map.1 ha
  exact (of_decide_eq_true (List.mem_filter.1 hb).2) (List.mem_flatten.2 ⟨l, hl, head_in hS hl⟩)
theorem all_some (hS : Lists ks S) : ∀ l ∈ S ++ alone ks S, 0 < l.length := fun l hl => by
  rcases List.mem_append.1 hl with h | h
  · have := hS.two l h; omega
  · obtain ⟨x, _, rfl⟩ := List.mem_map.1 h
    simp
theorem regs_few (ks : List Int) (S : List (List Int)) : (regs ks S).length ≤ ks.length := by
  unfold regs
  rw [List.length_map]
  exact List.length_filter_le _ _

/-! ### The pieces of keys -/

theorem crn_tl (h : Turns g p T) {d : Int} (hd : d ∈ prs p.e) : crn g d = (Rt.tl g d : Int) := by
  obtain ⟨h3, h4⟩ := (mem_dart h.right).1 hd
  have h5 := Rt.ints g p h.right h4
  unfold crn
  rw [if_neg (by omega)]
  unfold Rt.tl tailOf
  rw [show d.toNat / 2 = (d / 2).toNat by omega]
  split <;> omega
theorem plc_ok (h : Turns g p T) (hp1 : p.v.length ≤ 1000) (hp2 : p.e.length ≤ 1000) (hl : g.e.length ≤ 100000) : PlcOk (pcs g p) (ownI g p) := by
  have hr := h.right
  have hF := pcs_facts hr
  refine ⟨?_, fun j hj => ?_, fun j hj => ?_, fun j hj x hx => ?_, fun j hj x hx => ?_⟩
  · have := hF.len; omega
  · have := (hF.few j hj).1; omega
  · have := (hF.few j hj).2; omega
  · have hv := v_nn hr ((PFacts.pce hF hj).reach x hx x |>.1 hx).1
    have hn := err_n (perr_rises hr).1
    refine ⟨?_, hv.1, by omega⟩
    unfold ownI crn
    rw [if_pos (by omega), show -1 - (-1 - x) = x by omega, plc_of hF.av hj hx]
  · have hq := PFacts.pce hF hj
    have hpe := ((hq.edges x).1 hx).1
    have h5 := Rt.ints g p hr hpe
    have d0 : 2 * x ∈ prs (getP (pcs g p) j).e := mem_prs.2 (by rw [show 2 * x / 2 = x by omega]; exact hx)
    have d1 : 2 * x + 1 ∈ prs (getP (pcs g p) j).e := mem_prs.2 (by rw [show (2 * x + 1) / 2 = x by omega]; exact hx)
    obtain ⟨a1, a2⟩ := (hq.dart hr).1 d0
    obtain ⟨b1, b2⟩ := (hq.dart hr).1 d1
    refine ⟨?_, ?_, h5.1, by omega⟩
    · unfold ownI
      rw [crn_tl h a1, plc_of hF.av hj a2]
    · unfold ownI
      rw [crn_tl h b1, plc_of hF.av hj b2]
theorem key_cov (h : Turns g p T) : ∀ x ∈ walksOf g p T, (∃ j, j < (pcs g p).length ∧ ∃ y ∈ (getP (pcs g p) j).v, x.1 = -1 - y) ∨ ∃ j, j < (pcs g p).length ∧ ∃ y ∈ (getP (pcs g p) j).e, x.1 = 2 * y ∨ x.1 = 2 * y + 1 := fun x hx => by
  have hr := h.right
  have hF := pcs_facts hr
  rcases mem_walks.1 hx with ⟨v, hv, _, rfl⟩ | ⟨d, hd, rfl⟩
  · obtain ⟨j, hj, hm⟩ := hF.covers v hv
    exact .inl ⟨j, hj, v, hm, rfl⟩
  · have hX := (nxt_perm h).mem_faces.1 hd |>.1
    have hin := start_in h hx
    obtain ⟨j, hj, hm⟩ := hF.covers _ hin
    have hq := PFacts.pce hF hj
    have hm' : crn g d ∈ (getP (pcs g p) j).v := hm
    rw [crn_tl h hX] at hm'
    have := (hq.dart hr).2 ⟨hX, hm'⟩
    refine .inr ⟨j, hj, d / 2, mem_prs.1 this, ?_⟩
    show d = 2 * (d / 2) ∨ d = 2 * (d / 2) + 1
    omega
theorem own_count (h : Turns g p T) : ∀ x ∈ keysOf g p T, ownI g p x ∈ countTo (pcs g p).length := fun x hx => by
  obtain ⟨j, hj, e⟩ := own_lt h hx
  rw [e, mem_countTo]
  omega
theorem hung_iff : HungG (keysOf g p T) (ownI g p) (pcs g p).length S ↔ Hung g p T S :=
  ⟨fun h => ⟨h.1.1, h.1.2, h.2⟩, fun h => ⟨⟨h.lists, h.forest⟩, h.all⟩⟩

/-! ### A plan's error -/

/-- What is wrong with turns that ought to draw each piece on a sphere. -/
def sphE (g : Gph) (p : Prt) (T : List (List Int)) : Int := if terr g p T = 0 then (if sphB (genL g p T) = true then 0 else 6) else terr g p T
theorem sphE_iff : sphE g p T = 0 ↔ Turns g p T ∧ sphB (genL g p T) = true := by
  unfold sphE
  rw [← terr_iff]
  by_cases h : terr g p T = 0
  · rw [if_pos h]
    by_cases h2 : sphB (genL g p T) = true
    · rw [if_pos h2]; simp [h, h2]
    · rw [if_neg h2]; simp [h2]
  · rw [if_neg h]; simp [h]
/-- What is wrong with a plan. -/
def PErr (g : Gph) (p : Prt) (T S : List (List Int)) (e : Int) : Prop := (sphE g p T ≠ 0 ∧ e = sphE g p T) ∨ (sphE g p T = 0 ∧ ¬ Hung g p T S ∧ e = 7) ∨ (sphE g p T = 0 ∧ Hung g p T S ∧ e = 0)
theorem perr_ex (g : Gph) (p : Prt) (T S : List (List Int)) : ∃ e, PErr g p T S e := by
  by_cases h : sphE g p T = 0
  · by_cases h2 : Hung g p T S
    · exact ⟨0, .inr (.inr ⟨h, h2, rfl⟩)⟩
    · exact ⟨7, .inr (.inl ⟨h, h2, rfl⟩)⟩
  · exact ⟨_, .inl ⟨h, rfl⟩⟩
theorem PErr.one {e e' : Int} (h : PErr g p T S e) (h' : PErr g p T S e') : e = e' := by
  rcases h with ⟨h1, rfl⟩ | ⟨h1, h2, rfl⟩ | ⟨h1, h2, rfl⟩ <;> rcases h' with ⟨k1, rfl⟩ | ⟨k1, k2, rfl⟩ | ⟨k1, k2, rfl⟩
  all_goals first | rfl | exact absurd k1 h1 | exact absurd h1 k1 | exact absurd k2 h2 | exact absurd h2 k2
theorem PErr.zero {e : Int} (h : PErr g p T S e) : e = 0 ↔ sphE g p T = 0 ∧ Hung g p T S := by
  rcases h with ⟨h1, rfl⟩ | ⟨h1, h2, rfl⟩ | ⟨h1, h2, rfl⟩
  · exact ⟨fun h => absurd h h1, fun h => absurd h.1 h1⟩
  · exact ⟨fun h => by omega, fun h => absurd h.2 h2⟩
  · exact ⟨fun _ => ⟨h1, h2⟩, fun _ => rfl⟩
end Go.Proofs.YtmbpmepoaonleaaGreat.Pl

/-! The program's onSpheres, Regions and Right. -/
namespace Go.Proofs.YtmbpmepoaonleaaGreat.Pl
open Go.Proofs.YtmbpmepoaonleaaGreat Go.Proofs.YtmbpmepoaonleaaGreat.Fc Go.Proofs.YtmbpmepoaonleaaGreat.Rt Go.RowKit Go.Maps

variable {g : Gph} {p : Prt} {T S : List (List Int)} {w w' : World}

/-- A plan as a value: turns, and lists. -/
def Pn (w : World) (v : Value) (T S : List (List Int)) : Prop := ∃ a b, v = .agg #[a, b] ∧ LL w a T ∧ LL w b S
theorem Pn.below {v : Value} (h : Pn w v T S) (hb : Below w.heap.size w w') : Pn w' v T S := by
  obtain ⟨a, b, e, h1, h2⟩ := h
  exact ⟨a, b, e, h1.below hb, h2.below hb⟩
/-- How great what is handed in may be. -/
structure Fits (g : Gph) (p : Prt) (T S : List (List Int)) : Prop where
  hl : g.e.length ≤ 100000
  hp1 : p.v.length ≤ 1000
  hp2 : p.e.length ≤ 1000
  hlT : T.length ≤ 1000
  hr : ∀ j, (getT T j).length ≤ 500
  hw : ∀ j, ∀ x ∈ getT T j, (Lit.int .i64 x).wf = true
  hlS : S.length ≤ 10000
  hrS : ∀ j, (getT S j).length ≤ 10000
  hwS : ∀ j, ∀ x ∈ getT S j, (Lit.int .i64 x).wf = true

theorem Box.belowN {b B : Nat} {u v : Value} (h : Box w b u v) (hb : Below B w w') (hn : b < B) : Box w' b u v :=
  ⟨(hb.cell (p := ⟨b, 0, none⟩) hn).trans h.c0, (hb.cell (p := ⟨b, 1, none⟩) hn).trans h.c1, Nat.lt_of_lt_of_le h.lt hb.size, fun i => (hb.frozen (p := ⟨b, i, none⟩) hn).trans (h.thaw i)⟩
theorem twoL_keep {mb : Nat} {v : Value} {L : List Wlk} (h : TwoL w v (L.map cmp)) (hm : ∃ es clock, w.heap[mb]? = some (.map es clock)) (ho : Only (New mb w.heap.size) w w') : TwoL w' v (L.map cmp) := by
  obtain ⟨A, cap, rfl, h1, h2, h3⟩ := h
  refine ⟨A, cap, rfl, h1, h2, fun h0 => ?_⟩
  obtain ⟨b, rfl, hb, hc⟩ := h3 h0
  have hn : ¬ New mb w.heap.size b := fun hN => by
    rcases hN with e | hN
    · subst e
      obtain ⟨u1, u2, c1, _⟩ := hc 0 h0
      obtain ⟨es, clock, hm⟩ := hm
      simp [World.cell?, hm] at c1
    · omega
  refine ⟨b, rfl, Nat.lt_of_lt_of_le hb ho.size, fun j hj => ?_⟩
  obtain ⟨u1, u2, c1, c2, r1, r2⟩ := hc j hj
  refine ⟨u1, u2, ho.cell (a := ⟨b, j * 2, none⟩) c1 hn, ho.cell (a := ⟨b, j * 2 + 1, none⟩) c2 hn, ?_, ?_⟩
  · rw [List.getElem_map] at r1 ⊢
    exact r1
  · rw [List.getElem_map] at r2 ⊢
    exact Ints.onlyN r2 (ints_off r2 hm) ho

set_option maxRecDepth 100000 in
set_option maxHeartbeats 2000000 in
theorem onSpheres_any (v u x : Value) (w : World) (h : Gr w v g) (h' : Pt w u p) (hT : LL w x T) (hl : g.e.length ≤ 100000) (hp1 : p.v.length ≤ 1000) (hp2 : p.e.length ≤ 1000) (hlT : T.length ≤ 1000) (hr : ∀ j, (getT T j).length ≤ 500) (hw : ∀ j, ∀ x ∈ getT T j, (Lit.int .i64 x).wf = true) :
    Calls Tryz.prog 42 #[v, u, x] w fun e w' => e = .returned (.int .i64 (sphE g p T)) ∧ Below w.heap.size w w' := by
  have HG := Lib.hid h
  have HP := Lib.hid h'
  obtain ⟨ve, rfl, h1⟩ := h
  obtain ⟨vv, vp, rfl, h2, h3⟩ := h'
  obtain ⟨Ae, ce, rfl⟩ := h1.form
  obtain ⟨Av, cv, rfl⟩ := ints_form h2
  obtain ⟨Ap, cp, rfl⟩ := ints_form h3
  obtain ⟨A, cap, rfl, hcap, hmx⟩ := hT.form
  obtain ⟨b1, b2, hm⟩ := two_boxes w (.int .i64 g.n) (.slice Ae g.e.length ce) (.slice Av p.v.length cv) (.slice Ap p.e.length cp) 24 27
  have HB1 := Lib.hid b1
  have HB2 := Lib.hid b2
  have HM := Lib.hid hm
  have HG1 := Lib.hid (HG.out.below hm)
  have HP1 := Lib.hid (HP.out.below hm)
  have HT1 := Lib.hid (hT.below hm)
  have HN := Lib.hid (Rt.new_any _ _ _ g p T _ HG1.out HP1.out HT1.out (by omega) (by omega) (by omega) hlT hr hw)
  have HR := Lib.hid hr
  have HW := Lib.hid hw
  have c0 := b1.c0
  have c1 := b1.c1
  have d0 := b2.c0
  have d1 := b2.c1
  clear b1 b2 hm h1 h2 h3 hT HG HP hw hr hcap hmx
  go_enter Tryz.func42, Tryz.ntmps42
  go_wp2_with fail
  generalize (w.alloc (.cells #[.int .i64 g.n, .slice Ae g.e.length ce] 24)).alloc (.cells #[.slice Av p.v.length cv, .slice Ap p.e.length cp] 27) = w1 at *
  refine HN.out.mono ?_
  clear c0 c1 d0 d1 HN
  rintro e w2 ⟨hB2, ⟨hne, rfl⟩ | ⟨hTu, rb, rfl, hRo⟩⟩
  · have HMW := Lib.hid (trans2 HM.out hB2)
    have HNE := Lib.hid (show sphE g p T = terr g p T from if_neg hne)
    have t1 : (terr g p T != 0) = true := by simpa using hne
    clear hne hB2
    go_wp2
    go_ret
    exact ⟨by rw [HNE.out]; rfl, HMW.out⟩
  · have HMW := Lib.hid (trans2 HM.out hB2)
    have HTE := Lib.hid (terr_iff.2 hTu)
    have HX1 := HB1.out.below hB2
    have HX2 := HB2.out.below hB2
    have HSP := Lib.hid (sphere_any _ _ _ g p T w2 (HG1.out.below hB2) (HP1.out.below hB2) (HT1.out.below hB2) hl (by omega) (by omega) hlT HR.out HW.out)
    rw [HTE.out] at HSP
    have c0 := HX1.c0
    have c1 := HX1.c1
    have d0 := HX2.c0
    have d1 := HX2.c1
    obtain ⟨sb, hsb⟩ : ∃ sb, sphB (genL g p T) = sb := ⟨_, rfl⟩
    rw [hsb] at HSP
    have HSB := Lib.hid hsb
    clear hB2 hTu hRo hsb HX1 HX2
    go_wp2_with fail
    clear c0 c1 d0 d1
    refine HSP.out.mono ?_
    rintro e w3 ⟨rfl, hB3⟩
    have HM3 := Lib.hid (trans2 HMW.out hB3)
    clear hB3 HSP
    cases sb
    · have HE := Lib.hid (show sphE g p T = 6 by unfold sphE; rw [if_pos HTE.out, HSB.out]; rfl)
      go_wp2
      go_ret
      exact ⟨by rw [HE.out]; rfl, HM3.out⟩
    · have HE := Lib.hid (show sphE g p T = 0 by unfold sphE; rw [if_pos HTE.out, HSB.out]; rfl)
      go_wp2
      go_ret
      exact ⟨by rw [HE.out]; rfl, HM3.out⟩

theorem Made.le {base base' : Nat} {v : Value} {us : List Value} {U : List (List Int)} (h : Made w base v us U) (hb : base' ≤ base) : Made w base' v us U :=
  ⟨own_base' h.own hb, h.len, fun j hj => own_base' (h.each j hj) hb⟩
/-- The keys so far that are alone. -/
def aloneTo (g : Gph) (p : Prt) (T S : List (List Int)) (k : Nat) : List (List Int) := alone (keysTo (walksOf g p T) k) S
theorem keysTo_succ {L : List Wlk} {k : Nat} (h : k < L.length) : keysTo L (k + 1) = keysTo L k ++ [(L[k]).1] := by
  unfold keysTo
  rw [List.take_succ_eq_append_getElem h, List.map_append]
  rfl
theorem keysTo_all (g : Gph) (p : Prt) (T : List (List Int)) : keysTo (walksOf g p T) (walksOf g p T).length = keysOf g p T := by unfold keysTo keysOf; rw [List.take_length]
theorem aloneTo_yes {k : Nat} (h : k < (walksOf g p T).length) (hx : ((walksOf g p T)[k]).1 ∉ S.flatten) : aloneTo g p T S (k + 1) = aloneTo g p T S k ++ [[((walksOf g p T)[k]).1]] := by
  unfold aloneTo alone
  rw [keysTo_succ h, List.filter_append, List.map_append]
  congr 1
  rw [List.filter_cons_of_pos (p := fun x => decide (x ∉ S.flatten)) (l := []) (decide_eq_true hx)]
  rfl
theorem aloneTo_no {k : Nat} (h : k < (walksOf g p T).length) (hx : ((walksOf g p T)[k]).1 ∈ S.flatten) : aloneTo g p T S (k + 1) = aloneTo g p T S k := by
  unfold aloneTo alone
  rw [keysTo_succ h, List.filter_append, List.filter_cons_of_neg (by simpa using hx), List.filter_nil, List.append_nil]
theorem alone_len (ks : List Int) (S : List (List Int)) : (alone ks S).length ≤ ks.length := by
  unfold alone
  rw [List.length_map]
  exact List.length_filter_le _ _
theorem aloneTo_len (k : Nat) : (aloneTo g p T S k).length ≤ k := by
  refine Nat.le_trans (alone_len _ _) ?_
  unfold keysTo
  rw [List.length_map, List.length_take]
  omega
theorem getT_few {U : List (List Int)} {n : Nat} (h : ∀ l ∈ U, l.length ≤ n) (j : Nat) : (getT U j).length ≤ n := by
  by_cases hj : j < U.length
  · rw [getT_of U j hj]; exact h _ (List.getElem_mem hj)
  · rw [getT_out U j hj]; simp
theorem few_getT {U : List (List Int)} {n : Nat} (h : ∀ j, (getT U j).length ≤ n) {l : List Int} (hl : l ∈ U) : l.length ≤ n := by
  obtain ⟨j, hj, rfl⟩ := List.mem_iff_getElem.1 hl
  have := h j
  rwa [getT_of U j hj] at this

/-- The lists and what is alone so far. -/
def gone (g : Gph) (p : Prt) (T S : List (List Int)) (k : Nat) : List (List Int) := S ++ aloneTo g p T S k
theorem gone_zero : gone g p T S 0 = S := by
  unfold gone
  have : aloneTo g p T S 0 = [] := rfl
  rw [this, List.append_nil]
theorem gone_yes {k : Nat} (h : k < (walksOf g p T).length) (hx : ((walksOf g p T)[k]).1 ∉ S.flatten) : gone g p T S (k + 1) = gone g p T S k ++ [[((walksOf g p T)[k]).1]] := by
  unfold gone
  rw [aloneTo_yes h hx, List.append_assoc]
theorem gone_no {k : Nat} (h : k < (walksOf g p T).length) (hx : ((walksOf g p T)[k]).1 ∈ S.flatten) : gone g p T S (k + 1) = gone g p T S k := by unfold gone; rw [aloneTo_no h hx]
theorem gone_all : gone g p T S (walksOf g p T).length = S ++ alone (keysOf g p T) S := by unfold gone aloneTo; rw [keysTo_all]
theorem gone_len (k : Nat) : (gone g p T S k).length ≤ S.length + k := by
  unfold gone
  rw [List.length_append]
  have := aloneTo_len (g := g) (p := p) (T := T) (S := S) k
  omega

set_option maxRecDepth 100000 in
set_option maxHeartbeats 8000000 in
theorem regions_any (v u x : Value) (w : World) (h : Gr w v g) (h' : Pt w u p) (hx : Pn w x T S) (hf : Fits g p T S) {er : Int} (hE : PErr g p T S er) :
    Calls Tryz.prog 17 #[v, u, x] w fun e w' => Below w.heap.size w w' ∧ ((er ≠ 0 ∧ e = .returned (.tuple #[.slice none 0 0, .int .i64 er])) ∨ (er = 0 ∧ ∃ m us, e = .returned (.tuple #[m, .int .i64 0]) ∧ Made w' w.heap.size m us (regs (keysOf g p T) S))) := by
  have HG := Lib.hid h
  have HP := Lib.hid h'
  have HF := Lib.hid hf
  have HE := Lib.hid hE
  obtain ⟨ve, rfl, h1⟩ := h
  obtain ⟨vv, vp, rfl, h2, h3⟩ := h'
  obtain ⟨vT, vS, rfl, h4, h5⟩ := hx
  obtain ⟨Ae, ce, rfl⟩ := h1.form
  obtain ⟨Av, cv, rfl⟩ := ints_form h2
  obtain ⟨Ap, cp, rfl⟩ := ints_form h3
  obtain ⟨AT, cT, rfl, _, _⟩ := h4.form
  obtain ⟨AS, cS, rfl, _, _⟩ := h5.form
  obtain ⟨b1, b2, b3, hm⟩ := three_boxes w (.int .i64 g.n) (.slice Ae g.e.length ce) (.slice Av p.v.length cv) (.slice Ap p.e.length cp) (.slice AT T.length cT) (.slice AS S.length cS) 24 27 30
  have HB1 := Lib.hid b1
  have HB2 := Lib.hid b2
  have HB3 := Lib.hid b3
  have HM := Lib.hid hm
  have HG1 := Lib.hid (HG.out.below hm)
  have HP1 := Lib.hid (HP.out.below hm)
  have HT1 := Lib.hid (h4.below hm)
  have HS1 := Lib.hid (h5.below hm)
  have HO := Lib.hid (onSpheres_any _ _ _ _ HG1.out HP1.out HT1.out hf.hl hf.hp1 hf.hp2 hf.hlT hf.hr hf.hw)
  have c0 := b1.c0
  have c1 := b1.c1
  have d0 := b2.c0
  have d1 := b2.c1
  have e0 := b3.c0
  clear b1 b2 b3 hm h1 h2 h3 h4 h5 HG HP hf hE
  go_enter Tryz.func17, Tryz.ntmps17
  go_wp2_with fail
  generalize ((w.alloc (.cells #[.int .i64 g.n, .slice Ae g.e.length ce] 24)).alloc (.cells #[.slice Av p.v.length cv, .slice Ap p.e.length cp] 27)).alloc (.cells #[.slice AT T.length cT, .slice AS S.length cS] 30) = w1 at *
  refine HO.out.mono ?_
  clear c0 c1 d0 d1 e0 HO
  rintro e w2 ⟨rfl, hB2⟩
  have HM2 := Lib.hid (trans2 HM.out hB2)
  by_cases hs : sphE g p T = 0
  case neg =>
    have HER := Lib.hid (show er = sphE g p T ∧ er ≠ 0 by
      rcases HE.out with ⟨h1, h2⟩ | ⟨h1, _⟩ | ⟨h1, _⟩
      · exact ⟨h2, h2 ▸ h1⟩
      · exact absurd h1 hs
      · exact absurd h1 hs)
    have t1 : (sphE g p T != 0) = true := by simpa using hs
    clear hs hB2
    generalize sphE g p T = se at *
    go_wp2
    go_ret2
    exact ⟨HM2.out, .inl ⟨HER.out.2, by rw [HER.out.1]; rfl⟩⟩
  obtain ⟨hTu, hsp⟩ := sphE_iff.1 hs
  have HTU := Lib.hid hTu
  have HX1 := Lib.hid (HB1.out.below hB2)
  have HX2 := Lib.hid (HB2.out.below hB2)
  have HX3 := Lib.hid (HB3.out.below hB2)
  have HG2 := Lib.hid (HG1.out.below hB2)
  have HP2 := Lib.hid (HP1.out.below hB2)
  have HT2 := Lib.hid (HT1.out.below hB2)
  have HS2 := Lib.hid (HS1.out.below hB2)
  have HS0 := Lib.hid hs
  rw [hs]
  have HWK := Lib.hid (walks_any _ _ _ g p T w2 HG2.out HP2.out HT2.out (Nat.le_trans HF.out.hl (by decide)) (Nat.le_trans HF.out.hp1 (by decide)) (Nat.le_trans HF.out.hp2 (by decide)) HF.out.hlT HF.out.hr HF.out.hw)
  have c0 := HX1.out.c0
  have c1 := HX1.out.c1
  have d0 := HX2.out.c0
  have d1 := HX2.out.c1
  have e0 := HX3.out.c0
  clear hTu hsp hs hB2 HB1 HB2 HB3 HG1 HP1 HT1 HS1
  go_wp2_with fail
  clear c0 c1 d0 d1 e0
  refine HWK.out.mono ?_
  clear HWK
  rintro e w3 ⟨hB3, ⟨hne, _⟩ | ⟨_, mw, usw, rfl, hTw⟩⟩
  · exact absurd (terr_iff.2 HTU.out) hne
  have hTr := hTw.reads
  obtain ⟨Am, cm, rfl⟩ := hTw.shape
  rw [List.length_map] at hTr ⊢
  have HTW := Lib.hid hTr
  have HX1 := Lib.hid (HX1.out.below hB3)
  have HX2 := Lib.hid (HX2.out.below hB3)
  have HX3 := Lib.hid (HX3.out.below hB3)
  have HG3 := Lib.hid (HG2.out.below hB3)
  have HP3 := Lib.hid (HP2.out.below hB3)
  have HS3 := Lib.hid (HS2.out.below hB3)
  have HM3 := Lib.hid (trans2 HM2.out hB3)
  have HPI := Lib.hid (pieces_yes _ _ g p w3 HG3.out HP3.out HF.out.hl (Nat.le_trans HF.out.hp1 (by decide)) (Nat.le_trans HF.out.hp2 (by decide)) HTU.out.right)
  have c0 := HX1.out.c0
  have c1 := HX1.out.c1
  have d0 := HX2.out.c0
  have d1 := HX2.out.c1
  clear hTw hTr hB3 HG2 HP2 HT2 HS2 HM2
  go_wp2_with fail
  clear c0 c1 d0 d1
  refine HPI.out.mono ?_
  intro e w4 hPO
  obtain ⟨A3, c3, rfl, hB4, hPL⟩ := hPO.list
  have HPL := Lib.hid hPL
  have HTW4 := Lib.hid (HTW.out.below hB4)
  have HX3 := Lib.hid (HX3.out.below hB4)
  have HS4 := Lib.hid (HS3.out.below hB4)
  have HM4 := Lib.hid (trans2 HM3.out hB4)
  have hlW := walksOf_len g p T
  have hp1 := HF.out.hp1
  have hp2 := HF.out.hp2
  have HPO := Lib.hid (piecesOf_any (f := ownI g p) _ A3 c3 w4 HPL.out (plc_ok HTU.out HF.out.hp1 HF.out.hp2 HF.out.hl) HTW4.out (by omega) (key_cov HTU.out))
  clear hPO hPL hB4 HPI HX1 HX2 HG3 HP3 HS3 HTW HM3
  go_wp2_with fail
  refine HPO.out.mono ?_
  rintro e w5 ⟨mb, nn, rfl, hmb, hIM, hB5⟩
  have HIM := Lib.hid (show IMap w5 mb nn (fun x => x ∈ keysOf g p T) (ownI g p) from hIM)
  have HMB := Lib.hid hIM.block
  have HTW5 := Lib.hid (HTW4.out.below hB5)
  have HX35 := Lib.hid (HX3.out.below hB5)
  have HS5 := Lib.hid (HS4.out.below hB5)
  have HM5 := Lib.hid (trans2 HM4.out hB5)
  have HLT := Lib.hid (show w.heap.size + 2 < mb from Nat.lt_of_lt_of_le HX3.out.lt hmb)
  have hPn : (pcs g p).length ≤ 100000 := by have := (pcs_facts HTU.out.right).len; omega
  have HHG := Lib.hid (hang_any (ks := keysOf g p T) (own := ownI g p) (n := (pcs g p).length) _ w5 HS5.out HIM.out (by omega) (own_count HTU.out) (Nat.le_trans HF.out.hlS (by decide)) (fun j => Nat.le_trans (HF.out.hrS j) (by decide)) HF.out.hwS)
  have e1 := HX35.out.c1
  clear hIM hB5 HPO HPL HTW4 HX3 HS4 HM4 hmb
  go_wp2_with fail
  clear e1
  refine HHG.out.mono ?_
  clear HHG
  rintro e w6 ⟨hO6, hres⟩
  have HB6 := Lib.hid (show Below mb w5 w6 from hO6.below (Nat.le_of_lt HIM.out.lt) (fun k hk => hk.elim (fun h => Nat.le_of_eq h.symm) (fun h => Nat.le_trans (Nat.le_of_lt HIM.out.lt) h)))
  have HM6 := Lib.hid (show Below w.heap.size w w6 from HM5.out.trans (HB6.out.mono (by have := HLT.out; omega)))
  rcases hres with ⟨rfl, hH, hI6⟩ | ⟨rfl, hH⟩
  case inr =>
    have HER := Lib.hid (show er = 7 by
      rcases HE.out with ⟨h1, h2⟩ | ⟨h1, _, h2⟩ | ⟨_, h1, _⟩
      · exact absurd HS0.out h1
      · exact h2
      · exact absurd (hung_iff.2 h1) hH)
    clear hH hO6
    go_wp2
    go_ret2
    exact ⟨HM6.out, .inl ⟨by rw [HER.out]; decide, by rw [HER.out]; rfl⟩⟩
  have HH := Lib.hid (hung_iff.1 hH)
  have HER := Lib.hid (show er = 0 from HE.out.zero.2 ⟨HS0.out, hung_iff.1 hH⟩)
  have HI6 := Lib.hid hI6
  have HTW6 := Lib.hid (twoL_keep HTW5.out HMB.out hO6)
  have HX36 := Lib.hid (Box.belowN HX35.out HB6.out HLT.out)
  have HS6 := Lib.hid (show LL w6 (.slice AS S.length cS) S from by
    obtain ⟨A, cap, e, h1, h2, h3⟩ := HS5.out
    cases e
    refine ⟨_, _, rfl, h1, h2, fun h0 => ?_⟩
    obtain ⟨b, off, hA, hb, hc⟩ := h3 h0
    subst hA
    refine ⟨b, off, rfl, Nat.lt_of_lt_of_le hb hO6.size, fun j hj => ?_⟩
    obtain ⟨b', off', e', A', c', hc', hI', _⟩ := LL.at_keep HS5.out HMB.out hO6 hj
    cases e'
    exact ⟨_, hc', hI'⟩)
  have HCO := Lib.hid (copies_any _ S w6 HS6.out (Nat.le_trans HF.out.hlS (by decide)) (fun j => Nat.le_trans (HF.out.hrS j) (by decide)))
  have e1 := HX36.out.c1
  clear hH hI6 hO6 HTW5 HX35 HS5 HB6 HIM HMB
  go_wp2_with fail
  clear e1
  refine HCO.out.mono ?_
  clear HCO
  rintro e w7 ⟨uc, usc, rfl, hMd, hB7⟩
  have HMd := Lib.hid (show Made w7 w6.heap.size uc usc (gone g p T S 0) by
    rw [gone_zero]
    exact hMd)
  have HB7 := Lib.hid hB7
  clear hMd hB7
  have hlS := HF.out.hlS
  go_wp2
  go_loopw [14, 56] (fun o i wr => ∃ k us, k ≤ (walksOf g p T).length ∧ i = .int .i64 (k : Nat) ∧ Hid (Made wr w6.heap.size o us (gone g p T S k)) ∧ Hid (Below w6.heap.size w6 wr)) (fun _ i _ => (walksOf g p T).length - (Go.RowKit.intOf i).toNat)
  case atStart => exact ⟨0, usc, Nat.zero_le _, rfl, HMd, HB7⟩
  case round =>
    clear HMd HB7
    obtain ⟨k, us, hk, rfl, hM, hB⟩ := hrel
    rename_i o wr
    obtain ⟨wq, hwq⟩ : ∃ z, z = wr := ⟨_, rfl⟩
    subst hwq
    by_cases hlt : k < (walksOf g p T).length
    · obtain ⟨bL, rfl, hbL, hcL1, A', c', hcL2⟩ := fwalk_at (HTW6.out.below hB.out) hlt
      have hkw : (Lit.int .i64 ((walksOf g p T)[k]).1).wf = true := by
        have h1 := walk_keys HTU.out (by have := err_n (perr_rises HTU.out.right).1; omega) (List.getElem_mem hlt)
        have h2 := HF.out.hl
        exact wf64 (by omega) (by omega)
      have hkm : ((walksOf g p T)[k]).1 ∈ keysOf g p T := List.mem_map.2 ⟨_, List.getElem_mem hlt, rfl⟩
      obtain ⟨Ao, co, hso⟩ := hM.out.shape
      have haL := gone_len (g := g) (p := p) (T := T) (S := S) k
      have HLE := Lib.hid (show (gone g p T S k).length ≤ 1000000 by omega)
      obtain ⟨nl, hnl⟩ : ∃ nl, nl = (gone g p T S k).length := ⟨_, rfl⟩
      rw [← hnl] at hso
      subst hso
      clear hnl
      obtain ⟨bx, hmx⟩ := one_box wq (.int .i64 ((walksOf g p T)[k]).1) (.slice A' ((walksOf g p T)[k]).2.length c') 78
      have z0 := bx.c0
      have HIX := Lib.hid (HI6.out.below (hB.out.trans (hmx.mono hB.out.size)))
      have HMX := Lib.hid (hM.out.below hmx)
      have HBX := Lib.hid (hB.out.trans (hmx.mono hB.out.size))
      by_cases hfl : ((walksOf g p T)[k]).1 ∈ S.flatten
      · have HNX := Lib.hid (gone_no hlt hfl)
        have hno := Lib.hid (show (false = true) ↔ (((walksOf g p T)[k]).1 ∈ keysOf g p T ∧ ((walksOf g p T)[k]).1 ∉ S.flatten) from ⟨fun h => (by cases h), fun h => absurd hfl h.2⟩)
        clear bx hmx hM hB hfl hkm haL hbL
        generalize ((walksOf g p T)[k]).2.length = nd at *
        generalize ((walksOf g p T)[k]).1 = key at *
        go_wp2_with (at_lookup; refine wpList_imap_ok rfl _ _ rfl mb nn HIX.out hkw rfl rfl hno.out ?_; intro pc hpc; clear hpc)
        go_roundw
        case rel => exact ⟨k + 1, us, by omega, by go_num, Lib.hid (by rw [HNX.out]; exact HMX.out), HBX⟩
        case measure => simp [Go.RowKit.intOf]; omega
      · have HNX := Lib.hid (gone_yes hlt hfl)
        have hyes := Lib.hid (show (true = true) ↔ (((walksOf g p T)[k]).1 ∈ keysOf g p T ∧ ((walksOf g p T)[k]).1 ∉ S.flatten) from ⟨fun _ => ⟨hkm, hfl⟩, fun _ => rfl⟩)
        clear bx hmx hM hB hfl hkm haL hbL
        generalize ((walksOf g p T)[k]).2.length = nd at *
        generalize ((walksOf g p T)[k]).1 = key at *
        have hsz : (wq.alloc (.cells #[.int .i64 key, .slice A' nd c'] 78)).heap.size = wq.heap.size + 1 := by simp
        have hba := below_alloc (w := wq.alloc (.cells #[.int .i64 key, .slice A' nd c'] 78)) (.cells #[.int .i64 key] 3)
        have hrl := row_lit1 (wq.alloc (.cells #[.int .i64 key, .slice A' nd c'] 78)) key
        have HUY := Lib.hid (Row.le hrl HBX.out.size)
        have HMY := Lib.hid (HMX.out.below hba)
        have HBY := Lib.hid (HBX.out.trans (hba.mono HBX.out.size))
        rw [hsz] at HUY
        clear hsz hba hrl
        go_wp2_with (first
          | (at_lookup; refine wpList_imap_ok rfl _ _ rfl mb nn HIX.out hkw rfl rfl hyes.out ?_; intro pc hpc; clear hpc)
          | (at_builtin; refine wpList_append_list rfl _ _ rfl (v := .slice Ao nl co) (l := [key]) rfl (by show Value.slice (some ⟨wq.heap.size + 1 + 1, 0, none⟩) 1 1 = _; rw [World.size_alloc, World.size_alloc]) HMY.out HUY.out HBY.out.size HLE.out ?_))
        intro v' us' w2 hM2 hG2 hB2
        have HM2 := Lib.hid hM2
        have HB2 := Lib.hid (HBY.out.trans hB2)
        obtain ⟨Av', cv', hsv⟩ := hM2.shape
        obtain ⟨n2, hn2⟩ : ∃ n2, v' = .slice Av' n2 cv' := ⟨_, hsv⟩
        clear hsv
        subst hn2
        clear hM2 hG2 hB2 z0 hcL1 hcL2
        go_wp2
        go_roundw
        case rel => exact ⟨k + 1, us', by omega, by go_num, Lib.hid (by rw [HNX.out]; exact HM2.out), HB2⟩
        case measure => simp [Go.RowKit.intOf]; omega
    · obtain rfl : k = (walksOf g p T).length := by omega
      have hLi := HH.out.lists
      rw [gone_all] at hM
      have hfew : ∀ l ∈ S ++ alone (keysOf g p T) S, l.length ≤ 1000000 := fun l hl => by
        rcases List.mem_append.1 hl with h | h
        · have := few_getT HF.out.hrS h; omega
        · obtain ⟨x, _, rfl⟩ := List.mem_map.1 h
          simp
      have haL := alone_len (keysOf g p T) S
      have hkl : (keysOf g p T).length = (walksOf g p T).length := by unfold keysOf; rw [List.length_map]
      have HSO := Lib.hid (sortByFirst_any hM.out (getT_few hfew) (by rw [List.length_append]; omega) (all_heads (keys_up HTU.out) hLi) (all_some hLi))
      obtain ⟨Ao, co, hso⟩ := hM.out.shape
      subst hso
      have HBE := Lib.hid (show ∀ k', Value.ownBlock (.slice Ao (S ++ alone (keysOf g p T) S).length co) = some k' → w6.heap.size ≤ k' from fun k' hk' => (hM.out.own.lt k' hk').1)
      have HRG := Lib.hid (fun U hU hu => regs_eq (U := U) (keys_up HTU.out) hLi hU hu)
      clear hM hLi hfew haL hkl
      generalize (S ++ alone (keysOf g p T) S).length = nl at *
      go_wp2_with fail
      refine HSO.out.mono ?_
      clear HSO
      rintro e w9 ⟨rfl, us9, U, hU1, hU2, hM9, hO9⟩
      have hE9 := HRG.out U hU1 hU2
      subst hE9
      have HM9 := Lib.hid hM9
      have HB9 := Lib.hid (show Below w6.heap.size w6 w9 from hB.out.trans (hO9.below hB.out.size HBE.out))
      clear hU1 hU2 hM9 hO9 hB
      go_wp2
      go_ret2
      refine ⟨HM6.out.trans (HB9.out.mono HM6.out.size), .inr ⟨HER.out, _, us9, rfl, ?_⟩⟩
      exact Made.le HM9.out HM6.out.size
end Go.Proofs.YtmbpmepoaonleaaGreat.Pl
