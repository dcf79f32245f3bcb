/-
  FpF, FpG, FpH, in one text.
-/
import Derived.Test.YtmbpmepoaonleaaGreatM28
import Derived.Test.YtmbpmepoaonleaaGreatM06
/-! The program's Walks. -/
namespace Go.Proofs.YtmbpmepoaonleaaGreat.Fc
open Go.Proofs.YtmbpmepoaonleaaGreat Go.RowKit

/-- append(s, x..): whole walks behind others. -/
theorem wpList_append_twos {w : World} {ops : Array Oper} {rest : List Oper} {o : Oper} {a : Act} {Q : Exit → Act → World → Prop} (hgd : o.guard = none) (s x : Operand) (t t' : TypeId)
    (ho : o.op = .call { callee := .builtin .append, args := #[s, x], argTypes := #[t', t'] }) {i0 : TypeInfo} {z : Value} {by_ : Nat} (hu : Tryz.prog.underlying t' = some (.slice t)) (hi : Tryz.prog.info? t = some i0) (hz0 : i0.zero = some z) (hz1 : i0.size = 2) (hz2 : i0.bytes = by_) (hzs : z.cells.size = 2) (hby : by_ ≤ 100) (ht : 3 ≠ t)
    {base : Nat} {v v2 : Value} {us us2 : List (Value × Value)} {xs ys : List (Comp × Comp)} (hs : a.eval s = v) (hx : a.eval x = v2) (hM : Twos t w base v us xs) (hN : Twos t w base v2 us2 ys)
    (hbase : base ≤ w.heap.size) (hL : xs.length + ys.length ≤ 4000000)
    (h : ∀ v' w', Twos t w' base v' (us ++ us2) (xs ++ ys) → Below base w w' → wpList Tryz.prog ops Q rest (a.put o.dst v') w') : wpList Tryz.prog ops Q (o :: rest) a w := by
  have hl := hM.len
  have hl2 := hN.len
  have hone : ∀ u ∈ cells2 us2, u.oneCell' = true := fun u hu => by
    unfold cells2 at hu
    obtain ⟨p, hp, hup⟩ := List.mem_flatMap.1 hu
    obtain ⟨j, hj, rfl⟩ := List.mem_iff_getElem.1 hp
    have hz : (us2[j], ys[j]) ∈ us2.zip ys := List.mem_iff_getElem.2 ⟨j, by rw [List.length_zip]; omega, by rw [List.getElem_zip]⟩
    have he := hN.each _ hz
    simp only [List.mem_cons, List.not_mem_nil, or_false] at hup
    rcases hup with rfl | rfl
    · exact he.1.one
    · exact he.2.one
  rcases hN.own.2 with ⟨rfl, h0⟩ | ⟨g, cap, cur, rfl, hb, hg, r1, r2, r3, r4⟩
  · obtain rfl := List.eq_nil_of_length_eq_zero (show us2.length = 0 by omega)
    obtain rfl := List.eq_nil_of_length_eq_zero (show ys.length = 0 by simp at hl2; omega)
    refine Lib.wpList_append_run w hgd s x t' t' ho v _ hs hx v w (run_append_empty hu hi hM.own _ _) (h v w ?_ (Below.refl _ _))
    rw [List.append_nil, List.append_nil]
    exact hM
  · refine wpList_append_own w hgd s x t' ho base t i0 z 2 by_ hu hi hz0 hz1 hz2 hzs (by decide) v us.length (cells2 us) hs hM.own ⟨g, 0, none⟩ us2.length cap (cells2 us2) hx (cells2_len us2) (fun j u hju => ?_) hone (by unfold maxLen; omega) ?_ hbase ?_
    · have hi' : j < (cells2 us2).length := (List.getElem?_eq_some_iff.1 hju).1
      have hlen := cells2_len us2
      rw [Addr.add_lit, Nat.zero_add, cell_of_row w g j cur t (0, 0) hg]
      have hc := congrArg (fun l => l[j]?) r4
      simp only [List.getElem?_take, Array.getElem?_toList] at hc
      rw [if_pos (by omega)] at hc
      rw [hc, hju]
    · have : (us.length + us2.length) * by_ ≤ (us.length + us2.length) * 100 := Nat.mul_le_mul_left _ hby
      omega
    · intro v' w1 k1 k2 _
      refine h v' w1 ⟨?_, by rw [List.length_append, List.length_append, hl, hl2], fun p hp => ?_⟩ ((Below.refl base w).grown k2 hbase (fun k hk => (World.ownsRow.lt hM.own k hk).1))
      · rw [List.length_append, show cells2 (us ++ us2) = cells2 us ++ cells2 us2 from List.flatMap_append ..]
        exact k1
      · rcases zip_app_mem hl hp with hp | hp
        · exact ⟨(hM.each p hp).1.kept k2 hM.own ht, (hM.each p hp).2.kept k2 hM.own ht⟩
        · exact ⟨(hN.each p hp).1.kept k2 hM.own ht, (hN.each p hp).2.kept k2 hM.own ht⟩

set_option maxRecDepth 100000 in
set_option maxHeartbeats 4000000 in
theorem walks_any (v u x : Value) (g : Gph) (p : Prt) (T : List (List Int)) (w : World) (h : Gr w v g) (h' : Pt w u p) (hT : LL w x T) (hl : g.e.length ≤ 1000000) (hp1 : p.v.length ≤ 1000000) (hp2 : p.e.length ≤ 100000) (hlT : T.length ≤ 1000) (hr : ∀ j, (Rt.getT T j).length ≤ 500) (hw : ∀ j, ∀ x ∈ Rt.getT T j, (Lit.int .i64 x).wf = true) :
    Calls Tryz.prog 33 #[v, u, x] w fun e w' => Below w.heap.size w w' ∧ ((¬ Rt.terr g p T = 0 ∧ e = .returned (.tuple #[.slice none 0 0, .int .i64 (Rt.terr g p T)])) ∨ (Rt.Turns g p T ∧ ∃ m us, e = .returned (.tuple #[m, .int .i64 0]) ∧ Twos 78 w' w.heap.size m us ((walksOf g p T).map cmp))) := by
  obtain ⟨i0, hi, hz0, hz1, hz2⟩ := info_parts Tryz.infoFWalk
  have HG := Lib.hid h
  have HP := Lib.hid h'
  obtain ⟨ve, rfl, h1⟩ := h
  obtain ⟨vv, vp, rfl, h2, h3⟩ := h'
  obtain ⟨Ae, ce, rfl⟩ := h1.form
  obtain ⟨Av, cv, rfl⟩ := ints_form h2
  obtain ⟨Ap, cp, rfl⟩ := ints_form h3
  obtain ⟨A, cap, rfl, hcap, hmx⟩ := hT.form
  obtain ⟨b1, b2, hm⟩ := two_boxes w (.int .i64 g.n) (.slice Ae g.e.length ce) (.slice Av p.v.length cv) (.slice Ap p.e.length cp) 24 27
  have HB1 := Lib.hid b1
  have HB2 := Lib.hid b2
  have HM := Lib.hid hm
  have HP1 := Lib.hid (HP.out.below hm)
  have HN := Lib.hid (Rt.new_any _ _ _ g p T _ (HG.out.below hm) (HP.out.below hm) (hT.below hm) hl hp1 (by omega) hlT hr hw)
  have c0 := b1.c0
  have c1 := b1.c1
  have d0 := b2.c0
  have d1 := b2.c1
  have HR := Lib.hid hr
  clear b1 b2 hm h1 h2 h3 hT HG HP hw hr hcap hmx
  go_enter Tryz.func33, Tryz.ntmps33
  go_wp2_with fail
  generalize (w.alloc (.cells #[.int .i64 g.n, .slice Ae g.e.length ce] 24)).alloc (.cells #[.slice Av p.v.length cv, .slice Ap p.e.length cp] 27) = w1 at *
  refine HN.out.mono ?_
  rintro e w2 ⟨hB2, ⟨hne, rfl⟩ | ⟨hTu, rb, rfl, hRo⟩⟩
  · have HMW := Lib.hid (trans2 HM.out hB2)
    have HNE := Lib.hid hne
    have t1 : (Rt.terr g p T != 0) = true := by simpa using hne
    clear hne hB2 c0 c1 d0 d1 HN
    go_wp2
    go_ret2
    exact ⟨HMW.out, .inl ⟨HNE.out, rfl⟩⟩
  · have HMW := Lib.hid (trans2 HM.out hB2)
    have HTU := Lib.hid hTu
    have HU := Lib.hid (hTu.alike (Rt.alike_fst T))
    have HP2 := Lib.hid (HP1.out.below hB2)
    have HX2 := Lib.hid (HB2.out.below hB2)
    have HRU := Lib.hid (show ∀ j, (Rt.getT (T.map Rt.fst) j).length ≤ 1000000 from fun j => by
      rw [Rt.getT_map Rt.fst Rt.fst_nil, Rt.fst_len]
      have := HR.out j
      omega)
    have HWT := Lib.hid (fun W (hW : Below w2.heap.size w2 W) => without_any _ p rb g (T.map Rt.fst) W (HP2.out.below hW) (hRo.below hW) HRU.out hp1 (by rw [List.length_map]; omega) (fun v hv => by
      have := v_nn HTU.out.right hv
      have := HTU.out.len
      rw [List.length_map]
      omega))
    have HWW := Lib.hid (fun W (hW : Below w2.heap.size w2 W) => with_any rb g p (T.map Rt.fst) W (hRo.below hW) HU.out HRU.out hl hp2)
    clear hTu hRo hB2 c0 c1 d0 d1 HN
    have c0 := HX2.out.c0
    have c1 := HX2.out.c1
    go_wp2_with fail
    clear c0 c1
    refine (HWT.out _ (Below.refl _ _)).mono ?_
    rintro e w3 ⟨va, usa, rfl, hTa, hB3⟩
    have HWW3 := Lib.hid (HWW.out w3 hB3)
    have HTa := Lib.hid hTa
    have HB3 := Lib.hid hB3
    clear hTa hB3 HWT HWW
    go_wp2_with fail
    refine HWW3.out.mono ?_
    rintro e w4 ⟨vb, usb, rfl, hTb, hB4⟩
    have HTb := Lib.hid (hTb.le HB3.out.size)
    have HTa4 := Lib.hid (HTa.out.below hB4)
    have HB4 := Lib.hid (trans2 HB3.out hB4)
    have HWE := Lib.hid (show (lones (T.map Rt.fst) p.v).map cmp ++ ((faces (prs p.e) (Rt.nxt g (T.map Rt.fst))).map (wlk (Rt.nxt g (T.map Rt.fst)) (prs p.e).length)).map cmp = (walksOf g p T).map cmp by rw [← List.map_append, ← walks_alike HTU.out]; rfl)
    have HLN := Lib.hid (show ((lones (T.map Rt.fst) p.v).map cmp).length + (((faces (prs p.e) (Rt.nxt g (T.map Rt.fst))).map (wlk (Rt.nxt g (T.map Rt.fst)) (prs p.e).length)).map cmp).length ≤ 4000000 by
      rw [← List.length_append, ← List.map_append, List.length_map]
      have := walksOf_len g p (T.map Rt.fst)
      unfold walksOf at this
      omega)
    clear hTb hB4 HTa HB3 HWW3
    generalize (lones (T.map Rt.fst) p.v).map cmp = LA at *
    generalize ((faces (prs p.e) (Rt.nxt g (T.map Rt.fst))).map (wlk (Rt.nxt g (T.map Rt.fst)) (prs p.e).length)).map cmp = LB at *
    go_wp2_with (at_builtin; refine wpList_append_twos rfl _ _ _ _ rfl Tryz.underlying59 hi hz0 hz1 hz2 rfl (by decide) (by decide) rfl rfl HTa4.out HTb.out HB4.out.size HLN.out ?_)
    intro v7 w7 hT7 hB7
    have HT7 := Lib.hid (show Twos 78 w7 w.heap.size v7 (usa ++ usb) ((walksOf g p T).map cmp) by rw [← HWE.out]; exact hT7.le HMW.out.size)
    have HB7 := Lib.hid (trans2 HMW.out (HB4.out.trans hB7))
    clear hT7 hB7 HTa4 HTb HLN HWE
    go_wp2
    go_ret2
    exact ⟨HB7.out, .inr ⟨HTU.out, v7, _, rfl, HT7.out⟩⟩
end Go.Proofs.YtmbpmepoaonleaaGreat.Fc

/-! The program's leaves, start: the vertex at which a walk begins. -/
namespace Go.Proofs.YtmbpmepoaonleaaGreat.Fc
open Go.Proofs.YtmbpmepoaonleaaGreat Go.RowKit Go.Maps

set_option maxRecDepth 100000 in
set_option maxHeartbeats 1000000 in
theorem leaves_any (v : Value) (g : Gph) (d : Nat) (w : World) (h : Gr w v g) (hd : d < 2 * g.e.length) (hl : g.e.length ≤ 1000000) :
    Calls Tryz.prog 145 #[v, .int .i64 (d : Int)] w fun e w' => e = .returned (.int .i64 (tailOf g d)) ∧ Below w.heap.size w w' := by
  obtain ⟨ve, rfl, h1⟩ := h
  obtain ⟨Ae, ce, rfl⟩ := h1.form
  obtain ⟨b1, hm⟩ := one_box w (.int .i64 g.n) (.slice Ae g.e.length ce) 24
  obtain ⟨be, oe, rfl, hbe, hca, hcb⟩ := edges_at (h1.below hm) (show d / 2 < g.e.length by omega)
  have c0 := b1.c0
  have c1 := b1.c1
  have HM := Lib.hid hm
  have hr := rem_nat d
  have hq := quo_nat d
  have hlt : ((d / 2 : Nat) : Int) < (g.e.length : Int) := by omega
  have h0 : (0 : Int) ≤ ((d / 2 : Nat) : Int) := by omega
  generalize hi : d / 2 = i at *
  clear b1 hm
  by_cases h2 : d % 2 = 0
  · have HN := Lib.hid (show (getE g.e i).a = tailOf g d by unfold tailOf; rw [if_pos h2, hi])
    rw [h2] at hr
    clear h2
    go_enter Tryz.func145, Tryz.ntmps145
    go_wp2
    go_ret
    exact ⟨ret_int HN.out, HM.out⟩
  · have HN := Lib.hid (show (getE g.e i).b = tailOf g d by unfold tailOf; rw [if_neg h2, hi])
    have h3 : d % 2 = 1 := by omega
    rw [h3] at hr
    clear h2 h3
    go_enter Tryz.func145, Tryz.ntmps145
    go_wp2
    go_ret
    exact ⟨ret_int HN.out, HM.out⟩

set_option maxRecDepth 100000 in
set_option maxHeartbeats 2000000 in
theorem start_any (v : Value) (g : Gph) (k : Int) (A : Option Addr) (n c : Nat) (w : World) (h : Gr w v g) (hl : g.e.length ≤ 1000000) (hk : (n = 0 ∧ k < 0 ∧ -1000000 ≤ k) ∨ (0 < n ∧ 0 ≤ k ∧ k < 2 * g.e.length)) :
    Calls Tryz.prog 140 #[v, .agg #[.int .i64 k, .slice A n c]] w fun e w' => e = .returned (.int .i64 (crn g k)) ∧ Below w.heap.size w w' := by
  have HG := Lib.hid h
  obtain ⟨ve, rfl, h1⟩ := h
  obtain ⟨Ae, ce, rfl⟩ := h1.form
  obtain ⟨b1, b2, hm⟩ := two_boxes w (.int .i64 g.n) (.slice Ae g.e.length ce) (.int .i64 k) (.slice A n c) 24 78
  have HM := Lib.hid hm
  have HG1 := Lib.hid (HG.out.below hm)
  have x0 := b1.c0
  have x1 := b1.c1
  have y0 := b2.c0
  have y1 := b2.c1
  rcases hk with ⟨rfl, hneg, hk0⟩ | ⟨hn, hk0, hk1⟩
  · have HN := Lib.hid (show crn g k = -1 - k from if_pos hneg)
    clear b1 b2 hm h1 HG
    go_enter Tryz.func140, Tryz.ntmps140
    go_wp2
    go_ret
    exact ⟨ret_int HN.out.symm, HM.out⟩
  · obtain ⟨kn, rfl⟩ : ∃ kn : Nat, k = (kn : Int) := ⟨k.toNat, by omega⟩
    have HN := Lib.hid (show crn g (kn : Int) = tailOf g kn by unfold crn; rw [if_neg (by omega), Int.toNat_natCast])
    have HC := Lib.hid (leaves_any _ g kn _ HG1.out (by omega) hl)
    have t1 : ((n : Int) == 0) = false := beq_eq_false_iff_ne.2 (by omega)
    clear b1 b2 hm h1 HG hn
    go_enter Tryz.func140, Tryz.ntmps140
    go_wp2_with fail
    refine HC.out.mono ?_
    rintro e w2 ⟨rfl, hB⟩
    have HB := Lib.hid (trans2 HM.out hB)
    clear hB x0 x1 y0 y1
    go_wp2
    go_ret
    exact ⟨ret_int HN.out.symm, HB.out⟩

/-! ### Which piece a vertex is in -/

def plc (ps : List Prt) (x : Int) : Nat := ((List.range ps.length).find? fun j => decide (x ∈ (getP ps j).v)).getD 0
theorem plc_of {ps : List Prt} (hav : ∀ i j, i < ps.length → j < ps.length → i ≠ j → ∀ x ∈ (getP ps i).v, x ∉ (getP ps j).v) {j : Nat} {x : Int} (hj : j < ps.length) (hx : x ∈ (getP ps j).v) : plc ps x = j := by
  unfold plc
  rw [find_first (fun j => decide (x ∈ (getP ps j).v)) hj (decide_eq_true hx) (fun i hi => decide_eq_false (hav j i hj (by omega) (by omega) x hx))]
  rfl
theorem getT_vs (ps : List Prt) (k : Nat) : Rt.getT (ps.map Prt.v) k = (getP ps k).v := by
  unfold Rt.getT getP
  rw [List.getD_eq_getElem?_getD, List.getD_eq_getElem?_getD, List.getElem?_map]
  cases ps[k]? <;> rfl
def plF (ps : List Prt) (x : Int) : DataW Unit := .lit (.int .i64 (plc ps x : Nat))

/-! ### How many walks begin in each -/

def beginsB (g : Gph) (q : Prt) (x : Wlk) : Bool := decide (crn g x.1 ∈ q.v)
def cntTo (g : Gph) (ps : List Prt) (L : List Wlk) (k : Nat) : List Int := ps.map fun q => (((L.take k).countP (beginsB g q) : Nat) : Int)
theorem cntTo_len (g : Gph) (ps : List Prt) (L : List Wlk) (k : Nat) : (cntTo g ps L k).length = ps.length := List.length_map _
theorem cntTo_zero (g : Gph) (ps : List Prt) (L : List Wlk) : cntTo g ps L 0 = List.replicate ps.length 0 := by
  unfold cntTo
  rw [List.take_zero]
  apply List.ext_getElem
  · simp
  · intro i h1 h2
    simp
theorem cntTo_le (g : Gph) (ps : List Prt) (L : List Wlk) (k i : Nat) (hi : i < ps.length) : 0 ≤ getI (cntTo g ps L k) i ∧ getI (cntTo g ps L k) i ≤ k := by
  rw [getI_of _ _ (by rw [cntTo_len]; exact hi)]
  unfold cntTo
  rw [List.getElem_map]
  have := List.countP_le_length (p := beginsB g ps[i]) (l := L.take k)
  rw [List.length_take] at this
  omega
theorem cntTo_succ {g : Gph} {ps : List Prt} {L : List Wlk} {k i : Nat} (hk : k < L.length) (hi : i < ps.length) (hx : crn g (L[k]).1 ∈ (getP ps i).v) (hav : ∀ i j, i < ps.length → j < ps.length → i ≠ j → ∀ x ∈ (getP ps i).v, x ∉ (getP ps j).v) :
    cntTo g ps L (k + 1) = (cntTo g ps L k).set i (getI (cntTo g ps L k) i + 1) := by
  apply List.ext_getElem
  · rw [List.length_set, cntTo_len, cntTo_len]
  · intro j h1 h2
    rw [cntTo_len] at h1
    have e1 : (L.take (k + 1)).countP (beginsB g ps[j]) = (L.take k).countP (beginsB g ps[j]) + (if beginsB g ps[j] L[k] = true then 1 else 0) := by
      rw [List.take_succ_eq_append_getElem hk, List.countP_append, List.countP_singleton]
    have hgi : getI (cntTo g ps L k) i = (((L.take k).countP (beginsB g ps[i]) : Nat) : Int) := by
      rw [getI_of _ _ (by rw [cntTo_len]; exact hi)]
      unfold cntTo
      rw [List.getElem_map]
    have hl1 : ∀ m (h : j < (cntTo g ps L m).length), (cntTo g ps L m)[j] = (((L.take m).countP (beginsB g ps[j]) : Nat) : Int) := fun m h => List.getElem_map ..
    rw [hl1]
    by_cases e : i = j
    · subst e
      have : beginsB g ps[i] L[k] = true := decide_eq_true (by rw [← getP_of hi]; exact hx)
      rw [List.getElem_set_self, hgi, e1, if_pos this]
      omega
    · have : ¬ beginsB g ps[j] L[k] = true := fun h => hav i j hi h1 e _ hx (by rw [getP_of h1]; exact of_decide_eq_true h)
      rw [List.getElem_set_ne e, hl1, e1, if_neg this]
      omega
theorem cntTo_all (g : Gph) (ps : List Prt) (L : List Wlk) : cntTo g ps L L.length = ps.map fun q => ((L.countP (beginsB g q) : Nat) : Int) := by
  unfold cntTo
  rw [List.take_length]
end Go.Proofs.YtmbpmepoaonleaaGreat.Fc

/-! The program's countWalks. -/
namespace Go.Proofs.YtmbpmepoaonleaaGreat.Fc
open Go.Proofs.YtmbpmepoaonleaaGreat Go.RowKit Go.Maps

/-- One of the walks: where it lies, and what it reads as. -/
theorem fwalk_at {w : World} {A : Option Addr} {n c : Nat} {L : List Wlk} (h : TwoL w (.slice A n c) (L.map cmp)) {j : Nat} (hj : j < L.length) :
    ∃ b, A = some ⟨b, 0, none⟩ ∧ b < w.heap.size ∧ w.cell? ⟨b, j * 2, none⟩ = some (.int .i64 (L[j]).1) ∧ ∃ A' c', w.cell? ⟨b, j * 2 + 1, none⟩ = some (.slice A' (L[j]).2.length c') := by
  obtain ⟨b, h1, h2, h3, A', c', h4, _⟩ := TwoL.walk h hj
  exact ⟨b, h1, h2, h3, A', c', h4⟩

theorem own_get {w : World} {base gb n i : Nat} {l : List Int} (h : w.ownsRow base 3 1 (.slice (some ⟨gb, 0, none⟩) n n) n (l.map (Value.int .i64))) (hn : l.length = n) (hi : i < n) : w.cell? ⟨gb, i, none⟩ = some (.int .i64 (getI l i)) := by
  subst hn
  obtain ⟨_, _, e, _, _, hr⟩ := Ints.of_own h
  cases e
  obtain ⟨b, off, hA, _, hg⟩ := hr (by omega)
  cases hA
  have := hg i hi
  rwa [Nat.zero_add] at this

set_option maxRecDepth 100000 in
set_option maxHeartbeats 8000000 in
theorem countWalks_any (v v2 : Value) (A : Option Addr) (cap : Nat) (g : Gph) (ps : List Prt) (L : List Wlk) (w : World) (h : Gr w v g) (hl : g.e.length ≤ 1000000)
    (hP : PList w A ps) (hps : ps.length ≤ 100000) (hpv : ∀ j, j < ps.length → (getP ps j).v.length ≤ 100000) (hav : ∀ i j, i < ps.length → j < ps.length → i ≠ j → ∀ x ∈ (getP ps i).v, x ∉ (getP ps j).v) (hwf : ∀ j, j < ps.length → ∀ x ∈ (getP ps j).v, (Lit.int .i64 x).wf = true)
    (hL : TwoL w v2 (L.map cmp)) (hLl : L.length ≤ 1000000) (hk : ∀ x ∈ L, (x.2.length = 0 ∧ x.1 < 0 ∧ -1000000 ≤ x.1) ∨ (0 < x.2.length ∧ 0 ≤ x.1 ∧ x.1 < 2 * (g.e.length : Int))) (hcov : ∀ x ∈ L, ∃ j, j < ps.length ∧ crn g x.1 ∈ (getP ps j).v) :
    Calls Tryz.prog 126 #[v, .slice A ps.length cap, v2] w fun e w' => ∃ u, e = .returned u ∧ Row w' w.heap.size u (ps.map fun q => ((L.countP (beginsB g q) : Nat) : Int)) ∧ Below w.heap.size w w' := by
  obtain ⟨i0, hi, hz0, hz1, hz2⟩ := info_parts Tryz.infoInt
  have HG := Lib.hid h
  obtain ⟨ve, rfl, h1⟩ := h
  obtain ⟨Ae, ce, rfl⟩ := h1.form
  obtain ⟨A2, c2, rfl, -⟩ := id hL
  rw [List.length_map] at hL ⊢
  obtain ⟨b1, hm⟩ := one_box w (.int .i64 g.n) (.slice Ae g.e.length ce) 24
  have hsz : (w.alloc (.cells #[.int .i64 g.n, .slice Ae g.e.length ce] 24)).heap.size = w.heap.size + 1 := by simp
  have HB1 := Lib.hid b1
  have HM := Lib.hid hm
  have HS := Lib.hid hsz
  have HG1 := Lib.hid (HG.out.below hm)
  have HPL := Lib.hid (hP.below hm)
  have HL := Lib.hid (hL.below hm)
  have HPV := Lib.hid hpv
  have HAV := Lib.hid hav
  have HWF := Lib.hid hwf
  have HK := Lib.hid hk
  have HCV := Lib.hid hcov
  have HGT := Lib.hid (fun k => getT_vs ps k)
  have hmm := @run_makeMap Tryz.prog
  clear b1 hm hsz h1 HG hP hpv hav hwf hL hk hcov
  go_enter Tryz.func126, Tryz.ntmps126
  go_wp2
  generalize w.alloc (.cells #[.int .i64 g.n, .slice Ae g.e.length ce] 24) = w1 at *
  go_loopw [18] (fun i wr => ∃ k n D, k ≤ ps.length ∧ n ≤ 100000 * k ∧ i = .int .i64 (k : Nat) ∧ Hid (wr.ownsMap Tryz.prog 3 (plainElem (H := Unit) Tryz.prog 3) (w.heap.size + 1) n D) ∧ Hid (Rt.Hd D (Rt.Met (ps.map Prt.v) k 0) (plF ps)) ∧ Hid (Below w1.heap.size w1 wr)) (fun i _ => ps.length - (Go.RowKit.intOf i).toNat)
  case atStart => exact ⟨0, 0, _, Nat.zero_le _, Nat.zero_le _, rfl, Lib.hid (by rw [← HS.out]; exact World.ownsMap_made w1 Tryz.prog 3 _), Lib.hid ((Rt.Hd.start _).cong (fun x => ⟨fun h => Rt.Met.start _ x h, fun h => h.elim⟩)), Lib.hid (below_alloc _)⟩
  case round =>
    obtain ⟨k, n, D, hk, hnk, rfl, hO, hD, hB⟩ := hrel
    obtain ⟨wo, hwo⟩ : ∃ z, z = wr := ⟨_, rfl⟩
    subst hwo
    by_cases hlt : k < ps.length
    · obtain ⟨gb, A1, cv, A3, ce2, rfl, hgb, hc1, hc2, hi1, _⟩ := (HPL.out.below hB.out) k hlt
      have HI1 := Lib.hid hi1
      have hvl := HPV.out k hlt
      have HE := Lib.hid (HGT.out k)
      obtain ⟨bx, hmx⟩ := one_box wo (.slice A1 (getP ps k).v.length cv) (.slice A3 (getP ps k).e.length ce2) 27
      have z0 := bx.c0
      have HX := Lib.hid bx
      have HMX := Lib.hid hmx
      have HO0 := Lib.hid (Rt.map_at hO.out (hmx.block _ hO.out.lt))
      have HBX := Lib.hid (trans2 hB.out hmx)
      have HIX := Lib.hid (hi1.below hmx)
      clear hi1 bx hmx hO
      go_wp2
      clear z0 hc1 hc2
      generalize wo.alloc (.cells #[.slice A1 (getP ps k).v.length cv, .slice A3 (getP ps k).e.length ce2] 27) = wx at *
      go_loopw [26] (fun i wr => ∃ j n' D, j ≤ (getP ps k).v.length ∧ n' ≤ n + j ∧ i = .int .i64 (j : Nat) ∧ Hid (wr.ownsMap Tryz.prog 3 (plainElem (H := Unit) Tryz.prog 3) (w.heap.size + 1) n' D) ∧ Hid (Rt.Hd D (Rt.Met (ps.map Prt.v) k j) (plF ps)) ∧ Hid (Below w1.heap.size w1 wr) ∧ Hid (wx.mapTurned wr (w.heap.size + 1))) (fun i _ => (getP ps k).v.length - (Go.RowKit.intOf i).toNat)
      case atStart => exact ⟨0, n, D, Nat.zero_le _, Nat.le_refl _, rfl, HO0, hD, HBX, Lib.hid HO0.out.turned_refl⟩
      case round =>
        clear hD hB HO0 HBX
        obtain ⟨j, n', D2, hj, hn', rfl, hO, hD, hB, hT⟩ := hrel
        by_cases hjl : j < (getP ps k).v.length
        · obtain ⟨ub, uo, rfl, hub, huc⟩ := ints_at (ints_turned HIX.out hT.out) hjl
          have hxm : getI (getP ps k).v j ∈ (getP ps k).v := Rt.getI_in _ _ hjl
          have hkey := keyOf_int_mk Tryz.underlying3 (HWF.out k hlt _ hxm)
          have HPF := Lib.hid (show plF ps (getI (getP ps k).v j) = .lit (.int .i64 (k : Nat)) by unfold plF; rw [plc_of HAV.out hlt hxm])
          have HST := Lib.hid (fun x => Rt.Met.step (T := ps.map Prt.v) (k := k) (j := j) (by rw [HE.out]; exact hjl) x)
          rw [HE.out] at HST
          have hwk : (Lit.int .i64 (k : Int)).wf = true := WalkArith.wf_i64 (by omega)
          have HDP := Lib.hid (hD.out.put (getI (getP ps k).v j))
          rw [HPF.out] at HDP
          clear hub hxm hD
          generalize getI (getP ps k).v j = x at *
          go_wp2_with (at_mapUpdate; refine wpList_mapUpdate_in _ rfl _ _ _ 62 rfl 3 3 Tryz.keyInt Tryz.underlying62 _ (w.heap.size + 1) n' D2 rfl hO.out (by unfold maxLen; omega) _ _ _ rfl rfl hkey _ [] (plainElem_int Tryz.underlying3 hwk) ?_)
          intro w8 hO8 ht8
          have HO8 := Lib.hid hO8
          have HB8 := Lib.hid (Rt.below_turned hB.out ht8 (by rw [HS.out]; exact Nat.le_refl _) hB.out.size)
          have HT8 := Lib.hid (hT.out.trans ht8)
          clear hO8 ht8 huc hO hB hT
          go_wp2
          go_roundw
          case rel => exact ⟨j + 1, n' + 1, _, by omega, by omega, by go_num, HO8, Lib.hid (HDP.out.cong HST.out), HB8, HT8⟩
          case measure => simp [Go.RowKit.intOf]; omega
        · obtain rfl : j = (getP ps k).v.length := by omega
          have HDN := Lib.hid (hD.out.cong (fun x => Rt.Met.next (T := ps.map Prt.v) (k := k) x |>.trans (by rw [HE.out])))
          go_wp2
          go_roundw
          case rel => exact ⟨k + 1, n', D2, by omega, by omega, by go_num, hO, HDN, hB⟩
          case measure => simp [Go.RowKit.intOf]; omega
    · obtain rfl : k = ps.length := by omega
      have HD := Lib.hid hD.out
      go_wp2_with (at_make; refine wpList_make_full _ rfl _ _ 25 rfl wo.heap.size 3 i0 (.int .i64 0) 1 Tryz.underlying25 hi hz0 hz1 .i64 .i64 _ _ ps.length rfl rfl rfl rfl (by rw [hz2]; omega) (by unfold maxLen; omega) (Nat.le_refl _) ?_)
      intro w5 hown hgrow
      rw [toList_madeCells_one] at hown
      have hB5 : Below wo.heap.size wo w5 := (Below.refl wo.heap.size wo).grown hgrow (Nat.le_refl _) (fun _ e => by cases e)
      have HR0 := Lib.hid (show w5.ownsRow wo.heap.size 3 1 (.slice (some ⟨wo.heap.size, 0, none⟩) ps.length ps.length) ps.length ((cntTo g ps L 0).map (Value.int .i64)) by rw [cntTo_zero, List.map_replicate]; exact hown)
      have HB0 := Lib.hid hB5
      have HBo := Lib.hid hB.out
      have HOo := Lib.hid hO.out
      have HLo := Lib.hid (HL.out.below hB.out)
      have HGo := Lib.hid (HG1.out.below hB.out)
      have HXo := Lib.hid (HB1.out.below hB.out)
      have hmo : w.heap.size + 1 < wo.heap.size := hO.out.lt
      clear hown hgrow hB5 hO hB hD hlt hnk hk hmm
      go_wp2
      go_loopw [40] (fun i wr => ∃ k, k ≤ L.length ∧ i = .int .i64 (k : Nat) ∧ Hid (wr.ownsRow wo.heap.size 3 1 (.slice (some ⟨wo.heap.size, 0, none⟩) ps.length ps.length) ps.length ((cntTo g ps L k).map (Value.int .i64))) ∧ Hid (Below wo.heap.size wo wr)) (fun i _ => L.length - (Go.RowKit.intOf i).toNat)
      case atStart => exact ⟨0, Nat.zero_le _, rfl, HR0, HB0⟩
      case round =>
        clear HR0 HB0
        obtain ⟨k, hk, rfl, hR, hB⟩ := hrel
        obtain ⟨wq, hwq⟩ : ∃ z, z = wr := ⟨_, rfl⟩
        subst hwq
        by_cases hlt : k < L.length
        · obtain ⟨bL, rfl, hbL, hcL1, A', c', hcL2⟩ := fwalk_at (HLo.out.below hB.out) hlt
          have hkk := HK.out _ (List.getElem_mem hlt)
          obtain ⟨i, hip, hiv⟩ := HCV.out _ (List.getElem_mem hlt)
          have HSU := Lib.hid (cntTo_succ hlt hip hiv HAV.out)
          have hle := cntTo_le g ps L k i hip
          have hkey := keyOf_int_mk Tryz.underlying3 (HWF.out i hip _ hiv)
          have HPC := Lib.hid (plc_of HAV.out hip hiv)
          have hmet : Rt.Met (ps.map Prt.v) ps.length 0 (crn g (L[k]).1) := .inl ⟨i, hip, by rw [getT_vs]; exact hiv⟩
          have HAT := Lib.hid (fun c (hc : D.atKey (.int .i64 (crn g (L[k]).1)) (.lit (.int .i64 0)) = .lit (.int .i64 c)) => show c = (i : Int) by
            have := (HD.out.at_ _ hmet (.lit (.int .i64 0))).symm.trans hc
            unfold plF at this
            rw [HPC.out] at this
            simpa using this.symm)
          obtain ⟨key, hkeq⟩ : ∃ key, (L[k]).1 = key := ⟨_, rfl⟩
          obtain ⟨nd, hnd⟩ : ∃ nd, (L[k]).2.length = nd := ⟨_, rfl⟩
          rw [hkeq] at hcL1 hkk hiv hkey HAT
          rw [hnd] at hcL2 hkk
          obtain ⟨bx, hmx⟩ := one_box wq (.int .i64 key) (.slice A' nd c') 78
          have z0 := bx.c0
          have z1 := bx.c1
          have hBx := hB.out.trans (hmx.mono hB.out.size)
          have c0 := (HXo.out.below hBx).c0
          have c1 := (HXo.out.below hBx).c1
          have HST := Lib.hid (start_any _ g key A' nd c' _ (HGo.out.below hBx) hl hkk)
          have HBX := Lib.hid hBx
          have HRX := Lib.hid (own_below hR.out hmx)
          clear hmet hkeq hnd hkk hiv bx hmx hBx hR
          generalize crn g key = cv at *
          go_wp2_with fail
          clear z0 z1 c0 c1 hcL1 hcL2
          generalize wq.alloc (.cells #[.int .i64 key, .slice A' nd c'] 78) = wx at *
          refine HST.out.mono ?_
          rintro e w7 ⟨rfl, hB7⟩
          have HR7 := Lib.hid (own_below HRX.out hB7)
          have HB7 := Lib.hid (HBX.out.trans (hB7.mono HBX.out.size))
          have HM7 := Lib.hid (Rt.map_at HOo.out (HB7.out.block _ hmo))
          have hce := own_get HR7.out (cntTo_len g ps L k) hip
          have hfz := HR7.out.frozenAt i
          have HST7 := Lib.hid (fun u => (HR7.out.stored i u).1)
          clear hB7 HST HRX HBX
          generalize hx0 : getI (cntTo g ps L k) i = x0 at *
          have hi0 : (0 : Int) ≤ (i : Int) := by omega
          have hi1 : (i : Int) < (ps.length : Int) := by omega
          have HCE := Lib.hid hce
          go_wp2_with (at_lookup; refine wpList_lookup_own_int _ rfl _ _ 62 rfl 3 3 .i64 Tryz.keyInt Tryz.underlying62 Tryz.underlying3 (Tryz.zeroInt _) (w.heap.size + 1) n D rfl HM7.out _ _ rfl hkey ?_; intro c hat hwc; obtain rfl := HAT.out c hat; clear hat hwc)
          have HRN := Lib.hid (show (w7.setCell ⟨wo.heap.size, i, none⟩ (.int .i64 (x0 + 1))).ownsRow wo.heap.size 3 1 (.slice (some ⟨wo.heap.size, 0, none⟩) ps.length ps.length) ps.length ((cntTo g ps L (k + 1)).map (Value.int .i64)) by
            rw [HSU.out, List.map_set]
            exact HST7.out (.int .i64 (x0 + 1)))
          have HBN := Lib.hid (HB7.out.setCell (p := ⟨wo.heap.size, i, none⟩) (Nat.le_refl _) (.int .i64 (x0 + 1)))
          clear HST7 HSU HR7
          go_wp2
          go_roundw
          case rel => exact ⟨k + 1, by omega, by go_num, HRN, HBN⟩
          case measure => simp [Go.RowKit.intOf]; omega
        · obtain rfl : k = L.length := by omega
          have HZ := Lib.hid (trans2 (trans2 HM.out HBo.out) hB.out)
          have HF := Lib.hid (cntTo_all g ps L)
          have HRF := Lib.hid (show Row wq w.heap.size (.slice (some ⟨wo.heap.size, 0, none⟩) ps.length ps.length) (cntTo g ps L L.length) from by
            show wq.ownsRow _ _ _ _ _ _
            rw [cntTo_len]
            exact own_le hR.out (trans2 HM.out HBo.out).size)
          rw [HF.out] at HRF
          clear hR hB
          go_wp2
          go_ret
          exact ⟨_, rfl, HRF.out, HZ.out⟩
end Go.Proofs.YtmbpmepoaonleaaGreat.Fc
