/-
  RtQ, RtR, in one text.
-/
import Derived.Test.YtmbpmepoaonleaaGreatM09
import Derived.Test.YtmbpmepoaonleaaGreatM07
import Derived.Test.YtmbpmepoaonleaaGreatM12
import Derived.Maps.AppendAt
/-! The document's Equal and First of lists of lists; the law's Small. -/
namespace Go.Proofs.YtmbpmepoaonleaaGreat.Rt
open Go.Proofs.YtmbpmepoaonleaaGreat Go.RowKit

theorem lists_ne {T U : List (List Int)} {k : Nat} (h : getT T k ≠ getT U k) : decide (T = U) = false := by simpa using fun e : T = U => h (by rw [e])

set_option maxRecDepth 100000 in
set_option maxHeartbeats 2000000 in
theorem r6Equal_any (v u : Value) (T U : List (List Int)) (w : World) (h : LL w v T) (h' : LL w u U) (hr : ∀ j, (getT T j).length ≤ 4000000) :
    Calls Tryz.prog 15 #[v, u] w fun e w' => e = .returned (.bool (decide (T = U))) ∧ ∃ n, w' = w.drewN n := by
  have HV := Lib.hid h
  have HU := Lib.hid h'
  obtain ⟨A, cap, rfl, hcap, hm⟩ := h.form
  obtain ⟨A', cap', rfl, hcap', hm'⟩ := h'.form
  unfold maxLen at hm hm'
  clear h h'
  by_cases hlen : T.length = U.length
  case neg =>
    have HF := Lib.hid (show decide (T = U) = false by simpa using fun e : T = U => hlen (by rw [e]))
    have hne' : ((T.length : Int) != (U.length : Int)) = true := by simp; omega
    clear hlen HV HU
    go_enter Tryz.func15, Tryz.ntmps15
    go_wp2
    go_ret
    exact ⟨ret_bool HF.out.symm, 0, rfl⟩
  have HL := Lib.hid hlen
  have hne' : ((T.length : Int) != (U.length : Int)) = false := by simp; omega
  have hle : T.length ≤ U.length := by omega
  clear hlen
  go_enter Tryz.func15, Tryz.ntmps15
  go_wp2
  go_loopw [5] (fun i wr => ∃ k : Nat, k ≤ T.length ∧ i = .int .i64 k ∧ Hid (∃ n, wr = w.drewN n) ∧ Hid (∀ j, j < k → getT T j = getT U j)) (fun i _ => T.length - (Go.RowKit.intOf i).toNat)
  case atStart => exact ⟨0, Nat.zero_le _, rfl, Lib.hid ⟨0, rfl⟩, Lib.hid (fun j hj => absurd hj (Nat.not_lt_zero _))⟩
  case round =>
    obtain ⟨k, hk, rfl, hn, heq⟩ := hrel
    rename_i wr
    have HW := Lib.hid (show Below w.heap.size w wr by obtain ⟨n, rfl⟩ := hn.out; exact below_drewN' w n)
    by_cases hlt : k < T.length
    · obtain ⟨b, off, rfl, hb, A1, c1, hck, hi⟩ := (HV.out.below HW.out).get hlt
      obtain ⟨b', off', rfl, hb', A2, c2, hck', hi'⟩ := (HU.out.below HW.out).get (show k < U.length by omega)
      have HC := Lib.hid (fun n => requal_any _ _ _ _ (wr.drewN n) (hi.drewN n) (hi'.drewN n) (hr k))
      have HD := Lib.hid (fun m => show ∃ n, wr.drewN m = w.drewN n by obtain ⟨n, rfl⟩ := hn.out; exact ⟨_, World.drewN_drewN _ _ _⟩)
      have hlt' : k < U.length := by omega
      clear hi hi' HW hn
      by_cases he : getT T k = getT U k
      · have HK := Lib.hid he
        simp only [decide_eq_true he] at HC
        clear he
        generalize (getT T k).length = n1 at *
        generalize (getT U k).length = n2 at *
        go_wp2_with fail
        go_quiet ((go_at_call 32; exact Calls.quiet_of (HC.out _)))
        go_wp2
        go_roundw
        case rel => exact ⟨k + 1, by omega, by go_num, Lib.hid (HD.out _), Lib.hid (fun j hj => by
          by_cases e : j = k
          · rw [e]; exact HK.out
          · exact heq.out j (by omega))⟩
        case measure => simp [Go.RowKit.intOf]; omega
      · have HF := Lib.hid (lists_ne he)
        simp only [decide_eq_false he] at HC
        clear he
        generalize (getT T k).length = n1 at *
        generalize (getT U k).length = n2 at *
        go_wp2_with fail
        go_quiet ((go_at_call 32; exact Calls.quiet_of (HC.out _)))
        go_wp2
        go_ret
        exact ⟨ret_bool HF.out.symm, HD.out _⟩
    · obtain rfl : k = T.length := by omega
      have HF := Lib.hid (show decide (T = U) = true by simpa using getT_ext T U HL.out heq.out)
      go_wp2
      go_ret
      exact ⟨ret_bool HF.out.symm, hn.out⟩

theorem Tryz.infoInts : (Tryz.prog.info? 25).map (fun i => (i.zero, i.size, i.bytes)) = some (some (.slice none 0 0), 1, 24) := by kernel_rfl

/-- append(T, l): the lists have one more. -/
theorem wpList_append_list {wr : World} {ops : Array Oper} {rest : List Oper} {o : Oper} {a : Act} {Q : Exit → Act → World → Prop} (hgd : o.guard = none) (s x : Operand)
    (ho : o.op = .call { callee := .builtin .append, args := #[s, x], argTypes := #[28, 28] })
    {base : Nat} {v u : Value} {us : List Value} {T : List (List Int)} {l : List Int} (hs : a.eval s = v) (hx : a.eval x = .slice (some ⟨wr.heap.size, 0, none⟩) 1 1) (hM : Made wr base v us T) (hu : wr.ownsRow base 3 1 u l.length (l.map (Value.int .i64)))
    (hbase : base ≤ wr.heap.size) (hL : T.length ≤ 1000000)
    (h : ∀ v' us' w', Made w' base v' us' (T ++ [l]) → (wr.alloc (.cells #[u] 25)).grownBy w' v.ownBlock → Below base wr w' → wpList Tryz.prog ops Q rest (a.put o.dst v') w') : wpList Tryz.prog ops Q (o :: rest) a (wr.alloc (.cells #[u] 25)) := by
  obtain ⟨i0, hi, hz0, hz1, hz2⟩ := info_parts Tryz.infoInts
  have hl := hM.len
  have hone : u.oneCell' = true := by
    rcases hu.2 with ⟨rfl, _⟩ | ⟨g, cap, cur, rfl, _⟩ <;> rfl
  have hM2 := hM.below (below_alloc (.cells #[u] 25))
  refine wpList_append_own _ hgd s x 28 ho base 25 i0 _ 1 24 Tryz.underlying28 hi hz0 hz1 hz2 rfl (by decide) v us.length us hs hM2.own ⟨wr.heap.size, 0, none⟩ 1 1 [u] hx rfl (cell_one_new _ _ _) (fun u' hu' => by simp at hu'; rw [hu']; exact hone) (by unfold maxLen; omega) (by omega) (by simp; omega) ?_
  intro v' w1 h1 h2 _
  exact h v' _ w1 (hM2.push (own_below hu (below_alloc _)) h2 h1) h2 (((Below.refl base wr).alloc hbase _).grown h2 (by simp; omega) (fun k hk => (World.ownsRow.lt hM.own k hk).1))

theorem own_base' {w : World} {base base' : Nat} {e : TypeId} {size : Nat} {v : Value} {n : Nat} {xs : List Value} (h : w.ownsRow base e size v n xs) (hb : base' ≤ base) : w.ownsRow base' e size v n xs := by
  refine ⟨h.1, ?_⟩
  rcases h.2 with hn | ⟨g, cap, cur, rfl, hbg, rest⟩
  · exact .inl hn
  · exact .inr ⟨g, cap, cur, rfl, Nat.le_trans hb hbg, rest⟩

theorem Made.shape {w : World} {base : Nat} {v : Value} {us : List Value} {T : List (List Int)} (h : Made w base v us T) : ∃ A c, v = .slice A T.length c := by
  rcases h.own.2 with ⟨rfl, h0⟩ | ⟨g, cap, cur, rfl, _⟩
  · have hl := h.len
    exact ⟨none, 0, by rw [show T.length = 0 by omega]⟩
  · exact ⟨_, _, by rw [h.len]⟩

theorem refFst_any (v : Value) (l : List Int) (w : World) (h : Ints w v l) (hl : l.length ≤ 1000000) :
    Calls Tryz.prog 41 #[v] w fun e w' => ∃ u, e = .returned u ∧ Row w' w.heap.size u (fst l) ∧ Below w.heap.size w w' :=
  (refFirst_any v l w h hl).mono fun e w' h => by
    obtain ⟨u, rfl, hu, hb⟩ := h
    refine ⟨u, rfl, ?_, hb⟩
    show w'.ownsRow _ _ _ _ _ _
    rw [fst_len]
    exact hu

set_option maxRecDepth 100000 in
set_option maxHeartbeats 2000000 in
theorem r6First_any (v : Value) (T : List (List Int)) (w : World) (h : LL w v T) (hl : T.length ≤ 1000000) (hr : ∀ j, (getT T j).length ≤ 1000000) :
    Calls Tryz.prog 16 #[v] w fun e w' => ∃ u us, e = .returned u ∧ Made w' w.heap.size u us (T.map fst) ∧ Below w.heap.size w w' := by
  have HV := Lib.hid h
  obtain ⟨A, cap, rfl, hcap, hm⟩ := h.form
  clear h
  go_enter Tryz.func16, Tryz.ntmps16
  go_wp2
  go_loopw [3, 4] (fun o i wr => ∃ k us, k ≤ T.length ∧ i = .int .i64 (k : Nat) ∧ Hid (Below w.heap.size w wr) ∧ Hid (Made wr w.heap.size o us ((T.take k).map fst))) (fun _ i _ => T.length - (Go.RowKit.intOf i).toNat)
  case atStart => exact ⟨0, [], Nat.zero_le _, rfl, Lib.hid (Below.refl _ _), Lib.hid (Made.start _ _)⟩
  case round =>
    obtain ⟨k, us, hk, rfl, hB, hM⟩ := hrel
    rename_i o wr
    by_cases hlt : k < T.length
    · obtain ⟨b, off, rfl, hb, A1, c1, hck, hi⟩ := (HV.out.below hB.out).get hlt
      obtain ⟨Ao, co, hso⟩ := hM.out.shape
      have HS := Lib.hid (show (T.take (k + 1)).map fst = (T.take k).map fst ++ [fst (getT T k)] by rw [take_getT T k hlt]; simp)
      have HN := Lib.hid (show ((T.take k).map fst).length ≤ 1000000 by simp; omega)
      have HF := Lib.hid (refFst_any _ _ wr hi (hr k))
      have hne : ((T.take k).map fst).length = k := by simp; omega
      rw [hne] at hso
      subst hso
      clear hi hne
      generalize (getT T k).length = n1 at *
      go_wp2_with fail
      refine HF.out.mono ?_
      rintro e w1 ⟨u, rfl, hu, hB1⟩
      have HB1 := Lib.hid (hB.out.trans (hB1.mono hB.out.size))
      have HM1 := Lib.hid (hM.out.below hB1)
      have HU := Lib.hid (Row.le hu hB.out.size)
      obtain ⟨Au, cu, rfl⟩ := ints_form (Row.ints hu)
      clear hu hB1 hM
      generalize fst (getT T k) = fl at *
      go_wp2_with (at_builtin; refine wpList_append_list rfl _ _ rfl (v := .slice Ao k co) rfl rfl HM1.out HU.out HB1.out.size HN.out ?_; intro v' us' w2 hM2 hG2 hB2)
      have HM2 := Lib.hid hM2
      have HB2 := Lib.hid (HB1.out.trans hB2)
      obtain ⟨Av, cv, hsv⟩ := hM2.shape
      subst hsv
      clear hM2 hG2 hB2
      go_wp2
      go_roundw
      case rel => exact ⟨k + 1, _, by omega, by go_num, HB2, Lib.hid (by rw [HS.out]; exact HM2.out)⟩
      case measure => simp [Go.RowKit.intOf]; omega
    · obtain rfl : k = T.length := by omega
      go_wp2
      go_ret
      exact ⟨_, us, rfl, by rw [List.take_length] at hM; exact hM.out, hB.out⟩

end Go.Proofs.YtmbpmepoaonleaaGreat.Rt

/-! The document's Step and Next. -/
namespace Go.Proofs.YtmbpmepoaonleaaGreat.Rt
open Go.Proofs.YtmbpmepoaonleaaGreat Go.RowKit

theorem tl_tail {g : Gph} {p : Prt} (h : perr g p = 0) {d : Nat} (hd : Dart p (d : Int)) : tailOf g d = ((tl g (d : Int) : Nat) : Int) ∧ d < 2 * g.e.length := by
  obtain ⟨i1, i2, i3, i4⟩ := ints g p h hd.2
  unfold tl
  rw [Int.toNat_natCast]
  refine ⟨?_, by omega⟩
  have : 0 ≤ tailOf g d := by
    unfold tailOf
    rw [show d / 2 = ((d : Int) / 2).toNat by omega]
    split <;> omega
  omega

theorem tmod_back {k n : Nat} (h : k < n) : ((k : Int) + -1 + (n : Int)).tmod (n : Int) = (((k + (n - 1)) % n : Nat) : Int) := by
  rw [Int.tmod_eq_emod_of_nonneg (by omega), show (k : Int) + -1 + (n : Int) = ((k + (n - 1) : Nat) : Int) by omega]
  exact (Int.natCast_emod _ _).symm

set_option maxRecDepth 100000 in
set_option maxHeartbeats 2000000 in
theorem r6Step_any (v u : Value) (g : Gph) (p : Prt) (T : List (List Int)) (d : Nat) (n f : Int) (w : World) (hG : Gr w v g) (hL : LL w u T) (h : Turns g p T) (hd : Dart p (d : Int)) (hl : g.e.length ≤ 1000000) (hr : ∀ j, (getT T j).length ≤ 1000000) (hn : -1 ≤ n ∧ n ≤ 1)
    (hf : ∀ k, k < (getT T (tl g (d : Int))).length → getI (getT T (tl g (d : Int))) k = (d : Int) → ∃ m : Nat, m < (getT T (tl g (d : Int))).length ∧ ((k : Int) + n + ((getT T (tl g (d : Int))).length : Int)).tmod ((getT T (tl g (d : Int))).length : Int) = (m : Int) ∧ getI (getT T (tl g (d : Int))) m = f) :
    Calls Tryz.prog 91 #[v, u, .int .i64 (d : Int), .int .i64 n] w fun e w' => e = .returned (.int .i64 f) ∧ Below w.heap.size w w' := by
  have htl := tl_lt h hd
  have hm := h.mem hd
  obtain ⟨ht1, ht2⟩ := tl_tail h.right hd
  have hrr := hr (tl g (d : Int))
  obtain ⟨k, hk, hgk, _⟩ := idx_lt hm
  obtain ⟨m, hml, hmod, hgm⟩ := hf k hk hgk
  have hix := idx_nodup (h.once (tl g (d : Int))) k hk
  rw [hgk] at hix
  have HG := Lib.hid hG
  have HL := Lib.hid hL
  obtain ⟨ve, rfl, h1⟩ := hG
  obtain ⟨Ae, ce, rfl⟩ := h1.form
  obtain ⟨A, cap, rfl, hcap, hmx⟩ := hL.form
  obtain ⟨b1, hb⟩ := one_box w (.int .i64 g.n) (.slice Ae g.e.length ce) 24
  have HB1 := Lib.hid b1
  have HB := Lib.hid hb
  have HT := Lib.hid (tail_any _ g d _ (HG.out.below hb) ht2 hl)
  obtain ⟨b, off, rfl, hbl, A1, c1, hck, hi⟩ := hL.get htl
  have HCK := Lib.hid ((hb.cell (p := ⟨b, off + tl g (d : Int), none⟩) hbl).trans hck)
  have HI := Lib.hid (hi.below hb)
  have HX := Lib.hid hix
  have hsz : b < (w.alloc (.cells #[.int .i64 g.n, .slice Ae g.e.length ce] 24)).heap.size := Nat.lt_of_lt_of_le hbl hb.size
  rw [ht1] at HT
  have hti : ((tl g (d : Int) : Nat) : Int) < (T.length : Int) := by omega
  have ht0 : (0 : Int) ≤ ((tl g (d : Int) : Nat) : Int) := by omega
  have hli := hi
  clear hf hm h hd hr htl hck hi hli h1 b1 hb HG HL hix hcap hmx ht1 ht2 hgk hbl hL
  generalize hrow : getT T (tl g (d : Int)) = row at *
  generalize tl g (d : Int) = t at *
  have HR := Lib.hid hrow
  clear hrow
  go_enter Tryz.func91, Tryz.ntmps91
  go_wp2_with fail
  generalize w.alloc (.cells #[.int .i64 g.n, .slice Ae g.e.length ce] 24) = w1 at *
  refine HT.out.mono ?_
  rintro e w2 ⟨rfl, hB2⟩
  have hcell := (hB2.cell (p := ⟨b, off + t, none⟩) hsz).trans HCK.out
  have HF := Lib.hid (rgFind_any _ row (d : Int) w2 (HI.out.below hB2) hrr)
  obtain ⟨A2, c2, e2, hrc, hrm, hrcell⟩ := HI.out.below hB2
  cases e2
  obtain ⟨b', off', rfl, hb', hg'⟩ := hrcell (by omega)
  have hgm' := hg' m hml
  rw [hgm] at hgm'
  rw [HX.out] at HF
  have HB2 := Lib.hid (trans2 HB.out hB2)
  clear hg' hrcell hB2 HI HCK HX HR HT hsz
  have hlen : 0 < row.length := by omega
  generalize row.length = len at *
  clear HB1
  go_wp2_with fail
  refine HF.out.mono ?_
  rintro e w3 ⟨rfl, rfl⟩
  have hlz : ((len : Nat) : Int) ≠ 0 := by omega
  have hm0 : (0 : Int) ≤ (m : Int) := by omega
  have hm1 : (m : Int) < (len : Int) := by omega
  clear HF
  go_wp2
  go_ret
  exact ⟨rfl, HB2.out⟩

theorem r6Before_any (v u : Value) (g : Gph) (p : Prt) (T : List (List Int)) (d : Nat) (w : World) (hG : Gr w v g) (hL : LL w u T) (h : Turns g p T) (hd : Dart p (d : Int)) (hl : g.e.length ≤ 1000000) (hr : ∀ j, (getT T j).length ≤ 1000000) :
    Calls Tryz.prog 91 #[v, u, .int .i64 (d : Int), .int .i64 (-1)] w fun e w' => e = .returned (.int .i64 (befT g T d)) ∧ Below w.heap.size w w' :=
  r6Step_any v u g p T d (-1) _ w hG hL h hd hl hr (by omega) fun k hk hg =>
    ⟨(k + ((getT T (tl g (d : Int))).length - 1)) % _, Nat.mod_lt _ (by omega), tmod_back hk, by
      unfold befT
      have := bef_at (h.once (tl g (d : Int))) hk
      rw [hg] at this
      exact this.symm⟩

set_option maxRecDepth 100000 in
set_option maxHeartbeats 2000000 in
theorem r6Next_any (v u : Value) (g : Gph) (p : Prt) (T : List (List Int)) (d : Nat) (w : World) (hG : Gr w v g) (hL : LL w u T) (h : Turns g p T) (hd : Dart p (d : Int)) (hl : g.e.length ≤ 1000000) (hr : ∀ j, (getT T j).length ≤ 1000000) :
    Calls Tryz.prog 62 #[v, u, .int .i64 (d : Int)] w fun e w' => e = .returned (.int .i64 (nxt g T d)) ∧ Below w.heap.size w w' := by
  have HG := Lib.hid hG
  obtain ⟨ht1, ht2⟩ := tl_tail h.right hd
  have hdt : Dart p ((twin d : Nat) : Int) := by rw [← twi_nat]; exact hd.twi
  have HE := Lib.hid (show nxt g T (d : Int) = befT g T ((twin d : Nat) : Int) by unfold nxt; rw [twi_nat])
  obtain ⟨ve, rfl, h1⟩ := hG
  obtain ⟨Ae, ce, rfl⟩ := h1.form
  obtain ⟨A, cap, rfl, hcap, hmx⟩ := hL.form
  obtain ⟨b1, hb⟩ := one_box w (.int .i64 g.n) (.slice Ae g.e.length ce) 24
  have HB := Lib.hid hb
  have X0 := Lib.hid b1
  have HT := Lib.hid (fun w1 => twin_any d w1 (by omega))
  have hB := hb
  have HS := Lib.hid (fun w1 (hw : Below (w.alloc (.cells #[.int .i64 g.n, .slice Ae g.e.length ce] 24)).heap.size (w.alloc (.cells #[.int .i64 g.n, .slice Ae g.e.length ce] 24)) w1) => r6Before_any _ _ g p T (twin d) w1 ((HG.out.below hb).below hw) ((hL.below hb).below hw) h hdt hl hr)
  clear b1 hb HG hL h h1 hdt ht1 ht2 hd hB
  go_enter Tryz.func62, Tryz.ntmps62
  go_wp2_with fail
  -- region next
  refine wp_region_plan [is (.agg #[.int .i64 g.n, .slice Ae g.e.length ce]), is (.slice A T.length cap), is (.int .i64 (d : Int)), is (.int .i64 ((twin d : Nat) : Int)), is (.int .i64 (befT g T ((twin d : Nat) : Int)))] (by kernel_rfl) (by kernel_rfl) ?_ ?_
  · skip
    refine StepsP.cons ?_ ?_
    · refine step_val (fun a wx hB O D => ?_)
      have e3 : a.tmps[3]? = some (.pointer (some ⟨w.heap.size, 0, none⟩)) := O 3 (by rfl)
      obtain ⟨c0, c1, _⟩ := X0.out.below hB
      clear O D
      exact ⟨rfl, by go_simp⟩
    refine StepsP.cons ?_ ?_
    · refine step_val (fun a wx hB O D => ?_)
      have e1 : a.tmps[1]? = some (.slice A T.length cap) := O 1 (by rfl)
      clear O D
      exact ⟨rfl, by unfold execOp; simp only [ev e1]; rfl⟩
    refine StepsP.cons ?_ ?_
    · refine step_val (fun a wx hB O D => ?_)
      have e2 : a.tmps[2]? = some (.int .i64 (d : Int)) := O 2 (by rfl)
      clear O D
      exact ⟨rfl, by unfold execOp; simp only [ev e2]; rfl⟩
    refine StepsP.cons ?_ ?_
    · refine step_call (enters_of Tryz.func54 (by kernel_rfl) rfl) rfl rfl (fun a wx hB O D => ?_)
      obtain ⟨_, e9, rfl⟩ := D 2 _ _ _ (by decide) rfl rfl rfl
      refine ⟨rfl, #[.int .i64 (d : Int)], by simp only [List.map_toArray, List.map_cons, List.map_nil, ev e9] <;> rfl, ?_⟩
      exact (HT.out _).mono fun _ _ ⟨he, hw⟩ => ⟨_, he, hw ▸ Below.refl _ _, rfl⟩
    refine StepsP.cons ?_ ?_
    · refine step_call (enters_of Tryz.func91 (by kernel_rfl) rfl) rfl rfl (fun a wx hB O D => ?_)
      obtain ⟨_, e7, rfl⟩ := D 0 _ _ _ (by decide) rfl rfl rfl
      obtain ⟨_, e8, rfl⟩ := D 1 _ _ _ (by decide) rfl rfl rfl
      obtain ⟨_, e10, rfl⟩ := D 3 _ _ _ (by decide) rfl rfl rfl
      refine ⟨rfl, #[.agg #[.int .i64 g.n, .slice Ae g.e.length ce], .slice A T.length cap, .int .i64 ((twin d : Nat) : Int), .int .i64 (-1)], by simp only [List.map_toArray, List.map_cons, List.map_nil, ev e7, ev e8, ev e10] <;> rfl, ?_⟩
      exact (HS.out _ hB).mono fun _ _ ⟨he, hb⟩ => ⟨_, he, hb, rfl⟩
    exact StepsP.nil
  · intro wz hZ
    refine EndP.is ?_
    refine EndP.is ?_
    refine EndP.is ?_
    refine EndP.is ?_
    refine EndP.is ?_
    refine EndP.nil ?_
  -- behind next
    simp only [Act.put, List.setIfInBounds_toArray, List.set_cons_zero, List.set_cons_succ]
    go_wp2
    go_ret
    exact ⟨ret_int HE.out.symm, trans2 HB.out hZ⟩

end Go.Proofs.YtmbpmepoaonleaaGreat.Rt
