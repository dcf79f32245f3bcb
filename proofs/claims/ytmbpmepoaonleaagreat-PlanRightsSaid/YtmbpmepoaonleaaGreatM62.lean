/-
  PmC, PmD, in one text.
-/
import Derived.Test.YtmbpmepoaonleaaGreatM54
import Derived.Test.YtmbpmepoaonleaaGreatM34
import Derived.Test.YtmbpmepoaonleaaGreatM25
import Derived.Test.YtmbpmepoaonleaaGreatM13
import Derived.Test.YtmbpmepoaonleaaGreatM30
import Derived.Test.YtmbpmepoaonleaaGreatPlan
/-! Lists appended to a slice of the call's own, some of them rows of its own, some that lay there before; the regions of a drawing, as the document makes them. -/
namespace Go.Proofs.YtmbpmepoaonleaaGreat.Pl
open Go.Proofs.YtmbpmepoaonleaaGreat Go.Proofs.YtmbpmepoaonleaaGreat.Fc Go.Proofs.YtmbpmepoaonleaaGreat.Rt Go.RowKit Go.Maps

variable {w w1 w0 : World} {base : Nat} {v : Value} {us : List Value} {T S : List (List Int)} {g : Gph} {p : Prt}
/-- A list that lay there before, or a row of the call's own. -/
def Lay (w0 w : World) (base : Nat) (u : Value) (l : List Int) : Prop := Ints w0 u l ∨ w.ownsRow base 3 1 u l.length (l.map (Value.int .i64))
structure Kept (w0 w : World) (base : Nat) (v : Value) (us : List Value) (T : List (List Int)) : Prop where
  own : w.ownsRow base 25 1 v us.length us
  len : us.length = T.length
  each : ∀ j, j < T.length → Lay w0 w base (getU us j) (getT T j)
theorem Lay.below {u : Value} {l : List Int} (h : Lay w0 w base u l) (hb : Below w.heap.size w w1) : Lay w0 w1 base u l := h.imp id (fun h => own_below h hb)
theorem Lay.ints {u : Value} {l : List Int} (h : Lay w0 w base u l) (hb : Below w0.heap.size w0 w) : Ints w u l := h.elim (fun h => h.below hb) Ints.of_own
theorem Lay.one {u : Value} {l : List Int} (h : Lay w0 w base u l) : ∃ A c, u = .slice A l.length c := h.elim ints_form (fun h => ints_form (Ints.of_own h))
theorem Kept.start (w0 w : World) (base : Nat) : Kept w0 w base (.slice none 0 0) [] [] := ⟨World.ownsRow_nil _ _ _ _, rfl, fun _ h => absurd h (Nat.not_lt_zero _)⟩
theorem Kept.below (h : Kept w0 w base v us T) (hb : Below w.heap.size w w1) : Kept w0 w1 base v us T := ⟨own_below h.own hb, h.len, fun j hj => (h.each j hj).below hb⟩
theorem Kept.push (h : Kept w0 w base v us T) {v' u : Value} {l : List Int} (hu : Lay w0 w base u l) (hg : w.grownBy w1 v.ownBlock) (ho : w1.ownsRow base 25 1 v' (us.length + 1) (us ++ [u])) :
    Kept w0 w1 base v' (us ++ [u]) (T ++ [l]) := by
  have hl := h.len
  refine ⟨by rw [List.length_append]; exact ho, by simp [hl], fun j hj => ?_⟩
  simp at hj
  by_cases e : j = T.length
  · subst e
    rw [getT_right, ← hl, getU_right]
    exact hu.imp id (fun hu => hu.kept hg (own_two hu h.own (by decide)))
  · rw [getT_left _ _ _ (by omega), getU_left _ _ _ (by omega)]
    exact (h.each j (by omega)).imp id (fun hu => hu.kept hg (own_two hu h.own (by decide)))
theorem Kept.shape (h : Kept w0 w base v us T) : ∃ A c, v = .slice A T.length c := by
  rcases h.own.2 with ⟨rfl, h0⟩ | ⟨g, cap, cur, rfl, _⟩
  · have hl := h.len
    exact ⟨none, 0, by rw [show T.length = 0 by omega]⟩
  · exact ⟨_, _, by rw [h.len]⟩
theorem Kept.reads (h : Kept w0 w base v us T) (hb : Below w0.heap.size w0 w) : LL w v T := by
  have hl := h.len
  rcases h.own.2 with ⟨rfl, h0⟩ | ⟨g, cap, cur, rfl, hb1, hg, r1, r2, r3, r4⟩
  · obtain rfl := List.eq_nil_of_length_eq_zero (show T.length = 0 by omega)
    exact LL.nil
  · have hlt : g < w.heap.size := by
      rcases Nat.lt_or_ge g w.heap.size with h | h
      · exact h
      · rw [Array.getElem?_eq_none h] at hg; cases hg
    rw [hl]
    refine ⟨_, cap, rfl, by omega, r2, fun _ => ⟨g, 0, rfl, hlt, fun j hj => ⟨getU us j, ?_, ?_⟩⟩⟩
    · rw [Nat.zero_add, cell_of_row w g j cur 25 (0, 0) hg, getU_of us j (by omega)]
      have hc := congrArg (fun l => l[j]?) r4
      simp only [List.getElem?_take, Array.getElem?_toList] at hc
      rw [if_pos (by omega)] at hc
      rw [hc]
      simp [show j < us.length by omega]
    · exact (h.each j hj).ints hb

/-- append(T, l): the lists have one more. -/
theorem wpList_append_kept {wr : World} {ops : Array Oper} {rest : List Oper} {o : Oper} {a : Act} {Q : Exit → Act → World → Prop} (hgd : o.guard = none) (s x : Operand)
    (ho : o.op = .call { callee := .builtin .append, args := #[s, x], argTypes := #[28, 28] })
    {base : Nat} {v u : Value} {us : List Value} {T : List (List Int)} {l : List Int} (hs : a.eval s = v) (hx : a.eval x = .slice (some ⟨wr.heap.size, 0, none⟩) 1 1) (hM : Kept w0 wr base v us T) (hu : Lay w0 wr base u l)
    (hbase : base ≤ wr.heap.size) (hL : T.length ≤ 1000000)
    (h : ∀ v' us' w', Kept w0 w' base v' us' (T ++ [l]) → Below base wr w' → wpList Tryz.prog ops Q rest (a.put o.dst v') w') : wpList Tryz.prog ops Q (o :: rest) a (wr.alloc (.cells #[u] 25)) := by
  obtain ⟨i0, hi, hz0, hz1, hz2⟩ := info_parts Tryz.infoInts
  have hl := hM.len
  have hone : u.oneCell' = true := by
    obtain ⟨A, c, rfl⟩ := hu.one
    rfl
  have hM2 := hM.below (below_alloc (.cells #[u] 25))
  refine wpList_append_own _ hgd s x 28 ho base 25 i0 _ 1 24 Tryz.underlying28 hi hz0 hz1 hz2 rfl (by decide) v us.length us hs hM2.own ⟨wr.heap.size, 0, none⟩ 1 1 [u] hx rfl (cell_one_new _ _ _) (fun u' hu' => by simp at hu'; rw [hu']; exact hone) (by unfold maxLen; omega) (by omega) (by simp; omega) ?_
  intro v' w1 h1 h2 _
  exact h v' _ w1 (hM2.push (hu.below (below_alloc _)) h2 h1) (((Below.refl base wr).alloc hbase _).grown h2 (by simp; omega) (fun k hk => (World.ownsRow.lt hM.own k hk).1))

/-! ### The regions, walk by walk -/

/-- The regions that begin with one of the first k walks. -/
def regTo (ks : List Int) (S : List (List Int)) (k : Nat) : List (List Int) := ((ks.take k).filter (fstB S)).map (lstOf S)
theorem regTo_zero (ks : List Int) (S : List (List Int)) : regTo ks S 0 = [] := by simp [regTo]
theorem regTo_all (ks : List Int) (S : List (List Int)) : regTo ks S ks.length = regs ks S := by unfold regTo regs; rw [List.take_length]
theorem regTo_yes {ks : List Int} {k : Nat} (h : k < ks.length) (hf : fstB S (getI ks k) = true) : regTo ks S (k + 1) = regTo ks S k ++ [lstOf S (getI ks k)] := by
  unfold regTo
  rw [take_succ_getI _ k h, List.filter_append, List.map_append]
  simp [hf]
theorem regTo_no {ks : List Int} {k : Nat} (h : k < ks.length) (hf : fstB S (getI ks k) = false) : regTo ks S (k + 1) = regTo ks S k := by
  unfold regTo
  rw [take_succ_getI _ k h, List.filter_append, List.map_append]
  simp [hf]
theorem regTo_len (ks : List Int) (S : List (List Int)) (k : Nat) : (regTo ks S k).length ≤ k := by
  unfold regTo
  rw [List.length_map]
  exact Nat.le_trans (List.length_filter_le _ _) (by rw [List.length_take]; omega)

/-- What the inner loop knows behind k lists: the list l of a key x, and whether x is its first. -/
def Lot (S : List (List Int)) (x : Int) (k : Nat) (l : List Int) (b : Bool) : Prop := ((∀ j, j < k → x ∉ getT S j) ∧ l = [x] ∧ b = true) ∨ ∃ j, j < k ∧ x ∈ getT S j ∧ l = getT S j ∧ b = (getI (getT S j) 0 == x)
theorem Lot.start (S : List (List Int)) (x : Int) : Lot S x 0 [x] true := .inl ⟨fun _ hj => absurd hj (Nat.not_lt_zero _), rfl, rfl⟩
theorem Lot.no {x : Int} {k : Nat} {l : List Int} {b : Bool} (h : Lot S x k l b) (hx : x ∉ getT S k) : Lot S x (k + 1) l b := by
  rcases h with ⟨h1, h2, h3⟩ | ⟨j, h1, h2⟩
  · refine .inl ⟨fun j hj => ?_, h2, h3⟩
    rcases Nat.lt_or_eq_of_le (Nat.le_of_lt_succ hj) with h | rfl
    · exact h1 j h
    · exact hx
  · exact .inr ⟨j, by omega, h2⟩
theorem Lot.yes {x : Int} {k : Nat} (hx : x ∈ getT S k) : Lot S x (k + 1) (getT S k) (getI (getT S k) 0 == x) := .inr ⟨k, Nat.lt_succ_self k, hx, rfl, rfl⟩
theorem Lot.all {x : Int} {l : List Int} {b : Bool} (h : Lot S x S.length l b) (hn : S.flatten.Nodup) : l = lstOf S x ∧ b = fstB S x := by
  unfold fstB
  rcases h with ⟨h1, rfl, rfl⟩ | ⟨j, h1, h2, rfl, rfl⟩
  · have e : lstOf S x = [x] := lstOf_none fun ⟨l, hl, hx⟩ => by
      obtain ⟨j, hj, rfl⟩ := List.getElem_of_mem hl
      exact h1 j hj (by rw [getT_of S j hj]; exact hx)
    rw [e]
    exact ⟨rfl, by simp [getI]⟩
  · have e := lstOf_of hn (by rw [getT_of S j h1]; exact List.getElem_mem h1 : getT S j ∈ S) h2
    rw [e]
    exact ⟨rfl, rfl⟩
end Go.Proofs.YtmbpmepoaonleaaGreat.Pl

/-! The document's Regions. -/
namespace Go.Proofs.YtmbpmepoaonleaaGreat.Pl
open Go.Proofs.YtmbpmepoaonleaaGreat Go.Proofs.YtmbpmepoaonleaaGreat.Fc Go.Proofs.YtmbpmepoaonleaaGreat.Rt Go.RowKit Go.Maps

variable {g : Gph} {p : Prt} {T S : List (List Int)} {w w' : World}

set_option maxRecDepth 100000 in
set_option maxHeartbeats 1000000 in
theorem rregions_any (v u x : Value) (w : World) (h : Gr w v g) (h' : Pt w u p) (hx : Pn w x T S) (hT : Turns g p T) (hS : Lists (keysOf g p T) S) (hl : g.e.length ≤ 100000) (hn : g.n ≤ 100000) (hp1 : p.v.length ≤ 1000) (hp2 : p.e.length ≤ 1000) (hr : ∀ j, (getT T j).length ≤ 1000000) (hlS : S.length ≤ 10000) (hrS : ∀ j, (getT S j).length ≤ 10000) :
    Calls Tryz.prog 21 #[v, u, x] w fun e w' => ∃ m, e = .returned m ∧ LL w' m (regs (keysOf g p T) S) ∧ Below w.heap.size w w' := by
  have HG := Lib.hid h
  have HP := Lib.hid h'
  have HX := Lib.hid hx
  obtain ⟨ve, rfl, h1⟩ := h
  obtain ⟨vv, vp, rfl, h2, h3⟩ := h'
  obtain ⟨vT, vS, rfl, h4, h5⟩ := hx
  obtain ⟨Ae, ce, rfl⟩ := h1.form
  obtain ⟨Av, cv, rfl⟩ := ints_form h2
  obtain ⟨Ap, cp, rfl⟩ := ints_form h3
  obtain ⟨AT, cT, rfl, _, _⟩ := h4.form
  obtain ⟨AS, cS, rfl, _, _⟩ := h5.form
  obtain ⟨b1, b2, b3, hm⟩ := three_boxes w (.int .i64 g.n) (.slice Ae g.e.length ce) (.slice Av p.v.length cv) (.slice Ap p.e.length cp) (.slice AT T.length cT) (.slice AS S.length cS) 24 27 30
  have HB3 := Lib.hid b3
  have HM := Lib.hid hm
  have HSL := Lib.hid (h5.below hm)
  have HWK := Lib.hid (rwalks_any _ _ _ g p T _ (HG.out.below hm) (HP.out.below hm) (h4.below hm) hT (by omega) (by omega) hl hn hr)
  have c0 := b1.c0
  have c1 := b1.c1
  have d0 := b2.c0
  have d1 := b2.c1
  have e0 := b3.c0
  clear b1 b2 b3 hm h1 h2 h3 h4 h5 HG HP HX
  go_enter Tryz.func21, Tryz.ntmps21
  go_wp2_with fail
  generalize ((w.alloc (.cells #[.int .i64 g.n, .slice Ae g.e.length ce] 24)).alloc (.cells #[.slice Av p.v.length cv, .slice Ap p.e.length cp] 27)).alloc (.cells #[.slice AT T.length cT, .slice AS S.length cS] 30) = w1 at *
  refine HWK.out.mono ?_
  clear HWK c0 c1 d0 d1 e0
  rintro e w2 ⟨mw, usw, rfl, hTw, hB2⟩
  have hTr := hTw.reads
  obtain ⟨Am, cm, rfl⟩ := hTw.shape
  rw [List.length_map] at hTr ⊢
  have HTW := Lib.hid hTr
  have HB12 := Lib.hid hB2
  have hlW := walksOf_len g p T
  have HKS := Lib.hid hS
  have hkl : (keysOf g p T).length = (walksOf g p T).length := by unfold keysOf; rw [List.length_map]
  have HKL := Lib.hid hkl
  clear hTw hTr hB2 hS hkl
  go_wp2
  go_loopw [8, 9] (fun o i wr => ∃ (i' : Nat) (us : List Value), i' ≤ (walksOf g p T).length ∧ i = .int .i64 i' ∧ Hid (Below w2.heap.size w2 wr) ∧ Hid (Kept w1 wr w2.heap.size o us (regTo (keysOf g p T) S i'))) (fun _ i _ => (walksOf g p T).length - (Go.RowKit.intOf i).toNat)
  case atStart => exact ⟨0, [], Nat.zero_le _, rfl, Lib.hid (Below.refl _ _), Lib.hid (by rw [regTo_zero]; exact Kept.start _ _ _)⟩
  case round =>
    obtain ⟨i, us, hi, rfl, hB, hK⟩ := hrel
    rename_i o wr
    obtain ⟨wo, hwo⟩ : ∃ z, z = wr := ⟨_, rfl⟩
    subst hwo
    by_cases hlt : i < (walksOf g p T).length
    · obtain ⟨bL, rfl, hbL, hcL, A', c', _⟩ := fwalk_at (HTW.out.below hB.out) hlt
      have hik : getI (keysOf g p T) i = ((walksOf g p T)[i]).1 := by
        rw [getI_of _ _ (by rw [HKL.out]; exact hlt)]
        unfold keysOf
        exact List.getElem_map ..
      have HIK := Lib.hid hik
      clear hik
      generalize ((walksOf g p T)[i]).1 = key at *
      have hba := below_alloc (w := wo) (.cells #[.int .i64 key] 3)
      have hrl := Row.le (row_lit1 wo key) hB.out.size
      have HR0 := Lib.hid hrl
      have HK1' := Lib.hid (hK.out.below hba)
      have HB1' := Lib.hid (hB.out.trans (hba.mono hB.out.size))
      have e1 := (HB3.out.below (trans2 HB12.out hB.out)).c1
      have hcL2 := (hba.cell (p := ⟨bL, i * 2, none⟩) hbL).trans hcL
      have HCL := Lib.hid (And.intro (Nat.lt_of_lt_of_le hbL hba.size) hcL2)
      clear hrl hba hcL2
      go_wp2
      clear e1 hcL hbL
      generalize wo.heap.size = ob at *
      generalize wo.alloc (.cells #[.int .i64 key] 3) = wx at *
      have HXL := Lib.hid HB1'.out.size
      go_loopw [10, 11, 12] (fun lv b n wr => ∃ (k : Nat) (l : List Int) (bb : Bool), k ≤ S.length ∧ n = .int .i64 k ∧ b = .bool bb ∧ Hid (Below wx.heap.size wx wr) ∧ Hid (Lay w1 wr w2.heap.size lv l) ∧ Hid (Lot S key k l bb)) (fun _ _ n _ => S.length - (Go.RowKit.intOf n).toNat)
      case atStart => exact ⟨0, [key], true, Nat.zero_le _, rfl, rfl, Lib.hid (Below.refl _ _), Lib.hid (.inr HR0.out), Lib.hid (Lot.start _ _)⟩
      case round =>
        obtain ⟨k, l, bb, hk, rfl, rfl, hB2, hLy, hLt⟩ := hrel
        rename_i lv wr
        obtain ⟨wi, hwi⟩ : ∃ z, z = wr := ⟨_, rfl⟩
        subst hwi
        obtain ⟨Al, cl, rfl⟩ := hLy.out.one
        have HBW := Lib.hid (trans2 HB12.out (HB1'.out.trans (hB2.out.mono HXL.out)))
        have X2 := Lib.hid (HB3.out.below HBW.out)
        have e1 := X2.out.c1
        by_cases hkl : k < S.length
        · obtain ⟨sb, so, rfl, hsb0, A1, c1, hck0, hi1⟩ := HSL.out.get hkl
          have hsb := Nat.lt_of_lt_of_le hsb0 HBW.out.size
          have hck := (HBW.out.cell (p := ⟨sb, so + k, none⟩) hsb0).trans hck0
          have hbL : bL < wi.heap.size := Nat.lt_of_lt_of_le HCL.out.1 hB2.out.size
          have hcL := (hB2.out.cell (p := ⟨bL, i * 2, none⟩) HCL.out.1).trans HCL.out.2
          have HSI := Lib.hid hi1
          have HTW2 := Lib.hid (HKS.out.two _ (getT_mem hkl))
          have HLX := Lib.hid (hrS k)
          have HK0 := Lib.hid (show (0 : Int) ≤ (k : Int) by omega)
          have HK1 := Lib.hid (show (k : Int) < (S.length : Int) by omega)
          have HK2 := Lib.hid (show k ≤ 100000 by omega)
          have HI0 := Lib.hid (show (0 : Int) ≤ (i : Int) by omega)
          have HI1 := Lib.hid (show (i : Int) < ((walksOf g p T).length : Int) by omega)
          have HI2 := Lib.hid (show i ≤ 100000 by omega)
          have HIN := Lib.hid (fun (W : World) (hW : Below wi.heap.size wi W) => in_any (.slice A1 (getT S k).length c1) (getT S k) key W (hi1.below (trans2 HBW.out hW)) (Nat.le_trans (hrS k) (by decide)))
          clear hi1 hsb0 hck0
          by_cases hx : key ∈ getT S k
          · have HBI := Lib.hid (decide_eq_true hx)
            have HLY := Lib.hid (Lot.yes hx)
            have hpos : 0 < (getT S k).length := by have := HTW2.out; omega
            obtain ⟨lb, lo, rfl, hlb0, hl0'⟩ := ints_at HSI.out hpos
            clear hx hLt hLy
            generalize getT S k = lk at *
            generalize hl0e : getI lk 0 = l0 at *
            generalize lk.length = nl at *
            go_wp2_with fail
            -- region A
            refine wp_region_plan [is (.pointer (some ⟨w.heap.size + 2, 1, none⟩)), is (.slice (some ⟨sb, so, none⟩) S.length cS), is (.int .i64 (k : Int)), is (.pointer (some ⟨sb, so + k, none⟩)), is (.slice (some ⟨lb, lo, none⟩) nl c1), is (.slice (some ⟨bL, 0, none⟩) (walksOf g p T).length cm), is (.int .i64 (i : Int)), is (.pointer (some ⟨bL, i * 2, none⟩)), is (.pointer (some ⟨bL, i * 2, none⟩)), is (.int .i64 key), is (.bool true)] (by kernel_rfl) (by kernel_rfl) ?_ ?_
            · skip
              refine StepsP.cons ?_ ?_
              · refine step_val (fun a wx hB O D => ?_)
                have e5 : a.tmps[5]? = some (.pointer (some ⟨w.heap.size + 2, 0, none⟩)) := O 5 (by rfl)
                clear O D
                exact ⟨rfl, by go_simp⟩
              refine StepsP.cons ?_ ?_
              · refine step_val (fun a wx hB O D => ?_)
                obtain ⟨_, e37, rfl⟩ := D 0 _ _ _ (by decide) rfl rfl rfl
                obtain ⟨c0, c1, _⟩ := X2.out.below hB
                clear O D
                exact ⟨rfl, by go_simp⟩
              refine StepsP.cons ?_ ?_
              · refine step_val (fun a wx hB O D => ?_)
                have e12 : a.tmps[12]? = some (.int .i64 (k : Int)) := O 12 (by rfl)
                clear O D
                exact ⟨rfl, by unfold execOp; simp only [ev e12]; rfl⟩
              refine StepsP.cons ?_ ?_
              · refine step_val (fun a wx hB O D => ?_)
                obtain ⟨_, e38, rfl⟩ := D 1 _ _ _ (by decide) rfl rfl rfl
                obtain ⟨_, e39, rfl⟩ := D 2 _ _ _ (by decide) rfl rfl rfl
                have hk0 := HK0.out
                have hk1 := HK1.out
                have hk2 := HK2.out
                clear O D
                exact ⟨rfl, by go_simp⟩
              refine StepsP.cons ?_ ?_
              · refine step_val (fun a wx hB O D => ?_)
                obtain ⟨_, e40, rfl⟩ := D 3 _ _ _ (by decide) rfl rfl rfl
                have q0 := (hB.cell (p := ⟨sb, so + k, none⟩) hsb).trans hck
                clear O D
                exact ⟨rfl, by go_simp⟩
              refine StepsP.cons ?_ ?_
              · refine step_val (fun a wx hB O D => ?_)
                have e7 : a.tmps[7]? = some (.slice (some ⟨bL, 0, none⟩) (walksOf g p T).length cm) := O 7 (by rfl)
                clear O D
                exact ⟨rfl, by unfold execOp; simp only [ev e7]; rfl⟩
              refine StepsP.cons ?_ ?_
              · refine step_val (fun a wx hB O D => ?_)
                have e9 : a.tmps[9]? = some (.int .i64 (i : Int)) := O 9 (by rfl)
                clear O D
                exact ⟨rfl, by unfold execOp; simp only [ev e9]; rfl⟩
              refine StepsP.cons ?_ ?_
              · refine step_val (fun a wx hB O D => ?_)
                obtain ⟨_, e42, rfl⟩ := D 5 _ _ _ (by decide) rfl rfl rfl
                obtain ⟨_, e43, rfl⟩ := D 6 _ _ _ (by decide) rfl rfl rfl
                have hk0 := HI0.out
                have hk1 := HI1.out
                have hk2 := HI2.out
                clear O D
                exact ⟨rfl, by go_simp⟩
              refine StepsP.cons ?_ ?_
              · refine step_val (fun a wx hB O D => ?_)
                obtain ⟨_, e44, rfl⟩ := D 7 _ _ _ (by decide) rfl rfl rfl
                clear O D
                exact ⟨rfl, by go_simp⟩
              refine StepsP.cons ?_ ?_
              · refine step_val (fun a wx hB O D => ?_)
                obtain ⟨_, e45, rfl⟩ := D 8 _ _ _ (by decide) rfl rfl rfl
                have q0 := (hB.cell (p := ⟨bL, i * 2, none⟩) hbL).trans hcL
                clear O D
                exact ⟨rfl, by go_simp⟩
              refine StepsP.cons ?_ ?_
              · refine step_call (enters_of Tryz.func22 (by kernel_rfl) rfl) rfl rfl (fun a wx hB O D => ?_)
                obtain ⟨_, e41, rfl⟩ := D 4 _ _ _ (by decide) rfl rfl rfl
                obtain ⟨_, e46, rfl⟩ := D 9 _ _ _ (by decide) rfl rfl rfl
                refine ⟨rfl, #[.slice (some ⟨lb, lo, none⟩) nl c1, .int .i64 key], by simp only [List.map_toArray, List.map_cons, List.map_nil, ev e41, ev e46] <;> rfl, ?_⟩
                exact (HIN.out _ hB).mono fun _ _ ⟨he, hw⟩ => ⟨_, by rw [he, HBI.out], hw ▸ Below.refl _ _, rfl⟩
              exact StepsP.nil
            · intro wz hZ
              refine EndP.is ?_
              refine EndP.is ?_
              refine EndP.is ?_
              refine EndP.is ?_
              refine EndP.is ?_
              refine EndP.is ?_
              refine EndP.is ?_
              refine EndP.is ?_
              refine EndP.is ?_
              refine EndP.is ?_
              refine EndP.is ?_
              refine EndP.nil ?_
            -- behind A
              have HBZ := Lib.hid (HBW.out.trans (hZ.mono HBW.out.size))
              have HZ := Lib.hid (hB2.out.trans (hZ.mono hB2.out.size))
              have e1z := (X2.out.below hZ).c1
              have hckz := (hZ.cell (p := ⟨sb, so + k, none⟩) hsb).trans hck
              have hlb : lb < wz.heap.size := Nat.lt_of_lt_of_le hlb0 HBZ.out.size
              have hl0 := (HBZ.out.cell (p := ⟨lb, lo + 0, none⟩) hlb0).trans hl0'
              rw [Nat.add_zero] at hl0
              have hbL2 : bL < wz.heap.size := Nat.lt_of_lt_of_le hbL hZ.size
              have hcL2 := (hZ.cell (p := ⟨bL, i * 2, none⟩) hbL).trans hcL
              have HL0 := Lib.hid hpos
              clear hZ e1 hck hl0' hcL
              refine wpList_nil ?_
              simp only [Act.put, List.setIfInBounds_toArray, List.set_cons_zero, List.set_cons_succ]
              go_wp2_with fail
              -- region C
              refine wp_region_plan [is (.slice (some ⟨lb, lo, none⟩) nl c1), is (.pointer (some ⟨lb, lo, none⟩)), is (.int .i64 l0), is (.slice (some ⟨bL, 0, none⟩) (walksOf g p T).length cm), is (.int .i64 (i : Int)), is (.pointer (some ⟨bL, i * 2, none⟩)), is (.pointer (some ⟨bL, i * 2, none⟩)), is (.int .i64 key), is (.bool (l0 == key))] (by kernel_rfl) (by kernel_rfl) ?_ ?_
              · skip
                refine StepsP.cons ?_ ?_
                · refine step_val (fun a wx hB O D => ?_)
                  have e10 : a.tmps[10]? = some (.slice (some ⟨lb, lo, none⟩) nl c1) := O 10 (by rfl)
                  clear O D
                  exact ⟨rfl, by unfold execOp; simp only [ev e10]; rfl⟩
                refine StepsP.cons ?_ ?_
                · refine step_val (fun a wx hB O D => ?_)
                  obtain ⟨_, e53, rfl⟩ := D 0 _ _ _ (by decide) rfl rfl rfl
                  have h := HL0.out
                  clear O D
                  exact ⟨rfl, by go_simp⟩
                refine StepsP.cons ?_ ?_
                · refine step_val (fun a wx hB O D => ?_)
                  obtain ⟨_, e54, rfl⟩ := D 1 _ _ _ (by decide) rfl rfl rfl
                  have q0 := (hB.cell (p := ⟨lb, lo, none⟩) hlb).trans hl0
                  clear O D
                  exact ⟨rfl, by go_simp⟩
                refine StepsP.cons ?_ ?_
                · refine step_val (fun a wx hB O D => ?_)
                  have e7 : a.tmps[7]? = some (.slice (some ⟨bL, 0, none⟩) (walksOf g p T).length cm) := O 7 (by rfl)
                  clear O D
                  exact ⟨rfl, by unfold execOp; simp only [ev e7]; rfl⟩
                refine StepsP.cons ?_ ?_
                · refine step_val (fun a wx hB O D => ?_)
                  have e9 : a.tmps[9]? = some (.int .i64 (i : Int)) := O 9 (by rfl)
                  clear O D
                  exact ⟨rfl, by unfold execOp; simp only [ev e9]; rfl⟩
                refine StepsP.cons ?_ ?_
                · refine step_val (fun a wx hB O D => ?_)
                  obtain ⟨_, e56, rfl⟩ := D 3 _ _ _ (by decide) rfl rfl rfl
                  obtain ⟨_, e57, rfl⟩ := D 4 _ _ _ (by decide) rfl rfl rfl
                  have hk0 := HI0.out
                  have hk1 := HI1.out
                  have hk2 := HI2.out
                  clear O D
                  exact ⟨rfl, by go_simp⟩
                refine StepsP.cons ?_ ?_
                · refine step_val (fun a wx hB O D => ?_)
                  obtain ⟨_, e58, rfl⟩ := D 5 _ _ _ (by decide) rfl rfl rfl
                  clear O D
                  exact ⟨rfl, by go_simp⟩
                refine StepsP.cons ?_ ?_
                · refine step_val (fun a wx hB O D => ?_)
                  obtain ⟨_, e59, rfl⟩ := D 6 _ _ _ (by decide) rfl rfl rfl
                  have q0 := (hB.cell (p := ⟨bL, i * 2, none⟩) hbL2).trans hcL2
                  clear O D
                  exact ⟨rfl, by go_simp⟩
                refine StepsP.cons ?_ ?_
                · refine step_val (fun a wx hB O D => ?_)
                  obtain ⟨_, e55, rfl⟩ := D 2 _ _ _ (by decide) rfl rfl rfl
                  obtain ⟨_, e60, rfl⟩ := D 7 _ _ _ (by decide) rfl rfl rfl
                  clear O D
                  exact ⟨rfl, by go_simp⟩
                exact StepsP.nil
              · intro wz hZ
                refine EndP.is ?_
                refine EndP.is ?_
                refine EndP.is ?_
                refine EndP.is ?_
                refine EndP.is ?_
                refine EndP.is ?_
                refine EndP.is ?_
                refine EndP.is ?_
                refine EndP.is ?_
                refine EndP.nil ?_
              -- behind C
                have HZ2 := Lib.hid (HZ.out.trans (hZ.mono HZ.out.size))
                clear hZ
                change wpList _ _ _ [_] _ _
                go_wp2
                go_roundw
                case rel => exact ⟨k + 1, lk, (l0 == key), by omega, by go_num, rfl, HZ2, Lib.hid (.inl HSI.out), HLY⟩
                case measure => simp [Go.RowKit.intOf]; omega
          · have HBI := Lib.hid (decide_eq_false hx)
            have HLN := Lib.hid (hLt.out.no hx)
            clear hx hLt
            generalize getT S k = lk at *
            generalize lk.length = nl at *
            go_wp2_with fail
            -- region B
            refine wp_region_plan [is (.pointer (some ⟨w.heap.size + 2, 1, none⟩)), is (.slice (some ⟨sb, so, none⟩) S.length cS), is (.int .i64 (k : Int)), is (.pointer (some ⟨sb, so + k, none⟩)), is (.slice A1 nl c1), is (.slice (some ⟨bL, 0, none⟩) (walksOf g p T).length cm), is (.int .i64 (i : Int)), is (.pointer (some ⟨bL, i * 2, none⟩)), is (.pointer (some ⟨bL, i * 2, none⟩)), is (.int .i64 key), is (.bool false)] (by kernel_rfl) (by kernel_rfl) ?_ ?_
            · skip
              refine StepsP.cons ?_ ?_
              · refine step_val (fun a wx hB O D => ?_)
                have e5 : a.tmps[5]? = some (.pointer (some ⟨w.heap.size + 2, 0, none⟩)) := O 5 (by rfl)
                clear O D
                exact ⟨rfl, by go_simp⟩
              refine StepsP.cons ?_ ?_
              · refine step_val (fun a wx hB O D => ?_)
                obtain ⟨_, e37, rfl⟩ := D 0 _ _ _ (by decide) rfl rfl rfl
                obtain ⟨c0, c1, _⟩ := X2.out.below hB
                clear O D
                exact ⟨rfl, by go_simp⟩
              refine StepsP.cons ?_ ?_
              · refine step_val (fun a wx hB O D => ?_)
                have e12 : a.tmps[12]? = some (.int .i64 (k : Int)) := O 12 (by rfl)
                clear O D
                exact ⟨rfl, by unfold execOp; simp only [ev e12]; rfl⟩
              refine StepsP.cons ?_ ?_
              · refine step_val (fun a wx hB O D => ?_)
                obtain ⟨_, e38, rfl⟩ := D 1 _ _ _ (by decide) rfl rfl rfl
                obtain ⟨_, e39, rfl⟩ := D 2 _ _ _ (by decide) rfl rfl rfl
                have hk0 := HK0.out
                have hk1 := HK1.out
                have hk2 := HK2.out
                clear O D
                exact ⟨rfl, by go_simp⟩
              refine StepsP.cons ?_ ?_
              · refine step_val (fun a wx hB O D => ?_)
                obtain ⟨_, e40, rfl⟩ := D 3 _ _ _ (by decide) rfl rfl rfl
                have q0 := (hB.cell (p := ⟨sb, so + k, none⟩) hsb).trans hck
                clear O D
                exact ⟨rfl, by go_simp⟩
              refine StepsP.cons ?_ ?_
              · refine step_val (fun a wx hB O D => ?_)
                have e7 : a.tmps[7]? = some (.slice (some ⟨bL, 0, none⟩) (walksOf g p T).length cm) := O 7 (by rfl)
                clear O D
                exact ⟨rfl, by unfold execOp; simp only [ev e7]; rfl⟩
              refine StepsP.cons ?_ ?_
              · refine step_val (fun a wx hB O D => ?_)
                have e9 : a.tmps[9]? = some (.int .i64 (i : Int)) := O 9 (by rfl)
                clear O D
                exact ⟨rfl, by unfold execOp; simp only [ev e9]; rfl⟩
              refine StepsP.cons ?_ ?_
              · refine step_val (fun a wx hB O D => ?_)
                obtain ⟨_, e42, rfl⟩ := D 5 _ _ _ (by decide) rfl rfl rfl
                obtain ⟨_, e43, rfl⟩ := D 6 _ _ _ (by decide) rfl rfl rfl
                have hk0 := HI0.out
                have hk1 := HI1.out
                have hk2 := HI2.out
                clear O D
                exact ⟨rfl, by go_simp⟩
              refine StepsP.cons ?_ ?_
              · refine step_val (fun a wx hB O D => ?_)
                obtain ⟨_, e44, rfl⟩ := D 7 _ _ _ (by decide) rfl rfl rfl
                clear O D
                exact ⟨rfl, by go_simp⟩
              refine StepsP.cons ?_ ?_
              · refine step_val (fun a wx hB O D => ?_)
                obtain ⟨_, e45, rfl⟩ := D 8 _ _ _ (by decide) rfl rfl rfl
                have q0 := (hB.cell (p := ⟨bL, i * 2, none⟩) hbL).trans hcL
                clear O D
                exact ⟨rfl, by go_simp⟩
              refine StepsP.cons ?_ ?_
              · refine step_call (enters_of Tryz.func22 (by kernel_rfl) rfl) rfl rfl (fun a wx hB O D => ?_)
                obtain ⟨_, e41, rfl⟩ := D 4 _ _ _ (by decide) rfl rfl rfl
                obtain ⟨_, e46, rfl⟩ := D 9 _ _ _ (by decide) rfl rfl rfl
                refine ⟨rfl, #[.slice A1 nl c1, .int .i64 key], by simp only [List.map_toArray, List.map_cons, List.map_nil, ev e41, ev e46] <;> rfl, ?_⟩
                exact (HIN.out _ hB).mono fun _ _ ⟨he, hw⟩ => ⟨_, by rw [he, HBI.out], hw ▸ Below.refl _ _, rfl⟩
              exact StepsP.nil
            · intro wz hZ
              refine EndP.is ?_
              refine EndP.is ?_
              refine EndP.is ?_
              refine EndP.is ?_
              refine EndP.is ?_
              refine EndP.is ?_
              refine EndP.is ?_
              refine EndP.is ?_
              refine EndP.is ?_
              refine EndP.is ?_
              refine EndP.is ?_
              refine EndP.nil ?_
            -- behind B
              have HZ := Lib.hid (hB2.out.trans (hZ.mono hB2.out.size))
              have HLZ := Lib.hid (hLy.out.below hZ)
              clear hZ hLy
              refine wpList_nil ?_
              simp only [Act.put, List.setIfInBounds_toArray, List.set_cons_zero, List.set_cons_succ]
              go_wp2
              go_roundw
              case rel => exact ⟨k + 1, l, bb, by omega, by go_num, rfl, HZ, HLZ, HLN⟩
              case measure => simp [Go.RowKit.intOf]; omega
        · obtain rfl : k = S.length := by omega
          obtain ⟨hl2, hb2⟩ := hLt.out.all HKS.out.once
          subst hl2 hb2
          have HBN := Lib.hid (HB1'.out.trans (hB2.out.mono HXL.out))
          have HKN := Lib.hid (HK1'.out.below hB2.out)
          have hki : i < (keysOf g p T).length := by rw [HKL.out]; exact hlt
          cases hfb : fstB S key
          · have HRG := Lib.hid (regTo_no (S := S) hki (by rw [HIK.out]; exact hfb))
            clear hLt hLy hfb hki
            go_wp2
            go_roundw
            case rel => exact ⟨i + 1, us, by omega, by go_num, HBN, Lib.hid (by rw [HRG.out]; exact HKN.out)⟩
            case measure => simp [Go.RowKit.intOf]; omega
          · have HRG := Lib.hid (regTo_yes (S := S) hki (by rw [HIK.out]; exact hfb))
            rw [HIK.out] at HRG
            have HLE := Lib.hid (show (regTo (keysOf g p T) S i).length ≤ 1000000 from Nat.le_trans (regTo_len _ _ _) (by omega))
            clear hLt hfb hki
            go_wp2_with (at_builtin; refine wpList_append_kept rfl _ _ rfl rfl rfl HKN.out hLy.out HBN.out.size HLE.out ?_; intro v' us' w3 hK3 hB3')
            have HK3 := Lib.hid hK3
            have HB3' := Lib.hid (HBN.out.trans hB3')
            obtain ⟨Av', cv', hsv⟩ := hK3.shape
            clear hK3 hB3' hLy
            go_wp2
            go_roundw
            case rel => exact ⟨i + 1, us', by omega, by go_num, HB3', Lib.hid (by rw [HRG.out]; exact HK3.out)⟩
            case measure => simp [Go.RowKit.intOf]; omega
    · obtain rfl : i = (walksOf g p T).length := by omega
      have HRD := Lib.hid (show LL wo _ (regs (keysOf g p T) S) from by
        have h := hK.out.reads (trans2 HB12.out hB.out)
        rw [← HKL.out, regTo_all] at h
        exact h)
      have HZ := Lib.hid (trans2 (trans2 HM.out HB12.out) hB.out)
      clear hK hB
      go_wp2
      go_ret
      exact ⟨_, rfl, HRD.out, HZ.out⟩
end Go.Proofs.YtmbpmepoaonleaaGreat.Pl
