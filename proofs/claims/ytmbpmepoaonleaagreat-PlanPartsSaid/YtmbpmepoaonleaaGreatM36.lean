/-
  FrA, FrB, in one text.
-/
import Derived.Test.YtmbpmepoaonleaaGreatPlanG
import Derived.Test.YtmbpmepoaonleaaGreatM26
import Derived.Test.YtmbpmepoaonleaaGreatM06
import Derived.Test.YtmbpmepoaonleaaGreatM38
import Derived.Test.YtmbpmepoaonleaaGreatM13
import Derived.Test.YtmbpmepoaonleaaGreatM35
/-! What a drawn region with an append amid it wants, written out one operation after the other. -/
namespace Go.Proofs.YtmbpmepoaonleaaGreat
open Go.RowKit

/-- All operations but the one that writes slot d. -/
theorem grow_steps {P : Program} {os : List Oper} {Ss : List Sp} {Q : Exit → Act → World → Prop} {a0 : Act} {w0 : World} {k d n : Nat} (hn : Ss.length = n) (hd : ∀ i, i < n → i ≠ k → (os[i]?.bind (·.dst)) ≠ some d)
    (h : StepsP (fun o S => o.dst ≠ some d → StepOk P os Ss Q a0 w0 o S) os Ss) : ∀ i o S, i ≠ k → os[i]? = some o → Ss[i]? = some S → StepOk P os Ss Q a0 w0 o S := fun i o S hi ho hS =>
  h.get i o S ho hS (fun e => by
    have hl := (List.getElem?_eq_some_iff.1 hS).1
    refine hd i (by omega) hi ?_
    rw [ho]
    exact e)

def ok12 (S T : Sp) : Prop := T.new = false ∧ ∀ w w' v, S.p w v → T.p w' v
theorem is12 (c : Value) : ok12 (is c) (is c) := ⟨rfl, fun _ _ _ h => h⟩
theorem any12 (S : Sp) : ok12 S anySp := ⟨rfl, fun _ _ _ _ => trivial⟩
def pairs12 (k : Nat) : Nat → List Sp → List Sp → Prop
  | n, S :: Ss, T :: Tt => (n ≠ k → ok12 S T) ∧ pairs12 k (n + 1) Ss Tt
  | _, _, _ => True
theorem pairs12.get {k : Nat} : ∀ {n : Nat} {Ss Tt : List Sp}, pairs12 k n Ss Tt → ∀ i S T, n + i ≠ k → Ss[i]? = some S → Tt[i]? = some T → ok12 S T
  | _, [], _, _, i, S, T, _, h, _ => by simp at h
  | _, _ :: _, [], _, i, S, T, _, _, h => by simp at h
  | n, x :: Ss, y :: Tt, hs, 0, S, T, hn, h1, h2 => by
    simp at h1 h2
    subst h1 h2
    exact hs.1 hn
  | n, x :: Ss, y :: Tt, hs, i + 1, S, T, hn, h1, h2 => pairs12.get hs.2 i S T (by omega) (by simpa using h1) (by simpa using h2)
theorem h12_of {k : Nat} {Ss Tt : List Sp} (h : pairs12 k 0 Ss Tt) : ∀ i S T, i ≠ k → Ss[i]? = some S → Tt[i]? = some T → T.new = false ∧ ∀ w w' v, S.p w v → T.p w' v := fun i S T hi h1 h2 =>
  h.get i S T (by omega) h1 h2

/-- A list of the call's own, in a world that has come from an older one. -/
def spFrom (wS : World) (base : Nat) (h0 : base ≤ wS.heap.size) (l : List Int) : Sp := ⟨fun w v => Row w base v l ∧ Below base wS w, false, fun _ _ _ hb h => ⟨h.1.below hb, h.2.trans (hb.mono (Nat.le_trans h0 h.2.size))⟩⟩

/-- append(s, x) of one number, alone. -/
theorem wp_append1 {w : World} {o : Oper} {a : Act} {Q : Exit → Act → World → Prop} {K : Act → World → Prop} (s x : Operand)
    (ho : o.op = .call { callee := .builtin .append, args := #[s, x], argTypes := #[25, 25] })
    {base : Nat} {v : Value} {L : List Int} (hs : a.eval s = v) (hown : Row w base v L) {u : Value} {y : Int} (hx : a.eval x = u) (hI : Ints w u [y]) (h63 : L.length ≤ 4000000) (hbase : base ≤ w.heap.size)
    (h : ∀ v' w', Row w' base v' (L ++ [y]) → Below base w w' → K (a.put o.dst v') w') : o.wp Tryz.prog a w K Q := by
  obtain ⟨i0, hi, hz0, hz1, hz2⟩ := info_parts Tryz.infoInt
  obtain ⟨A', cap', rfl, hc, _, hr⟩ := hI
  obtain ⟨b, off, rfl, hb, hg⟩ := hr (by simp)
  obtain ⟨v', w', hrun, h2, h3, _⟩ := run_append_own (P := Tryz.prog) w base 25 o.type 3 i0 (.int .i64 0) 1 8 Tryz.underlying25 hi hz0 hz1 hz2 rfl (by decide) v L.length (L.map (Value.int .i64)) hown ⟨b, off, none⟩ 1 cap' [.int .i64 y] rfl (fun j u hu => by
    have hj : j = 0 := by
      have := (List.getElem?_eq_some_iff.1 hu).1
      simpa using this
    subst hj
    simp at hu
    subst hu
    have := hg 0 (by simp)
    rw [Addr.add_lit]
    exact this) (fun u hu => by simp at hu; subst hu; rfl) (by unfold maxLen; omega) (by omega) hbase
  unfold Oper.wp execOp
  simp only [ho, resolve, invoke, builtin, Sem.run_bind, Sem.run_pure, Result.andThen_ok, List.map_toArray, List.map_cons, List.map_nil, hs, hx, List.length_singleton, hrun]
  exact h v' w' (by
    show w'.ownsRow _ _ _ _ _ _
    rw [List.length_append, List.map_append]
    exact h2) ((Below.refl base w).grown h3 hbase (fun k hk => (World.ownsRow.lt hown k hk).1))
end Go.Proofs.YtmbpmepoaonleaaGreat

/-! The document's Sub: the vertices that are in a list, and the edges both of whose ends are. -/
namespace Go.Proofs.YtmbpmepoaonleaaGreat.Fc
open Go.Proofs.YtmbpmepoaonleaaGreat Go.RowKit

def subV (p : Prt) (l : List Int) (k : Nat) : List Int := (p.v.take k).filter fun x => decide (x ∈ l)
def inE (g : Gph) (l : List Int) (e : Int) : Bool := decide ((getE g.e e.toNat).a ∈ l) && decide ((getE g.e e.toNat).b ∈ l)
def subE (g : Gph) (p : Prt) (l : List Int) (k : Nat) : List Int := (p.e.take k).filter (inE g l)
/-- What Sub answers. -/
def subP (g : Gph) (p : Prt) (l : List Int) : Prt := ⟨p.v.filter fun x => decide (x ∈ l), p.e.filter (inE g l)⟩
theorem subV_succ (p : Prt) (l : List Int) (k : Nat) (h : k < p.v.length) : subV p l (k + 1) = subV p l k ++ (if getI p.v k ∈ l then [getI p.v k] else []) := by
  unfold subV
  rw [take_succ_getI p.v k h, List.filter_append]
  congr 1
  by_cases e : getI p.v k ∈ l
  · rw [if_pos e]; simp [e]
  · rw [if_neg e]; simp [e]
theorem subE_succ (g : Gph) (p : Prt) (l : List Int) (k : Nat) (h : k < p.e.length) : subE g p l (k + 1) = subE g p l k ++ (if inE g l (getI p.e k) = true then [getI p.e k] else []) := by
  unfold subE
  rw [take_succ_getI p.e k h, List.filter_append]
  congr 1
  by_cases e : inE g l (getI p.e k) = true
  · rw [if_pos e]; simp [e]
  · rw [if_neg e]; simp [e]
theorem subV_len (p : Prt) (l : List Int) (k : Nat) : (subV p l k).length ≤ p.v.length := Nat.le_trans (List.length_filter_le _ _) (by rw [List.length_take]; exact Nat.min_le_right _ _)
theorem subE_len (g : Gph) (p : Prt) (l : List Int) (k : Nat) : (subE g p l k).length ≤ p.e.length := Nat.le_trans (List.length_filter_le _ _) (by rw [List.length_take]; exact Nat.min_le_right _ _)

set_option maxRecDepth 100000 in
set_option maxHeartbeats 8000000 in
theorem sub_any (v u x : Value) (g : Gph) (p : Prt) (l : List Int) (w : World) (h : Gr w v g) (h' : Pt w u p) (hX : Ints w x l) (hl : l.length ≤ 1000000) (hp1 : p.v.length ≤ 1000000) (hp2 : p.e.length ≤ 1000000) (hpp : perr g p = 0) :
    Calls Tryz.prog 48 #[v, u, x] w fun e w' => ∃ v1 v2, e = .returned (.agg #[v1, v2]) ∧ Row w' w.heap.size v1 (subP g p l).v ∧ Row w' w.heap.size v2 (subP g p l).e ∧ Below w.heap.size w w' := by
  have HPP := Lib.hid hpp
  obtain ⟨ve, rfl, h1⟩ := h
  obtain ⟨vv, vp, rfl, h2, h3⟩ := h'
  obtain ⟨Ae, ce, rfl⟩ := h1.form
  obtain ⟨Av, cv, rfl⟩ := ints_form h2
  obtain ⟨Ap, cp, rfl⟩ := ints_form h3
  obtain ⟨Al, cl, rfl⟩ := ints_form hX
  obtain ⟨b1, b2, b3, hm⟩ := three_boxes w (.int .i64 g.n) (.slice Ae g.e.length ce) (.slice Av p.v.length cv) (.slice Ap p.e.length cp) (.slice none 0 0) (.slice none 0 0) 24 27 27
  obtain ⟨b4, hm4⟩ := one_box (((w.alloc (.cells #[.int .i64 g.n, .slice Ae g.e.length ce] 24)).alloc (.cells #[.slice Av p.v.length cv, .slice Ap p.e.length cp] 27)).alloc (.cells #[.slice none 0 0, .slice none 0 0] 27)) (.slice none 0 0) (.slice none 0 0) 27
  have hs3 : (((w.alloc (.cells #[.int .i64 g.n, .slice Ae g.e.length ce] 24)).alloc (.cells #[.slice Av p.v.length cv, .slice Ap p.e.length cp] 27)).alloc (.cells #[.slice none 0 0, .slice none 0 0] 27)).heap.size = w.heap.size + 3 := by simp
  rw [hs3] at b4
  have hs4 : ((((w.alloc (.cells #[.int .i64 g.n, .slice Ae g.e.length ce] 24)).alloc (.cells #[.slice Av p.v.length cv, .slice Ap p.e.length cp] 27)).alloc (.cells #[.slice none 0 0, .slice none 0 0] 27)).alloc (.cells #[.slice none 0 0, .slice none 0 0] 27)).heap.size = w.heap.size + 4 := by simp
  have HB1 := Lib.hid (b1.below hm4)
  have HB2 := Lib.hid (b2.below hm4)
  have HB3 := Lib.hid (b3.below hm4)
  have HB4 := Lib.hid b4
  have HM := Lib.hid (trans2 hm hm4)
  have HS4 := Lib.hid hs4
  have HEw := Lib.hid h1
  have HVw := Lib.hid h2
  have HPw := Lib.hid h3
  have HLw := Lib.hid hX
  clear b1 b2 b3 b4 hm hm4 hs3 hs4 h1 h2 h3 hX hpp
  go_enter Tryz.func48, Tryz.ntmps48
  go_wp2
  generalize (((w.alloc (.cells #[.int .i64 g.n, .slice Ae g.e.length ce] 24)).alloc (.cells #[.slice Av p.v.length cv, .slice Ap p.e.length cp] 27)).alloc (.cells #[.slice none 0 0, .slice none 0 0] 27)).alloc (.cells #[.slice none 0 0, .slice none 0 0] 27) = w1 at *
  -- the loops
  go_loopw [8] (fun i wr => ∃ (k : Nat) (u : Value), k ≤ p.v.length ∧ i = .int .i64 (k : Nat) ∧ Hid (Below (w.heap.size + 3) w1 wr) ∧ Hid (Box wr (w.heap.size + 3) u (.slice none 0 0)) ∧ Hid (Row wr (w.heap.size + 4) u (subV p l k))) (fun i _ => p.v.length - (Go.RowKit.intOf i).toNat)
  case atStart => exact ⟨0, _, Nat.zero_le _, rfl, Lib.hid (Below.refl _ _), HB4, Lib.hid (Row.nil _ _)⟩
  case round =>
    obtain ⟨k, u, hk, rfl, hB, hX, hR⟩ := hrel
    obtain ⟨wS, hwS⟩ : ∃ z, z = wr := ⟨_, rfl⟩
    subst hwS
    have hBw : Below w.heap.size w wS := HM.out.trans (hB.out.mono (by omega))
    obtain ⟨Au, cu, rfl⟩ := ints_form (Row.ints hR.out)
    have d0 := (HB2.out.keep hB.out (by omega)).c0
    by_cases hlt : k < p.v.length
    · obtain ⟨pb, po, rfl, hpz, hck⟩ := ints_at (HVw.out.below hBw) hlt
      have HIN := Lib.hid (in_any _ l (getI p.v k) wS (HLw.out.below hBw) hl)
      have HSU := Lib.hid (subV_succ p l k hlt)
      have hnl := subV_len p l k
      have hk0 : (0 : Int) ≤ (k : Int) := by omega
      have hk1 : (k : Int) < (p.v.length : Int) := by omega
      generalize getI p.v k = y at *
      go_wp2_with fail
      refine HIN.out.mono ?_
      rintro e w' ⟨rfl, rfl⟩
      clear d0 HIN
      by_cases hy : y ∈ l
      · rw [if_pos hy] at HSU
        have X1 := Lib.hid (HB2.out.keep hB.out (by omega))
        have X3 := hX
        have HR := hR
        have HBS := Lib.hid (show w.heap.size + 4 ≤ wS.heap.size by have := hX.out.lt; omega)
        have HLE := Lib.hid (show (subV p l k).length ≤ 4000000 by omega)
        have HK0 := Lib.hid hk0
        have HK1 := Lib.hid hk1
        rw [decide_eq_true hy]
        clear hy hk0 hk1 hnl
        generalize hnu : (subV p l k).length = nu at *
        have HNU := Lib.hid hnu
        clear hnu
        go_wp2_with fail
        refine wp_region_grow 8 [is (.pointer (some ⟨w.heap.size + 3, 0, none⟩)), is (.slice Au nu cu), is (.pointer (some ⟨w.heap.size + 1, 0, none⟩)), is (.slice (some ⟨pb, po, none⟩) p.v.length cv), is (.int .i64 (k : Int)), is (.pointer (some ⟨pb, po + k, none⟩)), is (.int .i64 y), spInts [y], anySp, is (.pointer (some ⟨w.heap.size + 3, 0, none⟩))] [is (.pointer (some ⟨w.heap.size + 3, 0, none⟩)), is (.slice Au nu cu), is (.pointer (some ⟨w.heap.size + 1, 0, none⟩)), is (.slice (some ⟨pb, po, none⟩) p.v.length cv), is (.int .i64 (k : Int)), is (.pointer (some ⟨pb, po + k, none⟩)), is (.int .i64 y), anySp, spFrom wS (w.heap.size + 4) HBS.out (subV p l k ++ [y]), is (.pointer (some ⟨w.heap.size + 3, 0, none⟩))] (spFrom wS (w.heap.size + 4) HBS.out (subV p l k ++ [y])) (by kernel_rfl) (by kernel_rfl) rfl rfl (grow_steps (d := 33) (n := 10) rfl (by decide) ?_) ?_ rfl rfl (h12_of ?_) ?_ ?_
        · skip
          refine StepsP.cons ?_ ?_
          · intro _; refine step_val (fun a wx hB O D => ?_)
            have e7 : a.tmps[7]? = some (.pointer (some ⟨w.heap.size + 3, 0, none⟩)) := O 7 (by rfl)
            clear O D
            exact ⟨rfl, by go_simp⟩
          refine StepsP.cons ?_ ?_
          · intro _; refine step_val (fun a wx hB O D => ?_)
            obtain ⟨_, e25, rfl⟩ := D 0 _ _ _ (by decide) rfl rfl rfl
            obtain ⟨c0, c1, _⟩ := X3.out.below hB
            clear O D
            exact ⟨rfl, by go_simp⟩
          refine StepsP.cons ?_ ?_
          · intro _; refine step_val (fun a wx hB O D => ?_)
            have e4 : a.tmps[4]? = some (.pointer (some ⟨w.heap.size + 1, 0, none⟩)) := O 4 (by rfl)
            clear O D
            exact ⟨rfl, by go_simp⟩
          refine StepsP.cons ?_ ?_
          · intro _; refine step_val (fun a wx hB O D => ?_)
            obtain ⟨_, e27, rfl⟩ := D 2 _ _ _ (by decide) rfl rfl rfl
            obtain ⟨c0, c1, _⟩ := X1.out.below hB
            clear O D
            exact ⟨rfl, by go_simp⟩
          refine StepsP.cons ?_ ?_
          · intro _; refine step_val (fun a wx hB O D => ?_)
            have e8 : a.tmps[8]? = some (.int .i64 (k : Int)) := O 8 (by rfl)
            clear O D
            exact ⟨rfl, by unfold execOp; simp only [ev e8]; rfl⟩
          refine StepsP.cons ?_ ?_
          · intro _; refine step_val (fun a wx hB O D => ?_)
            obtain ⟨_, e28, rfl⟩ := D 3 _ _ _ (by decide) rfl rfl rfl
            obtain ⟨_, e29, rfl⟩ := D 4 _ _ _ (by decide) rfl rfl rfl
            have hk0 := HK0.out
            have hk1 := HK1.out
            clear O D
            exact ⟨rfl, by go_simp⟩
          refine StepsP.cons ?_ ?_
          · intro _; refine step_val (fun a wx hB O D => ?_)
            obtain ⟨_, e30, rfl⟩ := D 5 _ _ _ (by decide) rfl rfl rfl
            have q := (hB.cell (p := ⟨pb, po + k, none⟩) hpz).trans hck
            clear O D
            exact ⟨rfl, by go_simp⟩
          refine StepsP.cons ?_ ?_
          · intro _; refine step_make rfl (fun a wx hB O D => ?_)
            obtain ⟨_, e31, rfl⟩ := D 6 _ _ _ (by decide) rfl rfl rfl
            exact ⟨rfl, .slice (some ⟨wx.heap.size, 0, none⟩) 1 1, wx.alloc (.cells #[.int .i64 y] 3), by go_simp, below_alloc _, Row.ints (row_lit1 wx y)⟩
          refine StepsP.cons ?_ ?_
          · exact fun h => absurd rfl h
          refine StepsP.cons ?_ ?_
          · intro _; refine step_val (fun a wx hB O D => ?_)
            have e7 : a.tmps[7]? = some (.pointer (some ⟨w.heap.size + 3, 0, none⟩)) := O 7 (by rfl)
            clear O D
            exact ⟨rfl, by go_simp⟩
          exact StepsP.nil
        · -- the append
          intro o ho a wx hB O D
          injection ho with ho
          subst ho
          obtain ⟨_, e26, rfl⟩ := D 1 _ _ _ (by decide) rfl rfl rfl
          obtain ⟨v32, e32, s32⟩ := D 7 _ _ _ (by decide) rfl rfl rfl
          refine ⟨rfl, wp_append1 (.tmp 26) (.tmp 32) rfl (ev e26) (Row.below HR.out hB) (ev e32) s32 (by rw [HNU.out]; exact HLE.out) (Nat.le_trans HBS.out hB.size) ?_⟩
          intro v' w' hr' hb'
          exact ⟨v', rfl, hr', (hB.mono HBS.out).trans hb'⟩
        · exact ⟨fun _ => is12 _, fun _ => is12 _, fun _ => is12 _, fun _ => is12 _, fun _ => is12 _, fun _ => is12 _, fun _ => is12 _, fun _ => any12 _, fun h => absurd rfl h, fun _ => is12 _, trivial⟩
        · -- the field
          intro o S2 ho hS a wx O
          injection ho with ho
          injection hS with hS
          subst ho hS
          have e7 : a.tmps[7]? = some (.pointer (some ⟨w.heap.size + 3, 0, none⟩)) := O 7 (by rfl)
          refine ⟨rfl, ?_⟩
          unfold Oper.wp
          rw [show (execOp a.eval _).run Tryz.prog wx = .ok (.value (.pointer (some ⟨w.heap.size + 3, 0, none⟩))) wx by go_simp]
          exact ⟨_, rfl, rfl, rfl⟩
        · intro wz
          refine EndP.is ?_
          refine EndP.is ?_
          refine EndP.is ?_
          refine EndP.is ?_
          refine EndP.is ?_
          refine EndP.is ?_
          refine EndP.is ?_
          refine EndP.any (fun v32 => ?_)
          refine EndP.sp rfl (fun v33 s33 => ?_)
          refine EndP.is ?_
          refine EndP.nil ?_
          obtain ⟨hr33, hb33⟩ := s33
          obtain ⟨A7, c7, rfl⟩ := ints_form (Row.ints hr33)
          have hX7 := X3.out.keep hb33 (by omega)
          have x0 := hX7.c0
          have t0 := hX7.thaw 0
          have hr8 : Row wz (w.heap.size + 4) (.slice A7 (subV p l k ++ [y]).length c7) (subV p l (k + 1)) := by rw [HSU.out]; exact hr33
          have HX8 := Lib.hid (hX7.store0 (.slice A7 (subV p l k ++ [y]).length c7))
          have HR8 := Lib.hid (Row.store hr8 (Nat.lt_succ_self (w.heap.size + 3)) 0 (.slice A7 (subV p l k ++ [y]).length c7))
          have HB8 := Lib.hid ((hB.out.trans (hb33.mono (Nat.le_succ _))).setCell (p := ⟨w.heap.size + 3, 0, none⟩) (Nat.le_refl _) (.slice A7 (subV p l k ++ [y]).length c7))
          clear hr33 hb33 hX7 hr8 hX hR hB
          generalize (subV p l k ++ [y]).length = n7 at *
          change wpList _ _ _ [_] _ _
          simp only [Act.put, List.setIfInBounds_toArray, List.set_cons_zero, List.set_cons_succ]
          go_wp2
          go_roundw
          case rel => exact ⟨k + 1, _, by omega, by go_num, HB8, HX8, HR8⟩
          case measure => simp [Go.RowKit.intOf]; omega
      · rw [if_neg hy, List.append_nil] at HSU
        have HRN := Lib.hid (show Row wS (w.heap.size + 4) _ (subV p l (k + 1)) by rw [HSU.out]; exact hR.out)
        rw [decide_eq_false hy]
        clear hy hR HSU hnl
        generalize (subV p l k).length = nu at *
        go_wp2
        go_roundw
        case rel => exact ⟨k + 1, _, by omega, by go_num, hB, hX, HRN⟩
        case measure => simp [Go.RowKit.intOf]; omega
    · obtain rfl : k = p.v.length := by omega
      obtain ⟨w5, hw5⟩ : ∃ z, z = wS := ⟨_, rfl⟩
      subst hw5
      have HR5 := Lib.hid (show Row w5 (w.heap.size + 4) (.slice Au (subV p l p.v.length).length cu) (subP g p l).v by
        have h1 := hR.out
        have e : subV p l p.v.length = (subP g p l).v := by unfold subV subP; rw [List.take_length]
        rw [← e]
        exact h1)
      have HUL := Lib.hid (fun gg hg => (World.ownsRow.lt HR5.out gg hg).2)
      have HBS5 := Lib.hid (show w.heap.size + 4 ≤ w5.heap.size by have := hX.out.lt; omega)
      clear hR hBw
      generalize (subV p l p.v.length).length = nu at *
      go_wp2
      clear d0
      go_loopw [9] (fun i wr => ∃ (k : Nat) (u2 : Value), k ≤ p.e.length ∧ i = .int .i64 (k : Nat) ∧ Hid (Below (w.heap.size + 3) w1 wr) ∧ Hid (Box wr (w.heap.size + 3) (.slice Au nu cu) u2) ∧ Hid (Row wr (w.heap.size + 4) (.slice Au nu cu) (subP g p l).v) ∧ Hid (Row wr w5.heap.size u2 (subE g p l k)) ∧ Hid (w5.heap.size ≤ wr.heap.size)) (fun i _ => p.e.length - (Go.RowKit.intOf i).toNat)
      case atStart => exact ⟨0, _, Nat.zero_le _, rfl, hB, hX, HR5, Lib.hid (Row.nil _ _), Lib.hid (Nat.le_refl _)⟩
      case round =>
        clear hB hX
        obtain ⟨k, u2, hk, rfl, hB, hX, hRV, hR, hSz⟩ := hrel
        obtain ⟨wo, hwo⟩ : ∃ z, z = wr := ⟨_, rfl⟩
        subst hwo
        have hBw : Below w.heap.size w wo := HM.out.trans (hB.out.mono (by omega))
        obtain ⟨Ae2, ce2, rfl⟩ := ints_form (Row.ints hR.out)
        have d1 := (HB2.out.keep hB.out (by omega)).c1
        by_cases hlt : k < p.e.length
        · obtain ⟨pb, po, rfl, hpz0, hck0⟩ := ints_at HPw.out hlt
          have hpz := Nat.lt_of_lt_of_le hpz0 hBw.size
          have hck := (hBw.cell (p := ⟨pb, po + k, none⟩) hpz0).trans hck0
          have hie := Rt.ints g p HPP.out (Rt.getI_in _ _ hlt)
          obtain ⟨en, hen⟩ : ∃ en : Nat, getI p.e k = (en : Int) := ⟨(getI p.e k).toNat, by omega⟩
          have hel : en < g.e.length := by omega
          obtain ⟨eb, eo, rfl, hez, g1, g2⟩ := edges_at (HEw.out.below hBw) hel
          have HSU := Lib.hid (subE_succ g p l k hlt)
          rw [hen] at hck hck0 HSU
          have HPk := Lib.hid (show pb < w.heap.size ∧ w.cell? ⟨pb, po + k, none⟩ = some (.int .i64 (en : Int)) from ⟨hpz0, hck0⟩)
          clear hpz0 hck0
          have HIE : Hid (inE g l (en : Int) = (decide ((getE g.e en).a ∈ l) && decide ((getE g.e en).b ∈ l))) := rfl
          have hnl := subE_len g p l k
          have HK0 := Lib.hid (show (0 : Int) ≤ (k : Int) by omega)
          have HK1 := Lib.hid (show (k : Int) < (p.e.length : Int) by omega)
          have HN0 := Lib.hid (show (0 : Int) ≤ (en : Int) by omega)
          have HN1 := Lib.hid (show (en : Int) < (g.e.length : Int) by omega)
          have X0 := Lib.hid (HB1.out.keep hB.out (by omega))
          have X1 := Lib.hid (HB2.out.keep hB.out (by omega))
          clear hen hie
          generalize (getE g.e en).a = xa at *
          generalize (getE g.e en).b = xb at *
          go_wp2_with fail
          clear d1
          refine wp_region_plan [is (.pointer (some ⟨w.heap.size, 1, none⟩)), is (.slice (some ⟨eb, eo, none⟩) g.e.length ce), is (.pointer (some ⟨w.heap.size + 1, 1, none⟩)), is (.slice (some ⟨pb, po, none⟩) p.e.length cp), is (.int .i64 (k : Int)), is (.pointer (some ⟨pb, po + k, none⟩)), is (.int .i64 (en : Int)), is (.pointer (some ⟨eb, eo + en * 2, none⟩)), is (.agg #[.int .i64 xa, .int .i64 xb]), spVar (.int .i64 0) (.int .i64 0)] (by kernel_rfl) (by kernel_rfl) ?_ ?_
          · skip
            refine StepsP.cons ?_ ?_
            · refine step_val (fun a wx hB O D => ?_)
              have e3 : a.tmps[3]? = some (.pointer (some ⟨w.heap.size, 0, none⟩)) := O 3 (by rfl)
              clear O D
              exact ⟨rfl, by go_simp⟩
            refine StepsP.cons ?_ ?_
            · refine step_val (fun a wx hB O D => ?_)
              obtain ⟨_, e42, rfl⟩ := D 0 _ _ _ (by decide) rfl rfl rfl
              obtain ⟨c0, c1, _⟩ := X0.out.below hB
              clear O D
              exact ⟨rfl, by go_simp⟩
            refine StepsP.cons ?_ ?_
            · refine step_val (fun a wx hB O D => ?_)
              have e4 : a.tmps[4]? = some (.pointer (some ⟨w.heap.size + 1, 0, none⟩)) := O 4 (by rfl)
              clear O D
              exact ⟨rfl, by go_simp⟩
            refine StepsP.cons ?_ ?_
            · refine step_val (fun a wx hB O D => ?_)
              obtain ⟨_, e44, rfl⟩ := D 2 _ _ _ (by decide) rfl rfl rfl
              obtain ⟨c0, c1, _⟩ := X1.out.below hB
              clear O D
              exact ⟨rfl, by go_simp⟩
            refine StepsP.cons ?_ ?_
            · refine step_val (fun a wx hB O D => ?_)
              have e9 : a.tmps[9]? = some (.int .i64 (k : Int)) := O 9 (by rfl)
              clear O D
              exact ⟨rfl, by unfold execOp; simp only [ev e9]; rfl⟩
            refine StepsP.cons ?_ ?_
            · refine step_val (fun a wx hB O D => ?_)
              obtain ⟨_, e45, rfl⟩ := D 3 _ _ _ (by decide) rfl rfl rfl
              obtain ⟨_, e46, rfl⟩ := D 4 _ _ _ (by decide) rfl rfl rfl
              have hk0 := HK0.out
              have hk1 := HK1.out
              clear O D
              exact ⟨rfl, by go_simp⟩
            refine StepsP.cons ?_ ?_
            · refine step_val (fun a wx hB O D => ?_)
              obtain ⟨_, e47, rfl⟩ := D 5 _ _ _ (by decide) rfl rfl rfl
              have q0 := (hB.cell (p := ⟨pb, po + k, none⟩) hpz).trans hck
              clear O D
              exact ⟨rfl, by go_simp⟩
            refine StepsP.cons ?_ ?_
            · refine step_val (fun a wx hB O D => ?_)
              obtain ⟨_, e43, rfl⟩ := D 1 _ _ _ (by decide) rfl rfl rfl
              obtain ⟨_, e48, rfl⟩ := D 6 _ _ _ (by decide) rfl rfl rfl
              have hn0 := HN0.out
              have hn1 := HN1.out
              clear O D
              exact ⟨rfl, by go_simp⟩
            refine StepsP.cons ?_ ?_
            · refine step_val (fun a wx hB O D => ?_)
              obtain ⟨_, e49, rfl⟩ := D 7 _ _ _ (by decide) rfl rfl rfl
              have q1 := (hB.cell (p := ⟨eb, eo + en * 2, none⟩) hez).trans g1
              have q2 := (hB.cell (p := ⟨eb, eo + en * 2 + 1, none⟩) hez).trans g2
              clear O D
              exact ⟨rfl, by go_simp⟩
            refine StepsP.cons ?_ ?_
            · exact step_alloc rfl rfl zeroEdge spVar_new
            exact StepsP.nil
          · intro wz hZ
            refine EndP.is ?_
            refine EndP.is ?_
            refine EndP.is ?_
            refine EndP.is ?_
            refine EndP.is ?_
            refine EndP.is ?_
            refine EndP.is ?_
            refine EndP.is ?_
            refine EndP.is ?_
            refine EndP.new rfl (fun g10 s10 l10 n10 => ?_)
            refine EndP.nil ?_
            have hbx := spVar_at s10
            have HEb := Lib.hid (hbx.put (.int .i64 xa) (.int .i64 xb))
            have z0 := hbx.box.c0
            have z1 := hbx.box.c1
            have t0 := hbx.box.thaw 0
            have t1 := hbx.box.thaw 1
            have hlo : w.heap.size + 4 ≤ wo.heap.size := Nat.le_trans HBS5.out hSz.out
            have HBa := Lib.hid (below_stored (b := g10) (u' := .int .i64 xa) (v' := .int .i64 xb) hZ l10.1)
            clear hbx s10 l10 n10 hZ hck hpz g1 g2 X0 X1
            obtain ⟨wS, hwa⟩ : ∃ z, (wz.setCell ⟨g10, 0, none⟩ (.int .i64 xa)).setCell ⟨g10, 1, none⟩ (.int .i64 xb) = z := ⟨_, rfl⟩
            rw [hwa] at HEb HBa
            have X3 := Lib.hid (hX.out.below HBa.out)
            have HRV := Lib.hid (Row.below hRV.out HBa.out)
            have HR := Lib.hid (Row.below hR.out HBa.out)
            have HBB := Lib.hid (hB.out.trans (HBa.out.mono (by omega)))
            have HBS := Lib.hid (Nat.le_trans hSz.out HBa.out.size)
            have hBW : Below w.heap.size w wS := hBw.trans (HBa.out.mono (by omega))
            have X1 := Lib.hid (HB2.out.keep HBB.out (by omega))
            have HINa := Lib.hid (in_any _ l xa wS (HLw.out.below hBW) hl)
            have HINb := Lib.hid (in_any _ l xb wS (HLw.out.below hBW) hl)
            have hpz := Nat.lt_of_lt_of_le HPk.out.1 hBW.size
            have hck := (hBW.cell (p := ⟨pb, po + k, none⟩) HPk.out.1).trans HPk.out.2
            have b0 := HEb.out.box.c0
            have b1 := HEb.out.box.c1
            clear hX hRV hR hB hSz hBw HBa hlo
            go_wp2_with fail
            refine HINa.out.mono ?_
            rintro e w' ⟨rfl, rfl⟩
            clear HINa z0 z1 t0 t1 hwa
            by_cases ha : xa ∈ l
            · rw [decide_eq_true ha]
              go_wp2_with fail
              refine HINb.out.mono ?_
              rintro e w' ⟨rfl, rfl⟩
              clear HINb b0 b1
              by_cases hb : xb ∈ l
              · rw [decide_eq_true hb]
                rw [if_pos (by rw [HIE.out, decide_eq_true ha, decide_eq_true hb]; rfl)] at HSU
                have HLE := Lib.hid (show (subE g p l k).length ≤ 4000000 by omega)
                clear ha hb hnl
                generalize hne : (subE g p l k).length = ne at *
                have HNE := Lib.hid hne
                clear hne
                go_wp2_with fail
                refine wp_region_grow 8 [is (.pointer (some ⟨w.heap.size + 3, 1, none⟩)), is (.slice Ae2 ne ce2), is (.pointer (some ⟨w.heap.size + 1, 1, none⟩)), is (.slice (some ⟨pb, po, none⟩) p.e.length cp), is (.int .i64 (k : Int)), is (.pointer (some ⟨pb, po + k, none⟩)), is (.int .i64 (en : Int)), spInts [(en : Int)], anySp, is (.pointer (some ⟨w.heap.size + 3, 1, none⟩))] [is (.pointer (some ⟨w.heap.size + 3, 1, none⟩)), is (.slice Ae2 ne ce2), is (.pointer (some ⟨w.heap.size + 1, 1, none⟩)), is (.slice (some ⟨pb, po, none⟩) p.e.length cp), is (.int .i64 (k : Int)), is (.pointer (some ⟨pb, po + k, none⟩)), is (.int .i64 (en : Int)), anySp, spFrom wS w5.heap.size HBS.out (subE g p l k ++ [(en : Int)]), is (.pointer (some ⟨w.heap.size + 3, 1, none⟩))] (spFrom wS w5.heap.size HBS.out (subE g p l k ++ [(en : Int)])) (by kernel_rfl) (by kernel_rfl) rfl rfl (grow_steps (d := 69) (n := 10) rfl (by decide) ?_) ?_ rfl rfl (h12_of ?_) ?_ ?_
                · skip
                  refine StepsP.cons ?_ ?_
                  · intro _; refine step_val (fun a wx hB O D => ?_)
                    have e7 : a.tmps[7]? = some (.pointer (some ⟨w.heap.size + 3, 0, none⟩)) := O 7 (by rfl)
                    clear O D
                    exact ⟨rfl, by go_simp⟩
                  refine StepsP.cons ?_ ?_
                  · intro _; refine step_val (fun a wx hB O D => ?_)
                    obtain ⟨_, e61, rfl⟩ := D 0 _ _ _ (by decide) rfl rfl rfl
                    obtain ⟨c0, c1, _⟩ := X3.out.below hB
                    clear O D
                    exact ⟨rfl, by go_simp⟩
                  refine StepsP.cons ?_ ?_
                  · intro _; refine step_val (fun a wx hB O D => ?_)
                    have e4 : a.tmps[4]? = some (.pointer (some ⟨w.heap.size + 1, 0, none⟩)) := O 4 (by rfl)
                    clear O D
                    exact ⟨rfl, by go_simp⟩
                  refine StepsP.cons ?_ ?_
                  · intro _; refine step_val (fun a wx hB O D => ?_)
                    obtain ⟨_, e63, rfl⟩ := D 2 _ _ _ (by decide) rfl rfl rfl
                    obtain ⟨c0, c1, _⟩ := X1.out.below hB
                    clear O D
                    exact ⟨rfl, by go_simp⟩
                  refine StepsP.cons ?_ ?_
                  · intro _; refine step_val (fun a wx hB O D => ?_)
                    have e9 : a.tmps[9]? = some (.int .i64 (k : Int)) := O 9 (by rfl)
                    clear O D
                    exact ⟨rfl, by unfold execOp; simp only [ev e9]; rfl⟩
                  refine StepsP.cons ?_ ?_
                  · intro _; refine step_val (fun a wx hB O D => ?_)
                    obtain ⟨_, e64, rfl⟩ := D 3 _ _ _ (by decide) rfl rfl rfl
                    obtain ⟨_, e65, rfl⟩ := D 4 _ _ _ (by decide) rfl rfl rfl
                    have hk0 := HK0.out
                    have hk1 := HK1.out
                    clear O D
                    exact ⟨rfl, by go_simp⟩
                  refine StepsP.cons ?_ ?_
                  · intro _; refine step_val (fun a wx hB O D => ?_)
                    obtain ⟨_, e66, rfl⟩ := D 5 _ _ _ (by decide) rfl rfl rfl
                    have q := (hB.cell (p := ⟨pb, po + k, none⟩) hpz).trans hck
                    clear O D
                    exact ⟨rfl, by go_simp⟩
                  refine StepsP.cons ?_ ?_
                  · intro _; refine step_make rfl (fun a wx hB O D => ?_)
                    obtain ⟨_, e67, rfl⟩ := D 6 _ _ _ (by decide) rfl rfl rfl
                    exact ⟨rfl, .slice (some ⟨wx.heap.size, 0, none⟩) 1 1, wx.alloc (.cells #[.int .i64 (en : Int)] 3), by go_simp, below_alloc _, Row.ints (row_lit1 wx (en : Int))⟩
                  refine StepsP.cons ?_ ?_
                  · exact fun h => absurd rfl h
                  refine StepsP.cons ?_ ?_
                  · intro _; refine step_val (fun a wx hB O D => ?_)
                    have e7 : a.tmps[7]? = some (.pointer (some ⟨w.heap.size + 3, 0, none⟩)) := O 7 (by rfl)
                    clear O D
                    exact ⟨rfl, by go_simp⟩
                  exact StepsP.nil
                · -- the append
                  intro o ho a wx hB O D
                  injection ho with ho
                  subst ho
                  obtain ⟨_, e62, rfl⟩ := D 1 _ _ _ (by decide) rfl rfl rfl
                  obtain ⟨v68, e68, s68⟩ := D 7 _ _ _ (by decide) rfl rfl rfl
                  refine ⟨rfl, wp_append1 (.tmp 62) (.tmp 68) rfl (ev e62) (Row.below HR.out hB) (ev e68) s68 (by rw [HNE.out]; exact HLE.out) (Nat.le_trans HBS.out hB.size) ?_⟩
                  intro v' w' hr' hb'
                  exact ⟨v', rfl, hr', (hB.mono HBS.out).trans hb'⟩
                · exact ⟨fun _ => is12 _, fun _ => is12 _, fun _ => is12 _, fun _ => is12 _, fun _ => is12 _, fun _ => is12 _, fun _ => is12 _, fun _ => any12 _, fun h => absurd rfl h, fun _ => is12 _, trivial⟩
                · -- the field
                  intro o S2 ho hS a wx O
                  injection ho with ho
                  injection hS with hS
                  subst ho hS
                  have e7 : a.tmps[7]? = some (.pointer (some ⟨w.heap.size + 3, 0, none⟩)) := O 7 (by rfl)
                  refine ⟨rfl, ?_⟩
                  unfold Oper.wp
                  rw [show (execOp a.eval _).run Tryz.prog wx = .ok (.value (.pointer (some ⟨w.heap.size + 3, 1, none⟩))) wx by go_simp]
                  exact ⟨_, rfl, rfl, rfl⟩
                · intro wz
                  refine EndP.is ?_
                  refine EndP.is ?_
                  refine EndP.is ?_
                  refine EndP.is ?_
                  refine EndP.is ?_
                  refine EndP.is ?_
                  refine EndP.is ?_
                  refine EndP.any (fun v68 => ?_)
                  refine EndP.sp rfl (fun v69 s69 => ?_)
                  refine EndP.is ?_
                  refine EndP.nil ?_
                  obtain ⟨hr69, hb69⟩ := s69
                  obtain ⟨A7, c7, rfl⟩ := ints_form (Row.ints hr69)
                  have hlo : w.heap.size + 4 ≤ w5.heap.size := HBS5.out
                  have hX7 := X3.out.keep hb69 (by omega)
                  have x1 := hX7.c1
                  have t1 := hX7.thaw 1
                  have hrv : Row wz (w.heap.size + 4) (.slice Au nu cu) (subP g p l).v := own_block HRV.out (fun gg hg => hb69.block gg (HUL.out gg hg))
                  have hr8 : Row wz w5.heap.size (.slice A7 (subE g p l k ++ [(en : Int)]).length c7) (subE g p l (k + 1)) := by rw [HSU.out]; exact hr69
                  have HX8 := Lib.hid (hX7.store1 (.slice A7 (subE g p l k ++ [(en : Int)]).length c7))
                  have HRV8 := Lib.hid (Row.store hrv (Nat.lt_succ_self (w.heap.size + 3)) 1 (.slice A7 (subE g p l k ++ [(en : Int)]).length c7))
                  have HR8 := Lib.hid (Row.store hr8 (show w.heap.size + 3 < w5.heap.size by omega) 1 (.slice A7 (subE g p l k ++ [(en : Int)]).length c7))
                  have HB8 := Lib.hid ((HBB.out.trans (hb69.mono (by omega))).setCell (p := ⟨w.heap.size + 3, 1, none⟩) (Nat.le_refl _) (.slice A7 (subE g p l k ++ [(en : Int)]).length c7))
                  have HS8 := Lib.hid (show w5.heap.size ≤ (wz.setCell ⟨w.heap.size + 3, 1, none⟩ (.slice A7 (subE g p l k ++ [(en : Int)]).length c7)).heap.size by
                    have := Nat.le_trans HBS.out hb69.size
                    simpa [World.setCell] using this)
                  clear hr69 hb69 hX7 hr8 hrv
                  generalize (subE g p l k ++ [(en : Int)]).length = n7 at *
                  change wpList _ _ _ [_] _ _
                  simp only [Act.put, List.setIfInBounds_toArray, List.set_cons_zero, List.set_cons_succ]
                  go_wp2
                  go_roundw
                  case rel => exact ⟨k + 1, _, by omega, by go_num, HB8, HX8, HRV8, HR8, HS8⟩
                  case measure => simp [Go.RowKit.intOf]; omega
              · rw [decide_eq_false hb]
                rw [if_neg (by rw [HIE.out, decide_eq_false hb, Bool.and_false]; decide), List.append_nil] at HSU
                have HRN := Lib.hid (show Row wS w5.heap.size _ (subE g p l (k + 1)) by rw [HSU.out]; exact HR.out)
                clear ha hb hnl HSU
                generalize (subE g p l k).length = ne at *
                go_wp2
                go_roundw
                case rel => exact ⟨k + 1, _, by omega, by go_num, HBB, X3, HRV, HRN, HBS⟩
                case measure => simp [Go.RowKit.intOf]; omega
            · rw [decide_eq_false ha]
              rw [if_neg (by rw [HIE.out, decide_eq_false ha, Bool.false_and]; decide), List.append_nil] at HSU
              have HRN := Lib.hid (show Row wS w5.heap.size _ (subE g p l (k + 1)) by rw [HSU.out]; exact HR.out)
              clear ha hnl HSU HINb b0 b1
              generalize (subE g p l k).length = ne at *
              go_wp2
              go_roundw
              case rel => exact ⟨k + 1, _, by omega, by go_num, HBB, X3, HRV, HRN, HBS⟩
              case measure => simp [Go.RowKit.intOf]; omega
        · obtain rfl : k = p.e.length := by omega
          have Z2 := HB3.out.keep hB.out (by omega)
          have z0 := Z2.c0
          have z1 := Z2.c1
          have z2 := Z2.thaw 0
          have z3 := Z2.thaw 1
          have x0 := hX.out.c0
          have x1 := hX.out.c1
          have hlo : w.heap.size + 4 ≤ w5.heap.size := HBS5.out
          have HWB := Lib.hid ((Z2.store0 (.slice Au nu cu)).store1 (.slice Ae2 (subE g p l p.e.length).length ce2))
          have HRV9 := Lib.hid ((Row.stored hRV.out (show w.heap.size + 2 < w.heap.size + 4 by omega) (.slice Au nu cu) (.slice Ae2 (subE g p l p.e.length).length ce2)).le (show w.heap.size ≤ w.heap.size + 4 by omega))
          have HRE9 := Lib.hid ((Row.stored hR.out (show w.heap.size + 2 < w5.heap.size by omega) (.slice Au nu cu) (.slice Ae2 (subE g p l p.e.length).length ce2)).le (show w.heap.size ≤ w5.heap.size by omega))
          have HBB := Lib.hid (below_stored (b := w.heap.size + 2) (u' := .slice Au nu cu) (v' := .slice Ae2 (subE g p l p.e.length).length ce2) hBw (by omega))
          have HEQ := Lib.hid (show subE g p l p.e.length = (subP g p l).e by unfold subE subP; rw [List.take_length])
          clear Z2 hB hX hRV hR hBw
          go_wp2
          refine bodyPost_ret (v := .agg #[.slice Au nu cu, .slice Ae2 (subE g p l p.e.length).length ce2]) ?_ rfl ⟨_, _, rfl, HRV9.out, by rw [← HEQ.out]; exact HRE9.out, HBB.out⟩
          simp [results, Tryz.results48, go_sem, HWB.out.c0, HWB.out.c1]
end Go.Proofs.YtmbpmepoaonleaaGreat.Fc
