/-
  FrA, FrB, FrC, FrD, in one text.
-/
import Derived.Test.YtmbpmepoaonleaaGreatPlanG
import Derived.Test.YtmbpmepoaonleaaGreatM26
import Derived.Test.YtmbpmepoaonleaaGreatM06
import Derived.Test.YtmbpmepoaonleaaGreatM38
import Derived.Test.YtmbpmepoaonleaaGreatM13
import Derived.Test.YtmbpmepoaonleaaGreatM35
import Derived.Test.YtmbpmepoaonleaaGreatM20
import Derived.Test.YtmbpmepoaonleaaGreatM31
/-! What a drawn region with an append amid it wants, written out one operation after the other. -/
namespace Go.Proofs.YtmbpmepoaonleaaGreat
open Go.RowKit

/-- All operations but the one that writes slot d. -/
theorem grow_steps {P : Program} {os : List Oper} {Ss : List Sp} {Q : Exit → Act → World → Prop} {a0 : Act} {w0 : World} {k d n : Nat} (hn : Ss.length = n) (hd : ∀ i, i < n → i ≠ k → (os[i]?.bind (·.dst)) ≠ some d)
    (h : StepsP (fun o S => o.dst ≠ some d → StepOk P os Ss Q a0 w0 o S) os Ss) : ∀ i o S, i ≠ k → os[i]? = some o → Ss[i]? = some S → StepOk P os Ss Q a0 w0 o S := fun i o S hi ho hS =>
  h.get i o S ho hS (fun e => by
    have hl := (List.getElem?_eq_some_iff.1 hS).1
    refine hd i (by omega) hi ?_
    rw [ho]
    exact e)

def ok12 (S T : Sp) : Prop := T.new = false ∧ ∀ w w' v, S.p w v → T.p w' v
theorem is12 (c : Value) : ok12 (is c) (is c) := ⟨rfl, fun _ _ _ h => h⟩
theorem any12 (S : Sp) : ok12 S anySp := ⟨rfl, fun _ _ _ _ => trivial⟩
def pairs12 (k : Nat) : Nat → List Sp → List Sp → Prop
  | n, S :: Ss, T :: Tt => (n ≠ k → ok12 S T) ∧ pairs12 k (n + 1) Ss Tt
  | _, _, _ => True
theorem pairs12.get {k : Nat} : ∀ {n : Nat} {Ss Tt : List Sp}, pairs12 k n Ss Tt → ∀ i S T, n + i ≠ k → Ss[i]? = some S → Tt[i]? = some T → ok12 S T
  | _, [], _, _, i, S, T, _, h, _ => by simp at h
  | _, _ :: _, [], _, i, S, T, _, _, h => by simp at h
  | n, x :: Ss, y :: Tt, hs, 0, S, T, hn, h1, h2 => by
    simp at h1 h2
    subst h1 h2
    exact hs.1 hn
  | n, x :: Ss, y :: Tt, hs, i + 1, S, T, hn, h1, h2 => pairs12.get hs.2 i S T (by omega) (by simpa using h1) (by simpa using h2)
theorem h12_of {k : Nat} {Ss Tt : List Sp} (h : pairs12 k 0 Ss Tt) : ∀ i S T, i ≠ k → Ss[i]? = some S → Tt[i]? = some T → T.new = false ∧ ∀ w w' v, S.p w v → T.p w' v := fun i S T hi h1 h2 =>
  h.get i S T (by omega) h1 h2

/-- A list of the call's own, in a world that has come from an older one. -/
def spFrom (wS : World) (base : Nat) (h0 : base ≤ wS.heap.size) (l : List Int) : Sp := ⟨fun w v => Row w base v l ∧ Below base wS w, false, fun _ _ _ hb h => ⟨h.1.below hb, h.2.trans (hb.mono (Nat.le_trans h0 h.2.size))⟩⟩

/-- append(s, x) of one number, alone. -/
theorem wp_append1 {w : World} {o : Oper} {a : Act} {Q : Exit → Act → World → Prop} {K : Act → World → Prop} (s x : Operand)
    (ho : o.op = .call { callee := .builtin .append, args := #[s, x], argTypes := #[25, 25] })
    {base : Nat} {v : Value} {L : List Int} (hs : a.eval s = v) (hown : Row w base v L) {u : Value} {y : Int} (hx : a.eval x = u) (hI : Ints w u [y]) (h63 : L.length ≤ 4000000) (hbase : base ≤ w.heap.size)
    (h : ∀ v' w', Row w' base v' (L ++ [y]) → Below base w w' → K (a.put o.dst v') w') : o.wp Tryz.prog a w K Q := by
  obtain ⟨i0, hi, hz0, hz1, hz2⟩ := info_parts Tryz.infoInt
  obtain ⟨A', cap', rfl, hc, _, hr⟩ := hI
  obtain ⟨b, off, rfl, hb, hg⟩ := hr (by simp)
  obtain ⟨v', w', hrun, h2, h3, _⟩ := run_append_own (P := Tryz.prog) w base 25 o.type 3 i0 (.int .i64 0) 1 8 Tryz.underlying25 hi hz0 hz1 hz2 rfl (by decide) v L.length (L.map (Value.int .i64)) hown ⟨b, off, none⟩ 1 cap' [.int .i64 y] rfl (fun j u hu => by
    have hj : j = 0 := by
      have := (List.getElem?_eq_some_iff.1 hu).1
      simpa using this
    subst hj
    simp at hu
    subst hu
    have := hg 0 (by simp)
    rw [Addr.add_lit]
    exact this) (fun u hu => by simp at hu; subst hu; rfl) (by unfold maxLen; omega) (by omega) hbase
  unfold Oper.wp execOp
  simp only [ho, resolve, invoke, builtin, Sem.run_bind, Sem.run_pure, Result.andThen_ok, List.map_toArray, List.map_cons, List.map_nil, hs, hx, List.length_singleton, hrun]
  exact h v' w' (by
    show w'.ownsRow _ _ _ _ _ _
    rw [List.length_append, List.map_append]
    exact h2) ((Below.refl base w).grown h3 hbase (fun k hk => (World.ownsRow.lt hown k hk).1))
end Go.Proofs.YtmbpmepoaonleaaGreat

/-! The document's Sub: the vertices that are in a list, and the edges both of whose ends are. -/
namespace Go.Proofs.YtmbpmepoaonleaaGreat.Fc
open Go.Proofs.YtmbpmepoaonleaaGreat Go.RowKit

def subV (p : Prt) (l : List Int) (k : Nat) : List Int := (p.v.take k).filter fun x => decide (x ∈ l)
def inE (g : Gph) (l : List Int) (e : Int) : Bool := decide ((getE g.e e.toNat).a ∈ l) && decide ((getE g.e e.toNat).b ∈ l)
def subE (g : Gph) (p : Prt) (l : List Int) (k : Nat) : List Int := (p.e.take k).filter (inE g l)
/-- What Sub answers. -/
def subP (g : Gph) (p : Prt) (l : List Int) : Prt := ⟨p.v.filter fun x => decide (x ∈ l), p.e.filter (inE g l)⟩
theorem subV_succ (p : Prt) (l : List Int) (k : Nat) (h : k < p.v.length) : subV p l (k + 1) = subV p l k ++ (if getI p.v k ∈ l then [getI p.v k] else []) := by
  unfold subV
  rw [take_succ_getI p.v k h, List.filter_append]
  congr 1
  by_cases e : getI p.v k ∈ l
  · rw [if_pos e]; simp [e]
  · rw [if_neg e]; simp [e]
theorem subE_succ (g : Gph) (p : Prt) (l : List Int) (k : Nat) (h : k < p.e.length) : subE g p l (k + 1) = subE g p l k ++ (if inE g l (getI p.e k) = true then [getI p.e k] else []) := by
  unfold subE
  rw [take_succ_getI p.e k h, List.filter_append]
  congr 1
  by_cases e : inE g l (getI p.e k) = true
  · rw [if_pos e]; simp [e]
  · rw [if_neg e]; simp [e]
theorem subV_len (p : Prt) (l : List Int) (k : Nat) : (subV p l k).length ≤ p.v.length := Nat.le_trans (List.length_filter_le _ _) (by rw [List.length_take]; exact Nat.min_le_right _ _)
theorem subE_len (g : Gph) (p : Prt) (l : List Int) (k : Nat) : (subE g p l k).length ≤ p.e.length := Nat.le_trans (List.length_filter_le _ _) (by rw [List.length_take]; exact Nat.min_le_right _ _)

set_option maxRecDepth 100000 in
set_option maxHeartbeats 8000000 in
theorem sub_any (v u x : Value) (g : Gph) (p : Prt) (l : List Int) (w : World) (h : Gr w v g) (h' : Pt w u p) (hX : Ints w x l) (hl : l.length ≤ 1000000) (hp1 : p.v.length ≤ 1000000) (hp2 : p.e.length ≤ 1000000) (hpp : perr g p = 0) :
    Calls Tryz.prog 48 #[v, u, x] w fun e w' => ∃ v1 v2, e = .returned (.agg #[v1, v2]) ∧ Row w' w.heap.size v1 (subP g p l).v ∧ Row w' w.heap.size v2 (subP g p l).e ∧ Below w.heap.size w w' := by
  have HPP := Lib.hid hpp
  obtain ⟨ve, rfl, h1⟩ := h
  obtain ⟨vv, vp, rfl, h2, h3⟩ := h'
  obtain ⟨Ae, ce, rfl⟩ := h1.form
  obtain ⟨Av, cv, rfl⟩ := ints_form h2
  obtain ⟨Ap, cp, rfl⟩ := ints_form h3
  obtain ⟨Al, cl, rfl⟩ := ints_form hX
  obtain ⟨b1, b2, b3, hm⟩ := three_boxes w (.int .i64 g.n) (.slice Ae g.e.length ce) (.slice Av p.v.length cv) (.slice Ap p.e.length cp) (.slice none 0 0) (.slice none 0 0) 24 27 27
  obtain ⟨b4, hm4⟩ := one_box (((w.alloc (.cells #[.int .i64 g.n, .slice Ae g.e.length ce] 24)).alloc (.cells #[.slice Av p.v.length cv, .slice Ap p.e.length cp] 27)).alloc (.cells #[.slice none 0 0, .slice none 0 0] 27)) (.slice none 0 0) (.slice none 0 0) 27
  have hs3 : (((w.alloc (.cells #[.int .i64 g.n, .slice Ae g.e.length ce] 24)).alloc (.cells #[.slice Av p.v.length cv, .slice Ap p.e.length cp] 27)).alloc (.cells #[.slice none 0 0, .slice none 0 0] 27)).heap.size = w.heap.size + 3 := by simp
  rw [hs3] at b4
  have hs4 : ((((w.alloc (.cells #[.int .i64 g.n, .slice Ae g.e.length ce] 24)).alloc (.cells #[.slice Av p.v.length cv, .slice Ap p.e.length cp] 27)).alloc (.cells #[.slice none 0 0, .slice none 0 0] 27)).alloc (.cells #[.slice none 0 0, .slice none 0 0] 27)).heap.size = w.heap.size + 4 := by simp
  have HB1 := Lib.hid (b1.below hm4)
  have HB2 := Lib.hid (b2.below hm4)
  have HB3 := Lib.hid (b3.below hm4)
  have HB4 := Lib.hid b4
  have HM := Lib.hid (trans2 hm hm4)
  have HS4 := Lib.hid hs4
  have HEw := Lib.hid h1
  have HVw := Lib.hid h2
  have HPw := Lib.hid h3
  have HLw := Lib.hid hX
  clear b1 b2 b3 b4 hm hm4 hs3 hs4 h1 h2 h3 hX hpp
  go_enter Tryz.func48, Tryz.ntmps48
  go_wp2
  generalize (((w.alloc (.cells #[.int .i64 g.n, .slice Ae g.e.length ce] 24)).alloc (.cells #[.slice Av p.v.length cv, .slice Ap p.e.length cp] 27)).alloc (.cells #[.slice none 0 0, .slice none 0 0] 27)).alloc (.cells #[.slice none 0 0, .slice none 0 0] 27) = w1 at *
  -- the loops
  go_loopw [8] (fun i wr => ∃ (k : Nat) (u : Value), k ≤ p.v.length ∧ i = .int .i64 (k : Nat) ∧ Hid (Below (w.heap.size + 3) w1 wr) ∧ Hid (Box wr (w.heap.size + 3) u (.slice none 0 0)) ∧ Hid (Row wr (w.heap.size + 4) u (subV p l k))) (fun i _ => p.v.length - (Go.RowKit.intOf i).toNat)
  case atStart => exact ⟨0, _, Nat.zero_le _, rfl, Lib.hid (Below.refl _ _), HB4, Lib.hid (Row.nil _ _)⟩
  case round =>
    obtain ⟨k, u, hk, rfl, hB, hX, hR⟩ := hrel
    obtain ⟨wS, hwS⟩ : ∃ z, z = wr := ⟨_, rfl⟩
    subst hwS
    have hBw : Below w.heap.size w wS := HM.out.trans (hB.out.mono (by omega))
    obtain ⟨Au, cu, rfl⟩ := ints_form (Row.ints hR.out)
    have d0 := (HB2.out.keep hB.out (by omega)).c0
    by_cases hlt : k < p.v.length
    · obtain ⟨pb, po, rfl, hpz, hck⟩ := ints_at (HVw.out.below hBw) hlt
      have HIN := Lib.hid (in_any _ l (getI p.v k) wS (HLw.out.below hBw) hl)
      have HSU := Lib.hid (subV_succ p l k hlt)
      have hnl := subV_len p l k
      have hk0 : (0 : Int) ≤ (k : Int) := by omega
      have hk1 : (k : Int) < (p.v.length : Int) := by omega
      generalize getI p.v k = y at *
      go_wp2_with fail
      refine HIN.out.mono ?_
      rintro e w' ⟨rfl, rfl⟩
      clear d0 HIN
      by_cases hy : y ∈ l
      · rw [if_pos hy] at HSU
        have X1 := Lib.hid (HB2.out.keep hB.out (by omega))
        have X3 := hX
        have HR := hR
        have HBS := Lib.hid (show w.heap.size + 4 ≤ wS.heap.size by have := hX.out.lt; omega)
        have HLE := Lib.hid (show (subV p l k).length ≤ 4000000 by omega)
        have HK0 := Lib.hid hk0
        have HK1 := Lib.hid hk1
        rw [decide_eq_true hy]
        clear hy hk0 hk1 hnl
        generalize hnu : (subV p l k).length = nu at *
        have HNU := Lib.hid hnu
        clear hnu
        go_wp2_with fail
        refine wp_region_grow 8 [is (.pointer (some ⟨w.heap.size + 3, 0, none⟩)), is (.slice Au nu cu), is (.pointer (some ⟨w.heap.size + 1, 0, none⟩)), is (.slice (some ⟨pb, po, none⟩) p.v.length cv), is (.int .i64 (k : Int)), is (.pointer (some ⟨pb, po + k, none⟩)), is (.int .i64 y), spInts [y], anySp, is (.pointer (some ⟨w.heap.size + 3, 0, none⟩))] [is (.pointer (some ⟨w.heap.size + 3, 0, none⟩)), is (.slice Au nu cu), is (.pointer (some ⟨w.heap.size + 1, 0, none⟩)), is (.slice (some ⟨pb, po, none⟩) p.v.length cv), is (.int .i64 (k : Int)), is (.pointer (some ⟨pb, po + k, none⟩)), is (.int .i64 y), anySp, spFrom wS (w.heap.size + 4) HBS.out (subV p l k ++ [y]), is (.pointer (some ⟨w.heap.size + 3, 0, none⟩))] (spFrom wS (w.heap.size + 4) HBS.out (subV p l k ++ [y])) (by kernel_rfl) (by kernel_rfl) rfl rfl (grow_steps (d := 33) (n := 10) rfl (by decide) ?_) ?_ rfl rfl (h12_of ?_) ?_ ?_
        · skip
          refine StepsP.cons ?_ ?_
          · intro _; refine step_val (fun a wx hB O D => ?_)
            have e7 : a.tmps[7]? = some (.pointer (some ⟨w.heap.size + 3, 0, none⟩)) := O 7 (by rfl)
            clear O D
            exact ⟨rfl, by go_simp⟩
          refine StepsP.cons ?_ ?_
          · intro _; refine step_val (fun a wx hB O D => ?_)
            obtain ⟨_, e25, rfl⟩ := D 0 _ _ _ (by decide) rfl rfl rfl
            obtain ⟨c0, c1, _⟩ := X3.out.below hB
            clear O D
            exact ⟨rfl, by go_simp⟩
          refine StepsP.cons ?_ ?_
          · intro _; refine step_val (fun a wx hB O D => ?_)
            have e4 : a.tmps[4]? = some (.pointer (some ⟨w.heap.size + 1, 0, none⟩)) := O 4 (by rfl)
            clear O D
            exact ⟨rfl, by go_simp⟩
          refine StepsP.cons ?_ ?_
          · intro _; refine step_val (fun a wx hB O D => ?_)
            obtain ⟨_, e27, rfl⟩ := D 2 _ _ _ (by decide) rfl rfl rfl
            obtain ⟨c0, c1, _⟩ := X1.out.below hB
            clear O D
            exact ⟨rfl, by go_simp⟩
          refine StepsP.cons ?_ ?_
          · intro _; refine step_val (fun a wx hB O D => ?_)
            have e8 : a.tmps[8]? = some (.int .i64 (k : Int)) := O 8 (by rfl)
            clear O D
            exact ⟨rfl, by unfold execOp; simp only [ev e8]; rfl⟩
          refine StepsP.cons ?_ ?_
          · intro _; refine step_val (fun a wx hB O D => ?_)
            obtain ⟨_, e28, rfl⟩ := D 3 _ _ _ (by decide) rfl rfl rfl
            obtain ⟨_, e29, rfl⟩ := D 4 _ _ _ (by decide) rfl rfl rfl
            have hk0 := HK0.out
            have hk1 := HK1.out
            clear O D
            exact ⟨rfl, by go_simp⟩
          refine StepsP.cons ?_ ?_
          · intro _; refine step_val (fun a wx hB O D => ?_)
            obtain ⟨_, e30, rfl⟩ := D 5 _ _ _ (by decide) rfl rfl rfl
            have q := (hB.cell (p := ⟨pb, po + k, none⟩) hpz).trans hck
            clear O D
            exact ⟨rfl, by go_simp⟩
          refine StepsP.cons ?_ ?_
          · intro _; refine step_make rfl (fun a wx hB O D => ?_)
            obtain ⟨_, e31, rfl⟩ := D 6 _ _ _ (by decide) rfl rfl rfl
            exact ⟨rfl, .slice (some ⟨wx.heap.size, 0, none⟩) 1 1, wx.alloc (.cells #[.int .i64 y] 3), by go_simp, below_alloc _, Row.ints (row_lit1 wx y)⟩
          refine StepsP.cons ?_ ?_
          · exact fun h => absurd rfl h
          refine StepsP.cons ?_ ?_
          · intro _; refine step_val (fun a wx hB O D => ?_)
            have e7 : a.tmps[7]? = some (.pointer (some ⟨w.heap.size + 3, 0, none⟩)) := O 7 (by rfl)
            clear O D
            exact ⟨rfl, by go_simp⟩
          exact StepsP.nil
        · -- the append
          intro o ho a wx hB O D
          injection ho with ho
          subst ho
          obtain ⟨_, e26, rfl⟩ := D 1 _ _ _ (by decide) rfl rfl rfl
          obtain ⟨v32, e32, s32⟩ := D 7 _ _ _ (by decide) rfl rfl rfl
          refine ⟨rfl, wp_append1 (.tmp 26) (.tmp 32) rfl (ev e26) (Row.below HR.out hB) (ev e32) s32 (by rw [HNU.out]; exact HLE.out) (Nat.le_trans HBS.out hB.size) ?_⟩
          intro v' w' hr' hb'
          exact ⟨v', rfl, hr', (hB.mono HBS.out).trans hb'⟩
        · exact ⟨fun _ => is12 _, fun _ => is12 _, fun _ => is12 _, fun _ => is12 _, fun _ => is12 _, fun _ => is12 _, fun _ => is12 _, fun _ => any12 _, fun h => absurd rfl h, fun _ => is12 _, trivial⟩
        · -- the field
          intro o S2 ho hS a wx O
          injection ho with ho
          injection hS with hS
          subst ho hS
          have e7 : a.tmps[7]? = some (.pointer (some ⟨w.heap.size + 3, 0, none⟩)) := O 7 (by rfl)
          refine ⟨rfl, ?_⟩
          unfold Oper.wp
          rw [show (execOp a.eval _).run Tryz.prog wx = .ok (.value (.pointer (some ⟨w.heap.size + 3, 0, none⟩))) wx by go_simp]
          exact ⟨_, rfl, rfl, rfl⟩
        · intro wz
          refine EndP.is ?_
          refine EndP.is ?_
          refine EndP.is ?_
          refine EndP.is ?_
          refine EndP.is ?_
          refine EndP.is ?_
          refine EndP.is ?_
          refine EndP.any (fun v32 => ?_)
          refine EndP.sp rfl (fun v33 s33 => ?_)
          refine EndP.is ?_
          refine EndP.nil ?_
          obtain ⟨hr33, hb33⟩ := s33
          obtain ⟨A7, c7, rfl⟩ := ints_form (Row.ints hr33)
          have hX7 := X3.out.keep hb33 (by omega)
          have x0 := hX7.c0
          have t0 := hX7.thaw 0
          have hr8 : Row wz (w.heap.size + 4) (.slice A7 (subV p l k ++ [y]).length c7) (subV p l (k + 1)) := by rw [HSU.out]; exact hr33
          have HX8 := Lib.hid (hX7.store0 (.slice A7 (subV p l k ++ [y]).length c7))
          have HR8 := Lib.hid (Row.store hr8 (Nat.lt_succ_self (w.heap.size + 3)) 0 (.slice A7 (subV p l k ++ [y]).length c7))
          have HB8 := Lib.hid ((hB.out.trans (hb33.mono (Nat.le_succ _))).setCell (p := ⟨w.heap.size + 3, 0, none⟩) (Nat.le_refl _) (.slice A7 (subV p l k ++ [y]).length c7))
          clear hr33 hb33 hX7 hr8 hX hR hB
          generalize (subV p l k ++ [y]).length = n7 at *
          change wpList _ _ _ [_] _ _
          simp only [Act.put, List.setIfInBounds_toArray, List.set_cons_zero, List.set_cons_succ]
          go_wp2
          go_roundw
          case rel => exact ⟨k + 1, _, by omega, by go_num, HB8, HX8, HR8⟩
          case measure => simp [Go.RowKit.intOf]; omega
      · rw [if_neg hy, List.append_nil] at HSU
        have HRN := Lib.hid (show Row wS (w.heap.size + 4) _ (subV p l (k + 1)) by rw [HSU.out]; exact hR.out)
        rw [decide_eq_false hy]
        clear hy hR HSU hnl
        generalize (subV p l k).length = nu at *
        go_wp2
        go_roundw
        case rel => exact ⟨k + 1, _, by omega, by go_num, hB, hX, HRN⟩
        case measure => simp [Go.RowKit.intOf]; omega
    · obtain rfl : k = p.v.length := by omega
      obtain ⟨w5, hw5⟩ : ∃ z, z = wS := ⟨_, rfl⟩
      subst hw5
      have HR5 := Lib.hid (show Row w5 (w.heap.size + 4) (.slice Au (subV p l p.v.length).length cu) (subP g p l).v by
        have h1 := hR.out
        have e : subV p l p.v.length = (subP g p l).v := by unfold subV subP; rw [List.take_length]
        rw [← e]
        exact h1)
      have HUL := Lib.hid (fun gg hg => (World.ownsRow.lt HR5.out gg hg).2)
      have HBS5 := Lib.hid (show w.heap.size + 4 ≤ w5.heap.size by have := hX.out.lt; omega)
      clear hR hBw
      generalize (subV p l p.v.length).length = nu at *
      go_wp2
      clear d0
      go_loopw [9] (fun i wr => ∃ (k : Nat) (u2 : Value), k ≤ p.e.length ∧ i = .int .i64 (k : Nat) ∧ Hid (Below (w.heap.size + 3) w1 wr) ∧ Hid (Box wr (w.heap.size + 3) (.slice Au nu cu) u2) ∧ Hid (Row wr (w.heap.size + 4) (.slice Au nu cu) (subP g p l).v) ∧ Hid (Row wr w5.heap.size u2 (subE g p l k)) ∧ Hid (w5.heap.size ≤ wr.heap.size)) (fun i _ => p.e.length - (Go.RowKit.intOf i).toNat)
      case atStart => exact ⟨0, _, Nat.zero_le _, rfl, hB, hX, HR5, Lib.hid (Row.nil _ _), Lib.hid (Nat.le_refl _)⟩
      case round =>
        clear hB hX
        obtain ⟨k, u2, hk, rfl, hB, hX, hRV, hR, hSz⟩ := hrel
        obtain ⟨wo, hwo⟩ : ∃ z, z = wr := ⟨_, rfl⟩
        subst hwo
        have hBw : Below w.heap.size w wo := HM.out.trans (hB.out.mono (by omega))
        obtain ⟨Ae2, ce2, rfl⟩ := ints_form (Row.ints hR.out)
        have d1 := (HB2.out.keep hB.out (by omega)).c1
        by_cases hlt : k < p.e.length
        · obtain ⟨pb, po, rfl, hpz0, hck0⟩ := ints_at HPw.out hlt
          have hpz := Nat.lt_of_lt_of_le hpz0 hBw.size
          have hck := (hBw.cell (p := ⟨pb, po + k, none⟩) hpz0).trans hck0
          have hie := Rt.ints g p HPP.out (Rt.getI_in _ _ hlt)
          obtain ⟨en, hen⟩ : ∃ en : Nat, getI p.e k = (en : Int) := ⟨(getI p.e k).toNat, by omega⟩
          have hel : en < g.e.length := by omega
          obtain ⟨eb, eo, rfl, hez, g1, g2⟩ := edges_at (HEw.out.below hBw) hel
          have HSU := Lib.hid (subE_succ g p l k hlt)
          rw [hen] at hck hck0 HSU
          have HPk := Lib.hid (show pb < w.heap.size ∧ w.cell? ⟨pb, po + k, none⟩ = some (.int .i64 (en : Int)) from ⟨hpz0, hck0⟩)
          clear hpz0 hck0
          have HIE : Hid (inE g l (en : Int) = (decide ((getE g.e en).a ∈ l) && decide ((getE g.e en).b ∈ l))) := rfl
          have hnl := subE_len g p l k
          have HK0 := Lib.hid (show (0 : Int) ≤ (k : Int) by omega)
          have HK1 := Lib.hid (show (k : Int) < (p.e.length : Int) by omega)
          have HN0 := Lib.hid (show (0 : Int) ≤ (en : Int) by omega)
          have HN1 := Lib.hid (show (en : Int) < (g.e.length : Int) by omega)
          have X0 := Lib.hid (HB1.out.keep hB.out (by omega))
          have X1 := Lib.hid (HB2.out.keep hB.out (by omega))
          clear hen hie
          generalize (getE g.e en).a = xa at *
          generalize (getE g.e en).b = xb at *
          go_wp2_with fail
          clear d1
          refine wp_region_plan [is (.pointer (some ⟨w.heap.size, 1, none⟩)), is (.slice (some ⟨eb, eo, none⟩) g.e.length ce), is (.pointer (some ⟨w.heap.size + 1, 1, none⟩)), is (.slice (some ⟨pb, po, none⟩) p.e.length cp), is (.int .i64 (k : Int)), is (.pointer (some ⟨pb, po + k, none⟩)), is (.int .i64 (en : Int)), is (.pointer (some ⟨eb, eo + en * 2, none⟩)), is (.agg #[.int .i64 xa, .int .i64 xb]), spVar (.int .i64 0) (.int .i64 0)] (by kernel_rfl) (by kernel_rfl) ?_ ?_
          · skip
            refine StepsP.cons ?_ ?_
            · refine step_val (fun a wx hB O D => ?_)
              have e3 : a.tmps[3]? = some (.pointer (some ⟨w.heap.size, 0, none⟩)) := O 3 (by rfl)
              clear O D
              exact ⟨rfl, by go_simp⟩
            refine StepsP.cons ?_ ?_
            · refine step_val (fun a wx hB O D => ?_)
              obtain ⟨_, e42, rfl⟩ := D 0 _ _ _ (by decide) rfl rfl rfl
              obtain ⟨c0, c1, _⟩ := X0.out.below hB
              clear O D
              exact ⟨rfl, by go_simp⟩
            refine StepsP.cons ?_ ?_
            · refine step_val (fun a wx hB O D => ?_)
              have e4 : a.tmps[4]? = some (.pointer (some ⟨w.heap.size + 1, 0, none⟩)) := O 4 (by rfl)
              clear O D
              exact ⟨rfl, by go_simp⟩
            refine StepsP.cons ?_ ?_
            · refine step_val (fun a wx hB O D => ?_)
              obtain ⟨_, e44, rfl⟩ := D 2 _ _ _ (by decide) rfl rfl rfl
              obtain ⟨c0, c1, _⟩ := X1.out.below hB
              clear O D
              exact ⟨rfl, by go_simp⟩
            refine StepsP.cons ?_ ?_
            · refine step_val (fun a wx hB O D => ?_)
              have e9 : a.tmps[9]? = some (.int .i64 (k : Int)) := O 9 (by rfl)
              clear O D
              exact ⟨rfl, by unfold execOp; simp only [ev e9]; rfl⟩
            refine StepsP.cons ?_ ?_
            · refine step_val (fun a wx hB O D => ?_)
              obtain ⟨_, e45, rfl⟩ := D 3 _ _ _ (by decide) rfl rfl rfl
              obtain ⟨_, e46, rfl⟩ := D 4 _ _ _ (by decide) rfl rfl rfl
              have hk0 := HK0.out
              have hk1 := HK1.out
              clear O D
              exact ⟨rfl, by go_simp⟩
            refine StepsP.cons ?_ ?_
            · refine step_val (fun a wx hB O D => ?_)
              obtain ⟨_, e47, rfl⟩ := D 5 _ _ _ (by decide) rfl rfl rfl
              have q0 := (hB.cell (p := ⟨pb, po + k, none⟩) hpz).trans hck
              clear O D
              exact ⟨rfl, by go_simp⟩
            refine StepsP.cons ?_ ?_
            · refine step_val (fun a wx hB O D => ?_)
              obtain ⟨_, e43, rfl⟩ := D 1 _ _ _ (by decide) rfl rfl rfl
              obtain ⟨_, e48, rfl⟩ := D 6 _ _ _ (by decide) rfl rfl rfl
              have hn0 := HN0.out
              have hn1 := HN1.out
              clear O D
              exact ⟨rfl, by go_simp⟩
            refine StepsP.cons ?_ ?_
            · refine step_val (fun a wx hB O D => ?_)
              obtain ⟨_, e49, rfl⟩ := D 7 _ _ _ (by decide) rfl rfl rfl
              have q1 := (hB.cell (p := ⟨eb, eo + en * 2, none⟩) hez).trans g1
              have q2 := (hB.cell (p := ⟨eb, eo + en * 2 + 1, none⟩) hez).trans g2
              clear O D
              exact ⟨rfl, by go_simp⟩
            refine StepsP.cons ?_ ?_
            · exact step_alloc rfl rfl zeroEdge spVar_new
            exact StepsP.nil
          · intro wz hZ
            refine EndP.is ?_
            refine EndP.is ?_
            refine EndP.is ?_
            refine EndP.is ?_
            refine EndP.is ?_
            refine EndP.is ?_
            refine EndP.is ?_
            refine EndP.is ?_
            refine EndP.is ?_
            refine EndP.new rfl (fun g10 s10 l10 n10 => ?_)
            refine EndP.nil ?_
            have hbx := spVar_at s10
            have HEb := Lib.hid (hbx.put (.int .i64 xa) (.int .i64 xb))
            have z0 := hbx.box.c0
            have z1 := hbx.box.c1
            have t0 := hbx.box.thaw 0
            have t1 := hbx.box.thaw 1
            have hlo : w.heap.size + 4 ≤ wo.heap.size := Nat.le_trans HBS5.out hSz.out
            have HBa := Lib.hid (below_stored (b := g10) (u' := .int .i64 xa) (v' := .int .i64 xb) hZ l10.1)
            clear hbx s10 l10 n10 hZ hck hpz g1 g2 X0 X1
            obtain ⟨wS, hwa⟩ : ∃ z, (wz.setCell ⟨g10, 0, none⟩ (.int .i64 xa)).setCell ⟨g10, 1, none⟩ (.int .i64 xb) = z := ⟨_, rfl⟩
            rw [hwa] at HEb HBa
            have X3 := Lib.hid (hX.out.below HBa.out)
            have HRV := Lib.hid (Row.below hRV.out HBa.out)
            have HR := Lib.hid (Row.below hR.out HBa.out)
            have HBB := Lib.hid (hB.out.trans (HBa.out.mono (by omega)))
            have HBS := Lib.hid (Nat.le_trans hSz.out HBa.out.size)
            have hBW : Below w.heap.size w wS := hBw.trans (HBa.out.mono (by omega))
            have X1 := Lib.hid (HB2.out.keep HBB.out (by omega))
            have HINa := Lib.hid (in_any _ l xa wS (HLw.out.below hBW) hl)
            have HINb := Lib.hid (in_any _ l xb wS (HLw.out.below hBW) hl)
            have hpz := Nat.lt_of_lt_of_le HPk.out.1 hBW.size
            have hck := (hBW.cell (p := ⟨pb, po + k, none⟩) HPk.out.1).trans HPk.out.2
            have b0 := HEb.out.box.c0
            have b1 := HEb.out.box.c1
            clear hX hRV hR hB hSz hBw HBa hlo
            go_wp2_with fail
            refine HINa.out.mono ?_
            rintro e w' ⟨rfl, rfl⟩
            clear HINa z0 z1 t0 t1 hwa
            by_cases ha : xa ∈ l
            · rw [decide_eq_true ha]
              go_wp2_with fail
              refine HINb.out.mono ?_
              rintro e w' ⟨rfl, rfl⟩
              clear HINb b0 b1
              by_cases hb : xb ∈ l
              · rw [decide_eq_true hb]
                rw [if_pos (by rw [HIE.out, decide_eq_true ha, decide_eq_true hb]; rfl)] at HSU
                have HLE := Lib.hid (show (subE g p l k).length ≤ 4000000 by omega)
                clear ha hb hnl
                generalize hne : (subE g p l k).length = ne at *
                have HNE := Lib.hid hne
                clear hne
                go_wp2_with fail
                refine wp_region_grow 8 [is (.pointer (some ⟨w.heap.size + 3, 1, none⟩)), is (.slice Ae2 ne ce2), is (.pointer (some ⟨w.heap.size + 1, 1, none⟩)), is (.slice (some ⟨pb, po, none⟩) p.e.length cp), is (.int .i64 (k : Int)), is (.pointer (some ⟨pb, po + k, none⟩)), is (.int .i64 (en : Int)), spInts [(en : Int)], anySp, is (.pointer (some ⟨w.heap.size + 3, 1, none⟩))] [is (.pointer (some ⟨w.heap.size + 3, 1, none⟩)), is (.slice Ae2 ne ce2), is (.pointer (some ⟨w.heap.size + 1, 1, none⟩)), is (.slice (some ⟨pb, po, none⟩) p.e.length cp), is (.int .i64 (k : Int)), is (.pointer (some ⟨pb, po + k, none⟩)), is (.int .i64 (en : Int)), anySp, spFrom wS w5.heap.size HBS.out (subE g p l k ++ [(en : Int)]), is (.pointer (some ⟨w.heap.size + 3, 1, none⟩))] (spFrom wS w5.heap.size HBS.out (subE g p l k ++ [(en : Int)])) (by kernel_rfl) (by kernel_rfl) rfl rfl (grow_steps (d := 69) (n := 10) rfl (by decide) ?_) ?_ rfl rfl (h12_of ?_) ?_ ?_
                · skip
                  refine StepsP.cons ?_ ?_
                  · intro _; refine step_val (fun a wx hB O D => ?_)
                    have e7 : a.tmps[7]? = some (.pointer (some ⟨w.heap.size + 3, 0, none⟩)) := O 7 (by rfl)
                    clear O D
                    exact ⟨rfl, by go_simp⟩
                  refine StepsP.cons ?_ ?_
                  · intro _; refine step_val (fun a wx hB O D => ?_)
                    obtain ⟨_, e61, rfl⟩ := D 0 _ _ _ (by decide) rfl rfl rfl
                    obtain ⟨c0, c1, _⟩ := X3.out.below hB
                    clear O D
                    exact ⟨rfl, by go_simp⟩
                  refine StepsP.cons ?_ ?_
                  · intro _; refine step_val (fun a wx hB O D => ?_)
                    have e4 : a.tmps[4]? = some (.pointer (some ⟨w.heap.size + 1, 0, none⟩)) := O 4 (by rfl)
                    clear O D
                    exact ⟨rfl, by go_simp⟩
                  refine StepsP.cons ?_ ?_
                  · intro _; refine step_val (fun a wx hB O D => ?_)
                    obtain ⟨_, e63, rfl⟩ := D 2 _ _ _ (by decide) rfl rfl rfl
                    obtain ⟨c0, c1, _⟩ := X1.out.below hB
                    clear O D
                    exact ⟨rfl, by go_simp⟩
                  refine StepsP.cons ?_ ?_
                  · intro _; refine step_val (fun a wx hB O D => ?_)
                    have e9 : a.tmps[9]? = some (.int .i64 (k : Int)) := O 9 (by rfl)
                    clear O D
                    exact ⟨rfl, by unfold execOp; simp only [ev e9]; rfl⟩
                  refine StepsP.cons ?_ ?_
                  · intro _; refine step_val (fun a wx hB O D => ?_)
                    obtain ⟨_, e64, rfl⟩ := D 3 _ _ _ (by decide) rfl rfl rfl
                    obtain ⟨_, e65, rfl⟩ := D 4 _ _ _ (by decide) rfl rfl rfl
                    have hk0 := HK0.out
                    have hk1 := HK1.out
                    clear O D
                    exact ⟨rfl, by go_simp⟩
                  refine StepsP.cons ?_ ?_
                  · intro _; refine step_val (fun a wx hB O D => ?_)
                    obtain ⟨_, e66, rfl⟩ := D 5 _ _ _ (by decide) rfl rfl rfl
                    have q := (hB.cell (p := ⟨pb, po + k, none⟩) hpz).trans hck
                    clear O D
                    exact ⟨rfl, by go_simp⟩
                  refine StepsP.cons ?_ ?_
                  · intro _; refine step_make rfl (fun a wx hB O D => ?_)
                    obtain ⟨_, e67, rfl⟩ := D 6 _ _ _ (by decide) rfl rfl rfl
                    exact ⟨rfl, .slice (some ⟨wx.heap.size, 0, none⟩) 1 1, wx.alloc (.cells #[.int .i64 (en : Int)] 3), by go_simp, below_alloc _, Row.ints (row_lit1 wx (en : Int))⟩
                  refine StepsP.cons ?_ ?_
                  · exact fun h => absurd rfl h
                  refine StepsP.cons ?_ ?_
                  · intro _; refine step_val (fun a wx hB O D => ?_)
                    have e7 : a.tmps[7]? = some (.pointer (some ⟨w.heap.size + 3, 0, none⟩)) := O 7 (by rfl)
                    clear O D
                    exact ⟨rfl, by go_simp⟩
                  exact StepsP.nil
                · -- the append
                  intro o ho a wx hB O D
                  injection ho with ho
                  subst ho
                  obtain ⟨_, e62, rfl⟩ := D 1 _ _ _ (by decide) rfl rfl rfl
                  obtain ⟨v68, e68, s68⟩ := D 7 _ _ _ (by decide) rfl rfl rfl
                  refine ⟨rfl, wp_append1 (.tmp 62) (.tmp 68) rfl (ev e62) (Row.below HR.out hB) (ev e68) s68 (by rw [HNE.out]; exact HLE.out) (Nat.le_trans HBS.out hB.size) ?_⟩
                  intro v' w' hr' hb'
                  exact ⟨v', rfl, hr', (hB.mono HBS.out).trans hb'⟩
                · exact ⟨fun _ => is12 _, fun _ => is12 _, fun _ => is12 _, fun _ => is12 _, fun _ => is12 _, fun _ => is12 _, fun _ => is12 _, fun _ => any12 _, fun h => absurd rfl h, fun _ => is12 _, trivial⟩
                · -- the field
                  intro o S2 ho hS a wx O
                  injection ho with ho
                  injection hS with hS
                  subst ho hS
                  have e7 : a.tmps[7]? = some (.pointer (some ⟨w.heap.size + 3, 0, none⟩)) := O 7 (by rfl)
                  refine ⟨rfl, ?_⟩
                  unfold Oper.wp
                  rw [show (execOp a.eval _).run Tryz.prog wx = .ok (.value (.pointer (some ⟨w.heap.size + 3, 1, none⟩))) wx by go_simp]
                  exact ⟨_, rfl, rfl, rfl⟩
                · intro wz
                  refine EndP.is ?_
                  refine EndP.is ?_
                  refine EndP.is ?_
                  refine EndP.is ?_
                  refine EndP.is ?_
                  refine EndP.is ?_
                  refine EndP.is ?_
                  refine EndP.any (fun v68 => ?_)
                  refine EndP.sp rfl (fun v69 s69 => ?_)
                  refine EndP.is ?_
                  refine EndP.nil ?_
                  obtain ⟨hr69, hb69⟩ := s69
                  obtain ⟨A7, c7, rfl⟩ := ints_form (Row.ints hr69)
                  have hlo : w.heap.size + 4 ≤ w5.heap.size := HBS5.out
                  have hX7 := X3.out.keep hb69 (by omega)
                  have x1 := hX7.c1
                  have t1 := hX7.thaw 1
                  have hrv : Row wz (w.heap.size + 4) (.slice Au nu cu) (subP g p l).v := own_block HRV.out (fun gg hg => hb69.block gg (HUL.out gg hg))
                  have hr8 : Row wz w5.heap.size (.slice A7 (subE g p l k ++ [(en : Int)]).length c7) (subE g p l (k + 1)) := by rw [HSU.out]; exact hr69
                  have HX8 := Lib.hid (hX7.store1 (.slice A7 (subE g p l k ++ [(en : Int)]).length c7))
                  have HRV8 := Lib.hid (Row.store hrv (Nat.lt_succ_self (w.heap.size + 3)) 1 (.slice A7 (subE g p l k ++ [(en : Int)]).length c7))
                  have HR8 := Lib.hid (Row.store hr8 (show w.heap.size + 3 < w5.heap.size by omega) 1 (.slice A7 (subE g p l k ++ [(en : Int)]).length c7))
                  have HB8 := Lib.hid ((HBB.out.trans (hb69.mono (by omega))).setCell (p := ⟨w.heap.size + 3, 1, none⟩) (Nat.le_refl _) (.slice A7 (subE g p l k ++ [(en : Int)]).length c7))
                  have HS8 := Lib.hid (show w5.heap.size ≤ (wz.setCell ⟨w.heap.size + 3, 1, none⟩ (.slice A7 (subE g p l k ++ [(en : Int)]).length c7)).heap.size by
                    have := Nat.le_trans HBS.out hb69.size
                    simpa [World.setCell] using this)
                  clear hr69 hb69 hX7 hr8 hrv
                  generalize (subE g p l k ++ [(en : Int)]).length = n7 at *
                  change wpList _ _ _ [_] _ _
                  simp only [Act.put, List.setIfInBounds_toArray, List.set_cons_zero, List.set_cons_succ]
                  go_wp2
                  go_roundw
                  case rel => exact ⟨k + 1, _, by omega, by go_num, HB8, HX8, HRV8, HR8, HS8⟩
                  case measure => simp [Go.RowKit.intOf]; omega
              · rw [decide_eq_false hb]
                rw [if_neg (by rw [HIE.out, decide_eq_false hb, Bool.and_false]; decide), List.append_nil] at HSU
                have HRN := Lib.hid (show Row wS w5.heap.size _ (subE g p l (k + 1)) by rw [HSU.out]; exact HR.out)
                clear ha hb hnl HSU
                generalize (subE g p l k).length = ne at *
                go_wp2
                go_roundw
                case rel => exact ⟨k + 1, _, by omega, by go_num, HBB, X3, HRV, HRN, HBS⟩
                case measure => simp [Go.RowKit.intOf]; omega
            · rw [decide_eq_false ha]
              rw [if_neg (by rw [HIE.out, decide_eq_false ha, Bool.false_and]; decide), List.append_nil] at HSU
              have HRN := Lib.hid (show Row wS w5.heap.size _ (subE g p l (k + 1)) by rw [HSU.out]; exact HR.out)
              clear ha hnl HSU HINb b0 b1
              generalize (subE g p l k).length = ne at *
              go_wp2
              go_roundw
              case rel => exact ⟨k + 1, _, by omega, by go_num, HBB, X3, HRV, HRN, HBS⟩
              case measure => simp [Go.RowKit.intOf]; omega
        · obtain rfl : k = p.e.length := by omega
          have Z2 := HB3.out.keep hB.out (by omega)
          have z0 := Z2.c0
          have z1 := Z2.c1
          have z2 := Z2.thaw 0
          have z3 := Z2.thaw 1
          have x0 := hX.out.c0
          have x1 := hX.out.c1
          have hlo : w.heap.size + 4 ≤ w5.heap.size := HBS5.out
          have HWB := Lib.hid ((Z2.store0 (.slice Au nu cu)).store1 (.slice Ae2 (subE g p l p.e.length).length ce2))
          have HRV9 := Lib.hid ((Row.stored hRV.out (show w.heap.size + 2 < w.heap.size + 4 by omega) (.slice Au nu cu) (.slice Ae2 (subE g p l p.e.length).length ce2)).le (show w.heap.size ≤ w.heap.size + 4 by omega))
          have HRE9 := Lib.hid ((Row.stored hR.out (show w.heap.size + 2 < w5.heap.size by omega) (.slice Au nu cu) (.slice Ae2 (subE g p l p.e.length).length ce2)).le (show w.heap.size ≤ w5.heap.size by omega))
          have HBB := Lib.hid (below_stored (b := w.heap.size + 2) (u' := .slice Au nu cu) (v' := .slice Ae2 (subE g p l p.e.length).length ce2) hBw (by omega))
          have HEQ := Lib.hid (show subE g p l p.e.length = (subP g p l).e by unfold subE subP; rw [List.take_length])
          clear Z2 hB hX hRV hR hBw
          go_wp2
          refine bodyPost_ret (v := .agg #[.slice Au nu cu, .slice Ae2 (subE g p l p.e.length).length ce2]) ?_ rfl ⟨_, _, rfl, HRV9.out, by rw [← HEQ.out]; exact HRE9.out, HBB.out⟩
          simp [results, Tryz.results48, go_sem, HWB.out.c0, HWB.out.c1]
end Go.Proofs.YtmbpmepoaonleaaGreat.Fc

/-! The document's Pieces. -/
namespace Go.Proofs.YtmbpmepoaonleaaGreat.Fc
open Go.Proofs.YtmbpmepoaonleaaGreat Go.RowKit

variable {g : Gph} {p : Prt} {M D : List Int} {v x y : Int} {k : Nat}

theorem spread_mem (hp : perr g p = 0) (h : Sprd g p (-1) [v] M M.length) : y ∈ M ↔ Reach (Nbr g p) v y := by
  rw [h.stop y, show Hop g p (-1) = Nbr g p from funext fun x => funext fun y => propext (hop_free hp x y)]
  constructor
  · rintro ⟨f, hf, hr⟩
    rw [List.mem_singleton] at hf
    exact hf ▸ hr
  · exact fun hr => ⟨v, List.mem_singleton.2 rfl, hr⟩
open Classical in
theorem sub_piece (hp : perr g p = 0) (hM : ∀ y, y ∈ M ↔ Reach (Nbr g p) v y) : subP g p M = pieceOf g p (clsOf g p v) := by
  have e1 : (p.v.filter fun x => decide (x ∈ M)) = clsOf g p v := by
    unfold clsOf
    refine List.filter_congr fun x _ => ?_
    rw [decide_eq_decide]
    exact hM x
  have e2 : p.e.filter (inE g M) = p.e.filter fun e => decide ((getE g.e e.toNat).a ∈ clsOf g p v) := by
    refine List.filter_congr fun e he => ?_
    have hends := (perr_rises hp).2.2.2 e he
    unfold inE
    rw [Bool.eq_iff_iff, Bool.and_eq_true, decide_eq_true_iff, decide_eq_true_iff, decide_eq_true_iff, mem_clsOf, hM, hM]
    constructor
    · rintro ⟨h1, _⟩
      exact ⟨hends.1, h1⟩
    · rintro ⟨_, h1⟩
      exact ⟨h1, h1.step ⟨e, he, .inl ⟨rfl, rfl⟩⟩⟩
  unfold subP pieceOf
  rw [e1, e2]

open Classical in
/-- The pieces of which the first vertices have told. -/
noncomputable def pcsTo (g : Gph) (p : Prt) (k : Nat) : List Prt := ((p.v.take k).filter fun v => decide (Frst g p v)).map fun v => pieceOf g p (clsOf g p v)
open Classical in
theorem pcsTo_succ (h : k < p.v.length) : pcsTo g p (k + 1) = pcsTo g p k ++ (if Frst g p (getI p.v k) then [pieceOf g p (clsOf g p (getI p.v k))] else []) := by
  unfold pcsTo
  rw [take_succ_getI p.v k h, List.filter_append, List.map_append]
  congr 1
  by_cases e : Frst g p (getI p.v k)
  · rw [if_pos e]; simp [e]
  · rw [if_neg e]; simp [e]
theorem pcsTo_all (hp : perr g p = 0) : pcsTo g p p.v.length = pcs g p := by
  rw [pcs_eq hp]
  unfold pcsTo frsts
  rw [List.take_length]
theorem pcsTo_len (g : Gph) (p : Prt) (k : Nat) : (pcsTo g p k).length ≤ k := by
  unfold pcsTo
  rw [List.length_map]
  exact Nat.le_trans (List.length_filter_le _ _) (by rw [List.length_take]; exact Nat.min_le_left _ _)
def DoneTo (g : Gph) (p : Prt) (k : Nat) (x : Int) : Prop := ∃ j, j < k ∧ Reach (Nbr g p) (getI p.v j) x
theorem done_frst (hp : perr g p = 0) (hk : k < p.v.length) : Frst g p (getI p.v k) ↔ ¬ DoneTo g p k (getI p.v k) := by
  rw [frst_iff hp hk]
  constructor
  · rintro h ⟨j, hj, hr⟩
    exact h j hj hr
  · exact fun h j hj hr => h ⟨j, hj, hr⟩
theorem done_skip (h : DoneTo g p k (getI p.v k)) (x : Int) : DoneTo g p (k + 1) x ↔ DoneTo g p k x := by
  constructor
  · rintro ⟨j, hj, hr⟩
    rcases Nat.lt_or_eq_of_le (Nat.le_of_lt_succ hj) with hj | rfl
    · exact ⟨j, hj, hr⟩
    · obtain ⟨i, hi, hr'⟩ := h
      exact ⟨i, hi, hr'.trans hr⟩
  · rintro ⟨j, hj, hr⟩
    exact ⟨j, by omega, hr⟩
theorem done_more (x : Int) : DoneTo g p (k + 1) x ↔ DoneTo g p k x ∨ Reach (Nbr g p) (getI p.v k) x := by
  constructor
  · rintro ⟨j, hj, hr⟩
    rcases Nat.lt_or_eq_of_le (Nat.le_of_lt_succ hj) with hj | rfl
    · exact .inl ⟨j, hj, hr⟩
    · exact .inr hr
  · rintro (⟨j, hj, hr⟩ | hr)
    · exact ⟨j, by omega, hr⟩
    · exact ⟨k, by omega, hr⟩

/-- What a part's cells hold. -/
def cmpP (q : Prt) : Comp × Comp := (.inr q.v, .inr q.e)
/-- What Spread answers, as a plan has it. -/
def spSpr (g : Gph) (p : Prt) (base : Nat) (x : Int) : Sp := ⟨fun w m => ∃ M, Row w base m M ∧ Sprd g p (-1) [x] M M.length, false, fun _ _ _ hb ⟨M, h1, h2⟩ => ⟨M, h1.below hb, h2⟩⟩

/-- What an append gives back is the block it had, or a new one. -/
theorem run_append_own' {P : Program} (w : World) (base : Nat) (t ty e : TypeId) (i : TypeInfo) (z : Value) (size bytes : Nat) (ht : P.underlying t = some (.slice e)) (hi : P.info? e = some i) (hz : i.zero = some z)
    (hsize : i.size = size) (hby : i.bytes = bytes) (hzs : z.cells.size = size) (hsz : 0 < size)
    (v : Value) (n : Nat) (xs : List Value) (hown : w.ownsRow base e size v n xs)
    (a : Addr) (m c : Nat) (news : List Value) (hl : news.length = m * size) (hnews : ∀ j u, news[j]? = some u → w.cell? (a.add j) = some u) (h1 : ∀ u ∈ news, u.oneCell' = true)
    (h63 : n + m ≤ maxLen) (hbytes : (n + m) * bytes ≤ 140737488355328) (hbase : base ≤ w.heap.size) :
    ∃ v' w', (Builtin.append_ #[t, t] ty #[v, .slice (some a) m c]).run P w = .ok v' w' ∧ w'.ownsRow base e size v' (n + m) (xs ++ news) ∧ w.grownBy w' v.ownBlock ∧
      ∀ k, v'.ownBlock = some k → v.ownBlock = some k ∨ w.heap.size ≤ k := by
  obtain ⟨v', w', hr, h2, h3, _⟩ := run_append_own w base t ty e i z size bytes ht hi hz hsize hby hzs hsz v n xs hown a m c news hl hnews h1 h63 hbytes hbase
  refine ⟨v', w', hr, h2, h3, fun k hk => ?_⟩
  have hs := hown
  rcases hs.2 with ⟨rfl, rfl⟩ | ⟨g, cap, cur, rfl, hbg, hg, hnc, hcm, hcs, htake⟩
  · have hx : xs = [] := List.eq_nil_of_length_eq_zero (by simpa using hown.1)
    subst hx
    obtain ⟨v2, w2, hr2, h4, _, _⟩ := run_append_own w w.heap.size t ty e i z size bytes ht hi hz hsize hby hzs hsz (.slice none 0 0) 0 [] (World.ownsRow_nil _ _ _ _) a m c news hl hnews h1 h63 hbytes (Nat.le_refl _)
    rw [hr] at hr2
    cases hr2
    exact .inr (World.ownsRow.lt h4 k hk).1
  · subst hsize
    by_cases hroom : n + m ≤ cap
    · have hfit : n * i.size + news.length ≤ cur.size := by rw [hl, hcs, ← Nat.add_mul]; exact Nat.mul_le_mul_right _ hroom
      have hr2 := run_append_room (P := P) w t ty e i ht hi g n cap cur hg a m c news hl hnews h1 hroom hfit
      rw [hr] at hr2
      cases hr2
      exact .inl hk
    · have holds : ∀ j u, xs[j]? = some u → w.cell? ((⟨g, 0, none⟩ : Addr).add j) = some u := hown.cells (g := g) rfl
      have hr2 := run_append_grow (P := P) w t ty e i z ht hi hz ⟨g, 0, none⟩ n cap xs hown.1 holds a m c news hl hnews (by omega) (by unfold maxLen at h63; omega) (growslice_fits (by omega) (by rw [hby]; exact hbytes))
      rw [hr] at hr2
      cases hr2
      cases hk
      exact .inr (Nat.le_refl _)

/-- append(l, m..), and where it lies. -/
theorem wpList_append_all' {w : World} {ops : Array Oper} {rest : List Oper} {o : Oper} {a : Act} {Q : Exit → Act → World → Prop} (hgd : o.guard = none) (s x : Operand)
    (ho : o.op = .call { callee := .builtin .append, args := #[s, x], argTypes := #[25, 25] })
    {base : Nat} {v : Value} {L : List Int} (hs : a.eval s = v) (hown : Row w base v L) {u : Value} {m : List Int} (hx : a.eval x = u) (hI : Ints w u m) (h63 : L.length + m.length ≤ 4000000) (hbase : base ≤ w.heap.size)
    (h : ∀ v' w', Row w' base v' (L ++ m) → w.grownBy w' v.ownBlock → (∀ k, v'.ownBlock = some k → v.ownBlock = some k ∨ w.heap.size ≤ k) → wpList Tryz.prog ops Q rest (a.put o.dst v') w') : wpList Tryz.prog ops Q (o :: rest) a w := by
  obtain ⟨i0, hi, hz0, hz1, hz2⟩ := info_parts Tryz.infoInt
  obtain ⟨A', cap', rfl, hc, _, hr⟩ := hI
  by_cases h0 : m.length = 0
  · have e0 : m = [] := List.length_eq_zero_iff.1 h0
    subst e0
    refine Lib.wpList_append_run w hgd s x 25 25 ho v (.slice A' 0 cap') hs hx v w (run_append_empty Tryz.underlying25 hi hown A' cap') (h v w ?_ ⟨rfl, rfl, rfl, Nat.le_refl _, fun _ _ _ => rfl⟩ (fun k hk => .inl hk))
    rw [List.append_nil]; exact hown
  · obtain ⟨b, off, rfl, hb, hg⟩ := hr (by omega)
    obtain ⟨v', w', hrun, h2, h3, h4⟩ := run_append_own' (P := Tryz.prog) w base 25 o.type 3 i0 (.int .i64 0) 1 8 Tryz.underlying25 hi hz0 hz1 hz2 rfl (by decide) v L.length (L.map (Value.int .i64)) hown ⟨b, off, none⟩ m.length cap' (m.map (Value.int .i64)) (by simp) (fun j u hu => by
      rw [List.getElem?_eq_some_iff] at hu
      obtain ⟨hj, hu⟩ := hu
      simp at hj
      rw [← hu, List.getElem_map, ← getI_of m j hj, Addr.add_lit]
      exact hg j hj) (fun u hu => by obtain ⟨z, _, rfl⟩ := List.mem_map.1 hu; rfl) (by unfold maxLen; omega) (by omega) hbase
    refine wpList_plain hgd fun _ hK => ?_
    unfold Oper.wp execOp
    simp only [ho, resolve, invoke, builtin, Sem.run_bind, Sem.run_pure, Result.andThen_ok, List.map_toArray, List.map_cons, List.map_nil, hs, hx, hrun]
    refine hK _ _ (h v' w' ?_ h3 h4)
    show w'.ownsRow _ _ _ _ _ _
    rw [List.length_append, List.map_append]
    exact h2

/-- append(s, x): one more, and what it leaves alone. -/
theorem wpList_append_two' {wr : World} {ops : Array Oper} {rest : List Oper} {o : Oper} {a : Act} {Q : Exit → Act → World → Prop} (hgd : o.guard = none) (s x : Operand) (t t' : TypeId)
    (ho : o.op = .call { callee := .builtin .append, args := #[s, x], argTypes := #[t', t'] }) {i0 : TypeInfo} {z : Value} {by_ : Nat} (hu : Tryz.prog.underlying t' = some (.slice t)) (hi : Tryz.prog.info? t = some i0) (hz0 : i0.zero = some z) (hz1 : i0.size = 2) (hz2 : i0.bytes = by_) (hzs : z.cells.size = 2) (hby : by_ ≤ 100) (ht : 3 ≠ t)
    {base : Nat} {v u1 u2 : Value} {us : List (Value × Value)} {xs : List (Comp × Comp)} {y : Comp × Comp} (hs : a.eval s = v) (hx : a.eval x = .slice (some ⟨wr.heap.size, 0, none⟩) 1 1) (hM : Twos t wr base v us xs) (h1 : y.1.ok wr base u1) (h2 : y.2.ok wr base u2)
    (hbase : base ≤ wr.heap.size) (hL : xs.length ≤ 1000000)
    (h : ∀ v' w', Twos t w' base v' (us ++ [(u1, u2)]) (xs ++ [y]) → Below base wr w' → (wr.alloc (.cells #[u1, u2] t)).grownBy w' v.ownBlock → wpList Tryz.prog ops Q rest (a.put o.dst v') w') : wpList Tryz.prog ops Q (o :: rest) a (wr.alloc (.cells #[u1, u2] t)) := by
  have hl := hM.len
  have hb0 := below_alloc (w := wr) (.cells #[u1, u2] t)
  have hM2 := hM.below hb0
  refine wpList_append_own _ hgd s x t' ho base t i0 z 2 by_ hu hi hz0 hz1 hz2 hzs (by decide) v us.length (cells2 us) hs hM2.own ⟨wr.heap.size, 0, none⟩ 1 1 [u1, u2] hx rfl (cell_two_new _ _ _ _) (fun u' hu' => ?_) (by unfold maxLen; omega) ?_ (by simp; omega) ?_
  · simp at hu'
    rcases hu' with rfl | rfl
    · exact h1.one
    · exact h2.one
  · have : (us.length + 1) * by_ ≤ (us.length + 1) * 100 := Nat.mul_le_mul_left _ hby
    omega
  · intro v' w1 k1 k2 _
    exact h v' w1 (hM2.push ht (u := (u1, u2)) (h1.below hb0) (h2.below hb0) k2 k1) (((Below.refl base wr).alloc hbase _).grown k2 (by simp; omega) (fun k hk => (World.ownsRow.lt hM.own k hk).1)) k2

/-- A list's block is none of those that the structs' lists lie in. -/
def AwU (us : List (Value × Value)) (dn : Value) : Prop := ∀ u ∈ us, ∀ k, dn.ownBlock = some k → u.1.ownBlock ≠ some k ∧ u.2.ownBlock ≠ some k
theorem Comp.ok.beside {w w1 : World} {base : Nat} {v dn : Value} {c : Comp} (h : c.ok w base v) (hg : w.grownBy w1 dn.ownBlock) (ha : ∀ k, dn.ownBlock = some k → v.ownBlock ≠ some k) : c.ok w1 base v := by
  cases c with
  | inl k => exact h
  | inr l =>
    have h' : w.ownsRow base 3 1 v l.length (l.map (Value.int .i64)) := h
    refine h'.kept hg ?_
    cases hv : v.ownBlock with
    | none => exact .inl rfl
    | some b =>
      refine .inr fun e => ?_
      exact ha b e.symm hv
theorem Twos.beside {t : TypeId} {w w1 : World} {base b' : Nat} {v dn : Value} {us : List (Value × Value)} {xs : List (Comp × Comp)} {D : List Int} (h : Twos t w base v us xs) (ht : t ≠ 3) (ho : Row w b' dn D) (hg : w.grownBy w1 dn.ownBlock) (ha : AwU us dn) : Twos t w1 base v us xs := by
  have ho' : w.ownsRow b' 3 1 dn D.length (D.map (Value.int .i64)) := ho
  refine ⟨h.own.kept hg (Rt.own_two h.own ho' ht), h.len, fun p hp => ?_⟩
  have hm := (List.of_mem_zip (a := p.1) (b := p.2) (by exact hp)).1
  exact ⟨(h.each p hp).1.beside hg fun k hk => (ha _ hm k hk).1, (h.each p hp).2.beside hg fun k hk => (ha _ hm k hk).2⟩
theorem Comp.ok.small {w : World} {base : Nat} {v : Value} {c : Comp} (h : c.ok w base v) {k : Nat} (hk : w.heap.size ≤ k) : v.ownBlock ≠ some k := by
  cases c with
  | inl n => rw [show v = .int .i64 n from h]; exact fun e => by cases e
  | inr l =>
    have h' : w.ownsRow base 3 1 v l.length (l.map (Value.int .i64)) := h
    intro e
    have := (World.ownsRow.lt h' k e).2
    omega
theorem AwU.next {t : TypeId} {w : World} {base : Nat} {v dn vd : Value} {us : List (Value × Value)} {xs : List (Comp × Comp)} (ha : AwU us dn) (h : Twos t w base v us xs) (hf : ∀ k, vd.ownBlock = some k → dn.ownBlock = some k ∨ w.heap.size ≤ k) : AwU us vd := by
  intro u hu k hk
  rcases hf k hk with e | hle
  · exact ha u hu k e
  · obtain ⟨j, hj, rfl⟩ := List.mem_iff_getElem.1 hu
    have hl := h.len
    have hz : (us[j], xs[j]'(by omega)) ∈ us.zip xs := by
      refine List.mem_iff_getElem.2 ⟨j, by rw [List.length_zip]; omega, ?_⟩
      rw [List.getElem_zip]
    exact ⟨(h.each _ hz).1.small hle, (h.each _ hz).2.small hle⟩
theorem AwU.more {w : World} {base : Nat} {vd v1 v2 : Value} {us : List (Value × Value)} {D l1 l2 : List Int} {w1 : World} (ha : AwU us vd) (hd : Row w base vd D) (h1 : Row w1 w.heap.size v1 l1) (h2 : Row w1 w.heap.size v2 l2) : AwU (us ++ [(v1, v2)]) vd := by
  have hd' : w.ownsRow base 3 1 vd D.length (D.map (Value.int .i64)) := hd
  have h1' : w1.ownsRow w.heap.size 3 1 v1 l1.length (l1.map (Value.int .i64)) := h1
  have h2' : w1.ownsRow w.heap.size 3 1 v2 l2.length (l2.map (Value.int .i64)) := h2
  intro u hu k hk
  have hlt := (World.ownsRow.lt hd' k hk).2
  rcases List.mem_append.1 hu with hu | hu
  · exact ha u hu k hk
  · rw [List.mem_singleton] at hu
    subst hu
    exact ⟨fun e => by have := (World.ownsRow.lt h1' k e).1; omega, fun e => by have := (World.ownsRow.lt h2' k e).1; omega⟩
theorem AwU.nil {dn : Value} : AwU [] dn := fun _ h => absurd h List.not_mem_nil
theorem row_kept {t : TypeId} {w w1 : World} {base b' : Nat} {vd v : Value} {D : List Int} {us : List (Value × Value)} {xs : List (Comp × Comp)} (hd : Row w base vd D) (h : Twos t w b' v us xs) (ht : 3 ≠ t) (hg : w.grownBy w1 v.ownBlock) : Row w1 base vd D := by
  have hd' : w.ownsRow base 3 1 vd D.length (D.map (Value.int .i64)) := hd
  exact hd'.kept hg (Rt.own_two hd' h.own ht)
theorem row_apart {w w1 : World} {base b' : Nat} {vm dn : Value} {M D : List Int} {wo : World} (hm : Row w base vm M) (hbo : wo.heap.size ≤ base) (hd : Row wo b' dn D) (hg : w.grownBy w1 dn.ownBlock) : Row w1 base vm M := by
  have hm' : w.ownsRow base 3 1 vm M.length (M.map (Value.int .i64)) := hm
  have hd' : wo.ownsRow b' 3 1 dn D.length (D.map (Value.int .i64)) := hd
  refine hm'.kept hg ?_
  cases hv : vm.ownBlock with
  | none => exact .inl rfl
  | some k =>
    refine .inr fun e => ?_
    have h1 := (World.ownsRow.lt hm' k hv).1
    have h2 := (World.ownsRow.lt hd' k e.symm).2
    omega

set_option maxRecDepth 100000 in
set_option maxHeartbeats 8000000 in
theorem rpieces_any (v u : Value) (g : Gph) (p : Prt) (w : World) (h : Gr w v g) (h' : Pt w u p) (hpp : perr g p = 0) (hp1 : p.v.length ≤ 400) (hp2 : p.e.length ≤ 1000) :
    Calls Tryz.prog 18 #[v, u] w fun e w' => ∃ m us, e = .returned m ∧ Twos 27 w' w.heap.size m us ((pcs g p).map cmpP) ∧ Below w.heap.size w w' := by
  obtain ⟨i0, hi, hz0, hz1, hz2⟩ := info_parts Tryz.infoPart
  have HG := Lib.hid h
  have HP := Lib.hid h'
  obtain ⟨ve, rfl, h1⟩ := h
  obtain ⟨vv, vp, rfl, h2, h3⟩ := h'
  obtain ⟨Ae, ce, rfl⟩ := h1.form
  obtain ⟨Av, cv, rfl⟩ := ints_form h2
  obtain ⟨Ap, cp, rfl⟩ := ints_form h3
  obtain ⟨b1, b2, hm⟩ := two_boxes w (.int .i64 g.n) (.slice Ae g.e.length ce) (.slice Av p.v.length cv) (.slice Ap p.e.length cp) 24 27
  have HB1 := Lib.hid b1
  have HB2 := Lib.hid b2
  have HM := Lib.hid hm
  have HG1 := Lib.hid (HG.out.below hm)
  have HP1 := Lib.hid (HP.out.below hm)
  have HV1 := Lib.hid (h2.below hm)
  have HPP := Lib.hid hpp
  clear b1 b2 hm h1 h2 h3 HG HP hpp
  go_enter Tryz.func18, Tryz.ntmps18
  go_wp2
  generalize (w.alloc (.cells #[.int .i64 g.n, .slice Ae g.e.length ce] 24)).alloc (.cells #[.slice Av p.v.length cv, .slice Ap p.e.length cp] 27) = w1 at *
  go_loopw [5, 6, 7] (fun o dn i wr => ∃ (k : Nat) (D : List Int) (us : List (Value × Value)), k ≤ p.v.length ∧ i = .int .i64 (k : Nat) ∧ D.length ≤ 400 * k ∧ Hid (Twos 27 wr w1.heap.size o us ((pcsTo g p k).map cmpP)) ∧ Hid (Row wr w1.heap.size dn D) ∧ Hid (∀ x, x ∈ D ↔ DoneTo g p k x) ∧ Hid (AwU us dn) ∧ Hid (Below w1.heap.size w1 wr)) (fun _ _ i _ => p.v.length - (Go.RowKit.intOf i).toNat)
  case atStart => exact ⟨0, [], [], Nat.zero_le _, rfl, Nat.zero_le _, Lib.hid (Twos.start _ _ _), Lib.hid (Row.nil _ _), Lib.hid (fun x => ⟨fun h => absurd h List.not_mem_nil, fun ⟨j, hj, _⟩ => absurd hj (Nat.not_lt_zero _)⟩), Lib.hid AwU.nil, Lib.hid (Below.refl _ _)⟩
  case round =>
    obtain ⟨k, D, us, hk, rfl, hDl, hO, hR, hD, hA, hB⟩ := hrel
    obtain ⟨wo, hwo⟩ : ∃ z, z = wr := ⟨_, rfl⟩
    subst hwo
    obtain ⟨Ao, co, rfl⟩ := hO.out.shape
    obtain ⟨Ad, cd, rfl⟩ := ints_form (Row.ints hR.out)
    have hol : ((pcsTo g p k).map cmpP).length ≤ 1000000 := by have := pcsTo_len g p k; rw [List.length_map]; omega
    have d0 := (HB2.out.below hB.out).c0
    by_cases hlt : k < p.v.length
    · obtain ⟨pb, po, rfl, hpz0, hck0⟩ := ints_at HV1.out hlt
      have hpz := Nat.lt_of_lt_of_le hpz0 hB.out.size
      have hck := (hB.out.cell (p := ⟨pb, po + k, none⟩) hpz0).trans hck0
      have hvm := Rt.getI_in p.v k hlt
      have HFR := Lib.hid (done_frst HPP.out hlt)
      have HPS := Lib.hid (pcsTo_succ (g := g) (p := p) hlt)
      have HSK := Lib.hid (fun hd x => done_skip (g := g) (p := p) (k := k) hd x)
      have HMO := Lib.hid (fun x => done_more (g := g) (p := p) (k := k) x)
      have HK0 := Lib.hid (show (0 : Int) ≤ (k : Int) by omega)
      have HK1 := Lib.hid (show (k : Int) < (p.v.length : Int) by omega)
      have HVM := Lib.hid hvm
      have HIN := Lib.hid (in_any _ D (getI p.v k) wo (Row.ints hR.out) (by omega))
      have hk0 := HK0.out
      have hk1 := HK1.out
      clear hpz0 hck0 hvm
      generalize getI p.v k = y at *
      go_wp2_with fail
      refine HIN.out.mono ?_
      rintro e w' ⟨rfl, rfl⟩
      clear HIN d0
      by_cases hy : y ∈ D
      · have hdn := (hD.out y).1 hy
        rw [if_neg (fun hf => (HFR.out.1 hf) hdn), List.append_nil] at HPS
        have HON := Lib.hid (show Twos 27 wo w1.heap.size (.slice Ao ((pcsTo g p k).map cmpP).length co) us ((pcsTo g p (k + 1)).map cmpP) by rw [HPS.out]; exact hO.out)
        have HDN := Lib.hid (show ∀ x, x ∈ D ↔ DoneTo g p (k + 1) x from fun x => (hD.out x).trans (HSK.out hdn x).symm)
        rw [decide_eq_true hy]
        clear hy hdn hO hD HSK HMO HFR HPS
        generalize ((pcsTo g p k).map cmpP).length = no at *
        go_wp2
        go_roundw
        case rel => exact ⟨k + 1, D, us, by omega, by go_num, by omega, HON, hR, HDN, hA, hB⟩
        case measure => simp [Go.RowKit.intOf]; omega
      · have hnd : ¬ DoneTo g p k y := fun h => hy ((hD.out y).2 h)
        rw [if_pos (HFR.out.2 hnd)] at HPS
        have X0 := Lib.hid (HB1.out.below hB.out)
        have X1 := Lib.hid (HB2.out.below hB.out)
        have HBo := hB
        rw [decide_eq_false hy]
        clear hy hnd hk0 hk1 HSK HFR
        generalize hno : ((pcsTo g p k).map cmpP).length = no at *
        have HNO := Lib.hid hno
        clear hno
        go_wp2_with fail
        -- region seven
        refine wp_region_plan [is (.agg #[.int .i64 g.n, .slice Ae g.e.length ce]), is (.agg #[.slice (some ⟨pb, po, none⟩) p.v.length cv, .slice Ap p.e.length cp]), is (.pointer (some ⟨w.heap.size + 1, 0, none⟩)), is (.slice (some ⟨pb, po, none⟩) p.v.length cv), is (.int .i64 (k : Int)), is (.pointer (some ⟨pb, po + k, none⟩)), is (.int .i64 y), spInts [y], spSpr g p wo.heap.size y, spSpr g p wo.heap.size y] (by kernel_rfl) (by kernel_rfl) ?_ ?_
        · skip
          refine StepsP.cons ?_ ?_
          · refine step_val (fun a wx hB O D => ?_)
            have e2 : a.tmps[2]? = some (.pointer (some ⟨w.heap.size, 0, none⟩)) := O 2 (by rfl)
            obtain ⟨c0, c1, _⟩ := X0.out.below hB
            clear O D
            exact ⟨rfl, by go_simp⟩
          refine StepsP.cons ?_ ?_
          · refine step_val (fun a wx hB O D => ?_)
            have e3 : a.tmps[3]? = some (.pointer (some ⟨w.heap.size + 1, 0, none⟩)) := O 3 (by rfl)
            obtain ⟨c0, c1, _⟩ := X1.out.below hB
            clear O D
            exact ⟨rfl, by go_simp⟩
          refine StepsP.cons ?_ ?_
          · refine step_val (fun a wx hB O D => ?_)
            have e3 : a.tmps[3]? = some (.pointer (some ⟨w.heap.size + 1, 0, none⟩)) := O 3 (by rfl)
            clear O D
            exact ⟨rfl, by go_simp⟩
          refine StepsP.cons ?_ ?_
          · refine step_val (fun a wx hB O D => ?_)
            obtain ⟨_, e25, rfl⟩ := D 2 _ _ _ (by decide) rfl rfl rfl
            obtain ⟨c0, c1, _⟩ := X1.out.below hB
            clear O D
            exact ⟨rfl, by go_simp⟩
          refine StepsP.cons ?_ ?_
          · refine step_val (fun a wx hB O D => ?_)
            have e7 : a.tmps[7]? = some (.int .i64 (k : Int)) := O 7 (by rfl)
            clear O D
            exact ⟨rfl, by unfold execOp; simp only [ev e7]; rfl⟩
          refine StepsP.cons ?_ ?_
          · refine step_val (fun a wx hB O D => ?_)
            obtain ⟨_, e26, rfl⟩ := D 3 _ _ _ (by decide) rfl rfl rfl
            obtain ⟨_, e27, rfl⟩ := D 4 _ _ _ (by decide) rfl rfl rfl
            have hk0 := HK0.out
            have hk1 := HK1.out
            clear O D
            exact ⟨rfl, by go_simp⟩
          refine StepsP.cons ?_ ?_
          · refine step_val (fun a wx hB O D => ?_)
            obtain ⟨_, e28, rfl⟩ := D 5 _ _ _ (by decide) rfl rfl rfl
            have q := (hB.cell (p := ⟨pb, po + k, none⟩) hpz).trans hck
            clear O D
            exact ⟨rfl, by go_simp⟩
          refine StepsP.cons ?_ ?_
          · refine step_make rfl (fun a wx hB O D => ?_)
            obtain ⟨_, e29, rfl⟩ := D 6 _ _ _ (by decide) rfl rfl rfl
            exact ⟨rfl, .slice (some ⟨wx.heap.size, 0, none⟩) 1 1, wx.alloc (.cells #[.int .i64 y] 3), by go_simp, below_alloc _, Row.ints (row_lit1 wx y)⟩
          refine StepsP.cons ?_ ?_
          · refine step_call (enters_of Tryz.func47 (by kernel_rfl) rfl) rfl rfl (fun a wx hB O D => ?_)
            obtain ⟨_, e23, rfl⟩ := D 0 _ _ _ (by decide) rfl rfl rfl
            obtain ⟨_, e24, rfl⟩ := D 1 _ _ _ (by decide) rfl rfl rfl
            obtain ⟨v30, e30, s30⟩ := D 7 _ _ _ (by decide) rfl rfl rfl
            refine ⟨rfl, #[.agg #[.int .i64 g.n, .slice Ae g.e.length ce], .agg #[.slice (some ⟨pb, po, none⟩) p.v.length cv, .slice Ap p.e.length cp], v30, .int .i64 (-1)], by simp only [List.map_toArray, List.map_cons, List.map_nil, ev e23, ev e24, ev e30] <;> rfl, ?_⟩
            exact (spread_any _ _ _ g p [y] (-1) _ (HG1.out.below (trans2 HBo.out hB)) (HP1.out.below (trans2 HBo.out hB)) s30 HPP.out (by simp) (fun f hf => by rw [List.mem_singleton] at hf; rw [hf]; exact HVM.out) hp1 hp2).mono fun _ _ ⟨m, M, he, hr, hb, hs⟩ => ⟨m, he, hb, M, hr.le hB.size, hs⟩
          refine StepsP.cons ?_ ?_
          · refine step_op rfl (fun a wx hB O D => ?_)
            obtain ⟨v31, e31, s31⟩ := D 8 _ _ _ (by decide) rfl rfl rfl
            exact ⟨rfl, v31, by unfold execOp; simp only [ev e31]; rfl, s31⟩
          exact StepsP.nil
        · intro wz hZ
          refine EndP.is ?_
          refine EndP.is ?_
          refine EndP.is ?_
          refine EndP.is ?_
          refine EndP.is ?_
          refine EndP.is ?_
          refine EndP.is ?_
          refine EndP.sp rfl (fun v30 s30 => ?_)
          refine EndP.sp rfl (fun v31 s31 => ?_)
          refine EndP.sp rfl (fun v8 s8 => ?_)
          refine EndP.nil ?_
        -- behind seven
          refine wpList_nil ?_
          simp only [Act.put, List.setIfInBounds_toArray, List.set_cons_zero, List.set_cons_succ]
          obtain ⟨M, hMr, hMs⟩ := s8
          have HIN := Lib.hid (hMs.inside HPP.out (fun f hf => by rw [List.mem_singleton] at hf; rw [hf]; exact HVM.out))
          have HRM := Lib.hid (fun x => spread_mem (y := x) HPP.out hMs)
          obtain ⟨Am, cm, rfl⟩ := ints_form (Row.ints hMr)
          have HOz := Lib.hid (hO.out.below hZ)
          have HRz := Lib.hid (Row.below hR.out hZ)
          have HRo := Lib.hid hR.out
          have HMz := Lib.hid hMr
          have HIz := Lib.hid (Row.ints hMr)
          have HBz := Lib.hid (trans2 HBo.out hZ)
          have HSZ := Lib.hid HBz.out.size
          have HAz := Lib.hid hA.out
          have hml := HIN.out.2
          have HML := Lib.hid (show M.length ≤ 400 by omega)
          have HLE := Lib.hid (show D.length + M.length ≤ 4000000 by omega)
          have HDL := Lib.hid (show D.length + M.length ≤ 400 * (k + 1) by omega)
          have HDN := Lib.hid (show ∀ x, x ∈ D ++ M ↔ DoneTo g p (k + 1) x from fun x => by rw [List.mem_append, HMO.out x, hD.out x, HRM.out x])
          have HPS := Lib.hid (show pcsTo g p (k + 1) = pcsTo g p k ++ [subP g p M] by rw [HPS.out, sub_piece HPP.out HRM.out])
          clear hMr hMs hO hR hB hZ hck s31 hA hD HIN HRM HMO
          go_wp2_with (at_builtin; refine wpList_append_all' rfl _ _ rfl rfl HRz.out rfl HIz.out HLE.out HSZ.out ?_)
          intro vd wd hRd hGd hFd
          have HRd := Lib.hid (show Row wd w1.heap.size vd (D ++ M) from hRd)
          have HZd := Lib.hid (show Below w1.heap.size wz wd from (Below.refl _ wz).grown hGd HSZ.out (fun k hk => (World.ownsRow.lt (show wz.ownsRow _ _ _ _ _ _ from HRz.out) k hk).1))
          have HBd := Lib.hid (HBz.out.trans HZd.out)
          have HOd := Lib.hid (HOz.out.beside (by decide) HRz.out hGd HAz.out)
          have HAd := Lib.hid (HAz.out.next HOz.out hFd)
          have HMd := Lib.hid (Row.ints (row_apart HMz.out (Nat.le_refl _) HRo.out hGd))
          have HGG := Lib.hid (HG1.out.below HBd.out)
          have HPd := Lib.hid (HP1.out.below HBd.out)
          have Y0 := Lib.hid (HB1.out.below HBd.out)
          have Y1 := Lib.hid (HB2.out.below HBd.out)
          obtain ⟨Ad2, cd2, rfl⟩ := ints_form (Row.ints HRd.out)
          generalize (D ++ M).length = nd at *
          clear hRd hGd hFd HRz HRo HMz HIz HBz HLE HZd HOz HAz X0 X1
          have d0 := Y0.out.c0
          have d1 := Y0.out.c1
          have d2 := Y1.out.c0
          have d3 := Y1.out.c1
          go_wp2_with fail
          refine (sub_any _ _ _ g p M wd HGG.out HPd.out HMd.out (by have := HML.out; omega) (by omega) (by omega) HPP.out).mono ?_
          rintro e ws ⟨v1, v2, rfl, h1, h2, hb⟩
          have HRS := Lib.hid (Row.below HRd.out hb)
          have HOS := Lib.hid (HOd.out.below hb)
          have HAS := Lib.hid (HAd.out.more HRd.out h1 h2)
          have HBS := Lib.hid (trans2 (show Below w1.heap.size w1 wd from HBd.out) hb)
          have HSS := Lib.hid HBS.out.size
          have HR1 := Lib.hid (Row.le h1 HBd.out.size)
          have HR2 := Lib.hid (Row.le h2 HBd.out.size)
          obtain ⟨B1, c1, rfl⟩ := ints_form (Row.ints h1)
          obtain ⟨B2, c2, rfl⟩ := ints_form (Row.ints h2)
          clear h1 h2 hb HOd HAd HRd d0 d1 d2 d3 Y0 Y1
          have HLN := Lib.hid (show ((pcsTo g p k).map cmpP).length ≤ 1000000 by rw [HNO.out]; exact hol)
          go_wp2_with (at_builtin; refine wpList_append_two' rfl _ _ _ _ rfl Tryz.underlying43 hi hz0 hz1 hz2 rfl (by decide) (by decide) (y := cmpP (subP g p M)) rfl rfl HOS.out HR1.out HR2.out HSS.out HLN.out ?_)
          intro vf wf hOf hBf hGf
          have HOf := Lib.hid (show Twos 27 wf w1.heap.size vf _ ((pcsTo g p (k + 1)).map cmpP) by rw [HPS.out, List.map_append]; exact hOf)
          have HRf := Lib.hid (row_kept (Row.below HRS.out (below_alloc _)) (HOS.out.below (below_alloc _)) (by decide) hGf)
          have HBf := Lib.hid (HBS.out.trans hBf)
          obtain ⟨Af, cf, rfl⟩ := HOf.out.shape
          clear hOf hBf hGf
          generalize ((pcsTo g p (k + 1)).map cmpP).length = nf at *
          go_wp2
          go_roundw
          case rel => exact ⟨k + 1, D ++ M, _, by omega, by go_num, by rw [List.length_append]; exact HDL.out, HOf, HRf, HDN, HAS, HBf⟩
          case measure => simp [Go.RowKit.intOf]; omega
    · obtain rfl : k = p.v.length := by omega
      have HZ := Lib.hid (trans2 HM.out hB.out)
      have HT := Lib.hid (show Twos 27 wo w.heap.size _ us ((pcs g p).map cmpP) by rw [← pcsTo_all HPP.out]; exact hO.out.le HM.out.size)
      clear hO hR hD hB
      generalize ((pcsTo g p p.v.length).map cmpP).length = no at *
      go_wp2
      go_ret
      exact ⟨_, us, rfl, HT.out, HZ.out⟩
end Go.Proofs.YtmbpmepoaonleaaGreat.Fc

/-! The document's Genus and Sphere. -/
namespace Go.Proofs.YtmbpmepoaonleaaGreat.Fc
open Go.Proofs.YtmbpmepoaonleaaGreat Go.RowKit

variable {g : Gph} {p q : Prt} {T : List (List Int)}

theorem parts_list {w : World} {A : Option Addr} {n c : Nat} {ps : List Prt} (h : TwoL w (.slice A n c) (ps.map cmpP)) : PList w A ps := fun j hj => by
  obtain ⟨A0, cap, e, _, _, hr⟩ := h
  cases e
  obtain ⟨b, hA, hlt, hg⟩ := hr (by rw [List.length_map]; omega)
  obtain ⟨u1, u2, h1, h2, h3, h4⟩ := hg j (by rw [List.length_map]; omega)
  have e1 : (ps.map cmpP)[j]'(by rw [List.length_map]; omega) = cmpP (getP ps j) := by rw [List.getElem_map, getP_of hj]
  rw [e1] at h3 h4
  have h3' : Ints w u1 (getP ps j).v := h3
  have h4' : Ints w u2 (getP ps j).e := h4
  obtain ⟨A1, c1, rfl⟩ := ints_form h3'
  obtain ⟨A2, c2, rfl⟩ := ints_form h4'
  exact ⟨b, A1, c1, A2, c2, hA, hlt, h1, h2, h3', h4'⟩

/-- How many of the first walks begin in a piece. -/
def nB (g : Gph) (q : Prt) (L : List Wlk) (k : Nat) : Nat := (L.take k).countP (beginsB g q)
theorem nB_zero (L : List Wlk) : nB g q L 0 = 0 := by unfold nB; rw [List.take_zero]; rfl
theorem nB_succ {L : List Wlk} {k : Nat} (hk : k < L.length) : nB g q L (k + 1) = nB g q L k + (if beginsB g q L[k] = true then 1 else 0) := by
  unfold nB
  rw [List.take_succ_eq_append_getElem hk, List.countP_append, List.countP_singleton]
theorem nB_le (L : List Wlk) (k : Nat) : nB g q L k ≤ L.length := by
  unfold nB
  have h1 := List.countP_le_length (p := beginsB g q) (l := L.take k)
  rw [List.length_take] at h1
  omega
theorem nB_all (h : Rt.Turns g p T) : nB g q (walksOf g p T) (walksOf g p T).length = cntW g q (walksOf g p T) := by
  unfold nB
  rw [List.take_length, begins_cnt h]

set_option maxRecDepth 100000 in
set_option maxHeartbeats 8000000 in
theorem rgenus_any (v u x : Value) (g : Gph) (p : Prt) (T : List (List Int)) (w : World) (h : Gr w v g) (h' : Pt w u p) (hT : LL w x T) (hTu : Rt.Turns g p T) (hl : g.e.length ≤ 100000) (hn : g.n ≤ 100000) (hp1 : p.v.length ≤ 400) (hp2 : p.e.length ≤ 1000) (hr : ∀ j, (Rt.getT T j).length ≤ 1000000) :
    Calls Tryz.prog 61 #[v, u, x] w fun e w' => ∃ m, e = .returned m ∧ Row w' w.heap.size m (genL g p T) ∧ Below w.heap.size w w' := by
  have HG := Lib.hid h
  have HP := Lib.hid h'
  have HTU := Lib.hid hTu
  have HPF := Lib.hid (pcs_facts hTu.right)
  obtain ⟨ve, rfl, h1⟩ := h
  obtain ⟨vv, vp, rfl, h2, h3⟩ := h'
  obtain ⟨Ae, ce, rfl⟩ := h1.form
  obtain ⟨Av, cv, rfl⟩ := ints_form h2
  obtain ⟨Ap, cp, rfl⟩ := ints_form h3
  obtain ⟨A, cap, rfl, hcap, hmx⟩ := hT.form
  obtain ⟨b1, b2, hm⟩ := two_boxes w (.int .i64 g.n) (.slice Ae g.e.length ce) (.slice Av p.v.length cv) (.slice Ap p.e.length cp) 24 27
  have HB1 := Lib.hid b1
  have HB2 := Lib.hid b2
  have HM := Lib.hid hm
  have HG1 := Lib.hid (HG.out.below hm)
  have HP1 := Lib.hid (HP.out.below hm)
  have HN := Lib.hid (rwalks_any _ _ _ g p T _ (HG.out.below hm) (HP.out.below hm) (hT.below hm) hTu (by omega) (by omega) hl hn hr)
  have c0 := b1.c0
  have c1 := b1.c1
  have d0 := b2.c0
  have d1 := b2.c1
  clear b1 b2 hm h1 h2 h3 hT HG HP hr hcap hmx
  go_enter Tryz.func61, Tryz.ntmps61
  go_wp2_with fail
  generalize (w.alloc (.cells #[.int .i64 g.n, .slice Ae g.e.length ce] 24)).alloc (.cells #[.slice Av p.v.length cv, .slice Ap p.e.length cp] 27) = w1 at *
  refine HN.out.mono ?_
  clear c0 c1 d0 d1 HN
  rintro e w2 ⟨m, us, rfl, hTw, hB2⟩
  have HX1 := Lib.hid (HB1.out.below hB2)
  have HX2 := Lib.hid (HB2.out.below hB2)
  have HG2 := Lib.hid (HG1.out.below hB2)
  have HMW := Lib.hid (trans2 HM.out hB2)
  have HTW := Lib.hid hTw.reads
  have HPI := Lib.hid (rpieces_any _ _ g p w2 HG2.out (HP1.out.below hB2) HTU.out.right hp1 hp2)
  obtain ⟨Am, cm, rfl⟩ := hTw.shape
  have c0 := HX1.out.c0
  have c1 := HX1.out.c1
  have d0 := HX2.out.c0
  have d1 := HX2.out.c1
  have hwl : ((walksOf g p T).map cmp).length = (walksOf g p T).length := List.length_map _
  rw [hwl] at HTW ⊢
  clear hTw hB2 HB1 HB2 HG1 HP1 hwl
  go_wp2_with fail
  clear c0 c1 d0 d1
  refine HPI.out.mono ?_
  rintro e w3 ⟨m3, us3, rfl, hPw, hB3⟩
  have HTW3 := Lib.hid (HTW.out.below hB3)
  have HG3 := Lib.hid (HG2.out.below hB3)
  have HX3 := Lib.hid (HX1.out.below hB3)
  have HM3 := Lib.hid (trans2 HMW.out hB3)
  obtain ⟨A3, c3, rfl⟩ := hPw.shape
  have HPL := Lib.hid (parts_list hPw.reads)
  have hpl : ((pcs g p).map cmpP).length = (pcs g p).length := List.length_map _
  rw [hpl]
  have hlW := walksOf_len g p T
  have HLW := Lib.hid (show (walksOf g p T).length ≤ 3000 by omega)
  have HLN := Lib.hid (Nat.le_trans HPF.out.len hp1)
  clear hPw hB3 HPI HX1 HX2 HG2 HTW HMW hpl hlW hTu
  go_wp2
  go_loopw [9, 10] (fun o i wr => ∃ k : Nat, k ≤ (pcs g p).length ∧ i = .int .i64 (k : Nat) ∧ Hid (Row wr w3.heap.size o ((genL g p T).take k)) ∧ Hid (Below w3.heap.size w3 wr)) (fun _ i _ => (pcs g p).length - (Go.RowKit.intOf i).toNat)
  case atStart => exact ⟨0, Nat.zero_le _, rfl, Lib.hid (by rw [List.take_zero]; exact Row.nil _ _), Lib.hid (Below.refl _ _)⟩
  case round =>
    obtain ⟨k, hk, rfl, hR, hB⟩ := hrel
    obtain ⟨wo, hwo⟩ : ∃ z, z = wr := ⟨_, rfl⟩
    subst hwo
    obtain ⟨Ao, co, hso⟩ := ints_form (Row.ints hR.out)
    have hne : ((genL g p T).take k).length = k := by rw [List.length_take, genL_len]; omega
    rw [hne] at hso
    subst hso
    have HNE := Lib.hid hne
    clear hne
    by_cases hlt : k < (pcs g p).length
    · obtain ⟨gb, A1, cv1, A2, ce1, rfl, hgb, hc1, hc2, hi1, _⟩ := (HPL.out.below hB.out) k hlt
      have hnn := gen_nn (PFacts.pce HPF.out hlt) HTU.out
      have hge := genL_get (g := g) (p := p) (T := T) hlt
      have hnv := Nat.le_trans (HPF.out.few k hlt).1 hp1
      have hnE := Nat.le_trans (HPF.out.few k hlt).2 hp2
      unfold genI at hge
      have HTK := Lib.hid (take_succ_getI (genL g p T) k (by rw [genL_len]; exact hlt))
      have HVI0 := Lib.hid hi1
      have HVL := Lib.hid (show (getP (pcs g p) k).v.length ≤ 1000000 by omega)
      have HBO := Lib.hid hB.out
      have HRO := Lib.hid hR.out
      have HNA := Lib.hid (nB_all (q := getP (pcs g p) k) HTU.out)
      obtain ⟨nv, hnv'⟩ : ∃ n, (getP (pcs g p) k).v.length = n := ⟨_, rfl⟩
      obtain ⟨ne, hne'⟩ : ∃ n, (getP (pcs g p) k).e.length = n := ⟨_, rfl⟩
      rw [hnv'] at hc1 hnn hge hnv HVI0
      rw [hne'] at hc2 hnn hge hnE
      obtain ⟨G, hG⟩ : ∃ G, getI (genL g p T) k = G := ⟨_, rfl⟩
      rw [hG] at hge HTK
      have HHQ := Lib.hid (show (2 - (nv : Int) + (ne : Int) - (cntW g (getP (pcs g p) k) (walksOf g p T) : Int)).tdiv 2 = G from hge.symm)
      have HNN := Lib.hid hnn
      have hk0 : (0 : Int) ≤ (k : Int) := by omega
      have hk1 : (k : Int) < ((pcs g p).length : Int) := by omega
      have HK0 := Lib.hid hk0
      have HK1 := Lib.hid hk1
      have HW1 := Lib.hid (w64f (2 - (nv : Int)) (by omega) (by omega))
      have HW2 := Lib.hid (w64f (2 - (nv : Int) + (ne : Int)) (by omega) (by omega))
      clear hnn hge hG hR hB hi1 hnv' hne'
      go_wp2_with fail
      clear hk0 hk1
      -- region seven
      refine wp_region_plan [is (.slice (some ⟨gb, 0, none⟩) (pcs g p).length c3), is (.int .i64 (k : Int)), is (.pointer (some ⟨gb, k * 2, none⟩)), is (.pointer (some ⟨gb, k * 2, none⟩)), is (.slice A1 nv cv1), is (.int .i64 (nv : Int)), is (.int .i64 (2 - (nv : Int))), is (.slice (some ⟨gb, 0, none⟩) (pcs g p).length c3), is (.int .i64 (k : Int)), is (.pointer (some ⟨gb, k * 2, none⟩)), is (.pointer (some ⟨gb, k * 2 + 1, none⟩)), is (.slice A2 ne ce1), is (.int .i64 (ne : Int)), is (.int .i64 (2 - (nv : Int) + (ne : Int))), is (.int .i64 (2 - (nv : Int) + (ne : Int)))] (by kernel_rfl) (by kernel_rfl) ?_ ?_
      · skip
        refine StepsP.cons ?_ ?_
        · refine step_val (fun a wx hB O D => ?_)
          have e8 : a.tmps[8]? = some (.slice (some ⟨gb, 0, none⟩) (pcs g p).length c3) := O 8 (by rfl)
          clear O D
          exact ⟨rfl, by unfold execOp; simp only [ev e8]; rfl⟩
        refine StepsP.cons ?_ ?_
        · refine step_val (fun a wx hB O D => ?_)
          have e10 : a.tmps[10]? = some (.int .i64 (k : Int)) := O 10 (by rfl)
          clear O D
          exact ⟨rfl, by unfold execOp; simp only [ev e10]; rfl⟩
        refine StepsP.cons ?_ ?_
        · refine step_val (fun a wx hB O D => ?_)
          obtain ⟨_, e26, rfl⟩ := D 0 _ _ _ (by decide) rfl rfl rfl
          obtain ⟨_, e27, rfl⟩ := D 1 _ _ _ (by decide) rfl rfl rfl
          have hk0 := HK0.out
          have hk1 := HK1.out
          clear O D
          exact ⟨rfl, by go_simp⟩
        refine StepsP.cons ?_ ?_
        · refine step_val (fun a wx hB O D => ?_)
          obtain ⟨_, e28, rfl⟩ := D 2 _ _ _ (by decide) rfl rfl rfl
          clear O D
          exact ⟨rfl, by go_simp⟩
        refine StepsP.cons ?_ ?_
        · refine step_val (fun a wx hB O D => ?_)
          obtain ⟨_, e29, rfl⟩ := D 3 _ _ _ (by decide) rfl rfl rfl
          have q := (hB.cell (p := ⟨gb, k * 2, none⟩) hgb).trans hc1
          clear O D
          exact ⟨rfl, by go_simp⟩
        refine StepsP.cons ?_ ?_
        · refine step_val (fun a wx hB O D => ?_)
          obtain ⟨_, e30, rfl⟩ := D 4 _ _ _ (by decide) rfl rfl rfl
          clear O D
          exact ⟨rfl, by go_simp⟩
        refine StepsP.cons ?_ ?_
        · refine step_val (fun a wx hB O D => ?_)
          obtain ⟨_, e31, rfl⟩ := D 5 _ _ _ (by decide) rfl rfl rfl
          have w64 := HW1.out
          clear O D
          exact ⟨rfl, by go_simp⟩
        refine StepsP.cons ?_ ?_
        · refine step_val (fun a wx hB O D => ?_)
          have e8 : a.tmps[8]? = some (.slice (some ⟨gb, 0, none⟩) (pcs g p).length c3) := O 8 (by rfl)
          clear O D
          exact ⟨rfl, by unfold execOp; simp only [ev e8]; rfl⟩
        refine StepsP.cons ?_ ?_
        · refine step_val (fun a wx hB O D => ?_)
          have e10 : a.tmps[10]? = some (.int .i64 (k : Int)) := O 10 (by rfl)
          clear O D
          exact ⟨rfl, by unfold execOp; simp only [ev e10]; rfl⟩
        refine StepsP.cons ?_ ?_
        · refine step_val (fun a wx hB O D => ?_)
          obtain ⟨_, e33, rfl⟩ := D 7 _ _ _ (by decide) rfl rfl rfl
          obtain ⟨_, e34, rfl⟩ := D 8 _ _ _ (by decide) rfl rfl rfl
          have hk0 := HK0.out
          have hk1 := HK1.out
          clear O D
          exact ⟨rfl, by go_simp⟩
        refine StepsP.cons ?_ ?_
        · refine step_val (fun a wx hB O D => ?_)
          obtain ⟨_, e35, rfl⟩ := D 9 _ _ _ (by decide) rfl rfl rfl
          clear O D
          exact ⟨rfl, by go_simp⟩
        refine StepsP.cons ?_ ?_
        · refine step_val (fun a wx hB O D => ?_)
          obtain ⟨_, e36, rfl⟩ := D 10 _ _ _ (by decide) rfl rfl rfl
          have q := (hB.cell (p := ⟨gb, k * 2 + 1, none⟩) hgb).trans hc2
          clear O D
          exact ⟨rfl, by go_simp⟩
        refine StepsP.cons ?_ ?_
        · refine step_val (fun a wx hB O D => ?_)
          obtain ⟨_, e37, rfl⟩ := D 11 _ _ _ (by decide) rfl rfl rfl
          clear O D
          exact ⟨rfl, by go_simp⟩
        refine StepsP.cons ?_ ?_
        · refine step_val (fun a wx hB O D => ?_)
          obtain ⟨_, e32, rfl⟩ := D 6 _ _ _ (by decide) rfl rfl rfl
          obtain ⟨_, e38, rfl⟩ := D 12 _ _ _ (by decide) rfl rfl rfl
          have w64 := HW2.out
          clear O D
          exact ⟨rfl, by go_simp⟩
        refine StepsP.cons ?_ ?_
        · refine step_val (fun a wx hB O D => ?_)
          obtain ⟨_, e39, rfl⟩ := D 13 _ _ _ (by decide) rfl rfl rfl
          clear O D
          exact ⟨rfl, by unfold execOp; simp only [ev e39]; rfl⟩
        exact StepsP.nil
      · intro wz hZ
        refine EndP.is ?_
        refine EndP.is ?_
        refine EndP.is ?_
        refine EndP.is ?_
        refine EndP.is ?_
        refine EndP.is ?_
        refine EndP.is ?_
        refine EndP.is ?_
        refine EndP.is ?_
        refine EndP.is ?_
        refine EndP.is ?_
        refine EndP.is ?_
        refine EndP.is ?_
        refine EndP.is ?_
        refine EndP.is ?_
        refine EndP.nil ?_
      -- behind seven
        refine wpList_nil ?_
        simp only [Act.put, List.setIfInBounds_toArray, List.set_cons_zero, List.set_cons_succ]
        obtain ⟨wy, hwy⟩ : ∃ z, z = wz := ⟨_, rfl⟩
        subst hwy
        have HBZ := Lib.hid (HBO.out.trans (hZ.mono HBO.out.size))
        have HRZ := Lib.hid (Row.below HRO.out hZ)
        have HVZ := Lib.hid (HVI0.out.below hZ)
        have hgz : gb < wy.heap.size := Nat.lt_of_lt_of_le hgb hZ.size
        have hc1z := (hZ.cell (p := ⟨gb, k * 2, none⟩) hgb).trans hc1
        clear hZ hgb hc1 hc2 HVI0 HRO HBO
        go_wp2
        go_loopw [11, 12] (fun n j wr => ∃ i : Nat, i ≤ (walksOf g p T).length ∧ j = .int .i64 (i : Nat) ∧ n = .int .i64 (2 - (nv : Int) + (ne : Int) - (nB g (getP (pcs g p) k) (walksOf g p T) i : Int)) ∧ Hid (Below wy.heap.size wy wr)) (fun _ j _ => (walksOf g p T).length - (Go.RowKit.intOf j).toNat)
        case atStart => exact ⟨0, Nat.zero_le _, rfl, by rw [nB_zero]; go_num, Lib.hid (Below.refl _ _)⟩
        case round =>
          obtain ⟨i, hi, rfl, rfl, hB⟩ := hrel
          obtain ⟨wq, hwq⟩ : ∃ z, z = wr := ⟨_, rfl⟩
          subst hwq
          by_cases hil : i < (walksOf g p T).length
          · have HBQ := Lib.hid (HBZ.out.trans (hB.out.mono HBZ.out.size))
            have HBW := Lib.hid hB.out
            obtain ⟨bL, rfl, hbL, hcL1, A', c', hcL2⟩ := fwalk_at (HTW3.out.below HBQ.out) hil
            have hkk := walk_keys HTU.out (by omega) (List.getElem_mem hil)
            have hgq : gb < wq.heap.size := Nat.lt_of_lt_of_le hgz hB.out.size
            have hc1q := (hB.out.cell (p := ⟨gb, k * 2, none⟩) hgz).trans hc1z
            have HVI := Lib.hid (HVZ.out.below hB.out)
            have X0 := Lib.hid (HX3.out.below HBQ.out)
            have HCR := Lib.hid (fun (W : World) (hW : Below wq.heap.size wq W) => rcorner_any _ g ((walksOf g p T)[i]).1 A' ((walksOf g p T)[i]).2.length c' W (HG3.out.below (trans2 HBQ.out hW)) (by omega) (by rcases hkk with ⟨_, h1, h2⟩ | ⟨_, h1, h2⟩ <;> omega) (by rcases hkk with ⟨_, h1, h2⟩ | ⟨_, h1, h2⟩ <;> omega))
            have HSU := Lib.hid (nB_succ (g := g) (q := getP (pcs g p) k) hil)
            have HLE := Lib.hid (nB_le (g := g) (q := getP (pcs g p) k) (walksOf g p T) i)
            obtain ⟨bb, hbb⟩ : ∃ b, beginsB g (getP (pcs g p) k) ((walksOf g p T)[i]) = b := ⟨_, rfl⟩
            have HBI := Lib.hid (show decide (crn g ((walksOf g p T)[i]).1 ∈ (getP (pcs g p) k).v) = bb from hbb)
            rw [hbb] at HSU
            have HI0 := Lib.hid (show (0 : Int) ≤ (i : Int) by omega)
            have HI1 := Lib.hid (show (i : Int) < ((walksOf g p T).length : Int) by omega)
            clear hkk hbb hB
            generalize crn g ((walksOf g p T)[i]).1 = cr at *
            generalize ((walksOf g p T)[i]).1 = ky at *
            generalize ((walksOf g p T)[i]).2.length = nd at *
            go_wp2_with fail
            -- region eleven
            refine wp_region_plan [is (.slice (some ⟨gb, 0, none⟩) (pcs g p).length c3), is (.int .i64 (k : Int)), is (.pointer (some ⟨gb, k * 2, none⟩)), is (.pointer (some ⟨gb, k * 2, none⟩)), is (.slice A1 nv cv1), is (.agg #[.int .i64 g.n, .slice Ae g.e.length ce]), is (.slice (some ⟨bL, 0, none⟩) (walksOf g p T).length cm), is (.int .i64 (i : Int)), is (.pointer (some ⟨bL, i * 2, none⟩)), is (.agg #[.int .i64 ky, .slice A' nd c']), is (.int .i64 cr), is (.bool bb)] (by kernel_rfl) (by kernel_rfl) ?_ ?_
            · skip
              refine StepsP.cons ?_ ?_
              · refine step_val (fun a wx hB O D => ?_)
                have e8 : a.tmps[8]? = some (.slice (some ⟨gb, 0, none⟩) (pcs g p).length c3) := O 8 (by rfl)
                clear O D
                exact ⟨rfl, by unfold execOp; simp only [ev e8]; rfl⟩
              refine StepsP.cons ?_ ?_
              · refine step_val (fun a wx hB O D => ?_)
                have e10 : a.tmps[10]? = some (.int .i64 (k : Int)) := O 10 (by rfl)
                clear O D
                exact ⟨rfl, by unfold execOp; simp only [ev e10]; rfl⟩
              refine StepsP.cons ?_ ?_
              · refine step_val (fun a wx hB O D => ?_)
                obtain ⟨_, e46, rfl⟩ := D 0 _ _ _ (by decide) rfl rfl rfl
                obtain ⟨_, e47, rfl⟩ := D 1 _ _ _ (by decide) rfl rfl rfl
                have hk0 := HK0.out
                have hk1 := HK1.out
                clear O D
                exact ⟨rfl, by go_simp⟩
              refine StepsP.cons ?_ ?_
              · refine step_val (fun a wx hB O D => ?_)
                obtain ⟨_, e48, rfl⟩ := D 2 _ _ _ (by decide) rfl rfl rfl
                clear O D
                exact ⟨rfl, by go_simp⟩
              refine StepsP.cons ?_ ?_
              · refine step_val (fun a wx hB O D => ?_)
                obtain ⟨_, e49, rfl⟩ := D 3 _ _ _ (by decide) rfl rfl rfl
                have q := (hB.cell (p := ⟨gb, k * 2, none⟩) hgq).trans hc1q
                clear O D
                exact ⟨rfl, by go_simp⟩
              refine StepsP.cons ?_ ?_
              · refine step_val (fun a wx hB O D => ?_)
                have e3 : a.tmps[3]? = some (.pointer (some ⟨w.heap.size, 0, none⟩)) := O 3 (by rfl)
                obtain ⟨c0, c1, _⟩ := X0.out.below hB
                clear O D
                exact ⟨rfl, by go_simp⟩
              refine StepsP.cons ?_ ?_
              · refine step_val (fun a wx hB O D => ?_)
                have e7 : a.tmps[7]? = some (.slice (some ⟨bL, 0, none⟩) (walksOf g p T).length cm) := O 7 (by rfl)
                clear O D
                exact ⟨rfl, by unfold execOp; simp only [ev e7]; rfl⟩
              refine StepsP.cons ?_ ?_
              · refine step_val (fun a wx hB O D => ?_)
                have e12 : a.tmps[12]? = some (.int .i64 (i : Int)) := O 12 (by rfl)
                clear O D
                exact ⟨rfl, by unfold execOp; simp only [ev e12]; rfl⟩
              refine StepsP.cons ?_ ?_
              · refine step_val (fun a wx hB O D => ?_)
                obtain ⟨_, e52, rfl⟩ := D 6 _ _ _ (by decide) rfl rfl rfl
                obtain ⟨_, e53, rfl⟩ := D 7 _ _ _ (by decide) rfl rfl rfl
                have hk0 := HI0.out
                have hk1 := HI1.out
                clear O D
                exact ⟨rfl, by go_simp⟩
              refine StepsP.cons ?_ ?_
              · refine step_val (fun a wx hB O D => ?_)
                obtain ⟨_, e54, rfl⟩ := D 8 _ _ _ (by decide) rfl rfl rfl
                have q1 := (hB.cell (p := ⟨bL, i * 2, none⟩) hbL).trans hcL1
                have q2 := (hB.cell (p := ⟨bL, i * 2 + 1, none⟩) hbL).trans hcL2
                clear O D
                exact ⟨rfl, by go_simp⟩
              refine StepsP.cons ?_ ?_
              · refine step_call (enters_of Tryz.func85 (by kernel_rfl) rfl) rfl rfl (fun a wx hB O D => ?_)
                obtain ⟨_, e51, rfl⟩ := D 5 _ _ _ (by decide) rfl rfl rfl
                obtain ⟨_, e55, rfl⟩ := D 9 _ _ _ (by decide) rfl rfl rfl
                refine ⟨rfl, #[.agg #[.int .i64 g.n, .slice Ae g.e.length ce], .agg #[.int .i64 ky, .slice A' nd c']], by simp only [List.map_toArray, List.map_cons, List.map_nil, ev e51, ev e55] <;> rfl, ?_⟩
                exact (HCR.out _ hB).mono fun _ _ ⟨he, hb⟩ => ⟨_, he, hb, rfl⟩
              refine StepsP.cons ?_ ?_
              · refine step_call (enters_of Tryz.func22 (by kernel_rfl) rfl) rfl rfl (fun a wx hB O D => ?_)
                obtain ⟨_, e50, rfl⟩ := D 4 _ _ _ (by decide) rfl rfl rfl
                obtain ⟨_, e56, rfl⟩ := D 10 _ _ _ (by decide) rfl rfl rfl
                refine ⟨rfl, #[.slice A1 nv cv1, .int .i64 cr], by simp only [List.map_toArray, List.map_cons, List.map_nil, ev e50, ev e56] <;> rfl, ?_⟩
                exact (in_any _ (getP (pcs g p) k).v cr _ (HVI.out.below hB) HVL.out).mono fun _ _ ⟨he, hw⟩ => ⟨_, by rw [he, HBI.out], hw ▸ Below.refl _ _, rfl⟩
              exact StepsP.nil
            · intro wz hZ
              refine EndP.is ?_
              refine EndP.is ?_
              refine EndP.is ?_
              refine EndP.is ?_
              refine EndP.is ?_
              refine EndP.is ?_
              refine EndP.is ?_
              refine EndP.is ?_
              refine EndP.is ?_
              refine EndP.is ?_
              refine EndP.is ?_
              refine EndP.is ?_
              refine EndP.nil ?_
            -- behind eleven
              refine wpList_nil ?_
              simp only [Act.put, List.setIfInBounds_toArray, List.set_cons_zero, List.set_cons_succ]
              have HBN := Lib.hid (trans2 (show Below wy.heap.size wy wq from HBW.out) hZ)
              have hcl := Nat.le_trans HLE.out HLW.out
              have hwl := HLW.out
              clear hZ HCR HBW HVI X0 hc1q hcL1 hcL2 hbL
              generalize nB g (getP (pcs g p) k) (walksOf g p T) i = cn at *
              generalize hcm : nB g (getP (pcs g p) k) (walksOf g p T) (i + 1) = cm2 at *
              have HCM := Lib.hid hcm
              clear hcm
              cases bb
              · have HS2 := Lib.hid (show cm2 = cn by rw [HSU.out]; rfl)
                clear HSU
                go_wp2
                go_roundw
                case rel => exact ⟨i + 1, by omega, by go_num, by rw [HCM.out, HS2.out], HBN⟩
                case measure => simp [Go.RowKit.intOf]; omega
              · have HS2 := Lib.hid (show cm2 = cn + 1 by rw [HSU.out]; rfl)
                clear HSU
                go_wp2
                go_roundw
                case rel => exact ⟨i + 1, by omega, by go_num, by rw [HCM.out, HS2.out]; go_num, HBN⟩
                case measure => simp [Go.RowKit.intOf]; omega
          · obtain rfl : i = (walksOf g p T).length := by omega
            rw [HNA.out]
            have HBQ := Lib.hid (HBZ.out.trans (hB.out.mono HBZ.out.size))
            have HRQ := Lib.hid (Row.below HRZ.out hB.out)
            have hnn := HNN.out
            have hq := HHQ.out
            have hN1 : 2 - (nv : Int) + (ne : Int) - (cntW g (getP (pcs g p) k) (walksOf g p T) : Int) ≤ 100000 := by omega
            clear hB HNA HHQ HNN HW1 HW2 HVZ hc1z
            generalize 2 - (nv : Int) + (ne : Int) - (cntW g (getP (pcs g p) k) (walksOf g p T) : Int) = N at *
            have hG0 : 0 ≤ G := by rw [← hq, Int.tdiv_eq_ediv_of_nonneg hnn]; omega
            have hG1 : G ≤ 1000000 := by rw [← hq, Int.tdiv_eq_ediv_of_nonneg hnn]; omega
            have HLE := Lib.hid (show ((genL g p T).take k).length ≤ 4000000 by rw [HNE.out]; have := HLN.out; omega)
            go_wp2_with (at_builtin; refine wpList_append1 rfl _ _ rfl rfl rfl HRQ.out HBQ.out.size HLE.out ?_)
            intro v7 w7 hR7 hB7
            have HR7 := Lib.hid (show Row w7 w3.heap.size v7 ((genL g p T).take (k + 1)) by rw [HTK.out]; exact hR7)
            have HB7 := Lib.hid (HBQ.out.trans hB7)
            have hlen := HLN.out
            clear hR7 hB7 HRQ HBQ
            go_wp2
            go_roundw
            case rel => exact ⟨k + 1, by omega, by go_num, HR7, HB7⟩
            case measure => simp [Go.RowKit.intOf]; omega
    · obtain rfl : k = (pcs g p).length := by omega
      have HZ := Lib.hid (trans2 HM3.out hB.out)
      have HRF := Lib.hid (show Row wo w.heap.size (.slice Ao (pcs g p).length co) (genL g p T) by
        have h1 := hR.out
        rw [List.take_of_length_le (by rw [genL_len]; exact Nat.le_refl _)] at h1
        exact h1.le HM3.out.size)
      clear hR hB
      go_wp2
      go_ret
      exact ⟨_, rfl, HRF.out, HZ.out⟩
end Go.Proofs.YtmbpmepoaonleaaGreat.Fc
