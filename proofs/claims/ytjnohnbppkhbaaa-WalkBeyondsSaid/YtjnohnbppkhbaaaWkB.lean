/-
  The closures of the program's Beyond; the program's Keep, of these.
-/
import Derived.Test.YtjnohnbppkhbaaaWkP
namespace Go.Proofs.Ytjnohnbppkhbaaa
open Go.RowKit Go.Maps

/-- Has x been met, and isn't it v? -/
def metB (ts : List Int) (v x : Int) : Bool := decide (x ∈ ts) && decide (x ≠ v)

set_option maxRecDepth 100000 in
set_option maxHeartbeats 1000000 in
theorem beyond1_any (ts : List Int) (ds : List Nat) (D : DataW Unit) (B1 B2 bm : Nat) (v x : Int) (w : World) (M : Mp w bm D ts ds) (hx : (Lit.int .i64 x).wf = true) (hc1 : w.cell? ⟨B1, 0, none⟩ = some (.map (some bm))) (hc2 : w.cell? ⟨B2, 0, none⟩ = some (.int .i64 v)) :
    Calls Try.prog 38 #[.int .i64 x, .pointer (some ⟨B1, 0, none⟩), .pointer (some ⟨B2, 0, none⟩)] w fun e w' => e = .returned (.bool (metB ts v x)) ∧ w' = w := by
  have hk1 := keyOf_int_mk Try.underlying3 hx
  have HM := Lib.hid M
  by_cases h1 : x ∈ ts
  · have hh := M.has_yes h1
    by_cases h2 : x = v
    · have HN := Lib.hid (show metB ts v x = false by unfold metB; simp [h2])
      have hv : (x != v) = false := by simp [h2]
      clear M hx h2
      go_enter Try.func38, Try.ntmps38
      go_wp2_with (at_lookup; refine wpList_lookup_own_ok_int _ rfl _ _ 43 rfl 3 3 .i64 Try.keyInt Try.underlying43 Try.underlying3 (Try.zeroInt _) bm ts.length D rfl HM.out.1 _ _ rfl hk1 ?_; intro c hat hwc; rw [hh]; clear hat hwc)
      go_ret
      exact ⟨ret_bool HN.out.symm, rfl⟩
    · have HN := Lib.hid (show metB ts v x = true by unfold metB; simp [h1, h2])
      have hv : (x != v) = true := by simp [h2]
      clear M hx h2
      go_enter Try.func38, Try.ntmps38
      go_wp2_with (at_lookup; refine wpList_lookup_own_ok_int _ rfl _ _ 43 rfl 3 3 .i64 Try.keyInt Try.underlying43 Try.underlying3 (Try.zeroInt _) bm ts.length D rfl HM.out.1 _ _ rfl hk1 ?_; intro c hat hwc; rw [hh]; clear hat hwc)
      go_ret
      exact ⟨ret_bool HN.out.symm, rfl⟩
  · have hh := M.has_no h1
    have HN := Lib.hid (show metB ts v x = false by unfold metB; simp [h1])
    clear M hx h1
    go_enter Try.func38, Try.ntmps38
    go_wp2_with (at_lookup; refine wpList_lookup_own_ok_int _ rfl _ _ 43 rfl 3 3 .i64 Try.keyInt Try.underlying43 Try.underlying3 (Try.zeroInt _) bm ts.length D rfl HM.out.1 _ _ rfl hk1 ?_; intro c hat hwc; rw [hh]; clear hat hwc)
    go_ret
    exact ⟨ret_bool HN.out.symm, rfl⟩

/-- What the closures read. -/
structure Env (w : World) (B1 B2 B3 B4 B5 bm : Nat) (D : DataW Unit) (ts : List Int) (ds : List Nat) (v d : Int) (gv : Value) : Prop where
  map : Mp w bm D ts ds
  c1 : w.cell? ⟨B1, 0, none⟩ = some (.map (some bm))
  c2 : w.cell? ⟨B2, 0, none⟩ = some (.int .i64 v)
  c3 : w.cell? ⟨B3, 0, none⟩ = some (.func (.func 38) #[] #[.pointer (some ⟨B1, 0, none⟩), .pointer (some ⟨B2, 0, none⟩)])
  c4 : w.cell? ⟨B4, 0, none⟩ = some (.int .i64 d)
  c5 : w.cell? ⟨B5, 1, none⟩ = some gv
theorem Env.below {w w' : World} {B1 B2 B3 B4 B5 bm : Nat} {D : DataW Unit} {ts : List Int} {ds : List Nat} {v d : Int} {gv : Value} (E : Env w B1 B2 B3 B4 B5 bm D ts ds v d gv) (hb : Below w.heap.size w w') : Env w' B1 B2 B3 B4 B5 bm D ts ds v d gv :=
  ⟨E.map.below hb, (hb.cell (p := ⟨B1, 0, none⟩) (World.block_lt_of_cell? w _ E.c1)).trans E.c1, (hb.cell (p := ⟨B2, 0, none⟩) (World.block_lt_of_cell? w _ E.c2)).trans E.c2, (hb.cell (p := ⟨B3, 0, none⟩) (World.block_lt_of_cell? w _ E.c3)).trans E.c3,
    (hb.cell (p := ⟨B4, 0, none⟩) (World.block_lt_of_cell? w _ E.c4)).trans E.c4, (hb.cell (p := ⟨B5, 1, none⟩) (World.block_lt_of_cell? w _ E.c5)).trans E.c5⟩

def keepV (ts : List Int) (v x : Int) : Bool := decide (x = v) || metB ts v x

set_option maxRecDepth 100000 in
set_option maxHeartbeats 1000000 in
theorem beyond2_any {w : World} {B1 B2 B3 B4 B5 bm : Nat} {D : DataW Unit} {ts : List Int} {ds : List Nat} {v d : Int} {gv : Value} (E : Env w B1 B2 B3 B4 B5 bm D ts ds v d gv) (x : Int) (hx : (Lit.int .i64 x).wf = true) :
    Calls Try.prog 40 #[.int .i64 x, .pointer (some ⟨B2, 0, none⟩), .pointer (some ⟨B3, 0, none⟩)] w fun e w' => e = .returned (.bool (keepV ts v x)) ∧ Below w.heap.size w w' := by
  have c2 := E.c2
  have c3 := E.c3
  have HC := Lib.hid (beyond1_any ts ds D B1 B2 bm v x w E.map hx E.c1 E.c2)
  by_cases h1 : x = v
  · have HN := Lib.hid (show keepV ts v x = true by unfold keepV; simp [h1])
    have hv : (x == v) = true := by simp [h1]
    clear E hx h1
    go_enter Try.func40, Try.ntmps40
    go_wp2
    go_ret
    exact ⟨ret_bool HN.out.symm, Below.refl _ _⟩
  · have HN := Lib.hid (show keepV ts v x = metB ts v x by unfold keepV; simp [h1])
    have hv : (x == v) = false := by simp [h1]
    clear E hx h1
    generalize metB ts v x = r at *
    go_enter Try.func40, Try.ntmps40
    go_wp2_with fail
    refine HC.out.mono ?_
    rintro e w' ⟨rfl, rfl⟩
    go_wp2
    go_ret
    exact ⟨ret_bool HN.out.symm, Below.refl _ _⟩

def keepE (g : Gph) (ts : List Int) (v d : Int) (e : Int) : Bool := decide (e = d.tdiv 2) || (metB ts v (getE g.e e.toNat).a || metB ts v (getE g.e e.toNat).b)

set_option maxRecDepth 100000 in
set_option maxHeartbeats 2000000 in
theorem beyond3_any {w : World} {B1 B2 B3 B4 B5 bm : Nat} {D : DataW Unit} {ts : List Int} {ds : List Nat} {v d : Int} {gv : Value} (E : Env w B1 B2 B3 B4 B5 bm D ts ds v d gv) (g : Gph) (hg : Edges w gv g.e) (e : Int) (he : 0 ≤ e ∧ e < g.e.length) (hd : 0 ≤ d ∧ d < 1000000)
    (hwa : (Lit.int .i64 (getE g.e e.toNat).a).wf = true) (hwb : (Lit.int .i64 (getE g.e e.toNat).b).wf = true) :
    Calls Try.prog 41 #[.int .i64 e, .pointer (some ⟨B4, 0, none⟩), .pointer (some ⟨B3, 0, none⟩), .pointer (some ⟨B5, 0, none⟩)] w fun en w' => en = .returned (.bool (keepE g ts v d e)) ∧ Below w.heap.size w w' := by
  have c4 := E.c4
  have c3 := E.c3
  have c5 := E.c5
  obtain ⟨Ae, ce, rfl⟩ := hg.form
  obtain ⟨en, rfl⟩ : ∃ en : Nat, e = en := ⟨e.toNat, by omega⟩
  have hel : en < g.e.length := by omega
  obtain ⟨eb, eo, rfl, heb, g1, g2⟩ := edges_at hg hel
  rw [Int.toNat_natCast] at hwa hwb
  have HE := Lib.hid E
  have HA := Lib.hid (fun n => beyond1_any ts ds D B1 B2 bm v (getE g.e en).a (w.drewN n) ((E.below (below_drewN' w n)).map) hwa (E.below (below_drewN' w n)).c1 (E.below (below_drewN' w n)).c2)
  have HB := Lib.hid (fun n => beyond1_any ts ds D B1 B2 bm v (getE g.e en).b (w.drewN n) ((E.below (below_drewN' w n)).map) hwb (E.below (below_drewN' w n)).c1 (E.below (below_drewN' w n)).c2)
  have HK := Lib.hid (show keepE g ts v d (en : Int) = (decide ((en : Int) = d.tdiv 2) || (metB ts v (getE g.e en).a || metB ts v (getE g.e en).b)) by unfold keepE; rw [Int.toNat_natCast])
  generalize (getE g.e en).a = xa at *
  generalize (getE g.e en).b = xb at *
  have h0 : (0 : Int) ≤ (en : Int) := by omega
  have h1 : (en : Int) < (g.e.length : Int) := by omega
  have hq := Int.tdiv_eq_ediv_of_nonneg (b := 2) hd.1
  have hq0 : 0 ≤ d.tdiv 2 := by rw [hq]; omega
  have hq1 : d.tdiv 2 ≤ 1000000 := by rw [hq]; omega
  clear hq hg E hwa hwb he
  by_cases t1 : (en : Int) = d.tdiv 2
  · have t1' : ((en : Int) == d.tdiv 2) = true := beq_iff_eq.2 t1
    have HN := Lib.hid (show keepE g ts v d (en : Int) = true by rw [HK.out, decide_eq_true t1]; rfl)
    clear t1 HK
    go_enter Try.func41, Try.ntmps41
    go_wp2_with fail
    go_quiet (fail)
    go_wp2
    go_ret
    exact ⟨ret_bool HN.out.symm, below_drewN' _ _⟩
  · have t1' : ((en : Int) == d.tdiv 2) = false := beq_eq_false_iff_ne.2 t1
    rw [decide_eq_false t1, Bool.false_or] at HK
    clear t1
    by_cases t2 : metB ts v xa = true
    · have HN := Lib.hid (show keepE g ts v d (en : Int) = true by rw [HK.out, t2]; rfl)
      rw [t2] at HA
      clear t2 HK
      go_enter Try.func41, Try.ntmps41
      go_wp2_with fail
      go_quiet ((go_at_call 38; first | with_reducible exact Calls.quiet_of_same (HA.out _) | with_reducible exact Calls.quiet_of_same (HB.out _)))
      go_wp2
      go_ret
      exact ⟨ret_bool HN.out.symm, below_drewN' _ _⟩
    · rw [Bool.eq_false_iff.2 t2] at HA HK
      have HN := Lib.hid (show keepE g ts v d (en : Int) = metB ts v xb by rw [HK.out]; rfl)
      clear t2 HK
      generalize metB ts v xb = r at *
      go_enter Try.func41, Try.ntmps41
      go_wp2_with fail
      go_quiet ((go_at_call 38; first | with_reducible exact Calls.quiet_of_same (HA.out _) | with_reducible exact Calls.quiet_of_same (HB.out _)))
      go_wp2
      go_ret
      exact ⟨ret_bool HN.out.symm, below_drewN' _ _⟩

set_option maxRecDepth 100000 in
set_option maxHeartbeats 2000000 in
theorem keepV_any (caps : Array Value) (q : Int → Bool) (v : Value) (l : List Int) (w : World) (h : Ints w v l) (hl : l.length ≤ 1000000)
    (H : ∀ wr x, x ∈ l → Below w.heap.size w wr → Calls Try.prog 40 (#[.int .i64 x] ++ caps) wr fun e w' => e = .returned (.bool (q x)) ∧ Below wr.heap.size wr w') :
    Calls Try.prog 39 #[v, .func (.func 40) #[] caps] w fun e w' => ∃ u, e = .returned u ∧ Below w.heap.size w w' ∧ Row w' w.heap.size u (l.filter q) := by
  have HI := Lib.hid h
  obtain ⟨A, cap, rfl⟩ := ints_form h
  have hnil : Sem.run Try.prog (binOp BinOp.eql 72 (.func (.func 40) #[] caps) .nilFunc) w = .ok (.bool false) w := by kernel_rfl
  have HH := Lib.hid H
  clear H h
  go_enter Try.func39, Try.ntmps39
  go_wp2
  go_loopw [5, 12] (fun o i wr => ∃ k : Nat, k ≤ l.length ∧ i = .int .i64 k ∧ Hid (Row wr w.heap.size o ((l.take k).filter q)) ∧ Hid (Below w.heap.size w wr)) (fun _ i _ => l.length - (Go.RowKit.intOf i).toNat)
  case atStart => exact ⟨0, Nat.zero_le _, rfl, Lib.hid (Row.nil _ _), Lib.hid (Below.refl _ _)⟩
  case round =>
    obtain ⟨k, hk, rfl, hown, hB⟩ := hrel
    obtain ⟨wq, hwq⟩ : ∃ z, z = wr := ⟨_, rfl⟩
    subst hwq
    by_cases hlt : k < l.length
    · obtain ⟨b, off, rfl, hb, hc⟩ := ints_at HI.out hlt
      have hck := (hB.out.cell (p := ⟨b, off + k, none⟩) hb).trans hc
      have HT := Lib.hid (take_succ_getI l k hlt)
      have hln : ((l.take k).filter q).length ≤ k := Nat.le_trans (List.length_filter_le _ _) (by simp; omega)
      have HC := Lib.hid (HH.out wq (getI l k) ((mem_getI _ _).2 ⟨k, hlt, rfl⟩) hB.out)
      have HLN := Lib.hid (show ((l.take k).filter q).length ≤ 4000000 by omega)
      have HS := Lib.hid hB.out.size
      by_cases hp : q (getI l k) = true
      · have HK := Lib.hid (show (l.take (k + 1)).filter q = (l.take k).filter q ++ [getI l k] by rw [HT.out, List.filter_append]; simp [hp])
        rw [hp] at HC
        clear hp hc hln
        generalize getI l k = x at *
        go_wp2_with fail
        refine HC.out.mono ?_
        rintro e w1 ⟨rfl, hb1⟩
        have HR1 := Lib.hid (hown.out.below hb1)
        have HS1 := Lib.hid (Nat.le_trans HS.out hb1.size)
        have HB1 := Lib.hid (hB.out.trans (hb1.mono HS.out))
        clear hb1 HC
        go_wp2_with (at_builtin; refine wpList_append1 rfl _ _ rfl rfl rfl HR1.out HS1.out HLN.out ?_)
        intro v2 w2 hO hB2
        have HO := Lib.hid hO
        have HB2 := Lib.hid (HB1.out.trans (hB2.mono (Nat.le_refl _)))
        obtain ⟨A2, c2, rfl⟩ := ints_form hO.ints
        clear hO hB2
        go_wp2
        go_roundw
        case rel => exact ⟨k + 1, by omega, by go_num, by rw [HK.out]; exact HO, HB2⟩
        case measure => simp [Go.RowKit.intOf]; omega
      · have HK := Lib.hid (show (l.take (k + 1)).filter q = (l.take k).filter q by rw [HT.out, List.filter_append]; simp [hp])
        rw [Bool.eq_false_iff.2 hp] at HC
        clear hp hc hln
        generalize getI l k = x at *
        go_wp2_with fail
        refine HC.out.mono ?_
        rintro e w1 ⟨rfl, hb1⟩
        have HR1 := Lib.hid (hown.out.below hb1)
        have HB1 := Lib.hid (hB.out.trans (hb1.mono HS.out))
        clear hb1 HC
        go_wp2
        go_roundw
        case rel => exact ⟨k + 1, by omega, by go_num, by rw [HK.out]; exact HR1, HB1⟩
        case measure => simp [Go.RowKit.intOf]; omega
    · obtain rfl : k = l.length := by omega
      have HT := Lib.hid (List.take_length (l := l))
      rw [HT.out] at hown
      go_wp2
      go_ret
      exact ⟨_, rfl, hB.out, hown.out⟩

set_option maxRecDepth 100000 in
set_option maxHeartbeats 2000000 in
theorem keepE_any (caps : Array Value) (q : Int → Bool) (v : Value) (l : List Int) (w : World) (h : Ints w v l) (hl : l.length ≤ 1000000)
    (H : ∀ wr x, x ∈ l → Below w.heap.size w wr → Calls Try.prog 41 (#[.int .i64 x] ++ caps) wr fun e w' => e = .returned (.bool (q x)) ∧ Below wr.heap.size wr w') :
    Calls Try.prog 39 #[v, .func (.func 41) #[] caps] w fun e w' => ∃ u, e = .returned u ∧ Below w.heap.size w w' ∧ Row w' w.heap.size u (l.filter q) := by
  have HI := Lib.hid h
  obtain ⟨A, cap, rfl⟩ := ints_form h
  have hnil : Sem.run Try.prog (binOp BinOp.eql 72 (.func (.func 41) #[] caps) .nilFunc) w = .ok (.bool false) w := by kernel_rfl
  have HH := Lib.hid H
  clear H h
  go_enter Try.func39, Try.ntmps39
  go_wp2
  go_loopw [5, 12] (fun o i wr => ∃ k : Nat, k ≤ l.length ∧ i = .int .i64 k ∧ Hid (Row wr w.heap.size o ((l.take k).filter q)) ∧ Hid (Below w.heap.size w wr)) (fun _ i _ => l.length - (Go.RowKit.intOf i).toNat)
  case atStart => exact ⟨0, Nat.zero_le _, rfl, Lib.hid (Row.nil _ _), Lib.hid (Below.refl _ _)⟩
  case round =>
    obtain ⟨k, hk, rfl, hown, hB⟩ := hrel
    obtain ⟨wq, hwq⟩ : ∃ z, z = wr := ⟨_, rfl⟩
    subst hwq
    by_cases hlt : k < l.length
    · obtain ⟨b, off, rfl, hb, hc⟩ := ints_at HI.out hlt
      have hck := (hB.out.cell (p := ⟨b, off + k, none⟩) hb).trans hc
      have HT := Lib.hid (take_succ_getI l k hlt)
      have hln : ((l.take k).filter q).length ≤ k := Nat.le_trans (List.length_filter_le _ _) (by simp; omega)
      have HC := Lib.hid (HH.out wq (getI l k) ((mem_getI _ _).2 ⟨k, hlt, rfl⟩) hB.out)
      have HLN := Lib.hid (show ((l.take k).filter q).length ≤ 4000000 by omega)
      have HS := Lib.hid hB.out.size
      by_cases hp : q (getI l k) = true
      · have HK := Lib.hid (show (l.take (k + 1)).filter q = (l.take k).filter q ++ [getI l k] by rw [HT.out, List.filter_append]; simp [hp])
        rw [hp] at HC
        clear hp hc hln
        generalize getI l k = x at *
        go_wp2_with fail
        refine HC.out.mono ?_
        rintro e w1 ⟨rfl, hb1⟩
        have HR1 := Lib.hid (hown.out.below hb1)
        have HS1 := Lib.hid (Nat.le_trans HS.out hb1.size)
        have HB1 := Lib.hid (hB.out.trans (hb1.mono HS.out))
        clear hb1 HC
        go_wp2_with (at_builtin; refine wpList_append1 rfl _ _ rfl rfl rfl HR1.out HS1.out HLN.out ?_)
        intro v2 w2 hO hB2
        have HO := Lib.hid hO
        have HB2 := Lib.hid (HB1.out.trans (hB2.mono (Nat.le_refl _)))
        obtain ⟨A2, c2, rfl⟩ := ints_form hO.ints
        clear hO hB2
        go_wp2
        go_roundw
        case rel => exact ⟨k + 1, by omega, by go_num, by rw [HK.out]; exact HO, HB2⟩
        case measure => simp [Go.RowKit.intOf]; omega
      · have HK := Lib.hid (show (l.take (k + 1)).filter q = (l.take k).filter q by rw [HT.out, List.filter_append]; simp [hp])
        rw [Bool.eq_false_iff.2 hp] at HC
        clear hp hc hln
        generalize getI l k = x at *
        go_wp2_with fail
        refine HC.out.mono ?_
        rintro e w1 ⟨rfl, hb1⟩
        have HR1 := Lib.hid (hown.out.below hb1)
        have HB1 := Lib.hid (hB.out.trans (hb1.mono HS.out))
        clear hb1 HC
        go_wp2
        go_roundw
        case rel => exact ⟨k + 1, by omega, by go_num, by rw [HK.out]; exact HR1, HB1⟩
        case measure => simp [Go.RowKit.intOf]; omega
    · obtain rfl : k = l.length := by omega
      have HT := Lib.hid (List.take_length (l := l))
      rw [HT.out] at hown
      go_wp2
      go_ret
      exact ⟨_, rfl, hB.out, hown.out⟩

theorem keepV_base (caps : Array Value) (q : Int → Bool) (v : Value) (l : List Int) (w : World) (base : Nat) (hb : base ≤ w.heap.size) (h : Ints w v l) (hl : l.length ≤ 1000000)
    (H : ∀ wr x, x ∈ l → Below w.heap.size w wr → Calls Try.prog 40 (#[.int .i64 x] ++ caps) wr fun e w' => e = .returned (.bool (q x)) ∧ Below wr.heap.size wr w') :
    Calls Try.prog 39 #[v, .func (.func 40) #[] caps] w fun e w' => ∃ u, e = .returned u ∧ Below w.heap.size w w' ∧ Row w' base u (l.filter q) :=
  (keepV_any caps q v l w h hl H).mono fun _ _ ⟨u, he, hB, hr⟩ => ⟨u, he, hB, own_base hr (fun g hg => Nat.le_trans hb (World.ownsRow.lt hr g hg).1)⟩
theorem keepE_base (caps : Array Value) (q : Int → Bool) (v : Value) (l : List Int) (w : World) (base : Nat) (hb : base ≤ w.heap.size) (h : Ints w v l) (hl : l.length ≤ 1000000)
    (H : ∀ wr x, x ∈ l → Below w.heap.size w wr → Calls Try.prog 41 (#[.int .i64 x] ++ caps) wr fun e w' => e = .returned (.bool (q x)) ∧ Below wr.heap.size wr w') :
    Calls Try.prog 39 #[v, .func (.func 41) #[] caps] w fun e w' => ∃ u, e = .returned u ∧ Below w.heap.size w w' ∧ Row w' base u (l.filter q) :=
  (keepE_any caps q v l w h hl H).mono fun _ _ ⟨u, he, hB, hr⟩ => ⟨u, he, hB, own_base hr (fun g hg => Nat.le_trans hb (World.ownsRow.lt hr g hg).1)⟩
end Go.Proofs.Ytjnohnbppkhbaaa
