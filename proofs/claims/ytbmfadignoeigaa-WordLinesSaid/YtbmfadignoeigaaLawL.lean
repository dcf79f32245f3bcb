/-
  WordLines: the lines of any text are the document's, however soon one stops: the law's call answers true at every input.
-/
import Derived.Test.YtbmfadignoeigaaWordK
import Derived.Test.YtbmfadignoeigaaLawS
import Derived.Test.YtbmfadignoeigaaRound
namespace Go.Proofs.Ytbmfadignoeigaa
open Go.RowKit Go.Shelf
attribute [local go_sem] Oper.semAt_some

theorem cell_far (w : World) (p a : Addr) (v : Value) (h : p.block ≠ a.block) : (w.setCell p v).cell? a = w.cell? a :=
  World.cell?_setCell_other w p a v (fun e => h (by rw [e]))

theorem range_last {α : Type} (f : α → Nat) (pre : List α) (x : α) (h : (pre ++ [x]).map f = List.range (pre ++ [x]).length) : f x = pre.length := by
  have e : ((pre ++ [x]).map f)[pre.length]? = (List.range (pre ++ [x]).length)[pre.length]? := by rw [h]
  simpa using e

def mkLine (s : ByteArray) (i : Nat) (h : i < (linesOf s).length) : LineNo s := ⟨i, h⟩

theorem linesTo_starts (s : ByteArray) : ∀ i, (linesTo s i).1.Pairwise (fun a b => a.1 < b.1) ∧ ∀ a ∈ (linesTo s i).1, a.1 < (linesTo s i).2
  | 0 => by simp [linesTo]
  | i + 1 => by
    obtain ⟨h1, h2⟩ := linesTo_starts s i
    have h3 := linesTo_le s i
    by_cases hb : endAt s i
    · rw [linesTo_end s i hb]
      refine ⟨?_, fun a ha => ?_⟩
      · rw [List.pairwise_append]
        refine ⟨h1, by simp, fun a ha b hb => ?_⟩
        simp only [List.mem_singleton] at hb
        subst hb
        exact h2 a ha
      · simp only [List.mem_append, List.mem_singleton] at ha
        rcases ha with ha | rfl
        · have := h2 a ha; simp; omega
        · simp; omega
    · rw [linesTo_other s i hb]; exact ⟨h1, h2⟩

theorem linesOf_starts (s : ByteArray) (i k : Nat) (x y : Nat × Nat) (hx : (linesOf s)[i]? = some x) (hy : (linesOf s)[k]? = some y) (h : i ≠ k) : x.1 ≠ y.1 := by
  have hp : (linesOf s).Pairwise (fun a b => a.1 < b.1) := by
    obtain ⟨h1, h2⟩ := linesTo_starts s s.size
    unfold linesOf
    split
    · rw [List.pairwise_append]
      refine ⟨h1, by simp, fun a ha b hb => ?_⟩
      simp only [List.mem_singleton] at hb
      subst hb
      exact h2 a ha
    · exact h1
  rw [List.pairwise_iff_getElem] at hp
  obtain ⟨hi, rfl⟩ := List.getElem?_eq_some_iff.1 hx
  obtain ⟨hk, rfl⟩ := List.getElem?_eq_some_iff.1 hy
  rcases Nat.lt_or_gt_of_ne h with hl | hl
  · have := hp i k hi hk hl; omega
  · have := hp k i hk hi hl; omega

set_option maxRecDepth 100000 in
set_option maxHeartbeats 4000000 in
theorem wordLines_any (s : ByteArray) (n : Int) (w : World) (hs : s.size ≤ maxLen) (hn0 : 0 ≤ n) (hn1 : n ≤ 255) :
    Calls Try.prog 7 #[.string s, .int .u8 n] w fun e w' => e = .returned (.bool true) ∧ Below w.heap.size w w' := by
  have hm := hs
  unfold maxLen at hm
  refine (callsIn_wide (n := 6)).1 ?_
  refine callsIn_of_wp_marks Try.func7 rfl trivial ?_ rfl
  simp only [Try.ntmps7, List.size_toArray, List.length_cons, List.length_nil, Nat.reduceAdd, Nat.reduceSub, Array.replicate_succ, Array.replicate_zero, List.push_toArray, List.append_toArray, List.nil_append, List.cons_append]
  -- the arguments' and the result's variables
  have hB0 : Below w.heap.size w (((w.alloc (.cells #[.string s] 9)).alloc (.cells #[.int .u8 n] 5)).alloc (.cells #[.bool false] 4)) :=
    (((Below.refl _ w).alloc (Nat.le_refl _) _).alloc (by simp) _).alloc (by simp; omega) _
  have d0 := old_cell (.cells #[.bool false] 4) (old_cell (.cells #[.int .u8 n] 5) (new_cell w (.string s) 9))
  have d1 := old_cell (.cells #[.bool false] 4) (new_cell (w.alloc (.cells #[.string s] 9)) (.int .u8 n) 5)
  have d2 := new_cell ((w.alloc (.cells #[.string s] 9)).alloc (.cells #[.int .u8 n] 5)) (.bool false) 4
  have f2 := new_thaw ((w.alloc (.cells #[.string s] 9)).alloc (.cells #[.int .u8 n] 5)) #[.bool false] 4 0
  simp only [World.size_alloc] at d0 d1 d2 f2
  have hS0 : (((w.alloc (.cells #[.string s] 9)).alloc (.cells #[.int .u8 n] 5)).alloc (.cells #[.bool false] 4)).heap.size ≥ w.heap.size + 3 := by simp
  gi_wp2_with fail
  generalize ((w.alloc (.cells #[.string s] 9)).alloc (.cells #[.int .u8 n] 5)).alloc (.cells #[.bool false] 4) = W0 at *
  refine ⟨trivial, (callsIn_wide.2 (awake_any W0)).mono ?_⟩
  rintro e w1 ⟨rfl, hB1⟩
  have hz1 := hB1.size
  have e0 := (hB1.cell (p := ⟨w.heap.size, 0, none⟩) (show w.heap.size < W0.heap.size by omega)).trans d0
  have e1 := (hB1.cell (p := ⟨w.heap.size + 1, 0, none⟩) (show w.heap.size + 1 < W0.heap.size by omega)).trans d1
  have e2 := (hB1.cell (p := ⟨w.heap.size + 1 + 1, 0, none⟩) (show w.heap.size + 1 + 1 < W0.heap.size by omega)).trans d2
  have g2 := (hB1.frozen (p := ⟨w.heap.size + 1 + 1, 0, none⟩) (show w.heap.size + 1 + 1 < W0.heap.size by omega)).trans f2
  by_cases hl : 3000 < s.size
  · gi_wp2_with fail
    refine ⟨trivial, (callsIn_wide.2 (awake_any w1)).mono ?_⟩
    rintro e w2 ⟨rfl, hB2⟩
    have h2 := (hB2.cell (p := ⟨w.heap.size + 1 + 1, 0, none⟩) (show w.heap.size + 1 + 1 < w1.heap.size by omega)).trans e2
    have k2 := (hB2.frozen (p := ⟨w.heap.size + 1 + 1, 0, none⟩) (show w.heap.size + 1 + 1 < w1.heap.size by omega)).trans g2
    gi_wp2
    refine ⟨.bool true, ?_, rfl, ?_⟩
    · have := World.cell?_setCell_same' w2 ⟨w.heap.size + 1 + 1, 0, none⟩ (.bool true) (by rw [h2]; rfl)
      simp [results, Try.f7, go_sem, this]
    · have hz2 := hB2.size
      exact ((hB0.trans (hB1.mono (by omega))).trans (hB2.mono (by omega))).setCell (p := ⟨w.heap.size + 1 + 1, 0, none⟩) (show w.heap.size ≤ w.heap.size + 1 + 1 by omega) _
  have HB1 := hB0.trans (hB1.mono (by omega))
  clear d0 d1 d2 f2 hB0 hB1
  gi_wp2_with fail
  refine ⟨trivial, (callsIn_wide.2 (refLines_any s w1 (by omega))).mono ?_⟩
  rintro e w2 ⟨v, rfl, hown, hB2⟩
  obtain ⟨_, A1, cap1, rfl, hcap1, hc1⟩ := Sl.of_own hown
  have hlow := fun g h => (hown.lt g h).1
  clear hown
  have hz2 := hB2.size
  have i0 := (hB2.cell (p := ⟨w.heap.size, 0, none⟩) (show w.heap.size < w1.heap.size by omega)).trans e0
  have i1 := (hB2.cell (p := ⟨w.heap.size + 1, 0, none⟩) (show w.heap.size + 1 < w1.heap.size by omega)).trans e1
  have i2 := (hB2.cell (p := ⟨w.heap.size + 1 + 1, 0, none⟩) (show w.heap.size + 1 + 1 < w1.heap.size by omega)).trans e2
  have j2 := (hB2.frozen (p := ⟨w.heap.size + 1 + 1, 0, none⟩) (show w.heap.size + 1 + 1 < w1.heap.size by omega)).trans g2
  have HB2 := HB1.trans (hB2.mono (by omega))
  clear e0 e1 e2 g2 HB1 hB2
  -- the document's lines, and the count, in variables of their own
  have k0 := old_cell (.cells #[.int .i64 0] 3) (old_cell (.cells #[.slice A1 (linesOf s).length cap1] 35) i0)
  have k1 := old_cell (.cells #[.int .i64 0] 3) (old_cell (.cells #[.slice A1 (linesOf s).length cap1] 35) i1)
  have k2 := old_cell (.cells #[.int .i64 0] 3) (old_cell (.cells #[.slice A1 (linesOf s).length cap1] 35) i2)
  have l2 := old_thaw (.cells #[.int .i64 0] 3) (a := ⟨w.heap.size + 1 + 1, 0, none⟩) (by simp; omega) (old_thaw (.cells #[.slice A1 (linesOf s).length cap1] 35) (show w.heap.size + 1 + 1 < w2.heap.size by omega) j2)
  have km := old_cell (.cells #[.int .i64 0] 3) (new_cell w2 (.slice A1 (linesOf s).length cap1) 35)
  have kn := new_cell (w2.alloc (.cells #[.slice A1 (linesOf s).length cap1] 35)) (.int .i64 0) 3
  have ln := new_thaw (w2.alloc (.cells #[.slice A1 (linesOf s).length cap1] 35)) #[.int .i64 0] 3 0
  have HB3 := (HB2.alloc (by omega) (.cells #[.slice A1 (linesOf s).length cap1] 35)).alloc (by simp; omega) (.cells #[.int .i64 0] 3)
  have hS3 : ((w2.alloc (.cells #[.slice A1 (linesOf s).length cap1] 35)).alloc (.cells #[.int .i64 0] 3)).heap.size ≥ w2.heap.size + 2 := by simp
  have hcc : ∀ (p : Addr) (u : Value), w2.cell? p = some u → ((w2.alloc (.cells #[.slice A1 (linesOf s).length cap1] 35)).alloc (.cells #[.int .i64 0] 3)).cell? p = some u := fun p u h => old_cell _ (old_cell _ h)
  simp only [World.size_alloc] at kn ln
  clear i0 i1 i2 j2 HB2
  gi_wp2_with fail
  generalize (w2.alloc (.cells #[.slice A1 (linesOf s).length cap1] 35)).alloc (.cells #[.int .i64 0] 3) = w3 at *
  refine ⟨trivial, (callsIn_wide.2 (lines_any s w3)).mono ?_⟩
  rintro e w' ⟨rfl, rfl⟩
  gi_wp2_with fail
  have hkb := new_cell w3 (.string s) 9
  have hBk := (Below.refl w3.heap.size w3).alloc (Nat.le_refl _) (.cells #[.string s] 9)
  have m0 := old_cell (.cells #[.string s] 9) k0
  have m1 := old_cell (.cells #[.string s] 9) k1
  have m2 := old_cell (.cells #[.string s] 9) k2
  have mm := old_cell (.cells #[.string s] 9) km
  have mn := old_cell (.cells #[.string s] 9) kn
  have p2 := old_thaw (.cells #[.string s] 9) (show w.heap.size + 1 + 1 < w3.heap.size by omega) l2
  have pn := old_thaw (.cells #[.string s] 9) (show w2.heap.size + 1 < w3.heap.size by omega) ln
  have HB4 := HB3.alloc (by omega) (.cells #[.string s] 9)
  have hS4 : (w3.alloc (.cells #[.string s] 9)).heap.size ≥ w3.heap.size + 1 := by simp
  have hcd : ∀ (p : Addr) (u : Value), w2.cell? p = some u → (w3.alloc (.cells #[.string s] 9)).cell? p = some u := fun p u h => old_cell _ (hcc p u h)
  clear k0 k1 k2 km kn l2 ln HB3 hcc
  generalize w3.alloc (.cells #[.string s] 9) = w4 at *
  have hlen := linesOf_le s
  refine wpIn_rangeFunc_ownF rfl (by omega) (gf := 28) (lb := #[.pointer (some ⟨w3.heap.size, 0, none⟩)]) rfl trivial (enters_of Try.func28 (by kernel_rfl) rfl)
    (lines_stops s (by omega) _ w3.heap.size w4 (by omega) (by omega) hkb)
    (fun h k => ⟨fun e => k.1 (h.1 e), h.2.trans k.2⟩)
    (fun W l o o' hl ho hc hw => ⟨fun e => (World.cell?_of_block (World.putObj_heap_other (show w3.heap.size ≠ l by omega))).trans e, KeepsWalks.putObj _ ho hw⟩)
    (Below.refl _ _) (fun _ => rfl)
    (fun pre W => (W.cell? ⟨w2.heap.size + 1, 0, none⟩ = some (.int .i64 (pre.length : Int)) ∧ W.frozen? ⟨w2.heap.size + 1, 0, none⟩ = false ∧ W.cell? ⟨w.heap.size + 1 + 1, 0, none⟩ = some (.bool false) ∧ W.frozen? ⟨w.heap.size + 1 + 1, 0, none⟩ = false ∧
        (∀ (p : Addr) (u : Value), w4.cell? p = some u → p.block ≠ w2.heap.size + 1 → p.block ≠ w.heap.size + 1 + 1 → W.cell? p = some u) ∧ pre.map (·.1) = List.range pre.length) ∧ Below w.heap.size w W)
    (fun c pre W => (c = .ret ∧ (pre.map (·.1) = List.range pre.length → W.cell? ⟨w.heap.size + 1 + 1, 0, none⟩ = some (.bool true))) ∧ Below w.heap.size w W)
    (OwnFrom.and (Own.from (fun pre A B row hs hg hr => ⟨cell_kept hs.1 hg hr, (frozen_kept hs.1 hg hr).trans hs.2.1, cell_kept hs.2.2.1 hg hr, (frozen_kept hs.2.2.1 hg hr).trans hs.2.2.2.1,
      fun p u h h1 h2 => cell_kept (hs.2.2.2.2.1 p u h h1 h2) hg hr, hs.2.2.2.2.2⟩) _) (ownFrom_below (Nat.le_refl _) (by omega)))
    (fun c => OwnFrom.and (Own.from (fun pre A B row hs hg hr => ⟨hs.1, fun h => cell_kept (hs.2 h) hg hr⟩) _) (ownFrom_below (Nat.le_refl _) (by omega)))
    ⟨⟨mn, pn, m2, p2, fun p u h _ _ => h, rfl⟩, HB4⟩
    (fun x => { tmps := #[.string s, .int .u8 n, .pointer (some ⟨w.heap.size, 0, none⟩), .pointer (some ⟨w.heap.size + 1, 0, none⟩), .pointer (some ⟨w.heap.size + 1 + 1, 0, none⟩), .pointer (some ⟨w2.heap.size, 0, none⟩), .pointer (some ⟨w2.heap.size + 1, 0, none⟩), .int .i64 (((linesOf s)[x.1]'x.2).1 : Int), .string (s.extract ((linesOf s)[x.1]'x.2).1 ((linesOf s)[x.1]'x.2).2), .bool true, .bool false, .bool false, .string s, .int .i64 s.size, .bool (decide (3000 < (s.size : Int))), .bool (decide (3000 < (s.size : Int))), undef, .string s, .slice A1 (linesOf s).length cap1, .string s, .func (.func 28) #[] #[.pointer (some ⟨w3.heap.size, 0, none⟩)], .int .i64 (((linesOf s)[x.1]'x.2).1 : Int), .string (s.extract ((linesOf s)[x.1]'x.2).1 ((linesOf s)[x.1]'x.2).2), undef, undef, undef, undef, undef, undef, undef, undef, undef, undef, undef, undef, undef, undef, undef, undef, undef, undef, undef, undef, undef, undef, undef, undef, undef, undef, undef, undef, undef, undef, undef, undef, undef, undef, undef, undef, undef, undef, undef, undef, undef, undef, undef], defers := [] }) ?assign ?body ?done ?stop
  case assign =>
    intro l x W K hK
    dsimp only [lineArgs]
    gi_wp2
    exact hK
  case body =>
    rintro l pre x W ⟨⟨hcn, hfn, hcr, hfr, hrest, hpre⟩, hBW⟩ hplen
    obtain ⟨i, hi⟩ := x
    obtain ⟨g, rfl, hg, hr1⟩ := hc1 (by omega)
    have hg2 := hlow g rfl
    clear hlow hc1
    obtain ⟨k, hk⟩ : ∃ k, pre.length = k := ⟨_, rfl⟩
    rw [hk] at hcn
    have HK := Lib.hid hk
    have HP := Lib.hid hpre
    have a0 := hrest ⟨w.heap.size, 0, none⟩ _ m0 (show w.heap.size ≠ w2.heap.size + 1 by omega) (show w.heap.size ≠ w.heap.size + 1 + 1 by omega)
    have a1 := hrest ⟨w.heap.size + 1, 0, none⟩ _ m1 (show w.heap.size + 1 ≠ w2.heap.size + 1 by omega) (show w.heap.size + 1 ≠ w.heap.size + 1 + 1 by omega)
    have am := hrest ⟨w2.heap.size, 0, none⟩ _ mm (show w2.heap.size ≠ w2.heap.size + 1 by omega) (show w2.heap.size ≠ w.heap.size + 1 + 1 by omega)
    have ag : ∀ (j : Nat) (u : Value), (cutCells (linesOf s))[j]? = some u → W.cell? ⟨g, j, none⟩ = some u := fun j u h =>
      hrest ⟨g, j, none⟩ u (hcd _ _ (hr1 j u h)) (show g ≠ w2.heap.size + 1 by omega) (show g ≠ w.heap.size + 1 + 1 by omega)
    have hL := hlen.1
    have hab := hlen.2 _ (List.getElem_mem hi)
    have HX := Lib.hid (List.getElem?_eq_getElem hi)
    have HRest := Lib.hid hrest
    clear hk hpre hr1 m0 m1 m2 mm mn hkb hcd hrest p2 pn
    dsimp only
    generalize (linesOf s)[i] = x at *
    obtain ⟨a, b⟩ := x
    dsimp only at hab ⊢
    by_cases hge : (linesOf s).length ≤ k
    · have HN := Lib.hid (show (pre ++ [mkLine s i hi]).map (·.1) = List.range (pre ++ [mkLine s i hi]).length → False from fun h => by
        have := range_last (·.1) pre (mkLine s i hi) h
        simp only [mkLine] at this
        have hk := HK.out
        omega)
      clear ag
      gi_wp2_with fail
      refine region_quiet_round rfl (by kernel_rfl) (by kernel_rfl) (by kernel_rfl) ?_
      repeat (gi_big_quiet_step (fail))
      refine wpQuietIn_nil ?_
      intro _ hw'
      obtain ⟨nq, hw''⟩ := hw'
      subst hw''
      gi_wp2
      exact ⟨(keepsOthers_drewN W _).trans (KeepsOthers.setCell _ _ _), ⟨rfl, fun h => (HN.out h).elim⟩, (below_drewN hBW _).setCell (p := ⟨w.heap.size + 1 + 1, 0, none⟩) (show w.heap.size ≤ w.heap.size + 1 + 1 by omega) _⟩
    have hkL : k < (linesOf s).length := by omega
    obtain ⟨⟨c, d⟩, hy⟩ : ∃ y, (linesOf s)[k]? = some y := ⟨_, List.getElem?_eq_getElem hkL⟩
    have q := flat2_get (fun y => .int .i64 (y.1 : Int)) (fun y => .int .i64 (y.2 : Int)) (linesOf s) k _ hy
    have b0 := ag _ _ q.1
    have b1 := ag _ _ q.2
    have HY := Lib.hid hy
    clear q ag hy
    simp only at b0 b1
    by_cases hik : i = k
    · obtain rfl : i = k := hik
      have hxy := HX.out.symm.trans HY.out
      simp only [Option.some.injEq, Prod.mk.injEq] at hxy
      obtain ⟨rfl, rfl⟩ := hxy
      have hcut := cut_run (P := Try.prog) Try.underlying9 s a b hab.1 hab.2
      have HR2 := Lib.hid (range_snoc (·.1) pre (mkLine s i hi) pre.length HP.out HK.out.symm)
      gi_wp2_with fail
      refine region_quiet_round rfl (by kernel_rfl) (by kernel_rfl) (by kernel_rfl) ?_
      repeat (gi_big_quiet_step (fail))
      refine wpQuietIn_nil ?_
      intro _ hw'
      obtain ⟨nq, hw''⟩ := hw'
      subst hw''
      gi_wp2
      · refine ⟨((keepsOthers_drewN W _).trans (KeepsOthers.setCell _ _ _)).trans (KeepsOthers.setCell _ _ _), ⟨rfl, fun _ => ?_⟩, ((below_drewN hBW _).setCell (p := ⟨w2.heap.size + 1, 0, none⟩) (show w.heap.size ≤ w2.heap.size + 1 by omega) _).setCell (p := ⟨w.heap.size + 1 + 1, 0, none⟩) (show w.heap.size ≤ w.heap.size + 1 + 1 by omega) _⟩
        refine World.cell?_setCell_same' _ _ _ ?_
        rw [cell_far _ _ _ _ (show w2.heap.size + 1 ≠ w.heap.size + 1 + 1 by omega), World.cell?_drewN, hcr]
        rfl
      all_goals
        refine ⟨(keepsOthers_drewN W _).trans (KeepsOthers.setCell _ _ _), ⟨fun h => ?_, ((keepsOthers_drewN W _).trans (KeepsOthers.setCell _ _ _)).walks⟩, ⟨?_, (World.frozen?_setCell _ _ _ _).trans hfn, ?_, (World.frozen?_setCell _ _ _ _).trans hfr, fun p u h h1 h2 => ?_, ?_⟩, (below_drewN hBW _).setCell (p := ⟨w2.heap.size + 1, 0, none⟩) (show w.heap.size ≤ w2.heap.size + 1 by omega) _⟩
        · rw [cell_far _ _ _ _ (show w2.heap.size + 1 ≠ w3.heap.size by omega)]; exact h
        · rw [World.cell?_setCell_same' _ _ _ (by rw [World.cell?_drewN, hcn]; rfl), List.length_append, HK.out]; rfl
        · rw [cell_far _ _ _ _ (show w2.heap.size + 1 ≠ w.heap.size + 1 + 1 by omega)]; exact hcr
        · rw [cell_far _ _ _ _ (Ne.symm h1)]; exact HRest.out p u h h1 h2
        · rw [List.length_append]; exact HR2.out
    · have HN := Lib.hid (show (pre ++ [mkLine s i hi]).map (·.1) = List.range (pre ++ [mkLine s i hi]).length → False from fun h => by
        have := range_last (·.1) pre (mkLine s i hi) h
        simp only [mkLine] at this
        have hk := HK.out
        omega)
      have hac : ((a : Int) != c) = true := by
        have := linesOf_starts s i k _ _ HX.out HY.out hik
        simp; omega
      gi_wp2_with fail
      refine region_quiet_round rfl (by kernel_rfl) (by kernel_rfl) (by kernel_rfl) ?_
      repeat (gi_big_quiet_step (fail))
      refine wpQuietIn_nil ?_
      intro _ hw'
      obtain ⟨nq, hw''⟩ := hw'
      subst hw''
      gi_wp2
      exact ⟨(keepsOthers_drewN W _).trans (KeepsOthers.setCell _ _ _), ⟨rfl, fun h => (HN.out h).elim⟩, (below_drewN hBW _).setCell (p := ⟨w.heap.size + 1 + 1, 0, none⟩) (show w.heap.size ≤ w.heap.size + 1 + 1 by omega) _⟩
  case done =>
    rintro D ys W hD hys ⟨⟨hcn, hfn, hcr, hfr, hrest, hpre⟩, hBW⟩ hK
    have hyl : ys.length = (linesOf s).length := by have := congrArg List.length hys; simpa using this
    rw [hyl] at hcn
    have am := hrest ⟨w2.heap.size, 0, none⟩ _ mm (show w2.heap.size ≠ w2.heap.size + 1 by omega) (show w2.heap.size ≠ w.heap.size + 1 + 1 by omega)
    clear hrest hpre hys hyl m0 m1 m2 mm mn hkb hcd p2 pn
    gi_wp2
    have hK' := (KeepsOthers.setCell W ⟨w.heap.size + 1 + 1, 0, none⟩ (.bool true)).same D _ hK rfl
    have hc5 := World.cell?_setCell_same' W ⟨w.heap.size + 1 + 1, 0, none⟩ (.bool true) (by rw [hcr]; rfl)
    have hB5 := hBW.setCell (p := ⟨w.heap.size + 1 + 1, 0, none⟩) (show w.heap.size ≤ w.heap.size + 1 + 1 by omega) (.bool true)
    refine ⟨by simp, .inl ⟨_, _, rfl, run_takeDeferred hK', ?_⟩⟩
    have hc6 := cell_kept hc5 (grownBy_putObj' _ D (.deferred none)) (fun r e => by cases e; exact ⟨_, hK', rfl⟩)
    refine ⟨.bool true, ?_, rfl, hB5.trans (belowK_b (w := w) (Nat.le_refl _) _ D _ _ (by omega) hK' rfl rfl)⟩
    simp [results, Try.f7, go_sem, hc6]
  case stop =>
    rintro D c pre W hD hpre ⟨⟨rfl, hres⟩, hBW⟩ hK
    have hc5 := hres hpre
    gi_wp2
    refine ⟨by simp, .inl ⟨_, _, rfl, run_takeDeferred hK, ?_⟩⟩
    have hc6 := cell_kept hc5 (grownBy_putObj' _ D (.deferred none)) (fun r e => by cases e; exact ⟨_, hK, rfl⟩)
    refine ⟨.bool true, ?_, rfl, hBW.trans (belowK_b (w := w) (Nat.le_refl _) W D _ _ (by omega) hK rfl rfl)⟩
    simp [results, Try.f7, go_sem, hc6]

end Go.Proofs.Ytbmfadignoeigaa
