/-
  WkL, WkO, WkQ, in one text.
-/
import Derived.Test.YtmbpmepoaonleaaGreatM17
import Derived.Test.YtmbpmepoaonleaaGreatM18
/-! The program's Pieces: what it fills. -/
namespace Go.Proofs.YtmbpmepoaonleaaGreat
open Go.RowKit Go.Maps

variable {g : Gph} {p : Prt}

/-- What the rest of the call may change: the map, and what is new. -/
def New (bm n : Nat) (k : Nat) : Prop := k = bm ∨ n ≤ k

theorem ints_keep {w w' : World} {bm : Nat} {D : DataW Unit} {ts : List Int} {ds : List Nat} {v : Value} {l : List Int} (h : Ints w v l) (hm : Mp w bm D ts ds) (ho : Only (New bm w.heap.size) w w') : Ints w' v l := by
  obtain ⟨A, cap, rfl, h1, h2, h3⟩ := h
  refine ⟨A, cap, rfl, h1, h2, fun h0 => ?_⟩
  obtain ⟨b, off, hA, hb, hc⟩ := h3 h0
  have hn : ¬ New bm w.heap.size b := fun hN => by
    rcases hN with rfl | hN
    · exact hm.not_cell (hc 0 h0)
    · omega
  exact ⟨b, off, hA, Nat.lt_of_lt_of_le hb ho.size, fun j hj => ho.cell (a := ⟨b, off + j, none⟩) (hc j hj) hn⟩
theorem cell_keep {w w' : World} {bm : Nat} {D : DataW Unit} {ts : List Int} {ds : List Nat} {b i : Nat} {u : Value} (hc : w.cell? ⟨b, i, none⟩ = some u) (hm : Mp w bm D ts ds) (ho : Only (New bm w.heap.size) w w') : w'.cell? ⟨b, i, none⟩ = some u := by
  have hb := World.block_lt_of_cell? w _ hc
  refine ho.cell hc (fun hN => ?_)
  rcases hN with h | hN
  · simp only at h
    subst h
    exact hm.not_cell hc
  · exact absurd hb (by simp only at hN ⊢; omega)

def flatV (us : List Value) : List Value := us.flatMap fun u => [u, .slice none 0 0]
theorem flatV_get : ∀ (l : List Value) (j : Nat), j < l.length → (flatV l)[j * 2]? = some (getV l j) ∧ (flatV l)[j * 2 + 1]? = some (.slice none 0 0)
  | [], j, h => absurd h (Nat.not_lt_zero _)
  | e :: l, 0, _ => ⟨rfl, rfl⟩
  | e :: l, j + 1, h => by
    have := flatV_get l j (by simpa using h)
    have e1 : (j + 1) * 2 = j * 2 + 1 + 1 := by omega
    have e2 : getV (e :: l) (j + 1) = getV l j := rfl
    rw [e1, e2]
    exact this

/-- Which group a thing is in, as the map tells it: of the first k groups, and of m things of the next one. -/
structure Placed (L : List (List Int)) (k m : Nat) (ts : List Int) (ds : List Nat) : Prop where
  all : ts = (L.take k).flatten ++ (getL L k).take m
  at_ : ∀ j, j < ts.length → ds.getD j 0 < L.length ∧ getI ts j ∈ getL L (ds.getD j 0)
theorem Placed.start (L : List (List Int)) : Placed L 0 0 [] [] := ⟨by simp, fun j h => absurd h (Nat.not_lt_zero _)⟩
theorem take_getL (L : List (List Int)) (k : Nat) (h : k < L.length) : L.take (k + 1) = L.take k ++ [getL L k] := by
  rw [List.take_add_one]
  unfold getL
  simp [h]
theorem Placed.next {L : List (List Int)} {k m : Nat} {ts : List Int} {ds : List Nat} (h : Placed L k m ts ds) (hk : k < L.length) (hm : (getL L k).length ≤ m) : Placed L (k + 1) 0 ts ds := by
  refine ⟨?_, h.at_⟩
  rw [h.all, take_getL L k hk, List.flatten_append, List.take_of_length_le hm]
  simp
theorem Placed.put {L : List (List Int)} {k m : Nat} {ts : List Int} {ds : List Nat} (h : Placed L k m ts ds) (hk : k < L.length) (hm : m < (getL L k).length) (hl : ds.length = ts.length) : Placed L k (m + 1) (ts ++ [getI (getL L k) m]) (ds ++ [k]) := by
  refine ⟨?_, fun j hj => ?_⟩
  · rw [h.all, take_succ_getI _ _ hm, List.append_assoc]
  · rw [List.length_append] at hj
    simp at hj
    rcases Nat.lt_or_ge j ts.length with hlt | hge
    · rw [getI_app_left _ _ _ hlt, getD_app_left _ _ _ (by rw [hl]; exact hlt)]
      exact h.at_ j hlt
    · obtain rfl : j = ts.length := by omega
      rw [show getI (ts ++ [getI (getL L k) m]) ts.length = getI (getL L k) m from getI_app_right ts [getI (getL L k) m] 0, ← hl, getD_snoc]
      exact ⟨hk, (mem_getI _ _).2 ⟨m, hm, rfl⟩⟩
theorem getL_mem {L : List (List Int)} {k : Nat} (h : k < L.length) : getL L k ∈ L := by
  unfold getL
  rw [List.getD_eq_getElem?_getD, List.getElem?_eq_getElem h]
  exact List.getElem_mem h
theorem getL_of {L : List (List Int)} {k : Nat} (h : k < L.length) : getL L k = L[k] := by
  unfold getL
  rw [List.getD_eq_getElem?_getD, List.getElem?_eq_getElem h]
  rfl
theorem apart_at {L : List (List Int)} (h : L.Pairwise fun V W => ∀ x ∈ V, x ∉ W) {i j : Nat} (hi : i < L.length) (hj : j < L.length) {x : Int} (hx : x ∈ getL L i) (hy : x ∈ getL L j) : i = j := by
  rw [getL_of hi] at hx
  rw [getL_of hj] at hy
  rcases Nat.lt_trichotomy i j with hl | hl | hl
  · exact absurd hy (List.pairwise_iff_getElem.1 h i j hi hj hl x hx)
  · exact hl
  · exact absurd hx (List.pairwise_iff_getElem.1 h j i hj hi hl x hy)
theorem Placed.fresh {L : List (List Int)} {k m : Nat} {ts : List Int} {ds : List Nat} (h : Placed L k m ts ds) (hk : k < L.length) (hm : m < (getL L k).length) (hap : L.Pairwise fun V W => ∀ x ∈ V, x ∉ W) (hn : ∀ V ∈ L, Up V) : getI (getL L k) m ∉ ts := by
  intro hx
  rw [h.all, List.mem_append] at hx
  have hin : getI (getL L k) m ∈ getL L k := (mem_getI _ _).2 ⟨m, hm, rfl⟩
  rcases hx with hx | hx
  · obtain ⟨V, hV, hxV⟩ := List.mem_flatten.1 hx
    obtain ⟨i, hi, e⟩ := List.mem_iff_getElem.1 hV
    rw [List.length_take] at hi
    have e2 : getL L i = V := by rw [getL_of (by omega), ← e]; simp
    have := apart_at hap (i := i) (j := k) (by omega) hk (by rw [e2]; exact hxV) hin
    omega
  · have hup := hn _ (getL_mem hk)
    rw [List.mem_iff_getElem] at hx
    obtain ⟨i, hi, e⟩ := hx
    rw [List.length_take] at hi
    rw [List.getElem_take, getI_of _ _ hm] at e
    have := List.pairwise_iff_getElem.1 hup i m (by omega) hm (by omega)
    omega
theorem Placed.who {L : List (List Int)} {k m : Nat} {ts : List Int} {ds : List Nat} (h : Placed L k m ts ds) (hk : k = L.length) {x : Int} {i : Nat} (hi : i < L.length) (hx : x ∈ getL L i) (hap : L.Pairwise fun V W => ∀ x ∈ V, x ∉ W) :
    ∃ j, j < ts.length ∧ getI ts j = x ∧ ds.getD j 0 = i := by
  have hm : x ∈ ts := by
    rw [h.all, hk, List.take_length, List.mem_append]
    exact .inl (List.mem_flatten.2 ⟨_, getL_mem hi, hx⟩)
  obtain ⟨j, hj, e⟩ := (mem_getI _ _).1 hm
  have := h.at_ j hj
  rw [e] at this
  exact ⟨j, hj, e, apart_at hap this.1 hi this.2 hx⟩

/-- Parts, as their edges are put in. -/
structure Pcs (w : World) (base gb N : Nat) (us es : Nat → Value) (ls : Nat → List Int) : Prop where
  cv : ∀ j, j < N → w.cell? ⟨gb, j * 2, none⟩ = some (us j)
  ce : ∀ j, j < N → w.cell? ⟨gb, j * 2 + 1, none⟩ = some (es j)
  thaw : ∀ j, w.frozen? ⟨gb, j, none⟩ = false
  at_ : base ≤ gb
  lt : gb < w.heap.size
  row : ∀ j, j < N → Row w base (es j) (ls j)
  apart : ∀ i j, i < N → j < N → i ≠ j → (es i).ownBlock = none ∨ (es i).ownBlock ≠ (es j).ownBlock
  shun : ∀ j, j < N → (es j).ownBlock ≠ some gb

section
variable {w w1 : World} {base gb N : Nat} {us es : Nat → Value} {ls : Nat → List Int}
theorem Pcs.below (M : Pcs w base gb N us es ls) (hb : Below w.heap.size w w1) : Pcs w1 base gb N us es ls :=
  ⟨fun j hj => (hb.cell (p := ⟨gb, j * 2, none⟩) M.lt).trans (M.cv j hj), fun j hj => (hb.cell (p := ⟨gb, j * 2 + 1, none⟩) M.lt).trans (M.ce j hj), fun j => (hb.frozen (p := ⟨gb, j, none⟩) M.lt).trans (M.thaw j), M.at_, Nat.lt_of_lt_of_le M.lt hb.size,
    fun j hj => (M.row j hj).below hb, M.apart, M.shun⟩
theorem Pcs.start {cap : Nat} {vl : List Value} (h : w.ownsRow base 27 2 (.slice (some ⟨gb, 0, none⟩) N cap) N (flatV vl)) (hv : vl.length = N) : Pcs w base gb N (getV vl) (fun _ => .slice none 0 0) (fun _ => []) := by
  rcases h.2 with ⟨e, _⟩ | ⟨g', cap', cur, e, hb, hg, r1, r2, r3, r4⟩
  · cases e
  · cases e
    have hcell : ∀ i, i < N * 2 → w.cell? ⟨gb, i, none⟩ = (flatV vl)[i]? := fun i hi => by
      rw [cell_of_row w gb i cur _ (0, 0) hg, ← r4, List.getElem?_take, if_pos hi, Array.getElem?_toList]
    refine ⟨fun j hj => ?_, fun j hj => ?_, fun j => frozen_of_row w gb j cur _ hg, hb, (Array.getElem?_eq_some_iff.1 hg).1, fun _ _ => Row.nil _ _, fun _ _ _ _ _ => .inl rfl, fun _ _ h => by cases h⟩
    · rw [hcell _ (by omega)]
      exact (flatV_get vl j (by omega)).1
    · rw [hcell _ (by omega)]
      exact (flatV_get vl j (by omega)).2
/-- An edge more in one part. -/
def moreI (ls : Nat → List Int) (j : Nat) (x : Int) (i : Nat) : List Int := if i = j then ls i ++ [x] else ls i
theorem Pcs.put (M : Pcs w base gb N us es ls) {j : Nat} (hj : j < N) {u' : Value} {x : Int} (hg : w.grownBy w1 (es j).ownBlock) (ho : Row w1 base u' (ls j ++ [x])) (hat : u'.ownBlock = (es j).ownBlock ∨ u'.ownBlock = some w.heap.size) :
    Pcs (w1.setCell ⟨gb, j * 2 + 1, none⟩ u') base gb N us (setF es j u') (moreI ls j x) ∧ w1.cell? ⟨gb, j * 2 + 1, none⟩ = some (es j) ∧ w1.frozen? ⟨gb, j * 2 + 1, none⟩ = false ∧ Below base w1 (w1.setCell ⟨gb, j * 2 + 1, none⟩ u') := by
  have hgb : w1.heap[gb]? = w.heap[gb]? := hg.block gb M.lt (fun e => M.shun j hj e.symm)
  have hcv : ∀ i, i < N → w1.cell? ⟨gb, i * 2, none⟩ = some (us i) := fun i hi => (World.cell?_of_block (a := ⟨gb, i * 2, none⟩) hgb).trans (M.cv i hi)
  have hce : ∀ i, i < N → w1.cell? ⟨gb, i * 2 + 1, none⟩ = some (es i) := fun i hi => (World.cell?_of_block (a := ⟨gb, i * 2 + 1, none⟩) hgb).trans (M.ce i hi)
  have hf1 : ∀ i, w1.frozen? ⟨gb, i, none⟩ = false := fun i => (World.frozen?_of_block (a := ⟨gb, i, none⟩) hgb).trans (M.thaw i)
  have hoth : ∀ k, k ≠ gb → (w1.setCell ⟨gb, j * 2 + 1, none⟩ u').heap[k]? = w1.heap[k]? := fun k hk => Below.heap_setCell _ _ _ _ hk
  have hs' : u'.ownBlock ≠ some gb := by
    rcases hat with e | e
    · rw [e]; exact M.shun j hj
    · rw [e]; intro h; have := M.lt; cases h; omega
  have hold : ∀ i, i < N → i ≠ j → (es i).ownBlock = none ∨ (es i).ownBlock ≠ u'.ownBlock := fun i hi hne => by
    rcases hat with e | e
    · rw [e]; exact M.apart i j hi hj hne
    · right; rw [e]; intro h
      have := (World.ownsRow.lt (M.row i hi) _ h).2
      omega
  refine ⟨⟨fun i hi => ?_, fun i hi => ?_, fun i => ?_, M.at_, ?_, fun i hi => ?_, fun i k hi hk hne => ?_, fun i hi => ?_⟩, hce j hj, hf1 _, (Below.refl base w1).setCell (p := ⟨gb, j * 2 + 1, none⟩) M.at_ _⟩
  · rw [World.cell?_setCell_other _ _ _ _ (fun h => by simp only [Addr.mk.injEq] at h; omega)]
    exact hcv i hi
  · unfold setF
    by_cases e : i = j
    · subst e
      rw [if_pos rfl]
      exact World.cell?_setCell_same _ _ _ (hce i hi)
    · rw [if_neg e, World.cell?_setCell_other _ _ _ _ (fun h => by simp only [Addr.mk.injEq] at h; omega)]
      exact hce i hi
  · rw [World.frozen?_setCell]
    exact hf1 i
  · have := M.lt
    have := hg.size
    simp [World.setCell]
    omega
  · unfold setF moreI
    by_cases e : i = j
    · subst e
      rw [if_pos rfl, if_pos rfl]
      exact own_block ho (fun g hg' => hoth g (fun e => hs' (by rw [hg', e])))
    · rw [if_neg e, if_neg e]
      refine own_block (M.row i hi) (fun g hg' => (hoth g (fun e2 => M.shun i hi (by rw [hg', e2]))).trans (hg.block g (World.ownsRow.lt (M.row i hi) g hg').2 (fun e2 => ?_)))
      rcases M.apart i j hi hj e with h | h
      · rw [h] at hg'; cases hg'
      · exact h (by rw [hg', e2])
  · unfold setF
    by_cases e1 : i = j
    · rw [if_pos e1, if_neg (by omega)]
      rcases hold k hk (by omega) with h | h
      · by_cases hz : u'.ownBlock = none
        · exact .inl hz
        · exact .inr (fun h2 => hz (h2.trans h))
      · exact .inr (fun h2 => h h2.symm)
    · by_cases e2 : k = j
      · rw [if_neg e1, if_pos e2]
        exact hold i hi e1
      · rw [if_neg e1, if_neg e2]
        exact M.apart i k hi hk hne
  · unfold setF
    by_cases e1 : i = j
    · rw [if_pos e1]; exact hs'
    · rw [if_neg e1]; exact M.shun i hi
end
end Go.Proofs.YtmbpmepoaonleaaGreat

/-! The program's Pieces. -/
namespace Go.Proofs.YtmbpmepoaonleaaGreat
open Go.RowKit Go.Maps

variable {g : Gph} {p : Prt}

theorem Tryz.infoPart : (Tryz.prog.info? 27).map (fun i => (i.zero, i.size, i.bytes)) = some (some (.agg #[.slice none 0 0, .slice none 0 0]), 2, 48) := by kernel_rfl

/-- What Pieces answers of a right part. -/
def PiecesOf (g : Gph) (p : Prt) (w : World) (e : Ending) (w' : World) : Prop :=
  ∃ A cap, e = .returned (.tuple #[.slice A (pcs g p).length cap, .int .i64 0]) ∧ Below w.heap.size w w' ∧
    ∀ j (hj : j < (pcs g p).length), ∃ gb uv ue, A = some ⟨gb, 0, none⟩ ∧ gb < w'.heap.size ∧ w'.cell? ⟨gb, j * 2, none⟩ = some uv ∧ w'.cell? ⟨gb, j * 2 + 1, none⟩ = some ue ∧ Ints w' uv ((pcs g p)[j]).v ∧ Ints w' ue ((pcs g p)[j]).e

set_option maxRecDepth 100000 in
set_option maxHeartbeats 8000000 in
theorem pieces_yes (v u : Value) (g : Gph) (p : Prt) (w : World) (h : Gr w v g) (h' : Pt w u p) (hl : g.e.length ≤ 100000) (hp1 : p.v.length ≤ 100000) (hp2 : p.e.length ≤ 100000) (hpp : perr g p = 0) :
    Calls Tryz.prog 43 #[v, u] w (PiecesOf g p w) := by
  have hmm := @run_makeMap Tryz.prog
  have HPP := Lib.hid hpp
  have HG := Lib.hid h
  have HP := Lib.hid h'
  obtain ⟨ve, rfl, h1⟩ := h
  obtain ⟨vv, vp, rfl, h2, h3⟩ := h'
  obtain ⟨Ae, ce, rfl⟩ := h1.form
  obtain ⟨Av, cv, rfl⟩ := ints_form h2
  obtain ⟨Ap, cp, rfl⟩ := ints_form h3
  obtain ⟨b1, b2, hm⟩ := two_boxes w (.int .i64 g.n) (.slice Ae g.e.length ce) (.slice Av p.v.length cv) (.slice Ap p.e.length cp) 24 27
  have HB1 := Lib.hid b1
  have HB2 := Lib.hid b2
  have HM := Lib.hid hm
  have HE1 := Lib.hid h1
  have HE3 := Lib.hid h3
  have c0 := b1.c0
  have c1 := b1.c1
  have d0 := b2.c0
  have d1 := b2.c1
  have HR := Lib.hid (rightPart_any _ _ g p _ (HG.out.below HM.out) (HP.out.below HM.out) (by omega) (by omega) (by omega))
  rw [hpp] at HR
  obtain ⟨i0, hi, hz0, hz1, hz2⟩ := info_parts Tryz.infoInt
  obtain ⟨j0, hj, hy0, hy1, hy2⟩ := info_parts Tryz.infoPart
  clear b1 b2 hm h1 h2 h3 hpp
  go_enter Tryz.func43, Tryz.ntmps43
  go_wp2_with fail
  generalize (w.alloc (.cells #[.int .i64 g.n, .slice Ae g.e.length ce] 24)).alloc (.cells #[.slice Av p.v.length cv, .slice Ap p.e.length cp] 27) = w0 at *
  refine HR.out.mono ?_
  rintro e w1 ⟨rfl, hb⟩
  have hba := below_alloc (w := w1) (.map #[] 0)
  have hb1 := hb.trans (hba.mono hb.size)
  have HBM := Lib.hid (HM.out.trans (hb1.mono HM.out.size))
  have X0 := Lib.hid (HB1.out.below hb1)
  have X1 := Lib.hid (HB2.out.below hb1)
  have HMS := Lib.hid (Mp.start w1)
  have HSZ := Lib.hid (show (w1.alloc (.map #[] 0)).heap.size = w1.heap.size + 1 by simp)
  have HX0S := Lib.hid (show w.heap.size + 2 ≤ w1.heap.size by have := HB2.out.lt; have := hb.size; omega)
  have HW1 := Lib.hid (HM.out.trans (hb.mono HM.out.size))
  have c0' := X0.out.c0
  have c1' := X0.out.c1
  have d0' := X1.out.c0
  have d1' := X1.out.c1
  have HT := Lib.hid (together_any _ _ g p _ (HG.out.below HBM.out) (HP.out.below HBM.out) HPP.out hp1 hp2)
  clear hb hba hb1 HR c0 c1 d0 d1
  go_wp2_with fail
  refine HT.out.mono ?_
  rintro e w2 ⟨sb, F, rfl, hH, hb2, hF⟩
  have htl : (tog g p).ts.length ≤ 1000000 := by
    rw [show (tog g p).ts.length = p.v.length from tog_len HPP.out (Nat.le_refl _)]
    omega
  have HGR := Lib.hid (groups_any w2 F sb (tog g p) hH htl)
  have HM2 := Lib.hid (HMS.out.below hb2)
  have HBB2 := Lib.hid hb2
  have HFF := Lib.hid hF
  clear hH hb2 hF HT c0' c1' d0' d1' HMS htl
  go_wp2_with fail
  refine HGR.out.mono ?_
  rintro e w3 ⟨gv, rfl, hL, hK⟩
  have hbm3 : ¬ F w1.heap.size := fun h => by have := HFF.out _ h; rw [HSZ.out] at this; omega
  have HM3 := Lib.hid (HM2.out.only hK.2 hbm3)
  have HB3 := Lib.hid (HBB2.out.trans (hK.2.below HBB2.out.size HFF.out))
  have X03 := Lib.hid (X0.out.below HB3.out)
  have X13 := Lib.hid (X1.out.below HB3.out)
  have HW3 := Lib.hid (HBM.out.trans (HB3.out.mono HBM.out.size))
  obtain ⟨Ag, cg, rfl, _, _, hgr⟩ := hL
  have HGL := Lib.hid (show ∀ j, j < (tog g p).groups.length → ∃ b u, Ag = some ⟨b, 0, none⟩ ∧ w3.cell? ⟨b, j, none⟩ = some u ∧ Ints w3 u (getL (tog g p).groups j) from fun j hj => by
    obtain ⟨b, hA, _, _, hc⟩ := hgr (by omega)
    obtain ⟨u, h1, h2, _⟩ := hc j hj
    exact ⟨b, u, hA, h1, h2⟩)
  have HAP := Lib.hid (tog_all HPP.out).apart
  have HUP := Lib.hid (show ∀ V ∈ (tog g p).groups, Up V from fun V hV => (piece_group HPP.out hV).1)
  have HIN := Lib.hid (show ∀ j, j < (tog g p).groups.length → ∀ x ∈ getL (tog g p).groups j, x ∈ p.v from fun j hj x hx => by
    obtain ⟨_, z, _, hz⟩ := piece_group HPP.out (getL_mem hj)
    exact ((hz x).1 hx).1)
  have HLEN := Lib.hid (show ∀ j, j < (tog g p).groups.length → (getL (tog g p).groups j).length ≤ p.v.length from fun j hj =>
    once_len (List.Pairwise.imp (fun {a b} (hab : a < b) => (by omega : a ≠ b)) (HUP.out _ (getL_mem hj))) (HIN.out j hj))
  have HPC := Lib.hid (show pcs g p = (tog g p).groups.map (pieceOf g p) from rfl)
  have HCV := Lib.hid (show ∀ x ∈ p.v, ∃ j, j < (tog g p).groups.length ∧ x ∈ getL (tog g p).groups j from fun x hx => by
    obtain ⟨V, hV, hxV⟩ := (tog_all HPP.out).covers hx
    obtain ⟨j, hj, rfl⟩ := List.mem_iff_getElem.1 hV
    exact ⟨j, hj, by rw [getL_of hj]; exact hxV⟩)
  have hgl : (tog g p).groups.length ≤ p.v.length := by
    rw [(tog_all HPP.out).heads]
    have := heads_le (tog g p).gr
    rw [(tog_all HPP.out).2.1.len, (tog_all HPP.out).1] at this
    exact this
  generalize (tog g p).groups = L at *
  clear hK hbm3 hgr HGR HM2 HBB2 HFF
  go_wp2
  go_loopw [7, 28] (fun pv iv wr => ∃ (k : Nat) (vl : List Value) (D : DataW Unit) (ts : List Int) (ds : List Nat), k ≤ L.length ∧ iv = .int .i64 k ∧ vl.length = k ∧ Hid (wr.ownsRow w3.heap.size 27 2 pv k (flatV vl)) ∧
    Hid (∀ j, j < k → Ints w3 (getV vl j) (getL L j)) ∧ Hid (Mp wr w1.heap.size D ts ds) ∧ Hid (Placed L k 0 ts ds) ∧ Hid (Only (New w1.heap.size w3.heap.size) w3 wr)) (fun _ iv _ => L.length - (Go.RowKit.intOf iv).toNat)
  case atStart => exact ⟨0, [], _, [], [], Nat.zero_le _, rfl, rfl, Lib.hid (World.ownsRow_nil _ _ _ _), Lib.hid (fun j h => absurd h (Nat.not_lt_zero _)), HM3, Lib.hid (Placed.start L), Lib.hid (Only.refl _ _)⟩
  case round =>
    obtain ⟨k, vl, D, ts, ds, hk, rfl, hvl, hrow, hvs, hMp, hPl, hO⟩ := hrel
    obtain ⟨wq, hwq⟩ : ∃ z, z = wr := ⟨_, rfl⟩
    subst hwq
    have hbw3 : w1.heap.size < w3.heap.size := HM3.out.lt
    by_cases hlt : k < L.length
    · obtain ⟨gb0, u, rfl, hcu, hIu⟩ := HGL.out k hlt
      have hcq := cell_keep hcu HM3.out hO.out
      obtain ⟨Au, cu, rfl⟩ := ints_form hIu
      have HIU := Lib.hid hIu
      have HO0 := Lib.hid hO.out
      have HMp0 := Lib.hid hMp.out
      have HPl0 := Lib.hid hPl.out
      have HVS0 := Lib.hid hvs.out
      have HR0 := Lib.hid hrow.out
      have hzq : w3.heap.size ≤ wq.heap.size := HO0.out.size
      have hml := HLEN.out k hlt
      have hk0 : (0 : Int) ≤ (k : Int) := by omega
      have hk1 : (k : Int) < (L.length : Int) := by omega
      generalize hnl : (getL L k).length = nl at *
      clear hcu hIu hO hMp hPl hvs hrow hmm
      go_wp2_with (at_builtin; refine wpList_append_own_at _ rfl _ _ 43 rfl w3.heap.size 27 j0 (.agg #[.slice none 0 0, .slice none 0 0]) 2 48 Tryz.underlying43 hj hy0 hy1 hy2 rfl (by decide) _ _ _ rfl (HR0.out.alloc _) ⟨wq.heap.size, 0, none⟩ 1 1 [.slice Au nl cu, .slice none 0 0] rfl rfl (cell_two_new _ _ _ _) (by simp [Value.oneCell']) (by unfold maxLen; omega) (by omega) (by simp; omega) ?_)
      intro v5 w5 hown5 hgrow5 _ _
      have hba := below_alloc (w := wq) (.cells #[.slice Au nl cu, .slice none 0 0] 27)
      have hvn : (vl ++ [Value.slice Au nl cu]).length = k + 1 := by rw [List.length_append, hvl]; rfl
      have hown6 : w5.ownsRow w3.heap.size 27 2 v5 (k + 1) (flatV (vl ++ [.slice Au nl cu])) := by
        have e : flatV (vl ++ [.slice Au nl cu]) = flatV vl ++ [.slice Au nl cu, .slice none 0 0] := by simp [flatV]
        rw [e]
        exact hown5
      have hlo : ∀ j, Value.ownBlock _ = some j → w3.heap.size ≤ j := fun j hj' => (World.ownsRow.lt HR0.out j hj').1
      have hO5 : Only (New w1.heap.size w3.heap.size) wq w5 := (Only.of_below hba).trans' (Only.of_grown hgrow5 (fun j hj' => .inr (hlo j hj')))
      have HO5 := Lib.hid (HO0.out.trans' hO5)
      have HMp5 := Lib.hid ((HMp0.out.below hba).only (Only.of_grown (F := fun j => w3.heap.size ≤ j) hgrow5 (fun j hj' => hlo j hj')) (by omega))
      have HR5 := Lib.hid hown6
      have HVS5 := Lib.hid (show ∀ j, j < k + 1 → Ints w3 (getV (vl ++ [.slice Au nl cu]) j) (getL L j) from fun j hj' => by
        rcases Nat.lt_or_ge j k with h | h
        · rw [getV_app_left _ _ _ (by omega)]
          exact HVS0.out j h
        · obtain rfl : j = k := by omega
          rw [show getV (vl ++ [.slice Au nl cu]) j = .slice Au nl cu by rw [← hvl]; exact getV_app_right _ _]
          exact HIU.out)
      obtain ⟨A5, c5, rfl⟩ := own_shape hown6
      generalize vl ++ [.slice Au nl cu] = vl5 at *
      clear hown5 hgrow5 hba hown6 hlo hO5 HR0 HMp0 HVS0 hcq HO0 hvl
      go_wp2
      go_loopw [40] (fun mv wr => ∃ (m : Nat) (D2 : DataW Unit) (ts2 : List Int) (ds2 : List Nat), m ≤ nl ∧ mv = .int .i64 m ∧ Hid (wr.ownsRow w3.heap.size 27 2 (.slice A5 (k + 1) c5) (k + 1) (flatV vl5)) ∧
        Hid (Mp wr w1.heap.size D2 ts2 ds2) ∧ Hid (Placed L k m ts2 ds2) ∧ Hid (Only (New w1.heap.size w3.heap.size) w3 wr)) (fun mv _ => nl - (Go.RowKit.intOf mv).toNat)
      case atStart => exact ⟨0, D, ts, ds, Nat.zero_le _, rfl, HR5, HMp5, HPl0, HO5⟩
      case round =>
        obtain ⟨m, D2, ts2, ds2, hm, rfl, hrow, hMp, hPl, hO⟩ := hrel
        obtain ⟨wi, hwi⟩ : ∃ z, z = wr := ⟨_, rfl⟩
        subst hwi
        have HRi := Lib.hid hrow.out
        have HMi := Lib.hid hMp.out
        have HPi := Lib.hid hPl.out
        have HOi := Lib.hid hO.out
        clear hrow hMp hPl hO
        by_cases hml2 : m < nl
        · have hml3 : m < (getL L k).length := by omega
          obtain ⟨ub, uo, rfl, hub, huc⟩ := ints_at (ints_keep HIU.out HM3.out HOi.out) hml3
          have hxm : getI (getL L k) m ∈ getL L k := (mem_getI _ _).2 ⟨m, hml3, rfl⟩
          have hwx := wf_in HPP.out (HIN.out k hlt _ hxm)
          have hkey := keyOf_int_mk Tryz.underlying3 hwx
          have HFR := Lib.hid (HPi.out.fresh hlt hml3 HAP.out HUP.out)
          have HPN := Lib.hid (HPi.out.put hlt hml3 HMi.out.2.2)
          have hwk : (Lit.int .i64 (k : Int)).wf = true := WalkArith.wf_i64 (by omega)
          have htl : ts2.length ≤ 200000 := by
            have h1 : ts2.Nodup ∨ True := .inr trivial
            have h2 := HPi.out.all
            have h3 : (L.take k).flatten.length ≤ p.v.length := by
              refine once_len ?_ (fun x hx => ?_)
              · unfold List.Nodup
                rw [List.pairwise_flatten]
                exact ⟨fun V hV => List.Pairwise.imp (fun {a b} (hab : a < b) => (by omega : a ≠ b)) (HUP.out V (List.mem_of_mem_take hV)), List.Pairwise.imp (S := fun V W : List Int => ∀ x ∈ V, ∀ y ∈ W, x ≠ y) (fun {V W} h x hx y hy e => h x hx (by rw [e]; exact hy)) (List.Pairwise.sublist (List.take_sublist k L) HAP.out)⟩
              · obtain ⟨V, hV, hxV⟩ := List.mem_flatten.1 hx
                obtain ⟨j, hj', rfl⟩ := List.mem_iff_getElem.1 (List.mem_of_mem_take hV)
                exact HIN.out j hj' x (by rw [getL_of hj']; exact hxV)
            rw [h2, List.length_append, List.length_take]
            omega
          generalize getI (getL L k) m = x at *
          clear hxm hwx
          go_wp2_with (at_mapUpdate; refine wpList_mapUpdate_in _ rfl _ _ _ 62 rfl 3 3 Tryz.keyInt Tryz.underlying62 _ w1.heap.size ts2.length D2 rfl HMi.out.1 (by unfold maxLen; omega) _ _ _ rfl rfl hkey _ [] (plainElem_int Tryz.underlying3 hwk) ?_)
          intro w8 hown8 hturn8
          have hO8 := only_turned hturn8
          have HM8 := Lib.hid (HMi.out.put HFR.out k hown8)
          have HR8 := Lib.hid (own_block HRi.out (fun gg hg => hO8.block gg (World.ownsRow.lt HRi.out gg hg).2 (fun e => by have := (World.ownsRow.lt HRi.out gg hg).1; omega)))
          have HO8 := Lib.hid (HOi.out.trans' (hO8.more (G := New w1.heap.size w3.heap.size) (fun j _ h => .inl h)))
          clear hown8 hturn8 hO8 huc
          go_wp2
          go_roundw
          case rel => exact ⟨m + 1, _, _, _, by omega, by go_num, HR8, HM8, HPN, HO8⟩
          case measure => simp [Go.RowKit.intOf]; omega
        · obtain rfl : m = nl := by omega
          have HPN := Lib.hid (HPi.out.next hlt (by omega))
          go_wp2
          go_roundw
          case rel => exact ⟨k + 1, vl5, D2, ts2, ds2, by omega, by go_num, hvn, HRi, HVS5, HMi, HPN, HOi⟩
          case measure => simp [Go.RowKit.intOf]; omega
    · obtain rfl : k = L.length := by omega
      have HO0 := Lib.hid hO.out
      have HMp0 := Lib.hid hMp.out
      have HPl0 := Lib.hid hPl.out
      have HVS0 := Lib.hid hvs.out
      have HR0 := Lib.hid hrow.out
      have hFw : ∀ j, New w1.heap.size w3.heap.size j → w.heap.size + 2 ≤ j := fun j hj' => by
        have := HX0S.out
        rcases hj' with rfl | hj'
        · exact this
        · omega
      have HFW := Lib.hid hFw
      have hw2 : w.heap.size + 2 ≤ w3.heap.size := by have := HX0S.out; omega
      have hBq := hO.out.below hw2 hFw
      have c0 := (X03.out.keep hBq (by omega)).c0
      have c1 := (X03.out.keep hBq (by omega)).c1
      have d1 := (X13.out.keep hBq (by omega)).c1
      by_cases hK : 0 < L.length
      · obtain ⟨gb, cap, hpv⟩ : ∃ gb cap, u7 = .slice (some ⟨gb, 0, none⟩) L.length cap := by
          rcases hrow.out.2 with ⟨_, h0⟩ | ⟨gg, cap, cur, e, _⟩
          · omega
          · exact ⟨gg, cap, e⟩
        have hrow2 := hrow.out
        rw [hpv] at hrow2
        have HPS := Lib.hid (Pcs.start hrow2 hvl)
        subst hpv
        clear hrow hMp hPl hvs hO hBq hFw hrow2 HR0 hmm
        go_wp2
        go_loopw [52] (fun iv wr => ∃ (k : Nat) (es : Nat → Value), k ≤ p.e.length ∧ iv = .int .i64 k ∧ Hid (Pcs wr w3.heap.size gb L.length (getV vl) es (fun j => (p.e.take k).filter fun e => decide ((getE g.e e.toNat).a ∈ getL L j))) ∧
          Hid (Mp wr w1.heap.size D ts ds) ∧ Hid (Only (New w1.heap.size w3.heap.size) w3 wr)) (fun iv _ => p.e.length - (Go.RowKit.intOf iv).toNat)
        case atStart => exact ⟨0, _, Nat.zero_le _, rfl, HPS, HMp0, HO0⟩
        case round =>
          obtain ⟨k, es, hk, rfl, hP, hMp, hO⟩ := hrel
          obtain ⟨wi, hwi⟩ : ∃ z, z = wr := ⟨_, rfl⟩
          subst hwi
          have HPi := Lib.hid hP.out
          have HMi := Lib.hid hMp.out
          have HOi := Lib.hid hO.out
          clear hP hMp hO
          by_cases hlt : k < p.e.length
          · have hBi := HOi.out.below hw2 HFW.out
            have hBw := HW3.out.trans ((HOi.out.below (B := w.heap.size) (by omega) (fun j hj' => by have := HFW.out j hj'; omega)))
            obtain ⟨pb, po, rfl, hpb, hpc⟩ := ints_at HE3.out hlt
            have hrk := (perr_rises HPP.out).2.2.1 k hlt
            have hmem : getI p.e k ∈ p.e := (mem_getI _ _).2 ⟨k, hlt, rfl⟩
            have hea := ((perr_rises HPP.out).2.2.2 _ hmem).1
            obtain ⟨en, hen⟩ : ∃ en : Nat, getI p.e k = en := ⟨(getI p.e k).toNat, by omega⟩
            have hel : en < g.e.length := by omega
            obtain ⟨eb, eo, rfl, heb, he1, _⟩ := edges_at HE1.out hel
            have hck := (hBw.cell (p := ⟨pb, po + k, none⟩) hpb).trans hpc
            have g1 := (hBw.cell (p := ⟨eb, eo + en * 2, none⟩) heb).trans he1
            have cc1 := (X03.out.keep hBi (by omega)).c1
            have HT := Lib.hid (take_succ_getI p.e k hlt)
            rw [hen] at HT hck hea
            rw [Int.toNat_natCast] at hea
            obtain ⟨i, hiL, hiV⟩ := HCV.out _ hea
            obtain ⟨jt, hjt, hjx, hji⟩ := HPl0.out.who rfl hiL hiV HAP.out
            have hwx := wf_in HPP.out hea
            have hkey := keyOf_int_mk Tryz.underlying3 hwx
            have HVAL := Lib.hid (fun c (hc : D.atKey (.int .i64 (getE g.e en).a) (.lit (.int .i64 0)) = .lit (.int .i64 c)) => show c = (i : Int) by
              rw [← hjx] at hc
              rw [HMi.out.at_ hjt hc, hji])
            have HMO := Lib.hid (show moreI (fun j => (p.e.take k).filter fun e => decide ((getE g.e e.toNat).a ∈ getL L j)) i (en : Int) = (fun j => (p.e.take (k + 1)).filter fun e => decide ((getE g.e e.toNat).a ∈ getL L j)) from by
              funext j
              unfold moreI
              rw [HT.out, List.filter_append]
              by_cases e : j = i
              · subst e
                rw [if_pos rfl]
                simp [hiV]
              · rw [if_neg e]
                have hn : (getE g.e en).a ∉ getL L j := fun hx => by
                  rcases Nat.lt_or_ge j L.length with h | h
                  · exact e (apart_at HAP.out h hiL hx hiV)
                  · unfold getL at hx
                    rw [List.getD_eq_getElem?_getD, List.getElem?_eq_none h] at hx
                    cases hx
                simp [hn])
            have hn0 : (0 : Int) ≤ (en : Int) := by omega
            have hn1 : (en : Int) < (g.e.length : Int) := by omega
            have hi0 : (0 : Int) ≤ (i : Int) := by omega
            have hi1 : (i : Int) < (L.length : Int) := by omega
            obtain ⟨fl, hfl⟩ : ∃ fl, (fun j => (p.e.take k).filter fun e => decide ((getE g.e e.toNat).a ∈ getL L j)) = fl := ⟨_, rfl⟩
            have hli : (fl i).length ≤ 100000 := by
              rw [← hfl]
              exact Nat.le_trans (List.length_filter_le _ _) (by rw [List.length_take]; omega)
            rw [hfl] at HPi HMO
            have cE := HPi.out.ce i hiL
            have roE := HPi.out.row i hiL
            have HSZi := Lib.hid HPi.out.lt
            have hzi : w3.heap.size ≤ wi.heap.size := HOi.out.size
            generalize (getE g.e en).a = xa at *
            clear hpc hrk hmem he1 hen hwx hea hBi hBw hfl hiV hjx hji hjt HT
            go_wp2_with (first
              | (at_lookup; refine wpList_lookup_own_int _ rfl _ _ 62 rfl 3 3 .i64 Tryz.keyInt Tryz.underlying62 Tryz.underlying3 (Tryz.zeroInt _) w1.heap.size ts.length D rfl HMi.out.1 _ _ rfl hkey ?_; intro c2 hat2 hwc2; obtain rfl := HVAL.out c2 hat2; clear hat2 hwc2)
              | (at_builtin; refine wpList_append_own_at _ rfl _ _ 25 rfl w3.heap.size 3 i0 (.int .i64 0) 1 8 Tryz.underlying25 hi hz0 hz1 hz2 rfl (by decide) _ _ _ rfl (World.ownsRow.alloc roE _) ⟨wi.heap.size, 0, none⟩ 1 1 [.int .i64 en] rfl rfl (cell_one_new _ _ _) (by simp [Value.oneCell']) (by unfold maxLen; omega) (by omega) (by simp; omega) ?_))
            intro v5 w5 hown5 hgrow5 _ hat5
            have hown5' : Row w5 w3.heap.size v5 (fl i ++ [(en : Int)]) := by
              show w5.ownsRow _ _ _ _ _ _
              rw [List.length_append, List.map_append]
              exact hown5
            obtain ⟨A5, c5, hv5⟩ := own_shape hown5'
            have HV5 := Lib.hid hv5
            have hba := below_alloc (w := wi) (.cells #[.int .i64 (en : Int)] 3)
            obtain ⟨M5, ce5, f5, B5⟩ := (HPi.out.below hba).put (x := (en : Int)) hiL hgrow5 hown5' (hat5.imp id (fun h => by rw [h]; simp))
            have hlo : ∀ j, (es i).ownBlock = some j → w3.heap.size ≤ j := fun j hj' => (World.ownsRow.lt (HPi.out.row i hiL) j hj').1
            have hO5 : Only (New w1.heap.size w3.heap.size) wi w5 := (Only.of_below hba).trans' (Only.of_grown hgrow5 (fun j hj' => .inr (hlo j hj')))
            have hO6 : Only (fun j => w3.heap.size ≤ j) w5 (w5.setCell ⟨gb, i * 2 + 1, none⟩ v5) := Only.setCell w5 HPi.out.at_ _
            have HO6 := Lib.hid ((HOi.out.trans' hO5).trans' (hO6.more (G := New w1.heap.size w3.heap.size) (fun j _ h => .inr h)))
            have HM6 := Lib.hid (((HMi.out.below hba).only (Only.of_grown (F := fun j => w3.heap.size ≤ j) hgrow5 hlo) (by omega)).only hO6 (by omega))
            have HP6 := Lib.hid M5
            rw [HMO.out] at HP6
            clear hown5 hown5' hgrow5 hat5 hba M5 B5 hlo hO5 hO6 hv5 cE roE
            rw [HV5.out] at HP6 HM6 HO6 ⊢
            clear HV5
            generalize (fl i ++ [(en : Int)]).length = l5 at *
            go_wp2
            go_roundw
            case rel => exact ⟨k + 1, _, by omega, by go_num, HP6, HM6, HO6⟩
            case measure => simp [Go.RowKit.intOf]; omega
          · obtain rfl : k = p.e.length := by omega
            have HT := Lib.hid (List.take_length (l := p.e))
            rw [HT.out] at HPi
            have hBw := HW3.out.trans ((HOi.out.below (B := w.heap.size) (by omega) (fun j hj' => by have := HFW.out j hj'; omega)))
            have HBW := Lib.hid hBw
            clear hBw HT
            have HLL := Lib.hid (show (pcs g p).length = L.length by rw [HPC.out, List.length_map])
            go_wp2
            go_ret2
            refine ⟨some ⟨gb, 0, none⟩, cap, by rw [HLL.out]; rfl, HBW.out, fun j hj' => ?_⟩
            have hjL : j < L.length := by rw [← HLL.out]; exact hj'
            have e : (pcs g p)[j] = pieceOf g p (getL L j) := by
              rw [getL_of hjL]
              simp only [HPC.out, List.getElem_map]
            rw [e]
            exact ⟨gb, _, _, rfl, HPi.out.lt, HPi.out.cv j hjL, HPi.out.ce j hjL, ints_keep (HVS0.out j hjL) HM3.out HOi.out, (HPi.out.row j hjL).ints⟩
      · have hL0 : L.length = 0 := by omega
        have he0 : p.e.length = 0 := by
          rcases Nat.eq_zero_or_pos p.e.length with h | h
          · exact h
          · exfalso
            obtain ⟨j, hj', _⟩ := HCV.out _ ((perr_rises HPP.out).2.2.2 _ ((mem_getI _ _).2 ⟨0, h, rfl⟩)).1
            omega
        have HBW := Lib.hid (HW3.out.trans ((hO.out.below (B := w.heap.size) (by omega) (fun j hj' => by have := hFw j hj'; omega))))
        obtain ⟨A7, c7, hpv⟩ := own_shape hrow.out
        subst hpv
        clear hrow hMp hPl hvs hO hBq hFw HR0 hmm
        have HLL := Lib.hid (show (pcs g p).length = L.length by rw [HPC.out, List.length_map])
        have HE0 := Lib.hid he0
        clear he0
        go_wp2
        go_loopw [52] (fun iv wr => iv = .int .i64 0 ∧ wr = wq) (fun _ _ => 0)
        case atStart => exact ⟨rfl, rfl⟩
        case round =>
          obtain ⟨rfl, rfl⟩ := hrel
          rw [HE0.out]
          go_wp2
          go_ret2
          refine ⟨A7, c7, by rw [HLL.out]; rfl, HBW.out, fun j hj' => ?_⟩
          have := HLL.out
          omega
end Go.Proofs.YtmbpmepoaonleaaGreat

/-! Pieces, as they are handed out: what the laws read of them. -/
namespace Go.Proofs.YtmbpmepoaonleaaGreat
open Go.RowKit Go.Maps

variable {g : Gph} {p : Prt}

def getP (ps : List Prt) (j : Nat) : Prt := ps.getD j ⟨[], []⟩
theorem getP_of {ps : List Prt} {j : Nat} (h : j < ps.length) : getP ps j = ps[j] := by
  unfold getP
  rw [List.getD_eq_getElem?_getD, List.getElem?_eq_getElem h]
  rfl
/-- The slice at A reads as these parts. -/
def PList (w : World) (A : Option Addr) (ps : List Prt) : Prop :=
  ∀ j, j < ps.length → ∃ gb A1 c1 A2 c2, A = some ⟨gb, 0, none⟩ ∧ gb < w.heap.size ∧ w.cell? ⟨gb, j * 2, none⟩ = some (.slice A1 (getP ps j).v.length c1) ∧ w.cell? ⟨gb, j * 2 + 1, none⟩ = some (.slice A2 (getP ps j).e.length c2) ∧
    Ints w (.slice A1 (getP ps j).v.length c1) (getP ps j).v ∧ Ints w (.slice A2 (getP ps j).e.length c2) (getP ps j).e
theorem PList.below {w w' : World} {A : Option Addr} {ps : List Prt} (h : PList w A ps) (hb : Below w.heap.size w w') : PList w' A ps := fun j hj => by
  obtain ⟨gb, A1, c1, A2, c2, hA, hlt, h1, h2, i1, i2⟩ := h j hj
  exact ⟨gb, A1, c1, A2, c2, hA, Nat.lt_of_lt_of_le hlt hb.size, (hb.cell (p := ⟨gb, j * 2, none⟩) hlt).trans h1, (hb.cell (p := ⟨gb, j * 2 + 1, none⟩) hlt).trans h2, i1.below hb, i2.below hb⟩
theorem PiecesOf.list {w w' : World} {e : Ending} (h : PiecesOf g p w e w') : ∃ A cap, e = .returned (.tuple #[.slice A (pcs g p).length cap, .int .i64 0]) ∧ Below w.heap.size w w' ∧ PList w' A (pcs g p) := by
  obtain ⟨A, cap, he, hb, hl⟩ := h
  refine ⟨A, cap, he, hb, fun j hj => ?_⟩
  obtain ⟨gb, uv, ue, hA, hlt, h1, h2, i1, i2⟩ := hl j hj
  rw [← getP_of hj] at i1 i2
  obtain ⟨A1, c1, rfl⟩ := ints_form i1
  obtain ⟨A2, c2, rfl⟩ := ints_form i2
  exact ⟨gb, A1, c1, A2, c2, hA, hlt, h1, h2, i1, i2⟩

/-- What is known of the pieces. -/
structure PFacts (g : Gph) (p : Prt) (ps : List Prt) : Prop where
  joined : ∀ j, j < ps.length → joinedB g (getP ps j) = true
  some : ∀ j, j < ps.length → 0 < (getP ps j).v.length
  few : ∀ j, j < ps.length → (getP ps j).v.length ≤ p.v.length ∧ (getP ps j).e.length ≤ p.e.length
  vs : (ps.map Prt.v).flatten.length = p.v.length
  es : (ps.map Prt.e).flatten.length = p.e.length
  av : ∀ i j, i < ps.length → j < ps.length → i ≠ j → ∀ x ∈ (getP ps i).v, x ∉ (getP ps j).v
  ae : ∀ i j, i < ps.length → j < ps.length → i ≠ j → ∀ x ∈ (getP ps i).e, x ∉ (getP ps j).e
  one : joinedB g p = decide (ps.length ≤ 1)
  len : ps.length ≤ p.v.length
  up : ∀ j, j < ps.length → Up (getP ps j).v ∧ Up (getP ps j).e
  reach : ∀ j, j < ps.length → ∀ z ∈ (getP ps j).v, ∀ t, t ∈ (getP ps j).v ↔ t ∈ p.v ∧ Reach (Nbr g p) z t
  edges : ∀ j, j < ps.length → ∀ e, e ∈ (getP ps j).e ↔ e ∈ p.e ∧ (getE g.e e.toNat).a ∈ (getP ps j).v
  covers : ∀ x ∈ p.v, ∃ j, j < ps.length ∧ x ∈ (getP ps j).v

theorem pcs_at {j : Nat} (hj : j < (pcs g p).length) : j < (tog g p).groups.length ∧ getP (pcs g p) j = pieceOf g p (getL (tog g p).groups j) := by
  have hl : j < (tog g p).groups.length := by
    unfold pcs at hj
    rwa [List.length_map] at hj
  refine ⟨hl, ?_⟩
  rw [getP_of hj, getL_of hl]
  simp only [pcs, List.getElem_map]
theorem pcs_facts (hp : perr g p = 0) : PFacts g p (pcs g p) := by
  have hT := tog_all hp
  have hpn : p.v.Nodup := List.Pairwise.imp (fun {a b} (hab : a < b) => (by omega : a ≠ b)) (perr_rises hp).2.1.up
  have hgr : ∀ j, j < (pcs g p).length → Up (getL (tog g p).groups j) ∧ ∃ z ∈ getL (tog g p).groups j, ∀ t, t ∈ getL (tog g p).groups j ↔ t ∈ p.v ∧ Reach (Nbr g p) z t := fun j hj => piece_group hp (getL_mem (pcs_at hj).1)
  refine ⟨fun j hj => ?_, fun j hj => ?_, fun j hj => ?_, pcs_vs hp, pcs_es hp, fun i j hi hj hne x hx => ?_, fun i j hi hj hne x hx => ?_, ?_, ?_, fun j hj => ?_, fun j hj z hz t => ?_, fun j hj e => ?_, fun x hx => ?_⟩
  · rw [(pcs_at hj).2]
    exact piece_joined hp (getL_mem (pcs_at hj).1)
  · rw [(pcs_at hj).2]
    obtain ⟨_, z, hz, _⟩ := hgr j hj
    exact List.length_pos_of_mem hz
  · rw [(pcs_at hj).2]
    obtain ⟨hu, z, _, hz⟩ := hgr j hj
    exact ⟨once_len (List.Pairwise.imp (fun {a b} (hab : a < b) => (by omega : a ≠ b)) hu) (fun x hx => ((hz x).1 hx).1), List.length_filter_le _ _⟩
  · rw [(pcs_at hi).2] at hx
    rw [(pcs_at hj).2]
    exact fun hx2 => hne (apart_at hT.apart (pcs_at hi).1 (pcs_at hj).1 hx hx2)
  · rw [(pcs_at hi).2] at hx
    rw [(pcs_at hj).2]
    exact fun hx2 => hne (apart_at hT.apart (pcs_at hi).1 (pcs_at hj).1 (of_decide_eq_true (List.mem_filter.1 hx).2) (of_decide_eq_true (List.mem_filter.1 hx2).2))
  · unfold joinedB
    rw [decide_eq_true hp, Bool.true_and, pcs_len hp]
  · rw [pcs_len hp]
    have := heads_le (tog g p).gr
    rw [hT.2.1.len, hT.1] at this
    exact this
  · rw [(pcs_at hj).2]
    exact ⟨(hgr j hj).1, List.Pairwise.filter _ (perr_rises hp).2.2.1.up⟩
  · rw [(pcs_at hj).2] at hz ⊢
    obtain ⟨_, y, _, hy⟩ := hgr j hj
    have hyz := ((hy z).1 hz).2
    constructor
    · intro ht
      exact ⟨((hy t).1 ht).1, (hyz.symm nbr_symm).trans ((hy t).1 ht).2⟩
    · rintro ⟨h1, h2⟩
      exact (hy t).2 ⟨h1, hyz.trans h2⟩
  · rw [(pcs_at hj).2]
    show e ∈ p.e.filter _ ↔ _
    rw [List.mem_filter, decide_eq_true_iff]
    rfl
  · obtain ⟨V, hV, hxV⟩ := hT.covers hx
    obtain ⟨j, hj, rfl⟩ := List.mem_iff_getElem.1 hV
    have hj' : j < (pcs g p).length := by unfold pcs; rwa [List.length_map]
    refine ⟨j, hj', ?_⟩
    rw [(pcs_at hj').2, getL_of hj]
    exact hxV

end Go.Proofs.YtmbpmepoaonleaaGreat
