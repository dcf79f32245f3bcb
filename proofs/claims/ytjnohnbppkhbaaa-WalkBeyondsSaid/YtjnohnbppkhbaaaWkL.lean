/-
  The program's Pieces: what it fills.
-/
import Derived.Test.YtjnohnbppkhbaaaWkJ
import Derived.Test.YtjnohnbppkhbaaaWkV
namespace Go.Proofs.Ytjnohnbppkhbaaa
open Go.RowKit Go.Maps

variable {g : Gph} {p : Prt}

/-- What the rest of the call may change: the map, and what is new. -/
def New (bm n : Nat) (k : Nat) : Prop := k = bm ∨ n ≤ k

theorem ints_keep {w w' : World} {bm : Nat} {D : DataW Unit} {ts : List Int} {ds : List Nat} {v : Value} {l : List Int} (h : Ints w v l) (hm : Mp w bm D ts ds) (ho : Only (New bm w.heap.size) w w') : Ints w' v l := by
  obtain ⟨A, cap, rfl, h1, h2, h3⟩ := h
  refine ⟨A, cap, rfl, h1, h2, fun h0 => ?_⟩
  obtain ⟨b, off, hA, hb, hc⟩ := h3 h0
  have hn : ¬ New bm w.heap.size b := fun hN => by
    rcases hN with rfl | hN
    · exact hm.not_cell (hc 0 h0)
    · omega
  exact ⟨b, off, hA, Nat.lt_of_lt_of_le hb ho.size, fun j hj => ho.cell (a := ⟨b, off + j, none⟩) (hc j hj) hn⟩
theorem cell_keep {w w' : World} {bm : Nat} {D : DataW Unit} {ts : List Int} {ds : List Nat} {b i : Nat} {u : Value} (hc : w.cell? ⟨b, i, none⟩ = some u) (hm : Mp w bm D ts ds) (ho : Only (New bm w.heap.size) w w') : w'.cell? ⟨b, i, none⟩ = some u := by
  have hb := World.block_lt_of_cell? w _ hc
  refine ho.cell hc (fun hN => ?_)
  rcases hN with h | hN
  · simp only at h
    subst h
    exact hm.not_cell hc
  · exact absurd hb (by simp only at hN ⊢; omega)

def flatV (us : List Value) : List Value := us.flatMap fun u => [u, .slice none 0 0]
theorem flatV_len : ∀ l : List Value, (flatV l).length = l.length * 2
  | [] => rfl
  | e :: l => by
    have := flatV_len l
    simp only [flatV, List.flatMap_cons, List.length_append, List.length_cons, List.length_nil] at this ⊢
    omega
theorem flatV_get : ∀ (l : List Value) (j : Nat), j < l.length → (flatV l)[j * 2]? = some (getV l j) ∧ (flatV l)[j * 2 + 1]? = some (.slice none 0 0)
  | [], j, h => absurd h (Nat.not_lt_zero _)
  | e :: l, 0, _ => ⟨rfl, rfl⟩
  | e :: l, j + 1, h => by
    have := flatV_get l j (by simpa using h)
    have e1 : (j + 1) * 2 = j * 2 + 1 + 1 := by omega
    have e2 : getV (e :: l) (j + 1) = getV l j := rfl
    rw [e1, e2]
    exact this

/-- Which group a thing is in, as the map tells it: of the first k groups, and of m things of the next one. -/
structure Placed (L : List (List Int)) (k m : Nat) (ts : List Int) (ds : List Nat) : Prop where
  all : ts = (L.take k).flatten ++ (getL L k).take m
  at_ : ∀ j, j < ts.length → ds.getD j 0 < L.length ∧ getI ts j ∈ getL L (ds.getD j 0)
theorem Placed.start (L : List (List Int)) : Placed L 0 0 [] [] := ⟨by simp, fun j h => absurd h (Nat.not_lt_zero _)⟩
theorem take_getL (L : List (List Int)) (k : Nat) (h : k < L.length) : L.take (k + 1) = L.take k ++ [getL L k] := by
  rw [List.take_add_one]
  unfold getL
  simp [h]
theorem Placed.next {L : List (List Int)} {k m : Nat} {ts : List Int} {ds : List Nat} (h : Placed L k m ts ds) (hk : k < L.length) (hm : (getL L k).length ≤ m) : Placed L (k + 1) 0 ts ds := by
  refine ⟨?_, h.at_⟩
  rw [h.all, take_getL L k hk, List.flatten_append, List.take_of_length_le hm]
  simp
theorem Placed.put {L : List (List Int)} {k m : Nat} {ts : List Int} {ds : List Nat} (h : Placed L k m ts ds) (hk : k < L.length) (hm : m < (getL L k).length) (hl : ds.length = ts.length) : Placed L k (m + 1) (ts ++ [getI (getL L k) m]) (ds ++ [k]) := by
  refine ⟨?_, fun j hj => ?_⟩
  · rw [h.all, take_succ_getI _ _ hm, List.append_assoc]
  · rw [List.length_append] at hj
    simp at hj
    rcases Nat.lt_or_ge j ts.length with hlt | hge
    · rw [getI_app_left _ _ _ hlt, getD_app_left _ _ _ (by rw [hl]; exact hlt)]
      exact h.at_ j hlt
    · obtain rfl : j = ts.length := by omega
      rw [show getI (ts ++ [getI (getL L k) m]) ts.length = getI (getL L k) m from getI_app_right ts [getI (getL L k) m] 0, ← hl, getD_snoc]
      exact ⟨hk, (mem_getI _ _).2 ⟨m, hm, rfl⟩⟩
theorem getL_mem {L : List (List Int)} {k : Nat} (h : k < L.length) : getL L k ∈ L := by
  unfold getL
  rw [List.getD_eq_getElem?_getD, List.getElem?_eq_getElem h]
  exact List.getElem_mem h
theorem getL_of {L : List (List Int)} {k : Nat} (h : k < L.length) : getL L k = L[k] := by
  unfold getL
  rw [List.getD_eq_getElem?_getD, List.getElem?_eq_getElem h]
  rfl
theorem apart_at {L : List (List Int)} (h : L.Pairwise fun V W => ∀ x ∈ V, x ∉ W) {i j : Nat} (hi : i < L.length) (hj : j < L.length) {x : Int} (hx : x ∈ getL L i) (hy : x ∈ getL L j) : i = j := by
  rw [getL_of hi] at hx
  rw [getL_of hj] at hy
  rcases Nat.lt_trichotomy i j with hl | hl | hl
  · exact absurd hy (List.pairwise_iff_getElem.1 h i j hi hj hl x hx)
  · exact hl
  · exact absurd hx (List.pairwise_iff_getElem.1 h j i hj hi hl x hy)
theorem Placed.fresh {L : List (List Int)} {k m : Nat} {ts : List Int} {ds : List Nat} (h : Placed L k m ts ds) (hk : k < L.length) (hm : m < (getL L k).length) (hap : L.Pairwise fun V W => ∀ x ∈ V, x ∉ W) (hn : ∀ V ∈ L, Up V) : getI (getL L k) m ∉ ts := by
  intro hx
  rw [h.all, List.mem_append] at hx
  have hin : getI (getL L k) m ∈ getL L k := (mem_getI _ _).2 ⟨m, hm, rfl⟩
  rcases hx with hx | hx
  · obtain ⟨V, hV, hxV⟩ := List.mem_flatten.1 hx
    obtain ⟨i, hi, e⟩ := List.mem_iff_getElem.1 hV
    rw [List.length_take] at hi
    have e2 : getL L i = V := by rw [getL_of (by omega), ← e]; simp
    have := apart_at hap (i := i) (j := k) (by omega) hk (by rw [e2]; exact hxV) hin
    omega
  · have hup := hn _ (getL_mem hk)
    rw [List.mem_iff_getElem] at hx
    obtain ⟨i, hi, e⟩ := hx
    rw [List.length_take] at hi
    rw [List.getElem_take, getI_of _ _ hm] at e
    have := List.pairwise_iff_getElem.1 hup i m (by omega) hm (by omega)
    omega
theorem Placed.who {L : List (List Int)} {k m : Nat} {ts : List Int} {ds : List Nat} (h : Placed L k m ts ds) (hk : k = L.length) {x : Int} {i : Nat} (hi : i < L.length) (hx : x ∈ getL L i) (hap : L.Pairwise fun V W => ∀ x ∈ V, x ∉ W) :
    ∃ j, j < ts.length ∧ getI ts j = x ∧ ds.getD j 0 = i := by
  have hm : x ∈ ts := by
    rw [h.all, hk, List.take_length, List.mem_append]
    exact .inl (List.mem_flatten.2 ⟨_, getL_mem hi, hx⟩)
  obtain ⟨j, hj, e⟩ := (mem_getI _ _).1 hm
  have := h.at_ j hj
  rw [e] at this
  exact ⟨j, hj, e, apart_at hap this.1 hi this.2 hx⟩

/-- Parts, as their edges are put in. -/
structure Pcs (w : World) (base gb N : Nat) (us es : Nat → Value) (ls : Nat → List Int) : Prop where
  cv : ∀ j, j < N → w.cell? ⟨gb, j * 2, none⟩ = some (us j)
  ce : ∀ j, j < N → w.cell? ⟨gb, j * 2 + 1, none⟩ = some (es j)
  thaw : ∀ j, w.frozen? ⟨gb, j, none⟩ = false
  at_ : base ≤ gb
  lt : gb < w.heap.size
  row : ∀ j, j < N → Row w base (es j) (ls j)
  apart : ∀ i j, i < N → j < N → i ≠ j → (es i).ownBlock = none ∨ (es i).ownBlock ≠ (es j).ownBlock
  shun : ∀ j, j < N → (es j).ownBlock ≠ some gb

section
variable {w w1 : World} {base gb N : Nat} {us es : Nat → Value} {ls : Nat → List Int}
theorem Pcs.below (M : Pcs w base gb N us es ls) (hb : Below w.heap.size w w1) : Pcs w1 base gb N us es ls :=
  ⟨fun j hj => (hb.cell (p := ⟨gb, j * 2, none⟩) M.lt).trans (M.cv j hj), fun j hj => (hb.cell (p := ⟨gb, j * 2 + 1, none⟩) M.lt).trans (M.ce j hj), fun j => (hb.frozen (p := ⟨gb, j, none⟩) M.lt).trans (M.thaw j), M.at_, Nat.lt_of_lt_of_le M.lt hb.size,
    fun j hj => (M.row j hj).below hb, M.apart, M.shun⟩
theorem Pcs.start {cap : Nat} {vl : List Value} (h : w.ownsRow base 27 2 (.slice (some ⟨gb, 0, none⟩) N cap) N (flatV vl)) (hv : vl.length = N) : Pcs w base gb N (getV vl) (fun _ => .slice none 0 0) (fun _ => []) := by
  rcases h.2 with ⟨e, _⟩ | ⟨g', cap', cur, e, hb, hg, r1, r2, r3, r4⟩
  · cases e
  · cases e
    have hcell : ∀ i, i < N * 2 → w.cell? ⟨gb, i, none⟩ = (flatV vl)[i]? := fun i hi => by
      rw [cell_of_row w gb i cur _ (0, 0) hg, ← r4, List.getElem?_take, if_pos hi, Array.getElem?_toList]
    refine ⟨fun j hj => ?_, fun j hj => ?_, fun j => frozen_of_row w gb j cur _ hg, hb, (Array.getElem?_eq_some_iff.1 hg).1, fun _ _ => Row.nil _ _, fun _ _ _ _ _ => .inl rfl, fun _ _ h => by cases h⟩
    · rw [hcell _ (by omega)]
      exact (flatV_get vl j (by omega)).1
    · rw [hcell _ (by omega)]
      exact (flatV_get vl j (by omega)).2
/-- An edge more in one part. -/
def moreI (ls : Nat → List Int) (j : Nat) (x : Int) (i : Nat) : List Int := if i = j then ls i ++ [x] else ls i
theorem Pcs.put (M : Pcs w base gb N us es ls) {j : Nat} (hj : j < N) {u' : Value} {x : Int} (hg : w.grownBy w1 (es j).ownBlock) (ho : Row w1 base u' (ls j ++ [x])) (hat : u'.ownBlock = (es j).ownBlock ∨ u'.ownBlock = some w.heap.size) :
    Pcs (w1.setCell ⟨gb, j * 2 + 1, none⟩ u') base gb N us (setF es j u') (moreI ls j x) ∧ w1.cell? ⟨gb, j * 2 + 1, none⟩ = some (es j) ∧ w1.frozen? ⟨gb, j * 2 + 1, none⟩ = false ∧ Below base w1 (w1.setCell ⟨gb, j * 2 + 1, none⟩ u') := by
  have hgb : w1.heap[gb]? = w.heap[gb]? := hg.block gb M.lt (fun e => M.shun j hj e.symm)
  have hcv : ∀ i, i < N → w1.cell? ⟨gb, i * 2, none⟩ = some (us i) := fun i hi => (World.cell?_of_block (a := ⟨gb, i * 2, none⟩) hgb).trans (M.cv i hi)
  have hce : ∀ i, i < N → w1.cell? ⟨gb, i * 2 + 1, none⟩ = some (es i) := fun i hi => (World.cell?_of_block (a := ⟨gb, i * 2 + 1, none⟩) hgb).trans (M.ce i hi)
  have hf1 : ∀ i, w1.frozen? ⟨gb, i, none⟩ = false := fun i => (World.frozen?_of_block (a := ⟨gb, i, none⟩) hgb).trans (M.thaw i)
  have hoth : ∀ k, k ≠ gb → (w1.setCell ⟨gb, j * 2 + 1, none⟩ u').heap[k]? = w1.heap[k]? := fun k hk => Below.heap_setCell _ _ _ _ hk
  have hs' : u'.ownBlock ≠ some gb := by
    rcases hat with e | e
    · rw [e]; exact M.shun j hj
    · rw [e]; intro h; have := M.lt; cases h; omega
  have hold : ∀ i, i < N → i ≠ j → (es i).ownBlock = none ∨ (es i).ownBlock ≠ u'.ownBlock := fun i hi hne => by
    rcases hat with e | e
    · rw [e]; exact M.apart i j hi hj hne
    · right; rw [e]; intro h
      have := (World.ownsRow.lt (M.row i hi) _ h).2
      omega
  refine ⟨⟨fun i hi => ?_, fun i hi => ?_, fun i => ?_, M.at_, ?_, fun i hi => ?_, fun i k hi hk hne => ?_, fun i hi => ?_⟩, hce j hj, hf1 _, (Below.refl base w1).setCell (p := ⟨gb, j * 2 + 1, none⟩) M.at_ _⟩
  · rw [World.cell?_setCell_other _ _ _ _ (fun h => by simp only [Addr.mk.injEq] at h; omega)]
    exact hcv i hi
  · unfold setF
    by_cases e : i = j
    · subst e
      rw [if_pos rfl]
      exact World.cell?_setCell_same _ _ _ (hce i hi)
    · rw [if_neg e, World.cell?_setCell_other _ _ _ _ (fun h => by simp only [Addr.mk.injEq] at h; omega)]
      exact hce i hi
  · rw [World.frozen?_setCell]
    exact hf1 i
  · have := M.lt
    have := hg.size
    simp [World.setCell]
    omega
  · unfold setF moreI
    by_cases e : i = j
    · subst e
      rw [if_pos rfl, if_pos rfl]
      exact own_block ho (fun g hg' => hoth g (fun e => hs' (by rw [hg', e])))
    · rw [if_neg e, if_neg e]
      refine own_block (M.row i hi) (fun g hg' => (hoth g (fun e2 => M.shun i hi (by rw [hg', e2]))).trans (hg.block g (World.ownsRow.lt (M.row i hi) g hg').2 (fun e2 => ?_)))
      rcases M.apart i j hi hj e with h | h
      · rw [h] at hg'; cases hg'
      · exact h (by rw [hg', e2])
  · unfold setF
    by_cases e1 : i = j
    · rw [if_pos e1, if_neg (by omega)]
      rcases hold k hk (by omega) with h | h
      · by_cases hz : u'.ownBlock = none
        · exact .inl hz
        · exact .inr (fun h2 => hz (h2.trans h))
      · exact .inr (fun h2 => h h2.symm)
    · by_cases e2 : k = j
      · rw [if_neg e1, if_pos e2]
        exact hold i hi e1
      · rw [if_neg e1, if_neg e2]
        exact M.apart i k hi hk hne
  · unfold setF
    by_cases e1 : i = j
    · rw [if_pos e1]; exact hs'
    · rw [if_neg e1]; exact M.shun i hi
end
end Go.Proofs.Ytjnohnbppkhbaaa
