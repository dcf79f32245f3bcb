/-
  What the program's Groups holds while it goes over the things.
-/
import Derived.Test.YtfofidbgjfmepaaStI
namespace Go.Proofs.Ytfofidbgjfmepaa
open Go.RowKit

structure Gr (w0 : World) (F : Nat → Prop) (sb : Nat) (s : St) (tv av : Value) (bm : Nat) (D : DataW Unit) (w : World) (gv : Value) (us : List Value) (ls : List (List Int)) (nums ah : List Nat) : Prop where
  rep : Rep w F sb s tv av bm D ah
  only : Only F w0 w
  num : w.ownsRow w0.heap.size 3 1 (.slice (some ⟨w0.heap.size, 0, none⟩) s.ts.length s.ts.length) s.ts.length ((natsI nums).map (Value.int .i64))
  nlen : nums.length = s.ts.length
  grid : Grid w w0.heap.size (some w0.heap.size) gv us ls
  flt : ∀ k, F k → k < w0.heap.size

theorem Grid.at_ {w : World} {base : Nat} {nb : Option Nat} {v : Value} {us : List Value} {ls : List (List Int)} (h : Grid w base nb v us ls) {j : Nat} (hj : j < ls.length) :
    ∃ gb cap, v = .slice (some ⟨gb, 0, none⟩) ls.length cap ∧ base ≤ gb ∧ gb < w.heap.size ∧ (∀ j, j < ls.length → w.cell? ⟨gb, j, none⟩ = some (getV us j)) ∧ ∀ j, w.frozen? ⟨gb, j, none⟩ = false := by
  have hl := h.len
  have ho := h.own
  rcases ho.2 with ⟨_, h0⟩ | ⟨g, cap, cur, rfl, hb, hg, _, _, _⟩
  · omega
  · refine ⟨g, cap, by rw [hl], hb, (Array.getElem?_eq_some_iff.1 hg).1, fun j hj => ?_, fun j => ho.frozenAt j⟩
    rw [ho.cellAt j (by omega)]
    unfold getV
    rw [List.getD_eq_getElem?_getD, List.getElem?_eq_getElem (by omega)]
    rfl

theorem Grid.at_' {w : World} {base : Nat} {nb : Option Nat} {us : List Value} {ls : List (List Int)} {A : Option Addr} {n cap : Nat} (h : Grid w base nb (.slice A n cap) us ls) {j : Nat} (hj : j < ls.length) :
    ∃ gb, A = some ⟨gb, 0, none⟩ ∧ n = ls.length ∧ w.cell? ⟨gb, j, none⟩ = some (getV us j) ∧ w.frozen? ⟨gb, j, none⟩ = false := by
  obtain ⟨gb, cap', hv, _, _, hc, hz⟩ := h.at_ hj
  simp only [Value.slice.injEq] at hv
  exact ⟨gb, hv.1, hv.2.1, hc j hj, hz j⟩

variable {w0 w w1 : World} {F : Nat → Prop} {sb bm : Nat} {s : St} {tv av gv : Value} {D : DataW Unit} {us : List Value} {ls : List (List Int)} {nums ah : List Nat}

theorem Only.of_base {B : Nat} (hb : Below B w w1) : Only (fun k => B ≤ k) w w1 := ⟨hb.os, hb.tape, hb.output, hb.size, fun k _ hf => hb.block k (by omega)⟩

/-- What lies from the call's first block on has been written. -/
theorem Gr.rest (G : Gr w0 F sb s tv av bm D w gv us ls nums ah) (hb : Below w0.heap.size w w1) : Rep w1 F sb s tv av bm D ah ∧ Only F w0 w1 :=
  ⟨G.rep.same (fun k hk => hb.block k (G.flt k hk)) hb.size, G.only.trans (Only.of_base hb) (fun i hi h => absurd h (by omega))⟩

theorem Gr.first (G : Gr w0 F sb s tv av bm D w gv us ls nums ah) {ah' : List Nat} (R : Rep w1 F sb s tv av bm D ah') (hO : Only F w w1) : Gr w0 F sb s tv av bm D w1 gv us ls nums ah' :=
  ⟨R, G.only.trans' hO, own_block G.num (fun g hg => hO.block g (G.num.lt g hg).2 (fun f => by have := G.flt g f; have := (G.num.lt g hg).1; omega)), G.nlen,
    G.grid.same (fun g h1 h2 => hO.block g h2 (fun f => by have := G.flt g f; omega)), G.flt⟩

theorem Gr.below (G : Gr w0 F sb s tv av bm D w gv us ls nums ah) (hb : Below w.heap.size w w1) : Gr w0 F sb s tv av bm D w1 gv us ls nums ah :=
  G.first (G.rep.below hb) (Only.of_below hb)

theorem Gr.size (G : Gr w0 F sb s tv av bm D w gv us ls nums ah) : w0.heap.size ≤ w.heap.size := G.only.size

theorem Gr.number (G : Gr w0 F sb s tv av bm D w gv us ls nums ah) (k m : Nat) :
    Gr w0 F sb s tv av bm D (w.setCell ⟨w0.heap.size, k, none⟩ (.int .i64 (m : Int))) gv us ls (nums.set k m) ah := by
  have hst := (G.num.stored k (.int .i64 (m : Int))).1
  have hb : Below w0.heap.size w (w.setCell ⟨w0.heap.size, k, none⟩ (.int .i64 (m : Int))) := (Below.refl _ w).setCell (p := ⟨w0.heap.size, k, none⟩) (Nat.le_refl _) _
  obtain ⟨r1, r2⟩ := G.rest hb
  refine ⟨r1, r2, ?_, by rw [List.length_set]; exact G.nlen, G.grid.other rfl (fun e => ?_) _, G.flt⟩
  · rw [natsI_set, List.map_set]; exact hst
  · rcases own_types G.grid.own G.num (by decide) with e1 | e1
    · rw [e1] at e; cases e
    · exact e1 e

theorem Gr.push (G : Gr w0 F sb s tv av bm D w gv us ls nums ah) {gv' : Value} (hg : w.grownBy w1 gv.ownBlock) (ho : w1.ownsRow w0.heap.size 32 1 gv' (us.length + 1) (us ++ [.slice none 0 0])) :
    Gr w0 F sb s tv av bm D w1 gv' (us ++ [.slice none 0 0]) (ls ++ [[]]) nums ah := by
  have hb : Below w0.heap.size w w1 := (Below.refl _ w).grown hg G.size (fun k hk => (G.grid.own.lt k hk).1)
  obtain ⟨r1, r2⟩ := G.rest hb
  refine ⟨r1, r2, G.num.kept hg ?_, G.nlen, G.grid.push hg ho, G.flt⟩
  exact own_types G.num G.grid.own (by decide)

theorem Gr.put (G : Gr w0 F sb s tv av bm D w gv us ls nums ah) {gb n cap j : Nat} (hv : gv = .slice (some ⟨gb, 0, none⟩) n cap) (hj : j < ls.length) {u' : Value} {x : Int} (hg : w.grownBy w1 (getV us j).ownBlock)
    (ho : w1.ownsRow w0.heap.size 3 1 u' ((getL ls j).length + 1) ((getL ls j).map (Value.int .i64) ++ [.int .i64 x])) (hat : u'.ownBlock = (getV us j).ownBlock ∨ u'.ownBlock = some w.heap.size) :
    Gr w0 F sb s tv av bm D (w1.setCell ⟨gb, j, none⟩ u') gv (us.set j u') (ls.set j (getL ls j ++ [x])) nums ah ∧ w1.cell? ⟨gb, j, none⟩ = some (getV us j) ∧ w1.frozen? ⟨gb, j, none⟩ = false := by
  have hsz := G.size
  have hgr := G.grid.put hv hj hg ho hat (fun b hb => by cases hb; exact (G.num.lt _ rfl).2)
  obtain ⟨gb', cap', hv', hgb, hlt, hc, hz⟩ := G.grid.at_ hj
  rw [hv] at hv'
  simp only [Value.slice.injEq, Option.some.injEq, Addr.mk.injEq] at hv'
  obtain ⟨⟨rfl, _⟩, _⟩ := hv'
  have hb1 : Below w0.heap.size w w1 := (Below.refl _ w).grown hg hsz (fun k hk => ((G.grid.each j hj).lt k hk).1)
  have hb : Below w0.heap.size w (w1.setCell ⟨gb, j, none⟩ u') := hb1.setCell hgb _
  obtain ⟨r1, r2⟩ := G.rest hb
  have hgbne : (getV us j).ownBlock ≠ some gb := by
    rcases own_types (G.grid.each j hj) G.grid.own (by decide) with e | e
    · rw [e]; simp
    · intro e1; exact e (by rw [e1, hv]; rfl)
  have hblk : w1.heap[gb]? = w.heap[gb]? := hg.block gb hlt (fun e => hgbne e.symm)
  refine ⟨⟨r1, r2, own_block (G.num.kept hg ?_) (fun g hgk => Below.heap_setCell _ _ _ _ (fun e => ?_)), G.nlen, hgr, G.flt⟩, (World.cell?_of_block (a := ⟨gb, j, none⟩) hblk).trans (hc j hj), (World.frozen?_of_block (a := ⟨gb, j, none⟩) hblk).trans (hz j)⟩
  · right
    intro e
    rcases G.grid.shun j hj with e1 | e1
    · rw [e1] at e; cases e
    · exact e1 e.symm
  · rcases own_types G.num G.grid.own (by decide) with e1 | e1
    · rw [e1] at hgk; cases hgk
    · exact e1 (by rw [hgk, hv, e]; rfl)

theorem Gr.start {tv av : Value} {bm : Nat} {D : DataW Unit} {ah : List Nat} (R : Rep w F sb s tv av bm D ah) (hl : s.ts.length ≤ 1000000) :
    Gr w F sb s tv av bm D (w.alloc (.cells (madeCells #[.int .i64 0] s.ts.length) 3)) (.slice none 0 0) [] [] (List.replicate s.ts.length 0) ah := by
  have hb : Below w.heap.size w (w.alloc (.cells (madeCells #[.int .i64 0] s.ts.length) 3)) := below_alloc _
  refine ⟨R.below hb, Only.of_below hb, ?_, by simp, Grid.start _ _ _, R.flt⟩
  have := World.ownsRow_lit (base := w.heap.size) (e := 3) (size := 1) w (madeCells #[.int .i64 0] s.ts.length) s.ts.length (Nat.le_refl _) (by unfold maxLen; omega) (by simp [madeCells])
  rw [toList_madeCells_one] at this
  simpa [natsI] using this

theorem Gr.num_cell (G : Gr w0 F sb s tv av bm D w gv us ls nums ah) {j : Nat} (hj : j < s.ts.length) : w.cell? ⟨w0.heap.size, j, none⟩ = some (.int .i64 (getN nums j : Int)) ∧ w.frozen? ⟨w0.heap.size, j, none⟩ = false := by
  refine ⟨?_, G.num.frozenAt j⟩
  rw [G.num.cellAt j (by omega), ints_get .i64 (natsI nums) j (by rw [natsI_length, G.nlen]; exact hj), natsI_get nums j (by rw [G.nlen]; exact hj)]

theorem St.laid_len (s : St) (k j : Nat) : (getL (s.laid k) j).length ≤ k := by
  have hm : ∀ g, (s.memb k g).length ≤ k := fun g => by
    unfold St.memb
    rw [List.length_map]
    exact Nat.le_trans (List.length_filter_le _ _) (by simp)
  have hL : ∀ l ∈ s.laid k, l.length ≤ k := by
    intro l hl
    unfold St.laid St.groupsTo at hl
    split at hl
    · rcases List.mem_append.1 hl with h | h
      · obtain ⟨g, _, rfl⟩ := List.mem_map.1 h
        exact hm g
      · simp at h; subst h; simp
    · obtain ⟨g, _, rfl⟩ := List.mem_map.1 hl
      exact hm g
  unfold getL
  by_cases hj : j < (s.laid k).length
  · rw [List.getD_eq_getElem?_getD, List.getElem?_eq_getElem hj]
    exact hL _ (List.getElem_mem _)
  · rw [List.getD_eq_getElem?_getD, List.getElem?_eq_none (by omega)]
    simp

end Go.Proofs.Ytfofidbgjfmepaa
