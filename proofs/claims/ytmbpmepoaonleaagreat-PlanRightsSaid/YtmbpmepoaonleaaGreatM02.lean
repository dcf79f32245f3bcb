/-
  GrA, GrB, GrM, GrC, GrD, in one text.
-/
import Derived.Test.YtmbpmepoaonleaaGreatM01
import Derived.Deep.QuietTactic
import Derived.BigQuiet
import Derived.Maps.AppendAt
import Derived.Lib.SmallJoins
/-! Graphs and parts as they lie in memory; a graph's error, by plain mathematics. -/
namespace Go.Proofs.YtmbpmepoaonleaaGreat
open Go.RowKit

/-- An edge's ends. -/
structure Ed where
  a : Int
  b : Int
instance : Inhabited Ed := ⟨⟨0, 0⟩⟩

def getE (l : List Ed) (j : Nat) : Ed := l.getD j ⟨0, 0⟩

theorem getE_of (l : List Ed) (j : Nat) (h : j < l.length) : getE l j = l[j] := by unfold getE; simp [h]
theorem mem_getE (l : List Ed) (j : Nat) (h : j < l.length) : getE l j ∈ l := by rw [getE_of l j h]; exact List.getElem_mem h

/-- The slice value v reads as the edges l. -/
def Edges (w : World) (v : Value) (l : List Ed) : Prop :=
  ∃ A cap, v = .slice A l.length cap ∧ l.length ≤ cap ∧ cap ≤ maxLen ∧
    (0 < l.length → ∃ b off, A = some ⟨b, off, none⟩ ∧ b < w.heap.size ∧ ∀ j, j < l.length →
      w.cell? ⟨b, off + j * 2, none⟩ = some (.int .i64 (getE l j).a) ∧ w.cell? ⟨b, off + j * 2 + 1, none⟩ = some (.int .i64 (getE l j).b))

theorem Edges.below {w w' : World} {v : Value} {l : List Ed} (h : Edges w v l) (hb : Below w.heap.size w w') : Edges w' v l := by
  obtain ⟨A, cap, rfl, hc, hm, hr⟩ := h
  refine ⟨A, cap, rfl, hc, hm, fun h0 => ?_⟩
  obtain ⟨b, off, hA, hlt, hg⟩ := hr h0
  exact ⟨b, off, hA, Nat.lt_of_lt_of_le hlt hb.size, fun j hj => ⟨(hb.cell (p := ⟨b, off + j * 2, none⟩) hlt).trans (hg j hj).1, (hb.cell (p := ⟨b, off + j * 2 + 1, none⟩) hlt).trans (hg j hj).2⟩⟩

theorem Edges.nil {w : World} : Edges w (.slice none 0 0) [] := ⟨none, 0, rfl, Nat.le_refl _, by unfold maxLen; omega, fun h => absurd h (by simp)⟩

theorem Edges.form {w : World} {v : Value} {l : List Ed} (h : Edges w v l) : ∃ A c, v = .slice A l.length c := by
  obtain ⟨A, c, e, _⟩ := h
  exact ⟨A, c, e⟩
theorem ints_form {w : World} {v : Value} {l : List Int} (h : Ints w v l) : ∃ A c, v = .slice A l.length c := by
  obtain ⟨A, c, e, _⟩ := h
  exact ⟨A, c, e⟩
/-- A place's cell, where the slice is written out. -/
theorem ints_at {w : World} {l : List Int} {A : Option Addr} {n c : Nat} (h : Ints w (.slice A n c) l) {j : Nat} (hj : j < l.length) :
    ∃ b off, A = some ⟨b, off, none⟩ ∧ b < w.heap.size ∧ w.cell? ⟨b, off + j, none⟩ = some (.int .i64 (getI l j)) := by
  obtain ⟨A', c', e, _, _, hr⟩ := h
  cases e
  obtain ⟨b, off, hA, hb, hc⟩ := hr (by omega)
  exact ⟨b, off, hA, hb, hc j hj⟩
theorem edges_at {w : World} {l : List Ed} {A : Option Addr} {n c : Nat} (h : Edges w (.slice A n c) l) {j : Nat} (hj : j < l.length) :
    ∃ b off, A = some ⟨b, off, none⟩ ∧ b < w.heap.size ∧ w.cell? ⟨b, off + j * 2, none⟩ = some (.int .i64 (getE l j).a) ∧ w.cell? ⟨b, off + j * 2 + 1, none⟩ = some (.int .i64 (getE l j).b) := by
  obtain ⟨A', c', e, _, _, hr⟩ := h
  cases e
  obtain ⟨b, off, hA, hb, hc⟩ := hr (by omega)
  exact ⟨b, off, hA, hb, (hc j hj).1, (hc j hj).2⟩
theorem ints_cap {w : World} {l : List Int} {A : Option Addr} {n c : Nat} (h : Ints w (.slice A n c) l) : n = l.length ∧ n ≤ c ∧ c ≤ maxLen := by
  obtain ⟨A', c', e, h1, h2, _⟩ := h
  cases e
  exact ⟨rfl, h1, h2⟩

/-- A graph. -/
structure Gph where
  n : Int
  e : List Ed
/-- A part. -/
structure Prt where
  v : List Int
  e : List Int

def Gr (w : World) (v : Value) (g : Gph) : Prop := ∃ ve, v = .agg #[.int .i64 g.n, ve] ∧ Edges w ve g.e
def Pt (w : World) (v : Value) (p : Prt) : Prop := ∃ vv ve, v = .agg #[vv, ve] ∧ Ints w vv p.v ∧ Ints w ve p.e

theorem Gr.below {w w' : World} {v : Value} {g : Gph} (h : Gr w v g) (hb : Below w.heap.size w w') : Gr w' v g := by
  obtain ⟨ve, e, h1⟩ := h
  exact ⟨ve, e, h1.below hb⟩
theorem Pt.below {w w' : World} {v : Value} {p : Prt} (h : Pt w v p) (hb : Below w.heap.size w w') : Pt w' v p := by
  obtain ⟨vv, ve, e, h1, h2⟩ := h
  exact ⟨vv, ve, e, h1.below hb, h2.below hb⟩
theorem Pt.nil {w : World} : Pt w (.agg #[.slice none 0 0, .slice none 0 0]) ⟨[], []⟩ := ⟨_, _, rfl, Ints.nil, Ints.nil⟩

/-! ### A graph's error -/

def inB (x n : Int) : Bool := decide (0 ≤ x ∧ x < n)
def edOk (n : Int) (e : Ed) : Bool := inB e.a n && inB e.b n

/-- The error's number: 0, 2, 3. -/
def Gph.err (g : Gph) : Int := if g.n < 0 then 3 else if g.n > 1024 - (g.e.length : Int) then 2 else if g.e.all (edOk g.n) then 0 else 3

def allE (n : Int) (l : List Ed) (k : Nat) : Prop := ∀ j, j < k → edOk n (getE l j) = true

theorem allE_all (n : Int) (l : List Ed) (h : allE n l l.length) : l.all (edOk n) = true := by
  rw [List.all_eq_true]
  intro e he
  obtain ⟨j, hj, rfl⟩ := List.mem_iff_getElem.1 he
  rw [← getE_of l j hj]
  exact h j hj
theorem allE_not (n : Int) (l : List Ed) (k : Nat) (hk : k < l.length) (h : edOk n (getE l k) = false) : l.all (edOk n) = false := by
  rw [Bool.eq_false_iff]
  intro ha
  rw [List.all_eq_true] at ha
  have := ha _ (mem_getE l k hk)
  rw [h] at this; cases this

theorem below_alloc {w : World} (o : Obj) : Below w.heap.size w (w.alloc o) := (Below.refl _ w).alloc (Nat.le_refl _) o

theorem cell_two0 (W : World) (u v : Value) (t : TypeId) : (W.alloc (.cells #[u, v] t)).cell? ⟨W.heap.size, 0, none⟩ = some u := cell_of_row _ _ 0 #[u, v] t (0, 0) (heap_alloc_new W _)
theorem cell_two1 (W : World) (u v : Value) (t : TypeId) : (W.alloc (.cells #[u, v] t)).cell? ⟨W.heap.size, 1, none⟩ = some v := cell_of_row _ _ 1 #[u, v] t (0, 0) (heap_alloc_new W _)

/-- A new block of two cells, as a variable or a parameter lies in it. -/
structure Box (w : World) (b : Nat) (u v : Value) : Prop where
  c0 : w.cell? ⟨b, 0, none⟩ = some u
  c1 : w.cell? ⟨b, 1, none⟩ = some v
  lt : b < w.heap.size
  thaw : ∀ i, w.frozen? ⟨b, i, none⟩ = false
theorem Box.below {w w' : World} {b : Nat} {u v : Value} (h : Box w b u v) (hb : Below w.heap.size w w') : Box w' b u v :=
  ⟨(hb.cell (p := ⟨b, 0, none⟩) h.lt).trans h.c0, (hb.cell (p := ⟨b, 1, none⟩) h.lt).trans h.c1, Nat.lt_of_lt_of_le h.lt hb.size, fun i => (hb.frozen (p := ⟨b, i, none⟩) h.lt).trans (h.thaw i)⟩
theorem one_box (w : World) (u v : Value) (t : TypeId) : Box (w.alloc (.cells #[u, v] t)) w.heap.size u v ∧ Below w.heap.size w (w.alloc (.cells #[u, v] t)) :=
  ⟨⟨cell_two0 _ _ _ _, cell_two1 _ _ _ _, by simp, fun i => new_thaw _ _ _ _⟩, below_alloc _⟩
/-- Both cells have been written. -/
theorem Box.stored {w : World} {b : Nat} {u v : Value} (h : Box w b u v) (u' v' : Value) : Box ((w.setCell ⟨b, 0, none⟩ u').setCell ⟨b, 1, none⟩ v') b u' v' := by
  have e0 : (w.setCell ⟨b, 0, none⟩ u').cell? ⟨b, 0, none⟩ = some u' := World.cell?_setCell_same _ _ _ h.c0
  have e1 : (w.setCell ⟨b, 0, none⟩ u').cell? ⟨b, 1, none⟩ = some v := (World.cell?_setCell_other _ _ _ _ (by simp)).trans h.c1
  refine ⟨(World.cell?_setCell_other _ _ _ _ (by simp)).trans e0, World.cell?_setCell_same _ _ _ e1, by simpa [World.setCell] using h.lt, fun i => ?_⟩
  rw [World.frozen?_setCell, World.frozen?_setCell]
  exact h.thaw i
theorem below_stored {n : Nat} {w0 w : World} {b : Nat} {u' v' : Value} (h : Below n w0 w) (hb : n ≤ b) : Below n w0 ((w.setCell ⟨b, 0, none⟩ u').setCell ⟨b, 1, none⟩ v') :=
  (h.setCell (p := ⟨b, 0, none⟩) hb u').setCell (p := ⟨b, 1, none⟩) hb v'
theorem two_boxes (w : World) (u v u' v' : Value) (t t' : TypeId) :
    Box ((w.alloc (.cells #[u, v] t)).alloc (.cells #[u', v'] t')) w.heap.size u v ∧ Box ((w.alloc (.cells #[u, v] t)).alloc (.cells #[u', v'] t')) (w.heap.size + 1) u' v' ∧
      Below w.heap.size w ((w.alloc (.cells #[u, v] t)).alloc (.cells #[u', v'] t')) := by
  obtain ⟨h1, h2⟩ := one_box w u v t
  obtain ⟨h3, h4⟩ := one_box (w.alloc (.cells #[u, v] t)) u' v' t'
  have e : (w.alloc (.cells #[u, v] t)).heap.size = w.heap.size + 1 := by simp
  rw [e] at h3
  exact ⟨h1.below h4, h3, h2.trans (h4.mono (by omega))⟩
theorem three_boxes (w : World) (u v u' v' u2 v2 : Value) (t t' t2 : TypeId) :
    Box (((w.alloc (.cells #[u, v] t)).alloc (.cells #[u', v'] t')).alloc (.cells #[u2, v2] t2)) w.heap.size u v ∧ Box (((w.alloc (.cells #[u, v] t)).alloc (.cells #[u', v'] t')).alloc (.cells #[u2, v2] t2)) (w.heap.size + 1) u' v' ∧
      Box (((w.alloc (.cells #[u, v] t)).alloc (.cells #[u', v'] t')).alloc (.cells #[u2, v2] t2)) (w.heap.size + 2) u2 v2 ∧
      Below w.heap.size w (((w.alloc (.cells #[u, v] t)).alloc (.cells #[u', v'] t')).alloc (.cells #[u2, v2] t2)) := by
  obtain ⟨h1, h2, h3⟩ := two_boxes w u v u' v' t t'
  obtain ⟨h4, h5⟩ := one_box ((w.alloc (.cells #[u, v] t)).alloc (.cells #[u', v'] t')) u2 v2 t2
  have e : ((w.alloc (.cells #[u, v] t)).alloc (.cells #[u', v'] t')).heap.size = w.heap.size + 2 := by simp
  rw [e] at h4
  exact ⟨h1.below h5, h2.below h5, h4, h3.trans (h5.mono (by omega))⟩

theorem below_any (x n : Int) (w : World) :
    Calls Tryz.prog 125 #[.int .i64 x, .int .i64 n] w fun e w' => e = .returned (.bool (inB x n)) ∧ w = w' := by
  by_cases h0 : 0 ≤ x
  · by_cases h1 : x < n
    · have HN : Hid (inB x n = true) := decide_eq_true ⟨h0, h1⟩
      go_enter Tryz.func125, Tryz.ntmps125
      go_wp2
      go_ret
      exact ⟨ret_bool HN.out.symm, rfl⟩
    · have HN : Hid (inB x n = false) := decide_eq_false (fun h => h1 h.2)
      go_enter Tryz.func125, Tryz.ntmps125
      go_wp2
      go_ret
      exact ⟨ret_bool HN.out.symm, rfl⟩
  · have HN : Hid (inB x n = false) := decide_eq_false (fun h => h0 h.1)
    go_enter Tryz.func125, Tryz.ntmps125
    go_wp2
    go_ret
    exact ⟨ret_bool HN.out.symm, rfl⟩

set_option maxRecDepth 100000 in
set_option maxHeartbeats 1000000 in
theorem right_any (v : Value) (g : Gph) (w : World) (h : Gr w v g) (hl : g.e.length ≤ 1000000) :
    Calls Tryz.prog 98 #[v] w fun e w' => e = .returned (.int .i64 g.err) ∧ Below w.heap.size w w' := by
  obtain ⟨n, l⟩ := g
  obtain ⟨ve, rfl, h1⟩ := h
  simp only at h1 hl ⊢
  obtain ⟨A, cap, rfl, hcap, _, hcell⟩ := h1.below (below_alloc (.cells #[.int .i64 n, ve] 24))
  have hlp : (0 : Int) ≤ (l.length : Int) := by omega
  by_cases hn : n < 0
  · have HN : Hid (Gph.err ⟨n, l⟩ = 3) := if_pos hn
    go_enter Tryz.func98, Tryz.ntmps98
    go_wp2
    go_ret
    exact ⟨ret_int HN.out.symm, below_alloc _⟩
  by_cases hb : n > 1024 - (l.length : Int)
  · have HN : Hid (Gph.err ⟨n, l⟩ = 2) := (if_neg hn).trans (if_pos hb)
    go_enter Tryz.func98, Tryz.ntmps98
    go_wp2
    go_ret
    exact ⟨ret_int HN.out.symm, below_alloc _⟩
  have HE : Hid (Gph.err ⟨n, l⟩ = if l.all (edOk n) then 0 else 3) := (if_neg hn).trans (if_neg hb)
  have hm := (below_alloc (w := w) (.cells #[.int .i64 n, .slice A l.length cap] 24))
  have c0 := cell_two0 w (.int .i64 n) (.slice A l.length cap) 24
  have hlt0 : w.heap.size < (w.alloc (.cells #[.int .i64 n, .slice A l.length cap] 24)).heap.size := by simp
  go_enter Tryz.func98, Tryz.ntmps98
  go_wp2
  generalize w.alloc (.cells #[.int .i64 n, .slice A l.length cap] 24) = w1 at *
  go_loopw [20] (fun i wr => ∃ k : Nat, k ≤ l.length ∧ i = .int .i64 k ∧ Below w1.heap.size w1 wr ∧ Hid (allE n l k)) (fun i _ => l.length - (Go.RowKit.intOf i).toNat)
  case atStart => exact ⟨0, Nat.zero_le _, rfl, Below.refl _ _, Lib.hid (fun j hj => absurd hj (Nat.not_lt_zero _))⟩
  case round =>
    obtain ⟨k, hk, rfl, hB, hA⟩ := hrel
    by_cases hlt : k < l.length
    · obtain ⟨b, off, rfl, hb1, hc⟩ := hcell (by omega)
      obtain ⟨hca, hcb⟩ := hc k hlt
      have ga := (hB.cell (p := ⟨b, off + k * 2, none⟩) hb1).trans hca
      have gb := (hB.cell (p := ⟨b, off + k * 2 + 1, none⟩) hb1).trans hcb
      have g0 := (hB.cell (p := ⟨w.heap.size, 0, none⟩) hlt0).trans c0
      have hB2 := hB.alloc hB.size (.cells #[.int .i64 (getE l k).a, .int .i64 (getE l k).b] 109)
      have g1 := old_cell (.cells #[.int .i64 (getE l k).a, .int .i64 (getE l k).b] 109) g0
      have hmm := hm.trans (hB2.mono hm.size)
      have HO : Hid (inB (getE l k).a n = true → inB (getE l k).b n = true → allE n l (k + 1)) := fun h1 h2 j hj => by
        by_cases e : j = k
        · subst e; simp [edOk, h1, h2]
        · exact hA.out j (by omega)
      have HF : Hid (edOk n (getE l k) = false → Gph.err ⟨n, l⟩ = 3) := fun h => by rw [HE.out, allE_not n l k hlt h]; rfl
      have HX : Hid (edOk n (getE l k) = (inB (getE l k).a n && inB (getE l k).b n)) := rfl
      clear hc hcell hca hcb c0 hA HE
      go_wp2_with fail
      refine (below_any _ _ _).mono ?_
      rintro e w2 ⟨rfl, rfl⟩
      by_cases ha : inB (getE l k).a n = true
      · by_cases hb2 : inB (getE l k).b n = true
        · have HOK := Lib.hid (HO.out ha hb2)
          rw [ha]
          have HB3 := Lib.hid hb2
          clear ha hb2
          go_wp2_with fail
          refine (below_any _ _ _).mono ?_
          rintro e w2 ⟨rfl, rfl⟩
          rw [HB3.out]
          go_wp2
          go_roundw
          case rel => exact ⟨k + 1, by omega, by go_num, hB2, HOK⟩
          case measure => simp [Go.RowKit.intOf]; omega
        · have HB3 := Lib.hid (Bool.eq_false_iff.2 hb2)
          have HOK : Hid (Gph.err ⟨n, l⟩ = 3) := HF.out (by rw [HX.out, HB3.out, Bool.and_false])
          rw [ha]
          clear ha hb2
          go_wp2_with fail
          refine (below_any _ _ _).mono ?_
          rintro e w2 ⟨rfl, rfl⟩
          rw [HB3.out]
          go_wp2
          go_ret
          exact ⟨ret_int HOK.out.symm, hmm⟩
      · have HB3 := Lib.hid (Bool.eq_false_iff.2 ha)
        have HOK : Hid (Gph.err ⟨n, l⟩ = 3) := HF.out (by rw [HX.out, HB3.out, Bool.false_and])
        clear ha
        rw [HB3.out]
        go_wp2
        go_ret
        exact ⟨ret_int HOK.out.symm, hmm⟩
    · obtain rfl : k = l.length := by omega
      have HK : Hid (Gph.err ⟨n, l⟩ = 0) := by rw [HE.out, allE_all n l hA.out]; rfl
      go_wp2
      go_ret
      exact ⟨ret_int HK.out.symm, hm.trans (hB.mono hm.size)⟩

end Go.Proofs.YtmbpmepoaonleaaGreat

/-! Lists that rise, and whether a number is in a list: the program's and the document's. -/
namespace Go.Proofs.YtmbpmepoaonleaaGreat
open Go.RowKit

/-- The first k numbers rise, from 0 to n - 1. -/
def RisesTo (l : List Int) (n : Int) (k : Nat) : Prop := ∀ j, j < k → 0 ≤ getI l j ∧ getI l j < n ∧ (0 < j → getI l (j - 1) < getI l j)
def Rises (l : List Int) (n : Int) : Prop := RisesTo l n l.length
instance (l : List Int) (n : Int) : Decidable (Rises l n) := by unfold Rises RisesTo; infer_instance
def riseB (l : List Int) (n : Int) : Bool := decide (Rises l n)

/-- The number ahead of place k; -1 ahead of the first. -/
def ahead (l : List Int) (k : Nat) : Int := if k = 0 then -1 else getI l (k - 1)
theorem ahead_zero (l : List Int) : ahead l 0 = -1 := rfl
theorem ahead_succ (l : List Int) (k : Nat) : ahead l (k + 1) = getI l k := by unfold ahead; simp

theorem RisesTo.succ {l : List Int} {n : Int} {k : Nat} (h : RisesTo l n k) (h1 : ahead l k < getI l k) (h2 : getI l k < n) : RisesTo l n (k + 1) := by
  intro j hj
  by_cases e : j = k
  · subst e
    by_cases e0 : j = 0
    · subst e0
      rw [ahead_zero] at h1
      exact ⟨by omega, h2, fun h => absurd h (by omega)⟩
    · have h3 := h (j - 1) (by omega)
      unfold ahead at h1
      rw [if_neg e0] at h1
      exact ⟨by omega, h2, fun _ => h1⟩
  · exact h j (by omega)
theorem not_rises {l : List Int} {n : Int} {k : Nat} (hk : k < l.length) (h : ¬ (ahead l k < getI l k ∧ getI l k < n)) : riseB l n = false := by
  refine decide_eq_false (fun hr => h ?_)
  have h1 := hr k hk
  refine ⟨?_, h1.2.1⟩
  unfold ahead
  by_cases e : k = 0
  · rw [if_pos e]; omega
  · rw [if_neg e]; exact h1.2.2 (by omega)
theorem rises_all {l : List Int} {n : Int} (h : RisesTo l n l.length) : riseB l n = true := decide_eq_true h

set_option maxRecDepth 100000 in
set_option maxHeartbeats 1000000 in
theorem rise_any (v : Value) (l : List Int) (n : Int) (w : World) (h : Ints w v l) (hl : l.length ≤ 1000000) :
    Calls Tryz.prog 99 #[v, .int .i64 n] w fun e w' => e = .returned (.bool (riseB l n)) ∧ w = w' := by
  obtain ⟨A, cap, rfl, hcap, _, hcell⟩ := h
  have HM := Lib.hid (fun k (hk : k < l.length) (h : ¬ (ahead l k < getI l k ∧ getI l k < n)) => not_rises (n := n) hk h)
  go_enter Tryz.func99, Tryz.ntmps99
  go_wp2
  go_loop [5, 10] (fun p i => ∃ k : Nat, k ≤ l.length ∧ i = .int .i64 k ∧ p = .int .i64 (ahead l k) ∧ Hid (RisesTo l n k)) (fun _ i => l.length - (Go.RowKit.intOf i).toNat)
  case atStart => exact ⟨0, Nat.zero_le _, rfl, rfl, Lib.hid (fun j hj => absurd hj (Nat.not_lt_zero _))⟩
  case round =>
    obtain ⟨k, hk, rfl, rfl, hr⟩ := hrel
    by_cases hlt : k < l.length
    · obtain ⟨b, off, rfl, hb, hc⟩ := hcell (by omega)
      have hck := hc k hlt
      have HS := Lib.hid (ahead_succ l k)
      have HR := Lib.hid (fun h1 h2 => hr.out.succ h1 h2)
      have HF := Lib.hid (fun h => HM.out k hlt h)
      clear hc hcell HM hr
      generalize getI l k = x at *
      generalize ahead l k = y at *
      by_cases h1 : y < x
      · by_cases h2 : x < n
        · have HK := Lib.hid (HR.out h1 h2)
          go_wp2
          go_round
          case rel => exact ⟨k + 1, by omega, by go_num, by rw [HS.out], HK⟩
          case measure => simp [Go.RowKit.intOf]; omega
        · have HK := Lib.hid (HF.out (fun h => h2 h.2))
          go_wp2
          go_ret
          exact ⟨ret_bool HK.out.symm, rfl⟩
      · have HK := Lib.hid (HF.out (fun h => h1 h.1))
        go_wp2
        go_ret
        exact ⟨ret_bool HK.out.symm, rfl⟩
    · obtain rfl : k = l.length := by omega
      have HK := Lib.hid (rises_all hr.out)
      go_wp2
      go_ret
      exact ⟨ret_bool HK.out.symm, rfl⟩

set_option maxRecDepth 100000 in
set_option maxHeartbeats 1000000 in
theorem in_any (v : Value) (l : List Int) (x : Int) (w : World) (h : Ints w v l) (hl : l.length ≤ 1000000) :
    Calls Tryz.prog 22 #[v, .int .i64 x] w fun e w' => e = .returned (.bool (decide (x ∈ l))) ∧ w = w' := by
  obtain ⟨A, cap, rfl, hcap, _, hcell⟩ := h
  have HN := Lib.hid (fun k (hk : k < l.length) (h : getI l k = x) => (decide_eq_true ((mem_getI l x).2 ⟨k, hk, h⟩) : decide (x ∈ l) = true))
  go_enter Tryz.func22, Tryz.ntmps22
  go_wp2
  go_loop [5] (fun i => ∃ k : Nat, k ≤ l.length ∧ i = .int .i64 k ∧ Hid (∀ j, j < k → getI l j ≠ x)) (fun i => l.length - (Go.RowKit.intOf i).toNat)
  case atStart => exact ⟨0, Nat.zero_le _, rfl, Lib.hid (fun j hj => absurd hj (Nat.not_lt_zero _))⟩
  case round =>
    obtain ⟨k, hk, rfl, hne⟩ := hrel
    by_cases hlt : k < l.length
    · obtain ⟨b, off, rfl, hb, hc⟩ := hcell (by omega)
      have hck := hc k hlt
      clear hc hcell
      by_cases he : getI l k = x
      · have HK := Lib.hid (HN.out k hlt he)
        have he' : (getI l k == x) = true := by simpa using he
        clear he
        go_wp2
        go_ret
        exact ⟨ret_bool HK.out.symm, rfl⟩
      · have HK := Lib.hid he
        have he' : (getI l k == x) = false := by simpa using he
        clear he
        go_wp2
        go_round
        case rel => exact ⟨k + 1, by omega, by go_num, Lib.hid (fun j hj => by
          by_cases e : j = k
          · rw [e]; exact HK.out
          · exact hne.out j (by omega))⟩
        case measure => simp [Go.RowKit.intOf]; omega
    · obtain rfl : k = l.length := by omega
      have HK : Hid (decide (x ∈ l) = false) := decide_eq_false (fun hm => by
        obtain ⟨j, hj, e⟩ := (mem_getI l x).1 hm
        exact hne.out j hj e)
      go_wp2
      go_ret
      exact ⟨ret_bool HK.out.symm, rfl⟩

set_option maxRecDepth 100000 in
set_option maxHeartbeats 2000000 in
theorem rrises_any (v : Value) (l : List Int) (n : Int) (w : World) (h : Ints w v l) (hl : l.length ≤ 1000000) :
    Calls Tryz.prog 88 #[v, .int .i64 n] w fun e w' => e = .returned (.bool (riseB l n)) ∧ ∃ m, w' = w.drewN m := by
  obtain ⟨A, cap, rfl, hcap, _, hcell⟩ := h
  have HM := Lib.hid (fun k (hk : k < l.length) (h : ¬ (ahead l k < getI l k ∧ getI l k < n)) => not_rises (n := n) hk h)
  go_enter Tryz.func88, Tryz.ntmps88
  go_wp2
  go_loopw [5] (fun i wr => ∃ k m : Nat, k ≤ l.length ∧ i = .int .i64 k ∧ wr = w.drewN m ∧ Hid (RisesTo l n k)) (fun i _ => l.length - (Go.RowKit.intOf i).toNat)
  case atStart => exact ⟨0, 0, Nat.zero_le _, rfl, rfl, Lib.hid (fun j hj => absurd hj (Nat.not_lt_zero _))⟩
  case round =>
    obtain ⟨k, m, hk, rfl, rfl, hr⟩ := hrel
    by_cases hlt : k < l.length
    · obtain ⟨b, off, rfl, hb, hc⟩ := hcell (by omega)
      have hck := hc k hlt
      have HR := Lib.hid (fun h1 h2 => hr.out.succ h1 h2)
      have HF := Lib.hid (fun h => HM.out k hlt h)
      by_cases hk0 : k = 0
      · subst hk0
        clear hc hcell HM hr
        rw [ahead_zero] at HR HF
        rw [Nat.add_zero] at hck
        generalize getI l 0 = x at *
        by_cases h1 : x < 0
        · have HK := Lib.hid (HF.out (fun h => by omega))
          clear HF HR
          go_wp2_with fail
          go_quiet (fail)
          go_wp2
          go_ret
          exact ⟨ret_bool HK.out.symm, _, World.drewN_drewN _ _ _⟩
        have d1 : decide (x < 0) = false := by simp; omega
        by_cases h2 : n ≤ x
        · have HK := Lib.hid (HF.out (fun h => by omega))
          clear HF HR
          go_wp2_with fail
          go_quiet (fail)
          go_wp2
          go_ret
          exact ⟨ret_bool HK.out.symm, _, World.drewN_drewN _ _ _⟩
        have HK := Lib.hid (HR.out (by omega) (by omega))
        have d2 : decide (n ≤ x) = false := by simp; omega
        clear HF HR
        go_wp2_with fail
        go_quiet (fail)
        go_wp2
        go_roundw
        case rel => exact ⟨1, _, by omega, by go_num, rfl, HK⟩
        case measure => simp [Go.RowKit.intOf]; omega
      · obtain ⟨i, rfl⟩ : ∃ i, k = i + 1 := ⟨k - 1, by omega⟩
        have hci := hc i (by omega)
        rw [ahead_succ] at HR HF
        have H0 := Lib.hid (hr.out i (by omega)).1
        clear hc hcell HM hr
        generalize getI l (i + 1) = x at *
        generalize getI l i = y at *
        by_cases h1 : x < 0
        · have HK := Lib.hid (HF.out (fun h => by have := H0.out; omega))
          clear HF HR
          go_wp2_with fail
          go_quiet (fail)
          go_wp2
          go_ret
          exact ⟨ret_bool HK.out.symm, _, World.drewN_drewN _ _ _⟩
        have d1 : decide (x < 0) = false := by simp; omega
        by_cases h2 : n ≤ x
        · have HK := Lib.hid (HF.out (fun h => by omega))
          clear HF HR
          go_wp2_with fail
          go_quiet (fail)
          go_wp2
          go_ret
          exact ⟨ret_bool HK.out.symm, _, World.drewN_drewN _ _ _⟩
        have hi1 : decide ((0 : Int) < (i : Int) + 1) = true := decide_eq_true (by omega)
        have d3 : decide (n ≤ x) = false := by simp; omega
        by_cases h3 : x ≤ y
        · have HK := Lib.hid (HF.out (fun h => by omega))
          clear HF HR
          go_wp2_with fail
          go_quiet (fail)
          go_wp2
          go_ret
          exact ⟨ret_bool HK.out.symm, _, World.drewN_drewN _ _ _⟩
        have HK := Lib.hid (HR.out (by omega) (by omega))
        have d2 : decide (n ≤ x) = false := by simp; omega
        clear HF HR
        go_wp2_with fail
        go_quiet (fail)
        go_wp2
        go_roundw
        case rel => exact ⟨i + 1 + 1, _, by omega, by go_num, rfl, HK⟩
        case measure => simp [Go.RowKit.intOf]; omega
    · obtain rfl : k = l.length := by omega
      have HK := Lib.hid (rises_all hr.out)
      go_wp2
      go_ret
      exact ⟨ret_bool HK.out.symm, m, rfl⟩

end Go.Proofs.YtmbpmepoaonleaaGreat

/-! Rising lists, put together: plain mathematics. -/
namespace Go.Proofs.YtmbpmepoaonleaaGreat

def Up (l : List Int) : Prop := l.Pairwise (· < ·)

theorem up_ext : ∀ (l m : List Int), Up l → Up m → (∀ x, x ∈ l ↔ x ∈ m) → l = m
  | [], [], _, _, _ => rfl
  | [], y :: m, _, _, h => absurd ((h y).2 (by simp)) (by simp)
  | x :: l, [], _, _, h => absurd ((h x).1 (by simp)) (by simp)
  | x :: l, y :: m, hl, hm, h => by
    have hl' := List.pairwise_cons.1 hl
    have hm' := List.pairwise_cons.1 hm
    have e : x = y := by
      have h1 := (h x).1 (by simp)
      have h2 := (h y).2 (by simp)
      rcases List.mem_cons.1 h1 with h1 | h1
      · exact h1
      · rcases List.mem_cons.1 h2 with h2 | h2
        · exact h2.symm
        · have := hm'.1 x h1
          have := hl'.1 y h2
          omega
    subst e
    congr 1
    refine up_ext l m hl'.2 hm'.2 fun z => ?_
    have hz := h z
    simp only [List.mem_cons] at hz
    refine ⟨fun h1 => ?_, fun h1 => ?_⟩
    · rcases hz.1 (.inr h1) with h2 | h2
      · have := hl'.1 z h1; omega
      · exact h2
    · rcases hz.2 (.inr h1) with h2 | h2
      · have := hm'.1 z h1; omega
      · exact h2

theorem Rises.up {l : List Int} {n : Int} (h : Rises l n) : Up l := by
  unfold Up
  rw [List.pairwise_iff_getElem]
  have key : ∀ d i, i + d + 1 < l.length → getI l i < getI l (i + d + 1) := by
    intro d
    induction d with
    | zero => intro i hi; exact (h (i + 1) hi).2.2 (by omega)
    | succ d ih =>
      intro i hi
      have h1 := ih i (by omega)
      have h2 := (h (i + d + 1 + 1) (by omega)).2.2 (by omega)
      have e : i + d + 1 + 1 - 1 = i + d + 1 := by omega
      rw [e] at h2
      have e2 : i + (d + 1) + 1 = i + d + 1 + 1 := by omega
      rw [e2]; omega
  intro i j hi hj hij
  have := key (j - i - 1) i (by omega)
  have e : i + (j - i - 1) + 1 = j := by omega
  rw [e, getI_of l i hi, getI_of l j hj] at this
  exact this
theorem Rises.mem {l : List Int} {n : Int} (h : Rises l n) {x : Int} (hx : x ∈ l) : 0 ≤ x ∧ x < n := by
  obtain ⟨j, hj, rfl⟩ := (mem_getI l x).1 hx
  exact ⟨(h j hj).1, (h j hj).2.1⟩
theorem Up.rises {l : List Int} {n : Int} (h : Up l) (hm : ∀ x ∈ l, 0 ≤ x ∧ x < n) : Rises l n := by
  intro j hj
  have h1 := hm _ ((mem_getI l _).2 ⟨j, hj, rfl⟩)
  refine ⟨h1.1, h1.2, fun h0 => ?_⟩
  have := List.pairwise_iff_getElem.1 h (j - 1) j (by omega) hj (by omega)
  rw [getI_of l (j - 1) (by omega), getI_of l j hj]
  exact this

/-- Two lists, put together: what stands in so many of them, or more. -/
def mrg (least : Int) : List Int → List Int → List Int
  | [], [] => []
  | [], y :: m => (if least ≤ 1 then [y] else []) ++ mrg least [] m
  | x :: l, [] => (if least ≤ 1 then [x] else []) ++ mrg least l []
  | x :: l, y :: m => if x < y then (if least ≤ 1 then [x] else []) ++ mrg least l (y :: m) else if y < x then (if least ≤ 1 then [y] else []) ++ mrg least (x :: l) m else (if least ≤ 2 then [x] else []) ++ mrg least l m
termination_by l m => l.length + m.length

end Go.Proofs.YtmbpmepoaonleaaGreat

/-! The document's Right. -/
namespace Go.Proofs.YtmbpmepoaonleaaGreat
open Go.RowKit

theorem rright_loop {n : Int} {l : List Ed} {k : Nat} (hA : allE n l k) (h : edOk n (getE l k) = true) : allE n l (k + 1) := fun j hj => by
  by_cases e : j = k
  · subst e; exact h
  · exact hA j (by omega)

theorem edOk_iff (n : Int) (e : Ed) : edOk n e = true ↔ 0 ≤ e.a ∧ e.a < n ∧ 0 ≤ e.b ∧ e.b < n := by
  unfold edOk inB
  rw [Bool.and_eq_true, decide_eq_true_eq, decide_eq_true_eq]
  exact ⟨fun h => ⟨h.1.1, h.1.2, h.2.1, h.2.2⟩, fun h => ⟨⟨h.1, h.2.1⟩, h.2.2.1, h.2.2.2⟩⟩

set_option maxRecDepth 100000 in
set_option maxHeartbeats 2000000 in
theorem rright_any (v : Value) (g : Gph) (w : World) (h : Gr w v g) (hl : g.e.length ≤ 1000000) :
    Calls Tryz.prog 87 #[v] w fun e w' => e = .returned (.int .i64 g.err) ∧ Below w.heap.size w w' := by
  obtain ⟨n, l⟩ := g
  obtain ⟨ve, rfl, h1⟩ := h
  simp only at h1 hl ⊢
  have hm := (below_alloc (w := w) (.cells #[.int .i64 n, ve] 24))
  obtain ⟨A, cap, rfl, hcap, _, hcell⟩ := h1.below hm
  have hlp : (0 : Int) ≤ (l.length : Int) := by omega
  by_cases hn : n < 0
  · have HN : Hid (Gph.err ⟨n, l⟩ = 3) := if_pos hn
    go_enter Tryz.func87, Tryz.ntmps87
    go_wp2
    go_ret
    exact ⟨ret_int HN.out.symm, below_alloc _⟩
  by_cases hb : n > 1024 - (l.length : Int)
  · have HN : Hid (Gph.err ⟨n, l⟩ = 2) := (if_neg hn).trans (if_pos hb)
    by_cases hn2 : 1024 < n
    · go_enter Tryz.func87, Tryz.ntmps87
      go_wp2
      go_ret
      exact ⟨ret_int HN.out.symm, below_alloc _⟩
    by_cases hl2 : (1024 : Int) < (l.length : Int)
    · go_enter Tryz.func87, Tryz.ntmps87
      go_wp2
      go_ret
      exact ⟨ret_int HN.out.symm, below_alloc _⟩
    have hs : (1024 : Int) < n + (l.length : Int) := by omega
    go_enter Tryz.func87, Tryz.ntmps87
    go_wp2
    go_ret
    exact ⟨ret_int HN.out.symm, below_alloc _⟩
  have HE : Hid (Gph.err ⟨n, l⟩ = if l.all (edOk n) then 0 else 3) := (if_neg hn).trans (if_neg hb)
  have c0 := cell_two0 w (.int .i64 n) (.slice A l.length cap) 24
  have c1 := cell_two1 w (.int .i64 n) (.slice A l.length cap) 24
  have hlt0 : w.heap.size < (w.alloc (.cells #[.int .i64 n, .slice A l.length cap] 24)).heap.size := by simp
  have hs : n + (l.length : Int) ≤ 1024 := by omega
  go_enter Tryz.func87, Tryz.ntmps87
  go_wp2
  generalize w.alloc (.cells #[.int .i64 n, .slice A l.length cap] 24) = w1 at *
  go_loopw [3] (fun i wr => ∃ k m : Nat, k ≤ l.length ∧ i = .int .i64 k ∧ wr = w1.drewN m ∧ Hid (allE n l k)) (fun i _ => l.length - (Go.RowKit.intOf i).toNat)
  case atStart => exact ⟨0, 0, Nat.zero_le _, rfl, rfl, Lib.hid (fun j hj => absurd hj (Nat.not_lt_zero _))⟩
  case round =>
    obtain ⟨k, m, hk, rfl, rfl, hA⟩ := hrel
    by_cases hlt : k < l.length
    · obtain ⟨b, off, rfl, hb1, hc⟩ := hcell (by omega)
      obtain ⟨hca, hcb⟩ := hc k hlt
      have HO : Hid (edOk n (getE l k) = true → allE n l (k + 1)) := fun h => rright_loop hA.out h
      have HF : Hid (edOk n (getE l k) = false → Gph.err ⟨n, l⟩ = 3) := fun h => by rw [HE.out, allE_not n l k hlt h]; rfl
      have HX := Lib.hid (edOk_iff n (getE l k))
      have HMB : Hid (∀ m, Below w.heap.size w (w1.drewN m)) := fun m => below_drewN hm m
      clear hc hcell hA HE
      generalize (getE l k).a = x at *
      generalize (getE l k).b = y at *
      by_cases x0 : x < 0
      · have HOK : Hid (Gph.err ⟨n, l⟩ = 3) := HF.out (Bool.eq_false_iff.2 (fun h => by have := HX.out.1 h; omega))
        go_wp2_with fail
        go_quiet (fail)
        go_wp2
        go_ret
        exact ⟨ret_int HOK.out.symm, by rw [World.drewN_drewN]; exact HMB.out _⟩
      have d0 : decide (x < 0) = false := decide_eq_false x0
      by_cases x1 : n ≤ x
      · have HOK : Hid (Gph.err ⟨n, l⟩ = 3) := HF.out (Bool.eq_false_iff.2 (fun h => by have := HX.out.1 h; omega))
        go_wp2_with fail
        go_quiet (fail)
        go_wp2
        go_ret
        exact ⟨ret_int HOK.out.symm, by rw [World.drewN_drewN]; exact HMB.out _⟩
      have d1 : decide (n ≤ x) = false := decide_eq_false x1
      by_cases y0 : y < 0
      · have HOK : Hid (Gph.err ⟨n, l⟩ = 3) := HF.out (Bool.eq_false_iff.2 (fun h => by have := HX.out.1 h; omega))
        go_wp2_with fail
        go_quiet (fail)
        go_wp2
        go_ret
        exact ⟨ret_int HOK.out.symm, by rw [World.drewN_drewN]; exact HMB.out _⟩
      have d2 : decide (y < 0) = false := decide_eq_false y0
      by_cases y1 : n ≤ y
      · have HOK : Hid (Gph.err ⟨n, l⟩ = 3) := HF.out (Bool.eq_false_iff.2 (fun h => by have := HX.out.1 h; omega))
        go_wp2_with fail
        go_quiet (fail)
        go_wp2
        go_ret
        exact ⟨ret_int HOK.out.symm, by rw [World.drewN_drewN]; exact HMB.out _⟩
      have d3 : decide (n ≤ y) = false := decide_eq_false y1
      have HOK := Lib.hid (HO.out (HX.out.2 (by omega)))
      go_wp2_with fail
      go_quiet (fail)
      go_wp2
      go_roundw
      case rel => exact ⟨k + 1, _, by omega, by go_num, rfl, HOK⟩
      case measure => simp [Go.RowKit.intOf]; omega
    · obtain rfl : k = l.length := by omega
      have HK : Hid (Gph.err ⟨n, l⟩ = 0) := by rw [HE.out, allE_all n l hA.out]; rfl
      go_wp2
      go_ret
      exact ⟨ret_int HK.out.symm, below_drewN hm m⟩

end Go.Proofs.YtmbpmepoaonleaaGreat

/-! The program's RightPart. -/
namespace Go.Proofs.YtmbpmepoaonleaaGreat
open Go.RowKit

/-! ### An array of 1024 yes and no -/

def noes : Array Value := Array.replicate 1024 (.bool false)
theorem Tryz.zeroFlags (w : World) : Sem.run Tryz.prog (zeroValue 134) w = .ok (.agg noes) w := by
  unfold noes
  kernel_rfl

/-- Block B holds the array in which just the places of f are true. -/
def Flags (w : World) (B : Nat) (f : Nat → Bool) : Prop := ∃ cs, w.heap[B]? = some (.cells cs 134 (0, 0)) ∧ ∀ i, i < 1024 → cs[i]? = some (.bool (f i))

theorem Flags.new (w : World) : Flags (w.alloc (.cells noes 134)) w.heap.size (fun _ => false) :=
  ⟨noes, heap_alloc_new w _, fun i hi => by unfold noes; simp [hi]⟩
theorem Flags.cell {w : World} {B : Nat} {f : Nat → Bool} (h : Flags w B f) {i : Nat} (hi : i < 1024) : w.cell? ⟨B, i, none⟩ = some (.bool (f i)) := by
  obtain ⟨cs, h1, h2⟩ := h
  rw [cell_of_row w B i cs _ (0, 0) h1]
  exact h2 i hi
theorem Flags.thaw {w : World} {B : Nat} {f : Nat → Bool} (h : Flags w B f) (i : Nat) : w.frozen? ⟨B, i, none⟩ = false := by
  obtain ⟨cs, h1, h2⟩ := h
  simp [World.frozen?, h1]
theorem Flags.lt {w : World} {B : Nat} {f : Nat → Bool} (h : Flags w B f) : B < w.heap.size := by
  obtain ⟨cs, h1, _⟩ := h
  exact (Array.getElem?_eq_some_iff.1 h1).1
theorem Flags.below {w w' : World} {B : Nat} {f : Nat → Bool} (h : Flags w B f) (hb : Below w.heap.size w w') : Flags w' B f := by
  have hl := h.lt
  obtain ⟨cs, h1, h2⟩ := h
  exact ⟨cs, by rw [hb.block B hl]; exact h1, h2⟩
theorem Flags.set {w : World} {B : Nat} {f : Nat → Bool} (h : Flags w B f) (i : Nat) (hi : i < 1024) :
    Flags (w.setCell ⟨B, i, none⟩ (.bool true)) B (fun j => f j || decide (j = i)) := by
  have hl := h.lt
  obtain ⟨cs, h1, h2⟩ := h
  have hs : i < cs.size := (Array.getElem?_eq_some_iff.1 (h2 i hi)).1
  refine ⟨cs.setIfInBounds i (.bool true), ?_, fun j hj => ?_⟩
  · exact Go.Joins.block_setCell h1 _
  · by_cases e : j = i
    · subst e
      simp [hs]
    · rw [Array.getElem?_setIfInBounds_ne (Ne.symm e), h2 j hj]
      simp [e]
theorem Flags.congr {w : World} {B : Nat} {f g : Nat → Bool} (h : Flags w B f) (e : ∀ i, i < 1024 → f i = g i) : Flags w B g := by
  obtain ⟨cs, h1, h2⟩ := h
  exact ⟨cs, h1, fun i hi => by rw [h2 i hi, e i hi]⟩
theorem below_store {w w1 : World} {n B i : Nat} {v : Value} (h : Below n w w1) (hB : n ≤ B) : Below n w (w1.setCell ⟨B, i, none⟩ v) :=
  ⟨by rw [← h.os]; rfl, by rw [← h.tape]; rfl, by rw [← h.output]; rfl, by have := h.size; simpa using this, fun k hk => (Below.heap_setCell _ _ _ _ (fun e => by simp only at e; omega)).trans (h.block k hk)⟩

/-- The ends of a part's edge are among its vertices. -/
def endsIn (g : Gph) (p : Prt) (e : Int) : Bool := decide ((getE g.e e.toNat).a ∈ p.v) && decide ((getE g.e e.toNat).b ∈ p.v)
/-- A part's error: the graph's; 4; 0. -/
def perr (g : Gph) (p : Prt) : Int :=
  if g.err = 0 then (if riseB p.v g.n && riseB p.e g.e.length then (if p.e.all (endsIn g p) then 0 else 4) else 4) else g.err

theorem err_n {g : Gph} (h : g.err = 0) : g.n ≤ 1024 := by
  unfold Gph.err at h
  split at h
  · omega
  · split at h
    · omega
    · omega

theorem err_ends {g : Gph} (h : g.err = 0) : ∀ j, j < g.e.length → 0 ≤ (getE g.e j).a ∧ (getE g.e j).a < g.n ∧ 0 ≤ (getE g.e j).b ∧ (getE g.e j).b < g.n := by
  intro j hj
  unfold Gph.err at h
  split at h
  · omega
  · split at h
    · omega
    · split at h
      · rename_i ha
        rw [List.all_eq_true] at ha
        exact (edOk_iff _ _).1 (ha _ (mem_getE g.e j hj))
      · omega

theorem perr_no {g : Gph} {p : Prt} (he : g.err = 0) (r1 : riseB p.v g.n = true) (r2 : riseB p.e g.e.length = true) {k : Nat} (hk : k < p.e.length) (h : endsIn g p (getI p.e k) = false) : perr g p = 4 := by
  unfold perr
  rw [if_pos he, r1, r2, if_pos (show (true && true) = true from rfl), if_neg]
  intro ha
  rw [List.all_eq_true] at ha
  have := ha _ ((mem_getI p.e _).2 ⟨k, hk, rfl⟩)
  rw [h] at this; cases this
theorem perr_yes {g : Gph} {p : Prt} (he : g.err = 0) (r1 : riseB p.v g.n = true) (r2 : riseB p.e g.e.length = true) (h : ∀ j, j < p.e.length → endsIn g p (getI p.e j) = true) : perr g p = 0 := by
  unfold perr
  rw [if_pos he, r1, r2, if_pos (show (true && true) = true from rfl), if_pos]
  rw [List.all_eq_true]
  intro x hx
  obtain ⟨j, hj, rfl⟩ := (mem_getI p.e x).1 hx
  exact h j hj

set_option maxRecDepth 100000 in
set_option maxHeartbeats 2000000 in
theorem rightPart_any (v u : Value) (g : Gph) (p : Prt) (w : World) (h : Gr w v g) (h' : Pt w u p) (hl : g.e.length ≤ 1000000) (hp1 : p.v.length ≤ 1000000) (hp2 : p.e.length ≤ 1000000) :
    Calls Tryz.prog 68 #[v, u] w fun e w' => e = .returned (.int .i64 (perr g p)) ∧ Below w.heap.size w w' := by
  have HG := Lib.hid h
  obtain ⟨ve, rfl, h1⟩ := h
  obtain ⟨vv, vp, rfl, h2, h3⟩ := h'
  obtain ⟨Ae, ce, rfl⟩ := h1.form
  obtain ⟨Av, cv, rfl⟩ := ints_form h2
  obtain ⟨Ap, cp, rfl⟩ := ints_form h3
  obtain ⟨b1, b2, hm⟩ := two_boxes w (.int .i64 g.n) (.slice Ae g.e.length ce) (.slice Av p.v.length cv) (.slice Ap p.e.length cp) 24 27
  have HG2 := Lib.hid (HG.out.below hm)
  have HV := Lib.hid (h2.below hm)
  have HP := Lib.hid (h3.below hm)
  have HE := Lib.hid (h1.below hm)
  have HB1 := Lib.hid b1
  have HB2 := Lib.hid b2
  have HM := Lib.hid hm
  clear b1 b2 hm h1 h2 h3 HG
  go_enter Tryz.func68, Tryz.ntmps68
  go_wp2_with fail
  generalize (w.alloc (.cells #[.int .i64 g.n, .slice Ae g.e.length ce] 24)).alloc (.cells #[.slice Av p.v.length cv, .slice Ap p.e.length cp] 27) = w1 at *
  refine (right_any _ g _ HG2.out hl).mono ?_
  rintro e w2 ⟨rfl, hB2⟩
  have HM2 := Lib.hid (trans2 HM.out hB2)
  have HV2 := Lib.hid (HV.out.below hB2)
  have HP2 := Lib.hid (HP.out.below hB2)
  have HE2 := Lib.hid (HE.out.below hB2)
  have B1 := HB1.out.below hB2
  have B2 := HB2.out.below hB2
  have c10 := B1.c0
  have c11 := B1.c1
  have c20 := B2.c0
  have c21 := B2.c1
  clear HB1 HB2 HV HP HE HG2 hB2 HM
  by_cases he : g.err = 0
  · have HN : Hid (g.n ≤ 1024) := err_n he
    rw [he]
    go_wp2_with fail
    refine (rise_any _ p.v g.n w2 HV2.out hp1).mono ?_
    rintro e w3 ⟨rfl, rfl⟩
    by_cases r1 : riseB p.v g.n = true
    · rw [r1]
      go_wp2_with fail
      refine (rise_any _ p.e g.e.length w2 HP2.out hp2).mono ?_
      rintro e w3 ⟨rfl, rfl⟩
      by_cases r2 : riseB p.e g.e.length = true
      · rw [r2]
        have hz := Tryz.zeroFlags
        have HF0 := Lib.hid (Flags.new w2)
        have HB0 := Lib.hid (below_alloc (w := w2) (.cells noes 134))
        have n10 := old_cell (.cells noes 134) c10
        have n11 := old_cell (.cells noes 134) c11
        have n20 := old_cell (.cells noes 134) c20
        have n21 := old_cell (.cells noes 134) c21
        have HR1 := Lib.hid (of_decide_eq_true r1 : Rises p.v g.n)
        have HR2 := Lib.hid (of_decide_eq_true r2 : Rises p.e g.e.length)
        have HX1 := Lib.hid B1
        have HX2 := Lib.hid B2
        clear B1 B2 c10 c11 c20 c21
        go_wp2
        generalize hw3 : w2.alloc (.cells noes 134) = w3 at *
        clear hw3 n10 n11 n20 n21
        go_loopw [34] (fun i wr => ∃ k : Nat, k ≤ p.v.length ∧ i = .int .i64 k ∧ Hid (Below w2.heap.size w2 wr) ∧ Hid (Flags wr w2.heap.size (fun i => decide ((i : Int) ∈ p.v.take k)))) (fun i _ => p.v.length - (Go.RowKit.intOf i).toNat)
        case atStart => exact ⟨0, Nat.zero_le _, rfl, HB0, Lib.hid (HF0.out.congr (fun i _ => by simp))⟩
        case round =>
          obtain ⟨k, hk, rfl, hB, hF⟩ := hrel
          by_cases hlt : k < p.v.length
          · obtain ⟨b, off, rfl, hb, hck⟩ := ints_at (HV2.out.below hB.out) hlt
            obtain ⟨x0, x1, _⟩ := HR1.out k hlt
            have hn := HN.out
            generalize hx : getI p.v k = x at *
            have x2 : x < 1024 := by omega
            have x3 : x.toNat < 1024 := by omega
            have s1 := hF.out.cell x3
            have s2 := hF.out.thaw x.toNat
            have HF' := Lib.hid (hF.out.set x.toNat x3)
            have HB' := Lib.hid (below_store (i := x.toNat) (v := .bool true) hB.out (Nat.le_refl _))
            have HE' : Hid (∀ i : Nat, i < 1024 → (decide ((i : Int) ∈ p.v.take k) || decide (i = x.toNat)) = decide ((i : Int) ∈ p.v.take (k + 1))) := fun i _ => by
              rw [take_succ_getI p.v k hlt, hx, ← Bool.decide_or]
              refine decide_eq_decide.2 ?_
              rw [List.mem_append, List.mem_singleton]
              exact or_congr Iff.rfl ⟨fun h => by omega, fun h => by omega⟩
            clear hn x1 x3
            go_wp2
            go_roundw
            case rel => exact ⟨k + 1, by omega, by go_num, HB', Lib.hid (HF'.out.congr HE'.out)⟩
            case measure => simp [Go.RowKit.intOf]; omega
          · obtain rfl : k = p.v.length := by omega
            have HT := Lib.hid (List.take_length (l := p.v))
            rw [HT.out] at hF
            have HM4 := Lib.hid (trans2 HM2.out hB.out)
            have HP4 := Lib.hid (HP2.out.below hB.out)
            have HE4 := Lib.hid (HE2.out.below hB.out)
            have Z1 := HX1.out.below hB.out
            have Z2 := HX2.out.below hB.out
            have c10 := Z1.c0
            have c11 := Z1.c1
            have c20 := Z2.c0
            have c21 := Z2.c1
            have HEE := Lib.hid (err_ends he)
            clear HX1 HX2 Z1 Z2 hB HP2 HE2 HB0 HF0 hk hlt HV2
            go_wp2
            go_loop [44] (fun i => ∃ k : Nat, k ≤ p.e.length ∧ i = .int .i64 k ∧ Hid (∀ j, j < k → endsIn g p (getI p.e j) = true)) (fun i => p.e.length - (Go.RowKit.intOf i).toNat)
            case atStart => exact ⟨0, Nat.zero_le _, rfl, Lib.hid (fun j hj => absurd hj (Nat.not_lt_zero _))⟩
            case round =>
              obtain ⟨k, hk, rfl, hA⟩ := hrel
              by_cases hlt : k < p.e.length
              · obtain ⟨b, off, rfl, hb, hck⟩ := ints_at HP4.out hlt
                obtain ⟨x0, x1, _⟩ := HR2.out k hlt
                obtain ⟨i, hi⟩ : ∃ i : Nat, getI p.e k = (i : Int) := ⟨(getI p.e k).toNat, by omega⟩
                have hil : i < g.e.length := by omega
                obtain ⟨be, oe, rfl, hbe, hca, hcb⟩ := edges_at HE4.out hil
                obtain ⟨a0, a1, b0, b1⟩ := HEE.out i hil
                have hn := HN.out
                have HO : Hid (endsIn g p (getI p.e k) = (decide ((getE g.e i).a ∈ p.v) && decide ((getE g.e i).b ∈ p.v))) := by
                  rw [hi]; rfl
                have HF : Hid (endsIn g p (getI p.e k) = false → perr g p = 4) := fun h => perr_no he r1 r2 hlt h
                rw [hi] at hck
                generalize (getE g.e i).a = xa at *
                generalize (getE g.e i).b = xb at *
                obtain ⟨ia, rfl⟩ : ∃ i : Nat, xa = (i : Int) := ⟨xa.toNat, by omega⟩
                obtain ⟨ib, rfl⟩ : ∃ i : Nat, xb = (i : Int) := ⟨xb.toNat, by omega⟩
                have s1 := hF.out.cell (show ia < 1024 by omega)
                have s2 := hF.out.cell (show ib < 1024 by omega)
                have hil' : (i : Int) < (g.e.length : Int) := by omega
                have a2 : (ia : Int) < 1024 := by omega
                have b2 : (ib : Int) < 1024 := by omega
                clear hn a1 b1 x0 x1 hi
                have HH : Hid (endsIn g p (getI p.e k) = true → ∀ j, j < k + 1 → endsIn g p (getI p.e j) = true) := fun h j hj => by
                  by_cases e : j = k
                  · rw [e]; exact h
                  · exact hA.out j (by omega)
                by_cases m1 : (ia : Int) ∈ p.v
                · rw [decide_eq_true m1] at s1 HO
                  by_cases m2 : (ib : Int) ∈ p.v
                  · rw [decide_eq_true m2] at s2 HO
                    have HK := Lib.hid (HH.out (by rw [HO.out]; rfl))
                    go_wp2
                    go_round
                    case rel => exact ⟨k + 1, by omega, by go_num, HK⟩
                    case measure => simp [Go.RowKit.intOf]; omega
                  · rw [decide_eq_false m2] at s2 HO
                    have HK := Lib.hid (HF.out (by rw [HO.out]; rfl))
                    go_wp2
                    go_ret
                    exact ⟨ret_int HK.out.symm, HM4.out⟩
                · rw [decide_eq_false m1] at s1 HO
                  have HK := Lib.hid (HF.out (by rw [HO.out]; simp))
                  go_wp2
                  go_ret
                  exact ⟨ret_int HK.out.symm, HM4.out⟩
              · obtain rfl : k = p.e.length := by omega
                have HK := Lib.hid (perr_yes he r1 r2 hA.out)
                go_wp2
                go_ret
                exact ⟨ret_int HK.out.symm, HM4.out⟩
      · have HK : Hid (perr g p = 4) := by unfold perr; rw [if_pos he, r1, Bool.eq_false_iff.2 r2]; rfl
        rw [Bool.eq_false_iff.2 r2]
        go_wp2
        go_ret
        exact ⟨ret_int HK.out.symm, HM2.out⟩
    · have HK : Hid (perr g p = 4) := by unfold perr; rw [if_pos he, Bool.eq_false_iff.2 r1]; rfl
      rw [Bool.eq_false_iff.2 r1]
      go_wp2
      go_ret
      exact ⟨ret_int HK.out.symm, HM2.out⟩
  · have HK : Hid (perr g p = g.err) := if_neg he
    have he' : (g.err != 0) = true := by simpa using he
    generalize g.err = ge at *
    go_wp2
    go_ret
    exact ⟨ret_int HK.out.symm, HM2.out⟩
end Go.Proofs.YtmbpmepoaonleaaGreat
