/-
  Graphs and parts as they lie in memory; a graph's error, by plain mathematics.
-/
import Derived.Test.YtohaopfpjkhheaaIv
import Derived.Test.YtohaopfpjkhheaaRgM
import Derived.Deep.QuietTactic
import Derived.BigQuiet
import Derived.Maps.AppendAt
namespace Go.Proofs.Ytohaopfpjkhheaa
open Go.RowKit

/-- An edge's ends. -/
structure Ed where
  a : Int
  b : Int
instance : Inhabited Ed := ⟨⟨0, 0⟩⟩

def getE (l : List Ed) (j : Nat) : Ed := l.getD j ⟨0, 0⟩

theorem getE_of (l : List Ed) (j : Nat) (h : j < l.length) : getE l j = l[j] := by unfold getE; simp [h]
theorem mem_getE (l : List Ed) (j : Nat) (h : j < l.length) : getE l j ∈ l := by rw [getE_of l j h]; exact List.getElem_mem h

/-- The slice value v reads as the edges l. -/
def Edges (w : World) (v : Value) (l : List Ed) : Prop :=
  ∃ A cap, v = .slice A l.length cap ∧ l.length ≤ cap ∧ cap ≤ maxLen ∧
    (0 < l.length → ∃ b off, A = some ⟨b, off, none⟩ ∧ b < w.heap.size ∧ ∀ j, j < l.length →
      w.cell? ⟨b, off + j * 2, none⟩ = some (.int .i64 (getE l j).a) ∧ w.cell? ⟨b, off + j * 2 + 1, none⟩ = some (.int .i64 (getE l j).b))

theorem Edges.below {w w' : World} {v : Value} {l : List Ed} (h : Edges w v l) (hb : Below w.heap.size w w') : Edges w' v l := by
  obtain ⟨A, cap, rfl, hc, hm, hr⟩ := h
  refine ⟨A, cap, rfl, hc, hm, fun h0 => ?_⟩
  obtain ⟨b, off, hA, hlt, hg⟩ := hr h0
  exact ⟨b, off, hA, Nat.lt_of_lt_of_le hlt hb.size, fun j hj => ⟨(hb.cell (p := ⟨b, off + j * 2, none⟩) hlt).trans (hg j hj).1, (hb.cell (p := ⟨b, off + j * 2 + 1, none⟩) hlt).trans (hg j hj).2⟩⟩

theorem Edges.nil {w : World} : Edges w (.slice none 0 0) [] := ⟨none, 0, rfl, Nat.le_refl _, by unfold maxLen; omega, fun h => absurd h (by simp)⟩

theorem Edges.form {w : World} {v : Value} {l : List Ed} (h : Edges w v l) : ∃ A c, v = .slice A l.length c := by
  obtain ⟨A, c, e, _⟩ := h
  exact ⟨A, c, e⟩
theorem ints_form {w : World} {v : Value} {l : List Int} (h : Ints w v l) : ∃ A c, v = .slice A l.length c := by
  obtain ⟨A, c, e, _⟩ := h
  exact ⟨A, c, e⟩
/-- A place's cell, where the slice is written out. -/
theorem ints_at {w : World} {l : List Int} {A : Option Addr} {n c : Nat} (h : Ints w (.slice A n c) l) {j : Nat} (hj : j < l.length) :
    ∃ b off, A = some ⟨b, off, none⟩ ∧ b < w.heap.size ∧ w.cell? ⟨b, off + j, none⟩ = some (.int .i64 (getI l j)) := by
  obtain ⟨A', c', e, _, _, hr⟩ := h
  cases e
  obtain ⟨b, off, hA, hb, hc⟩ := hr (by omega)
  exact ⟨b, off, hA, hb, hc j hj⟩
theorem edges_at {w : World} {l : List Ed} {A : Option Addr} {n c : Nat} (h : Edges w (.slice A n c) l) {j : Nat} (hj : j < l.length) :
    ∃ b off, A = some ⟨b, off, none⟩ ∧ b < w.heap.size ∧ w.cell? ⟨b, off + j * 2, none⟩ = some (.int .i64 (getE l j).a) ∧ w.cell? ⟨b, off + j * 2 + 1, none⟩ = some (.int .i64 (getE l j).b) := by
  obtain ⟨A', c', e, _, _, hr⟩ := h
  cases e
  obtain ⟨b, off, hA, hb, hc⟩ := hr (by omega)
  exact ⟨b, off, hA, hb, (hc j hj).1, (hc j hj).2⟩
theorem ints_cap {w : World} {l : List Int} {A : Option Addr} {n c : Nat} (h : Ints w (.slice A n c) l) : n = l.length ∧ n ≤ c ∧ c ≤ maxLen := by
  obtain ⟨A', c', e, h1, h2, _⟩ := h
  cases e
  exact ⟨rfl, h1, h2⟩

/-- A graph. -/
structure Gph where
  n : Int
  e : List Ed
/-- A part. -/
structure Prt where
  v : List Int
  e : List Int

def Gr (w : World) (v : Value) (g : Gph) : Prop := ∃ ve, v = .agg #[.int .i64 g.n, ve] ∧ Edges w ve g.e
def Pt (w : World) (v : Value) (p : Prt) : Prop := ∃ vv ve, v = .agg #[vv, ve] ∧ Ints w vv p.v ∧ Ints w ve p.e

theorem Gr.below {w w' : World} {v : Value} {g : Gph} (h : Gr w v g) (hb : Below w.heap.size w w') : Gr w' v g := by
  obtain ⟨ve, e, h1⟩ := h
  exact ⟨ve, e, h1.below hb⟩
theorem Pt.below {w w' : World} {v : Value} {p : Prt} (h : Pt w v p) (hb : Below w.heap.size w w') : Pt w' v p := by
  obtain ⟨vv, ve, e, h1, h2⟩ := h
  exact ⟨vv, ve, e, h1.below hb, h2.below hb⟩
theorem Pt.nil {w : World} : Pt w (.agg #[.slice none 0 0, .slice none 0 0]) ⟨[], []⟩ := ⟨_, _, rfl, Ints.nil, Ints.nil⟩

/-! ### A graph's error -/

def inB (x n : Int) : Bool := decide (0 ≤ x ∧ x < n)
def edOk (n : Int) (e : Ed) : Bool := inB e.a n && inB e.b n

/-- The error's number: 0, 2, 3. -/
def Gph.err (g : Gph) : Int := if g.n < 0 then 3 else if g.n > 1024 - (g.e.length : Int) then 2 else if g.e.all (edOk g.n) then 0 else 3

def allE (n : Int) (l : List Ed) (k : Nat) : Prop := ∀ j, j < k → edOk n (getE l j) = true

theorem allE_all (n : Int) (l : List Ed) (h : allE n l l.length) : l.all (edOk n) = true := by
  rw [List.all_eq_true]
  intro e he
  obtain ⟨j, hj, rfl⟩ := List.mem_iff_getElem.1 he
  rw [← getE_of l j hj]
  exact h j hj
theorem allE_not (n : Int) (l : List Ed) (k : Nat) (hk : k < l.length) (h : edOk n (getE l k) = false) : l.all (edOk n) = false := by
  rw [Bool.eq_false_iff]
  intro ha
  rw [List.all_eq_true] at ha
  have := ha _ (mem_getE l k hk)
  rw [h] at this; cases this

theorem below_alloc {w : World} (o : Obj) : Below w.heap.size w (w.alloc o) := (Below.refl _ w).alloc (Nat.le_refl _) o

theorem cell_two0 (W : World) (u v : Value) (t : TypeId) : (W.alloc (.cells #[u, v] t)).cell? ⟨W.heap.size, 0, none⟩ = some u := cell_of_row _ _ 0 #[u, v] t (0, 0) (heap_alloc_new W _)
theorem cell_two1 (W : World) (u v : Value) (t : TypeId) : (W.alloc (.cells #[u, v] t)).cell? ⟨W.heap.size, 1, none⟩ = some v := cell_of_row _ _ 1 #[u, v] t (0, 0) (heap_alloc_new W _)

/-- A new block of two cells, as a variable or a parameter lies in it. -/
structure Box (w : World) (b : Nat) (u v : Value) : Prop where
  c0 : w.cell? ⟨b, 0, none⟩ = some u
  c1 : w.cell? ⟨b, 1, none⟩ = some v
  lt : b < w.heap.size
  thaw : ∀ i, w.frozen? ⟨b, i, none⟩ = false
theorem Box.below {w w' : World} {b : Nat} {u v : Value} (h : Box w b u v) (hb : Below w.heap.size w w') : Box w' b u v :=
  ⟨(hb.cell (p := ⟨b, 0, none⟩) h.lt).trans h.c0, (hb.cell (p := ⟨b, 1, none⟩) h.lt).trans h.c1, Nat.lt_of_lt_of_le h.lt hb.size, fun i => (hb.frozen (p := ⟨b, i, none⟩) h.lt).trans (h.thaw i)⟩
theorem one_box (w : World) (u v : Value) (t : TypeId) : Box (w.alloc (.cells #[u, v] t)) w.heap.size u v ∧ Below w.heap.size w (w.alloc (.cells #[u, v] t)) :=
  ⟨⟨cell_two0 _ _ _ _, cell_two1 _ _ _ _, by simp, fun i => new_thaw _ _ _ _⟩, below_alloc _⟩
/-- Both cells have been written. -/
theorem Box.stored {w : World} {b : Nat} {u v : Value} (h : Box w b u v) (u' v' : Value) : Box ((w.setCell ⟨b, 0, none⟩ u').setCell ⟨b, 1, none⟩ v') b u' v' := by
  have e0 : (w.setCell ⟨b, 0, none⟩ u').cell? ⟨b, 0, none⟩ = some u' := World.cell?_setCell_same _ _ _ h.c0
  have e1 : (w.setCell ⟨b, 0, none⟩ u').cell? ⟨b, 1, none⟩ = some v := (World.cell?_setCell_other _ _ _ _ (by simp)).trans h.c1
  refine ⟨(World.cell?_setCell_other _ _ _ _ (by simp)).trans e0, World.cell?_setCell_same _ _ _ e1, by simpa [World.setCell] using h.lt, fun i => ?_⟩
  rw [World.frozen?_setCell, World.frozen?_setCell]
  exact h.thaw i
theorem below_stored {n : Nat} {w0 w : World} {b : Nat} {u' v' : Value} (h : Below n w0 w) (hb : n ≤ b) : Below n w0 ((w.setCell ⟨b, 0, none⟩ u').setCell ⟨b, 1, none⟩ v') :=
  (h.setCell (p := ⟨b, 0, none⟩) hb u').setCell (p := ⟨b, 1, none⟩) hb v'
theorem two_boxes (w : World) (u v u' v' : Value) (t t' : TypeId) :
    Box ((w.alloc (.cells #[u, v] t)).alloc (.cells #[u', v'] t')) w.heap.size u v ∧ Box ((w.alloc (.cells #[u, v] t)).alloc (.cells #[u', v'] t')) (w.heap.size + 1) u' v' ∧
      Below w.heap.size w ((w.alloc (.cells #[u, v] t)).alloc (.cells #[u', v'] t')) := by
  obtain ⟨h1, h2⟩ := one_box w u v t
  obtain ⟨h3, h4⟩ := one_box (w.alloc (.cells #[u, v] t)) u' v' t'
  have e : (w.alloc (.cells #[u, v] t)).heap.size = w.heap.size + 1 := by simp
  rw [e] at h3
  exact ⟨h1.below h4, h3, h2.trans (h4.mono (by omega))⟩
theorem three_boxes (w : World) (u v u' v' u2 v2 : Value) (t t' t2 : TypeId) :
    Box (((w.alloc (.cells #[u, v] t)).alloc (.cells #[u', v'] t')).alloc (.cells #[u2, v2] t2)) w.heap.size u v ∧ Box (((w.alloc (.cells #[u, v] t)).alloc (.cells #[u', v'] t')).alloc (.cells #[u2, v2] t2)) (w.heap.size + 1) u' v' ∧
      Box (((w.alloc (.cells #[u, v] t)).alloc (.cells #[u', v'] t')).alloc (.cells #[u2, v2] t2)) (w.heap.size + 2) u2 v2 ∧
      Below w.heap.size w (((w.alloc (.cells #[u, v] t)).alloc (.cells #[u', v'] t')).alloc (.cells #[u2, v2] t2)) := by
  obtain ⟨h1, h2, h3⟩ := two_boxes w u v u' v' t t'
  obtain ⟨h4, h5⟩ := one_box ((w.alloc (.cells #[u, v] t)).alloc (.cells #[u', v'] t')) u2 v2 t2
  have e : ((w.alloc (.cells #[u, v] t)).alloc (.cells #[u', v'] t')).heap.size = w.heap.size + 2 := by simp
  rw [e] at h4
  exact ⟨h1.below h5, h2.below h5, h4, h3.trans (h5.mono (by omega))⟩

theorem below_any (x n : Int) (w : World) :
    Calls Try.prog 56 #[.int .i64 x, .int .i64 n] w fun e w' => e = .returned (.bool (inB x n)) ∧ w = w' := by
  by_cases h0 : 0 ≤ x
  · by_cases h1 : x < n
    · have HN : Hid (inB x n = true) := decide_eq_true ⟨h0, h1⟩
      go_enter Try.func56, Try.ntmps56
      go_wp2
      go_ret
      exact ⟨ret_bool HN.out.symm, rfl⟩
    · have HN : Hid (inB x n = false) := decide_eq_false (fun h => h1 h.2)
      go_enter Try.func56, Try.ntmps56
      go_wp2
      go_ret
      exact ⟨ret_bool HN.out.symm, rfl⟩
  · have HN : Hid (inB x n = false) := decide_eq_false (fun h => h0 h.1)
    go_enter Try.func56, Try.ntmps56
    go_wp2
    go_ret
    exact ⟨ret_bool HN.out.symm, rfl⟩

set_option maxRecDepth 100000 in
set_option maxHeartbeats 1000000 in
theorem right_any (v : Value) (g : Gph) (w : World) (h : Gr w v g) (hl : g.e.length ≤ 1000000) :
    Calls Try.prog 47 #[v] w fun e w' => e = .returned (.int .i64 g.err) ∧ Below w.heap.size w w' := by
  obtain ⟨n, l⟩ := g
  obtain ⟨ve, rfl, h1⟩ := h
  simp only at h1 hl ⊢
  obtain ⟨A, cap, rfl, hcap, _, hcell⟩ := h1.below (below_alloc (.cells #[.int .i64 n, ve] 24))
  have hlp : (0 : Int) ≤ (l.length : Int) := by omega
  by_cases hn : n < 0
  · have HN : Hid (Gph.err ⟨n, l⟩ = 3) := if_pos hn
    go_enter Try.func47, Try.ntmps47
    go_wp2
    go_ret
    exact ⟨ret_int HN.out.symm, below_alloc _⟩
  by_cases hb : n > 1024 - (l.length : Int)
  · have HN : Hid (Gph.err ⟨n, l⟩ = 2) := (if_neg hn).trans (if_pos hb)
    go_enter Try.func47, Try.ntmps47
    go_wp2
    go_ret
    exact ⟨ret_int HN.out.symm, below_alloc _⟩
  have HE : Hid (Gph.err ⟨n, l⟩ = if l.all (edOk n) then 0 else 3) := (if_neg hn).trans (if_neg hb)
  have hm := (below_alloc (w := w) (.cells #[.int .i64 n, .slice A l.length cap] 24))
  have c0 := cell_two0 w (.int .i64 n) (.slice A l.length cap) 24
  have hlt0 : w.heap.size < (w.alloc (.cells #[.int .i64 n, .slice A l.length cap] 24)).heap.size := by simp
  go_enter Try.func47, Try.ntmps47
  go_wp2
  generalize w.alloc (.cells #[.int .i64 n, .slice A l.length cap] 24) = w1 at *
  go_loopw [20] (fun i wr => ∃ k : Nat, k ≤ l.length ∧ i = .int .i64 k ∧ Below w1.heap.size w1 wr ∧ Hid (allE n l k)) (fun i _ => l.length - (Go.RowKit.intOf i).toNat)
  case atStart => exact ⟨0, Nat.zero_le _, rfl, Below.refl _ _, Lib.hid (fun j hj => absurd hj (Nat.not_lt_zero _))⟩
  case round =>
    obtain ⟨k, hk, rfl, hB, hA⟩ := hrel
    by_cases hlt : k < l.length
    · obtain ⟨b, off, rfl, hb1, hc⟩ := hcell (by omega)
      obtain ⟨hca, hcb⟩ := hc k hlt
      have ga := (hB.cell (p := ⟨b, off + k * 2, none⟩) hb1).trans hca
      have gb := (hB.cell (p := ⟨b, off + k * 2 + 1, none⟩) hb1).trans hcb
      have g0 := (hB.cell (p := ⟨w.heap.size, 0, none⟩) hlt0).trans c0
      have hB2 := hB.alloc hB.size (.cells #[.int .i64 (getE l k).a, .int .i64 (getE l k).b] 55)
      have g1 := old_cell (.cells #[.int .i64 (getE l k).a, .int .i64 (getE l k).b] 55) g0
      have hmm := hm.trans (hB2.mono hm.size)
      have HO : Hid (inB (getE l k).a n = true → inB (getE l k).b n = true → allE n l (k + 1)) := fun h1 h2 j hj => by
        by_cases e : j = k
        · subst e; simp [edOk, h1, h2]
        · exact hA.out j (by omega)
      have HF : Hid (edOk n (getE l k) = false → Gph.err ⟨n, l⟩ = 3) := fun h => by rw [HE.out, allE_not n l k hlt h]; rfl
      have HX : Hid (edOk n (getE l k) = (inB (getE l k).a n && inB (getE l k).b n)) := rfl
      clear hc hcell hca hcb c0 hA HE
      go_wp2_with fail
      refine (below_any _ _ _).mono ?_
      rintro e w2 ⟨rfl, rfl⟩
      by_cases ha : inB (getE l k).a n = true
      · by_cases hb2 : inB (getE l k).b n = true
        · have HOK := Lib.hid (HO.out ha hb2)
          rw [ha]
          have HB3 := Lib.hid hb2
          clear ha hb2
          go_wp2_with fail
          refine (below_any _ _ _).mono ?_
          rintro e w2 ⟨rfl, rfl⟩
          rw [HB3.out]
          go_wp2
          go_roundw
          case rel => exact ⟨k + 1, by omega, by go_num, hB2, HOK⟩
          case measure => simp [Go.RowKit.intOf]; omega
        · have HB3 := Lib.hid (Bool.eq_false_iff.2 hb2)
          have HOK : Hid (Gph.err ⟨n, l⟩ = 3) := HF.out (by rw [HX.out, HB3.out, Bool.and_false])
          rw [ha]
          clear ha hb2
          go_wp2_with fail
          refine (below_any _ _ _).mono ?_
          rintro e w2 ⟨rfl, rfl⟩
          rw [HB3.out]
          go_wp2
          go_ret
          exact ⟨ret_int HOK.out.symm, hmm⟩
      · have HB3 := Lib.hid (Bool.eq_false_iff.2 ha)
        have HOK : Hid (Gph.err ⟨n, l⟩ = 3) := HF.out (by rw [HX.out, HB3.out, Bool.false_and])
        clear ha
        rw [HB3.out]
        go_wp2
        go_ret
        exact ⟨ret_int HOK.out.symm, hmm⟩
    · obtain rfl : k = l.length := by omega
      have HK : Hid (Gph.err ⟨n, l⟩ = 0) := by rw [HE.out, allE_all n l hA.out]; rfl
      go_wp2
      go_ret
      exact ⟨ret_int HK.out.symm, hm.trans (hB.mono hm.size)⟩

end Go.Proofs.Ytohaopfpjkhheaa
