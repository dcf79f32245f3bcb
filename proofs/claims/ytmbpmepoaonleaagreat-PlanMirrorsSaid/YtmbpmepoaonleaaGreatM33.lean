/-
  OpenInts, OpenG, in one text.
-/
import Derived.Test.YtmbpmepoaonleaaGreatM01
import Derived.ChangeSlices
import Derived.ProofKit
import Derived.OpenShut
import Derived.Test.YtmbpmepoaonleaaGreatM02
import Derived.Lib.SmallJoins
import Derived.Deep.Slices
/-! An argument that is a slice of numbers, opened once, nil or not: the list that it reads as. -/
namespace Go.Proofs.YtmbpmepoaonleaaGreat
open Go.ChangeShapes Go.WideShapes Go.ChangeAt Go.RowKit

theorem cellsInt : Tryz.prog.cellsOf 3 = 1 := by kernel_rfl

end Go.Proofs.YtmbpmepoaonleaaGreat

/-! Arguments that are graphs and parts, opened once: what they read as. -/
namespace Go.Proofs.YtmbpmepoaonleaaGreat
open Go.ChangeShapes Go.WideShapes Go.ChangeAt Go.RowKit Go.Deep Go.Joins

theorem open_ints_cell {H : Type} {enc : TypeId × Value → H} {P : Program} {W : World} {t e : TypeId} {v : Value} {n : Nat} {y : DataW H × List MemPlace}
    (ht : P.underlying t = some (.slice e)) (he : P.underlying e = some (.int .i64)) (hc : P.cellsOf e = 1) (hf : DataW.trod enc P W 0 (fun _ => true) true n t [v] = some y) : ∃ l : List Int, Ints W v l := by
  rcases open_ints ht he hc hf with ⟨hcs, _⟩ | ⟨a, len, cap, zs, hcs, _, hl, hm, hz, _, hcell, _⟩
  · simp only [List.cons.injEq, and_true] at hcs
    subst hcs
    exact ⟨[], Ints.nil⟩
  · simp only [List.cons.injEq, and_true] at hcs
    subst hcs
    simp only [if_true] at hz
    have hlen : (zs.take len).length = len := by simp; omega
    refine ⟨zs.take len, some a, cap, by rw [hlen], by omega, hm, fun h0 => ?_⟩
    rw [hlen] at h0
    obtain ⟨b, off, sp⟩ := a
    have h1 := hcell 0 (by omega)
    have hs : sp = none := by simpa [Addr.add] using World.cell?_spot h1
    subst hs
    refine ⟨b, off, rfl, by simpa [Addr.add] using World.block_lt_of_cell? W _ h1, fun j hj => ?_⟩
    rw [hlen] at hj
    rw [getI_take _ _ _ hj]
    have := hcell j (by omega)
    rw [Addr.add_lit] at this
    exact this

theorem open_ints_cellw {H : Type} {enc : TypeId × Value → H} {P : Program} {W : World} {t e : TypeId} {v : Value} {n : Nat} {y : DataW H × List MemPlace}
    (ht : P.underlying t = some (.slice e)) (he : P.underlying e = some (.int .i64)) (hc : P.cellsOf e = 1) (hf : DataW.trod enc P W 0 (fun _ => true) true n t [v] = some y) : ∃ l : List Int, Ints W v l ∧ ∀ x ∈ l, (Lit.int .i64 x).wf = true := by
  rcases open_ints ht he hc hf with ⟨hcs, _⟩ | ⟨a, len, cap, zs, hcs, _, hl, hm, hz, _, hcell, hwf⟩
  · simp only [List.cons.injEq, and_true] at hcs
    subst hcs
    exact ⟨[], Ints.nil, fun x hx => by simp at hx⟩
  · simp only [List.cons.injEq, and_true] at hcs
    subst hcs
    simp only [if_true] at hz
    have hlen : (zs.take len).length = len := by simp; omega
    refine ⟨zs.take len, ⟨some a, cap, by rw [hlen], by omega, hm, fun h0 => ?_⟩, fun x hx => hwf x (List.mem_of_mem_take hx)⟩
    rw [hlen] at h0
    obtain ⟨b, off, sp⟩ := a
    have h1 := hcell 0 (by omega)
    have hs : sp = none := by simpa [Addr.add] using World.cell?_spot h1
    subst hs
    refine ⟨b, off, rfl, by simpa [Addr.add] using World.block_lt_of_cell? W _ h1, fun j hj => ?_⟩
    rw [hlen] at hj
    rw [getI_take _ _ _ hj]
    have := hcell j (by omega)
    rw [Addr.add_lit] at this
    exact this

theorem structEdge : ∃ f0 f1 : Field, Tryz.prog.underlying 109 = some (.struct #[f0, f1]) ∧ f0.offset = 0 ∧ f1.offset = 1 ∧ f0.type = 3 ∧ f1.type = 3 :=
  ⟨_, _, Tryz.underlying109, rfl, rfl, rfl, rfl⟩
theorem cellsEdge : Tryz.prog.cellsOf 109 = 2 := by kernel_rfl
theorem cellsGraph : Tryz.prog.cellsOf 24 = 2 := by kernel_rfl
theorem cellsPart : Tryz.prog.cellsOf 27 = 2 := by kernel_rfl

theorem open_edges_cell {H : Type} {enc : TypeId × Value → H} {W : World} {v : Value} {n : Nat} {y : DataW H × List MemPlace}
    (hf : DataW.trod enc Tryz.prog W 0 (fun _ => true) true n 22 [v] = some y) : ∃ l : List Ed, Edges W v l := by
  rcases open_slice Tryz.underlying22 hf with ⟨hcs, _⟩ | ⟨a, len, cap, m, n, D, Pl, hcs, _, hl, hm, hmm, _, hi⟩
  · simp only [List.cons.injEq, and_true] at hcs
    subst hcs
    exact ⟨[], Edges.nil⟩
  · simp only [List.cons.injEq, and_true] at hcs
    subst hcs
    simp only [if_true] at hmm
    subst hmm
    have each : ∀ i, i < len → ∃ q : Ed, W.cell? (a.add (i * 2)) = some (.int .i64 q.a) ∧ W.cell? (a.add (i * 2 + 1)) = some (.int .i64 q.b) := by
      intro i hil
      obtain ⟨cs', h1, h2⟩ := hi i (by omega)
      rw [cellsEdge] at h1
      obtain ⟨_, hlen, hcell⟩ := World.cells?_some h1
      obtain ⟨f0, f1, hs, o0, o1, t0, t1⟩ := structEdge
      obtain ⟨y0, y1, k, _, _, g0, g1⟩ := trod_struct2 hs h2
      rw [o0, t0, cellsInt] at g0
      rw [o1, t1, cellsInt] at g1
      match cs', hlen with
      | [u0, u1], _ =>
        have e0 := hcell 0 (by omega)
        have e1 := hcell 1 (by omega)
        rw [add_add] at e0 e1
        obtain ⟨n0, r0, _, w0⟩ := DataW.trod_int Tryz.underlying3 g0
        obtain ⟨n1, r1, _, w1⟩ := DataW.trod_int Tryz.underlying3 g1
        simp at r0 r1
        subst r0 r1
        exact ⟨⟨n0, n1⟩, by simpa using e0, by simpa using e1⟩
    obtain ⟨q, hq⟩ := choose_lt each
    have hlen : ((List.range len).map q).length = len := by simp
    have hget : ∀ j, j < len → getE ((List.range len).map q) j = q j := fun j hj => by unfold getE; simp [hj]
    refine ⟨(List.range len).map q, some a, m, by rw [hlen], by omega, hm, fun h0 => ?_⟩
    rw [hlen] at h0
    obtain ⟨b, off, sp⟩ := a
    have h1 := (hq 0 (by omega)).1
    have hsp : sp = none := by simpa [Addr.add] using World.cell?_spot h1
    subst hsp
    refine ⟨b, off, rfl, by simpa [Addr.add] using World.block_lt_of_cell? W _ h1, fun j hj => ?_⟩
    rw [hlen] at hj
    rw [hget j hj]
    obtain ⟨c0, c1⟩ := hq j hj
    rw [Addr.add_lit] at c0 c1
    exact ⟨c0, by rw [Nat.add_assoc]; exact c1⟩

theorem structGraph : ∃ f0 f1 : Field, Tryz.prog.underlying 24 = some (.struct #[f0, f1]) ∧ oneCellFields Tryz.prog #[f0, f1] = true ∧ f0.type = 3 ∧ f1.type = 22 :=
  ⟨_, _, Tryz.underlying24, by kernel_rfl, rfl, rfl⟩
theorem structPart : ∃ f0 f1 : Field, Tryz.prog.underlying 27 = some (.struct #[f0, f1]) ∧ oneCellFields Tryz.prog #[f0, f1] = true ∧ f0.type = 25 ∧ f1.type = 25 :=
  ⟨_, _, Tryz.underlying27, by kernel_rfl, rfl, rfl⟩

set_option maxRecDepth 100000 in
theorem open_graph {H : Type} {enc : TypeId × Value → H} {W : World} {base : Nat} {rd : Reach} {v : Value} {d : DataW H} {p : List MemPlace}
    (hv : Value.okWide Tryz.prog W rd base 24 v) (h : DataW.Trod enc Tryz.prog W 0 (fun _ => true) true 24 v d p) : ∃ g : Gph, Gr W v g := by
  obtain ⟨f0, f1, hs, hone, t0, t1⟩ := structGraph
  obtain ⟨v0, v1, y0, y1, n, rfl, _, _, h0, h1⟩ := open_agg2 hs hone cellsGraph hv h
  rw [t0] at h0
  rw [t1] at h1
  obtain ⟨n0, r0, _, _⟩ := DataW.trod_int Tryz.underlying3 h0
  simp at r0
  subst r0
  obtain ⟨l, hl⟩ := open_edges_cell h1
  exact ⟨⟨n0, l⟩, v1, rfl, hl⟩

set_option maxRecDepth 100000 in
theorem open_part {H : Type} {enc : TypeId × Value → H} {W : World} {base : Nat} {rd : Reach} {v : Value} {d : DataW H} {p : List MemPlace}
    (hv : Value.okWide Tryz.prog W rd base 27 v) (h : DataW.Trod enc Tryz.prog W 0 (fun _ => true) true 27 v d p) : ∃ q : Prt, Pt W v q := by
  obtain ⟨f0, f1, hs, hone, t0, t1⟩ := structPart
  obtain ⟨v0, v1, y0, y1, n, rfl, _, _, h0, h1⟩ := open_agg2 hs hone cellsPart hv h
  rw [t0] at h0
  rw [t1] at h1
  obtain ⟨l, hl⟩ := open_ints_cell Tryz.underlying25 Tryz.underlying3 cellsInt h0
  obtain ⟨m, hm⟩ := open_ints_cell Tryz.underlying25 Tryz.underlying3 cellsInt h1
  exact ⟨⟨l, m⟩, v0, v1, rfl, hl, hm⟩

end Go.Proofs.YtmbpmepoaonleaaGreat
