/-
  POpen, in one text.
-/
import Derived.Test.YtmbpmepoaonleaaGreatM09
import Derived.Test.YtmbpmepoaonleaaGreatM33
import Derived.Test.YtmbpmepoaonleaaGreatM54
/-! Arguments that are plans, opened once: what they read as. -/
namespace Go.Proofs.YtmbpmepoaonleaaGreat
open Go.ChangeShapes Go.WideShapes Go.ChangeAt Go.RowKit Go.Deep Go.Joins

theorem open_listsw_cell {H : Type} {enc : TypeId × Value → H} {P : Program} {W : World} {t e i : TypeId} {v : Value} {n : Nat} {y : DataW H × List MemPlace}
    (ht : P.underlying t = some (.slice e)) (he : P.underlying e = some (.slice i)) (hi : P.underlying i = some (.int .i64)) (hce : P.cellsOf e = 1) (hci : P.cellsOf i = 1)
    (hf : DataW.trod enc P W 0 (fun _ => true) true n t [v] = some y) : ∃ T : List (List Int), LL W v T ∧ ∀ j, ∀ x ∈ Rt.getT T j, (Lit.int .i64 x).wf = true := by
  rcases open_slice ht hf with ⟨hcs, _⟩ | ⟨a, len, cap, m, n, D, Pl, hcs, _, hl, hm, hmm, _, hx⟩
  · simp only [List.cons.injEq, and_true] at hcs
    subst hcs
    exact ⟨[], LL.nil, fun j x hx => by rw [Rt.getT_out _ _ (by simp)] at hx; exact absurd hx List.not_mem_nil⟩
  · simp only [List.cons.injEq, and_true] at hcs
    subst hcs
    simp only [if_true] at hmm
    subst hmm
    have each : ∀ k, k < len → ∃ q : Value × List Int, W.cell? (a.add k) = some q.1 ∧ Ints W q.1 q.2 ∧ ∀ x ∈ q.2, (Lit.int .i64 x).wf = true := by
      intro k hk
      obtain ⟨cs', h1, h2⟩ := hx k (by omega)
      rw [hce] at h1
      obtain ⟨_, hlen, hcell⟩ := World.cells?_some h1
      match cs', hlen with
      | [u], _ =>
        have e0 := hcell 0 (by omega)
        rw [add_add] at e0
        obtain ⟨l, hl', hw'⟩ := open_ints_cellw he hi hci h2
        exact ⟨⟨u, l⟩, by simpa using e0, hl', hw'⟩
    obtain ⟨q, hq⟩ := choose_lt each
    have hlen : ((List.range len).map fun k => (q k).2).length = len := by simp
    have hget : ∀ j, j < len → Rt.getT ((List.range len).map fun k => (q k).2) j = (q j).2 := fun j hj => by
      rw [Rt.getT_of _ _ (by rw [hlen]; exact hj)]; simp
    refine ⟨(List.range len).map fun k => (q k).2, ⟨some a, m, by rw [hlen], by omega, hm, fun h0 => ?_⟩, fun j x hx => ?_⟩
    case refine_2 =>
      by_cases hj : j < len
      · rw [hget j hj] at hx
        exact (hq j hj).2.2 x hx
      · rw [Rt.getT_out _ _ (by rw [hlen]; exact hj)] at hx
        exact absurd hx List.not_mem_nil
    rw [hlen] at h0
    obtain ⟨b, off, sp⟩ := a
    have h1 := (hq 0 (by omega)).1
    have hsp : sp = none := by simpa [Addr.add] using World.cell?_spot h1
    subst hsp
    refine ⟨b, off, rfl, by simpa [Addr.add] using World.block_lt_of_cell? W _ h1, fun j hj => ?_⟩
    rw [hlen] at hj
    rw [hget j hj]
    obtain ⟨c0, c1, _⟩ := hq j hj
    rw [Addr.add_lit] at c0
    exact ⟨_, c0, c1⟩

theorem cellsPlan : Tryz.prog.cellsOf 30 = 2 := by kernel_rfl
theorem structPlan : ∃ f0 f1 : Field, Tryz.prog.underlying 30 = some (.struct #[f0, f1]) ∧ oneCellFields Tryz.prog #[f0, f1] = true ∧ f0.type = 28 ∧ f1.type = 28 :=
  ⟨_, _, Tryz.underlying30, by kernel_rfl, rfl, rfl⟩

/-- A plan as it is handed in: its two lists of lists, and that each number is one. -/
structure PlanIn (w : World) (v : Value) (T S : List (List Int)) : Prop where
  pn : Pl.Pn w v T S
  wT : ∀ j, ∀ x ∈ Rt.getT T j, (Lit.int .i64 x).wf = true
  wS : ∀ j, ∀ x ∈ Rt.getT S j, (Lit.int .i64 x).wf = true

set_option maxRecDepth 100000 in
theorem open_plan {H : Type} {enc : TypeId × Value → H} {W : World} {base : Nat} {rd : Go.Reach} {v : Value} {d : DataW H} {p : List MemPlace}
    (hv : Value.okWide Tryz.prog W rd base 30 v) (h : DataW.Trod enc Tryz.prog W 0 (fun _ => true) true 30 v d p) : ∃ q : List (List Int) × List (List Int), PlanIn W v q.1 q.2 := by
  obtain ⟨f0, f1, hs, hone, t0, t1⟩ := structPlan
  obtain ⟨v0, v1, y0, y1, n, rfl, _, _, h0, h1⟩ := open_agg2 hs hone cellsPlan hv h
  rw [t0] at h0
  rw [t1] at h1
  obtain ⟨T, hT, wT⟩ := open_listsw_cell Tryz.underlying28 Tryz.underlying25 Tryz.underlying3 cellsInts cellsInt h0
  obtain ⟨S, hS, wS⟩ := open_listsw_cell Tryz.underlying28 Tryz.underlying25 Tryz.underlying3 cellsInts cellsInt h1
  exact ⟨(T, S), ⟨v0, v1, rfl, hT, hS⟩, wT, wS⟩
end Go.Proofs.YtmbpmepoaonleaaGreat
