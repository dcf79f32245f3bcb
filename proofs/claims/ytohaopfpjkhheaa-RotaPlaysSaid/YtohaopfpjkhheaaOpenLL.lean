/-
  An argument that is a slice of slices of numbers, opened once, nil or not: the lists that it reads as.
-/
import Derived.Test.YtohaopfpjkhheaaRtMN
import Derived.Test.YtohaopfpjkhheaaOpenG
import Derived.Deep.Slices
namespace Go.Proofs.Ytohaopfpjkhheaa
open Go.ChangeShapes Go.WideShapes Go.ChangeAt Go.RowKit Go.Deep

theorem cellsInts : Try.prog.cellsOf 25 = 1 := by kernel_rfl

/-- The slice value v reads as the lists T. -/
def LL (w : World) (v : Value) (T : List (List Int)) : Prop :=
  ∃ A cap, v = .slice A T.length cap ∧ T.length ≤ cap ∧ cap ≤ maxLen ∧
    (0 < T.length → ∃ b off, A = some ⟨b, off, none⟩ ∧ b < w.heap.size ∧ ∀ j, j < T.length → ∃ u, w.cell? ⟨b, off + j, none⟩ = some u ∧ Ints w u (Rt.getT T j))

theorem LL.nil {w : World} : LL w (.slice none 0 0) [] := ⟨none, 0, rfl, Nat.le_refl _, by unfold maxLen; omega, fun h => absurd h (by simp)⟩

theorem LL.below {w w' : World} {v : Value} {T : List (List Int)} (h : LL w v T) (hb : Below w.heap.size w w') : LL w' v T := by
  obtain ⟨A, cap, rfl, hc, hm, hr⟩ := h
  refine ⟨A, cap, rfl, hc, hm, fun h0 => ?_⟩
  obtain ⟨b, off, hA, hlt, hg⟩ := hr h0
  refine ⟨b, off, hA, Nat.lt_of_lt_of_le hlt hb.size, fun j hj => ?_⟩
  obtain ⟨u, h1, h2⟩ := hg j hj
  exact ⟨u, (hb.cell (p := ⟨b, off + j, none⟩) hlt).trans h1, h2.below hb⟩

theorem LL.form {w : World} {v : Value} {T : List (List Int)} (h : LL w v T) : ∃ A cap, v = .slice A T.length cap ∧ T.length ≤ cap ∧ cap ≤ maxLen := by
  obtain ⟨A, cap, rfl, hc, hm, _⟩ := h
  exact ⟨A, cap, rfl, hc, hm⟩

/-- One of the lists: where it lies, and what it reads as. -/
theorem LL.get {w : World} {A : Option Addr} {n c : Nat} {T : List (List Int)} (h : LL w (.slice A n c) T) {j : Nat} (hj : j < T.length) :
    ∃ b off, A = some ⟨b, off, none⟩ ∧ b < w.heap.size ∧ ∃ A' c', w.cell? ⟨b, off + j, none⟩ = some (.slice A' (Rt.getT T j).length c') ∧ Ints w (.slice A' (Rt.getT T j).length c') (Rt.getT T j) := by
  obtain ⟨A0, cap, e, _, _, hr⟩ := h
  cases e
  obtain ⟨b, off, hA, hlt, hg⟩ := hr (by omega)
  obtain ⟨u, h1, h2⟩ := hg j hj
  obtain ⟨A', c', rfl⟩ := ints_form h2
  exact ⟨b, off, hA, hlt, A', c', h1, h2⟩

theorem open_listsw {H : Type} {enc : TypeId × Value → H} {P : Program} {W : World} {t e i : TypeId} {base : Nat} {rd : Go.Reach} {v : Value} {d : DataW H} {p : List MemPlace}
    (ht : P.underlying t = some (.slice e)) (he : P.underlying e = some (.slice i)) (hi : P.underlying i = some (.int .i64)) (hce : P.cellsOf e = 1) (hci : P.cellsOf i = 1)
    (hv : Value.okWide P W rd base t v) (h : DataW.Trod enc P W 0 (fun _ => true) true t v d p) : ∃ T : List (List Int), LL W v T ∧ ∀ j, ∀ x ∈ Rt.getT T j, (Lit.int .i64 x).wf = true := by
  obtain ⟨a0, len, cap, rfl⟩ := okWide_slice ht hv
  obtain ⟨fuel, hf⟩ := h
  rcases open_slice ht hf with ⟨hcs, _⟩ | ⟨a, len', cap', m, n, D, Pl, hcs, _, hl, hm, hmm, _, hx⟩
  · simp [Value.cells] at hcs
    obtain ⟨rfl, rfl, rfl⟩ := hcs
    exact ⟨[], LL.nil, fun j x hx => by rw [Rt.getT_out _ _ (by simp)] at hx; exact absurd hx List.not_mem_nil⟩
  · simp [Value.cells] at hcs
    obtain ⟨rfl, rfl, rfl⟩ := hcs
    simp only [if_true] at hmm
    subst hmm
    have each : ∀ k, k < len → ∃ q : Value × List Int, W.cell? (a.add k) = some q.1 ∧ Ints W q.1 q.2 ∧ ∀ x ∈ q.2, (Lit.int .i64 x).wf = true := by
      intro k hk
      obtain ⟨cs', h1, h2⟩ := hx k (by omega)
      rw [hce] at h1
      obtain ⟨_, hlen, hcell⟩ := World.cells?_some h1
      match cs', hlen with
      | [u], _ =>
        have e0 := hcell 0 (by omega)
        rw [add_add] at e0
        obtain ⟨l, hl', hw'⟩ := open_ints_cellw he hi hci h2
        exact ⟨⟨u, l⟩, by simpa using e0, hl', hw'⟩
    obtain ⟨q, hq⟩ := choose_lt each
    have hlen : ((List.range len).map fun k => (q k).2).length = len := by simp
    have hget : ∀ j, j < len → Rt.getT ((List.range len).map fun k => (q k).2) j = (q j).2 := fun j hj => by
      rw [Rt.getT_of _ _ (by rw [hlen]; exact hj)]; simp
    refine ⟨(List.range len).map fun k => (q k).2, ⟨some a, m, by rw [hlen], by omega, hm, fun h0 => ?_⟩, fun j x hx => ?_⟩
    case refine_2 =>
      by_cases hj : j < len
      · rw [hget j hj] at hx
        exact (hq j hj).2.2 x hx
      · rw [Rt.getT_out _ _ (by rw [hlen]; exact hj)] at hx
        exact absurd hx List.not_mem_nil
    rw [hlen] at h0
    obtain ⟨b, off, sp⟩ := a
    have h1 := (hq 0 (by omega)).1
    have hsp : sp = none := by simpa [Addr.add] using World.cell?_spot h1
    subst hsp
    refine ⟨b, off, rfl, by simpa [Addr.add] using World.block_lt_of_cell? W _ h1, fun j hj => ?_⟩
    rw [hlen] at hj
    rw [hget j hj]
    obtain ⟨c0, c1, _⟩ := hq j hj
    rw [Addr.add_lit] at c0
    exact ⟨_, c0, c1⟩

theorem open_lists {H : Type} {enc : TypeId × Value → H} {P : Program} {W : World} {t e i : TypeId} {base : Nat} {rd : Go.Reach} {v : Value} {d : DataW H} {p : List MemPlace}
    (ht : P.underlying t = some (.slice e)) (he : P.underlying e = some (.slice i)) (hi : P.underlying i = some (.int .i64)) (hce : P.cellsOf e = 1) (hci : P.cellsOf i = 1)
    (hv : Value.okWide P W rd base t v) (h : DataW.Trod enc P W 0 (fun _ => true) true t v d p) : ∃ T : List (List Int), LL W v T := by
  obtain ⟨T, h1, _⟩ := open_listsw ht he hi hce hci hv h
  exact ⟨T, h1⟩

end Go.Proofs.Ytohaopfpjkhheaa
