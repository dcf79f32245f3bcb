/-
  OpenLL, RtP, in one text.
-/
import Derived.Test.YtmbpmepoaonleaaGreatM08
import Derived.Test.YtmbpmepoaonleaaGreatM33
import Derived.Deep.Slices
/-! An argument that is a slice of slices of numbers, opened once, nil or not: the lists that it reads as. -/
namespace Go.Proofs.YtmbpmepoaonleaaGreat
open Go.ChangeShapes Go.WideShapes Go.ChangeAt Go.RowKit Go.Deep

theorem cellsInts : Tryz.prog.cellsOf 25 = 1 := by kernel_rfl

/-- The slice value v reads as the lists T. -/
def LL (w : World) (v : Value) (T : List (List Int)) : Prop :=
  ∃ A cap, v = .slice A T.length cap ∧ T.length ≤ cap ∧ cap ≤ maxLen ∧
    (0 < T.length → ∃ b off, A = some ⟨b, off, none⟩ ∧ b < w.heap.size ∧ ∀ j, j < T.length → ∃ u, w.cell? ⟨b, off + j, none⟩ = some u ∧ Ints w u (Rt.getT T j))

theorem LL.nil {w : World} : LL w (.slice none 0 0) [] := ⟨none, 0, rfl, Nat.le_refl _, by unfold maxLen; omega, fun h => absurd h (by simp)⟩

theorem LL.below {w w' : World} {v : Value} {T : List (List Int)} (h : LL w v T) (hb : Below w.heap.size w w') : LL w' v T := by
  obtain ⟨A, cap, rfl, hc, hm, hr⟩ := h
  refine ⟨A, cap, rfl, hc, hm, fun h0 => ?_⟩
  obtain ⟨b, off, hA, hlt, hg⟩ := hr h0
  refine ⟨b, off, hA, Nat.lt_of_lt_of_le hlt hb.size, fun j hj => ?_⟩
  obtain ⟨u, h1, h2⟩ := hg j hj
  exact ⟨u, (hb.cell (p := ⟨b, off + j, none⟩) hlt).trans h1, h2.below hb⟩

theorem LL.form {w : World} {v : Value} {T : List (List Int)} (h : LL w v T) : ∃ A cap, v = .slice A T.length cap ∧ T.length ≤ cap ∧ cap ≤ maxLen := by
  obtain ⟨A, cap, rfl, hc, hm, _⟩ := h
  exact ⟨A, cap, rfl, hc, hm⟩

/-- One of the lists: where it lies, and what it reads as. -/
theorem LL.get {w : World} {A : Option Addr} {n c : Nat} {T : List (List Int)} (h : LL w (.slice A n c) T) {j : Nat} (hj : j < T.length) :
    ∃ b off, A = some ⟨b, off, none⟩ ∧ b < w.heap.size ∧ ∃ A' c', w.cell? ⟨b, off + j, none⟩ = some (.slice A' (Rt.getT T j).length c') ∧ Ints w (.slice A' (Rt.getT T j).length c') (Rt.getT T j) := by
  obtain ⟨A0, cap, e, _, _, hr⟩ := h
  cases e
  obtain ⟨b, off, hA, hlt, hg⟩ := hr (by omega)
  obtain ⟨u, h1, h2⟩ := hg j hj
  obtain ⟨A', c', rfl⟩ := ints_form h2
  exact ⟨b, off, hA, hlt, A', c', h1, h2⟩

end Go.Proofs.YtmbpmepoaonleaaGreat

/-! Lists made one behind another by a call: the outer slice grows by appends, each row stands by itself. -/
namespace Go.Proofs.YtmbpmepoaonleaaGreat.Rt
open Go.Proofs.YtmbpmepoaonleaaGreat Go.RowKit

/-- The value at a place of a list of values. -/
def getU (us : List Value) (j : Nat) : Value := us.getD j undef
theorem getU_of (us : List Value) (j : Nat) (h : j < us.length) : getU us j = us[j] := by unfold getU; simp [h]
theorem getU_left (us : List Value) (u : Value) (j : Nat) (h : j < us.length) : getU (us ++ [u]) j = getU us j := by unfold getU; simp [List.getElem?_append_left h]
theorem getU_right (us : List Value) (u : Value) : getU (us ++ [u]) us.length = u := by unfold getU; simp
theorem getT_left (T : List (List Int)) (l : List Int) (j : Nat) (h : j < T.length) : getT (T ++ [l]) j = getT T j := by unfold getT; simp [List.getElem?_append_left h]
theorem getT_right (T : List (List Int)) (l : List Int) : getT (T ++ [l]) T.length = l := by unfold getT; simp
theorem take_getT (T : List (List Int)) (k : Nat) (h : k < T.length) : T.take (k + 1) = T.take k ++ [getT T k] := by
  rw [List.take_add_one, getT_of T k h]; simp [h]

/-- Rows of two types of cells lie in two blocks. -/
theorem own_two {w : World} {b b' : Nat} {e e' : TypeId} {size size' : Nat} {v v' : Value} {n n' : Nat} {xs xs' : List Value} (h : w.ownsRow b e size v n xs) (h' : w.ownsRow b' e' size' v' n' xs') (hne : e ≠ e') : v.ownBlock = none ∨ v.ownBlock ≠ v'.ownBlock := by
  rcases h.2 with ⟨rfl, _⟩ | ⟨g, cap, cur, rfl, _, hg, _⟩
  · exact .inl rfl
  · refine .inr fun e1 => ?_
    rcases h'.2 with ⟨rfl, _⟩ | ⟨g', cap', cur', rfl, _, hg', _⟩
    · cases e1
    · cases e1
      rw [hg] at hg'
      cases hg'
      exact hne rfl

/-- v is a slice of the call's own of the values us, each a row of the call's own. -/
structure Made (w : World) (base : Nat) (v : Value) (us : List Value) (T : List (List Int)) : Prop where
  own : w.ownsRow base 25 1 v us.length us
  len : us.length = T.length
  each : ∀ j, j < T.length → w.ownsRow base 3 1 (getU us j) (getT T j).length ((getT T j).map (Value.int .i64))

variable {w w1 : World} {base : Nat} {v : Value} {us : List Value} {T : List (List Int)}

theorem Made.start (w : World) (base : Nat) : Made w base (.slice none 0 0) [] [] :=
  ⟨World.ownsRow_nil _ _ _ _, rfl, fun _ h => absurd h (Nat.not_lt_zero _)⟩
theorem Made.same (h : Made w base v us T) (hs : ∀ g, base ≤ g → g < w.heap.size → w1.heap[g]? = w.heap[g]?) : Made w1 base v us T :=
  ⟨own_block h.own (fun g hg => hs g (h.own.lt g hg).1 (h.own.lt g hg).2), h.len, fun j hj => own_block (h.each j hj) (fun g hg => hs g ((h.each j hj).lt g hg).1 ((h.each j hj).lt g hg).2)⟩
theorem Made.below (h : Made w base v us T) (hb : Below w.heap.size w w1) : Made w1 base v us T := h.same (fun g _ hg => hb.block g hg)

/-- A row has been appended. -/
theorem Made.push (h : Made w base v us T) {v' u : Value} {l : List Int} (hu : w.ownsRow base 3 1 u l.length (l.map (Value.int .i64))) (hg : w.grownBy w1 v.ownBlock) (ho : w1.ownsRow base 25 1 v' (us.length + 1) (us ++ [u])) :
    Made w1 base v' (us ++ [u]) (T ++ [l]) := by
  have hl := h.len
  refine ⟨by rw [List.length_append]; exact ho, by simp [hl], fun j hj => ?_⟩
  simp at hj
  by_cases e : j = T.length
  · subst e
    rw [getT_right, ← hl, getU_right]
    exact hu.kept hg (own_two hu h.own (by decide))
  · rw [getT_left _ _ _ (by omega), getU_left _ _ _ (by omega)]
    exact (h.each j (by omega)).kept hg (own_two (h.each j (by omega)) h.own (by decide))

/-- What has been made reads as the lists. -/
theorem Made.reads (h : Made w base v us T) : LL w v T := by
  have hl := h.len
  rcases h.own.2 with ⟨rfl, h0⟩ | ⟨g, cap, cur, rfl, hb, hg, r1, r2, r3, r4⟩
  · obtain rfl := List.eq_nil_of_length_eq_zero (show T.length = 0 by omega)
    exact LL.nil
  · have hlt : g < w.heap.size := by
      rcases Nat.lt_or_ge g w.heap.size with h | h
      · exact h
      · rw [Array.getElem?_eq_none h] at hg; cases hg
    rw [hl]
    refine ⟨_, cap, rfl, by omega, r2, fun _ => ⟨g, 0, rfl, hlt, fun j hj => ⟨getU us j, ?_, ?_⟩⟩⟩
    · rw [Nat.zero_add, cell_of_row w g j cur 25 (0, 0) hg, getU_of us j (by omega)]
      have hc := congrArg (fun l => l[j]?) r4
      simp only [List.getElem?_take, Array.getElem?_toList] at hc
      rw [if_pos (by omega)] at hc
      rw [hc]
      simp [show j < us.length by omega]
    · exact Ints.of_own (h.each j hj)

end Go.Proofs.YtmbpmepoaonleaaGreat.Rt
