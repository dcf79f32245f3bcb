/-
  A list of lists that a call makes: the outer slice, and a row for each list.
-/
import Derived.Test.YtfofidbgjfmepaaStH
namespace Go.Proofs.Ytfofidbgjfmepaa
open Go.RowKit

theorem Try.infoInts : (Try.prog.info? 32).map (fun i => (i.zero, i.size, i.bytes)) = some (some (.slice none 0 0), 1, 24) := by kernel_rfl

/-- Grid of two types of cells lie in two blocks. -/
theorem own_types {w : World} {b b' : Nat} {e e' : TypeId} {size size' : Nat} {v v' : Value} {n n' : Nat} {xs xs' : List Value} (h : w.ownsRow b e size v n xs) (h' : w.ownsRow b' e' size' v' n' xs') (hne : e ≠ e') : v.ownBlock = none ∨ v.ownBlock ≠ v'.ownBlock := by
  rcases h'.2 with ⟨rfl, _⟩ | ⟨g, cap, cur, rfl, _, hg, _⟩
  · by_cases h0 : v.ownBlock = none
    · exact .inl h0
    · exact .inr h0
  · exact .inr (own_apart h hg hne)

/-- The value at a place of a list of values. -/
def getV (us : List Value) (j : Nat) : Value := us.getD j undef
/-- The list at a place of a list of lists. -/
def getL (ls : List (List Int)) (j : Nat) : List Int := ls.getD j []

theorem getV_set_same (us : List Value) (i : Nat) (u : Value) (h : i < us.length) : getV (us.set i u) i = u := by unfold getV; simp [h]
theorem getV_set_other (us : List Value) (i j : Nat) (u : Value) (h : i ≠ j) : getV (us.set i u) j = getV us j := by unfold getV; simp [h]
theorem getL_set_same (us : List (List Int)) (i : Nat) (u : List Int) (h : i < us.length) : getL (us.set i u) i = u := by unfold getL; simp [h]
theorem getL_set_other (us : List (List Int)) (i j : Nat) (u : List Int) (h : i ≠ j) : getL (us.set i u) j = getL us j := by unfold getL; simp [h]
theorem getV_app_left (us : List Value) (u : Value) (j : Nat) (h : j < us.length) : getV (us ++ [u]) j = getV us j := by unfold getV; simp [List.getElem?_append_left h]
theorem getV_app_right (us : List Value) (u : Value) : getV (us ++ [u]) us.length = u := by unfold getV; simp
theorem getL_app_left (us : List (List Int)) (u : List Int) (j : Nat) (h : j < us.length) : getL (us ++ [u]) j = getL us j := by unfold getL; simp [List.getElem?_append_left h]
theorem getL_app_right (us : List (List Int)) (u : List Int) : getL (us ++ [u]) us.length = u := by unfold getL; simp

/-- v is a slice of the call's own of the slices us, of which each owns its row; none lies in block nb. -/
structure Grid (w : World) (base : Nat) (nb : Option Nat) (v : Value) (us : List Value) (ls : List (List Int)) : Prop where
  own : w.ownsRow base 32 1 v us.length us
  len : us.length = ls.length
  each : ∀ j, j < ls.length → w.ownsRow base 3 1 (getV us j) (getL ls j).length ((getL ls j).map (Value.int .i64))
  apart : ∀ i j, i < ls.length → j < ls.length → i ≠ j → (getV us i).ownBlock = none ∨ (getV us i).ownBlock ≠ (getV us j).ownBlock
  shun : ∀ j, j < ls.length → (getV us j).ownBlock = none ∨ (getV us j).ownBlock ≠ nb

variable {w w1 : World} {base : Nat} {nb : Option Nat} {v : Value} {us : List Value} {ls : List (List Int)}

theorem Grid.start (w : World) (base : Nat) (nb : Option Nat) : Grid w base nb (.slice none 0 0) [] [] :=
  ⟨World.ownsRow_nil _ _ _ _, rfl, fun _ h => absurd h (Nat.not_lt_zero _), fun _ _ h => absurd h (Nat.not_lt_zero _), fun _ h => absurd h (Nat.not_lt_zero _)⟩

theorem Grid.same (h : Grid w base nb v us ls) (hs : ∀ g, base ≤ g → g < w.heap.size → w1.heap[g]? = w.heap[g]?) : Grid w1 base nb v us ls :=
  ⟨own_block h.own (fun g hg => hs g (h.own.lt g hg).1 (h.own.lt g hg).2), h.len, fun j hj => own_block (h.each j hj) (fun g hg => hs g ((h.each j hj).lt g hg).1 ((h.each j hj).lt g hg).2), h.apart, h.shun⟩

theorem Grid.below (h : Grid w base nb v us ls) (hb : Below w.heap.size w w1) : Grid w1 base nb v us ls := h.same (fun g _ hg => hb.block g hg)

/-- A cell of another row of numbers has been written. -/
theorem Grid.other (h : Grid w base nb v us ls) {b i : Nat} (hnb : nb = some b) (hv : v.ownBlock ≠ some b) (x : Value) : Grid (w.setCell ⟨b, i, none⟩ x) base nb v us ls :=
  ⟨own_block h.own (fun g hg => Below.heap_setCell _ _ _ _ (fun e => hv (by rw [hg, e]))), h.len, fun j hj => own_block (h.each j hj) (fun g hg => Below.heap_setCell _ _ _ _ (fun e => by
    rcases h.shun j hj with e1 | e1
    · rw [e1] at hg; cases hg
    · exact e1 (by rw [hg, e, hnb]))), h.apart, h.shun⟩

/-- A nil slice has been appended. -/
theorem Grid.push (h : Grid w base nb v us ls) {v' : Value} (hg : w.grownBy w1 v.ownBlock) (ho : w1.ownsRow base 32 1 v' (us.length + 1) (us ++ [.slice none 0 0])) :
    Grid w1 base nb v' (us ++ [.slice none 0 0]) (ls ++ [[]]) := by
  have hl := h.len
  have hr : ∀ j, j < ls.length → w1.ownsRow base 3 1 (getV us j) (getL ls j).length ((getL ls j).map (Value.int .i64)) := fun j hj => by
    refine (h.each j hj).kept hg ?_
    rcases own_types (h.each j hj) h.own (by decide) with e | e
    · exact .inl e
    · exact .inr e
  refine ⟨by rw [List.length_append]; exact ho, by simp [hl], fun j hj => ?_, fun i j hi hj hne => ?_, fun j hj => ?_⟩
  · simp at hj
    by_cases e : j = ls.length
    · subst e
      rw [getL_app_right, ← hl, getV_app_right]
      exact World.ownsRow_nil _ _ _ _
    · rw [getL_app_left _ _ _ (by omega), getV_app_left _ _ _ (by omega)]
      exact hr j (by omega)
  · simp at hi hj
    by_cases e : i = ls.length
    · subst e
      rw [← hl, getV_app_right]; exact .inl rfl
    · rw [getV_app_left _ _ _ (by omega)]
      by_cases e2 : j = ls.length
      · subst e2
        rw [← hl, getV_app_right]
        by_cases h0 : (getV us i).ownBlock = none
        · exact .inl h0
        · exact .inr h0
      · rw [getV_app_left _ _ _ (by omega)]
        exact h.apart i j (by omega) (by omega) hne
  · simp at hj
    by_cases e : j = ls.length
    · subst e
      rw [← hl, getV_app_right]; exact .inl rfl
    · rw [getV_app_left _ _ _ (by omega)]
      exact h.shun j (by omega)

/-- One of the lists has got one number more, and its slice has been stored. -/
theorem Grid.put (h : Grid w base nb v us ls) {gb n cap j : Nat} (hv : v = .slice (some ⟨gb, 0, none⟩) n cap) (hj : j < ls.length) {u' : Value} {x : Int} (hg : w.grownBy w1 (getV us j).ownBlock)
    (ho : w1.ownsRow base 3 1 u' ((getL ls j).length + 1) ((getL ls j).map (Value.int .i64) ++ [.int .i64 x])) (hat : u'.ownBlock = (getV us j).ownBlock ∨ u'.ownBlock = some w.heap.size) (hnb : ∀ b, nb = some b → b < w.heap.size) :
    Grid (w1.setCell ⟨gb, j, none⟩ u') base nb v (us.set j u') (ls.set j (getL ls j ++ [x])) := by
  have hl := h.len
  subst hv
  have hn : n = us.length := by
    rcases h.own.2 with ⟨e, _⟩ | ⟨g, c, cur, e, _⟩
    · cases e
    · simp only [Value.slice.injEq] at e; omega
  subst hn
  have hown1 : w1.ownsRow base 32 1 (.slice (some ⟨gb, 0, none⟩) us.length cap) us.length us := by
    refine h.own.kept hg (.inr ?_)
    rcases own_types h.own (h.each j hj) (by decide) with e | e
    · cases e
    · exact e
  have hst := hown1.stored j u'
  have hoth : ∀ k, k ≠ gb → (w1.setCell ⟨gb, j, none⟩ u').heap[k]? = w1.heap[k]? := fun k hk => Below.heap_setCell _ _ _ _ hk
  have hgb : ∀ {u : Value} {m : Nat} {zs : List Value}, w1.ownsRow base 3 1 u m zs → (w1.setCell ⟨gb, j, none⟩ u').ownsRow base 3 1 u m zs := fun {u m zs} hu => by
    refine own_block hu (fun g hgk => hoth g (fun e => ?_))
    rcases own_types hu hown1 (by decide) with e1 | e1
    · rw [e1] at hgk; cases hgk
    · exact e1 (by rw [hgk, e]; rfl)
  have hold : ∀ i, i < ls.length → i ≠ j → u'.ownBlock = none ∨ u'.ownBlock ≠ (getV us i).ownBlock := fun i hi hne => by
    rcases hat with e | e
    · rcases h.apart j i hj hi (Ne.symm hne) with e1 | e1
      · exact .inl (e.trans e1)
      · exact .inr (by rw [e]; exact e1)
    · right; rw [e]; intro e1
      have := ((h.each i hi).lt _ e1.symm).2
      omega
  refine ⟨by rw [List.length_set]; exact hst.1, by simp [hl], fun i hi => ?_, fun i i2 hi hi2 hne => ?_, fun i hi => ?_⟩
  · rw [List.length_set] at hi
    by_cases e : j = i
    · subst e
      rw [getL_set_same _ _ _ hj, getV_set_same _ _ _ (by omega)]
      refine hgb ?_
      rw [List.length_append, List.map_append]
      exact ho
    · rw [getL_set_other _ _ _ _ e, getV_set_other _ _ _ _ e]
      refine hgb ((h.each i hi).kept hg ?_)
      exact h.apart i j hi hj (Ne.symm e)
  · rw [List.length_set] at hi hi2
    by_cases e : j = i
    · subst e
      rw [getV_set_same _ _ _ (by omega), getV_set_other _ _ _ _ hne]
      exact hold i2 hi2 (Ne.symm hne)
    · rw [getV_set_other _ _ _ _ e]
      by_cases e2 : j = i2
      · subst e2
        rw [getV_set_same _ _ _ (by omega)]
        rcases hold i hi hne with e3 | e3
        · by_cases h0 : (getV us i).ownBlock = none
          · exact .inl h0
          · exact .inr (by rw [e3]; exact h0)
        · exact .inr (Ne.symm e3)
      · rw [getV_set_other _ _ _ _ e2]
        exact h.apart i i2 hi hi2 hne
  · rw [List.length_set] at hi
    by_cases e : j = i
    · subst e
      rw [getV_set_same _ _ _ (by omega)]
      rcases hat with e1 | e1
      · rcases h.shun j hj with e2 | e2
        · exact .inl (e1.trans e2)
        · exact .inr (by rw [e1]; exact e2)
      · right; rw [e1]; intro e2
        have := hnb _ e2.symm
        omega
    · rw [getV_set_other _ _ _ _ e]
      exact h.shun i hi

/-- The slice value reads as a list of lists; none of its blocks is one of F's. -/
def Lists (w : World) (F : Nat → Prop) (v : Value) (ls : List (List Int)) : Prop :=
  ∃ A cap, v = .slice A ls.length cap ∧ ls.length ≤ cap ∧ cap ≤ maxLen ∧
    (0 < ls.length → ∃ b, A = some ⟨b, 0, none⟩ ∧ ¬ F b ∧ b < w.heap.size ∧ ∀ j, j < ls.length → ∃ u, w.cell? ⟨b, j, none⟩ = some u ∧ Ints w u (getL ls j) ∧ Off F u)

theorem Lists.only {F : Nat → Prop} (h : Lists w F v ls) (ho : Only F w w1) : Lists w1 F v ls := by
  obtain ⟨A, cap, hv, hc, hm, hr⟩ := h
  refine ⟨A, cap, hv, hc, hm, fun h0 => ?_⟩
  obtain ⟨b, hA, hF, hb, hg⟩ := hr h0
  refine ⟨b, hA, hF, Nat.lt_of_lt_of_le hb ho.size, fun j hj => ?_⟩
  obtain ⟨u, h1, h2, h3⟩ := hg j hj
  exact ⟨u, ho.cell h1 hF, h2.only h3 ho, h3⟩

theorem Lists.nil (w : World) (F : Nat → Prop) : Lists w F (.slice none 0 0) [] := ⟨none, 0, rfl, Nat.le_refl _, by unfold maxLen; omega, fun h => absurd h (by simp)⟩

theorem Grid.lists {F : Nat → Prop} (h : Grid w base nb v us ls) (hF : ∀ k, F k → k < base) : Lists w F v ls := by
  have hl := h.len
  have ho := h.own
  rcases ho.2 with ⟨rfl, h0⟩ | ⟨g, cap, cur, rfl, hb, hg, hnc, hcm, _⟩
  · have e : ls = [] := List.length_eq_zero_iff.1 (by omega)
    subst e
    exact Lists.nil w F
  · refine ⟨some ⟨g, 0, none⟩, cap, by rw [hl], by omega, hcm, fun _ => ⟨g, rfl, fun f => absurd (hF g f) (by omega), (Array.getElem?_eq_some_iff.1 hg).1, fun j hj => ⟨getV us j, ?_, Ints.of_own (h.each j hj), fun b hb' f => ?_⟩⟩⟩
    · rw [ho.cellAt j (by omega)]
      unfold getV
      rw [List.getD_eq_getElem?_getD, List.getElem?_eq_getElem (by omega)]
      rfl
    · have := ((h.each j hj).lt b hb').1
      have := hF b f
      omega

end Go.Proofs.Ytfofidbgjfmepaa
