/-
  All groups, as plain mathematics: by their first things; and how one thing more turns them.
-/
import Derived.Test.YtfofidbgjfmepaaStG
namespace Go.Proofs.Ytfofidbgjfmepaa
open Go.RowKit

namespace St

/-- The things below place k of one group, in order. -/
def memb (s : St) (k g : Nat) : List Int := ((List.range k).filter fun i => decide (getN s.gr i = g)).map (getI s.ts)
/-- The groups of the things below place k. -/
def groupsTo (s : St) (k : Nat) : List (List Int) := (headsTo s.gr k).map (memb s k)
def groups (s : St) : List (List Int) := groupsTo s s.ts.length
/-- How many groups begin below a place. -/
def rank (s : St) (r : Nat) : Nat := (headsTo s.gr r).length

theorem memb_succ (s : St) (k g : Nat) : memb s (k + 1) g = if getN s.gr k = g then memb s k g ++ [getI s.ts k] else memb s k g := by
  unfold memb
  rw [List.range_succ, List.filter_append]
  by_cases e : getN s.gr k = g <;> simp [e]
theorem memb_none {s : St} (ok : Ok s) (k : Nat) (hk : k ≤ s.ts.length) : memb s k k = [] := by
  unfold memb
  rw [List.filter_eq_nil_iff.2]
  · rfl
  · intro i hi
    rw [List.mem_range] at hi
    have := (ok.roots i (by rw [ok.len]; omega)).1
    simp; omega
theorem groupsTo_length (s : St) (k : Nat) : (groupsTo s k).length = s.rank k := by simp [groupsTo, rank]
theorem rank_le (s : St) (k : Nat) : s.rank k ≤ k := headsTo_le _ _

theorem headsTo_mem (gr : List Nat) (k g : Nat) (h : g ∈ headsTo gr k) : g < k ∧ getN gr g = g := by
  unfold headsTo headB at h
  simpa using h

/-- A group's first place among all. -/
theorem headsTo_at (gr : List Nat) (r : Nat) (hr : getN gr r = r) : ∀ k, r < k → ∃ B, headsTo gr k = headsTo gr r ++ r :: B ∧ ∀ g ∈ B, g ≠ r := by
  intro k hk
  obtain ⟨d, rfl⟩ : ∃ d, k = r + 1 + d := ⟨k - (r + 1), by omega⟩
  clear hk
  induction d with
  | zero => exact ⟨[], by rw [Nat.add_zero, headsTo_succ, if_pos hr], fun g h => by simp at h⟩
  | succ d ih =>
    obtain ⟨B, h1, h2⟩ := ih
    rw [show r + 1 + (d + 1) = r + 1 + d + 1 from rfl, headsTo_succ]
    by_cases e : getN gr (r + 1 + d) = r + 1 + d
    · rw [if_pos e, h1]
      refine ⟨B ++ [r + 1 + d], by simp, fun g hg => ?_⟩
      rcases List.mem_append.1 hg with hg | hg
      · exact h2 g hg
      · simp at hg; omega
    · rw [if_neg e]
      exact ⟨B, h1, h2⟩

/-- The groups, where a new one's place is laid if the next thing begins one. -/
def laid (s : St) (k : Nat) : List (List Int) := if getN s.gr k = k then groupsTo s k ++ [[]] else groupsTo s k

theorem groupsTo_succ {s : St} (ok : Ok s) (k : Nat) (hk : k < s.ts.length) :
    s.rank (getN s.gr k) < (laid s k).length ∧ groupsTo s (k + 1) = (laid s k).set (s.rank (getN s.gr k)) ((laid s k).getD (s.rank (getN s.gr k)) [] ++ [getI s.ts k]) := by
  obtain ⟨r1, r2⟩ := ok.roots k (by rw [ok.len]; exact hk)
  by_cases e : getN s.gr k = k
  · have hl : laid s k = groupsTo s k ++ [[]] := by unfold laid; rw [if_pos e]
    rw [hl, e]
    have hlen : (groupsTo s k).length = s.rank k := groupsTo_length s k
    refine ⟨by simp [hlen], ?_⟩
    rw [← hlen]
    unfold groupsTo
    rw [headsTo_succ, if_pos e, List.map_append]
    have h1 : (headsTo s.gr k).map (memb s (k + 1)) = (headsTo s.gr k).map (memb s k) := by
      refine List.map_congr_left fun g hg => ?_
      have := (headsTo_mem _ _ _ hg).1
      rw [memb_succ, if_neg (by omega)]
    have h2 : memb s (k + 1) k = [getI s.ts k] := by rw [memb_succ, if_pos e, memb_none ok k (by omega)]; rfl
    rw [h1]
    simp [h2]
  · have hl : laid s k = groupsTo s k := by unfold laid; rw [if_neg e]
    rw [hl]
    obtain ⟨B, h1, h2⟩ := headsTo_at s.gr (getN s.gr k) r2 k (by omega)
    have hA : ∀ g ∈ headsTo s.gr (getN s.gr k), memb s (k + 1) g = memb s k g := fun g hg => by
      have := (headsTo_mem _ _ _ hg).1
      rw [memb_succ, if_neg (by omega)]
    have hB : ∀ g ∈ B, memb s (k + 1) g = memb s k g := fun g hg => by rw [memb_succ, if_neg (fun e => h2 g hg e.symm)]
    have hr : memb s (k + 1) (getN s.gr k) = memb s k (getN s.gr k) ++ [getI s.ts k] := by rw [memb_succ, if_pos rfl]
    unfold groupsTo rank
    rw [headsTo_succ, if_neg e, h1]
    generalize headsTo s.gr (getN s.gr k) = H at *
    refine ⟨by simp, ?_⟩
    rw [List.map_append, List.map_cons, List.map_append, List.map_cons, List.map_congr_left hA, List.map_congr_left hB, hr]
    have hlen : H.length = (H.map (memb s k)).length := by simp
    rw [hlen]
    simp

/-- Each group's list has its first thing ahead. -/
theorem groups_each {s : St} (j : Nat) (hj : j < (groups s).length) : ∃ g, g < s.ts.length ∧ getN s.gr g = g ∧ (groups s).getD j [] = memb s s.ts.length g := by
  unfold groups groupsTo at *
  simp at hj
  have hm : (headsTo s.gr s.ts.length)[j] ∈ headsTo s.gr s.ts.length := List.getElem_mem _
  obtain ⟨h1, h2⟩ := headsTo_mem _ _ _ hm
  exact ⟨_, h1, h2, by simp [hj]⟩

end St

end Go.Proofs.Ytfofidbgjfmepaa
