/-
  StM, StW, in one text.
-/
import Derived.Test.YtmbpmepoaonleaaGreatM01
import Derived.Maps.OwnSet
import Derived.Maps.AppendAt
import Derived.Maps.OwnRows
import Derived.Deep.Heap
/-! Things in groups, as plain mathematics: the list of things in order, each with its group's first place. -/
namespace Go.Proofs.YtmbpmepoaonleaaGreat
open Go.RowKit

/-- The number at a place of a list of places. -/
def getN (l : List Nat) (j : Nat) : Nat := l.getD j 0
theorem getN_app_left (l m : List Nat) (j : Nat) (h : j < l.length) : getN (l ++ m) j = getN l j := by
  unfold getN; simp [List.getElem?_append_left h]
theorem getN_snoc (l : List Nat) (x : Nat) : getN (l ++ [x]) l.length = x := by unfold getN; simp
theorem getN_set_same (l : List Nat) (i x : Nat) (h : i < l.length) : getN (l.set i x) i = x := by unfold getN; simp [h]
theorem getN_set_other (l : List Nat) (i j x : Nat) (h : i ≠ j) : getN (l.set i x) j = getN l j := by unfold getN; simp [h]
theorem getN_map (l : List Nat) (f : Nat → Nat) (j : Nat) (h : j < l.length) : getN (l.map f) j = f (getN l j) := by unfold getN; simp [h]

/-- Places as numbers. -/
def natsI (l : List Nat) : List Int := l.map fun (n : Nat) => (n : Int)
theorem natsI_length (l : List Nat) : (natsI l).length = l.length := by simp [natsI]
theorem natsI_get (l : List Nat) (j : Nat) (h : j < l.length) : getI (natsI l) j = (getN l j : Int) := by
  unfold getI getN natsI; simp [h]
theorem natsI_snoc (l : List Nat) (x : Nat) : natsI (l ++ [x]) = natsI l ++ [(x : Int)] := by simp [natsI]
theorem natsI_set (l : List Nat) (i x : Nat) : natsI (l.set i x) = (natsI l).set i (x : Int) := by simp [natsI, List.map_set]

/-! ### Ways ahead, and what they lead to -/

/-- The places ahead lead each place to its group's first one. -/
def Leads (ah gr : List Nat) : Prop :=
  ah.length = gr.length ∧ ∀ i, i < gr.length → getN ah i ≤ i ∧ getN gr (getN ah i) = getN gr i ∧ (getN ah i = i ↔ getN gr i = i)

/-- Each group's number is its first place. -/
def Roots (gr : List Nat) : Prop := ∀ i, i < gr.length → getN gr i ≤ i ∧ getN gr (getN gr i) = getN gr i

theorem Leads.roots {ah gr : List Nat} (h : Leads ah gr) : Roots gr := by
  intro i
  induction i using Nat.strongRecOn with
  | _ i ih =>
    intro hi
    obtain ⟨h1, h2, h3⟩ := h.2 i hi
    by_cases e : getN ah i = i
    · have e2 := h3.1 e
      rw [e2]; exact ⟨Nat.le_refl _, e2⟩
    · obtain ⟨i1, i2⟩ := ih (getN ah i) (by omega) (by omega)
      rw [h2] at i1 i2
      exact ⟨by omega, i2⟩

theorem Leads.halve {ah gr : List Nat} (h : Leads ah gr) {i : Nat} (hi : i < gr.length) (hne : getN ah i ≠ i) : Leads (ah.set i (getN ah (getN ah i))) gr := by
  refine ⟨by rw [List.length_set]; exact h.1, fun j hj => ?_⟩
  obtain ⟨h1, h2, h3⟩ := h.2 i hi
  have hlt : getN ah i < i := by omega
  obtain ⟨k1, k2, k3⟩ := h.2 (getN ah i) (by omega)
  by_cases e : i = j
  · subst e
    rw [getN_set_same _ _ _ (by rw [h.1]; exact hi)]
    refine ⟨by omega, by rw [k2, h2], ?_⟩
    constructor
    · intro e; omega
    · intro e; exact absurd (h3.2 e) hne
  · rw [getN_set_other _ _ _ _ e]
    exact h.2 j hj

theorem Leads.snoc {ah gr : List Nat} (h : Leads ah gr) : Leads (ah ++ [gr.length]) (gr ++ [gr.length]) := by
  refine ⟨by simp [h.1], fun j hj => ?_⟩
  simp at hj
  by_cases e : j = gr.length
  · subst e
    have e1 : getN (ah ++ [gr.length]) gr.length = gr.length := by rw [← h.1, getN_snoc]
    rw [e1, getN_snoc]
    exact ⟨Nat.le_refl _, rfl, by simp⟩
  · have hj' : j < gr.length := by omega
    obtain ⟨h1, h2, h3⟩ := h.2 j hj'
    rw [getN_app_left ah _ j (by rw [h.1]; exact hj'), getN_app_left gr _ j hj', getN_app_left gr _ _ (by omega)]
    exact ⟨h1, h2, h3⟩

/-- Two groups made one. -/
def joinG (gr : List Nat) (a b : Nat) : List Nat := gr.map fun g => if g = max a b then min a b else g
theorem joinG_length (gr : List Nat) (a b : Nat) : (joinG gr a b).length = gr.length := by simp [joinG]
theorem joinG_get (gr : List Nat) (a b j : Nat) (h : j < gr.length) : getN (joinG gr a b) j = if getN gr j = max a b then min a b else getN gr j := by
  unfold joinG; rw [getN_map _ _ _ h]

theorem Leads.join {ah gr : List Nat} (h : Leads ah gr) {a b : Nat} (ha : a < gr.length) (hb : b < gr.length) (ra : getN gr a = a) (rb : getN gr b = b) (hne : a ≠ b) :
    Leads (ah.set (max a b) (min a b)) (joinG gr a b) := by
  have hM : max a b < gr.length := by omega
  have hm : min a b < max a b := by omega
  have rM : getN gr (max a b) = max a b := by rcases Nat.le_total a b with e | e <;> simp [e, Nat.max_eq_right, Nat.max_eq_left, ra, rb]
  have rm : getN gr (min a b) = min a b := by rcases Nat.le_total a b with e | e <;> simp [e, Nat.min_eq_right, Nat.min_eq_left, ra, rb]
  generalize hMM : max a b = M at *
  generalize hmm : min a b = m at *
  have hJ : ∀ j, j < gr.length → getN (joinG gr a b) j = if getN gr j = M then m else getN gr j := fun j hj => by rw [joinG_get _ _ _ _ hj, hMM, hmm]
  refine ⟨by rw [List.length_set, joinG_length]; exact h.1, fun j hj => ?_⟩
  rw [joinG_length] at hj
  by_cases e : M = j
  · subst e
    rw [getN_set_same _ _ _ (by rw [h.1]; exact hj), hJ m (by omega), hJ M hj, rM, rm]
    rw [if_pos (rfl : M = M)]
    exact ⟨by omega, by split <;> rfl, by omega⟩
  · obtain ⟨h1, h2, h3⟩ := h.2 j hj
    rw [getN_set_other _ _ _ _ e, hJ j hj, hJ _ (by omega), h2]
    refine ⟨h1, rfl, ?_⟩
    constructor
    · intro e2
      have := h3.1 e2
      rw [if_neg (by omega)]; exact this
    · intro e2
      by_cases e3 : getN gr j = M
      · rw [if_pos e3] at e2
        subst e2
        omega
      · rw [if_neg e3] at e2
        exact h3.2 e2

/-! ### How many groups -/

def headB (gr : List Nat) (i : Nat) : Bool := decide (getN gr i = i)
/-- The groups' first places below k, in order. -/
def headsTo (gr : List Nat) (k : Nat) : List Nat := (List.range k).filter (headB gr)
def heads (gr : List Nat) : Nat := (headsTo gr gr.length).length

theorem headsTo_succ (gr : List Nat) (k : Nat) : headsTo gr (k + 1) = if getN gr k = k then headsTo gr k ++ [k] else headsTo gr k := by
  unfold headsTo headB
  rw [List.range_succ, List.filter_append]
  by_cases e : getN gr k = k <;> simp [e]
theorem headsTo_le (gr : List Nat) (k : Nat) : (headsTo gr k).length ≤ k := Nat.le_trans (List.length_filter_le _ _) (by simp)
theorem headsTo_congr {gr gr' : List Nat} (k : Nat) (h : ∀ i, i < k → (getN gr i = i ↔ getN gr' i = i)) : headsTo gr k = headsTo gr' k := by
  unfold headsTo headB
  refine List.filter_congr fun i hi => ?_
  rw [List.mem_range] at hi
  exact decide_eq_decide.2 (h i hi)

theorem heads_snoc (gr : List Nat) : heads (gr ++ [gr.length]) = heads gr + 1 := by
  unfold heads
  rw [List.length_append, List.length_singleton, headsTo_succ, if_pos (getN_snoc _ _), List.length_append,
    headsTo_congr gr.length (gr' := gr) (fun i hi => by rw [getN_app_left _ _ _ hi])]
  rfl
theorem heads_le (gr : List Nat) : heads gr ≤ gr.length := headsTo_le _ _

/-- One first place less. -/
theorem headsTo_drop (gr gr' : List Nat) (M : Nat) (hM : getN gr M = M) (hM' : getN gr' M ≠ M) (h : ∀ i, i ≠ M → (getN gr i = i ↔ getN gr' i = i)) :
    ∀ k, (headsTo gr k).length = (headsTo gr' k).length + (if M < k then 1 else 0)
  | 0 => by simp [headsTo]
  | k + 1 => by
    have ih := headsTo_drop gr gr' M hM hM' h k
    rw [headsTo_succ, headsTo_succ]
    by_cases e : k = M
    · subst e
      rw [if_pos hM, if_neg hM', List.length_append, ih, if_neg (by omega), if_pos (by omega)]
      rfl
    · have hk := h k e
      by_cases e2 : getN gr k = k
      · rw [if_pos e2, if_pos (hk.1 e2), List.length_append, List.length_append, ih]
        have : (M < k) = (M < k + 1) := by simp; omega
        simp only [this]
        simp; omega
      · rw [if_neg e2, if_neg (fun e3 => e2 (hk.2 e3)), ih]
        have : (M < k) = (M < k + 1) := by simp; omega
        simp only [this]

theorem heads_join {gr : List Nat} {a b : Nat} (ha : a < gr.length) (hb : b < gr.length) (ra : getN gr a = a) (rb : getN gr b = b) (hne : a ≠ b) : heads gr = heads (joinG gr a b) + 1 := by
  have hM : max a b < gr.length := by omega
  have hm : min a b < max a b := by omega
  have rM : getN gr (max a b) = max a b := by rcases Nat.le_total a b with e | e <;> simp [e, Nat.max_eq_right, Nat.max_eq_left, ra, rb]
  have rm : getN gr (min a b) = min a b := by rcases Nat.le_total a b with e | e <;> simp [e, Nat.min_eq_right, Nat.min_eq_left, ra, rb]
  have hJ : ∀ j, j < gr.length → getN (joinG gr a b) j = if getN gr j = max a b then min a b else getN gr j := fun j hj => joinG_get _ _ _ _ hj
  have hO : ∀ j, ¬ j < gr.length → getN gr j = 0 := fun j hj => by unfold getN; simp; rw [List.getElem?_eq_none (by omega)]; rfl
  have hO' : ∀ j, ¬ j < gr.length → getN (joinG gr a b) j = 0 := fun j hj => by unfold getN; simp; rw [List.getElem?_eq_none (by rw [joinG_length]; omega)]; rfl
  have := headsTo_drop gr (joinG gr a b) (max a b) rM (by rw [hJ _ hM, rM, if_pos rfl]; omega) (fun i hi => by
    by_cases hl : i < gr.length
    · rw [hJ i hl]
      by_cases e : getN gr i = max a b
      · rw [if_pos e, e]
        constructor
        · intro e2; omega
        · intro e2; rw [← e2] at e; omega
      · rw [if_neg e]
    · rw [hO i hl, hO' i hl]) gr.length
  rw [if_pos hM] at this
  unfold heads
  rw [joinG_length]
  exact this

/-! ### The things -/

structure St where
  ts : List Int
  gr : List Nat

namespace St

def empty : St := ⟨[], []⟩
/-- The place of a thing. -/
def place (s : St) (x : Int) : Nat := (Lib.idxOf s.ts x).toNat
/-- The first place of a thing's group. -/
def root (s : St) (x : Int) : Nat := getN s.gr (s.place x)
def add (s : St) (x : Int) : St := if x ∈ s.ts then s else ⟨s.ts ++ [x], s.gr ++ [s.ts.length]⟩
def both (s : St) (x y : Int) : St := (s.add x).add y
def joins (s : St) (x y : Int) : Bool := decide ((s.both x y).root x ≠ (s.both x y).root y)
def join (s : St) (x y : Int) : St :=
  if (s.both x y).root x = (s.both x y).root y then s.both x y else ⟨(s.both x y).ts, joinG (s.both x y).gr ((s.both x y).root x) ((s.both x y).root y)⟩
def same (s : St) (x y : Int) : Bool := decide (x ∈ s.ts ∧ y ∈ s.ts ∧ s.root x = s.root y)

structure Ok (s : St) : Prop where
  one : ∀ i j, i < s.ts.length → j < s.ts.length → getI s.ts i = getI s.ts j → i = j
  len : s.gr.length = s.ts.length
  roots : Roots s.gr
  wf : ∀ x ∈ s.ts, (Lit.int .i64 x).wf = true

theorem ok_empty : Ok empty := ⟨fun i _ h => absurd h (Nat.not_lt_zero _), rfl, fun i h => absurd h (Nat.not_lt_zero _), fun x h => by simp [empty] at h⟩

theorem find_in {s : St} {x : Int} (h : x ∈ s.ts) : Lib.idxOf s.ts x = (s.place x : Int) ∧ s.place x < s.ts.length ∧ getI s.ts (s.place x) = x := by
  unfold place
  rcases idx_cases s.ts x with ⟨k, h1, h2, h3, _⟩ | ⟨_, h2⟩
  · rw [h2]; exact ⟨by simp, by simpa using h1, by simpa using h3⟩
  · exact absurd ((mem_getI _ _).1 h) (fun ⟨j, hj, e⟩ => h2 j hj e)
theorem find_out {s : St} {x : Int} (h : x ∉ s.ts) : Lib.idxOf s.ts x = -1 :=
  idx_none _ _ fun j hj e => h ((mem_getI _ _).2 ⟨j, hj, e⟩)
theorem place_at {s : St} (ok : Ok s) {i : Nat} (hi : i < s.ts.length) : s.place (getI s.ts i) = i := by
  obtain ⟨_, h2, h3⟩ := find_in (s := s) (x := getI s.ts i) ((mem_getI _ _).2 ⟨i, hi, rfl⟩)
  exact ok.one _ _ h2 hi h3
theorem root_lt {s : St} (ok : Ok s) {x : Int} (h : x ∈ s.ts) : s.root x < s.ts.length ∧ getN s.gr (s.root x) = s.root x := by
  obtain ⟨_, h2, _⟩ := find_in h
  obtain ⟨r1, r2⟩ := ok.roots (s.place x) (by rw [ok.len]; exact h2)
  exact ⟨by unfold root; omega, r2⟩

theorem add_in {s : St} {x : Int} (h : x ∈ s.ts) : s.add x = s := by unfold add; rw [if_pos h]
theorem add_out {s : St} {x : Int} (h : x ∉ s.ts) : s.add x = ⟨s.ts ++ [x], s.gr ++ [s.ts.length]⟩ := by unfold add; rw [if_neg h]
theorem mem_add (s : St) (x y : Int) : y ∈ (s.add x).ts ↔ y ∈ s.ts ∨ y = x := by
  by_cases h : x ∈ s.ts
  · rw [add_in h]
    exact ⟨.inl, fun h' => h'.elim id (fun e => e ▸ h)⟩
  · rw [add_out h]; simp
theorem mem_add_self (s : St) (x : Int) : x ∈ (s.add x).ts := (mem_add _ _ _).2 (.inr rfl)
theorem mem_add_of {s : St} {y : Int} (x : Int) (h : y ∈ s.ts) : y ∈ (s.add x).ts := (mem_add _ _ _).2 (.inl h)
theorem len_add (s : St) (x : Int) : (s.add x).ts.length ≤ s.ts.length + 1 := by
  by_cases h : x ∈ s.ts
  · rw [add_in h]; omega
  · rw [add_out h]; simp
theorem ok_add {s : St} (ok : Ok s) {x : Int} (hx : (Lit.int .i64 x).wf = true) : Ok (s.add x) := by
  by_cases h : x ∈ s.ts
  · rw [add_in h]; exact ok
  · rw [add_out h]
    have hno : ∀ j, j < s.ts.length → getI s.ts j ≠ x := fun j hj e => h ((mem_getI _ _).2 ⟨j, hj, e⟩)
    have hl : getI (s.ts ++ [x]) s.ts.length = x := by simp [getI]
    refine ⟨fun i j hi hj e => ?_, by simp [ok.len], fun i hi => ?_, fun z hz => ?_⟩
    · simp at hi hj
      by_cases ei : i = s.ts.length <;> by_cases ej : j = s.ts.length
      · omega
      · subst ei
        simp only at e
        rw [hl, getI_app_left _ _ _ (by omega)] at e
        exact absurd e.symm (hno j (by omega))
      · subst ej
        simp only at e
        rw [hl, getI_app_left _ _ _ (by omega)] at e
        exact absurd e (hno i (by omega))
      · simp only at e
        rw [getI_app_left _ _ _ (by omega), getI_app_left _ _ _ (by omega)] at e
        exact ok.one i j (by omega) (by omega) e
    · simp at hi
      show getN (s.gr ++ [s.ts.length]) i ≤ i ∧ getN (s.gr ++ [s.ts.length]) (getN (s.gr ++ [s.ts.length]) i) = getN (s.gr ++ [s.ts.length]) i
      rw [← ok.len]
      by_cases e : i = s.gr.length
      · subst e; rw [getN_snoc, getN_snoc]; exact ⟨Nat.le_refl _, rfl⟩
      · obtain ⟨r1, r2⟩ := ok.roots i (by omega)
        rw [getN_app_left _ _ _ (by omega), getN_app_left _ _ _ (by omega)]
        exact ⟨r1, r2⟩
    · rcases List.mem_append.1 hz with hz | hz
      · exact ok.wf z hz
      · simp at hz; subst hz; exact hx

theorem place_add {s : St} (x : Int) {y : Int} (h : y ∈ s.ts) : (s.add x).place y = s.place y := by
  by_cases hx : x ∈ s.ts
  · rw [add_in hx]
  · rw [add_out hx]
    obtain ⟨h1, h2, h3⟩ := find_in h
    unfold place at h1 h2 h3 ⊢
    rcases idx_cases s.ts y with ⟨k, k1, k2, k3, k4⟩ | ⟨_, k2⟩
    · rw [k2]
      have := idx_at (s.ts ++ [x]) k y (by simp; omega) (by rw [getI_app_left _ _ _ k1]; exact k3) (fun j hj => by rw [getI_app_left _ _ _ (by omega)]; exact k4 j hj)
      simp only [this]
    · exact absurd ((mem_getI _ _).1 h) (fun ⟨j, hj, e⟩ => k2 j hj e)
theorem root_add {s : St} (ok : Ok s) (x : Int) {y : Int} (h : y ∈ s.ts) : (s.add x).root y = s.root y := by
  obtain ⟨_, h2, _⟩ := find_in h
  unfold root
  rw [place_add x h]
  by_cases hx : x ∈ s.ts
  · rw [add_in hx]
  · rw [add_out hx]; exact getN_app_left _ _ _ (by rw [ok.len]; exact h2)
theorem place_new {s : St} {x : Int} (h : x ∉ s.ts) : (s.add x).place x = s.ts.length := by
  rw [add_out h]
  unfold place
  have hno : ∀ j, j < s.ts.length → getI s.ts j ≠ x := fun j hj e => h ((mem_getI _ _).2 ⟨j, hj, e⟩)
  have hl : getI (s.ts ++ [x]) s.ts.length = x := by simp [getI]
  have := idx_at (s.ts ++ [x]) s.ts.length x (by simp) hl (fun j hj => by rw [getI_app_left _ _ _ hj]; exact hno j hj)
  simp only [this]; simp

theorem ok_both {s : St} (ok : Ok s) {x y : Int} (hx : (Lit.int .i64 x).wf = true) (hy : (Lit.int .i64 y).wf = true) : Ok (s.both x y) := ok_add (ok_add ok hx) hy
theorem len_both (s : St) (x y : Int) : (s.both x y).ts.length ≤ s.ts.length + 2 := by
  unfold both; have := len_add (s.add x) y; have := len_add s x; omega

theorem join_ts (s : St) (x y : Int) : (s.join x y).ts = (s.both x y).ts := by unfold join; split <;> rfl
theorem joins_true {s : St} {x y : Int} (h : (s.both x y).root x ≠ (s.both x y).root y) : s.joins x y = true ∧ s.join x y = ⟨(s.both x y).ts, joinG (s.both x y).gr ((s.both x y).root x) ((s.both x y).root y)⟩ := by
  unfold joins join; simp [h]
theorem joins_false {s : St} {x y : Int} (h : (s.both x y).root x = (s.both x y).root y) : s.joins x y = false ∧ s.join x y = s.both x y := by
  unfold joins join; simp [h]

theorem ok_join {s : St} (ok : Ok s) {x y : Int} (hx : (Lit.int .i64 x).wf = true) (hy : (Lit.int .i64 y).wf = true) : Ok (s.join x y) := by
  have okb := ok_both ok hx hy
  by_cases h : (s.both x y).root x = (s.both x y).root y
  · rw [(joins_false h).2]; exact okb
  · rw [(joins_true h).2]
    generalize s.both x y = b at *
    refine ⟨okb.one, by rw [joinG_length]; exact okb.len, ?_, okb.wf⟩
    have hxm : x ∈ b.ts ∨ x ∉ b.ts := Classical.em _
    intro i hi
    have hi' : i < b.gr.length := by simpa [joinG_length] using hi
    obtain ⟨r1, r2⟩ := okb.roots i hi'
    show getN (joinG b.gr (b.root x) (b.root y)) i ≤ i ∧ getN (joinG b.gr (b.root x) (b.root y)) (getN (joinG b.gr (b.root x) (b.root y)) i) = getN (joinG b.gr (b.root x) (b.root y)) i
    rw [joinG_get _ _ _ _ hi']
    by_cases e : getN b.gr i = max (b.root x) (b.root y)
    · rw [if_pos e]
      have hm : min (b.root x) (b.root y) ≤ max (b.root x) (b.root y) := by omega
      refine ⟨by omega, ?_⟩
      rw [joinG_get _ _ _ _ (by omega)]
      split
      · rfl
      · rename_i hne
        exact min_root b okb x y hi' e r1 r2
    · rw [if_neg e]
      refine ⟨r1, ?_⟩
      rw [joinG_get _ _ _ _ (by omega), r2, if_neg e]
where
  min_root (b : St) (okb : Ok b) (x y : Int) {i : Nat} (hi' : i < b.gr.length) (e : getN b.gr i = max (b.root x) (b.root y)) (r1 : getN b.gr i ≤ i) (r2 : getN b.gr (getN b.gr i) = getN b.gr i) :
      getN b.gr (min (b.root x) (b.root y)) = min (b.root x) (b.root y) := by
    have hr : ∀ z, getN b.gr (b.root z) = b.root z := by
      intro z
      by_cases hz : b.place z < b.gr.length
      · exact (okb.roots _ hz).2
      · have : b.root z = 0 := by unfold root getN; simp; rw [List.getElem?_eq_none (by omega)]; rfl
        rw [this]
        have := (okb.roots 0 (by omega)).1
        omega
    rcases Nat.le_total (b.root x) (b.root y) with h | h
    · rw [Nat.min_eq_left h]; exact hr x
    · rw [Nat.min_eq_right h]; exact hr y

/-- A Join that answers true makes one group less; one that answers false makes none less, of things that are there. -/
theorem heads_join {s : St} (ok : Ok s) {x y : Int} (hx : x ∈ s.ts) (hy : y ∈ s.ts) : heads s.gr = heads (s.join x y).gr + (if s.joins x y = true then 1 else 0) := by
  have hb : s.both x y = s := by unfold both; rw [add_in hx, add_in hy]
  by_cases h : (s.both x y).root x = (s.both x y).root y
  · rw [(joins_false h).1, (joins_false h).2, hb]; rfl
  · rw [(joins_true h).1, (joins_true h).2, if_pos rfl]
    rw [hb] at h ⊢
    have h1 := root_lt ok hx
    have h2 := root_lt ok hy
    exact Go.Proofs.YtmbpmepoaonleaaGreat.heads_join (by rw [ok.len]; exact h1.1) (by rw [ok.len]; exact h2.1) h1.2 h2.2 h

end St

end Go.Proofs.YtmbpmepoaonleaaGreat

/-! Things in groups as they lie in memory: the structure, its two lists, its map; and which blocks a call of theirs may change. -/
namespace Go.Proofs.YtmbpmepoaonleaaGreat
open Go.RowKit Go.Maps

/-- Only blocks of F, of those that were there, have changed. -/
structure Only (F : Nat → Prop) (w w' : World) : Prop where
  os : w'.os = w.os
  tape : w'.tape = w.tape
  output : w'.output = w.output
  size : w.heap.size ≤ w'.heap.size
  block : ∀ k, k < w.heap.size → ¬ F k → w'.heap[k]? = w.heap[k]?

theorem Only.refl (F : Nat → Prop) (w : World) : Only F w w := ⟨rfl, rfl, rfl, Nat.le_refl _, fun _ _ _ => rfl⟩
theorem Only.of_below {F : Nat → Prop} {w w' : World} (h : Below w.heap.size w w') : Only F w w' := ⟨h.os, h.tape, h.output, h.size, fun k hk _ => h.block k hk⟩
theorem Only.trans {F G : Nat → Prop} {w w1 w2 : World} (h : Only F w w1) (k : Only G w1 w2) (hs : ∀ i, i < w.heap.size → G i → F i) : Only F w w2 :=
  ⟨k.os.trans h.os, k.tape.trans h.tape, k.output.trans h.output, Nat.le_trans h.size k.size, fun i hi hf => (k.block i (Nat.lt_of_lt_of_le hi h.size) (fun g => hf (hs i hi g))).trans (h.block i hi hf)⟩
theorem Only.trans' {F : Nat → Prop} {w w1 w2 : World} (h : Only F w w1) (k : Only F w1 w2) : Only F w w2 := h.trans k (fun _ _ => id)
theorem Only.below {F : Nat → Prop} {w w' : World} (h : Only F w w') {B : Nat} (hB : B ≤ w.heap.size) (hF : ∀ k, F k → B ≤ k) : Below B w w' :=
  ⟨h.os, h.tape, h.output, h.size, fun k hk => h.block k (Nat.lt_of_lt_of_le hk hB) (fun f => absurd (hF k f) (by omega))⟩
theorem Only.of_grown {F : Nat → Prop} {w w' : World} {row : Option Nat} (hg : w.grownBy w' row) (hr : ∀ k, row = some k → F k) : Only F w w' :=
  ⟨hg.os, hg.tape, hg.output, hg.size, fun k hk hf => hg.block k hk (fun e => hf (hr k e.symm))⟩
theorem Only.setCell {F : Nat → Prop} (w : World) {a : Addr} (h : F a.block) (v : Value) : Only F w (w.setCell a v) :=
  ⟨rfl, rfl, rfl, by simp [World.setCell], fun k _ hf => Below.heap_setCell _ _ _ _ (fun e => hf (by rw [e]; exact h))⟩
theorem Only.more {F G : Nat → Prop} {w w' : World} (h : Only F w w') (hs : ∀ k, k < w.heap.size → F k → G k) : Only G w w' :=
  ⟨h.os, h.tape, h.output, h.size, fun k hk hg => h.block k hk (fun f => hg (hs k hk f))⟩
theorem Only.cell {F : Nat → Prop} {w w' : World} (h : Only F w w') {a : Addr} {v : Value} (hc : w.cell? a = some v) (hf : ¬ F a.block) : w'.cell? a = some v :=
  (World.cell?_of_block (h.block a.block (World.block_lt_of_cell? w a hc) hf)).trans hc

/-- The slice value lies in none of F's blocks. -/
def Off (F : Nat → Prop) (v : Value) : Prop := ∀ b, v.ownBlock = some b → ¬ F b

theorem Ints.only {w w' : World} {F : Nat → Prop} {v : Value} {l : List Int} (h : Ints w v l) (hf : Off F v) (ho : Only F w w') : Ints w' v l := by
  obtain ⟨A, cap, rfl, hc, hm, hr⟩ := h
  refine ⟨A, cap, rfl, hc, hm, fun h0 => ?_⟩
  obtain ⟨b, off, rfl, hlt, hg⟩ := hr h0
  exact ⟨b, off, rfl, Nat.lt_of_lt_of_le hlt ho.size, fun j hj => ho.cell (hg j hj) (hf b rfl)⟩

/-- .. or it has no number at all. -/
theorem Ints.onlyN {w w' : World} {F : Nat → Prop} {v : Value} {l : List Int} (h : Ints w v l) (hf : 0 < l.length → Off F v) (ho : Only F w w') : Ints w' v l := by
  obtain ⟨A, cap, rfl, hc, hm, hr⟩ := h
  refine ⟨A, cap, rfl, hc, hm, fun h0 => ?_⟩
  obtain ⟨b, off, rfl, hlt, hg⟩ := hr h0
  exact ⟨b, off, rfl, Nat.lt_of_lt_of_le hlt ho.size, fun j hj => ho.cell (hg j hj) (hf h0 b rfl)⟩

/-- What is owned stays owned where its own block has not changed. -/
theorem own_block {w w' : World} {base : Nat} {e : TypeId} {size : Nat} {v : Value} {n : Nat} {xs : List Value} (h : w.ownsRow base e size v n xs) (hs : ∀ g, v.ownBlock = some g → w'.heap[g]? = w.heap[g]?) : w'.ownsRow base e size v n xs := by
  refine ⟨h.1, ?_⟩
  rcases h.2 with hn | ⟨g, cap, cur, rfl, hbg, hg, rest⟩
  · exact .inl hn
  · exact .inr ⟨g, cap, cur, rfl, hbg, by rw [hs g rfl]; exact hg, rest⟩

/-- A row of one type of cells is no block of another one. -/
theorem own_apart {w : World} {base b : Nat} {e e' : TypeId} {size : Nat} {v : Value} {n : Nat} {xs : List Value} {cs : Array Value} {fz : Nat × Nat} (h : w.ownsRow base e size v n xs) (hb : w.heap[b]? = some (.cells cs e' fz)) (hne : e ≠ e') : v.ownBlock ≠ some b := by
  rcases h.2 with ⟨rfl, _⟩ | ⟨g, cap, cur, rfl, _, hg, _⟩
  · simp [Value.ownBlock]
  · intro e1
    simp only [Value.ownBlock, Option.some.injEq] at e1
    subst e1
    rw [hb] at hg
    simp only [Option.some.injEq, Obj.cells.injEq] at hg
    exact hne hg.2.1.symm

theorem own_apart_map {w : World} {base b : Nat} {e : TypeId} {size : Nat} {v : Value} {n : Nat} {xs : List Value} {es : Array MapEntry} {clock : Nat} (h : w.ownsRow base e size v n xs) (hb : w.heap[b]? = some (.map es clock)) : v.ownBlock ≠ some b := by
  rcases h.2 with ⟨rfl, _⟩ | ⟨g, cap, cur, rfl, _, hg, _⟩
  · simp [Value.ownBlock]
  · intro e1
    simp only [Value.ownBlock, Option.some.injEq] at e1
    subst e1
    rw [hb] at hg
    cases hg

/-! ### The map -/

/-- The map tells where each thing stands. -/
def Tells (D : DataW Unit) (ts : List Int) : Prop :=
  IsMap D ∧ ∀ x : Int, Maps.has D (.int .i64 x) = decide (x ∈ ts) ∧ (x ∈ ts → D.atKey (.int .i64 x) (.lit (.int .i64 0)) = .lit (.int .i64 (Lib.idxOf ts x)))

theorem isKey (x : Int) : WideAt.IsKeyLit (.int .i64 x) := by trivial

theorem Tells.start : Tells (.map []) [] := ⟨isMap_empty, fun x => ⟨by simp [Maps.has], fun h => by simp at h⟩⟩

theorem Tells.put {D : DataW Unit} {s : St} (h : Tells D s.ts) {x : Int} (hx : x ∉ s.ts) : Tells (D.put (.int .i64 x) (.lit (.int .i64 (s.ts.length : Int)))) (s.add x).ts := by
  refine ⟨h.1.put _ _, fun y => ?_⟩
  by_cases e : y = x
  · subst e
    refine ⟨?_, fun _ => ?_⟩
    · rw [has_put_same h.1 (isKey y)]
      exact (decide_eq_true (St.mem_add_self s y)).symm
    · rw [atKey_put_same h.1 (isKey y)]
      have h1 := St.find_in (St.mem_add_self s y)
      rw [St.place_new hx] at h1
      rw [h1.1]
  · have hne : (Lit.int .i64 y) ≠ .int .i64 x := by simpa using e
    have hm : y ∈ (s.add x).ts ↔ y ∈ s.ts := by rw [St.mem_add]; exact ⟨fun h => h.elim id (fun h => absurd h e), .inl⟩
    refine ⟨?_, fun hy => ?_⟩
    · rw [has_put_other hne, (h.2 y).1]
      exact decide_eq_decide.2 hm.symm
    · rw [atKey_put_other hne, (h.2 y).2 (hm.1 hy)]
      have h1 := St.find_in hy
      have h2 := St.find_in (hm.1 hy)
      rw [h1.1, h2.1, St.place_add x (hm.1 hy)]

/-! ### The whole structure -/

theorem Tryz.keyInt : Keyed Tryz.prog 3 := int_keyed Tryz.underlying3
theorem Tryz.zeroInt (w : World) : (zeroValue 3).run Tryz.prog w = .ok (.int .i64 0) w := by kernel_rfl

/-- Block sb holds the structure of s, whose parts lie in blocks of F. -/
structure Rep (w : World) (F : Nat → Prop) (sb : Nat) (s : St) (tv av : Value) (bm : Nat) (D : DataW Unit) (ah : List Nat) : Prop where
  box : w.heap[sb]? = some (.cells #[tv, .map (some bm), av, .int .i64 (heads s.gr : Int)] 143 (0, 0))
  things : w.ownsRow 0 3 1 tv s.ts.length (s.ts.map (Value.int .i64))
  ahead : w.ownsRow 0 3 1 av (natsI ah).length ((natsI ah).map (Value.int .i64))
  apart : tv.ownBlock = none ∨ tv.ownBlock ≠ av.ownBlock
  places : w.ownsMap Tryz.prog 3 (plainElem Tryz.prog 3) bm s.ts.length D
  tells : Tells D s.ts
  leads : Leads ah s.gr
  ok : St.Ok s
  fsb : F sb
  fbm : F bm
  ftv : ∀ k, tv.ownBlock = some k → F k
  fav : ∀ k, av.ownBlock = some k → F k
  flt : ∀ k, F k → k < w.heap.size

/-- .. wherever its parts lie. -/
def Holds (w : World) (F : Nat → Prop) (sb : Nat) (s : St) : Prop := ∃ tv av bm D ah, Rep w F sb s tv av bm D ah

variable {w w' : World} {F : Nat → Prop} {sb bm : Nat} {s : St} {tv av : Value} {D : DataW Unit} {ah : List Nat}

theorem Rep.same (h : Rep w F sb s tv av bm D ah) (hs : ∀ k, F k → w'.heap[k]? = w.heap[k]?) (hz : w.heap.size ≤ w'.heap.size) : Rep w' F sb s tv av bm D ah := by
  refine ⟨(hs sb h.fsb).trans h.box, own_block h.things (fun g hg => hs g (h.ftv g hg)), own_block h.ahead (fun g hg => hs g (h.fav g hg)), h.apart, ?_, h.tells, h.leads, h.ok, h.fsb, h.fbm, h.ftv, h.fav, fun k hk => Nat.lt_of_lt_of_le (h.flt k hk) hz⟩
  obtain ⟨es, clock, hb, r⟩ := h.places
  exact ⟨es, clock, (hs bm h.fbm).trans hb, r⟩
theorem Rep.below (h : Rep w F sb s tv av bm D ah) (hb : Below w.heap.size w w') : Rep w' F sb s tv av bm D ah := h.same (fun k hk => hb.block k (h.flt k hk)) hb.size
theorem Holds.below (h : Holds w F sb s) (hb : Below w.heap.size w w') : Holds w' F sb s := by
  obtain ⟨tv, av, bm, D, ah, r⟩ := h
  exact ⟨tv, av, bm, D, ah, r.below hb⟩
theorem Holds.lt (h : Holds w F sb s) : ∀ k, F k → k < w.heap.size := by obtain ⟨_, _, _, _, _, r⟩ := h; exact r.flt
theorem Holds.ok (h : Holds w F sb s) : St.Ok s := by obtain ⟨_, _, _, _, _, r⟩ := h; exact r.ok
theorem Rep.c0 (h : Rep w F sb s tv av bm D ah) : w.cell? ⟨sb, 0, none⟩ = some tv := by simp [World.cell?, h.box]
theorem Rep.c1 (h : Rep w F sb s tv av bm D ah) : w.cell? ⟨sb, 1, none⟩ = some (.map (some bm)) := by simp [World.cell?, h.box]
theorem Rep.c2 (h : Rep w F sb s tv av bm D ah) : w.cell? ⟨sb, 2, none⟩ = some av := by simp [World.cell?, h.box]
theorem Rep.c3 (h : Rep w F sb s tv av bm D ah) : w.cell? ⟨sb, 3, none⟩ = some (.int .i64 (heads s.gr : Int)) := by simp [World.cell?, h.box]
theorem Rep.fz (h : Rep w F sb s tv av bm D ah) (j : Nat) : w.frozen? ⟨sb, j, none⟩ = false := by simp [World.frozen?, h.box]
theorem Rep.lt (h : Rep w F sb s tv av bm D ah) : sb < w.heap.size := h.flt sb h.fsb
theorem Rep.tv_sb (h : Rep w F sb s tv av bm D ah) : tv.ownBlock ≠ some sb := own_apart h.things h.box (by decide)
theorem Rep.av_sb (h : Rep w F sb s tv av bm D ah) : av.ownBlock ≠ some sb := own_apart h.ahead h.box (by decide)
theorem Rep.tv_bm (h : Rep w F sb s tv av bm D ah) : tv.ownBlock ≠ some bm := by obtain ⟨es, clock, hb, _⟩ := h.places; exact own_apart_map h.things hb
theorem Rep.av_bm (h : Rep w F sb s tv av bm D ah) : av.ownBlock ≠ some bm := by obtain ⟨es, clock, hb, _⟩ := h.places; exact own_apart_map h.ahead hb
theorem Rep.bm_sb (h : Rep w F sb s tv av bm D ah) : bm ≠ sb := by
  obtain ⟨es, clock, hb, _⟩ := h.places
  intro e; subst e
  rw [h.box] at hb; cases hb
theorem Rep.len (h : Rep w F sb s tv av bm D ah) : ah.length = s.ts.length := h.leads.1.trans h.ok.len

/-- A place's number among the ways ahead: the list is a slice of the call's own; its row's block is none of the others. -/
theorem Rep.av_at (h : Rep w F sb s tv av bm D ah) (h0 : 0 < ah.length) : ∃ ab cap, av = .slice (some ⟨ab, 0, none⟩) ah.length cap ∧ F ab ∧ ab ≠ sb ∧ ab ≠ bm ∧ tv.ownBlock ≠ some ab ∧
    (∀ j, j < ah.length → w.cell? ⟨ab, j, none⟩ = some (.int .i64 (getN ah j : Int))) ∧ (∀ j, w.frozen? ⟨ab, j, none⟩ = false) := by
  have hc := h.ahead
  rw [natsI_length] at hc
  rcases hc.2 with ⟨_, h1⟩ | ⟨ab, cap, cur, rfl, _, _, _, _, _⟩
  · omega
  · refine ⟨ab, cap, rfl, h.fav ab rfl, fun e => h.av_sb (by rw [e]; rfl), fun e => h.av_bm (by rw [e]; rfl), ?_, fun j hj => ?_, fun j => hc.frozenAt j⟩
    · rcases h.apart with e | e
      · rw [e]; simp
      · exact e
    · rw [hc.cellAt j (by omega), ints_get .i64 (natsI ah) j (by rw [natsI_length]; exact hj), natsI_get ah j hj]

theorem Rep.tv_at (h : Rep w F sb s tv av bm D ah) (h0 : 0 < s.ts.length) : ∃ tb cap, tv = .slice (some ⟨tb, 0, none⟩) s.ts.length cap ∧ F tb ∧ (∀ j, j < s.ts.length → w.cell? ⟨tb, j, none⟩ = some (.int .i64 (getI s.ts j))) := by
  have hc := h.things
  rcases hc.2 with ⟨_, h1⟩ | ⟨tb, cap, cur, rfl, _, _, _, _, _⟩
  · omega
  · refine ⟨tb, cap, rfl, h.ftv tb rfl, fun j hj => ?_⟩
    rw [hc.cellAt j (by omega), ints_get .i64 s.ts j hj]

/-- A way ahead is made another one, to the same first places. -/
theorem Rep.set (h : Rep w F sb s tv av bm D ah) {ab cap n : Nat} (hav : av = .slice (some ⟨ab, 0, none⟩) n cap) {i x : Nat} (hl : Leads (ah.set i x) s.gr) :
    Rep (w.setCell ⟨ab, i, none⟩ (.int .i64 (x : Int))) F sb s tv av bm D (ah.set i x) ∧ Only F w (w.setCell ⟨ab, i, none⟩ (.int .i64 (x : Int))) := by
  have hF : F ab := h.fav ab (by rw [hav]; rfl)
  have hoth : ∀ k, k ≠ ab → (w.setCell ⟨ab, i, none⟩ (.int .i64 (x : Int))).heap[k]? = w.heap[k]? := fun k hk => Below.heap_setCell _ _ _ _ hk
  have hz : (w.setCell ⟨ab, i, none⟩ (.int .i64 (x : Int))).heap.size = w.heap.size := by simp [World.setCell]
  refine ⟨⟨(hoth sb (fun e => h.av_sb (by rw [hav, e]; rfl))).trans h.box, own_block h.things (fun g hg => hoth g (fun e => ?_)), ?_, h.apart, ?_, h.tells, hl, h.ok, h.fsb, h.fbm, h.ftv, h.fav, fun k hk => by rw [hz]; exact h.flt k hk⟩, Only.setCell w hF _⟩
  · rcases h.apart with e1 | e1
    · rw [e1] at hg; cases hg
    · exact e1 (by rw [hg, hav, e]; rfl)
  · have ho := h.ahead
    subst hav
    have hn : n = (natsI ah).length := by
      rcases ho.2 with ⟨e, _⟩ | ⟨g, c, cur, e, _⟩
      · cases e
      · simp only [Value.slice.injEq] at e; omega
    subst hn
    have h1 := (ho.stored i (.int .i64 (x : Int))).1
    rw [natsI_set, List.length_set, List.map_set]
    exact h1
  · obtain ⟨es, clock, hb, r⟩ := h.places
    exact ⟨es, clock, (hoth bm (fun e => h.av_bm (by rw [hav, e]; rfl))).trans hb, r⟩

end Go.Proofs.YtmbpmepoaonleaaGreat
