/-
  Things in groups, as plain mathematics: the list of things in order, each with its group's first place.
-/
import Derived.Test.YtjnohnbppkhbaaaRgM
namespace Go.Proofs.Ytjnohnbppkhbaaa
open Go.RowKit

/-- The number at a place of a list of places. -/
def getN (l : List Nat) (j : Nat) : Nat := l.getD j 0
theorem getN_of (l : List Nat) (j : Nat) (h : j < l.length) : getN l j = l[j] := by unfold getN; simp [h]
theorem getN_app_left (l m : List Nat) (j : Nat) (h : j < l.length) : getN (l ++ m) j = getN l j := by
  unfold getN; simp [List.getElem?_append_left h]
theorem getN_snoc (l : List Nat) (x : Nat) : getN (l ++ [x]) l.length = x := by unfold getN; simp
theorem getN_set_same (l : List Nat) (i x : Nat) (h : i < l.length) : getN (l.set i x) i = x := by unfold getN; simp [h]
theorem getN_set_other (l : List Nat) (i j x : Nat) (h : i ≠ j) : getN (l.set i x) j = getN l j := by unfold getN; simp [h]
theorem getN_map (l : List Nat) (f : Nat → Nat) (j : Nat) (h : j < l.length) : getN (l.map f) j = f (getN l j) := by unfold getN; simp [h]

/-- Places as numbers. -/
def natsI (l : List Nat) : List Int := l.map fun (n : Nat) => (n : Int)
theorem natsI_length (l : List Nat) : (natsI l).length = l.length := by simp [natsI]
theorem natsI_get (l : List Nat) (j : Nat) (h : j < l.length) : getI (natsI l) j = (getN l j : Int) := by
  unfold getI getN natsI; simp [h]
theorem natsI_snoc (l : List Nat) (x : Nat) : natsI (l ++ [x]) = natsI l ++ [(x : Int)] := by simp [natsI]
theorem natsI_set (l : List Nat) (i x : Nat) : natsI (l.set i x) = (natsI l).set i (x : Int) := by simp [natsI, List.map_set]

/-! ### Ways ahead, and what they lead to -/

/-- The places ahead lead each place to its group's first one. -/
def Leads (ah gr : List Nat) : Prop :=
  ah.length = gr.length ∧ ∀ i, i < gr.length → getN ah i ≤ i ∧ getN gr (getN ah i) = getN gr i ∧ (getN ah i = i ↔ getN gr i = i)

/-- Each group's number is its first place. -/
def Roots (gr : List Nat) : Prop := ∀ i, i < gr.length → getN gr i ≤ i ∧ getN gr (getN gr i) = getN gr i

theorem Leads.roots {ah gr : List Nat} (h : Leads ah gr) : Roots gr := by
  intro i
  induction i using Nat.strongRecOn with
  | _ i ih =>
    intro hi
    obtain ⟨h1, h2, h3⟩ := h.2 i hi
    by_cases e : getN ah i = i
    · have e2 := h3.1 e
      rw [e2]; exact ⟨Nat.le_refl _, e2⟩
    · obtain ⟨i1, i2⟩ := ih (getN ah i) (by omega) (by omega)
      rw [h2] at i1 i2
      exact ⟨by omega, i2⟩

theorem Leads.halve {ah gr : List Nat} (h : Leads ah gr) {i : Nat} (hi : i < gr.length) (hne : getN ah i ≠ i) : Leads (ah.set i (getN ah (getN ah i))) gr := by
  refine ⟨by rw [List.length_set]; exact h.1, fun j hj => ?_⟩
  obtain ⟨h1, h2, h3⟩ := h.2 i hi
  have hlt : getN ah i < i := by omega
  obtain ⟨k1, k2, k3⟩ := h.2 (getN ah i) (by omega)
  by_cases e : i = j
  · subst e
    rw [getN_set_same _ _ _ (by rw [h.1]; exact hi)]
    refine ⟨by omega, by rw [k2, h2], ?_⟩
    constructor
    · intro e; omega
    · intro e; exact absurd (h3.2 e) hne
  · rw [getN_set_other _ _ _ _ e]
    exact h.2 j hj

theorem Leads.snoc {ah gr : List Nat} (h : Leads ah gr) : Leads (ah ++ [gr.length]) (gr ++ [gr.length]) := by
  refine ⟨by simp [h.1], fun j hj => ?_⟩
  simp at hj
  by_cases e : j = gr.length
  · subst e
    have e1 : getN (ah ++ [gr.length]) gr.length = gr.length := by rw [← h.1, getN_snoc]
    rw [e1, getN_snoc]
    exact ⟨Nat.le_refl _, rfl, by simp⟩
  · have hj' : j < gr.length := by omega
    obtain ⟨h1, h2, h3⟩ := h.2 j hj'
    rw [getN_app_left ah _ j (by rw [h.1]; exact hj'), getN_app_left gr _ j hj', getN_app_left gr _ _ (by omega)]
    exact ⟨h1, h2, h3⟩

/-- Two groups made one. -/
def joinG (gr : List Nat) (a b : Nat) : List Nat := gr.map fun g => if g = max a b then min a b else g
theorem joinG_length (gr : List Nat) (a b : Nat) : (joinG gr a b).length = gr.length := by simp [joinG]
theorem joinG_get (gr : List Nat) (a b j : Nat) (h : j < gr.length) : getN (joinG gr a b) j = if getN gr j = max a b then min a b else getN gr j := by
  unfold joinG; rw [getN_map _ _ _ h]

theorem Leads.join {ah gr : List Nat} (h : Leads ah gr) {a b : Nat} (ha : a < gr.length) (hb : b < gr.length) (ra : getN gr a = a) (rb : getN gr b = b) (hne : a ≠ b) :
    Leads (ah.set (max a b) (min a b)) (joinG gr a b) := by
  have hM : max a b < gr.length := by omega
  have hm : min a b < max a b := by omega
  have rM : getN gr (max a b) = max a b := by rcases Nat.le_total a b with e | e <;> simp [e, Nat.max_eq_right, Nat.max_eq_left, ra, rb]
  have rm : getN gr (min a b) = min a b := by rcases Nat.le_total a b with e | e <;> simp [e, Nat.min_eq_right, Nat.min_eq_left, ra, rb]
  generalize hMM : max a b = M at *
  generalize hmm : min a b = m at *
  have hJ : ∀ j, j < gr.length → getN (joinG gr a b) j = if getN gr j = M then m else getN gr j := fun j hj => by rw [joinG_get _ _ _ _ hj, hMM, hmm]
  refine ⟨by rw [List.length_set, joinG_length]; exact h.1, fun j hj => ?_⟩
  rw [joinG_length] at hj
  by_cases e : M = j
  · subst e
    rw [getN_set_same _ _ _ (by rw [h.1]; exact hj), hJ m (by omega), hJ M hj, rM, rm]
    rw [if_pos (rfl : M = M)]
    exact ⟨by omega, by split <;> rfl, by omega⟩
  · obtain ⟨h1, h2, h3⟩ := h.2 j hj
    rw [getN_set_other _ _ _ _ e, hJ j hj, hJ _ (by omega), h2]
    refine ⟨h1, rfl, ?_⟩
    constructor
    · intro e2
      have := h3.1 e2
      rw [if_neg (by omega)]; exact this
    · intro e2
      by_cases e3 : getN gr j = M
      · rw [if_pos e3] at e2
        subst e2
        omega
      · rw [if_neg e3] at e2
        exact h3.2 e2

/-! ### How many groups -/

def headB (gr : List Nat) (i : Nat) : Bool := decide (getN gr i = i)
/-- The groups' first places below k, in order. -/
def headsTo (gr : List Nat) (k : Nat) : List Nat := (List.range k).filter (headB gr)
def heads (gr : List Nat) : Nat := (headsTo gr gr.length).length

theorem headsTo_succ (gr : List Nat) (k : Nat) : headsTo gr (k + 1) = if getN gr k = k then headsTo gr k ++ [k] else headsTo gr k := by
  unfold headsTo headB
  rw [List.range_succ, List.filter_append]
  by_cases e : getN gr k = k <;> simp [e]
theorem headsTo_le (gr : List Nat) (k : Nat) : (headsTo gr k).length ≤ k := Nat.le_trans (List.length_filter_le _ _) (by simp)
theorem headsTo_congr {gr gr' : List Nat} (k : Nat) (h : ∀ i, i < k → (getN gr i = i ↔ getN gr' i = i)) : headsTo gr k = headsTo gr' k := by
  unfold headsTo headB
  refine List.filter_congr fun i hi => ?_
  rw [List.mem_range] at hi
  exact decide_eq_decide.2 (h i hi)

theorem heads_snoc (gr : List Nat) : heads (gr ++ [gr.length]) = heads gr + 1 := by
  unfold heads
  rw [List.length_append, List.length_singleton, headsTo_succ, if_pos (getN_snoc _ _), List.length_append,
    headsTo_congr gr.length (gr' := gr) (fun i hi => by rw [getN_app_left _ _ _ hi])]
  rfl
theorem heads_le (gr : List Nat) : heads gr ≤ gr.length := headsTo_le _ _

/-- One first place less. -/
theorem headsTo_drop (gr gr' : List Nat) (M : Nat) (hM : getN gr M = M) (hM' : getN gr' M ≠ M) (h : ∀ i, i ≠ M → (getN gr i = i ↔ getN gr' i = i)) :
    ∀ k, (headsTo gr k).length = (headsTo gr' k).length + (if M < k then 1 else 0)
  | 0 => by simp [headsTo]
  | k + 1 => by
    have ih := headsTo_drop gr gr' M hM hM' h k
    rw [headsTo_succ, headsTo_succ]
    by_cases e : k = M
    · subst e
      rw [if_pos hM, if_neg hM', List.length_append, ih, if_neg (by omega), if_pos (by omega)]
      rfl
    · have hk := h k e
      by_cases e2 : getN gr k = k
      · rw [if_pos e2, if_pos (hk.1 e2), List.length_append, List.length_append, ih]
        have : (M < k) = (M < k + 1) := by simp; omega
        simp only [this]
        simp; omega
      · rw [if_neg e2, if_neg (fun e3 => e2 (hk.2 e3)), ih]
        have : (M < k) = (M < k + 1) := by simp; omega
        simp only [this]

theorem heads_join {gr : List Nat} {a b : Nat} (ha : a < gr.length) (hb : b < gr.length) (ra : getN gr a = a) (rb : getN gr b = b) (hne : a ≠ b) : heads gr = heads (joinG gr a b) + 1 := by
  have hM : max a b < gr.length := by omega
  have hm : min a b < max a b := by omega
  have rM : getN gr (max a b) = max a b := by rcases Nat.le_total a b with e | e <;> simp [e, Nat.max_eq_right, Nat.max_eq_left, ra, rb]
  have rm : getN gr (min a b) = min a b := by rcases Nat.le_total a b with e | e <;> simp [e, Nat.min_eq_right, Nat.min_eq_left, ra, rb]
  have hJ : ∀ j, j < gr.length → getN (joinG gr a b) j = if getN gr j = max a b then min a b else getN gr j := fun j hj => joinG_get _ _ _ _ hj
  have hO : ∀ j, ¬ j < gr.length → getN gr j = 0 := fun j hj => by unfold getN; simp; rw [List.getElem?_eq_none (by omega)]; rfl
  have hO' : ∀ j, ¬ j < gr.length → getN (joinG gr a b) j = 0 := fun j hj => by unfold getN; simp; rw [List.getElem?_eq_none (by rw [joinG_length]; omega)]; rfl
  have := headsTo_drop gr (joinG gr a b) (max a b) rM (by rw [hJ _ hM, rM, if_pos rfl]; omega) (fun i hi => by
    by_cases hl : i < gr.length
    · rw [hJ i hl]
      by_cases e : getN gr i = max a b
      · rw [if_pos e, e]
        constructor
        · intro e2; omega
        · intro e2; rw [← e2] at e; omega
      · rw [if_neg e]
    · rw [hO i hl, hO' i hl]) gr.length
  rw [if_pos hM] at this
  unfold heads
  rw [joinG_length]
  exact this

/-! ### The things -/

structure St where
  ts : List Int
  gr : List Nat

namespace St

def empty : St := ⟨[], []⟩
/-- The place of a thing. -/
def place (s : St) (x : Int) : Nat := (Lib.idxOf s.ts x).toNat
/-- The first place of a thing's group. -/
def root (s : St) (x : Int) : Nat := getN s.gr (s.place x)
def add (s : St) (x : Int) : St := if x ∈ s.ts then s else ⟨s.ts ++ [x], s.gr ++ [s.ts.length]⟩
def both (s : St) (x y : Int) : St := (s.add x).add y
def joins (s : St) (x y : Int) : Bool := decide ((s.both x y).root x ≠ (s.both x y).root y)
def join (s : St) (x y : Int) : St :=
  if (s.both x y).root x = (s.both x y).root y then s.both x y else ⟨(s.both x y).ts, joinG (s.both x y).gr ((s.both x y).root x) ((s.both x y).root y)⟩
def same (s : St) (x y : Int) : Bool := decide (x ∈ s.ts ∧ y ∈ s.ts ∧ s.root x = s.root y)

structure Ok (s : St) : Prop where
  one : ∀ i j, i < s.ts.length → j < s.ts.length → getI s.ts i = getI s.ts j → i = j
  len : s.gr.length = s.ts.length
  roots : Roots s.gr
  wf : ∀ x ∈ s.ts, (Lit.int .i64 x).wf = true

theorem ok_empty : Ok empty := ⟨fun i _ h => absurd h (Nat.not_lt_zero _), rfl, fun i h => absurd h (Nat.not_lt_zero _), fun x h => by simp [empty] at h⟩

theorem find_in {s : St} {x : Int} (h : x ∈ s.ts) : Lib.idxOf s.ts x = (s.place x : Int) ∧ s.place x < s.ts.length ∧ getI s.ts (s.place x) = x := by
  unfold place
  rcases idx_cases s.ts x with ⟨k, h1, h2, h3, _⟩ | ⟨_, h2⟩
  · rw [h2]; exact ⟨by simp, by simpa using h1, by simpa using h3⟩
  · exact absurd ((mem_getI _ _).1 h) (fun ⟨j, hj, e⟩ => h2 j hj e)
theorem find_out {s : St} {x : Int} (h : x ∉ s.ts) : Lib.idxOf s.ts x = -1 :=
  idx_none _ _ fun j hj e => h ((mem_getI _ _).2 ⟨j, hj, e⟩)
theorem place_at {s : St} (ok : Ok s) {i : Nat} (hi : i < s.ts.length) : s.place (getI s.ts i) = i := by
  obtain ⟨_, h2, h3⟩ := find_in (s := s) (x := getI s.ts i) ((mem_getI _ _).2 ⟨i, hi, rfl⟩)
  exact ok.one _ _ h2 hi h3
theorem root_lt {s : St} (ok : Ok s) {x : Int} (h : x ∈ s.ts) : s.root x < s.ts.length ∧ getN s.gr (s.root x) = s.root x := by
  obtain ⟨_, h2, _⟩ := find_in h
  obtain ⟨r1, r2⟩ := ok.roots (s.place x) (by rw [ok.len]; exact h2)
  exact ⟨by unfold root; omega, r2⟩

theorem add_in {s : St} {x : Int} (h : x ∈ s.ts) : s.add x = s := by unfold add; rw [if_pos h]
theorem add_out {s : St} {x : Int} (h : x ∉ s.ts) : s.add x = ⟨s.ts ++ [x], s.gr ++ [s.ts.length]⟩ := by unfold add; rw [if_neg h]
theorem mem_add (s : St) (x y : Int) : y ∈ (s.add x).ts ↔ y ∈ s.ts ∨ y = x := by
  by_cases h : x ∈ s.ts
  · rw [add_in h]
    exact ⟨.inl, fun h' => h'.elim id (fun e => e ▸ h)⟩
  · rw [add_out h]; simp
theorem mem_add_self (s : St) (x : Int) : x ∈ (s.add x).ts := (mem_add _ _ _).2 (.inr rfl)
theorem mem_add_of {s : St} {y : Int} (x : Int) (h : y ∈ s.ts) : y ∈ (s.add x).ts := (mem_add _ _ _).2 (.inl h)
theorem len_add (s : St) (x : Int) : (s.add x).ts.length ≤ s.ts.length + 1 := by
  by_cases h : x ∈ s.ts
  · rw [add_in h]; omega
  · rw [add_out h]; simp
theorem len_add_ge (s : St) (x : Int) : s.ts.length ≤ (s.add x).ts.length := by
  by_cases h : x ∈ s.ts
  · rw [add_in h]; omega
  · rw [add_out h]; simp

theorem ok_add {s : St} (ok : Ok s) {x : Int} (hx : (Lit.int .i64 x).wf = true) : Ok (s.add x) := by
  by_cases h : x ∈ s.ts
  · rw [add_in h]; exact ok
  · rw [add_out h]
    have hno : ∀ j, j < s.ts.length → getI s.ts j ≠ x := fun j hj e => h ((mem_getI _ _).2 ⟨j, hj, e⟩)
    have hl : getI (s.ts ++ [x]) s.ts.length = x := by simp [getI]
    refine ⟨fun i j hi hj e => ?_, by simp [ok.len], fun i hi => ?_, fun z hz => ?_⟩
    · simp at hi hj
      by_cases ei : i = s.ts.length <;> by_cases ej : j = s.ts.length
      · omega
      · subst ei
        simp only at e
        rw [hl, getI_app_left _ _ _ (by omega)] at e
        exact absurd e.symm (hno j (by omega))
      · subst ej
        simp only at e
        rw [hl, getI_app_left _ _ _ (by omega)] at e
        exact absurd e (hno i (by omega))
      · simp only at e
        rw [getI_app_left _ _ _ (by omega), getI_app_left _ _ _ (by omega)] at e
        exact ok.one i j (by omega) (by omega) e
    · simp at hi
      show getN (s.gr ++ [s.ts.length]) i ≤ i ∧ getN (s.gr ++ [s.ts.length]) (getN (s.gr ++ [s.ts.length]) i) = getN (s.gr ++ [s.ts.length]) i
      rw [← ok.len]
      by_cases e : i = s.gr.length
      · subst e; rw [getN_snoc, getN_snoc]; exact ⟨Nat.le_refl _, rfl⟩
      · obtain ⟨r1, r2⟩ := ok.roots i (by omega)
        rw [getN_app_left _ _ _ (by omega), getN_app_left _ _ _ (by omega)]
        exact ⟨r1, r2⟩
    · rcases List.mem_append.1 hz with hz | hz
      · exact ok.wf z hz
      · simp at hz; subst hz; exact hx

theorem place_add {s : St} (x : Int) {y : Int} (h : y ∈ s.ts) : (s.add x).place y = s.place y := by
  by_cases hx : x ∈ s.ts
  · rw [add_in hx]
  · rw [add_out hx]
    obtain ⟨h1, h2, h3⟩ := find_in h
    unfold place at h1 h2 h3 ⊢
    rcases idx_cases s.ts y with ⟨k, k1, k2, k3, k4⟩ | ⟨_, k2⟩
    · rw [k2]
      have := idx_at (s.ts ++ [x]) k y (by simp; omega) (by rw [getI_app_left _ _ _ k1]; exact k3) (fun j hj => by rw [getI_app_left _ _ _ (by omega)]; exact k4 j hj)
      simp only [this]
    · exact absurd ((mem_getI _ _).1 h) (fun ⟨j, hj, e⟩ => k2 j hj e)
theorem root_add {s : St} (ok : Ok s) (x : Int) {y : Int} (h : y ∈ s.ts) : (s.add x).root y = s.root y := by
  obtain ⟨_, h2, _⟩ := find_in h
  unfold root
  rw [place_add x h]
  by_cases hx : x ∈ s.ts
  · rw [add_in hx]
  · rw [add_out hx]; exact getN_app_left _ _ _ (by rw [ok.len]; exact h2)
theorem place_new {s : St} {x : Int} (h : x ∉ s.ts) : (s.add x).place x = s.ts.length := by
  rw [add_out h]
  unfold place
  have hno : ∀ j, j < s.ts.length → getI s.ts j ≠ x := fun j hj e => h ((mem_getI _ _).2 ⟨j, hj, e⟩)
  have hl : getI (s.ts ++ [x]) s.ts.length = x := by simp [getI]
  have := idx_at (s.ts ++ [x]) s.ts.length x (by simp) hl (fun j hj => by rw [getI_app_left _ _ _ hj]; exact hno j hj)
  simp only [this]; simp

theorem mem_both (s : St) (x y z : Int) : z ∈ (s.both x y).ts ↔ z ∈ s.ts ∨ z = x ∨ z = y := by
  unfold both; rw [mem_add, mem_add]; exact or_assoc
theorem ok_both {s : St} (ok : Ok s) {x y : Int} (hx : (Lit.int .i64 x).wf = true) (hy : (Lit.int .i64 y).wf = true) : Ok (s.both x y) := ok_add (ok_add ok hx) hy
theorem len_both (s : St) (x y : Int) : (s.both x y).ts.length ≤ s.ts.length + 2 := by
  unfold both; have := len_add (s.add x) y; have := len_add s x; omega

theorem join_ts (s : St) (x y : Int) : (s.join x y).ts = (s.both x y).ts := by unfold join; split <;> rfl
theorem joins_true {s : St} {x y : Int} (h : (s.both x y).root x ≠ (s.both x y).root y) : s.joins x y = true ∧ s.join x y = ⟨(s.both x y).ts, joinG (s.both x y).gr ((s.both x y).root x) ((s.both x y).root y)⟩ := by
  unfold joins join; simp [h]
theorem joins_false {s : St} {x y : Int} (h : (s.both x y).root x = (s.both x y).root y) : s.joins x y = false ∧ s.join x y = s.both x y := by
  unfold joins join; simp [h]

theorem ok_join {s : St} (ok : Ok s) {x y : Int} (hx : (Lit.int .i64 x).wf = true) (hy : (Lit.int .i64 y).wf = true) : Ok (s.join x y) := by
  have okb := ok_both ok hx hy
  by_cases h : (s.both x y).root x = (s.both x y).root y
  · rw [(joins_false h).2]; exact okb
  · rw [(joins_true h).2]
    generalize s.both x y = b at *
    refine ⟨okb.one, by rw [joinG_length]; exact okb.len, ?_, okb.wf⟩
    have hxm : x ∈ b.ts ∨ x ∉ b.ts := Classical.em _
    intro i hi
    have hi' : i < b.gr.length := by simpa [joinG_length] using hi
    obtain ⟨r1, r2⟩ := okb.roots i hi'
    show getN (joinG b.gr (b.root x) (b.root y)) i ≤ i ∧ getN (joinG b.gr (b.root x) (b.root y)) (getN (joinG b.gr (b.root x) (b.root y)) i) = getN (joinG b.gr (b.root x) (b.root y)) i
    rw [joinG_get _ _ _ _ hi']
    by_cases e : getN b.gr i = max (b.root x) (b.root y)
    · rw [if_pos e]
      have hm : min (b.root x) (b.root y) ≤ max (b.root x) (b.root y) := by omega
      refine ⟨by omega, ?_⟩
      rw [joinG_get _ _ _ _ (by omega)]
      split
      · rfl
      · rename_i hne
        exact min_root b okb x y hi' e r1 r2
    · rw [if_neg e]
      refine ⟨r1, ?_⟩
      rw [joinG_get _ _ _ _ (by omega), r2, if_neg e]
where
  min_root (b : St) (okb : Ok b) (x y : Int) {i : Nat} (hi' : i < b.gr.length) (e : getN b.gr i = max (b.root x) (b.root y)) (r1 : getN b.gr i ≤ i) (r2 : getN b.gr (getN b.gr i) = getN b.gr i) :
      getN b.gr (min (b.root x) (b.root y)) = min (b.root x) (b.root y) := by
    have hr : ∀ z, getN b.gr (b.root z) = b.root z := by
      intro z
      by_cases hz : b.place z < b.gr.length
      · exact (okb.roots _ hz).2
      · have : b.root z = 0 := by unfold root getN; simp; rw [List.getElem?_eq_none (by omega)]; rfl
        rw [this]
        have := (okb.roots 0 (by omega)).1
        omega
    rcases Nat.le_total (b.root x) (b.root y) with h | h
    · rw [Nat.min_eq_left h]; exact hr x
    · rw [Nat.min_eq_right h]; exact hr y

theorem len_join (s : St) (x y : Int) : (s.join x y).ts.length ≤ s.ts.length + 2 := by rw [join_ts]; exact len_both s x y
theorem mem_join (s : St) (x y z : Int) : z ∈ (s.join x y).ts ↔ z ∈ s.ts ∨ z = x ∨ z = y := by rw [join_ts]; exact mem_both s x y z

/-- Behind a Join both belong together. -/
theorem same_join {s : St} (ok : Ok s) {x y : Int} (hx : (Lit.int .i64 x).wf = true) (hy : (Lit.int .i64 y).wf = true) : (s.join x y).same x y = true := by
  have okb := ok_both ok hx hy
  have hmx : x ∈ (s.join x y).ts := (mem_join s x y x).2 (.inr (.inl rfl))
  have hmy : y ∈ (s.join x y).ts := (mem_join s x y y).2 (.inr (.inr rfl))
  unfold same
  refine decide_eq_true ⟨hmx, hmy, ?_⟩
  by_cases h : (s.both x y).root x = (s.both x y).root y
  · rw [(joins_false h).2]; exact h
  · rw [join_ts] at hmx hmy
    have hpx := find_in hmx
    have hpy := find_in hmy
    rw [(joins_true h).2]
    show getN (joinG (s.both x y).gr _ _) ((s.both x y).place x) = getN (joinG (s.both x y).gr _ _) ((s.both x y).place y)
    rw [joinG_get _ _ _ _ (by rw [okb.len]; exact hpx.2.1), joinG_get _ _ _ _ (by rw [okb.len]; exact hpy.2.1)]
    show (if (s.both x y).root x = max ((s.both x y).root x) ((s.both x y).root y) then min ((s.both x y).root x) ((s.both x y).root y) else (s.both x y).root x) = (if (s.both x y).root y = max ((s.both x y).root x) ((s.both x y).root y) then min ((s.both x y).root x) ((s.both x y).root y) else (s.both x y).root y)
    split <;> split <;> omega

/-- A Join that answers true makes one group less; one that answers false makes none less, of things that are there. -/
theorem heads_join {s : St} (ok : Ok s) {x y : Int} (hx : x ∈ s.ts) (hy : y ∈ s.ts) : heads s.gr = heads (s.join x y).gr + (if s.joins x y = true then 1 else 0) := by
  have hb : s.both x y = s := by unfold both; rw [add_in hx, add_in hy]
  by_cases h : (s.both x y).root x = (s.both x y).root y
  · rw [(joins_false h).1, (joins_false h).2, hb]; rfl
  · rw [(joins_true h).1, (joins_true h).2, if_pos rfl]
    rw [hb] at h ⊢
    have h1 := root_lt ok hx
    have h2 := root_lt ok hy
    exact Go.Proofs.Ytjnohnbppkhbaaa.heads_join (by rw [ok.len]; exact h1.1) (by rw [ok.len]; exact h2.1) h1.2 h2.2 h

theorem same_symm (s : St) (x y : Int) : s.same x y = s.same y x := by
  unfold same
  refine decide_eq_decide.2 ⟨fun ⟨a, b, c⟩ => ⟨b, a, c.symm⟩, fun ⟨a, b, c⟩ => ⟨b, a, c.symm⟩⟩
theorem same_trans {s : St} {x y z : Int} (h1 : s.same x y = true) (h2 : s.same y z = true) : s.same x z = true := by
  unfold same at *
  obtain ⟨a, _, c⟩ := of_decide_eq_true h1
  obtain ⟨_, e, f⟩ := of_decide_eq_true h2
  exact decide_eq_true ⟨a, e, c.trans f⟩

end St

end Go.Proofs.Ytjnohnbppkhbaaa
