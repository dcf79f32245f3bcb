/-
  PlA, PlF, PlB, PlC, PlD, PlE, PlG, in one text.
-/
import Derived.Test.YtmbpmepoaonleaaGreatM10
import Derived.Test.YtmbpmepoaonleaaGreatM03
import Derived.Test.YtmbpmepoaonleaaGreatM20
import Derived.Test.YtmbpmepoaonleaaGreatM31
/-! Numbers put together by lists, each in one way alone: plain mathematics (classes of pairs, one after the other). -/
namespace Go.Proofs.YtmbpmepoaonleaaGreat.Pl
open Go.Proofs.YtmbpmepoaonleaaGreat Go.Proofs.YtmbpmepoaonleaaGreat.Fc Go.RowKit

abbrev Pr := Int × Int
def relE (E : List Pr) (x y : Int) : Prop := (x, y) ∈ E
variable {E F : List Pr} {X : List Int} {x y a b : Int}

theorem conn_app (h : Conn (relE E) x y) : Conn (relE (E ++ F)) x y := Conn.sub (fun _ _ k => Conn.arc (List.mem_append_left F k)) h
theorem conn_none (h : Conn (relE []) x y) : x = y := Conn.ins (P := fun z => x = z) (fun _ _ k => absurd k List.not_mem_nil) h rfl
theorem conn_snoc (h : Conn (relE (E ++ [(a, b)])) x y) : Conn (relE E) x y ∨ (Conn (relE E) x a ∧ Conn (relE E) b y) ∨ (Conn (relE E) x b ∧ Conn (relE E) a y) := by
  refine Conn.plus (Conn.sub (fun u v k => ?_) h)
  rcases List.mem_append.1 k with k | k
  · exact Conn.arc (.inl k)
  · rw [List.mem_singleton] at k
    cases k
    exact Conn.arc (.inr ⟨rfl, rfl⟩)
theorem conn_new : Conn (relE (E ++ [(a, b)])) a b := Conn.arc (List.mem_append_right E (List.mem_singleton.2 rfl))

open Classical in
theorem cls_none (X : List Int) : cls X (relE []) = X.length := by
  unfold cls
  rw [List.countP_eq_length]
  intro x _
  exact decide_eq_true (fun y _ h => (conn_none h) ▸ Int.le_refl _)
theorem cls_snoc_le (hn : X.Nodup) : cls X (relE E) ≤ cls X (relE (E ++ [(a, b)])) + 1 := cls_plus hn (fun _ _ h => conn_snoc h)
theorem cls_snoc_join (ha : a ∈ X) (hb : b ∈ X) (h : ¬ Conn (relE E) a b) : cls X (relE (E ++ [(a, b)])) + 1 ≤ cls X (relE E) := cls_join ha hb (fun _ _ k => conn_app k) conn_new h
theorem cls_snoc_same (h : Conn (relE E) a b) : cls X (relE (E ++ [(a, b)])) = cls X (relE E) := by
  refine Nat.le_antisymm (cls_mono fun _ _ k => conn_app k) (cls_mono fun x y k => ?_)
  rcases conn_snoc k with k | ⟨k1, k2⟩ | ⟨k1, k2⟩
  · exact k
  · exact (k1.trans h).trans k2
  · exact (k1.trans h.symm).trans k2
open Classical in
theorem cls_pos (h : X ≠ []) (R : Int → Int → Prop) : 1 ≤ cls X R := by
  obtain ⟨x, hx⟩ := List.exists_mem_of_ne_nil X h
  obtain ⟨y, hy, _, hl⟩ := lst_of R hx
  unfold cls
  exact List.countP_pos_iff.2 ⟨y, hy, decide_eq_true hl⟩

/-- The first n pairs: each puts together what wasn't. -/
def ForestTo (E : List Pr) (n : Nat) : Prop := ∀ i, i < n → ∀ hi : i < E.length, ¬ Conn (relE (E.take i)) E[i].1 E[i].2
theorem forest_zero (E : List Pr) : ForestTo E 0 := fun _ h => absurd h (Nat.not_lt_zero _)
theorem forest_succ {n : Nat} (hn : n < E.length) : ForestTo E (n + 1) ↔ ForestTo E n ∧ ¬ Conn (relE (E.take n)) E[n].1 E[n].2 := by
  constructor
  · exact fun h => ⟨fun i hi => h i (by omega), h n (by omega) hn⟩
  · rintro ⟨h1, h2⟩ i hi hl
    rcases Nat.lt_or_eq_of_le (Nat.le_of_lt_succ hi) with hi | rfl
    · exact h1 i hi hl
    · exact h2
theorem take_snoc {n : Nat} (hn : n < E.length) : E.take (n + 1) = E.take n ++ [(E[n].1, E[n].2)] := List.take_succ_eq_append_getElem hn
theorem count_to (hn : X.Nodup) : ∀ n, n ≤ E.length → X.length ≤ cls X (relE (E.take n)) + n
  | 0, _ => by rw [List.take_zero, cls_none]; exact Nat.le_refl _
  | n + 1, h => by
    have h1 := count_to hn n (by omega)
    have h2 := cls_snoc_le (E := E.take n) (a := (E[n]'(by omega)).1) (b := (E[n]'(by omega)).2) hn
    rw [← take_snoc (by omega)] at h2
    omega
theorem count_forest (hn : X.Nodup) (hE : ∀ e ∈ E, e.1 ∈ X ∧ e.2 ∈ X) : ∀ n, n ≤ E.length → (cls X (relE (E.take n)) + n = X.length ↔ ForestTo E n)
  | 0, _ => by rw [List.take_zero, cls_none]; exact ⟨fun _ => forest_zero E, fun _ => rfl⟩
  | n + 1, h => by
    have hl : n < E.length := by omega
    have h1 := count_forest hn hE n (by omega)
    have h0 := count_to (E := E) hn n (by omega)
    rw [forest_succ hl, ← h1, take_snoc hl]
    by_cases hc : Conn (relE (E.take n)) E[n].1 E[n].2
    · rw [cls_snoc_same hc]
      constructor
      · intro h; omega
      · exact fun h => absurd hc h.2
    · have hm := hE _ (List.getElem_mem hl)
      have h2 := cls_snoc_join hm.1 hm.2 hc
      have h3 := cls_snoc_le (E := E.take n) (a := E[n].1) (b := E[n].2) hn
      constructor
      · exact fun h => ⟨by omega, hc⟩
      · rintro ⟨h, _⟩; omega
theorem cls_whole (hn : X.Nodup) (hX : X ≠ []) {R : Int → Int → Prop} (h : ∀ x ∈ X, ∀ y ∈ X, Conn R x y) : cls X R = 1 := Nat.le_antisymm (cls_one hn h) (cls_pos hX R)
/-- Where all hang together, each pair counts just if there are as many as can be. -/
theorem tree_iff (hn : X.Nodup) (hX : X ≠ []) (hE : ∀ e ∈ E, e.1 ∈ X ∧ e.2 ∈ X) (h : ∀ x ∈ X, ∀ y ∈ X, Conn (relE E) x y) : ForestTo E E.length ↔ E.length + 1 = X.length := by
  rw [← count_forest hn hE E.length (Nat.le_refl _), List.take_length, cls_whole hn hX h]
  omega

/-- The pairs of lists: each list's first with each of its others. -/
def starL : List Int → List Pr
  | [] => []
  | x :: l => l.map fun y => (x, y)
def stars (S : List (List Int)) : List Pr := S.flatMap starL
/-- Two that stand in one list. -/
def beside (S : List (List Int)) (x y : Int) : Prop := ∃ l ∈ S, x ∈ l ∧ y ∈ l
theorem mem_starL {l : List Int} (h : (x, y) ∈ starL l) : x ∈ l ∧ y ∈ l := by
  cases l with
  | nil => exact absurd h List.not_mem_nil
  | cons z l =>
    obtain ⟨u, hu, e⟩ := List.mem_map.1 h
    cases e
    exact ⟨List.mem_cons_self .., List.mem_cons_of_mem _ hu⟩
theorem starL_conn {l : List Int} (hx : x ∈ l) (hy : y ∈ l) : Conn (relE (starL l)) x y := by
  cases l with
  | nil => exact absurd hx List.not_mem_nil
  | cons z l =>
    have h1 : ∀ u ∈ z :: l, Conn (relE (starL (z :: l))) z u := fun u hu => by
      rcases List.mem_cons.1 hu with rfl | hu
      · exact Conn.refl _ _
      · exact Conn.arc (List.mem_map.2 ⟨u, hu, rfl⟩)
    exact (h1 x hx).symm.trans (h1 y hy)
theorem stars_conn (S : List (List Int)) : Conn (relE (stars S)) x y ↔ Conn (beside S) x y := by
  constructor
  · refine Conn.sub fun u v h => ?_
    obtain ⟨l, hl, h⟩ := List.mem_flatMap.1 h
    exact Conn.arc ⟨l, hl, mem_starL h⟩
  · refine Conn.sub fun u v h => ?_
    obtain ⟨l, hl, h1, h2⟩ := h
    exact Conn.sub (fun _ _ k => Conn.arc (List.mem_flatMap.2 ⟨l, hl, k⟩)) (starL_conn h1 h2)
theorem starL_len (l : List Int) : (starL l).length = l.length - 1 := by
  cases l with
  | nil => rfl
  | cons z l => simp [starL]
theorem stars_len (S : List (List Int)) : (stars S).length = (S.map fun l => l.length - 1).sum := by
  unfold stars
  rw [List.length_flatMap]
  congr 1
  exact List.map_congr_left fun l _ => starL_len l

end Go.Proofs.YtmbpmepoaonleaaGreat.Pl

/-! A list of groups, one number a piece, in which one number is written over by another: what it tells (plain mathematics). -/
namespace Go.Proofs.YtmbpmepoaonleaaGreat.Pl
open Go.Proofs.YtmbpmepoaonleaaGreat Go.Proofs.YtmbpmepoaonleaaGreat.Fc Go.RowKit

variable {E : List Pr} {gr : List Int} {k : Nat}

/-- One number written over by another. -/
def over (gr : List Int) (a b : Int) : List Int := gr.map fun z => if z = b then a else z
theorem over_len (gr : List Int) (a b : Int) : (over gr a b).length = gr.length := List.length_map _
theorem over_get {a b : Int} {i : Nat} (hi : i < gr.length) : getI (over gr a b) i = if getI gr i = b then a else getI gr i := by
  rw [getI_of _ _ (by rw [over_len]; exact hi), getI_of _ _ hi]
  unfold over
  rw [List.getElem_map]
/-- The groups tell which pieces the pairs have put together. -/
structure Told (gr : List Int) (E : List Pr) (k : Nat) : Prop where
  len : gr.length = k
  iff : ∀ i j : Nat, i < k → j < k → (getI gr i = getI gr j ↔ Conn (relE E) i j)
theorem Told.start (k : Nat) : Told (countTo k) [] k := ⟨countTo_length k, fun i j hi hj => by
  rw [countTo_get k i hi, countTo_get k j hj]
  exact ⟨fun e => by rw [e]; exact Conn.refl _ _, fun h => conn_none h⟩⟩
theorem Told.join (h : Told gr E k) {a b : Nat} (ha : a < k) (hb : b < k) : Told (over gr (getI gr a) (getI gr b)) (E ++ [((a : Int), (b : Int))]) k := by
  refine ⟨(over_len _ _ _).trans h.len, fun i j hi hj => ?_⟩
  rw [over_get (by rw [h.len]; exact hi), over_get (by rw [h.len]; exact hj)]
  constructor
  · intro e
    by_cases h1 : getI gr i = getI gr b
    · have c1 := conn_app (F := [((a : Int), (b : Int))]) ((h.iff i b hi hb).1 h1)
      rw [if_pos h1] at e
      by_cases h2 : getI gr j = getI gr b
      · exact c1.trans (conn_app ((h.iff j b hj hb).1 h2)).symm
      · rw [if_neg h2] at e
        exact (c1.trans conn_new.symm).trans (conn_app ((h.iff a j ha hj).1 e))
    · rw [if_neg h1] at e
      by_cases h2 : getI gr j = getI gr b
      · rw [if_pos h2] at e
        exact ((conn_app ((h.iff i a hi ha).1 e)).trans conn_new).trans (conn_app ((h.iff j b hj hb).1 h2)).symm
      · rw [if_neg h2] at e
        exact conn_app ((h.iff i j hi hj).1 e)
  · intro hc
    rcases conn_snoc hc with hc | ⟨h1, h2⟩ | ⟨h1, h2⟩
    · rw [(h.iff i j hi hj).2 hc]
    · have e1 := (h.iff i a hi ha).2 h1
      have e2 := (h.iff b j hb hj).2 h2
      rw [if_pos e2.symm, e1]
      split <;> rfl
    · have e1 := (h.iff i b hi hb).2 h1
      have e2 := (h.iff a j ha hj).2 h2
      rw [if_pos e1, ← e2]
      split <;> rfl
/-- What the next pair finds. -/
theorem Told.next {E : List Pr} {n : Nat} (hn : n < E.length) (h : Told gr (E.take n) k) {a b : Nat} (ha : a < k) (hb : b < k) (e : E[n] = ((a : Int), (b : Int))) :
    (getI gr a = getI gr b ↔ Conn (relE (E.take n)) E[n].1 E[n].2) ∧ Told (over gr (getI gr a) (getI gr b)) (E.take (n + 1)) k := by
  refine ⟨by rw [e]; exact h.iff a b ha hb, ?_⟩
  rw [take_snoc hn, e]
  exact h.join ha hb
end Go.Proofs.YtmbpmepoaonleaaGreat.Pl

/-! A piece's genus is whole: vertices, walks and edges come to an even number (plain mathematics: two arcs exchanged are a class more or less). -/
namespace Go.Proofs.YtmbpmepoaonleaaGreat.Fc
open Go.Proofs.YtmbpmepoaonleaaGreat

variable {g : Gph} {p q : Prt} {T : List (List Int)} {X : List Int} {f : Int → Int} {d e : Int}

end Go.Proofs.YtmbpmepoaonleaaGreat.Fc

/-! Lists of walks' keys, regions, and Euler with pieces (plain mathematics). -/
namespace Go.Proofs.YtmbpmepoaonleaaGreat.Pl
open Go.Proofs.YtmbpmepoaonleaaGreat Go.Proofs.YtmbpmepoaonleaaGreat.Fc Go.RowKit

variable {g : Gph} {p q : Prt} {T S : List (List Int)} {ks : List Int} {κ : Int} {l m : List Int}

/-- Lists as a plan's Same has them. -/
structure Lists (ks : List Int) (S : List (List Int)) : Prop where
  two : ∀ l ∈ S, 2 ≤ l.length
  heads : S.Pairwise fun l m => getI l 0 < getI m 0
  up : ∀ l ∈ S, Up l
  keys : ∀ l ∈ S, ∀ k ∈ l, k ∈ ks
  once : S.flatten.Nodup

theorem same_len (hl : l.Nodup) (hm : m.Nodup) (h : ∀ x, x ∈ l ↔ x ∈ m) : l.length = m.length :=
  Nat.le_antisymm (once_len hl fun x hx => (h x).1 hx) (once_len hm fun x hx => (h x).2 hx)
theorem flat_one : ∀ {S : List (List Int)}, S.flatten.Nodup → l ∈ S → m ∈ S → κ ∈ l → κ ∈ m → l = m
  | [], _, h, _, _, _ => absurd h List.not_mem_nil
  | a :: S, hn, hl, hm, h1, h2 => by
    rw [List.flatten_cons] at hn
    obtain ⟨_, n2, n3⟩ := List.nodup_append.1 hn
    rcases List.mem_cons.1 hl with rfl | h3
    · rcases List.mem_cons.1 hm with rfl | hm
      · rfl
      · exact absurd rfl (n3 κ h1 κ (List.mem_flatten.2 ⟨m, hm, h2⟩))
    · rcases List.mem_cons.1 hm with rfl | hm
      · exact absurd rfl (n3 κ h2 κ (List.mem_flatten.2 ⟨l, h3, h1⟩))
      · exact flat_one n2 h3 hm h1 h2

/-- The list that has a key, or the key alone. -/
def lstOf (S : List (List Int)) (κ : Int) : List Int := (S.find? fun l => decide (κ ∈ l)).getD [κ]
def fstB (S : List (List Int)) (κ : Int) : Bool := getI (lstOf S κ) 0 == κ
/-- The regions, by their first keys. -/
def regs (ks : List Int) (S : List (List Int)) : List (List Int) := (ks.filter (fstB S)).map (lstOf S)
def inB (S : List (List Int)) (κ : Int) : Bool := S.any fun l => decide (κ ∈ l)
theorem inB_iff : inB S κ = true ↔ ∃ l ∈ S, κ ∈ l := by
  unfold inB
  rw [List.any_eq_true]
  exact ⟨fun ⟨l, h1, h2⟩ => ⟨l, h1, of_decide_eq_true h2⟩, fun ⟨l, h1, h2⟩ => ⟨l, h1, decide_eq_true h2⟩⟩
theorem lstOf_of (h : S.flatten.Nodup) (hl : l ∈ S) (hk : κ ∈ l) : lstOf S κ = l := by
  unfold lstOf
  cases hf : S.find? fun l => decide (κ ∈ l) with
  | none => exact absurd (decide_eq_true hk) (by have := List.find?_eq_none.1 hf l hl; simpa using this)
  | some m =>
    have h1 := List.mem_of_find?_eq_some hf
    have h2 : (fun l : List Int => decide (κ ∈ l)) m = true := List.find?_some (p := fun l => decide (κ ∈ l)) hf
    exact flat_one h h1 hl (of_decide_eq_true h2) hk
theorem lstOf_none (h : ¬ ∃ l ∈ S, κ ∈ l) : lstOf S κ = [κ] := by
  unfold lstOf
  rw [List.find?_eq_none.2 fun l hl => by
    intro hd
    exact h ⟨l, hl, of_decide_eq_true hd⟩]
  rfl
theorem head_in (h : Lists ks S) (hl : l ∈ S) : getI l 0 ∈ l := (mem_getI _ _).2 ⟨0, by have := h.two l hl; omega, rfl⟩
theorem Lists.heads_nodup (h : Lists ks S) : (S.map fun l => getI l 0).Nodup := by
  rw [List.Nodup, List.pairwise_map]
  exact List.Pairwise.imp (fun {a b} (hab : getI a 0 < getI b 0) => (by omega : getI a 0 ≠ getI b 0)) h.heads
theorem Lists.heads_count (h : Lists ks S) (hk : ks.Nodup) : (ks.filter fun κ => inB S κ && fstB S κ).length = S.length := by
  rw [same_len (hk.filter _) h.heads_nodup (fun x => ?_), List.length_map]
  rw [List.mem_filter, Bool.and_eq_true, inB_iff, List.mem_map]
  constructor
  · rintro ⟨_, ⟨l, hl, hx⟩, hf⟩
    refine ⟨l, hl, ?_⟩
    unfold fstB at hf
    rw [lstOf_of h.once hl hx] at hf
    simpa using hf
  · rintro ⟨l, hl, rfl⟩
    have hm := head_in h hl
    refine ⟨h.keys l hl _ hm, ⟨l, hl, hm⟩, ?_⟩
    unfold fstB
    rw [lstOf_of h.once hl hm]
    simp
theorem flat_sum : ∀ {S : List (List Int)}, (∀ l ∈ S, 2 ≤ l.length) → S.flatten.length = (S.map fun l => l.length - 1).sum + S.length
  | [], _ => rfl
  | a :: S, h => by
    have ih := flat_sum fun l hl => h l (List.mem_cons_of_mem _ hl)
    have h2 := h a (List.mem_cons_self ..)
    rw [List.flatten_cons, List.length_append, ih, List.map_cons, List.sum_cons, List.length_cons]
    omega
end Go.Proofs.YtmbpmepoaonleaaGreat.Pl

/-! Lists of keys under a one-to-one renaming, sorted anew: what a mirror makes of a plan's lists (plain mathematics). -/
namespace Go.Proofs.YtmbpmepoaonleaaGreat.Pl
open Go.Proofs.YtmbpmepoaonleaaGreat Go.Proofs.YtmbpmepoaonleaaGreat.Fc Go.RowKit

/-- In order, the same things: the same list. -/
theorem sorted_ext {α : Type} {R : α → α → Prop} (has : ∀ a b, R a b → ¬ R b a) : ∀ {l m : List α}, l.Pairwise R → m.Pairwise R → (∀ x, x ∈ l ↔ x ∈ m) → l = m
  | [], [], _, _, _ => rfl
  | [], b :: m, _, _, h => absurd ((h b).2 (List.mem_cons_self ..)) List.not_mem_nil
  | a :: l, [], _, _, h => absurd ((h a).1 (List.mem_cons_self ..)) List.not_mem_nil
  | a :: l, b :: m, hl, hm, h => by
    obtain ⟨l1, l2⟩ := List.pairwise_cons.1 hl
    obtain ⟨m1, m2⟩ := List.pairwise_cons.1 hm
    have e : a = b := by
      rcases List.mem_cons.1 ((h a).1 (List.mem_cons_self ..)) with e | h1
      · exact e
      · rcases List.mem_cons.1 ((h b).2 (List.mem_cons_self ..)) with e | h2
        · exact e.symm
        · exact absurd (l1 b h2) (has b a (m1 a h1))
    subst e
    rw [sorted_ext has l2 m2 (fun x => ?_)]
    have irr : ∀ y, R y y → False := fun y hy => has y y hy hy
    constructor
    · intro hx
      rcases List.mem_cons.1 ((h x).1 (List.mem_cons_of_mem _ hx)) with rfl | hx'
      · exact absurd (l1 x hx) (irr x)
      · exact hx'
    · intro hx
      rcases List.mem_cons.1 ((h x).2 (List.mem_cons_of_mem _ hx)) with rfl | hx'
      · exact absurd (m1 x hx) (irr x)
      · exact hx'
theorem up_same {l m : List Int} (hl : Up l) (hm : Up m) (h : ∀ x, x ∈ l ↔ x ∈ m) : l = m := sorted_ext (fun a b (h1 : a < b) (h2 : b < a) => by omega) hl hm h

/-- Keys here and there. -/
structure Ren (ks ms : List Int) (φ ψ : Int → Int) : Prop where
  ku : Up ks
  mu : Up ms
  to : ∀ x ∈ ks, φ x ∈ ms
  fro : ∀ y ∈ ms, ψ y ∈ ks
  back : ∀ x ∈ ks, ψ (φ x) = x
  forth : ∀ y ∈ ms, φ (ψ y) = y
variable {ks ms l : List Int} {S : List (List Int)} {φ ψ : Int → Int} {y : Int}
theorem Ren.turn (h : Ren ks ms φ ψ) : Ren ms ks ψ φ := ⟨h.mu, h.ku, h.fro, h.to, h.forth, h.back⟩

def msort (ms : List Int) (φ : Int → Int) (l : List Int) : List Int := ms.filter fun y => decide (y ∈ l.map φ)
theorem mem_msort (h : Ren ks ms φ ψ) (hl : ∀ x ∈ l, x ∈ ks) : y ∈ msort ms φ l ↔ ∃ x ∈ l, φ x = y := by
  unfold msort
  rw [List.mem_filter, decide_eq_true_iff, List.mem_map]
  exact ⟨fun h => h.2, fun ⟨x, hx, e⟩ => ⟨e ▸ h.to x (hl x hx), x, hx, e⟩⟩
theorem msort_up (h : Ren ks ms φ ψ) : Up (msort ms φ l) := List.Pairwise.filter _ h.mu
theorem msort_in (_ : Ren ks ms φ ψ) : ∀ y ∈ msort ms φ l, y ∈ ms := fun _ hy => (List.mem_filter.1 hy).1
theorem msort_len (h : Ren ks ms φ ψ) (hn : l.Nodup) (hl : ∀ x ∈ l, x ∈ ks) : (msort ms φ l).length = l.length := by
  have hm : (l.map φ).Nodup := by
    rw [List.Nodup, List.pairwise_map]
    refine List.Pairwise.imp_of_mem (fun {a b} ha hb hne e => hne ?_) hn
    rw [← h.back a (hl a ha), ← h.back b (hl b hb)]
    exact congrArg ψ e
  rw [same_len (up_nodup (msort_up h)) hm (fun y => by rw [mem_msort h hl, List.mem_map]), List.length_map]

/-- The lists, renamed, each sorted, by their first keys. -/
def mirS (ms : List Int) (φ : Int → Int) (S : List (List Int)) : List (List Int) := ms.flatMap fun y => (S.map (msort ms φ)).filter fun l => decide (0 < l.length) && (getI l 0 == y)
theorem mem_mirS (h : Ren ks ms φ ψ) (hS : Lists ks S) : l ∈ mirS ms φ S ↔ ∃ m ∈ S, msort ms φ m = l := by
  unfold mirS
  simp only [List.mem_flatMap, List.mem_filter, List.mem_map, Bool.and_eq_true, decide_eq_true_iff, beq_iff_eq]
  constructor
  · rintro ⟨_, _, h, _⟩
    exact h
  · rintro ⟨m, hm, rfl⟩
    have h2 := hS.two m hm
    have hl := msort_len h (up_nodup (hS.up m hm)) (hS.keys m hm)
    exact ⟨getI (msort ms φ m) 0, msort_in h _ ((mem_getI _ _).2 ⟨0, by omega, rfl⟩), ⟨m, hm, rfl⟩, by omega, rfl⟩
/-- No two lists have a key together. -/
theorem Lists.apart (hS : Lists ks S) : S.Pairwise fun l m => ∀ x, x ∈ l → x ∉ m := by
  have h1 := hS.once
  have h2 := hS.two
  clear hS
  induction S with
  | nil => exact List.Pairwise.nil
  | cons a S ih =>
    rw [List.flatten_cons] at h1
    obtain ⟨_, n2, n3⟩ := List.nodup_append.1 h1
    exact List.pairwise_cons.2 ⟨fun m hm x hx hx' => n3 x hx x (List.mem_flatten.2 ⟨m, hm, hx'⟩) rfl, ih n2 fun l hl => h2 l (List.mem_cons_of_mem _ hl)⟩
theorem mirS_heads (h : Ren ks ms φ ψ) (hS : Lists ks S) : (mirS ms φ S).Pairwise fun l m => getI l 0 < getI m 0 := by
  unfold mirS
  rw [List.pairwise_flatMap]
  refine ⟨fun y _ => ?_, ?_⟩
  · have hap := hS.apart
    refine List.Pairwise.imp_of_mem (R := fun l m => ∀ x, x ∈ l → x ∉ m) (fun {a b} ha hb hab => ?_) (List.Pairwise.filter _ ?_)
    · simp only [List.mem_filter, Bool.and_eq_true, decide_eq_true_iff, beq_iff_eq] at ha hb
      exact absurd ((mem_getI _ _).2 ⟨0, hb.2.1, by rw [hb.2.2, ha.2.2]⟩) (hab _ ((mem_getI _ _).2 ⟨0, ha.2.1, rfl⟩))
    · rw [List.pairwise_map]
      refine List.Pairwise.imp_of_mem (fun {a b} ha hb hab x hx hx' => ?_) hap
      obtain ⟨u, hu, e1⟩ := (mem_msort h (hS.keys a ha)).1 hx
      obtain ⟨w, hw, e2⟩ := (mem_msort h (hS.keys b hb)).1 hx'
      have : u = w := by rw [← h.back u (hS.keys a ha u hu), ← h.back w (hS.keys b hb w hw), e1, e2]
      exact hab u hu (this ▸ hw)
  · refine List.Pairwise.imp (fun {y z} (hyz : y < z) => ?_) h.mu
    intro a ha b hb
    simp only [List.mem_filter, Bool.and_eq_true, decide_eq_true_iff, beq_iff_eq] at ha hb
    omega
theorem mirS_lists (h : Ren ks ms φ ψ) (hS : Lists ks S) : Lists ms (mirS ms φ S) where
  two := fun l hl => by
    obtain ⟨m, hm, rfl⟩ := (mem_mirS h hS).1 hl
    rw [msort_len h (up_nodup (hS.up m hm)) (hS.keys m hm)]
    exact hS.two m hm
  heads := mirS_heads h hS
  up := fun l hl => by
    obtain ⟨m, _, rfl⟩ := (mem_mirS h hS).1 hl
    exact msort_up h
  keys := fun l hl => by
    obtain ⟨m, _, rfl⟩ := (mem_mirS h hS).1 hl
    exact msort_in h
  once := by
    rw [List.Nodup, List.pairwise_flatten]
    refine ⟨fun l hl => ?_, ?_⟩
    · obtain ⟨m, _, rfl⟩ := (mem_mirS h hS).1 hl
      exact up_nodup (msort_up h)
    · refine List.Pairwise.imp_of_mem (fun {a b} ha hb hab x hx y hy e => ?_) (mirS_heads h hS)
      subst e
      obtain ⟨m, hm, rfl⟩ := (mem_mirS h hS).1 ha
      obtain ⟨n, hn, rfl⟩ := (mem_mirS h hS).1 hb
      obtain ⟨u, hu, e1⟩ := (mem_msort h (hS.keys m hm)).1 hx
      obtain ⟨w, hw, e2⟩ := (mem_msort h (hS.keys n hn)).1 hy
      have : u = w := by rw [← h.back u (hS.keys m hm u hu), ← h.back w (hS.keys n hn w hw), e1, e2]
      subst this
      rw [flat_one hS.once hm hn hu hw] at hab
      omega
end Go.Proofs.YtmbpmepoaonleaaGreat.Pl

/-! Walks' keys, here and in the mirror; and that a drawing's mirror is one (plain mathematics). -/
namespace Go.Proofs.YtmbpmepoaonleaaGreat.Pl
open Go.Proofs.YtmbpmepoaonleaaGreat Go.Proofs.YtmbpmepoaonleaaGreat.Fc Go.RowKit

variable {g : Gph} {p q : Prt} {T S : List (List Int)} {κ d x y : Int}

def keysOf (g : Gph) (p : Prt) (T : List (List Int)) : List Int := (walksOf g p T).map (·.1)
theorem mem_keys : κ ∈ keysOf g p T ↔ (∃ v ∈ p.v, loneB T v = true ∧ κ = -1 - v) ∨ κ ∈ faces (prs p.e) (Rt.nxt g T) := by
  unfold keysOf
  rw [List.mem_map]
  constructor
  · rintro ⟨w, hw, rfl⟩
    rcases mem_walks.1 hw with ⟨v, hv, hl, rfl⟩ | ⟨d, hd, rfl⟩
    · exact .inl ⟨v, hv, hl, rfl⟩
    · exact .inr hd
  · rintro (⟨v, hv, hl, rfl⟩ | hd)
    · exact ⟨_, mem_walks.2 (.inl ⟨v, hv, hl, rfl⟩), rfl⟩
    · exact ⟨_, mem_walks.2 (.inr ⟨κ, hd, rfl⟩), rfl⟩
theorem keys_up (h : Rt.Turns g p T) : Up (keysOf g p T) := by
  unfold keysOf Up
  rw [List.pairwise_map]
  exact walks_rise h

/-- The key, in the mirror, of the walk that has a dart's twin. -/
def mk (g : Gph) (p : Prt) (T : List (List Int)) (κ : Int) : Int := if κ < 0 then κ else keyI (walksOf g p (Rt.mir T)) (Rt.twi κ)
theorem mk_face (h : Rt.Turns g p T) (hd : d ∈ faces (prs p.e) (Rt.nxt g T)) : mk g p T d ∈ faces (prs p.e) (Rt.nxt g (Rt.mir T)) ∧ Conn (rel (prs p.e) (Rt.nxt g (Rt.mir T))) (Rt.twi d) (mk g p T d) := by
  obtain ⟨h1, h2⟩ := (nxt_perm h).mem_faces.1 hd
  have ht := prs_twi h1
  have hP := nxt_perm h.mir
  obtain ⟨m, hm, hx⟩ := hP.has_face ht
  have hc : Conn (rel (prs p.e) (Rt.nxt g (Rt.mir T))) m (Rt.twi d) := (hP.mem_orb (hP.mem_faces.1 hm).1 (Nat.le_refl _)).1 hx
  have hk := key_dart h.mir ht (m := m) ((hP.mem_orb ht (Nat.le_refl _)).2 hc.symm) (fun y hy => (hP.mem_faces.1 hm).2 y (hP.orb_in ht hy) (hc.trans ((hP.mem_orb ht (Nat.le_refl _)).1 hy)))
  have e : mk g p T d = m := by
    unfold mk
    rw [if_neg (by have := face_nn h hd; omega)]
    exact hk.1
  rw [e]
  exact ⟨hm, hc.symm⟩
theorem mk_lone (hκ : κ < 0) : mk g p T κ = κ := if_pos hκ
theorem mirmir (T : List (List Int)) : Rt.mir (Rt.mir T) = T := by
  unfold Rt.mir
  rw [List.map_map]
  conv => rhs; rw [← List.map_id T]
  exact List.map_congr_left fun l _ => List.reverse_reverse l
theorem twin_conn (h : Rt.Turns g p T) (hc : Conn (rel (prs p.e) (Rt.nxt g (Rt.mir T))) x y) : Conn (rel (prs p.e) (Rt.nxt g T)) (Rt.twi x) (Rt.twi y) := by
  refine Conn.map Rt.twi (fun u v huv => ?_) hc
  obtain ⟨hu, _, rfl⟩ := huv
  have hv := (nxt_perm h.mir).into u hu
  exact (Conn.arc ⟨prs_twi hv, fun e => e, (turned_nxt h ((mem_dart h.right).1 hu)).symm⟩).symm
theorem mk_back (h : Rt.Turns g p T) (hd : d ∈ faces (prs p.e) (Rt.nxt g T)) : mk g p (Rt.mir T) (mk g p T d) = d := by
  obtain ⟨f1, f2⟩ := mk_face h hd
  obtain ⟨g1, g2⟩ := mk_face h.mir f1
  rw [mirmir] at g1 g2
  have hc := twin_conn h f2
  rw [Rt.twi_twi] at hc
  obtain ⟨a1, a2⟩ := (nxt_perm h).mem_faces.1 g1
  obtain ⟨b1, b2⟩ := (nxt_perm h).mem_faces.1 hd
  exact Lst.one a1 b1 a2 b2 (hc.trans g2).symm
theorem ren (h : Rt.Turns g p T) : Ren (keysOf g p T) (keysOf g p (Rt.mir T)) (mk g p T) (mk g p (Rt.mir T)) := by
  have to : ∀ {T : List (List Int)}, Rt.Turns g p T → ∀ x ∈ keysOf g p T, mk g p T x ∈ keysOf g p (Rt.mir T) := fun {T} h x hx => by
    rcases mem_keys.1 hx with ⟨v, hv, hl, rfl⟩ | hd
    · have := (v_nn h.right hv).1
      rw [mk_lone (by omega)]
      exact mem_keys.2 (.inl ⟨v, hv, by rw [mir_lone]; exact hl, rfl⟩)
    · exact mem_keys.2 (.inr (mk_face h hd).1)
  have back : ∀ {T : List (List Int)}, Rt.Turns g p T → ∀ x ∈ keysOf g p T, mk g p (Rt.mir T) (mk g p T x) = x := fun {T} h x hx => by
    rcases mem_keys.1 hx with ⟨v, hv, hl, rfl⟩ | hd
    · have := (v_nn h.right hv).1
      rw [mk_lone (T := T) (κ := -1 - v) (by omega), mk_lone (by omega)]
    · exact mk_back h hd
  refine ⟨keys_up h, keys_up h.mir, to h, ?_, back h, ?_⟩
  · have := to h.mir
    rwa [mirmir] at this
  · have := back h.mir
    rwa [mirmir] at this

/-- The piece in which a walk begins. -/
def ownI (g : Gph) (p : Prt) (κ : Int) : Int := (plc (pcs g p) (crn g κ) : Nat)
theorem own_mk (h : Rt.Turns g p T) (hx : κ ∈ keysOf g p T) : ownI g p (mk g p T κ) = ownI g p κ := by
  have hF := pcs_facts h.right
  rcases mem_keys.1 hx with ⟨v, hv, hl, rfl⟩ | hd
  · have := (v_nn h.right hv).1
    rw [mk_lone (by omega)]
  · have hk := (nxt_perm h).mem_faces.1 hd
    obtain ⟨f1, f2⟩ := mk_face h hd
    have hw : (wlk (Rt.nxt g T) (prs p.e).length κ) ∈ walksOf g p T := mem_walks.2 (.inr ⟨κ, hd, rfl⟩)
    have hwm : (wlk (Rt.nxt g (Rt.mir T)) (prs p.e).length (mk g p T κ)) ∈ walksOf g p (Rt.mir T) := mem_walks.2 (.inr ⟨_, f1, rfl⟩)
    have s1 : crn g κ = (Rt.tl g κ : Int) := by
      have e := crn_start h hw
      unfold startI at e
      rw [if_neg (show ¬ (wlk (Rt.nxt g T) (prs p.e).length κ).1 < 0 by have := face_nn h hd; exact Int.not_lt.2 this)] at e
      exact e
    have s2 : crn g (mk g p T κ) = (Rt.tl g (mk g p T κ) : Int) := by
      have e := crn_start h.mir hwm
      unfold startI at e
      rw [if_neg (show ¬ (wlk (Rt.nxt g (Rt.mir T)) (prs p.e).length (mk g p T κ)).1 < 0 by have := face_nn h.mir f1; exact Int.not_lt.2 this)] at e
      exact e
    have hin : crn g κ ∈ p.v := start_in h hw
    obtain ⟨j, hj, hm⟩ := hF.covers _ hin
    have hq := PFacts.pce hF hj
    have hdq : κ ∈ prs (getP (pcs g p) j).e := (hq.dart h.right).2 ⟨hk.1, s1 ▸ hm⟩
    have hP := hq.nxt h.mir
    have hmk : mk g p T κ ∈ prs (getP (pcs g p) j).e := by
      have := (nxt_perm h.mir).mem_orb (prs_twi hk.1) (Nat.le_refl _) |>.2 f2
      exact hP.orb_in (prs_twi hdq) this
    have hm2 : crn g (mk g p T κ) ∈ (getP (pcs g p) j).v := by
      rw [s2]
      exact ((hq.dart h.right).1 hmk).2
    unfold ownI
    rw [plc_of hF.av hj hm, plc_of hF.av hj hm2]

/-- The lists' keys as the pieces in which they begin. -/
def owns (g : Gph) (p : Prt) (S : List (List Int)) : List (List Int) := S.map fun l => l.map (ownI g p)
/-- A plan's lists: each joins pieces that hadn't hung together, and all hang together at the end. -/
structure Hung (g : Gph) (p : Prt) (T S : List (List Int)) : Prop where
  lists : Lists (keysOf g p T) S
  forest : ForestTo (stars (owns g p S)) (stars (owns g p S)).length
  all : ∀ i j : Nat, i < (pcs g p).length → j < (pcs g p).length → Conn (relE (stars (owns g p S))) i j

theorem own_lt (h : Rt.Turns g p T) (hx : κ ∈ keysOf g p T) : ∃ j : Nat, j < (pcs g p).length ∧ ownI g p κ = j := by
  have hF := pcs_facts h.right
  obtain ⟨w, hw, rfl⟩ := List.mem_map.1 hx
  obtain ⟨j, hj, hm⟩ := hF.covers _ (start_in h hw)
  exact ⟨j, hj, by unfold ownI; rw [plc_of hF.av hj hm]⟩
theorem mem_cnt (n : Nat) (x : Int) : x ∈ (List.range n).map (fun i : Nat => (i : Int)) ↔ ∃ j : Nat, j < n ∧ x = j := by
  rw [List.mem_map]
  exact ⟨fun ⟨j, h, e⟩ => ⟨j, List.mem_range.1 h, e.symm⟩, fun ⟨j, h, e⟩ => ⟨j, List.mem_range.2 h, e.symm⟩⟩
theorem cnt_nodup (n : Nat) : ((List.range n).map fun i : Nat => (i : Int)).Nodup := by
  rw [List.Nodup, List.pairwise_map]
  exact List.Pairwise.imp (fun {a b} (h : a < b) e => by have : (a : Int) = b := e; omega) List.pairwise_lt_range
theorem owns_len (S : List (List Int)) : (stars (owns g p S)).length = (S.map fun l => l.length - 1).sum := by
  rw [stars_len]
  unfold owns
  rw [List.map_map]
  congr 1
  exact List.map_congr_left fun l _ => by simp
theorem owns_in (h : Rt.Turns g p T) (hS : Lists (keysOf g p T) S) : ∀ e ∈ stars (owns g p S), (∃ j : Nat, j < (pcs g p).length ∧ e.1 = j) ∧ ∃ j : Nat, j < (pcs g p).length ∧ e.2 = j := fun e he => by
  obtain ⟨l, hl, he⟩ := List.mem_flatMap.1 he
  obtain ⟨m, hm, rfl⟩ := List.mem_map.1 hl
  obtain ⟨h1, h2⟩ := mem_starL (x := e.1) (y := e.2) he
  obtain ⟨a, ha, e1⟩ := List.mem_map.1 h1
  obtain ⟨b, hb, e2⟩ := List.mem_map.1 h2
  rw [← e1, ← e2]
  exact ⟨own_lt h (hS.keys m hm a ha), own_lt h (hS.keys m hm b hb)⟩
/-- Each list counts just if there are as many keys as can be. -/
theorem forest_iff (h : Rt.Turns g p T) (hS : Lists (keysOf g p T) S) (ha : ∀ i j : Nat, i < (pcs g p).length → j < (pcs g p).length → Conn (relE (stars (owns g p S))) i j) (h0 : 0 < (pcs g p).length) :
    ForestTo (stars (owns g p S)) (stars (owns g p S)).length ↔ (S.map fun l => l.length - 1).sum + 1 = (pcs g p).length := by
  have hl : ((List.range (pcs g p).length).map fun i : Nat => (i : Int)).length = (pcs g p).length := by rw [List.length_map, List.length_range]
  rw [tree_iff (X := (List.range (pcs g p).length).map fun i : Nat => (i : Int)) (cnt_nodup _) (fun e => by rw [e] at hl; simp at hl; omega) (fun e he => by
    rw [mem_cnt, mem_cnt]
    exact owns_in h hS e he) (fun x hx y hy => by
    obtain ⟨i, hi, rfl⟩ := (mem_cnt _ _).1 hx
    obtain ⟨j, hj, rfl⟩ := (mem_cnt _ _).1 hy
    exact ha i j hi hj), hl, owns_len]
/-- No piece, no lists. -/
theorem no_lists (h : Rt.Turns g p T) (hS : Lists (keysOf g p T) S) (h0 : (pcs g p).length = 0) : S = [] := by
  match S, hS with
  | [], _ => rfl
  | l :: S, hS =>
    obtain ⟨j, hj, _⟩ := own_lt h (hS.keys l (List.mem_cons_self ..) _ (head_in hS (List.mem_cons_self ..)))
    omega
theorem Hung.sum (h : Rt.Turns g p T) (hH : Hung g p T S) (h0 : 0 < (pcs g p).length) : (S.map fun l => l.length - 1).sum + 1 = (pcs g p).length := (forest_iff h hH.lists hH.all h0).1 hH.forest

/-- The lists in the mirror. -/
def mirP (g : Gph) (p : Prt) (T S : List (List Int)) : List (List Int) := mirS (keysOf g p (Rt.mir T)) (mk g p T) S
theorem mirP_beside (h : Rt.Turns g p T) (hS : Lists (keysOf g p T) S) : beside (owns g p (mirP g p T S)) x y ↔ beside (owns g p S) x y := by
  have hR := ren h
  have one : ∀ m ∈ S, ∀ z, z ∈ (msort (keysOf g p (Rt.mir T)) (mk g p T) m).map (ownI g p) ↔ z ∈ m.map (ownI g p) := fun m hm z => by
    rw [List.mem_map, List.mem_map]
    constructor
    · rintro ⟨a, ha, rfl⟩
      obtain ⟨b, hb, rfl⟩ := (mem_msort hR (hS.keys m hm)).1 ha
      exact ⟨b, hb, (own_mk h (hS.keys m hm b hb)).symm⟩
    · rintro ⟨b, hb, rfl⟩
      exact ⟨_, (mem_msort hR (hS.keys m hm)).2 ⟨b, hb, rfl⟩, own_mk h (hS.keys m hm b hb)⟩
  unfold beside owns
  constructor
  · rintro ⟨l, hl, hx, hy⟩
    obtain ⟨a, ha, rfl⟩ := List.mem_map.1 hl
    obtain ⟨m, hm, rfl⟩ := (mem_mirS hR hS).1 ha
    exact ⟨_, List.mem_map.2 ⟨m, hm, rfl⟩, (one m hm x).1 hx, (one m hm y).1 hy⟩
  · rintro ⟨l, hl, hx, hy⟩
    obtain ⟨m, hm, rfl⟩ := List.mem_map.1 hl
    exact ⟨_, List.mem_map.2 ⟨_, (mem_mirS hR hS).2 ⟨m, hm, rfl⟩, rfl⟩, (one m hm x).2 hx, (one m hm y).2 hy⟩
theorem mirP_sum (h : Rt.Turns g p T) (hS : Lists (keysOf g p T) S) : ((mirP g p T S).map fun l => l.length - 1).sum = (S.map fun l => l.length - 1).sum := by
  have hR := ren h
  have hM : Lists (keysOf g p (Rt.mir T)) (mirP g p T S) := mirS_lists hR hS
  have e1 := flat_sum hM.two
  have e2 := flat_sum hS.two
  have e3 : (mirP g p T S).flatten.length = S.flatten.length := by
    have hn : (S.flatten.map (mk g p T)).Nodup := by
      rw [List.Nodup, List.pairwise_map]
      refine List.Pairwise.imp_of_mem (fun {a b} ha hb hne e => hne ?_) hS.once
      obtain ⟨l, hl, ha⟩ := List.mem_flatten.1 ha
      obtain ⟨m, hm, hb⟩ := List.mem_flatten.1 hb
      rw [← hR.back a (hS.keys l hl a ha), ← hR.back b (hS.keys m hm b hb)]
      exact congrArg _ e
    rw [same_len hM.once hn (fun y => ?_), List.length_map]
    rw [List.mem_flatten, List.mem_map]
    constructor
    · rintro ⟨l, hl, hy⟩
      obtain ⟨m, hm, rfl⟩ := (mem_mirS hR hS).1 hl
      obtain ⟨a, ha, rfl⟩ := (mem_msort hR (hS.keys m hm)).1 hy
      exact ⟨a, List.mem_flatten.2 ⟨m, hm, ha⟩, rfl⟩
    · rintro ⟨a, ha, rfl⟩
      obtain ⟨m, hm, ha⟩ := List.mem_flatten.1 ha
      exact ⟨_, (mem_mirS hR hS).2 ⟨m, hm, rfl⟩, (mem_msort hR (hS.keys m hm)).2 ⟨a, ha, rfl⟩⟩
  have e4 : (mirP g p T S).length = S.length := by
    have hn : (S.map fun m => getI (msort (keysOf g p (Rt.mir T)) (mk g p T) m) 0).Nodup := by
      rw [List.Nodup, List.pairwise_map]
      refine List.Pairwise.imp_of_mem (fun {a b} ha hb hab e => ?_) hS.apart
      have la := msort_len hR (up_nodup (hS.up a ha)) (hS.keys a ha)
      have lb := msort_len hR (up_nodup (hS.up b hb)) (hS.keys b hb)
      have ta := hS.two a ha
      have tb := hS.two b hb
      obtain ⟨u, hu, e1⟩ := (mem_msort hR (hS.keys a ha)).1 ((mem_getI _ _).2 ⟨0, by omega, rfl⟩)
      obtain ⟨v, hv, e2⟩ := (mem_msort hR (hS.keys b hb)).1 ((mem_getI _ _).2 ⟨0, by omega, rfl⟩)
      have : u = v := by rw [← hR.back u (hS.keys a ha u hu), ← hR.back v (hS.keys b hb v hv), e1, e2]; exact congrArg _ e
      exact hab u hu (this ▸ hv)
    have := same_len hM.heads_nodup hn (fun y => by
      rw [List.mem_map, List.mem_map]
      constructor
      · rintro ⟨l, hl, rfl⟩
        obtain ⟨m, hm, rfl⟩ := (mem_mirS hR hS).1 hl
        exact ⟨m, hm, rfl⟩
      · rintro ⟨m, hm, rfl⟩
        exact ⟨_, (mem_mirS hR hS).2 ⟨m, hm, rfl⟩, rfl⟩)
    rwa [List.length_map, List.length_map] at this
  omega
/-- A drawing's mirror hangs together as it does. -/
theorem Hung.mir (h : Rt.Turns g p T) (hH : Hung g p T S) : Hung g p (Rt.mir T) (mirP g p T S) := by
  have hM : Lists (keysOf g p (Rt.mir T)) (mirP g p T S) := mirS_lists (ren h) hH.lists
  have hA : ∀ i j : Nat, i < (pcs g p).length → j < (pcs g p).length → Conn (relE (stars (owns g p (mirP g p T S)))) i j := fun i j hi hj =>
    (stars_conn _).2 (Conn.sub (fun u v huv => Conn.arc ((mirP_beside h hH.lists).2 huv)) ((stars_conn _).1 (hH.all i j hi hj)))
  refine ⟨hM, ?_, hA⟩
  rcases Nat.eq_zero_or_pos (pcs g p).length with h0 | h0
  · rw [no_lists h.mir hM h0]
    exact forest_zero _
  · rw [forest_iff h.mir hM hA h0, mirP_sum h hH.lists]
    exact hH.sum h h0
end Go.Proofs.YtmbpmepoaonleaaGreat.Pl

/-! A plan's lists, read one after the other: what makes them hang pieces together, in one way alone (plain mathematics). -/
namespace Go.Proofs.YtmbpmepoaonleaaGreat.Pl
open Go.Proofs.YtmbpmepoaonleaaGreat Go.Proofs.YtmbpmepoaonleaaGreat.Fc Go.Proofs.YtmbpmepoaonleaaGreat.Rt Go.RowKit

variable {ks l : List Int} {S : List (List Int)} {own : Int → Int} {v i k n : Nat} {x : Int}

/-- x stands in one of the first k lists, or among the first j of the one behind them. -/
def Seen (T : List (List Int)) (k j : Nat) (x : Int) : Prop := (∃ v, v < k ∧ x ∈ getT T v) ∨ x ∈ (getT T k).take j
theorem Seen.start (T : List (List Int)) (x : Int) : ¬ Seen T 0 0 x := by
  rintro (⟨v, h, _⟩ | h)
  · omega
  · simp at h
theorem Seen.step {T : List (List Int)} {k j : Nat} (h : j < (getT T k).length) (x : Int) : Seen T k (j + 1) x ↔ Seen T k j x ∨ x = getI (getT T k) j := by
  unfold Seen
  rw [take_succ_getI _ j h, List.mem_append, List.mem_singleton, or_assoc]
theorem Seen.next {T : List (List Int)} {k : Nat} (x : Int) : Seen T (k + 1) 0 x ↔ Seen T k (getT T k).length x := by
  unfold Seen
  rw [List.take_length, List.take_zero]
  constructor
  · rintro (⟨v, h, hx⟩ | h)
    · by_cases e : v = k
      · subst e; exact .inr hx
      · exact .inl ⟨v, by omega, hx⟩
    · exact absurd h List.not_mem_nil
  · rintro (⟨v, h, hx⟩ | h)
    · exact .inl ⟨v, by omega, hx⟩
    · exact .inl ⟨k, by omega, h⟩
theorem Seen.less {T : List (List Int)} {k j : Nat} (h : Seen T k 0 x) : Seen T k j x := h.elim .inl (fun h => absurd h (by simp))
theorem Seen.flat {T : List (List Int)} (x : Int) : Seen T T.length 0 x ↔ x ∈ T.flatten := by
  rw [List.mem_flatten]
  unfold Seen
  rw [List.take_zero]
  constructor
  · rintro (⟨v, h, hx⟩ | h)
    · rw [getT_of T v h] at hx
      exact ⟨_, List.getElem_mem h, hx⟩
    · exact absurd h List.not_mem_nil
  · rintro ⟨m, hm, hx⟩
    obtain ⟨v, h, rfl⟩ := List.mem_iff_getElem.1 hm
    exact .inl ⟨v, h, by rw [getT_of T v h]; exact hx⟩

/-- The lists' keys as the pieces that they are of. -/
def ow (own : Int → Int) (S : List (List Int)) : List (List Int) := S.map fun l => l.map own
/-- The pairs of the first v lists; and those of a list's first keys. -/
def ahd (own : Int → Int) (S : List (List Int)) (v : Nat) : List Pr := stars (ow own (S.take v))
def upto (own : Int → Int) (S : List (List Int)) (v k : Nat) : List Pr := ahd own S v ++ (starL ((getT S v).map own)).take k

theorem ahd_zero : ahd own S 0 = [] := rfl
theorem upto_zero : upto own S v 0 = ahd own S v := by unfold upto; rw [List.take_zero, List.append_nil]
theorem starL_map (l : List Int) : starL (l.map own) = (l.drop 1).map fun y => (own (getI l 0), own y) := by
  cases l with
  | nil => rfl
  | cons z l => simp [starL, getI]
theorem starL_get (h : k + 1 < l.length) : (starL (l.map own))[k]? = some (own (getI l 0), own (getI l (k + 1))) := by
  rw [starL_map, List.getElem?_map, List.getElem?_drop, show 1 + k = k + 1 by omega, List.getElem?_eq_getElem h, getI_of l (k + 1) h]
  rfl
theorem upto_succ (h : k + 1 < (getT S v).length) : upto own S v (k + 1) = upto own S v k ++ [(own (getI (getT S v) 0), own (getI (getT S v) (k + 1)))] := by
  unfold upto
  rw [List.take_add_one, starL_get h, List.append_assoc]
  rfl
theorem ahd_succ (h : v < S.length) : ahd own S (v + 1) = ahd own S v ++ starL ((getT S v).map own) := by
  unfold ahd stars ow
  rw [List.take_succ_eq_append_getElem h, List.map_append, List.flatMap_append, ← getT_of S v h]
  simp
theorem upto_all (h : v < S.length) : upto own S v ((getT S v).length - 1) = ahd own S (v + 1) := by
  unfold upto
  rw [ahd_succ h, List.take_of_length_le (by rw [starL_len, List.length_map]; exact Nat.le_refl _)]
theorem ahd_all : ahd own S S.length = stars (ow own S) := by unfold ahd; rw [List.take_length]
theorem ahd_split (v : Nat) : stars (ow own S) = ahd own S v ++ stars (ow own (S.drop v)) := by
  unfold ahd stars ow
  rw [← List.flatMap_append, ← List.map_append, List.take_append_drop]
theorem upto_take (h : v < S.length) (hk : k ≤ (getT S v).length - 1) : (stars (ow own S)).take ((ahd own S v).length + k) = upto own S v k := by
  rw [ahd_split (v + 1), ahd_succ h, List.append_assoc, List.take_length_add_append]
  unfold upto
  rw [List.take_append_of_le_length (by rw [starL_len, List.length_map]; exact hk)]
theorem at_pos (h : v < S.length) (hk : k + 1 < (getT S v).length) : (stars (ow own S))[(ahd own S v).length + k]? = some (own (getI (getT S v) 0), own (getI (getT S v) (k + 1))) := by
  rw [ahd_split (v + 1), ahd_succ h, List.append_assoc, List.getElem?_append_right (by omega), Nat.add_sub_cancel_left, List.getElem?_append_left (by rw [starL_len, List.length_map]; omega), starL_get hk]
/-- Each pair stands at a list's place. -/
theorem pos_of : ∀ (m : Nat), m ≤ S.length → ∀ n, n < (ahd own S m).length → ∃ v k, v < m ∧ k + 1 < (getT S v).length ∧ n = (ahd own S v).length + k
  | 0, _, n, h => absurd h (Nat.not_lt_zero _)
  | m + 1, hm, n, h => by
    rw [ahd_succ (by omega), List.length_append, starL_len, List.length_map] at h
    rcases Nat.lt_or_ge n (ahd own S m).length with hn | hn
    · obtain ⟨v, k, h1, h2, h3⟩ := pos_of m (by omega) n hn
      exact ⟨v, k, by omega, h2, h3⟩
    · exact ⟨m, n - (ahd own S m).length, by omega, by omega, by omega⟩

/-- All is well with the list at place v, those ahead of it given. -/
structure Good1 (ks : List Int) (own : Int → Int) (S : List (List Int)) (v : Nat) : Prop where
  two : 2 ≤ (getT S v).length
  sorted : ∀ k, k + 1 < (getT S v).length → getI (getT S v) k ≤ getI (getT S v) (k + 1)
  head : 0 < v → getI (getT S (v - 1)) 0 ≤ getI (getT S v) 0
  keys : ∀ k, k < (getT S v).length → getI (getT S v) k ∈ ks ∧ ¬ Seen S v k (getI (getT S v) k)
  forest : ∀ k, k + 1 < (getT S v).length → ¬ Conn (relE (upto own S v k)) (own (getI (getT S v) 0)) (own (getI (getT S v) (k + 1)))

theorem mono_get {f : Nat → Int} {n : Nat} (h : ∀ k, k + 1 < n → f k ≤ f (k + 1)) : ∀ j i, i ≤ j → j < n → f i ≤ f j
  | 0, i, hi, _ => by rw [show i = 0 by omega]; exact Int.le_refl _
  | j + 1, i, hi, hj => by
    rcases Nat.lt_or_eq_of_le hi with h1 | rfl
    · exact Int.le_trans (mono_get h j i (by omega) (by omega)) (h j hj)
    · exact Int.le_refl _
theorem mem_take_getI {i k : Nat} (h : i < k) (hi : i < l.length) : getI l i ∈ l.take k := by
  rw [getI_of l i hi]
  exact List.mem_iff_getElem?.2 ⟨i, by rw [List.getElem?_take, if_pos h, List.getElem?_eq_getElem hi]⟩
theorem Good1.up (h : Good1 ks own S v) : Up (getT S v) := by
  unfold Up
  rw [List.pairwise_iff_getElem]
  intro i j hi hj hij
  rw [← getI_of _ i hi, ← getI_of _ j hj]
  have h1 := mono_get (f := getI (getT S v)) h.sorted j i (by omega) hj
  have h2 : getI (getT S v) i ≠ getI (getT S v) j := fun e => (h.keys j hj).2 (.inr (e ▸ mem_take_getI hij hi))
  omega
theorem getT_mem {T : List (List Int)} (h : v < T.length) : getT T v ∈ T := by rw [getT_of T v h]; exact List.getElem_mem h
/-- All lists are well just if they are as they ought to be, each pair counting. -/
theorem good_lists (h : ∀ v, v < S.length → Good1 ks own S v) : Lists ks S ∧ ForestTo (stars (ow own S)) (stars (ow own S)).length := by
  have heads : ∀ v, v < S.length → 0 < v → getI (getT S (v - 1)) 0 < getI (getT S v) 0 := fun v hv h0 => by
    have h1 := (h v hv).head h0
    have h2 := (h v hv).two
    have h3 := (h (v - 1) (by omega)).two
    have : getI (getT S (v - 1)) 0 ≠ getI (getT S v) 0 := fun e => ((h v hv).keys 0 (by omega)).2 (.inl ⟨v - 1, by omega, e ▸ (mem_getI _ _).2 ⟨0, by omega, rfl⟩⟩)
    omega
  have heads2 : ∀ j i, i < j → j < S.length → getI (getT S i) 0 < getI (getT S j) 0 := by
    intro j
    induction j with
    | zero => intro i h; omega
    | succ j ih =>
      intro i hi hj
      have h1 := heads (j + 1) hj (by omega)
      rw [Nat.add_sub_cancel] at h1
      rcases Nat.lt_or_eq_of_le (Nat.le_of_lt_succ hi) with h2 | rfl
      · have := ih i h2 (by omega); omega
      · exact h1
  have at_ : ∀ l ∈ S, ∃ v, v < S.length ∧ getT S v = l := fun l hl => by
    obtain ⟨v, hv, rfl⟩ := List.mem_iff_getElem.1 hl
    exact ⟨v, hv, getT_of S v hv⟩
  refine ⟨⟨fun l hl => ?_, ?_, fun l hl => ?_, fun l hl x hx => ?_, ?_⟩, fun n hn hl hc => ?_⟩
  · obtain ⟨v, hv, rfl⟩ := at_ l hl
    exact (h v hv).two
  · rw [List.pairwise_iff_getElem]
    intro i j hi hj hij
    rw [← getT_of S i hi, ← getT_of S j hj]
    exact heads2 j i hij hj
  · obtain ⟨v, hv, rfl⟩ := at_ l hl
    exact (h v hv).up
  · obtain ⟨v, hv, rfl⟩ := at_ l hl
    obtain ⟨k, hk, rfl⟩ := (mem_getI _ _).1 hx
    exact ((h v hv).keys k hk).1
  · rw [List.Nodup, List.pairwise_flatten]
    refine ⟨fun l hl => ?_, ?_⟩
    · obtain ⟨v, hv, rfl⟩ := at_ l hl
      exact up_nodup (h v hv).up
    · rw [List.pairwise_iff_getElem]
      intro i j hi hj hij x hx y hy e
      subst e
      rw [← getT_of S i hi] at hx
      rw [← getT_of S j hj] at hy
      obtain ⟨k, hk, rfl⟩ := (mem_getI _ _).1 hy
      exact ((h j hj).keys k hk).2 (.inl ⟨i, hij, hx⟩)
  · rw [← ahd_all] at hn
    obtain ⟨v, k, hv, hk, rfl⟩ := pos_of S.length (Nat.le_refl _) n hn
    have e := at_pos (own := own) hv hk
    rw [List.getElem?_eq_getElem hl] at e
    rw [Option.some.inj e, upto_take hv (by omega)] at hc
    exact (h v hv).forest k hk hc
theorem lists_good (hL : Lists ks S) (hF : ForestTo (stars (ow own S)) (stars (ow own S)).length) (hv : v < S.length) : Good1 ks own S v := by
  have hm := getT_mem hv
  have up := hL.up _ hm
  have ne : ∀ i j, i < j → j < (getT S v).length → getI (getT S v) i < getI (getT S v) j := fun i j hij hj => by
    rw [getI_of _ i (by omega), getI_of _ j hj]
    exact (List.pairwise_iff_getElem.1 up) i j (by omega) hj hij
  refine ⟨hL.two _ hm, fun k hk => Int.le_of_lt (ne k (k + 1) (by omega) hk), fun h0 => ?_, fun k hk => ⟨hL.keys _ hm _ ((mem_getI _ _).2 ⟨k, hk, rfl⟩), ?_⟩, fun k hk hc => ?_⟩
  · rw [getT_of S (v - 1) (by omega), getT_of S v hv]
    exact Int.le_of_lt ((List.pairwise_iff_getElem.1 hL.heads) (v - 1) v (by omega) hv (by omega))
  · rintro (⟨i, hi, hx⟩ | hx)
    · have e := flat_one hL.once (getT_mem (T := S) (v := i) (by omega)) hm hx ((mem_getI _ _).2 ⟨k, hk, rfl⟩)
      have := (List.pairwise_iff_getElem.1 hL.heads) i v (by omega) hv hi
      rw [← getT_of S i (by omega), ← getT_of S v hv, e] at this
      omega
    · obtain ⟨j, hj, e⟩ := (mem_getI _ _).1 hx
      rw [List.length_take] at hj
      have := ne j k (by omega) hk
      have e2 : getI ((getT S v).take k) j = getI (getT S v) j := by
        rw [getI_of ((getT S v).take k) j (by rw [List.length_take]; exact hj), getI_of (getT S v) j (by omega), List.getElem_take]
      omega
  · have e := at_pos (own := own) hv hk
    obtain ⟨hlt, e'⟩ := List.getElem?_eq_some_iff.1 e
    refine hF _ hlt hlt ?_
    rw [e', upto_take hv (by omega)]
    exact hc

end Go.Proofs.YtmbpmepoaonleaaGreat.Pl
