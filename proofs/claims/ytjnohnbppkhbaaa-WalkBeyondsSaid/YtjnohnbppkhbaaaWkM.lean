/-
  Ways through a part of a graph: what is near a vertex, how far things are (plain mathematics), and the document's rings.
-/
import Derived.Test.YtjnohnbppkhbaaaGrX
import Derived.Test.YtjnohnbppkhbaaaWkD
namespace Go.Proofs.Ytjnohnbppkhbaaa

/-- An edge leads from x to y. -/
def Joins (g : Gph) (e x y : Int) : Prop := ((getE g.e e.toNat).a = x ∧ (getE g.e e.toNat).b = y) ∨ ((getE g.e e.toNat).b = x ∧ (getE g.e e.toNat).a = y)
/-- An edge of the part leads from x to y. -/
def Nbr (g : Gph) (p : Prt) (x y : Int) : Prop := ∃ e ∈ p.e, Joins g e x y
variable {g : Gph} {p : Prt} {a b x y : Int} {n m k : Nat}

theorem Joins.symm {e : Int} (h : Joins g e x y) : Joins g e y x := by
  rcases h with ⟨h1, h2⟩ | ⟨h1, h2⟩
  · exact .inr ⟨h2, h1⟩
  · exact .inl ⟨h2, h1⟩
theorem Nbr.symm (h : Nbr g p x y) : Nbr g p y x := let ⟨e, he, hj⟩ := h; ⟨e, he, hj.symm⟩
theorem Nbr.ins (h : perr g p = 0) (hn : Nbr g p x y) : x ∈ p.v ∧ y ∈ p.v := by
  obtain ⟨e, he, hj⟩ := hn
  have h3 := (perr_rises h).2.2.2 e he
  rcases hj with ⟨h1, h2⟩ | ⟨h1, h2⟩
  · exact ⟨h1 ▸ h3.1, h2 ▸ h3.2⟩
  · exact ⟨h1 ▸ h3.2, h2 ▸ h3.1⟩

theorem nbr_symm (x y : Int) (h : Nbr g p x y) : Nbr g p y x := h.symm
theorem nbr_near (he : perr g p = 0) (ha : a ∈ p.v) {n : Nat} {y : Int} (h : Near (Nbr g p) a n y) : y ∈ p.v :=
  Near.ins (P := fun y => y ∈ p.v) (fun _ _ _ hr => (hr.ins he).2) ha h
theorem nbr_reach (he : perr g p = 0) (ha : a ∈ p.v) {y : Int} (h : Reach (Nbr g p) a y) : y ∈ p.v := let ⟨_, h⟩ := h; nbr_near he ha h

/-- Nothing more is met in one step. -/
def Still (g : Gph) (p : Prt) (a : Int) (n : Nat) : Prop := ∀ y, Near (Nbr g p) a (n + 1) y → Near (Nbr g p) a n y
theorem Still.all (h : Still g p a n) : ∀ {m : Nat} {y : Int}, Near (Nbr g p) a m y → Near (Nbr g p) a n y
  | 0, y, h1 => Near.mono (Nat.zero_le n) (show Near (Nbr g p) a 0 y from h1)
  | _ + 1, _, h1 => by
    rcases h1 with h1 | ⟨x, h1, h2⟩
    · exact Still.all h h1
    · exact h _ (.inr ⟨x, Still.all h h1, h2⟩)
open Classical in
theorem still_or (he : perr g p = 0) (ha : a ∈ p.v) : ∀ n, (∃ j, j ≤ n ∧ Still g p a j) ∨ n + 1 ≤ p.v.countP (fun y => decide (Near (Nbr g p) a n y))
  | 0 => .inr (by
    have : 0 < p.v.countP (fun y => decide (Near (Nbr g p) a 0 y)) := List.countP_pos_iff.2 ⟨a, ha, decide_eq_true rfl⟩
    omega)
  | n + 1 => by
    rcases still_or he ha n with ⟨j, hj, h⟩ | h
    · exact .inl ⟨j, by omega, h⟩
    · by_cases hs : Still g p a n
      · exact .inl ⟨n, by omega, hs⟩
      · refine .inr ?_
        have : ∃ y, Near (Nbr g p) a (n + 1) y ∧ ¬ Near (Nbr g p) a n y := by
          refine Classical.byContradiction fun hc => hs fun y hy => ?_
          exact Classical.byContradiction fun h2 => hc ⟨y, hy, h2⟩
        obtain ⟨y, h1, h2⟩ := this
        have := countP_less (l := p.v) (q := fun y => decide (Near (Nbr g p) a n y)) (r := fun y => decide (Near (Nbr g p) a (n + 1) y))
          (fun x _ hx => decide_eq_true ((of_decide_eq_true hx).succ)) ⟨y, nbr_near he ha h1, decide_eq_false h2, decide_eq_true h1⟩
        omega
theorem near_len (he : perr g p = 0) (ha : a ∈ p.v) (h : Near (Nbr g p) a n y) : Near (Nbr g p) a p.v.length y := by
  rcases still_or he ha p.v.length with ⟨j, hj, hs⟩ | hc
  · exact (hs.all h).mono hj
  · have := List.countP_le_length (p := fun y => @decide (Near (Nbr g p) a p.v.length y) (Classical.propDecidable _)) (l := p.v)
    omega
theorem Dist.le_len (he : perr g p = 0) (ha : a ∈ p.v) (h : Dist (Nbr g p) a b n) : n ≤ p.v.length := h.le (near_len he ha h.1)

/-- One half of an edge's step: y is met from x. -/
def half (ring next : List Int) (x y : Int) : List Int := if x ∈ ring ∧ y ∉ next then next ++ [y] else next
def ringS (g : Gph) (ring next : List Int) (e : Int) : List Int :=
  half ring (half ring next (getE g.e e.toNat).a (getE g.e e.toNat).b) (getE g.e e.toNat).b (getE g.e e.toNat).a
def ringF (g : Gph) (ring : List Int) (es : List Int) : List Int := es.foldl (ringS g ring) ring
/-- The document's n-th ring. -/
def ringL (g : Gph) (p : Prt) (a : Int) : Nat → List Int
  | 0 => [a]
  | n + 1 => ringF g (ringL g p a n) p.e

theorem mem_half (ring next : List Int) (x y z : Int) : z ∈ half ring next x y ↔ z ∈ next ∨ (x ∈ ring ∧ z = y) := by
  unfold half
  split
  · rename_i h
    simp [h.1]
  · rename_i h
    constructor
    · exact .inl
    · rintro (h1 | ⟨h1, rfl⟩)
      · exact h1
      · exact Classical.byContradiction fun h2 => h ⟨h1, h2⟩
theorem mem_ringS (ring next : List Int) (e z : Int) : z ∈ ringS g ring next e ↔ z ∈ next ∨ ∃ x ∈ ring, Joins g e x z := by
  unfold ringS
  rw [mem_half, mem_half]
  constructor
  · rintro ((h | ⟨h, rfl⟩) | ⟨h, rfl⟩)
    · exact .inl h
    · exact .inr ⟨_, h, .inl ⟨rfl, rfl⟩⟩
    · exact .inr ⟨_, h, .inr ⟨rfl, rfl⟩⟩
  · rintro (h | ⟨x, h, ⟨rfl, h2⟩ | ⟨rfl, h2⟩⟩)
    · exact .inl (.inl h)
    · exact .inl (.inr ⟨h, h2.symm⟩)
    · exact .inr ⟨h, h2.symm⟩
theorem mem_fold (ring : List Int) (z : Int) : ∀ (es next : List Int), z ∈ es.foldl (ringS g ring) next ↔ z ∈ next ∨ ∃ e ∈ es, ∃ x ∈ ring, Joins g e x z
  | [], next => by simp
  | e :: es, next => by
    rw [List.foldl_cons, mem_fold ring z es, mem_ringS]
    constructor
    · rintro ((h | ⟨x, h, h2⟩) | ⟨e', h, h2⟩)
      · exact .inl h
      · exact .inr ⟨e, List.mem_cons_self .., x, h, h2⟩
      · exact .inr ⟨e', List.mem_cons_of_mem _ h, h2⟩
    · rintro (h | ⟨e', h, h2⟩)
      · exact .inl (.inl h)
      · rcases List.mem_cons.1 h with rfl | h
        · exact .inl (.inr h2)
        · exact .inr ⟨e', h, h2⟩
theorem mem_ring : ∀ {n : Nat} {y : Int}, y ∈ ringL g p a n ↔ Near (Nbr g p) a n y
  | 0, y => by
    show y ∈ [a] ↔ y = a
    simp
  | n + 1, y => by
    show y ∈ ringF g (ringL g p a n) p.e ↔ _
    unfold ringF
    rw [mem_fold, mem_ring]
    constructor
    · rintro (h | ⟨e, he, x, hx, hj⟩)
      · exact .inl h
      · exact .inr ⟨x, mem_ring.1 hx, e, he, hj⟩
    · rintro (h | ⟨x, hx, e, he, hj⟩)
      · exact .inl h
      · exact .inr ⟨e, he, x, mem_ring.2 hx, hj⟩

theorem half_len (ring next : List Int) (x y : Int) : (half ring next x y).length ≤ next.length + 1 := by
  unfold half
  split
  · simp
  · omega
theorem fold_len (ring : List Int) : ∀ (es next : List Int), (es.foldl (ringS g ring) next).length ≤ next.length + 2 * es.length
  | [], next => by simp
  | e :: es, next => by
    rw [List.foldl_cons]
    have := fold_len ring es (ringS g ring next e)
    have h1 := half_len ring next (getE g.e e.toNat).a (getE g.e e.toNat).b
    have h2 := half_len ring (half ring next (getE g.e e.toNat).a (getE g.e e.toNat).b) (getE g.e e.toNat).b (getE g.e e.toNat).a
    unfold ringS at this ⊢
    rw [List.length_cons]
    omega
theorem ring_len (hp : p.e.length ≤ 1000) : ∀ n, (ringL g p a n).length ≤ 1 + 2000 * n
  | 0 => by show [a].length ≤ _; simp
  | n + 1 => by
    have h1 := ring_len hp n
    have h2 := fold_len (g := g) (ringL g p a n) p.e (ringL g p a n)
    show (ringF g (ringL g p a n) p.e).length ≤ _
    unfold ringF
    omega

/-- What the document's Far answers. -/
def farFrom (g : Gph) (p : Prt) (a b : Int) : Nat → Nat → Int
  | 0, _ => -1
  | f + 1, n => if b ∈ ringL g p a n then n else farFrom g p a b f (n + 1)
def farI (g : Gph) (p : Prt) (a b : Int) : Int := if a ∈ p.v ∧ b ∈ p.v then farFrom g p a b (p.v.length + 1) 0 else -1

theorem farFrom_dist (h : Dist (Nbr g p) a b k) : ∀ {f n : Nat}, n ≤ k → k < n + f → farFrom g p a b f n = k
  | 0, n, h1, h2 => by omega
  | f + 1, n, h1, h2 => by
    unfold farFrom
    by_cases hb : b ∈ ringL g p a n
    · rw [if_pos hb, Nat.le_antisymm h1 (h.le (mem_ring.1 hb))]
    · rw [if_neg hb]
      refine farFrom_dist h ?_ (by omega)
      rcases Nat.lt_or_ge n k with hl | hl
      · exact hl
      · exact absurd (mem_ring.2 (h.1.mono hl)) hb
theorem farFrom_none (h : ∀ n, ¬ Near (Nbr g p) a n b) : ∀ f n, farFrom g p a b f n = -1
  | 0, _ => rfl
  | f + 1, n => by
    unfold farFrom
    rw [if_neg (fun hb => h n (mem_ring.1 hb))]
    exact farFrom_none h f (n + 1)
theorem far_dist (he : perr g p = 0) (ha : a ∈ p.v) (h : Dist (Nbr g p) a b k) : farI g p a b = k := by
  unfold farI
  rw [if_pos ⟨ha, nbr_near he ha h.1⟩]
  exact farFrom_dist h (Nat.zero_le _) (by have := h.le_len he ha; omega)
theorem far_none (h : ∀ n, ¬ Near (Nbr g p) a n b) : farI g p a b = -1 := by
  unfold farI
  split
  · exact farFrom_none h _ _
  · rfl
theorem far_out (h : a ∉ p.v) : farI g p a b = -1 := if_neg fun h1 => h h1.1
theorem far_out' (h : b ∉ p.v) : farI g p a b = -1 := if_neg fun h1 => h h1.2
theorem far_cases (he : perr g p = 0) (ha : a ∈ p.v) (b : Int) : (∃ k, Dist (Nbr g p) a b k ∧ farI g p a b = k) ∨ ((∀ n, ¬ Near (Nbr g p) a n b) ∧ farI g p a b = -1) := by
  by_cases h : ∃ n, Near (Nbr g p) a n b
  · obtain ⟨n, h⟩ := h
    obtain ⟨k, _, h⟩ := Dist.some h
    exact .inl ⟨k, h, far_dist he ha h⟩
  · have h : ∀ n, ¬ Near (Nbr g p) a n b := fun n h1 => h ⟨n, h1⟩
    exact .inr ⟨h, far_none h⟩
theorem far_eq (he : perr g p = 0) (ha : a ∈ p.v) (n : Nat) : farI g p a b = n ↔ Dist (Nbr g p) a b n := by
  constructor
  · intro h
    rcases far_cases he ha b with ⟨k, h1, h2⟩ | ⟨_, h2⟩
    · have : k = n := by omega
      exact this ▸ h1
    · omega
  · exact far_dist he ha
end Go.Proofs.Ytjnohnbppkhbaaa
