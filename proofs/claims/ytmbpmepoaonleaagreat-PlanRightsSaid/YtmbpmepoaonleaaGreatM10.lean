/-
  FcU, FcM, FcN, FcO, in one text.
-/
import Derived.Test.YtmbpmepoaonleaaGreatM09
import Derived.WalkSmall
import Derived.Test.YtmbpmepoaonleaaGreatM08
/-! Slices of structs of two cells, each a number or a list of numbers (a walk: its key and its darts; a part: its vertices and its edges): made by appends, and what they read as. -/
namespace Go.Proofs.YtmbpmepoaonleaaGreat.Fc
open Go.Proofs.YtmbpmepoaonleaaGreat Go.RowKit

/-- A number, or a list of numbers. -/
abbrev Comp := Int ⊕ List Int
def Comp.ok (w : World) (base : Nat) (v : Value) : Comp → Prop
  | .inl k => v = .int .i64 k
  | .inr l => w.ownsRow base 3 1 v l.length (l.map (Value.int .i64))
def Comp.reads (w : World) (v : Value) : Comp → Prop
  | .inl k => v = .int .i64 k
  | .inr l => Ints w v l

variable {w w1 : World} {base : Nat} {v : Value} {c : Comp} {t : TypeId}

theorem Comp.ok.same (h : c.ok w base v) (hs : ∀ g, base ≤ g → g < w.heap.size → w1.heap[g]? = w.heap[g]?) : c.ok w1 base v := by
  cases c with
  | inl k => exact h
  | inr l => exact own_block h (fun g hg => hs g (World.ownsRow.lt h g hg).1 (World.ownsRow.lt h g hg).2)
theorem Comp.ok.below (h : c.ok w base v) (hb : Below w.heap.size w w1) : c.ok w1 base v := h.same (fun g _ hg => hb.block g hg)
theorem Comp.ok.kept {u : Value} {n : Nat} {xs : List Value} (h : c.ok w base v) (hg : w.grownBy w1 u.ownBlock) (ho : w.ownsRow base t 2 u n xs) (ht : 3 ≠ t) : c.ok w1 base v := by
  cases c with
  | inl k => exact h
  | inr l =>
    have h' : w.ownsRow base 3 1 v l.length (l.map (Value.int .i64)) := h
    exact h'.kept hg (Rt.own_two h' ho ht)
theorem Comp.ok.reads (h : c.ok w base v) : c.reads w v := by
  cases c with
  | inl k => exact h
  | inr l => exact Ints.of_own h
theorem Comp.reads.below (h : c.reads w v) (hb : Below w.heap.size w w1) : c.reads w1 v := by
  cases c with
  | inl k => exact h
  | inr l => exact Ints.below h hb
theorem Comp.ok.one (h : c.ok w base v) : v.oneCell' = true := by
  cases c with
  | inl k => rw [show v = .int .i64 k from h]; rfl
  | inr l =>
    have h' : w.ownsRow base 3 1 v l.length (l.map (Value.int .i64)) := h
    rcases h'.2 with ⟨rfl, _⟩ | ⟨g, cap, cur, rfl, _⟩ <;> rfl

def cells2 (us : List (Value × Value)) : List Value := us.flatMap fun u => [u.1, u.2]
theorem cells2_len : ∀ us : List (Value × Value), (cells2 us).length = us.length * 2
  | [] => rfl
  | u :: us => by
    have := cells2_len us
    simp only [cells2, List.flatMap_cons, List.length_append, List.length_cons, List.length_nil] at this ⊢
    omega
theorem cells2_app (us : List (Value × Value)) (u : Value × Value) : cells2 (us ++ [u]) = cells2 us ++ [u.1, u.2] := by simp [cells2]
theorem cells2_get : ∀ (us : List (Value × Value)) (j : Nat) (h : j < us.length), (cells2 us)[j * 2]? = some (us[j]).1 ∧ (cells2 us)[j * 2 + 1]? = some (us[j]).2
  | [], j, h => absurd h (Nat.not_lt_zero _)
  | u :: us, 0, _ => ⟨rfl, rfl⟩
  | u :: us, j + 1, h => by
    have := cells2_get us j (by simpa using h)
    have e1 : (j + 1) * 2 = j * 2 + 1 + 1 := by omega
    rw [e1]
    exact this

/-- v is a slice of the call's own of structs whose cells are us, which stand for xs. -/
structure Twos (t : TypeId) (w : World) (base : Nat) (v : Value) (us : List (Value × Value)) (xs : List (Comp × Comp)) : Prop where
  own : w.ownsRow base t 2 v us.length (cells2 us)
  len : us.length = xs.length
  each : ∀ p ∈ us.zip xs, p.2.1.ok w base p.1.1 ∧ p.2.2.ok w base p.1.2

variable {us : List (Value × Value)} {xs : List (Comp × Comp)}

theorem Twos.start (t : TypeId) (w : World) (base : Nat) : Twos t w base (.slice none 0 0) [] [] :=
  ⟨World.ownsRow_nil _ _ _ _, rfl, fun _ h => absurd h List.not_mem_nil⟩
theorem Twos.same (h : Twos t w base v us xs) (hs : ∀ g, base ≤ g → g < w.heap.size → w1.heap[g]? = w.heap[g]?) : Twos t w1 base v us xs :=
  ⟨own_block h.own (fun g hg => hs g (h.own.lt g hg).1 (h.own.lt g hg).2), h.len, fun p hp => ⟨(h.each p hp).1.same hs, (h.each p hp).2.same hs⟩⟩
theorem Twos.below (h : Twos t w base v us xs) (hb : Below w.heap.size w w1) : Twos t w1 base v us xs := h.same (fun g _ hg => hb.block g hg)
theorem Twos.push (h : Twos t w base v us xs) (ht : 3 ≠ t) {v' : Value} {u : Value × Value} {x : Comp × Comp} (h1 : x.1.ok w base u.1) (h2 : x.2.ok w base u.2) (hg : w.grownBy w1 v.ownBlock) (ho : w1.ownsRow base t 2 v' (us.length + 1) (cells2 us ++ [u.1, u.2])) :
    Twos t w1 base v' (us ++ [u]) (xs ++ [x]) := by
  refine ⟨by rw [List.length_append, cells2_app]; exact ho, by simp [h.len], fun p hp => ?_⟩
  rw [List.zip_append h.len] at hp
  rcases List.mem_append.1 hp with hp | hp
  · exact ⟨(h.each p hp).1.kept hg h.own ht, (h.each p hp).2.kept hg h.own ht⟩
  · rw [show [u].zip [x] = [(u, x)] from rfl, List.mem_singleton] at hp
    subst hp
    exact ⟨h1.kept hg h.own ht, h2.kept hg h.own ht⟩

theorem Twos.shape (h : Twos t w base v us xs) : ∃ A c, v = .slice A xs.length c := by
  rcases h.own.2 with ⟨rfl, h0⟩ | ⟨g, cap, cur, rfl, _⟩
  · have hl := h.len
    exact ⟨none, 0, by rw [show xs.length = 0 by omega]⟩
  · exact ⟨_, _, by rw [h.len]⟩
theorem own_le {base' : Nat} {e : TypeId} {size n : Nat} {ys : List Value} (h : w.ownsRow base e size v n ys) (hb : base' ≤ base) : w.ownsRow base' e size v n ys := by
  refine ⟨h.1, ?_⟩
  rcases h.2 with hn | ⟨g, cap, cur, rfl, hbg, rest⟩
  · exact .inl hn
  · exact .inr ⟨g, cap, cur, rfl, Nat.le_trans hb hbg, rest⟩
theorem Comp.ok.le {base' : Nat} (h : c.ok w base v) (hb : base' ≤ base) : c.ok w base' v := by
  cases c with
  | inl k => exact h
  | inr l => exact own_le h hb
theorem Twos.le {base' : Nat} (h : Twos t w base v us xs) (hb : base' ≤ base) : Twos t w base' v us xs := ⟨own_le h.own hb, h.len, fun p hp => ⟨(h.each p hp).1.le hb, (h.each p hp).2.le hb⟩⟩

/-- The slice value v reads as xs. -/
def TwoL (w : World) (v : Value) (xs : List (Comp × Comp)) : Prop :=
  ∃ A cap, v = .slice A xs.length cap ∧ xs.length ≤ cap ∧ cap ≤ maxLen ∧
    (0 < xs.length → ∃ b, A = some ⟨b, 0, none⟩ ∧ b < w.heap.size ∧ ∀ j (h : j < xs.length), ∃ u1 u2, w.cell? ⟨b, j * 2, none⟩ = some u1 ∧ w.cell? ⟨b, j * 2 + 1, none⟩ = some u2 ∧ (xs[j]).1.reads w u1 ∧ (xs[j]).2.reads w u2)
theorem TwoL.below (h : TwoL w v xs) (hb : Below w.heap.size w w1) : TwoL w1 v xs := by
  obtain ⟨A, cap, rfl, hc, hm, hr⟩ := h
  refine ⟨A, cap, rfl, hc, hm, fun h0 => ?_⟩
  obtain ⟨b, hA, hlt, hg⟩ := hr h0
  refine ⟨b, hA, Nat.lt_of_lt_of_le hlt hb.size, fun j hj => ?_⟩
  obtain ⟨u1, u2, h1, h2, h3, h4⟩ := hg j hj
  exact ⟨u1, u2, (hb.cell (p := ⟨b, j * 2, none⟩) hlt).trans h1, (hb.cell (p := ⟨b, j * 2 + 1, none⟩) hlt).trans h2, h3.below hb, h4.below hb⟩
theorem Twos.reads (h : Twos t w base v us xs) : TwoL w v xs := by
  have hl := h.len
  rcases h.own.2 with ⟨rfl, h0⟩ | ⟨g, cap, cur, rfl, hb, hg, r1, r2, r3, r4⟩
  · obtain rfl := List.eq_nil_of_length_eq_zero (show xs.length = 0 by omega)
    exact ⟨none, 0, rfl, Nat.le_refl _, by unfold maxLen; omega, fun h => absurd h (Nat.lt_irrefl _)⟩
  · have hlt : g < w.heap.size := by
      rcases Nat.lt_or_ge g w.heap.size with h | h
      · exact h
      · rw [Array.getElem?_eq_none h] at hg; cases hg
    rw [hl]
    refine ⟨_, cap, rfl, by omega, r2, fun _ => ⟨g, rfl, hlt, fun j hj => ?_⟩⟩
    have hju : j < us.length := by omega
    obtain ⟨c1, c2⟩ := cells2_get us j hju
    have hlen := cells2_len us
    have get : ∀ i u, (cells2 us)[i]? = some u → w.cell? ⟨g, i, none⟩ = some u := fun i u hu => by
      have hi : i < (cells2 us).length := (List.getElem?_eq_some_iff.1 hu).1
      rw [cell_of_row w g i cur t (0, 0) hg]
      have hc := congrArg (fun l => l[i]?) r4
      simp only [List.getElem?_take, Array.getElem?_toList] at hc
      rw [if_pos (by omega)] at hc
      rw [hc, hu]
    have hz : (us[j], xs[j]) ∈ us.zip xs := by
      refine List.mem_iff_getElem.2 ⟨j, by rw [List.length_zip]; omega, ?_⟩
      rw [List.getElem_zip]
    have he := h.each _ hz
    exact ⟨_, _, get _ _ c1, get _ _ c2, he.1.reads, he.2.reads⟩

/-- append(s, x): one more. -/
theorem wpList_append_two {wr : World} {ops : Array Oper} {rest : List Oper} {o : Oper} {a : Act} {Q : Exit → Act → World → Prop} (hgd : o.guard = none) (s x : Operand) (t t' : TypeId)
    (ho : o.op = .call { callee := .builtin .append, args := #[s, x], argTypes := #[t', t'] }) {i0 : TypeInfo} {z : Value} {by_ : Nat} (hu : Tryz.prog.underlying t' = some (.slice t)) (hi : Tryz.prog.info? t = some i0) (hz0 : i0.zero = some z) (hz1 : i0.size = 2) (hz2 : i0.bytes = by_) (hzs : z.cells.size = 2) (hby : by_ ≤ 100) (ht : 3 ≠ t)
    {base : Nat} {v u1 u2 : Value} {us : List (Value × Value)} {xs : List (Comp × Comp)} {y : Comp × Comp} (hs : a.eval s = v) (hx : a.eval x = .slice (some ⟨wr.heap.size, 0, none⟩) 1 1) (hM : Twos t wr base v us xs) (h1 : y.1.ok wr base u1) (h2 : y.2.ok wr base u2)
    (hbase : base ≤ wr.heap.size) (hL : xs.length ≤ 1000000)
    (h : ∀ v' us' w', Twos t w' base v' us' (xs ++ [y]) → Below base wr w' → wpList Tryz.prog ops Q rest (a.put o.dst v') w') : wpList Tryz.prog ops Q (o :: rest) a (wr.alloc (.cells #[u1, u2] t)) := by
  have hl := hM.len
  have hb0 := below_alloc (w := wr) (.cells #[u1, u2] t)
  have hM2 := hM.below hb0
  refine wpList_append_own _ hgd s x t' ho base t i0 z 2 by_ hu hi hz0 hz1 hz2 hzs (by decide) v us.length (cells2 us) hs hM2.own ⟨wr.heap.size, 0, none⟩ 1 1 [u1, u2] hx rfl (cell_two_new _ _ _ _) (fun u' hu' => ?_) (by unfold maxLen; omega) ?_ (by simp; omega) ?_
  · simp at hu'
    rcases hu' with rfl | rfl
    · exact h1.one
    · exact h2.one
  · have : (us.length + 1) * by_ ≤ (us.length + 1) * 100 := Nat.mul_le_mul_left _ hby
    omega
  · intro v' w1 k1 k2 _
    exact h v' _ w1 (hM2.push ht (u := (u1, u2)) (h1.below hb0) (h2.below hb0) k2 k1) (((Below.refl base wr).alloc hbase _).grown k2 (by simp; omega) (fun k hk => (World.ownsRow.lt hM.own k hk).1))
end Go.Proofs.YtmbpmepoaonleaaGreat.Fc

/-! How many classes a relation makes of a list's numbers; one pair more; a one-to-one step of which two arcs are exchanged; and with them that vertices less edges and faces come to two a piece at most: plain mathematics. -/
namespace Go.Proofs.YtmbpmepoaonleaaGreat.Fc
open Go.Proofs.YtmbpmepoaonleaaGreat

/-! ### Hanging together -/

def Sym (R : Int → Int → Prop) (x y : Int) : Prop := R x y ∨ R y x
def Conn (R : Int → Int → Prop) : Int → Int → Prop := Reach (Sym R)

variable {R S : Int → Int → Prop} {X Y : List Int} {a b x y z : Int}

theorem Conn.refl (R : Int → Int → Prop) (x : Int) : Conn R x x := Reach.refl _ x
theorem Conn.symm (h : Conn R x y) : Conn R y x := Reach.symm (fun _ _ h => h.symm) h
theorem Conn.trans (h : Conn R x y) (k : Conn R y z) : Conn R x z := Reach.trans h k
theorem Conn.arc (h : R x y) : Conn R x y := (Reach.refl _ x).step (.inl h)
theorem Conn.sub (h : ∀ x y, R x y → Conn S x y) (k : Conn R x y) : Conn S x y :=
  Reach.ins (P := fun y => Conn S x y) (fun u v hu hr => hu.trans (by rcases hr with h1 | h1; exact h u v h1; exact (h v u h1).symm)) (Conn.refl S x) k
theorem Conn.ins {P : Int → Prop} (hR : ∀ u v, R u v → (P u ↔ P v)) (h : Conn R x y) (hx : P x) : P y :=
  Reach.ins (P := P) (fun u v hu hr => by rcases hr with h1 | h1; exact (hR u v h1).1 hu; exact (hR v u h1).2 hu) hx h

def plus (R : Int → Int → Prop) (a b : Int) (x y : Int) : Prop := R x y ∨ (x = a ∧ y = b)
/-- One pair more. -/
theorem Conn.plus (h : Conn (plus R a b) x y) : Conn R x y ∨ (Conn R x a ∧ Conn R b y) ∨ (Conn R x b ∧ Conn R a y) := by
  refine Reach.ins (P := fun y => Conn R x y ∨ (Conn R x a ∧ Conn R b y) ∨ (Conn R x b ∧ Conn R a y)) (fun u v hu hr => ?_) (.inl (Conn.refl R x)) h
  have arc : ∀ u v, R u v → Conn R u v := fun u v h => Conn.arc h
  rcases hr with (h1 | ⟨rfl, rfl⟩) | (h1 | ⟨rfl, rfl⟩)
  · rcases hu with h2 | ⟨h2, h3⟩ | ⟨h2, h3⟩
    · exact .inl (h2.trans (arc _ _ h1))
    · exact .inr (.inl ⟨h2, h3.trans (arc _ _ h1)⟩)
    · exact .inr (.inr ⟨h2, h3.trans (arc _ _ h1)⟩)
  · rcases hu with h2 | ⟨h2, h3⟩ | ⟨h2, h3⟩
    · exact .inr (.inl ⟨h2, Conn.refl R v⟩)
    · exact .inr (.inl ⟨h2, Conn.refl R v⟩)
    · exact .inl h2
  · rcases hu with h2 | ⟨h2, h3⟩ | ⟨h2, h3⟩
    · exact .inl (h2.trans (arc _ _ h1).symm)
    · exact .inr (.inl ⟨h2, h3.trans (arc _ _ h1).symm⟩)
    · exact .inr (.inr ⟨h2, h3.trans (arc _ _ h1).symm⟩)
  · rcases hu with h2 | ⟨h2, h3⟩ | ⟨h2, h3⟩
    · exact .inr (.inr ⟨h2, Conn.refl R v⟩)
    · exact .inl h2
    · exact .inr (.inr ⟨h2, Conn.refl R v⟩)

/-! ### Counting -/

open Classical in
theorem count_one {p : Int → Prop} : ∀ {X : List Int}, X.Nodup → (∀ x ∈ X, ∀ y ∈ X, p x → p y → x = y) → X.countP (fun x => decide (p x)) ≤ 1
  | [], _, _ => by simp
  | a :: X, hn, h => by
    have hn' := List.nodup_cons.1 hn
    have ih := count_one (p := p) hn'.2 (fun x hx y hy => h x (List.mem_cons_of_mem _ hx) y (List.mem_cons_of_mem _ hy))
    rw [List.countP_cons]
    by_cases ha : p a
    · have h0 : X.countP (fun x => decide (p x)) = 0 := by
        rw [List.countP_eq_zero]
        intro x hx
        simp only [decide_eq_true_eq]
        intro hp
        have := h x (List.mem_cons_of_mem _ hx) a (List.mem_cons_self ..) hp ha
        subst this
        exact hn'.1 hx
      rw [h0]
      split <;> omega
    · simp only [decide_eq_true_eq, ha, if_false]
      omega
open Classical in
theorem count_split {p q r : Int → Prop} (h : ∀ x, p x → ¬ q x → r x) : ∀ X : List Int, X.countP (fun x => decide (p x)) ≤ X.countP (fun x => decide (q x)) + X.countP (fun x => decide (r x))
  | [] => by simp
  | a :: X => by
    have ih := count_split h X
    rw [List.countP_cons, List.countP_cons, List.countP_cons]
    by_cases hp : p a
    · by_cases hq : q a
      · rw [if_pos (decide_eq_true hp), if_pos (decide_eq_true hq)]
        omega
      · rw [if_pos (decide_eq_true hp), if_pos (decide_eq_true (h a hp hq))]
        omega
    · rw [if_neg (by simp [hp])]
      omega
open Classical in
theorem count_more {p q : Int → Prop} (h : ∀ x, q x → p x) {m : Int} (hp : p m) (hq : ¬ q m) : ∀ {X : List Int}, m ∈ X → X.countP (fun x => decide (q x)) + 1 ≤ X.countP (fun x => decide (p x))
  | [], hm => absurd hm List.not_mem_nil
  | a :: X, hm => by
    rw [List.countP_cons, List.countP_cons]
    have mono : X.countP (fun x => decide (q x)) ≤ X.countP (fun x => decide (p x)) := List.countP_mono_left (fun x _ hx => decide_eq_true (h x (of_decide_eq_true hx)))
    rcases List.mem_cons.1 hm with e | hm
    · subst e
      simp [hp, hq]
      exact mono
    · have ih := count_more h hp hq hm
      by_cases hqa : q a
      · simp [hqa, h a hqa]; omega
      · simp [hqa]; split <;> omega

theorem least_of {P : Int → Prop} : ∀ {X : List Int} {x : Int}, x ∈ X → P x → ∃ y ∈ X, P y ∧ ∀ z ∈ X, P z → y ≤ z
  | [], x, h, _ => absurd h List.not_mem_nil
  | a :: X, x, h, hp => by
    by_cases hX : ∃ z ∈ X, P z
    · obtain ⟨z, hz, hpz⟩ := hX
      obtain ⟨y, hy, hpy, hl⟩ := least_of hz hpz
      by_cases ha : P a ∧ a ≤ y
      · refine ⟨a, List.mem_cons_self .., ha.1, fun w hw hpw => ?_⟩
        rcases List.mem_cons.1 hw with rfl | hw
        · exact Int.le_refl _
        · have := hl w hw hpw; omega
      · refine ⟨y, List.mem_cons_of_mem _ hy, hpy, fun w hw hpw => ?_⟩
        rcases List.mem_cons.1 hw with rfl | hw
        · have : ¬ w ≤ y := fun e => ha ⟨hpw, e⟩
          omega
        · exact hl w hw hpw
    · have hxa : x = a := by
        rcases List.mem_cons.1 h with e | h
        · exact e
        · exact absurd ⟨x, h, hp⟩ hX
      subst hxa
      refine ⟨x, List.mem_cons_self .., hp, fun w hw hpw => ?_⟩
      rcases List.mem_cons.1 hw with rfl | hw
      · exact Int.le_refl _
      · exact absurd ⟨w, hw, hpw⟩ hX

/-- The least of its class. -/
def Lst (X : List Int) (R : Int → Int → Prop) (x : Int) : Prop := ∀ y ∈ X, Conn R x y → x ≤ y
open Classical in
/-- How many classes. -/
noncomputable def cls (X : List Int) (R : Int → Int → Prop) : Nat := X.countP fun x => decide (Lst X R x)

theorem lst_of (R : Int → Int → Prop) (h : x ∈ X) : ∃ y ∈ X, Conn R x y ∧ Lst X R y := by
  obtain ⟨y, hy, hc, hl⟩ := least_of (P := fun y => Conn R x y) h (Conn.refl R x)
  exact ⟨y, hy, hc, fun z hz hcz => hl z hz (hc.trans hcz)⟩
theorem Lst.one (hx : x ∈ X) (hy : y ∈ X) (h : Lst X R x) (k : Lst X R y) (hc : Conn R x y) : x = y := by
  have := h y hy hc
  have := k x hx hc.symm
  omega

open Classical in
theorem cls_mono (h : ∀ x y, Conn R x y → Conn S x y) : cls X S ≤ cls X R :=
  List.countP_mono_left (fun x _ hx => decide_eq_true (fun y hy hc => (of_decide_eq_true hx : Lst X S x) y hy (h x y hc)))

/-- One pair more makes one class less at most. -/
theorem cls_plus (hn : X.Nodup) (h : ∀ x y, Conn S x y → Conn R x y ∨ (Conn R x a ∧ Conn R b y) ∨ (Conn R x b ∧ Conn R a y)) : cls X R ≤ cls X S + 1 := by
  have h1 := count_split (p := Lst X R) (q := Lst X S) (r := fun x => Lst X R x ∧ ¬ Lst X S x) (fun _ h k => ⟨h, k⟩) X
  have h2 := count_one (p := fun x => Lst X R x ∧ ¬ Lst X S x) hn (fun x hx y hy ⟨p1, q1⟩ ⟨p2, q2⟩ => by
    have key : ∀ x ∈ X, Lst X R x → ¬ Lst X S x → (Conn R x a ∧ ∃ z ∈ X, Conn R b z ∧ z < x) ∨ (Conn R x b ∧ ∃ z ∈ X, Conn R a z ∧ z < x) := by
      intro x _ p q
      refine Classical.byContradiction fun hno => q (fun z hz hc => ?_)
      rcases h x z hc with h3 | ⟨h3, h4⟩ | ⟨h3, h4⟩
      · exact p z hz h3
      · refine Classical.byContradiction fun hlt => hno (.inl ⟨h3, z, hz, h4, by omega⟩)
      · refine Classical.byContradiction fun hlt => hno (.inr ⟨h3, z, hz, h4, by omega⟩)
    rcases key x hx p1 q1 with ⟨c1, z1, hz1, d1, e1⟩ | ⟨c1, z1, hz1, d1, e1⟩ <;> rcases key y hy p2 q2 with ⟨c2, z2, hz2, d2, e2⟩ | ⟨c2, z2, hz2, d2, e2⟩
    · exact Lst.one hx hy p1 p2 (c1.trans c2.symm)
    · have := p1 z2 hz2 (c1.trans d2)
      have := p2 z1 hz1 (c2.trans d1)
      omega
    · have := p1 z2 hz2 (c1.trans d2)
      have := p2 z1 hz1 (c2.trans d1)
      omega
    · exact Lst.one hx hy p1 p2 (c1.trans c2.symm))
  unfold cls
  omega

/-- Where two that did not hang together do so, there is a class less. -/
theorem cls_join (ha : a ∈ X) (hb : b ∈ X) (h : ∀ x y, Conn R x y → Conn S x y) (hS : Conn S a b) (hR : ¬ Conn R a b) : cls X S + 1 ≤ cls X R := by
  obtain ⟨la, hla, ca, pa⟩ := lst_of R ha
  obtain ⟨lb, hlb, cb, pb⟩ := lst_of R hb
  have hne : la ≠ lb := fun e => hR (ca.trans (by rw [e]; exact cb.symm))
  have hc : Conn S la lb := ((h _ _ ca).symm.trans hS).trans (h _ _ cb)
  have hsub : ∀ x, Lst X S x → Lst X R x := fun x hx y hy hc => hx y hy (h x y hc)
  rcases (show la < lb ∨ lb < la by omega) with hl | hl
  · exact count_more hsub pb (fun hq => by have := hq la hla hc.symm; omega) hlb
  · exact count_more hsub pa (fun hq => by have := hq lb hlb hc; omega) hla

/-! ### A one-to-one step -/

structure Perm (X : List Int) (f : Int → Int) : Prop where
  nodup : X.Nodup
  into : ∀ x ∈ X, f x ∈ X
  inj : ∀ x ∈ X, ∀ y ∈ X, f x = f y → x = y

def it (f : Int → Int) : Nat → Int → Int
  | 0, x => x
  | n + 1, x => f (it f n x)
theorem it_add (f : Int → Int) (n : Nat) (x : Int) : ∀ m, it f (n + m) x = it f m (it f n x)
  | 0 => rfl
  | m + 1 => by
    show f (it f (n + m) x) = f (it f m (it f n x))
    rw [it_add f n x m]
theorem Perm.it_mem {f : Int → Int} (h : Perm X f) (hx : x ∈ X) : ∀ n, it f n x ∈ X
  | 0 => hx
  | n + 1 => h.into _ (h.it_mem hx n)
theorem Perm.it_inj {f : Int → Int} (h : Perm X f) (hx : x ∈ X) (hy : y ∈ X) : ∀ n, it f n x = it f n y → x = y
  | 0, e => e
  | n + 1, e => h.it_inj hx hy n (h.inj _ (h.it_mem hx n) _ (h.it_mem hy n) e)
/-- It comes round. -/
theorem Perm.back {f : Int → Int} (h : Perm X f) (hx : x ∈ X) : ∃ n, 0 < n ∧ n ≤ X.length ∧ it f n x = x ∧ ∀ j, 0 < j → j < n → it f j x ≠ x := by
  have hex : ∃ n, n ≤ X.length ∧ 0 < n ∧ it f n x = x := by
    refine Classical.byContradiction fun hno => ?_
    have hnd : ((List.range (X.length + 1)).map fun n => it f n x).Nodup := by
      rw [List.Nodup, List.pairwise_map]
      refine List.Pairwise.imp_of_mem ?_ List.pairwise_lt_range
      intro i j hi hj hij e
      rw [List.mem_range] at hi hj
      have e2 : it f i x = it f i (it f (j - i) x) := by rw [← it_add, show j - i + i = j by omega]; exact e
      exact hno ⟨j - i, by omega, by omega, (h.it_inj hx (h.it_mem hx _) i e2).symm⟩
    have := once_len hnd (m := X) (fun y hy => by obtain ⟨n, _, rfl⟩ := List.mem_map.1 hy; exact h.it_mem hx n)
    rw [List.length_map, List.length_range] at this
    omega
  obtain ⟨n, hn1, hn2, hn3⟩ := hex
  rcases first_of (fun n => 0 < n ∧ it f n x = x) (X.length + 1) with ⟨k, hk, ⟨k1, k2⟩, k3⟩ | hno
  · exact ⟨k, k1, by omega, k2, fun j hj hjk e => k3 j hjk ⟨hj, e⟩⟩
  · exact absurd ⟨hn2, hn3⟩ (hno n (by omega))

/-- The step's arcs, but for those that leave a set. -/
def arcs (X : List Int) (f : Int → Int) (D : Int → Prop) (x y : Int) : Prop := x ∈ X ∧ ¬ D x ∧ y = f x
def rel (X : List Int) (f : Int → Int) : Int → Int → Prop := arcs X f fun _ => False
theorem rel_it {f : Int → Int} (h : Perm X f) (hx : x ∈ X) : ∀ n, Conn (rel X f) x (it f n x)
  | 0 => Conn.refl _ x
  | n + 1 => (rel_it h hx n).trans (Conn.arc ⟨h.it_mem hx n, fun e => e, rfl⟩)
/-- Round it goes without the arc that leaves d. -/
theorem Perm.round {f : Int → Int} (h : Perm X f) {D : Int → Prop} {d : Int} (hd : d ∈ X) (hD : ∀ n, it f n d ≠ d → ¬ D (it f n d)) : Conn (arcs X f D) (f d) d := by
  obtain ⟨n, hn, _, hb, hfirst⟩ := h.back hd
  have key : ∀ m, m + 1 ≤ n → Conn (arcs X f D) (f d) (it f (m + 1) d) := by
    intro m
    induction m with
    | zero => intro _; exact Conn.refl _ _
    | succ m ih =>
      intro hm
      exact (ih (by omega)).trans (Conn.arc ⟨h.it_mem hd _, hD _ (hfirst (m + 1) (by omega) (by omega)), rfl⟩)
  have := key (n - 1) (by omega)
  rw [show n - 1 + 1 = n by omega, hb] at this
  exact this

/-- Two arcs exchanged. -/
def exch (f : Int → Int) (d e : Int) (x : Int) : Int := if x = d then f e else if x = e then f d else f x

theorem exch_sub {f : Int → Int} {d e : Int} (u v : Int) (h : arcs X f (fun x => x = d ∨ x = e) u v) : Conn (rel X (exch f d e)) u v := by
  obtain ⟨h1, h2, rfl⟩ := h
  refine Conn.arc ⟨h1, fun e => e, ?_⟩
  unfold exch
  rw [if_neg (fun e => h2 (.inl e)), if_neg (fun e => h2 (.inr e))]

/-- At most one class more. -/
theorem exch_le {f : Int → Int} (h : Perm X f) {d e : Int} (hd : d ∈ X) : cls X (rel X (exch f d e)) ≤ cls X (rel X f) + 1 := by
  have h1 : cls X (arcs X f fun x => x = d) ≤ cls X (rel X f) := cls_mono (fun x y hc => hc.sub (fun u v huv => by
    obtain ⟨q1, _, rfl⟩ := huv
    by_cases e : u = d
    · subst e
      exact (h.round hd (fun n hn => hn)).symm
    · exact Conn.arc ⟨q1, e, rfl⟩))
  have h2 : cls X (arcs X f fun x => x = d ∨ x = e) ≤ cls X (arcs X f fun x => x = d) + 1 := cls_plus (a := e) (b := f e) h.nodup (fun x y hc => Conn.plus (hc.sub (fun u v huv => by
    obtain ⟨q1, q2, rfl⟩ := huv
    by_cases he : u = e
    · subst he
      exact Conn.arc (.inr ⟨rfl, rfl⟩)
    · exact Conn.arc (.inl ⟨q1, fun hx => hx.elim q2 he, rfl⟩))))
  have h3 : cls X (rel X (exch f d e)) ≤ cls X (arcs X f fun x => x = d ∨ x = e) := cls_mono (fun x y hc => hc.sub exch_sub)
  omega
/-- Apart, they come together. -/
theorem exch_lt {f : Int → Int} (h : Perm X f) {d e : Int} (hd : d ∈ X) (he : e ∈ X) (hn : ¬ Conn (rel X f) d e) : cls X (rel X (exch f d e)) + 1 ≤ cls X (rel X f) := by
  have hsub : ∀ x y, Conn (arcs X f fun x => x = d ∨ x = e) x y → Conn (rel X f) x y := fun x y hc => hc.sub (fun u v huv => Conn.arc ⟨huv.1, fun e => e, huv.2.2⟩)
  have h1 : cls X (arcs X f fun x => x = d ∨ x = e) ≤ cls X (rel X f) := cls_mono (fun x y hc => hc.sub (fun u v huv => by
    obtain ⟨q1, _, rfl⟩ := huv
    by_cases e1 : u = d
    · subst e1
      refine (h.round hd (fun n hne hD => ?_)).symm
      rcases hD with e2 | e2
      · exact hne e2
      · exact hn (by rw [← e2]; exact rel_it h hd n)
    · by_cases e1 : u = e
      · subst e1
        refine (h.round he (fun n hne hD => ?_)).symm
        rcases hD with e2 | e2
        · exact hn (by rw [← e2]; exact (rel_it h he n).symm)
        · exact hne e2
      · exact Conn.arc ⟨q1, fun hx => by rcases hx with hx | hx <;> contradiction, rfl⟩))
  have h2 : cls X (rel X (exch f d e)) + 1 ≤ cls X (arcs X f fun x => x = d ∨ x = e) := cls_join hd (h.into e he) (fun x y hc => hc.sub exch_sub)
    (Conn.arc ⟨hd, fun e => e, by unfold exch; rw [if_pos rfl]⟩) (fun hc => hn ((hsub _ _ hc).trans (Conn.arc ⟨he, fun e => e, rfl⟩).symm))
  omega

end Go.Proofs.YtmbpmepoaonleaaGreat.Fc

/-! Vertices less edges and faces come to two a piece at most: a one-to-one step of darts, the same behind each dart's twin, and the two together (plain mathematics). -/
namespace Go.Proofs.YtmbpmepoaonleaaGreat.Fc
open Go.Proofs.YtmbpmepoaonleaaGreat

variable {R S : Int → Int → Prop} {X Y L : List Int} {a b x y z : Int} {f : Int → Int}

def prs (L : List Int) : List Int := L.flatMap fun e => [2 * e, 2 * e + 1]
theorem prs_cons (e : Int) (L : List Int) : prs (e :: L) = 2 * e :: (2 * e + 1) :: prs L := rfl
theorem mem_prs : ∀ {L : List Int} {x : Int}, x ∈ prs L ↔ x / 2 ∈ L
  | [], x => by simp [prs]
  | e :: L, x => by
    rw [prs_cons, List.mem_cons, List.mem_cons, mem_prs, List.mem_cons]
    constructor
    · rintro (h | h | h)
      · exact .inl (by omega)
      · exact .inl (by omega)
      · exact .inr h
    · rintro (h | h)
      · rcases (show x = 2 * e ∨ x = 2 * e + 1 by omega) with h | h
        · exact .inl h
        · exact .inr (.inl h)
      · exact .inr (.inr h)
theorem prs_nodup : ∀ {L : List Int}, L.Nodup → (prs L).Nodup
  | [], _ => List.Pairwise.nil
  | e :: L, h => by
    have h1 := List.nodup_cons.1 h
    rw [prs_cons, List.nodup_cons, List.nodup_cons, List.mem_cons, mem_prs, mem_prs, show 2 * e / 2 = e by omega, show (2 * e + 1) / 2 = e by omega]
    exact ⟨fun hx => by rcases hx with hx | hx; omega; exact h1.1 hx, h1.1, prs_nodup h1.2⟩
theorem prs_len : ∀ L : List Int, (prs L).length = 2 * L.length
  | [] => rfl
  | e :: L => by rw [prs_cons, List.length_cons, List.length_cons, prs_len L, List.length_cons]; omega

theorem Perm.exch (h : Perm X f) {d e : Int} (hd : d ∈ X) (he : e ∈ X) (hde : d ≠ e) : Perm X (exch f d e) where
  nodup := h.nodup
  into := fun x hx => by
    unfold Fc.exch
    split
    · exact h.into e he
    · split
      · exact h.into d hd
      · exact h.into x hx
  inj := fun x hx y hy hxy => by
    unfold Fc.exch at hxy
    by_cases x1 : x = d
    · by_cases y1 : y = d
      · rw [x1, y1]
      · rw [if_pos x1, if_neg y1] at hxy
        by_cases y2 : y = e
        · rw [if_pos y2] at hxy
          exact absurd (h.inj _ he _ hd hxy) (fun q => hde q.symm)
        · rw [if_neg y2] at hxy
          exact absurd (h.inj _ he _ hy hxy) (fun q => y2 q.symm)
    · by_cases x2 : x = e
      · rw [if_neg x1, if_pos x2] at hxy
        by_cases y1 : y = d
        · rw [if_pos y1] at hxy
          exact absurd (h.inj _ hd _ he hxy) hde
        · rw [if_neg y1] at hxy
          by_cases y2 : y = e
          · rw [x2, y2]
          · rw [if_neg y2] at hxy
            exact absurd (h.inj _ hd _ hy hxy) (fun q => y1 q.symm)
      · rw [if_neg x1, if_neg x2] at hxy
        by_cases y1 : y = d
        · rw [if_pos y1] at hxy
          exact absurd (h.inj _ hx _ he hxy) x2
        · rw [if_neg y1] at hxy
          by_cases y2 : y = e
          · rw [if_pos y2] at hxy
            exact absurd (h.inj _ hx _ hd hxy) x1
          · rw [if_neg y2] at hxy
            exact h.inj _ hx _ hy hxy

/-- The step behind the twins of some edges' darts. -/
def swp (f : Int → Int) : List Int → Int → Int
  | [] => f
  | e :: L => exch (swp f L) (2 * e) (2 * e + 1)
theorem swp_eq (f : Int → Int) : ∀ {L : List Int}, L.Nodup → ∀ x, swp f L x = if x / 2 ∈ L then f (Rt.twi x) else f x
  | [], _, x => by rw [if_neg List.not_mem_nil]; rfl
  | e :: L, h, x => by
    have h1 := List.nodup_cons.1 h
    show exch (swp f L) (2 * e) (2 * e + 1) x = _
    unfold exch
    rw [swp_eq f h1.2, swp_eq f h1.2, swp_eq f h1.2]
    by_cases x1 : x = 2 * e
    · subst x1
      rw [if_pos rfl, if_neg (by rw [show (2 * e + 1) / 2 = e by omega]; exact h1.1), if_pos (by rw [show 2 * e / 2 = e by omega]; exact List.mem_cons_self ..)]
      unfold Rt.twi
      rw [if_pos (by omega)]
    · by_cases x2 : x = 2 * e + 1
      · subst x2
        rw [if_neg (by omega), if_pos rfl, if_neg (by rw [show 2 * e / 2 = e by omega]; exact h1.1), if_pos (by rw [show (2 * e + 1) / 2 = e by omega]; exact List.mem_cons_self ..)]
        unfold Rt.twi
        rw [if_neg (by omega), show 2 * e + 1 - 1 = 2 * e by omega]
      · rw [if_neg x1, if_neg x2]
        by_cases hx : x / 2 ∈ L
        · rw [if_pos hx, if_pos (List.mem_cons_of_mem _ hx)]
        · rw [if_neg hx, if_neg (fun q => by rcases List.mem_cons.1 q with q | q; omega; exact hx q)]

/-- By steps, and from a dart to its twin. -/
def both (R : Int → Int → Prop) (L : List Int) (x y : Int) : Prop := R x y ∨ ∃ e ∈ L, x = 2 * e ∧ y = 2 * e + 1
theorem both_sub {e : Int} (x y : Int) (h : both R L x y) : both R (e :: L) x y := by
  rcases h with h | ⟨q, h1, h2⟩
  · exact .inl h
  · exact .inr ⟨q, List.mem_cons_of_mem _ h1, h2⟩

theorem euler_step (hf : Perm X f) : ∀ {L : List Int}, L.Nodup → (∀ e ∈ L, 2 * e ∈ X ∧ 2 * e + 1 ∈ X) →
    Perm X (swp f L) ∧ (∀ x y, Conn (rel X (swp f L)) x y → Conn (both (rel X f) L) x y) ∧
    cls X (rel X (swp f L)) + cls X (rel X f) ≤ 2 * cls X (both (rel X f) L) + L.length
  | [], _, _ => by
    refine ⟨hf, fun x y h => h.sub (fun u v h => Conn.arc (.inl h)), ?_⟩
    have : cls X (rel X f) ≤ cls X (both (rel X f) []) := cls_mono (fun x y h => h.sub (fun u v h => by
      rcases h with h | ⟨_, h, _⟩
      · exact Conn.arc h
      · exact absurd h List.not_mem_nil))
    show cls X (rel X f) + cls X (rel X f) ≤ _
    rw [List.length_nil]
    omega
  | e :: L, hn, hX => by
    have h1 := List.nodup_cons.1 hn
    obtain ⟨i1, i2, i3⟩ := euler_step hf h1.2 (fun e he => hX e (List.mem_cons_of_mem _ he))
    obtain ⟨m1, m2⟩ := hX e (List.mem_cons_self ..)
    have hpair : Conn (both (rel X f) (e :: L)) (2 * e) (2 * e + 1) := Conn.arc (.inr ⟨e, List.mem_cons_self .., rfl, rfl⟩)
    have up : ∀ x y, Conn (both (rel X f) L) x y → Conn (both (rel X f) (e :: L)) x y := fun x y h => h.sub (fun u v h => Conn.arc (both_sub u v h))
    have hg : Perm X (exch (swp f L) (2 * e) (2 * e + 1)) := i1.exch m1 m2 (by omega)
    refine ⟨hg, ?_, ?_⟩
    · intro x y h
      refine h.sub (fun u v h => ?_)
      obtain ⟨q1, _, rfl⟩ := h
      have go : ∀ w, w ∈ X → Conn (both (rel X f) (e :: L)) w (swp f L w) := fun w hw => up _ _ (i2 _ _ (Conn.arc ⟨hw, fun q => q, rfl⟩))
      show Conn _ u (exch (swp f L) (2 * e) (2 * e + 1) u)
      unfold exch
      by_cases u1 : u = 2 * e
      · subst u1
        rw [if_pos rfl]
        exact hpair.trans (go _ m2)
      · rw [if_neg u1]
        by_cases u2 : u = 2 * e + 1
        · subst u2
          rw [if_pos rfl]
          exact hpair.symm.trans (go _ m1)
        · rw [if_neg u2]
          exact go _ q1
    · show cls X (rel X (exch (swp f L) (2 * e) (2 * e + 1))) + _ ≤ _
      rw [List.length_cons]
      by_cases hc : Conn (rel X (swp f L)) (2 * e) (2 * e + 1)
      · have k1 := exch_le i1 m1 (e := 2 * e + 1)
        have k2 : cls X (both (rel X f) L) ≤ cls X (both (rel X f) (e :: L)) := cls_mono (fun x y h => h.sub (fun u v h => by
          rcases h with h | ⟨q, hq, rfl, rfl⟩
          · exact Conn.arc (.inl h)
          · rcases List.mem_cons.1 hq with rfl | hq
            · exact i2 _ _ hc
            · exact Conn.arc (.inr ⟨q, hq, rfl, rfl⟩)))
        omega
      · have k1 := exch_lt i1 m1 m2 hc
        have k2 : cls X (both (rel X f) L) ≤ cls X (both (rel X f) (e :: L)) + 1 := cls_plus (a := 2 * e) (b := 2 * e + 1) hf.nodup (fun x y h => Conn.plus (h.sub (fun u v h => by
          rcases h with h | ⟨q, hq, rfl, rfl⟩
          · exact Conn.arc (.inl (.inl h))
          · rcases List.mem_cons.1 hq with rfl | hq
            · exact Conn.arc (.inr ⟨rfl, rfl⟩)
            · exact Conn.arc (.inl (.inr ⟨q, hq, rfl, rfl⟩)))))
        omega

theorem rel_cong {f g : Int → Int} (h : ∀ x ∈ X, f x = g x) : cls X (rel X f) = cls X (rel X g) := by
  refine Nat.le_antisymm (cls_mono fun x y hc => hc.sub fun u v huv => ?_) (cls_mono fun x y hc => hc.sub fun u v huv => ?_)
  · obtain ⟨q1, q2, rfl⟩ := huv
    exact Conn.arc ⟨q1, q2, (h u q1).symm⟩
  · obtain ⟨q1, q2, rfl⟩ := huv
    exact Conn.arc ⟨q1, q2, h u q1⟩

/-- Vertices and faces come to two a piece and the edges, at most. -/
theorem euler {es : List Int} (hn : es.Nodup) {b : Int → Int} (hb : Perm (prs es) b) :
    cls (prs es) (rel (prs es) fun x => b (Rt.twi x)) + cls (prs es) (rel (prs es) b) ≤ 2 * cls (prs es) (both (rel (prs es) b) es) + es.length := by
  have h := (euler_step hb hn (fun e he => ⟨mem_prs.2 (by rw [show 2 * e / 2 = e by omega]; exact he), mem_prs.2 (by rw [show (2 * e + 1) / 2 = e by omega]; exact he)⟩)).2.2
  have e1 := rel_cong (X := prs es) (f := swp b es) (g := fun x => b (Rt.twi x)) (fun x hx => by rw [swp_eq b hn, if_pos (mem_prs.1 hx)])
  omega

/-- All in one class: one there is at most. -/
theorem cls_one (hn : X.Nodup) (h : ∀ x ∈ X, ∀ y ∈ X, Conn R x y) : cls X R ≤ 1 := by
  unfold cls
  exact count_one hn (fun x hx y hy p q => Lst.one hx hy p q (h x hx y hy))

end Go.Proofs.YtmbpmepoaonleaaGreat.Fc

/-! Rounds of a one-to-one step: how long they are, which begin with their least, and how many these are (plain mathematics). -/
namespace Go.Proofs.YtmbpmepoaonleaaGreat.Fc
open Go.Proofs.YtmbpmepoaonleaaGreat

variable {R S : Int → Int → Prop} {X Y L : List Int} {a b x y z : Int} {f : Int → Int} {N : Nat}

/-- How many steps until it comes round. -/
def per (f : Int → Int) (N : Nat) (x : Int) : Nat := ((List.range N).find? fun n => decide (it f (n + 1) x = x)).getD 0 + 1
theorem per_pos (f : Int → Int) (N : Nat) (x : Int) : 0 < per f N x := Nat.succ_pos _
theorem find_first (q : Nat → Bool) {n : Nat} (hn : n < N) (h : q n = true) (hf : ∀ j, j < n → q j = false) : (List.range N).find? q = some n := by
  rw [List.find?_range_eq_some]
  refine ⟨h, List.mem_range.2 hn, fun j hj => by rw [hf j hj]; rfl⟩
theorem per_of {n : Nat} (h0 : 0 < n) (hn : n ≤ N) (he : it f n x = x) (hf : ∀ j, 0 < j → j < n → it f j x ≠ x) : per f N x = n := by
  unfold per
  rw [find_first _ (n := n - 1) (by omega) (decide_eq_true (by rw [show n - 1 + 1 = n by omega]; exact he)) (fun j hj => decide_eq_false (hf (j + 1) (by omega) (by omega)))]
  show n - 1 + 1 = n
  omega
theorem Perm.per (h : Perm X f) (hx : x ∈ X) (hN : X.length ≤ N) : Fc.per f N x ≤ X.length ∧ it f (Fc.per f N x) x = x ∧ ∀ j, 0 < j → j < Fc.per f N x → it f j x ≠ x := by
  obtain ⟨n, h1, h2, h3, h4⟩ := h.back hx
  rw [per_of h1 (by omega) h3 h4]
  exact ⟨h2, h3, h4⟩

/-- All that come, one behind the other, until it comes round. -/
def orb (f : Int → Int) (N : Nat) (x : Int) : List Int := (List.range (per f N x)).map fun n => it f n x
theorem orb_len (f : Int → Int) (N : Nat) (x : Int) : (orb f N x).length = per f N x := by unfold orb; rw [List.length_map, List.length_range]
theorem orb_get {k : Nat} (h : k < per f N x) : getI (orb f N x) k = it f k x := by
  unfold orb getI
  rw [List.getD_eq_getElem?_getD, List.getElem?_map, List.getElem?_range h]
  rfl
theorem orb_head (f : Int → Int) (N : Nat) (x : Int) : getI (orb f N x) 0 = x := orb_get (per_pos f N x)
theorem mem_orb_it : y ∈ orb f N x ↔ ∃ n, n < per f N x ∧ it f n x = y := by
  unfold orb
  rw [List.mem_map]
  exact ⟨fun ⟨n, h1, h2⟩ => ⟨n, List.mem_range.1 h1, h2⟩, fun ⟨n, h1, h2⟩ => ⟨n, List.mem_range.2 h1, h2⟩⟩
theorem self_orb (f : Int → Int) (N : Nat) (x : Int) : x ∈ orb f N x := mem_orb_it.2 ⟨0, per_pos f N x, rfl⟩
theorem Perm.mem_orb (h : Perm X f) (hx : x ∈ X) (hN : X.length ≤ N) : y ∈ orb f N x ↔ Conn (rel X f) x y := by
  obtain ⟨_, h2, _⟩ := h.per hx hN
  constructor
  · intro hy
    obtain ⟨n, _, rfl⟩ := mem_orb_it.1 hy
    exact rel_it h hx n
  · intro hc
    refine Conn.ins (P := fun y => y ∈ orb f N x) (fun u v huv => ?_) hc (self_orb f N x)
    obtain ⟨hu, _, rfl⟩ := huv
    constructor
    · intro hm
      obtain ⟨n, hn, rfl⟩ := mem_orb_it.1 hm
      by_cases e : n + 1 = Fc.per f N x
      · have : f (it f n x) = x := by rw [← e] at h2; exact h2
        rw [this]
        exact self_orb f N x
      · exact mem_orb_it.2 ⟨n + 1, by omega, rfl⟩
    · intro hm
      obtain ⟨n, hn, e⟩ := mem_orb_it.1 hm
      match n, hn, e with
      | 0, hn, e =>
        have e2 : f (it f (Fc.per f N x - 1) x) = f u := by
          rw [← e]
          have h3 : it f (Fc.per f N x - 1 + 1) x = x := by rw [show Fc.per f N x - 1 + 1 = Fc.per f N x by omega]; exact h2
          exact h3
        exact mem_orb_it.2 ⟨Fc.per f N x - 1, by omega, h.inj _ (h.it_mem hx _) _ hu e2⟩
      | n + 1, hn, e => exact mem_orb_it.2 ⟨n, by omega, h.inj _ (h.it_mem hx _) _ hu e⟩
theorem Perm.orb_in (h : Perm X f) (hx : x ∈ X) (hy : y ∈ orb f N x) : y ∈ X := by
  obtain ⟨n, _, rfl⟩ := mem_orb_it.1 hy
  exact h.it_mem hx n

/-! ### Those that are the least of their round -/

def leastB (f : Int → Int) (N : Nat) (d : Int) : Bool := (orb f N d).all fun x => decide (d ≤ x)
theorem leastB_iff : leastB f N x = true ↔ ∀ y ∈ orb f N x, x ≤ y := by
  unfold leastB
  rw [List.all_eq_true]
  exact ⟨fun h y hy => of_decide_eq_true (h y hy), fun h y hy => decide_eq_true (h y hy)⟩
def faces (X : List Int) (f : Int → Int) : List Int := X.filter fun d => leastB f X.length d
theorem Perm.least (h : Perm X f) (hx : x ∈ X) : leastB f X.length x = true ↔ Lst X (rel X f) x := by
  rw [leastB_iff]
  constructor
  · intro hl y hy hc
    exact hl y ((h.mem_orb hx (Nat.le_refl _)).2 hc)
  · intro hl y hy
    exact hl y (h.orb_in hx hy) ((h.mem_orb hx (Nat.le_refl _)).1 hy)
theorem Perm.mem_faces (h : Perm X f) : x ∈ faces X f ↔ x ∈ X ∧ Lst X (rel X f) x := by
  unfold faces
  rw [List.mem_filter]
  exact ⟨fun ⟨h1, h2⟩ => ⟨h1, (h.least h1).1 h2⟩, fun ⟨h1, h2⟩ => ⟨h1, (h.least h1).2 h2⟩⟩
open Classical in
theorem Perm.faces_len (h : Perm X f) : (faces X f).length = cls X (rel X f) := by
  unfold faces cls
  rw [← List.countP_eq_length_filter]
  refine List.countP_congr fun x hx => ?_
  rw [decide_eq_true_iff]
  exact h.least hx
/-- Each is in the round of one of them. -/
theorem Perm.has_face (h : Perm X f) (hx : x ∈ X) : ∃ d ∈ faces X f, x ∈ orb f X.length d := by
  obtain ⟨d, h1, h2, h3⟩ := lst_of (rel X f) hx
  exact ⟨d, h.mem_faces.2 ⟨h1, h3⟩, (h.mem_orb h1 (Nat.le_refl _)).2 h2.symm⟩
/-- .. and of no other. -/
theorem Perm.one_face (h : Perm X f) (ha : a ∈ faces X f) (hb : b ∈ faces X f) (hxa : x ∈ orb f X.length a) (hxb : x ∈ orb f X.length b) : a = b := by
  obtain ⟨a1, a2⟩ := h.mem_faces.1 ha
  obtain ⟨b1, b2⟩ := h.mem_faces.1 hb
  exact Lst.one a1 b1 a2 b2 (((h.mem_orb a1 (Nat.le_refl _)).1 hxa).trans ((h.mem_orb b1 (Nat.le_refl _)).1 hxb).symm)
/-! ### Some of them, closed under the step -/

theorem Perm.part (h : Perm X f) (hY : Y.Nodup) (hs : ∀ x ∈ Y, x ∈ X) (hc : ∀ x ∈ Y, f x ∈ Y) : Perm Y f := ⟨hY, hc, fun x hx y hy e => h.inj x (hs x hx) y (hs y hy) e⟩
theorem Perm.part_conn (h : Perm X f) (hY : Perm Y f) (hs : ∀ x ∈ Y, x ∈ X) (hx : x ∈ Y) : Conn (rel Y f) x y ↔ Conn (rel X f) x y := by
  constructor
  · exact fun hc => hc.sub fun u v huv => Conn.arc ⟨hs _ huv.1, huv.2⟩
  · intro hc
    obtain ⟨n, _, rfl⟩ := mem_orb_it.1 ((h.mem_orb (hs x hx) (Nat.le_refl _)).2 hc)
    exact rel_it hY hx n
theorem Perm.part_faces (h : Perm X f) (hY : Perm Y f) (P : Int → Bool) (hP : ∀ x, x ∈ Y ↔ x ∈ X ∧ P x = true) : (faces X f).countP P = cls Y (rel Y f) := by
  rw [← hY.faces_len, List.countP_eq_length_filter]
  refine Rt.same_len ((h.nodup.filter _).filter _) (hY.nodup.filter _) (fun x => ?_)
  have hs : ∀ x ∈ Y, x ∈ X := fun x hx => ((hP x).1 hx).1
  show x ∈ faces Y f ↔ x ∈ (faces X f).filter P
  rw [List.mem_filter, hY.mem_faces, h.mem_faces]
  constructor
  · rintro ⟨h1, h2⟩
    refine ⟨⟨hs x h1, fun y hy hc => ?_⟩, ((hP x).1 h1).2⟩
    have hm : y ∈ orb f X.length x := (h.mem_orb (hs x h1) (Nat.le_refl _)).2 hc
    obtain ⟨n, _, rfl⟩ := mem_orb_it.1 hm
    exact h2 _ (hY.it_mem h1 n) (rel_it hY h1 n)
  · rintro ⟨⟨h1, h2⟩, h3⟩
    have hx : x ∈ Y := (hP x).2 ⟨h1, h3⟩
    exact ⟨hx, fun y hy hc => h2 y (hs y hy) ((h.part_conn hY hs hx).1 hc)⟩

/-! ### Turned about -/

theorem Conn.map (φ : Int → Int) (h : ∀ u v, S u v → Conn R (φ u) (φ v)) (hc : Conn S x y) : Conn R (φ x) (φ y) :=
  Reach.ins (P := fun y => Conn R (φ x) (φ y)) (fun u v hu hr => hu.trans (by rcases hr with h1 | h1; exact h u v h1; exact (h v u h1).symm)) (Conn.refl R (φ x)) hc
end Go.Proofs.YtmbpmepoaonleaaGreat.Fc
