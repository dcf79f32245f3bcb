/-
  How far things are by steps of a relation (plain mathematics), and spreading out with a line of those that wait.
-/
import Derived.Test.YtohaopfpjkhheaaRgM
namespace Go.Proofs.Ytohaopfpjkhheaa

/-- At most n steps lead from a to y. -/
def Near (R : Int → Int → Prop) (a : Int) : Nat → Int → Prop
  | 0, y => y = a
  | n + 1, y => Near R a n y ∨ ∃ x, Near R a n x ∧ R x y
/-- n steps lead from a to b, and no fewer. -/
def Dist (R : Int → Int → Prop) (a b : Int) (n : Nat) : Prop := Near R a n b ∧ ∀ j, j < n → ¬ Near R a j b
/-- Some steps lead from a to y. -/
def Reach (R : Int → Int → Prop) (a y : Int) : Prop := ∃ n, Near R a n y

variable {R : Int → Int → Prop} {a b x y : Int} {n m k : Nat}

theorem Near.succ (h : Near R a n y) : Near R a (n + 1) y := .inl h
theorem Near.step (h : Near R a n x) (hr : R x y) : Near R a (n + 1) y := .inr ⟨x, h, hr⟩
theorem Near.mono (hm : n ≤ m) (h : Near R a n y) : Near R a m y := by
  induction hm with
  | refl => exact h
  | step _ ih => exact .inl ih
theorem Near.ins {P : Int → Prop} (hR : ∀ x y, P x → R x y → P y) (ha : P a) : ∀ {n : Nat} {y : Int}, Near R a n y → P y
  | 0, _, hn => by rw [show _ = a from hn]; exact ha
  | _ + 1, _, hn => by
    rcases hn with h1 | ⟨x, h1, h2⟩
    · exact Near.ins hR ha h1
    · exact hR _ _ (Near.ins hR ha h1) h2
theorem near_front : ∀ {n : Nat} {y : Int}, Near R a (n + 1) y ↔ Near R a n y ∨ ∃ x, R a x ∧ Near R x n y
  | 0, y => by
    constructor
    · rintro (h | ⟨x, h1, h2⟩)
      · exact .inl h
      · rw [show x = a from h1] at h2
        exact .inr ⟨y, h2, rfl⟩
    · rintro (h | ⟨x, h1, h2⟩)
      · exact .inl h
      · rw [← show y = x from h2] at h1
        exact .inr ⟨a, rfl, h1⟩
  | n + 1, y => by
    constructor
    · rintro (h | ⟨x, h1, h2⟩)
      · exact .inl h
      · rcases (near_front (n := n)).1 h1 with h3 | ⟨z, h3, h4⟩
        · exact .inl (.inr ⟨x, h3, h2⟩)
        · exact .inr ⟨z, h3, .inr ⟨x, h4, h2⟩⟩
    · rintro (h | ⟨z, h1, h2⟩)
      · exact .inl h
      · rcases h2 with h2 | ⟨x, h2, h3⟩
        · exact .inl ((near_front (n := n)).2 (.inr ⟨z, h1, h2⟩))
        · exact .inr ⟨x, (near_front (n := n)).2 (.inr ⟨z, h1, h2⟩), h3⟩
theorem near_symm (hs : ∀ x y, R x y → R y x) : ∀ {n : Nat} {a y : Int}, Near R a n y → Near R y n a
  | 0, _, _, h => Eq.symm h
  | n + 1, a, y, h => by
    rcases h with h | ⟨x, h1, h2⟩
    · exact .inl (near_symm hs h)
    · exact near_front.2 (.inr ⟨x, hs _ _ h2, near_symm hs h1⟩)
theorem near_trans (h : Near R a n x) : ∀ {m : Nat} {y : Int}, Near R x m y → Near R a (n + m) y
  | 0, y, h1 => by rw [show y = x from h1]; exact h
  | _ + 1, _, h1 => by
    rcases h1 with h1 | ⟨z, h1, h2⟩
    · exact .inl (near_trans h h1)
    · exact .inr ⟨z, near_trans h h1, h2⟩
theorem near_sub {S : Int → Int → Prop} (h : ∀ x y, R x y → S x y) : ∀ {n : Nat} {y : Int}, Near R a n y → Near S a n y
  | 0, _, h1 => h1
  | _ + 1, _, h1 => by
    rcases h1 with h1 | ⟨z, h1, h2⟩
    · exact .inl (near_sub h h1)
    · exact .inr ⟨z, near_sub h h1, h _ _ h2⟩

theorem Reach.refl (R : Int → Int → Prop) (a : Int) : Reach R a a := ⟨0, rfl⟩
theorem Reach.step (h : Reach R a x) (hr : R x y) : Reach R a y := let ⟨_, h⟩ := h; ⟨_, h.step hr⟩
theorem Reach.symm (hs : ∀ x y, R x y → R y x) (h : Reach R a y) : Reach R y a := let ⟨_, h⟩ := h; ⟨_, near_symm hs h⟩
theorem Reach.trans (h : Reach R a x) (h2 : Reach R x y) : Reach R a y := by
  obtain ⟨n, h⟩ := h
  obtain ⟨m, h2⟩ := h2
  exact ⟨_, near_trans h h2⟩
theorem Reach.ins {P : Int → Prop} (hR : ∀ x y, P x → R x y → P y) (ha : P a) (h : Reach R a y) : P y := let ⟨_, h⟩ := h; Near.ins hR ha h
theorem Reach.sub {S : Int → Int → Prop} (h : ∀ x y, R x y → S x y) (h1 : Reach R a y) : Reach S a y := let ⟨_, h1⟩ := h1; ⟨_, near_sub h h1⟩

theorem Dist.zero (R : Int → Int → Prop) (a : Int) : Dist R a a 0 := ⟨rfl, fun _ h => absurd h (Nat.not_lt_zero _)⟩
theorem Dist.eq0 (h : Dist R a b 0) : b = a := h.1
theorem Dist.reach (h : Dist R a b n) : Reach R a b := ⟨_, h.1⟩
theorem Dist.symm (hs : ∀ x y, R x y → R y x) (h : Dist R a b n) : Dist R b a n := ⟨near_symm hs h.1, fun j hj h1 => h.2 j hj (near_symm hs h1)⟩
theorem Dist.uniq (h : Dist R a b n) (h' : Dist R a b m) : n = m := by
  rcases Nat.lt_trichotomy n m with hl | hl | hl
  · exact absurd h.1 (h'.2 n hl)
  · exact hl
  · exact absurd h'.1 (h.2 m hl)
theorem Dist.some : ∀ {n : Nat}, Near R a n b → ∃ k, k ≤ n ∧ Dist R a b k
  | 0, h => ⟨0, Nat.le_refl _, h, fun _ h => absurd h (Nat.not_lt_zero _)⟩
  | n + 1, h => by
    by_cases h1 : Near R a n b
    · obtain ⟨k, hk, hd⟩ := Dist.some h1
      exact ⟨k, by omega, hd⟩
    · exact ⟨n + 1, Nat.le_refl _, h, fun j hj h2 => h1 (h2.mono (by omega))⟩
theorem Reach.dist (h : Reach R a b) : ∃ k, Dist R a b k := by
  obtain ⟨n, h⟩ := h
  obtain ⟨k, _, hk⟩ := Dist.some h
  exact ⟨k, hk⟩
theorem Dist.le (h : Dist R a b n) (h' : Near R a m b) : n ≤ m := by
  rcases Nat.lt_or_ge m n with hl | hl
  · exact absurd h' (h.2 m hl)
  · exact hl
/-- A first step on a shortest way. -/
theorem Dist.step (h : Dist R a b (n + 1)) : ∃ x, R a x ∧ Dist R x b n := by
  rcases near_front.1 h.1 with h1 | ⟨x, h1, h2⟩
  · exact absurd h1 (h.2 n (by omega))
  · exact ⟨x, h1, h2, fun j hj h3 => h.2 (j + 1) (by omega) (near_front.2 (.inr ⟨x, h1, h3⟩))⟩
/-- A last step on a shortest way. -/
theorem Dist.last (h : Dist R a b (n + 1)) : ∃ x, Dist R a x n ∧ R x b := by
  rcases h.1 with h1 | ⟨x, h1, h2⟩
  · exact absurd h1 (h.2 n (by omega))
  · refine ⟨x, ⟨h1, fun j hj h3 => h.2 (j + 1) (by omega) (.inr ⟨x, h3, h2⟩)⟩, h2⟩
theorem Dist.step_le (h : Dist R a b n) (hx : R a x) (h' : Near R x m b) : n ≤ m + 1 :=
  h.le (near_front.2 (.inr ⟨x, hx, h'⟩))
theorem Dist.nbr_le (h : Dist R a x n) (hx : R x y) (h' : Dist R a y m) : m ≤ n + 1 :=
  h'.le (.inr ⟨x, h.1, hx⟩)

theorem countP_less {α : Type} {q r : α → Bool} : ∀ {l : List α}, (∀ x ∈ l, q x = true → r x = true) → (∃ x ∈ l, q x = false ∧ r x = true) → l.countP q < l.countP r
  | [], _, h => by obtain ⟨x, h, _⟩ := h; cases h
  | z :: l, h, hx => by
    have hle : l.countP q ≤ l.countP r := List.countP_mono_left fun x hx => h x (List.mem_cons_of_mem _ hx)
    rw [List.countP_cons, List.countP_cons]
    obtain ⟨x, hx, h1, h2⟩ := hx
    rcases List.mem_cons.1 hx with rfl | hx
    · rw [h1, h2]
      simp
      omega
    · have := countP_less (fun x hx => h x (List.mem_cons_of_mem _ hx)) ⟨x, hx, h1, h2⟩
      have h3 := h z (List.mem_cons_self ..)
      cases hq : q z
      · simp
        omega
      · rw [h3 hq]
        simp
        omega

/-- Things each once, all of them among others: no more than these. -/
theorem once_len : ∀ {l m : List Int}, l.Nodup → (∀ x ∈ l, x ∈ m) → l.length ≤ m.length
  | [], _, _, _ => Nat.zero_le _
  | x :: l, m, hn, hs => by
    have h1 := List.nodup_cons.1 hn
    have hx : x ∈ m := hs x (List.mem_cons_self ..)
    have := once_len (l := l) (m := m.erase x) h1.2 (fun y hy => by
      have hne : y ≠ x := fun e => h1.1 (e ▸ hy)
      exact (List.mem_erase_of_ne hne).2 (hs y (List.mem_cons_of_mem _ hy)))
    rw [List.length_erase_of_mem hx] at this
    have := List.length_pos_of_mem hx
    rw [List.length_cons]
    omega

/-- What has been met, with how far it is, and how many of these have been left: as spreading out goes on. q of the steps from the one that is left now have been looked at. -/
structure Bfs (R : Int → Int → Prop) (adj : Int → List Int) (a : Int) (ts : List Int) (ds : List Nat) (hd q : Nat) : Prop where
  len : ds.length = ts.length
  pos : 0 < ts.length
  zero : getI ts 0 = a
  once : ts.Nodup
  far : ∀ i, i < ts.length → Dist R a (getI ts i) (ds.getD i 0)
  up : ∀ i j, i ≤ j → j < ts.length → ds.getD i 0 ≤ ds.getD j 0
  near : ∀ i, i < ts.length → hd < ts.length → ds.getD i 0 ≤ ds.getD hd 0 + 1
  done : ∀ i, i < hd → ∀ y ∈ adj (getI ts i), y ∈ ts
  part : ∀ j, j < q → getI (adj (getI ts hd)) j ∈ ts
  hd_le : hd ≤ ts.length
  rel : ∀ x y, R x y ↔ y ∈ adj x
  few : ∀ i, i < ts.length → ds.getD i 0 ≤ i

variable {adj : Int → List Int} {ts : List Int} {ds : List Nat} {hd q : Nat}

theorem Bfs.start (h : ∀ x y, R x y ↔ y ∈ adj x) (a : Int) : Bfs R adj a [a] [0] 0 0 where
  len := rfl
  pos := Nat.zero_lt_one
  zero := rfl
  once := by simp
  far := fun i hi => by
    obtain rfl : i = 0 := by simp at hi; exact hi
    exact Dist.zero R a
  up := fun i j hij hj => by
    obtain rfl : j = 0 := by simp at hj; exact hj
    obtain rfl : i = 0 := by omega
    exact Nat.le_refl _
  near := fun i hi _ => by
    obtain rfl : i = 0 := by simp at hi; exact hi
    exact Nat.le_succ _
  done := fun i hi => absurd hi (Nat.not_lt_zero _)
  part := fun i hi => absurd hi (Nat.not_lt_zero _)
  hd_le := Nat.zero_le _
  rel := h
  few := fun i hi => by
    obtain rfl : i = 0 := by simp at hi; exact hi
    exact Nat.le_refl _

/-- All that are as near as the one that is left now have been met. -/
theorem Bfs.all (B : Bfs R adj a ts ds hd q) (hl : hd < ts.length) : ∀ {k : Nat} {y : Int}, Dist R a y k → k ≤ ds.getD hd 0 → y ∈ ts
  | 0, y, h, _ => by
    rw [h.eq0, ← B.zero]
    exact (mem_getI _ _).2 ⟨0, B.pos, rfl⟩
  | k + 1, y, h, hk => by
    obtain ⟨x, h1, h2⟩ := h.last
    have hx := B.all hl h1 (by omega)
    obtain ⟨i, hi, e⟩ := (mem_getI _ _).1 hx
    have hd1 := B.far i hi
    rw [e] at hd1
    have hik := hd1.uniq h1
    have hlt : i < hd := by
      rcases Nat.lt_or_ge i hd with hh | hh
      · exact hh
      · have := B.up hd i hh hi
        omega
    exact B.done i hlt y (e ▸ (B.rel _ _).1 h2)

theorem getD_app_left (l m : List Nat) (i : Nat) (h : i < l.length) : (l ++ m).getD i 0 = l.getD i 0 := by simp [List.getElem?_append_left h]
theorem getD_snoc (l : List Nat) (x : Nat) : (l ++ [x]).getD l.length 0 = x := by simp

/-- One is met. -/
theorem Bfs.meet (B : Bfs R adj a ts ds hd q) (hl : hd < ts.length) (hq : q < (adj (getI ts hd)).length) (hno : getI (adj (getI ts hd)) q ∉ ts) :
    Bfs R adj a (ts ++ [getI (adj (getI ts hd)) q]) (ds ++ [ds.getD hd 0 + 1]) hd (q + 1) := by
  have hle : ∀ i, i < ts.length → getI (ts ++ [getI (adj (getI ts hd)) q]) i = getI ts i := fun i hi => getI_app_left _ _ _ hi
  have hsn : getI (ts ++ [getI (adj (getI ts hd)) q]) ts.length = getI (adj (getI ts hd)) q := getI_app_right ts [getI (adj (getI ts hd)) q] 0
  have hde : ∀ i, i < ts.length → (ds ++ [ds.getD hd 0 + 1]).getD i 0 = ds.getD i 0 := fun i hi => getD_app_left _ _ _ (by rw [B.len]; exact hi)
  have hds : (ds ++ [ds.getD hd 0 + 1]).getD ts.length 0 = ds.getD hd 0 + 1 := by rw [← B.len]; exact getD_snoc _ _
  have hR : R (getI ts hd) (getI (adj (getI ts hd)) q) := (B.rel _ _).2 ((mem_getI _ _).2 ⟨q, hq, rfl⟩)
  have hcase : ∀ {i : Nat}, i < (ts ++ [getI (adj (getI ts hd)) q]).length → i < ts.length ∨ i = ts.length := fun {i} hi => by
    rw [List.length_append] at hi
    simp at hi
    omega
  refine ⟨?_, ?_, ?_, ?_, ?_, ?_, ?_, ?_, ?_, ?_, B.rel, ?_⟩
  · rw [List.length_append, List.length_append, B.len]
    rfl
  · rw [List.length_append]
    exact Nat.lt_of_lt_of_le B.pos (Nat.le_add_right _ _)
  · rw [hle 0 B.pos]
    exact B.zero
  · rw [List.nodup_append]
    refine ⟨B.once, by simp, fun x hx y hy => ?_⟩
    rw [List.mem_singleton] at hy
    rintro rfl
    exact hno (hy ▸ hx)
  · intro i hi
    rcases hcase hi with h | rfl
    · rw [hle i h, hde i h]
      exact B.far i h
    · rw [hsn, hds]
      refine ⟨.inr ⟨_, (B.far hd hl).1, hR⟩, fun j hj hn => ?_⟩
      obtain ⟨k, hk, hd'⟩ := Dist.some hn
      exact hno (B.all hl hd' (by omega))
  · intro i j hij hj
    rcases hcase hj with h | rfl
    · rw [hde j h, hde i (by omega)]
      exact B.up i j hij h
    · rcases Nat.lt_or_ge i ts.length with h | h
      · rw [hds, hde i h]
        exact B.near i h hl
      · obtain rfl : i = ts.length := by omega
        exact Nat.le_refl _
  · intro i hi _
    rw [hde hd hl]
    rcases hcase hi with h | rfl
    · rw [hde i h]
      exact B.near i h hl
    · rw [hds]
      exact Nat.le_refl _
  · intro i hi y hy
    rw [hle i (by omega)] at hy
    exact List.mem_append_left _ (B.done i hi y hy)
  · intro j hj
    rw [hle hd hl]
    rcases Nat.lt_or_ge j q with h | h
    · exact List.mem_append_left _ (B.part j h)
    · obtain rfl : j = q := by omega
      exact List.mem_append_right _ (List.mem_singleton.2 rfl)
  · rw [List.length_append]
    have := B.hd_le
    omega
  · intro i hi
    rcases hcase hi with h | rfl
    · rw [hde i h]
      exact B.few i h
    · rw [hds]
      have := B.few hd hl
      omega
/-- One has been met already. -/
theorem Bfs.pass (B : Bfs R adj a ts ds hd q) (hin : getI (adj (getI ts hd)) q ∈ ts) : Bfs R adj a ts ds hd (q + 1) := by
  refine { B with part := fun j hj => ?_ }
  rcases Nat.lt_or_ge j q with h | h
  · exact B.part j h
  · obtain rfl : j = q := by omega
    exact hin
/-- The next one is left. -/
theorem Bfs.next (B : Bfs R adj a ts ds hd q) (hl : hd < ts.length) (hq : (adj (getI ts hd)).length ≤ q) : Bfs R adj a ts ds (hd + 1) 0 := by
  refine { B with near := fun i hi h => ?_, done := fun i hi y hy => ?_, part := fun i hi => absurd hi (Nat.not_lt_zero _), hd_le := hl }
  · exact Nat.le_trans (B.near i hi hl) (Nat.add_le_add_right (B.up hd (hd + 1) (Nat.le_succ _) h) 1)
  · rcases Nat.lt_or_ge i hd with h | h
    · exact B.done i h y hy
    · obtain rfl : i = hd := by omega
      obtain ⟨j, hj, e⟩ := (mem_getI _ _).1 hy
      rw [← e]
      exact B.part j (by omega)
/-- Where none is left to leave, all have been met. -/
theorem Bfs.whole (B : Bfs R adj a ts ds hd q) (hh : ts.length ≤ hd) {y : Int} : y ∈ ts ↔ Reach R a y := by
  constructor
  · intro h
    obtain ⟨i, hi, e⟩ := (mem_getI _ _).1 h
    exact ⟨_, e ▸ (B.far i hi).1⟩
  · rintro ⟨n, hn⟩
    refine Near.ins (P := fun y => y ∈ ts) (fun x y hx hr => ?_) ?_ hn
    · obtain ⟨i, hi, e⟩ := (mem_getI _ _).1 hx
      exact B.done i (by omega) y (e ▸ (B.rel _ _).1 hr)
    · exact (mem_getI _ _).2 ⟨0, B.pos, B.zero⟩
theorem Bfs.inside (B : Bfs R adj a ts ds hd q) {P : Int → Prop} (hP : ∀ x y, P x → R x y → P y) (ha : P a) : ∀ x ∈ ts, P x := fun x hx => by
  obtain ⟨i, hi, e⟩ := (mem_getI _ _).1 hx
  rw [← e]
  exact Near.ins hP ha (B.far i hi).1
theorem Bfs.front (B : Bfs R adj a ts ds hd q) {P : Int → Prop} (hP : ∀ x y, P x → R x y → P y) (ha : P a) (hl : hd < ts.length) : P (getI ts hd) :=
  B.inside hP ha _ ((mem_getI _ _).2 ⟨hd, hl, rfl⟩)
end Go.Proofs.Ytohaopfpjkhheaa
