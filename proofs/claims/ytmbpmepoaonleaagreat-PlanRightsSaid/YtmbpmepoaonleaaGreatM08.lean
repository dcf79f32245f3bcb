/-
  WkD, RtM, RtN, in one text.
-/
import Derived.Test.YtmbpmepoaonleaaGreatM01
import Derived.Test.YtmbpmepoaonleaaGreatM07
/-! How far things are by steps of a relation (plain mathematics), and spreading out with a line of those that wait. -/
namespace Go.Proofs.YtmbpmepoaonleaaGreat

/-- At most n steps lead from a to y. -/
def Near (R : Int → Int → Prop) (a : Int) : Nat → Int → Prop
  | 0, y => y = a
  | n + 1, y => Near R a n y ∨ ∃ x, Near R a n x ∧ R x y
/-- n steps lead from a to b, and no fewer. -/
def Dist (R : Int → Int → Prop) (a b : Int) (n : Nat) : Prop := Near R a n b ∧ ∀ j, j < n → ¬ Near R a j b
/-- Some steps lead from a to y. -/
def Reach (R : Int → Int → Prop) (a y : Int) : Prop := ∃ n, Near R a n y

variable {R : Int → Int → Prop} {a b x y : Int} {n m k : Nat}

theorem Near.succ (h : Near R a n y) : Near R a (n + 1) y := .inl h
theorem Near.step (h : Near R a n x) (hr : R x y) : Near R a (n + 1) y := .inr ⟨x, h, hr⟩
theorem Near.mono (hm : n ≤ m) (h : Near R a n y) : Near R a m y := by
  induction hm with
  | refl => exact h
  | step _ ih => exact .inl ih
theorem Near.ins {P : Int → Prop} (hR : ∀ x y, P x → R x y → P y) (ha : P a) : ∀ {n : Nat} {y : Int}, Near R a n y → P y
  | 0, _, hn => by rw [show _ = a from hn]; exact ha
  | _ + 1, _, hn => by
    rcases hn with h1 | ⟨x, h1, h2⟩
    · exact Near.ins hR ha h1
    · exact hR _ _ (Near.ins hR ha h1) h2
theorem near_front : ∀ {n : Nat} {y : Int}, Near R a (n + 1) y ↔ Near R a n y ∨ ∃ x, R a x ∧ Near R x n y
  | 0, y => by
    constructor
    · rintro (h | ⟨x, h1, h2⟩)
      · exact .inl h
      · rw [show x = a from h1] at h2
        exact .inr ⟨y, h2, rfl⟩
    · rintro (h | ⟨x, h1, h2⟩)
      · exact .inl h
      · rw [← show y = x from h2] at h1
        exact .inr ⟨a, rfl, h1⟩
  | n + 1, y => by
    constructor
    · rintro (h | ⟨x, h1, h2⟩)
      · exact .inl h
      · rcases (near_front (n := n)).1 h1 with h3 | ⟨z, h3, h4⟩
        · exact .inl (.inr ⟨x, h3, h2⟩)
        · exact .inr ⟨z, h3, .inr ⟨x, h4, h2⟩⟩
    · rintro (h | ⟨z, h1, h2⟩)
      · exact .inl h
      · rcases h2 with h2 | ⟨x, h2, h3⟩
        · exact .inl ((near_front (n := n)).2 (.inr ⟨z, h1, h2⟩))
        · exact .inr ⟨x, (near_front (n := n)).2 (.inr ⟨z, h1, h2⟩), h3⟩
theorem near_symm (hs : ∀ x y, R x y → R y x) : ∀ {n : Nat} {a y : Int}, Near R a n y → Near R y n a
  | 0, _, _, h => Eq.symm h
  | n + 1, a, y, h => by
    rcases h with h | ⟨x, h1, h2⟩
    · exact .inl (near_symm hs h)
    · exact near_front.2 (.inr ⟨x, hs _ _ h2, near_symm hs h1⟩)
theorem near_trans (h : Near R a n x) : ∀ {m : Nat} {y : Int}, Near R x m y → Near R a (n + m) y
  | 0, y, h1 => by rw [show y = x from h1]; exact h
  | _ + 1, _, h1 => by
    rcases h1 with h1 | ⟨z, h1, h2⟩
    · exact .inl (near_trans h h1)
    · exact .inr ⟨z, near_trans h h1, h2⟩
theorem near_sub {S : Int → Int → Prop} (h : ∀ x y, R x y → S x y) : ∀ {n : Nat} {y : Int}, Near R a n y → Near S a n y
  | 0, _, h1 => h1
  | _ + 1, _, h1 => by
    rcases h1 with h1 | ⟨z, h1, h2⟩
    · exact .inl (near_sub h h1)
    · exact .inr ⟨z, near_sub h h1, h _ _ h2⟩

theorem Reach.refl (R : Int → Int → Prop) (a : Int) : Reach R a a := ⟨0, rfl⟩
theorem Reach.step (h : Reach R a x) (hr : R x y) : Reach R a y := let ⟨_, h⟩ := h; ⟨_, h.step hr⟩
theorem Reach.symm (hs : ∀ x y, R x y → R y x) (h : Reach R a y) : Reach R y a := let ⟨_, h⟩ := h; ⟨_, near_symm hs h⟩
theorem Reach.trans (h : Reach R a x) (h2 : Reach R x y) : Reach R a y := by
  obtain ⟨n, h⟩ := h
  obtain ⟨m, h2⟩ := h2
  exact ⟨_, near_trans h h2⟩
theorem Reach.ins {P : Int → Prop} (hR : ∀ x y, P x → R x y → P y) (ha : P a) (h : Reach R a y) : P y := let ⟨_, h⟩ := h; Near.ins hR ha h
theorem Reach.sub {S : Int → Int → Prop} (h : ∀ x y, R x y → S x y) (h1 : Reach R a y) : Reach S a y := let ⟨_, h1⟩ := h1; ⟨_, near_sub h h1⟩

theorem Dist.zero (R : Int → Int → Prop) (a : Int) : Dist R a a 0 := ⟨rfl, fun _ h => absurd h (Nat.not_lt_zero _)⟩
theorem Dist.eq0 (h : Dist R a b 0) : b = a := h.1
theorem Dist.reach (h : Dist R a b n) : Reach R a b := ⟨_, h.1⟩
theorem Dist.symm (hs : ∀ x y, R x y → R y x) (h : Dist R a b n) : Dist R b a n := ⟨near_symm hs h.1, fun j hj h1 => h.2 j hj (near_symm hs h1)⟩
theorem Dist.uniq (h : Dist R a b n) (h' : Dist R a b m) : n = m := by
  rcases Nat.lt_trichotomy n m with hl | hl | hl
  · exact absurd h.1 (h'.2 n hl)
  · exact hl
  · exact absurd h'.1 (h.2 m hl)
theorem Dist.some : ∀ {n : Nat}, Near R a n b → ∃ k, k ≤ n ∧ Dist R a b k
  | 0, h => ⟨0, Nat.le_refl _, h, fun _ h => absurd h (Nat.not_lt_zero _)⟩
  | n + 1, h => by
    by_cases h1 : Near R a n b
    · obtain ⟨k, hk, hd⟩ := Dist.some h1
      exact ⟨k, by omega, hd⟩
    · exact ⟨n + 1, Nat.le_refl _, h, fun j hj h2 => h1 (h2.mono (by omega))⟩
theorem Dist.le (h : Dist R a b n) (h' : Near R a m b) : n ≤ m := by
  rcases Nat.lt_or_ge m n with hl | hl
  · exact absurd h' (h.2 m hl)
  · exact hl
/-- A first step on a shortest way. -/
theorem Dist.step (h : Dist R a b (n + 1)) : ∃ x, R a x ∧ Dist R x b n := by
  rcases near_front.1 h.1 with h1 | ⟨x, h1, h2⟩
  · exact absurd h1 (h.2 n (by omega))
  · exact ⟨x, h1, h2, fun j hj h3 => h.2 (j + 1) (by omega) (near_front.2 (.inr ⟨x, h1, h3⟩))⟩
/-- A last step on a shortest way. -/
theorem Dist.last (h : Dist R a b (n + 1)) : ∃ x, Dist R a x n ∧ R x b := by
  rcases h.1 with h1 | ⟨x, h1, h2⟩
  · exact absurd h1 (h.2 n (by omega))
  · refine ⟨x, ⟨h1, fun j hj h3 => h.2 (j + 1) (by omega) (.inr ⟨x, h3, h2⟩)⟩, h2⟩
/-- Things each once, all of them among others: no more than these. -/
theorem once_len : ∀ {l m : List Int}, l.Nodup → (∀ x ∈ l, x ∈ m) → l.length ≤ m.length
  | [], _, _, _ => Nat.zero_le _
  | x :: l, m, hn, hs => by
    have h1 := List.nodup_cons.1 hn
    have hx : x ∈ m := hs x (List.mem_cons_self ..)
    have := once_len (l := l) (m := m.erase x) h1.2 (fun y hy => by
      have hne : y ≠ x := fun e => h1.1 (e ▸ hy)
      exact (List.mem_erase_of_ne hne).2 (hs y (List.mem_cons_of_mem _ hy)))
    rw [List.length_erase_of_mem hx] at this
    have := List.length_pos_of_mem hx
    rw [List.length_cons]
    omega

/-- What has been met, with how far it is, and how many of these have been left: as spreading out goes on. q of the steps from the one that is left now have been looked at. -/
structure Bfs (R : Int → Int → Prop) (adj : Int → List Int) (a : Int) (ts : List Int) (ds : List Nat) (hd q : Nat) : Prop where
  len : ds.length = ts.length
  pos : 0 < ts.length
  zero : getI ts 0 = a
  once : ts.Nodup
  far : ∀ i, i < ts.length → Dist R a (getI ts i) (ds.getD i 0)
  up : ∀ i j, i ≤ j → j < ts.length → ds.getD i 0 ≤ ds.getD j 0
  near : ∀ i, i < ts.length → hd < ts.length → ds.getD i 0 ≤ ds.getD hd 0 + 1
  done : ∀ i, i < hd → ∀ y ∈ adj (getI ts i), y ∈ ts
  part : ∀ j, j < q → getI (adj (getI ts hd)) j ∈ ts
  hd_le : hd ≤ ts.length
  rel : ∀ x y, R x y ↔ y ∈ adj x
  few : ∀ i, i < ts.length → ds.getD i 0 ≤ i

variable {adj : Int → List Int} {ts : List Int} {ds : List Nat} {hd q : Nat}

theorem Bfs.start (h : ∀ x y, R x y ↔ y ∈ adj x) (a : Int) : Bfs R adj a [a] [0] 0 0 where
  len := rfl
  pos := Nat.zero_lt_one
  zero := rfl
  once := by simp
  far := fun i hi => by
    obtain rfl : i = 0 := by simp at hi; exact hi
    exact Dist.zero R a
  up := fun i j hij hj => by
    obtain rfl : j = 0 := by simp at hj; exact hj
    obtain rfl : i = 0 := by omega
    exact Nat.le_refl _
  near := fun i hi _ => by
    obtain rfl : i = 0 := by simp at hi; exact hi
    exact Nat.le_succ _
  done := fun i hi => absurd hi (Nat.not_lt_zero _)
  part := fun i hi => absurd hi (Nat.not_lt_zero _)
  hd_le := Nat.zero_le _
  rel := h
  few := fun i hi => by
    obtain rfl : i = 0 := by simp at hi; exact hi
    exact Nat.le_refl _

/-- All that are as near as the one that is left now have been met. -/
theorem Bfs.all (B : Bfs R adj a ts ds hd q) (hl : hd < ts.length) : ∀ {k : Nat} {y : Int}, Dist R a y k → k ≤ ds.getD hd 0 → y ∈ ts
  | 0, y, h, _ => by
    rw [h.eq0, ← B.zero]
    exact (mem_getI _ _).2 ⟨0, B.pos, rfl⟩
  | k + 1, y, h, hk => by
    obtain ⟨x, h1, h2⟩ := h.last
    have hx := B.all hl h1 (by omega)
    obtain ⟨i, hi, e⟩ := (mem_getI _ _).1 hx
    have hd1 := B.far i hi
    rw [e] at hd1
    have hik := hd1.uniq h1
    have hlt : i < hd := by
      rcases Nat.lt_or_ge i hd with hh | hh
      · exact hh
      · have := B.up hd i hh hi
        omega
    exact B.done i hlt y (e ▸ (B.rel _ _).1 h2)

theorem getD_app_left (l m : List Nat) (i : Nat) (h : i < l.length) : (l ++ m).getD i 0 = l.getD i 0 := by simp [List.getElem?_append_left h]
theorem getD_snoc (l : List Nat) (x : Nat) : (l ++ [x]).getD l.length 0 = x := by simp

/-- One is met. -/
theorem Bfs.meet (B : Bfs R adj a ts ds hd q) (hl : hd < ts.length) (hq : q < (adj (getI ts hd)).length) (hno : getI (adj (getI ts hd)) q ∉ ts) :
    Bfs R adj a (ts ++ [getI (adj (getI ts hd)) q]) (ds ++ [ds.getD hd 0 + 1]) hd (q + 1) := by
  have hle : ∀ i, i < ts.length → getI (ts ++ [getI (adj (getI ts hd)) q]) i = getI ts i := fun i hi => getI_app_left _ _ _ hi
  have hsn : getI (ts ++ [getI (adj (getI ts hd)) q]) ts.length = getI (adj (getI ts hd)) q := getI_app_right ts [getI (adj (getI ts hd)) q] 0
  have hde : ∀ i, i < ts.length → (ds ++ [ds.getD hd 0 + 1]).getD i 0 = ds.getD i 0 := fun i hi => getD_app_left _ _ _ (by rw [B.len]; exact hi)
  have hds : (ds ++ [ds.getD hd 0 + 1]).getD ts.length 0 = ds.getD hd 0 + 1 := by rw [← B.len]; exact getD_snoc _ _
  have hR : R (getI ts hd) (getI (adj (getI ts hd)) q) := (B.rel _ _).2 ((mem_getI _ _).2 ⟨q, hq, rfl⟩)
  have hcase : ∀ {i : Nat}, i < (ts ++ [getI (adj (getI ts hd)) q]).length → i < ts.length ∨ i = ts.length := fun {i} hi => by
    rw [List.length_append] at hi
    simp at hi
    omega
  refine ⟨?_, ?_, ?_, ?_, ?_, ?_, ?_, ?_, ?_, ?_, B.rel, ?_⟩
  · rw [List.length_append, List.length_append, B.len]
    rfl
  · rw [List.length_append]
    exact Nat.lt_of_lt_of_le B.pos (Nat.le_add_right _ _)
  · rw [hle 0 B.pos]
    exact B.zero
  · rw [List.nodup_append]
    refine ⟨B.once, by simp, fun x hx y hy => ?_⟩
    rw [List.mem_singleton] at hy
    rintro rfl
    exact hno (hy ▸ hx)
  · intro i hi
    rcases hcase hi with h | rfl
    · rw [hle i h, hde i h]
      exact B.far i h
    · rw [hsn, hds]
      refine ⟨.inr ⟨_, (B.far hd hl).1, hR⟩, fun j hj hn => ?_⟩
      obtain ⟨k, hk, hd'⟩ := Dist.some hn
      exact hno (B.all hl hd' (by omega))
  · intro i j hij hj
    rcases hcase hj with h | rfl
    · rw [hde j h, hde i (by omega)]
      exact B.up i j hij h
    · rcases Nat.lt_or_ge i ts.length with h | h
      · rw [hds, hde i h]
        exact B.near i h hl
      · obtain rfl : i = ts.length := by omega
        exact Nat.le_refl _
  · intro i hi _
    rw [hde hd hl]
    rcases hcase hi with h | rfl
    · rw [hde i h]
      exact B.near i h hl
    · rw [hds]
      exact Nat.le_refl _
  · intro i hi y hy
    rw [hle i (by omega)] at hy
    exact List.mem_append_left _ (B.done i hi y hy)
  · intro j hj
    rw [hle hd hl]
    rcases Nat.lt_or_ge j q with h | h
    · exact List.mem_append_left _ (B.part j h)
    · obtain rfl : j = q := by omega
      exact List.mem_append_right _ (List.mem_singleton.2 rfl)
  · rw [List.length_append]
    have := B.hd_le
    omega
  · intro i hi
    rcases hcase hi with h | rfl
    · rw [hde i h]
      exact B.few i h
    · rw [hds]
      have := B.few hd hl
      omega
/-- The next one is left. -/
theorem Bfs.next (B : Bfs R adj a ts ds hd q) (hl : hd < ts.length) (hq : (adj (getI ts hd)).length ≤ q) : Bfs R adj a ts ds (hd + 1) 0 := by
  refine { B with near := fun i hi h => ?_, done := fun i hi y hy => ?_, part := fun i hi => absurd hi (Nat.not_lt_zero _), hd_le := hl }
  · exact Nat.le_trans (B.near i hi hl) (Nat.add_le_add_right (B.up hd (hd + 1) (Nat.le_succ _) h) 1)
  · rcases Nat.lt_or_ge i hd with h | h
    · exact B.done i h y hy
    · obtain rfl : i = hd := by omega
      obtain ⟨j, hj, e⟩ := (mem_getI _ _).1 hy
      rw [← e]
      exact B.part j (by omega)
/-- Where none is left to leave, all have been met. -/
theorem Bfs.whole (B : Bfs R adj a ts ds hd q) (hh : ts.length ≤ hd) {y : Int} : y ∈ ts ↔ Reach R a y := by
  constructor
  · intro h
    obtain ⟨i, hi, e⟩ := (mem_getI _ _).1 h
    exact ⟨_, e ▸ (B.far i hi).1⟩
  · rintro ⟨n, hn⟩
    refine Near.ins (P := fun y => y ∈ ts) (fun x y hx hr => ?_) ?_ hn
    · obtain ⟨i, hi, e⟩ := (mem_getI _ _).1 hx
      exact B.done i (by omega) y (e ▸ (B.rel _ _).1 hr)
    · exact (mem_getI _ _).2 ⟨0, B.pos, B.zero⟩
theorem Bfs.inside (B : Bfs R adj a ts ds hd q) {P : Int → Prop} (hP : ∀ x y, P x → R x y → P y) (ha : P a) : ∀ x ∈ ts, P x := fun x hx => by
  obtain ⟨i, hi, e⟩ := (mem_getI _ _).1 hx
  rw [← e]
  exact Near.ins hP ha (B.far i hi).1
theorem Bfs.front (B : Bfs R adj a ts ds hd q) {P : Int → Prop} (hP : ∀ x y, P x → R x y → P y) (ha : P a) (hl : hd < ts.length) : P (getI ts hd) :=
  B.inside hP ha _ ((mem_getI _ _).2 ⟨hd, hl, rfl⟩)
end Go.Proofs.YtmbpmepoaonleaaGreat

/-! Turns around vertices, as plain mathematics: what comes behind and ahead, lists turned about and begun elsewhere, what comes behind around a face. -/
namespace Go.Proofs.YtmbpmepoaonleaaGreat.Rt
open Go.Proofs.YtmbpmepoaonleaaGreat

/-! ### One list that goes round -/

def aft (l : List Int) (x : Int) : Int := getI l (((Lib.idxOf l x).toNat + 1) % l.length)
def bef (l : List Int) (x : Int) : Int := getI l (((Lib.idxOf l x).toNat + (l.length - 1)) % l.length)

theorem idx_lt {l : List Int} {x : Int} (h : x ∈ l) : ∃ k, k < l.length ∧ getI l k = x ∧ ∀ j, j < k → getI l j ≠ x := by
  rcases first_of (fun j => j < l.length ∧ getI l j = x) l.length with ⟨k, hk, ⟨h1, h2⟩, h3⟩ | hn
  · exact ⟨k, hk, h2, fun j hj e => h3 j hj ⟨by omega, e⟩⟩
  · obtain ⟨j, hj, e⟩ := (mem_getI l x).1 h
    exact absurd ⟨hj, e⟩ (hn j hj)

theorem getI_in (l : List Int) (k : Nat) (h : k < l.length) : getI l k ∈ l := (mem_getI l _).2 ⟨k, h, rfl⟩

theorem aft_at {l : List Int} (hn : l.Nodup) {k : Nat} (hk : k < l.length) : aft l (getI l k) = getI l ((k + 1) % l.length) := by
  unfold aft; rw [idx_nodup hn k hk, Int.toNat_natCast]
theorem bef_at {l : List Int} (hn : l.Nodup) {k : Nat} (hk : k < l.length) : bef l (getI l k) = getI l ((k + (l.length - 1)) % l.length) := by
  unfold bef; rw [idx_nodup hn k hk, Int.toNat_natCast]

theorem aft_mem {l : List Int} (hn : l.Nodup) {x : Int} (h : x ∈ l) : aft l x ∈ l := by
  obtain ⟨k, hk, rfl⟩ := (mem_getI l x).1 h
  rw [aft_at hn hk]; exact getI_in _ _ (Nat.mod_lt _ (by omega))
theorem bef_mem {l : List Int} (hn : l.Nodup) {x : Int} (h : x ∈ l) : bef l x ∈ l := by
  obtain ⟨k, hk, rfl⟩ := (mem_getI l x).1 h
  rw [bef_at hn hk]; exact getI_in _ _ (Nat.mod_lt _ (by omega))

theorem bef_aft {l : List Int} (hn : l.Nodup) {x : Int} (h : x ∈ l) : bef l (aft l x) = x := by
  obtain ⟨k, hk, rfl⟩ := (mem_getI l x).1 h
  rw [aft_at hn hk, bef_at hn (Nat.mod_lt _ (by omega)), Nat.mod_add_mod, show k + 1 + (l.length - 1) = k + l.length by omega, Nat.add_mod_right, Nat.mod_eq_of_lt hk]
theorem aft_bef {l : List Int} (hn : l.Nodup) {x : Int} (h : x ∈ l) : aft l (bef l x) = x := by
  obtain ⟨k, hk, rfl⟩ := (mem_getI l x).1 h
  rw [bef_at hn hk, aft_at hn (Nat.mod_lt _ (by omega)), Nat.mod_add_mod, show k + (l.length - 1) + 1 = k + l.length by omega, Nat.add_mod_right, Nat.mod_eq_of_lt hk]

/-! ### Turned about, begun elsewhere -/

theorem rev_get (l : List Int) (k : Nat) (h : k < l.length) : getI l.reverse k = getI l (l.length - 1 - k) := by
  rw [getI_of _ _ (by simpa using h), getI_of _ _ (by omega), List.getElem_reverse]

theorem nodup_rev {l : List Int} (hn : l.Nodup) : l.reverse.Nodup := List.pairwise_reverse.2 (List.Pairwise.imp (fun h => Ne.symm h) hn)
theorem aft_rev {l : List Int} (hn : l.Nodup) {x : Int} (h : x ∈ l) : aft l.reverse x = bef l x := by
  obtain ⟨k, hk, rfl⟩ := (mem_getI l x).1 h
  have hr : l.reverse.Nodup := nodup_rev hn
  have hl : l.reverse.length = l.length := List.length_reverse
  have he : getI l k = getI l.reverse (l.length - 1 - k) := by rw [rev_get _ _ (by omega)]; congr 1; omega
  rw [he, aft_at hr (by omega), ← he, bef_at hn hk, hl]
  by_cases h0 : k = 0
  · subst h0
    rw [show l.length - 1 - 0 + 1 = l.length by omega, Nat.mod_self, rev_get _ _ (by omega), Nat.mod_eq_of_lt (by omega)]
    congr 1
    omega
  · rw [Nat.mod_eq_of_lt (show l.length - 1 - k + 1 < l.length by omega), rev_get _ _ (by omega), show k + (l.length - 1) = k - 1 + l.length by omega, Nat.add_mod_right, Nat.mod_eq_of_lt (by omega)]
    congr 1
    omega
theorem bef_rev {l : List Int} (hn : l.Nodup) {x : Int} (h : x ∈ l) : bef l.reverse x = aft l x := by
  have := aft_rev (nodup_rev hn) (x := x) (by simpa using h)
  rw [List.reverse_reverse] at this
  exact this.symm

theorem rot_in (l : List Int) (k : Nat) (x : Int) : x ∈ rotL l k ↔ x ∈ l := by
  unfold rotL
  rw [List.mem_append, Or.comm, ← List.mem_append, List.take_append_drop]
theorem rot_nodup {l : List Int} (hn : l.Nodup) (k : Nat) : (rotL l k).Nodup := by
  unfold rotL
  refine (List.perm_append_comm.nodup_iff).1 ?_
  rw [List.take_append_drop]
  exact hn

theorem aft_rot {l : List Int} (hn : l.Nodup) {k : Nat} (hk : k ≤ l.length) {x : Int} (h : x ∈ l) : aft (rotL l k) x = aft l x := by
  obtain ⟨j, hj, e⟩ := (mem_getI _ x).1 ((rot_in l k x).2 h)
  rw [rotL_length] at hj
  have e' : getI l ((k + j) % l.length) = x := by rw [← rotL_get l k j hk hj]; exact e
  have h1 : (j + 1) % l.length < l.length := Nat.mod_lt _ (by omega)
  have h2 : (k + j) % l.length < l.length := Nat.mod_lt _ (by omega)
  rw [← e, aft_at (rot_nodup hn k) (by rw [rotL_length]; exact hj), rotL_length, rotL_get l k _ hk h1, e, ← e', aft_at hn h2, Nat.add_mod_mod, Nat.mod_add_mod, Nat.add_assoc]
theorem bef_rot {l : List Int} (hn : l.Nodup) {k : Nat} (hk : k ≤ l.length) {x : Int} (h : x ∈ l) : bef (rotL l k) x = bef l x := by
  have h1 := aft_rot hn hk (bef_mem hn h)
  have h2 := bef_aft (rot_nodup hn k) ((rot_in l k _).2 (bef_mem hn h))
  rw [h1, aft_bef hn h] at h2
  exact h2

/-- A list, begun with its least number. -/
def fst (l : List Int) : List Int := rotL l (minAt l l.length)

theorem fst_in (l : List Int) (x : Int) : x ∈ fst l ↔ x ∈ l := rot_in _ _ _
theorem fst_len (l : List Int) : (fst l).length = l.length := rotL_length _ _
theorem fst_nil : fst [] = [] := rfl
theorem fst_head {l : List Int} (h : 0 < l.length) : ∀ x ∈ l, getI (fst l) 0 ≤ x := by
  intro x hx
  obtain ⟨j, hj, rfl⟩ := (mem_getI l x).1 hx
  unfold fst
  rw [rotL_get l _ 0 (minAt_le _ _) h, Nat.add_zero, Nat.mod_eq_of_lt (minAt_lt _ _ h)]
  exact (minAt_least l l.length j hj).1

/-- One ring has one beginning. -/
theorem fst_ring {a b : List Int} (hn : b.Nodup) (h : Ring1 a b) : fst a = fst b := by
  obtain ⟨hl, k, hk, rfl⟩ := h
  by_cases h0 : b.length = 0
  · obtain rfl := List.eq_nil_of_length_eq_zero h0
    rw [rotL_nil]
  have hm : minAt (rotL b k) (rotL b k).length < b.length := by rw [rotL_length]; exact minAt_lt _ _ (by omega)
  have e1 : fst (rotL b k) = rotL b ((k + minAt (rotL b k) (rotL b k).length) % b.length) := rotL_rotL b k _ hk (by omega)
  have h1 : (k + minAt (rotL b k) (rotL b k).length) % b.length < b.length := Nat.mod_lt _ (by omega)
  have h2 : minAt b b.length < b.length := minAt_lt _ _ (by omega)
  have i1 : getI (fst (rotL b k)) 0 = getI b ((k + minAt (rotL b k) (rotL b k).length) % b.length) := by
    rw [e1, rotL_get b _ 0 (by omega) (by omega), Nat.add_zero, Nat.mod_mod]
  have i2 : getI (fst b) 0 = getI b (minAt b b.length) := by
    unfold fst; rw [rotL_get b _ 0 (by omega) (by omega), Nat.add_zero, Nat.mod_eq_of_lt h2]
  have j1 := fst_head (l := rotL b k) (by rw [rotL_length]; omega) (getI (fst b) 0) ((rot_in _ _ _).2 ((fst_in b _).1 (getI_in _ _ (by rw [fst_len]; omega))))
  have j2 := fst_head (l := b) (by omega) (getI (fst (rotL b k)) 0) ((rot_in _ _ _).1 ((fst_in _ _).1 (getI_in _ _ (by rw [fst_len, rotL_length]; omega))))
  have i3 : getI b ((k + minAt (rotL b k) (rotL b k).length) % b.length) = getI b (minAt b b.length) := by rw [← i1, ← i2]; omega
  have i4 : (k + minAt (rotL b k) (rotL b k).length) % b.length = minAt b b.length := by
    have a1 := idx_nodup hn _ h1
    have a2 := idx_nodup hn _ h2
    rw [i3, a2] at a1
    omega
  rw [e1, i4]
  rfl
theorem ring_fst (l : List Int) : Ring1 (fst l) l := Ring1.of_rot l _ (minAt_le _ _)

end Go.Proofs.YtmbpmepoaonleaaGreat.Rt

/-! Turns of a part, as plain mathematics: what comes behind and ahead, around a vertex and around a face; turned about; begun elsewhere; all darts. -/
namespace Go.Proofs.YtmbpmepoaonleaaGreat.Rt
open Go.Proofs.YtmbpmepoaonleaaGreat

def getT (T : List (List Int)) (v : Nat) : List Int := T.getD v []
theorem getT_of (T : List (List Int)) (v : Nat) (h : v < T.length) : getT T v = T[v] := by unfold getT; simp [h]
theorem getT_out (T : List (List Int)) (v : Nat) (h : ¬ v < T.length) : getT T v = [] := by
  unfold getT
  rw [List.getD_eq_getElem?_getD, List.getElem?_eq_none (by omega)]
  rfl
theorem getT_map (f : List Int → List Int) (h0 : f [] = []) (T : List (List Int)) (v : Nat) : getT (T.map f) v = f (getT T v) := by
  by_cases h : v < T.length
  · rw [getT_of _ _ (by simpa using h), getT_of _ _ h, List.getElem_map]
  · rw [getT_out _ _ (by simpa using h), getT_out _ _ h, h0]
theorem getT_ext (T U : List (List Int)) (h : T.length = U.length) (hg : ∀ v, v < T.length → getT T v = getT U v) : T = U := by
  apply List.ext_getElem h
  intro i h1 h2
  have := hg i h1
  rwa [getT_of _ _ h1, getT_of _ _ h2] at this

/-! ### Darts of a part -/

def twi (d : Int) : Int := if d % 2 = 0 then d + 1 else d - 1
theorem twi_twi (d : Int) : twi (twi d) = d := by unfold twi; split <;> split <;> omega
theorem twi_half (d : Int) : twi d / 2 = d / 2 := by unfold twi; split <;> omega
theorem twi_nn {d : Int} (h : 0 ≤ d) : 0 ≤ twi d := by unfold twi; split <;> omega
theorem twi_nat (k : Nat) : twi (k : Int) = (twin k : Nat) := by
  unfold twi twin
  by_cases h : k % 2 = 0
  · rw [if_pos h, if_pos (by omega)]; omega
  · rw [if_neg h, if_neg (by omega)]; omega

/-- Which vertex a dart leaves. -/
def tl (g : Gph) (d : Int) : Nat := (tailOf g d.toNat).toNat

def Dart (p : Prt) (d : Int) : Prop := 0 ≤ d ∧ d / 2 ∈ p.e
instance (p : Prt) (d : Int) : Decidable (Dart p d) := inferInstanceAs (Decidable (_ ∧ _))
theorem Dart.twi {p : Prt} {d : Int} (h : Dart p d) : Dart p (twi d) := ⟨twi_nn h.1, by rw [twi_half]; exact h.2⟩

/-- Lists that are turns of a part. -/
structure Turns (g : Gph) (p : Prt) (T : List (List Int)) : Prop where
  right : perr g p = 0
  len : (T.length : Int) = g.n
  once : ∀ v, (getT T v).Nodup
  all : ∀ v, v < T.length → ∀ d, d ∈ getT T v ↔ d ∈ dartsL g (v : Int) p.e

theorem ints (g : Gph) (p : Prt) (h : perr g p = 0) {e : Int} (he : e ∈ p.e) : 0 ≤ e ∧ e < g.e.length ∧ (0 ≤ (getE g.e e.toNat).a ∧ (getE g.e e.toNat).a < g.n) ∧ 0 ≤ (getE g.e e.toNat).b ∧ (getE g.e e.toNat).b < g.n := by
  have hr := perr_rises h
  have h1 := hr.2.2.1.mem he
  have h2 := hr.2.2.2 e he
  have h3 := hr.2.1.mem h2.1
  have h4 := hr.2.1.mem h2.2
  exact ⟨h1.1, h1.2, h3, h4⟩

theorem mem_dartsL (g : Gph) (p : Prt) (h : perr g p = 0) (v : Nat) (d : Int) : d ∈ dartsL g (v : Int) p.e ↔ Dart p d ∧ tl g d = v := by
  constructor
  · intro hd
    obtain ⟨e, he, hd⟩ := List.mem_flatMap.1 hd
    obtain ⟨i1, i2, i3, i4⟩ := ints g p h he
    rcases (mem_dOf g _ e d).1 hd with ⟨rfl, ha⟩ | ⟨rfl, hb⟩
    · refine ⟨⟨by omega, by rw [show 2 * e / 2 = e by omega]; exact he⟩, ?_⟩
      have : tailOf g (2 * e).toNat = (getE g.e e.toNat).a := by
        unfold tailOf; rw [if_pos (by omega), show (2 * e).toNat / 2 = e.toNat by omega]
      unfold tl
      rw [this, ha, Int.toNat_natCast]
    · refine ⟨⟨by omega, by rw [show (2 * e + 1) / 2 = e by omega]; exact he⟩, ?_⟩
      have : tailOf g (2 * e + 1).toNat = (getE g.e e.toNat).b := by
        unfold tailOf; rw [if_neg (by omega), show (2 * e + 1).toNat / 2 = e.toNat by omega]
      unfold tl
      rw [this, hb, Int.toNat_natCast]
  · rintro ⟨⟨h0, he⟩, ht⟩
    obtain ⟨i1, i2, i3, i4⟩ := ints g p h he
    refine List.mem_flatMap.2 ⟨d / 2, he, (mem_dOf g _ _ d).2 ?_⟩
    unfold tl tailOf at ht
    rw [show d.toNat / 2 = (d / 2).toNat by omega] at ht
    split at ht
    · exact .inl ⟨by omega, by omega⟩
    · exact .inr ⟨by omega, by omega⟩

variable {g : Gph} {p : Prt} {T : List (List Int)}

theorem tl_lt (h : Turns g p T) {d : Int} (hd : Dart p d) : tl g d < T.length := by
  obtain ⟨i1, i2, i3, i4⟩ := ints g p h.right hd.2
  have hl := h.len
  unfold tl tailOf
  rw [show d.toNat / 2 = (d / 2).toNat by omega]
  split <;> omega
theorem Turns.mem (h : Turns g p T) {d : Int} (hd : Dart p d) : d ∈ getT T (tl g d) :=
  (h.all _ (tl_lt h hd) d).2 ((mem_dartsL g p h.right _ d).2 ⟨hd, rfl⟩)
theorem Turns.dart (h : Turns g p T) {v : Nat} {d : Int} (hd : d ∈ getT T v) : v < T.length ∧ Dart p d ∧ tl g d = v := by
  have hv : v < T.length := Classical.byContradiction fun hn => by rw [getT_out _ _ hn] at hd; exact absurd hd List.not_mem_nil
  exact ⟨hv, (mem_dartsL g p h.right v d).1 ((h.all v hv d).1 hd)⟩

/-! ### The steps -/

def aftT (g : Gph) (T : List (List Int)) (d : Int) : Int := aft (getT T (tl g d)) d
def befT (g : Gph) (T : List (List Int)) (d : Int) : Int := bef (getT T (tl g d)) d
def nxt (g : Gph) (T : List (List Int)) (d : Int) : Int := befT g T (twi d)
def bak (g : Gph) (T : List (List Int)) (d : Int) : Int := twi (aftT g T d)

theorem Turns.aft (h : Turns g p T) {d : Int} (hd : Dart p d) : Dart p (aftT g T d) ∧ tl g (aftT g T d) = tl g d ∧ befT g T (aftT g T d) = d := by
  have hm := h.mem hd
  have h1 := h.dart (aft_mem (h.once _) hm)
  refine ⟨h1.2.1, h1.2.2, ?_⟩
  have e : tl g (aftT g T d) = tl g d := h1.2.2
  show bef (getT T (tl g (aftT g T d))) (aftT g T d) = d
  rw [e]
  exact bef_aft (h.once _) hm
theorem Turns.bef (h : Turns g p T) {d : Int} (hd : Dart p d) : Dart p (befT g T d) ∧ tl g (befT g T d) = tl g d ∧ aftT g T (befT g T d) = d := by
  have hm := h.mem hd
  have h1 := h.dart (bef_mem (h.once _) hm)
  refine ⟨h1.2.1, h1.2.2, ?_⟩
  have e : tl g (befT g T d) = tl g d := h1.2.2
  show Rt.aft (getT T (tl g (befT g T d))) (befT g T d) = d
  rw [e]
  exact aft_bef (h.once _) hm
theorem Turns.nxt (h : Turns g p T) {d : Int} (hd : Dart p d) : Dart p (Rt.nxt g T d) ∧ Rt.bak g T (Rt.nxt g T d) = d := by
  have h1 := h.bef hd.twi
  refine ⟨h1.1, ?_⟩
  show twi (aftT g T (befT g T (twi d))) = d
  rw [h1.2.2, twi_twi]
theorem Turns.bak (h : Turns g p T) {d : Int} (hd : Dart p d) : Dart p (Rt.bak g T d) ∧ Rt.nxt g T (Rt.bak g T d) = d := by
  have h1 := h.aft hd
  refine ⟨h1.1.twi, ?_⟩
  show befT g T (twi (twi (aftT g T d))) = d
  rw [twi_twi, h1.2.2]

/-! ### Turned about, begun elsewhere -/

/-- Lists that go round as these do, each begun anywhere. -/
def Alike (T U : List (List Int)) : Prop := T.length = U.length ∧ ∀ v, Ring1 (getT U v) (getT T v)
theorem Alike.refl (T : List (List Int)) : Alike T T := ⟨rfl, fun _ => Ring1.refl _⟩
theorem alike_fst (T : List (List Int)) : Alike T (T.map fst) := ⟨by simp, fun v => by rw [getT_map fst fst_nil]; exact ring_fst _⟩

theorem ring_nodup {a b : List Int} (h : Ring1 a b) (hn : b.Nodup) : a.Nodup := by obtain ⟨_, k, _, rfl⟩ := h; exact rot_nodup hn k
theorem ring_in {a b : List Int} (h : Ring1 a b) (x : Int) : x ∈ a ↔ x ∈ b := by obtain ⟨_, k, _, rfl⟩ := h; exact rot_in b k x
theorem ring_bef {a b : List Int} (h : Ring1 a b) (hn : b.Nodup) {x : Int} (hx : x ∈ b) : bef a x = bef b x := by obtain ⟨_, k, hk, rfl⟩ := h; exact bef_rot hn hk hx

theorem Turns.alike {U : List (List Int)} (h : Turns g p T) (ha : Alike T U) : Turns g p U where
  right := h.right
  len := by rw [← ha.1]; exact h.len
  once := fun v => ring_nodup (ha.2 v) (h.once v)
  all := fun v hv d => by rw [ring_in (ha.2 v)]; exact h.all v (by rw [ha.1]; exact hv) d
theorem Turns.bef_alike {U : List (List Int)} (h : Turns g p T) (ha : Alike T U) {d : Int} (hd : Dart p d) : befT g U d = befT g T d := ring_bef (ha.2 _) (h.once _) (h.mem hd)
theorem Turns.nxt_alike {U : List (List Int)} (h : Turns g p T) (ha : Alike T U) {d : Int} (hd : Dart p d) : Rt.nxt g U d = Rt.nxt g T d := h.bef_alike ha hd.twi
theorem Turns.fst_alike {U : List (List Int)} (h : Turns g p T) (ha : Alike T U) : U.map fst = T.map fst :=
  getT_ext _ _ (by simp [ha.1]) fun v _ => by rw [getT_map fst fst_nil, getT_map fst fst_nil]; exact fst_ring (h.once v) (ha.2 v)

/-- Each turned about. -/
def mir (T : List (List Int)) : List (List Int) := T.map List.reverse
theorem getT_mir (T : List (List Int)) (v : Nat) : getT (mir T) v = (getT T v).reverse := getT_map _ List.reverse_nil T v

theorem Turns.mir (h : Turns g p T) : Turns g p (mir T) where
  right := h.right
  len := by rw [Rt.mir, List.length_map]; exact h.len
  once := fun v => by rw [getT_mir]; exact nodup_rev (h.once v)
  all := fun v hv d => by rw [getT_mir, List.mem_reverse]; exact h.all v (by simpa [Rt.mir] using hv) d
theorem Turns.bef_mir (h : Turns g p T) {d : Int} (hd : Dart p d) : befT g (Rt.mir T) d = aftT g T d := by
  unfold aftT befT; rw [getT_mir]; exact bef_rev (h.once _) (h.mem hd)
/-- What comes behind around a face, of the mirrored ones, is the twin of what comes ahead of the twin. -/
theorem Turns.nxt_mir (h : Turns g p T) {d : Int} (hd : Dart p d) : Rt.nxt g (Rt.mir T) d = twi (Rt.bak g T (twi d)) := by
  show befT g (Rt.mir T) (twi d) = twi (twi (aftT g T (twi d)))
  rw [h.bef_mir hd.twi, twi_twi]
/-! ### All darts, rising -/

def allD (p : Prt) : List Int := p.e.flatMap fun e => [2 * e, 2 * e + 1]
theorem allD_len (p : Prt) : (allD p).length = 2 * p.e.length := by
  unfold allD
  rw [List.length_flatMap]
  induction p.e with
  | nil => rfl
  | cons e l ih => rw [List.map_cons, List.sum_cons, ih, List.length_cons]; simp only [List.length_cons, List.length_nil]; omega
theorem get_pairs : ∀ (l : List Int) (n : Nat), n < 2 * l.length → getI (l.flatMap fun e => [2 * e, 2 * e + 1]) n = 2 * getI l (n / 2) + ((n % 2 : Nat) : Int)
  | [], n, h => absurd h (by simp)
  | e :: l, 0, _ => by simp [getI]
  | e :: l, 1, _ => by simp [getI]
  | e :: l, n + 2, h => by
    have ih := get_pairs l n (by rw [List.length_cons] at h; omega)
    have e1 : getI ((e :: l).flatMap fun e => [2 * e, 2 * e + 1]) (n + 2) = getI (l.flatMap fun e => [2 * e, 2 * e + 1]) n := by simp [getI]
    have e2 : getI (e :: l) ((n + 2) / 2) = getI l (n / 2) := by rw [show (n + 2) / 2 = n / 2 + 1 by omega]; simp [getI]
    rw [e1, e2, ih, show (n + 2) % 2 = n % 2 by omega]
theorem mem_allD (h : perr g p = 0) (d : Int) : d ∈ allD p ↔ Dart p d := by
  unfold allD Dart
  rw [List.mem_flatMap]
  constructor
  · rintro ⟨e, he, hd⟩
    have h1 := (perr_rises h).2.2.1.mem he
    simp only [List.mem_cons, List.not_mem_nil, or_false] at hd
    rcases hd with rfl | rfl
    · exact ⟨by omega, by rw [show 2 * e / 2 = e by omega]; exact he⟩
    · exact ⟨by omega, by rw [show (2 * e + 1) / 2 = e by omega]; exact he⟩
  · rintro ⟨h0, he⟩
    refine ⟨_, he, ?_⟩
    simp only [List.mem_cons, List.not_mem_nil, or_false]
    omega

/-! ### What the document looks at -/

/-- As many as there ought to be, each once, all of them there: these are they. -/
theorem same_things {l m : List Int} (hl : l.Nodup) (h : l.length = m.length) (ha : ∀ x ∈ l, x ∈ m) : ∀ x, x ∈ m ↔ x ∈ l := by
  intro x
  refine ⟨fun hx => Classical.byContradiction fun hn => ?_, ha x⟩
  have := once_len (l := x :: l) (m := m) (List.nodup_cons.2 ⟨hn, hl⟩) (fun y hy => by
    rcases List.mem_cons.1 hy with rfl | hy
    · exact hx
    · exact ha y hy)
  rw [List.length_cons] at this
  omega
theorem same_len {l m : List Int} (hl : l.Nodup) (hm : m.Nodup) (h : ∀ x, x ∈ m ↔ x ∈ l) : l.length = m.length :=
  Nat.le_antisymm (once_len hl fun x hx => (h x).2 hx) (once_len hm fun x hx => (h x).1 hx)

def turnB (g : Gph) (p : Prt) (T : List (List Int)) (v : Nat) : Bool :=
  decide ((dartsL g (v : Int) p.e).length = (getT T v).length) && (nodupB (getT T v) && (dartsL g (v : Int) p.e).all fun d => decide (d ∈ getT T v))
theorem turnB_iff (hp : perr g p = 0) (v : Nat) : turnB g p T v = true ↔ (getT T v).Nodup ∧ ∀ d, d ∈ getT T v ↔ d ∈ dartsL g (v : Int) p.e := by
  have hu : (dartsL g (v : Int) p.e).Nodup := (up_darts g v p.e (perr_rises hp).2.2.1.up).imp fun h => by omega
  unfold turnB nodupB
  rw [Bool.and_eq_true, Bool.and_eq_true, decide_eq_true_iff, decide_eq_true_iff, List.all_eq_true]
  constructor
  · rintro ⟨h1, h2, h3⟩
    exact ⟨h2, same_things hu h1 fun x hx => of_decide_eq_true (h3 x hx)⟩
  · rintro ⟨h1, h2⟩
    exact ⟨same_len hu h1 h2, h1, fun x hx => decide_eq_true ((h2 x).2 hx)⟩
/-- The error of turns, as the document has it. -/
def terr (g : Gph) (p : Prt) (T : List (List Int)) : Int := if perr g p = 0 then (if (T.length : Int) = g.n ∧ ∀ v, v < T.length → turnB g p T v = true then 0 else 5) else perr g p
theorem terr_iff : terr g p T = 0 ↔ Turns g p T := by
  unfold terr
  constructor
  · intro h
    split at h
    · rename_i hp
      split at h
      · rename_i ha
        refine ⟨hp, ha.1, fun v => ?_, fun v hv => ((turnB_iff hp v).1 (ha.2 v hv)).2⟩
        by_cases hv : v < T.length
        · exact ((turnB_iff hp v).1 (ha.2 v hv)).1
        · rw [getT_out _ _ hv]; exact List.nodup_nil
      · omega
    · rename_i hp; exact absurd h hp
  · intro h
    rw [if_pos h.right, if_pos ⟨h.len, fun v hv => (turnB_iff h.right v).2 ⟨h.once v, h.all v hv⟩⟩]

end Go.Proofs.YtmbpmepoaonleaaGreat.Rt
