/-
  A region that draws its order, by what holds whichever operations have been carried out; two lists of numbers, each made in four steps.
-/
import Derived.Test.YtfofidbgjfmepaaLawSH
import Derived.Orders
import Derived.Deep.RegionWith
namespace Go.Proofs.Ytfofidbgjfmepaa
open Go.RowKit Go.Maps

/-! ### A region that draws its order, by an invariant -/

/-- How many of the first n are not listed. -/
def missing (listed : Array Bool) : Nat → Nat
  | 0 => 0
  | n + 1 => missing listed n + (if listed.getD n true = true then 0 else 1)

theorem missing_le (listed : Array Bool) : ∀ n, missing listed n ≤ n
  | 0 => Nat.le_refl _
  | n + 1 => by
    have := missing_le listed n
    unfold missing
    split <;> omega

theorem missing_zero (listed : Array Bool) : ∀ n, missing listed n = 0 → ∀ i, i < n → listed.getD i true = true
  | 0, _, i, h => absurd h (Nat.not_lt_zero _)
  | n + 1, h, i, hi => by
    unfold missing at h
    by_cases e : i = n
    · subst e
      by_cases e2 : listed.getD i true = true
      · exact e2
      · rw [if_neg e2] at h; omega
    · exact missing_zero listed n (by omega) i (by omega)

theorem missing_same (listed : Array Bool) (i : Nat) : ∀ n, n ≤ i → missing (listed.setIfInBounds i true) n = missing listed n
  | 0, _ => rfl
  | n + 1, h => by
    unfold missing
    rw [missing_same listed i n (by omega), getD_set_ne true (by omega)]

theorem missing_set (listed : Array Bool) (i : Nat) (hi : listed.getD i true = false) : ∀ n, i < n → missing (listed.setIfInBounds i true) n + 1 = missing listed n
  | 0, h => absurd h (Nat.not_lt_zero _)
  | n + 1, h => by
    unfold missing
    by_cases e : i = n
    · subst e
      have hlt : i < listed.size := by
        rcases Nat.lt_or_ge i listed.size with h' | h'
        · exact h'
        · simp [Array.getElem?_eq_none h'] at hi
      have hs : (listed.setIfInBounds i true).getD i true = true := by simp [hlt]
      rw [missing_same listed i i (Nat.le_refl _), if_pos hs, if_neg (by rw [hi]; decide)]
    · have := missing_set listed i hi n (by omega)
      rw [getD_set_ne true e]
      omega

theorem wpAny_inv {P : Program} {ops : Array Oper} {Q : Exit → Act → World → Prop} {md : Region.Mode} (Inv : Array Bool → Act → World → Prop)
    (hdone : ∀ listed a w, Region.ready md ops listed = [] → Inv listed a w → Q .normal a w)
    (hstep : ∀ listed a w i, i ∈ Region.ready md ops listed → Inv listed a w → wpOp P ops Q i (Inv (listed.setIfInBounds i true)) a w) :
    ∀ fuel listed a w, missing listed ops.size ≤ fuel → Inv listed a w → wpAny P md ops Q fuel listed a w := by
  intro fuel
  induction fuel with
  | zero =>
    intro listed a w hf hI
    have hr : Region.ready md ops listed = [] := by
      rw [List.eq_nil_iff_forall_not_mem]
      intro i hi
      obtain ⟨h1, o, ho, _⟩ := mem_ready.1 hi
      have := missing_zero listed ops.size (by omega) i (Array.getElem?_eq_some_iff.1 ho).1
      rw [h1] at this; cases this
    exact ⟨hr, hdone _ _ _ hr hI⟩
  | succ fuel ih =>
    intro listed a w hf hI
    refine ⟨fun hr => hdone _ _ _ hr hI, fun i hi => wpOp_mono (fun a' w' h' => ih _ _ _ ?_ h') (hstep _ _ _ i hi hI)⟩
    obtain ⟨h1, o, ho, _⟩ := mem_ready.1 hi
    have := missing_set listed i h1 ops.size (Array.getElem?_eq_some_iff.1 ho).1
    omega

theorem wpOp_of {P : Program} {ops : Array Oper} {Q : Exit → Act → World → Prop} {i : Nat} {o : Oper} {K : Act → World → Prop} {a : Act} {w : World} (hi : ops[i]? = some o) (hg : o.guard = none) (h : o.wp P a w K Q) : wpOp P ops Q i K a w := by
  unfold wpOp
  rw [hi]
  simp only
  rw [if_pos (by simp [Region.wanted, hg])]
  exact .inl h

theorem not_ready {ops : Array Oper} {md : Region.Mode} {listed : Array Bool} (h : Region.ready md ops listed = []) (i : Nat) (o : Oper) (hi : ops[i]? = some o) (hd : ∀ e ∈ o.after, Region.binds md e = true → listed.getD e.on false = true) :
    listed.getD i true = true := by
  by_cases e : listed.getD i true = true
  · exact e
  · have hm : i ∈ Region.ready md ops listed := mem_ready.2 ⟨Bool.eq_false_iff.2 e, o, hi, hd⟩
    rw [h] at hm; cases hm

/-! ### An append of any list of numbers, as one step -/

theorem run_append_empty {P : Program} {w : World} {base n : Nat} {t ty e : TypeId} {i : TypeInfo} {size : Nat} {v : Value} {xs : List Value} (ht : P.underlying t = some (.slice e)) (hi : P.info? e = some i)
    (hown : w.ownsRow base e size v n xs) (A' : Option Addr) (cap' : Nat) : (Builtin.append_ #[t, t] ty #[v, .slice A' 0 cap']).run P w = .ok v w := by
  rcases hown.2 with ⟨rfl, rfl⟩ | ⟨g, cap, cur, rfl, _, _, hnc, _⟩
  · cases A' <;> simp [Builtin.append_, run_underlying ht, sizeOf, typeInfo, hi, Builtin.lenOf, Builtin.firstCells, loadCells, loadCellsFrom]
  · cases A' <;> simp [Builtin.append_, run_underlying ht, sizeOf, typeInfo, hi, Builtin.lenOf, Builtin.firstCells, hnc, storeCells, loadCells, loadCellsFrom]

theorem run_append_ints {w : World} (ty : TypeId) (base : Nat) (v : Value) (n : Nat) (xs : List Value) (hown : w.ownsRow base 3 1 v n xs) (u : Value) (m : List Int) (hI : Ints w u m) (h63 : n + m.length ≤ 1000001) (hbase : base ≤ w.heap.size) :
    ∃ v' w', (Builtin.append_ #[32, 32] ty #[v, u]).run Try.prog w = .ok v' w' ∧ w'.ownsRow base 3 1 v' (n + m.length) (xs ++ m.map (Value.int .i64)) ∧ w.grownBy w' v.ownBlock ∧ (v'.ownBlock = v.ownBlock ∨ v'.ownBlock = some w.heap.size) := by
  obtain ⟨A', cap', rfl, hc, _, hr⟩ := hI
  obtain ⟨i0, hi, hz0, hz1, hz2⟩ := info_parts Try.infoInt
  by_cases h0 : m.length = 0
  · have e0 : m = [] := List.length_eq_zero_iff.1 h0
    subst e0
    exact ⟨v, w, run_append_empty Try.underlying32 hi hown A' cap', by simpa using hown, ⟨rfl, rfl, rfl, Nat.le_refl _, fun _ _ _ => rfl⟩, .inl rfl⟩
  · obtain ⟨b, off, rfl, hb, hg⟩ := hr (by omega)
    obtain ⟨v', w', h1, h2, h3, _, h5⟩ := run_append_own_at (P := Try.prog) w base 32 ty 3 i0 (.int .i64 0) 1 8 Try.underlying32 hi hz0 hz1 hz2 rfl (by decide) v n xs hown ⟨b, off, none⟩ m.length cap' (m.map (Value.int .i64)) (by simp)
      (fun j u hu => by
        obtain ⟨hj, rfl⟩ : j < m.length ∧ u = .int .i64 (getI m j) := by
          rw [List.getElem?_eq_some_iff] at hu
          obtain ⟨h1, h2⟩ := hu
          simp at h1
          refine ⟨h1, ?_⟩
          rw [← h2, List.getElem_map, getI_of m j h1]
        rw [Addr.add_lit]
        exact hg j hj) (fun u hu => by obtain ⟨z, _, rfl⟩ := List.mem_map.1 hu; rfl) (by unfold maxLen; omega) (by omega) hbase
    exact ⟨v', w', h1, h2, h3, h5⟩

theorem wp_append_ints {w : World} {o : Oper} {a : Act} {K : Act → World → Prop} {Q : Exit → Act → World → Prop} (s x : Operand) (ho : o.op = .call { callee := .builtin .append, args := #[s, x], argTypes := #[32, 32] })
    (base : Nat) (v : Value) (n : Nat) (xs : List Value) (hs : a.eval s = v) (hown : w.ownsRow base 3 1 v n xs) (u : Value) (m : List Int) (hx : a.eval x = u) (hI : Ints w u m) (h63 : n + m.length ≤ 1000001) (hbase : base ≤ w.heap.size)
    (h : ∀ v' w', w'.ownsRow base 3 1 v' (n + m.length) (xs ++ m.map (Value.int .i64)) → w.grownBy w' v.ownBlock → (v'.ownBlock = v.ownBlock ∨ v'.ownBlock = some w.heap.size) → K (a.put o.dst v') w') : o.wp Try.prog a w K Q := by
  obtain ⟨v', w', hr, h2, h3, h4⟩ := run_append_ints o.type base v n xs hown u m hI h63 hbase
  unfold Oper.wp execOp
  simp only [ho, resolve, invoke, builtin, Sem.run_bind, Sem.run_pure, Result.andThen_ok, List.map_toArray, List.map_cons, List.map_nil, hs, hx, hr]
  exact h v' w' h2 h3 h4

/-! ### A list with one number more, made in four steps: an empty one; all of the old list; the number in a list of its own; both -/

structure Chn (base : Nat) (w : World) (F : Nat → Prop) (b0 c1 b2 c3 : Bool) (V0 V1 V2 V3 : Value) (xs : List Int) (x : Int) : Prop where
  dom : ∀ k, F k → base ≤ k ∧ k < w.heap.size
  o1 : c1 = true → b0 = true
  o3 : c3 = true → c1 = true ∧ b2 = true
  h0 : b0 = true → c1 = false → w.ownsRow base 3 1 V0 0 [] ∧ ∀ k, V0.ownBlock = some k → F k
  h1 : c1 = true → c3 = false → w.ownsRow base 3 1 V1 xs.length (xs.map (Value.int .i64)) ∧ ∀ k, V1.ownBlock = some k → F k
  h2 : b2 = true → c3 = false → ∃ h, V2 = .slice (some ⟨h, 0, none⟩) 1 1 ∧ F h ∧ w.heap[h]? = some (.cells #[.int .i64 x] 3 (0, 0)) ∧ (b0 = true → c1 = false → V0.ownBlock ≠ some h)
  h3 : c3 = true → w.ownsRow base 3 1 V3 (xs.length + 1) ((xs ++ [x]).map (Value.int .i64)) ∧ ∀ k, V3.ownBlock = some k → F k

theorem Chn.start (base : Nat) (w : World) (V0 V1 V2 V3 : Value) (xs : List Int) (x : Int) : Chn base w (fun _ => False) false false false false V0 V1 V2 V3 xs x :=
  ⟨fun _ h => h.elim, fun h => (by cases h), fun h => (by cases h), fun h => (by cases h), fun h => (by cases h), fun h => (by cases h), fun h => (by cases h)⟩

variable {base : Nat} {w w1 : World} {F : Nat → Prop} {b0 c1 b2 c3 : Bool} {V0 V1 V2 V3 : Value} {xs : List Int} {x : Int}

theorem Chn.kept (h : Chn base w F b0 c1 b2 c3 V0 V1 V2 V3 xs x) (hs : ∀ k, F k → w1.heap[k]? = w.heap[k]?) (hz : w.heap.size ≤ w1.heap.size) : Chn base w1 F b0 c1 b2 c3 V0 V1 V2 V3 xs x := by
  refine ⟨fun k hk => ⟨(h.dom k hk).1, Nat.lt_of_lt_of_le (h.dom k hk).2 hz⟩, h.o1, h.o3, fun e1 e2 => ?_, fun e1 e2 => ?_, fun e1 e2 => ?_, fun e1 => ?_⟩
  · obtain ⟨a, b⟩ := h.h0 e1 e2
    exact ⟨own_block a (fun g hg => hs g (b g hg)), b⟩
  · obtain ⟨a, b⟩ := h.h1 e1 e2
    exact ⟨own_block a (fun g hg => hs g (b g hg)), b⟩
  · obtain ⟨g, a, b, c, d⟩ := h.h2 e1 e2
    exact ⟨g, a, b, (hs g b).trans c, d⟩
  · obtain ⟨a, b⟩ := h.h3 e1
    exact ⟨own_block a (fun g hg => hs g (b g hg)), b⟩

theorem Chn.below (h : Chn base w F b0 c1 b2 c3 V0 V1 V2 V3 xs x) (hb : Below w.heap.size w w1) : Chn base w1 F b0 c1 b2 c3 V0 V1 V2 V3 xs x :=
  h.kept (fun k hk => hb.block k (h.dom k hk).2) hb.size

/-- What is made now is the list's own, too. -/
def Wider (F : Nat → Prop) (w w1 : World) : Nat → Prop := fun k => F k ∨ (w.heap.size ≤ k ∧ k < w1.heap.size)

theorem Chn.wider (h : Chn base w1 F b0 c1 b2 c3 V0 V1 V2 V3 xs x) (hb : base ≤ w.heap.size) : Chn base w1 (Wider F w w1) b0 c1 b2 c3 V0 V1 V2 V3 xs x := by
  refine ⟨fun k hk => hk.elim (h.dom k) (fun h => ⟨by omega, h.2⟩), h.o1, h.o3, fun e1 e2 => ?_, fun e1 e2 => ?_, fun e1 e2 => ?_, fun e1 => ?_⟩
  · obtain ⟨a, b⟩ := h.h0 e1 e2
    exact ⟨a, fun k hk => .inl (b k hk)⟩
  · obtain ⟨a, b⟩ := h.h1 e1 e2
    exact ⟨a, fun k hk => .inl (b k hk)⟩
  · obtain ⟨g, a, b, c, d⟩ := h.h2 e1 e2
    exact ⟨g, a, .inl b, c, d⟩
  · obtain ⟨a, b⟩ := h.h3 e1
    exact ⟨a, fun k hk => .inl (b k hk)⟩

theorem Chn.step0 (h : Chn base w F false c1 b2 c3 V0 V1 V2 V3 xs x) (hb : base ≤ w.heap.size) :
    Chn base (w.alloc (.cells #[] 3)) (Wider F w (w.alloc (.cells #[] 3))) true c1 b2 c3 (.slice (some ⟨w.heap.size, 0, none⟩) 0 0) V1 V2 V3 xs x := by
  have hc : c1 = false := Bool.eq_false_iff.2 (fun e => by have := h.o1 e; cases this)
  subst hc
  have hc3 : c3 = false := Bool.eq_false_iff.2 (fun e => by have := (h.o3 e).1; cases this)
  subst hc3
  have h' := (h.below (below_alloc (.cells #[] 3))).wider (w := w) hb
  refine ⟨h'.dom, fun e => (by cases e), fun e => (by cases e), fun _ _ => ⟨?_, fun k hk => ?_⟩, h'.h1, fun e1 e2 => ?_, fun e => (by cases e)⟩
  · exact World.ownsRow_made w #[] 0 hb (by unfold maxLen; omega) rfl
  · cases hk; exact .inr ⟨Nat.le_refl _, by simp⟩
  · obtain ⟨g, a, b, c, _⟩ := h'.h2 e1 e2
    obtain ⟨g', a', b', _⟩ := h.h2 e1 e2
    refine ⟨g, a, b, c, fun _ _ e => ?_⟩
    rw [a'] at a
    simp only [Value.slice.injEq, Option.some.injEq, Addr.mk.injEq] at a
    have e' : w.heap.size = g := by simpa [Value.ownBlock] using e
    have hlt := (h.dom g' b').2
    have hgg : g' = g := by simpa using a
    omega

theorem Chn.step2 (h : Chn base w F b0 c1 false c3 V0 V1 V2 V3 xs x) (hb : base ≤ w.heap.size) :
    Chn base (w.alloc (.cells #[.int .i64 x] 3)) (Wider F w (w.alloc (.cells #[.int .i64 x] 3))) b0 c1 true c3 V0 V1 (.slice (some ⟨w.heap.size, 0, none⟩) 1 1) V3 xs x := by
  have hc3 : c3 = false := Bool.eq_false_iff.2 (fun e => by have := (h.o3 e).2; cases this)
  subst hc3
  have h' := (h.below (below_alloc (.cells #[.int .i64 x] 3))).wider (w := w) hb
  refine ⟨h'.dom, h.o1, fun e => (by cases e), h'.h0, h'.h1, fun _ _ => ⟨w.heap.size, rfl, .inr ⟨Nat.le_refl _, by simp⟩, heap_alloc_new w _, fun e1 e2 e3 => ?_⟩, fun e => (by cases e)⟩
  obtain ⟨_, hF⟩ := h.h0 e1 e2
  have := (h.dom _ (hF _ e3)).2
  omega

theorem Chn.step1 (h : Chn base w F true false b2 c3 V0 V1 V2 V3 xs x) (hb : base ≤ w.heap.size) {V1' : Value} (ho : w1.ownsRow base 3 1 V1' (0 + xs.length) ([] ++ xs.map (Value.int .i64))) (hg : w.grownBy w1 V0.ownBlock) (hat : V1'.ownBlock = V0.ownBlock ∨ V1'.ownBlock = some w.heap.size) :
    Chn base w1 (Wider F w w1) true true b2 c3 V0 V1' V2 V3 xs x := by
  have hc3 : c3 = false := Bool.eq_false_iff.2 (fun e => by have := (h.o3 e).1; cases this)
  subst hc3
  obtain ⟨_, hF⟩ := h.h0 rfl rfl
  refine ⟨fun k hk => hk.elim (fun f => ⟨(h.dom k f).1, Nat.lt_of_lt_of_le (h.dom k f).2 hg.size⟩) (fun f => ⟨by omega, f.2⟩), fun _ => rfl, fun e => (by cases e), fun _ e => (by cases e), fun _ _ => ⟨by simpa using ho, fun k hk => ?_⟩, fun e1 _ => ?_, fun e => (by cases e)⟩
  · rcases hat with e | e
    · rw [e] at hk; exact .inl (hF k hk)
    · rw [e] at hk; cases hk; exact .inr ⟨Nat.le_refl _, (ho.lt _ e).2⟩
  · obtain ⟨g, a, b, c, d⟩ := h.h2 e1 rfl
    exact ⟨g, a, .inl b, (hg.block g (h.dom g b).2 (fun e => d rfl rfl e.symm)).trans c, fun _ e => (by cases e)⟩

theorem Chn.step3 (h : Chn base w F b0 true true false V0 V1 V2 V3 xs x) (hb : base ≤ w.heap.size) {V3' : Value} (ho : w1.ownsRow base 3 1 V3' (xs.length + 1) (xs.map (Value.int .i64) ++ [x].map (Value.int .i64))) (hg : w.grownBy w1 V1.ownBlock) (hat : V3'.ownBlock = V1.ownBlock ∨ V3'.ownBlock = some w.heap.size) :
    Chn base w1 (Wider F w w1) b0 true true true V0 V1 V2 V3' xs x := by
  obtain ⟨_, hF⟩ := h.h1 rfl rfl
  refine ⟨fun k hk => hk.elim (fun f => ⟨(h.dom k f).1, Nat.lt_of_lt_of_le (h.dom k f).2 hg.size⟩) (fun f => ⟨by omega, f.2⟩), h.o1, fun _ => ⟨rfl, rfl⟩, fun _ e => (by cases e), fun _ e => (by cases e), fun _ e => (by cases e), fun _ => ⟨by rw [List.map_append]; exact ho, fun k hk => ?_⟩⟩
  rcases hat with e | e
  · rw [e] at hk; exact .inl (hF k hk)
  · rw [e] at hk; cases hk; exact .inr ⟨Nat.le_refl _, (ho.lt _ e).2⟩

theorem Chn.src2 (h : Chn base w F b0 c1 true false V0 V1 V2 V3 xs x) : Ints w V2 [x] := by
  obtain ⟨g, rfl, b, c, _⟩ := h.h2 rfl rfl
  refine ⟨some ⟨g, 0, none⟩, 1, rfl, Nat.le_refl _, by unfold maxLen; omega, fun _ => ⟨g, 0, rfl, (h.dom g b).2, fun j hj => ?_⟩⟩
  obtain rfl : j = 0 := by simp at hj; exact hj
  rw [cell_of_row w g _ #[.int .i64 x] 3 (0, 0) c]
  rfl

end Go.Proofs.Ytfofidbgjfmepaa
