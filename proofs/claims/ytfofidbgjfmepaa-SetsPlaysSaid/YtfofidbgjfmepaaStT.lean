/-
  The last lines of the law that plays both: what comes behind a region's only call, and the groups' numbers as cells.
-/
import Derived.Test.YtfofidbgjfmepaaStS
import Derived.Deep.RegionWith
import Derived.Deep.RegionHeld3
import Derived.StillTactics
namespace Go.Proofs.Ytfofidbgjfmepaa
open Go.RowKit Go.Maps

/-- From the k-th operation on they only read, and may be carried out in their order. -/
theorem wpAny_rest {P : Program} {md : Region.Mode} {l : List Oper} {Q : Exit → Act → World → Prop} (k : Nat) {fuel : Nat} {listed : Array Bool} {a : Act} {w : World}
    (hs : Region.noSelect l.toArray = true) (hf : (l.drop k).length = fuel) (hB : Region.lexFrom md l.toArray fuel k listed = true)
    (h : wpStill P l.toArray w (fun a' => Q .normal a' w) (l.drop k) a) : wpAny P md l.toArray Q fuel listed a w := by
  subst hf
  exact wpAny_of_still (Q := fun a' => Q .normal a' w) (fun _ h => h) _ _ _ (wpAnyS_lex hs (l.drop k) k listed a (fun j => by simp [List.getElem?_drop]) hB h)

/-- A wanted operation that only reads, with what it gives; and one that its guard leaves out. -/
theorem wpStill_yes {P : Program} {ops : Array Oper} {w : World} {Q : Act → Prop} {o : Oper} {rest : List Oper} {a : Act} (v : Value)
    (hw : Region.wanted o (yielded ops a.tmps) = true) (hv : (execOp a.eval o).run P w = .ok (.value v) w) (h : wpStill P ops w Q rest (a.put o.dst v)) : wpStill P ops w Q (o :: rest) a := by
  show if Region.wanted o (yielded ops a.tmps) = true then o.still P a w (wpStill P ops w Q rest) else wpStill P ops w Q rest (a.put o.dst undef)
  rw [if_pos hw]
  unfold Oper.still
  rw [hv]
  exact ⟨rfl, h⟩
theorem wpStill_no {P : Program} {ops : Array Oper} {w : World} {Q : Act → Prop} {o : Oper} {rest : List Oper} {a : Act}
    (hw : Region.wanted o (yielded ops a.tmps) = false) (h : wpStill P ops w Q rest (a.put o.dst undef)) : wpStill P ops w Q (o :: rest) a := by
  show if Region.wanted o (yielded ops a.tmps) = true then o.still P a w (wpStill P ops w Q rest) else wpStill P ops w Q rest (a.put o.dst undef)
  rw [if_neg (by rw [hw]; decide)]
  exact h

/-! ### A frame of which only some slots are known -/

def Knows (a : Act) (n : Nat) (l : List (Nat × Value)) : Prop := a.defers = [] ∧ a.tmps.size = n ∧ ∀ k v, l.lookup k = some v → a.tmps[k]? = some v

theorem Knows.nil {a : Act} {n : Nat} (h1 : a.defers = []) (h2 : a.tmps.size = n) : Knows a n [] := ⟨h1, h2, fun _ _ h => by cases h⟩
theorem Knows.also {a : Act} {n : Nat} {l : List (Nat × Value)} (K : Knows a n l) (d : Nat) (v : Value) (h : a.tmps[d]? = some v) : Knows a n ((d, v) :: l) := by
  refine ⟨K.1, K.2.1, fun k u hk => ?_⟩
  by_cases e : k = d
  · subst e
    simp only [List.lookup, beq_self_eq_true] at hk
    cases hk; exact h
  · simp only [List.lookup, show (k == d) = false from beq_eq_false_iff_ne.2 e] at hk
    exact K.2.2 k u hk
theorem Knows.put {a : Act} {n : Nat} {l : List (Nat × Value)} (K : Knows a n l) (d : Nat) (v : Value) (hd : d < n) : Knows (a.put (some d) v) n ((d, v) :: l) := by
  have K' : Knows (a.put (some d) v) n (l.filter fun q => q.1 != d) := by
    refine ⟨K.1, by show (a.tmps.setIfInBounds d v).size = n; rw [Array.size_setIfInBounds]; exact K.2.1, fun k u hk => ?_⟩
    have key : ∀ l : List (Nat × Value), (l.filter fun q => q.1 != d).lookup k = some u → k ≠ d ∧ l.lookup k = some u := by
      intro l
      induction l with
      | nil => intro h; cases h
      | cons q l ih =>
        intro h
        by_cases e : q.1 = d
        · rw [List.filter_cons_of_neg (by simp [e])] at h
          obtain ⟨h1, h2⟩ := ih h
          obtain ⟨q1, q2⟩ := q
          refine ⟨h1, ?_⟩
          simp only [List.lookup, show (k == q1) = false from beq_eq_false_iff_ne.2 (fun e2 => h1 (e2.trans e))]
          exact h2
        · rw [List.filter_cons_of_pos (by simp [e])] at h
          obtain ⟨q1, q2⟩ := q
          simp only [List.lookup] at h ⊢
          by_cases e2 : k = q1
          · subst e2
            simp only [beq_self_eq_true] at h ⊢
            exact ⟨e, h⟩
          · simp only [show (k == q1) = false from beq_eq_false_iff_ne.2 e2] at h ⊢
            exact ih h
    obtain ⟨h1, h2⟩ := key l hk
    show (a.tmps.setIfInBounds d v)[k]? = some u
    rw [Array.getElem?_setIfInBounds_ne (Ne.symm h1)]
    exact K.2.2 k u h2
  refine ⟨K'.1, K'.2.1, fun k u hk => ?_⟩
  by_cases e : k = d
  · subst e
    simp only [List.lookup, beq_self_eq_true] at hk
    cases hk
    show (a.tmps.setIfInBounds k v)[k]? = some v
    rw [Array.getElem?_setIfInBounds_self_of_lt (by rw [K.2.1]; exact hd)]
  · simp only [List.lookup, show (k == d) = false from beq_eq_false_iff_ne.2 e] at hk
    show (a.tmps.setIfInBounds d v)[k]? = some u
    rw [Array.getElem?_setIfInBounds_ne (Ne.symm e)]
    exact K.2.2 k u hk
theorem Knows.at_ {a : Act} {n : Nat} {l : List (Nat × Value)} (K : Knows a n l) {k : Nat} {v : Value} (h : l.lookup k = some v) : a.tmps[k]? = some v := K.2.2 k v h
theorem Knows.wanted {a : Act} {n : Nat} {l : List (Nat × Value)} (K : Knows a n l) {ops : Array Oper} {o : Oper} {g t : Nat} {want b c : Bool} (hg : o.guard = some (g, want))
    (ht : (ops[g]?).bind (·.dst) = some t) (hl : l.lookup t = some (.bool b)) (hc : (b == want) = c) : Region.wanted o (yielded ops a.tmps) = c := by
  subst hc
  have e := K.2.2 t _ hl
  unfold Region.wanted yielded
  simp only [hg, ht, Option.bind_some, e]
  cases b <;> cases want <;> rfl

section
variable {P : Program} {ops : Array Oper} {w : World} {Q : Act → Prop} {o : Oper} {rest : List Oper} {a : Act} {n : Nat} {l : List (Nat × Value)}
theorem kn_start (K : Knows a n l) (h : ∀ a', Knows a' n l → wpStill P ops w Q rest a') : wpStill P ops w Q rest a := h a K
theorem kn_yes (K : Knows a n l) (d : Nat) (v : Value) (hd : o.dst = some d) (hlt : d < n) (hw : Region.wanted o (yielded ops a.tmps) = true) (hv : (execOp a.eval o).run P w = .ok (.value v) w)
    (h : ∀ a', Knows a' n ((d, v) :: l) → wpStill P ops w Q rest a') : wpStill P ops w Q (o :: rest) a := by
  refine wpStill_yes v hw hv ?_
  rw [hd]
  exact h _ (K.put d v hlt)
theorem kn_no (K : Knows a n l) (d : Nat) (hd : o.dst = some d) (hlt : d < n) (hw : Region.wanted o (yielded ops a.tmps) = false)
    (h : ∀ a', Knows a' n ((d, undef) :: l) → wpStill P ops w Q rest a') : wpStill P ops w Q (o :: rest) a := by
  refine wpStill_no hw ?_
  rw [hd]
  exact h _ (K.put d undef hlt)
theorem kn_move (K : Knows a n l) {k : Nat} {v : Value} (ho : o.op = .move (.tmp k) ∨ o.op = .assign (.tmp k)) (hl : l.lookup k = some v) : (execOp a.eval o).run P w = .ok (.value v) w := by
  have e := K.2.2 k v hl
  have ev : a.eval (.tmp k) = v := by show a.tmps.getD k undef = v; simp [e]
  unfold execOp
  rcases ho with ho | ho <;> simp [ho, ev]
end

variable {w0 w w1 : World} {F : Nat → Prop} {sb MB : Nat} {sS sM : St} {A1 A2 : Option Addr} {c1 c2 : Nat}

/-- The groups' numbers, as cells. -/
theorem Pl.grAt (h : Pl w0 F sb MB sS sM A1 c1 A2 c2 w) (h0 : 0 < sM.ts.length) :
    ∃ b off, A2 = some ⟨b, off, none⟩ ∧ ∀ j, j < sM.ts.length → w.cell? ⟨b, off + j, none⟩ = some (.int .i64 (getN sM.gr j : Int)) := by
  obtain ⟨va, vg, e, _, h2, _, _⟩ := h.ref
  cases e
  have hl := h.ok.len
  obtain ⟨b, off, hA, _, hc⟩ := h2.at_ rfl (j := 0) (by rw [natsI_length, hl]; exact h0)
  refine ⟨b, off, hA, fun j hj => ?_⟩
  rw [hc j (by rw [natsI_length, hl]; exact hj), natsI_get _ _ (by rw [hl]; exact hj)]

end Go.Proofs.Ytfofidbgjfmepaa
