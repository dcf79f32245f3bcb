/-
  GrG, GrH, in one text.
-/
import Derived.Test.YtohaopfpjkhheaaGrF
/-! The program's Ends. -/
namespace Go.Proofs.Ytohaopfpjkhheaa
open Go.RowKit

/-- What Ends answers. -/
def endsOf (g : Gph) (d : Int) : Value := if g.err = 0 ∧ 0 ≤ d ∧ d < 2 * (g.e.length : Int) then .tuple #[.int .i64 (tailOf g d.toNat), .int .i64 (headOf g d.toNat), .bool true] else .tuple #[.int .i64 0, .int .i64 0, .bool false]

theorem ret_val {a b : Value} (h : a = b) : Ending.returned a = .returned b := by rw [h]

end Go.Proofs.Ytohaopfpjkhheaa

/-! Darts: the program's and the document's. -/
namespace Go.Proofs.Ytohaopfpjkhheaa
open Go.RowKit

/-- append(l, x): the list has one number more. -/
theorem wpList_append1 {wr : World} {ops : Array Oper} {rest : List Oper} {o : Oper} {a : Act} {Q : Exit → Act → World → Prop} (hgd : o.guard = none) (s x : Operand)
    (ho : o.op = .call { callee := .builtin .append, args := #[s, x], argTypes := #[25, 25] })
    {base : Nat} {v : Value} {L : List Int} {z : Int} (hs : a.eval s = v) (hx : a.eval x = .slice (some ⟨wr.heap.size, 0, none⟩) 1 1) (hown : Row wr base v L) (hbase : base ≤ wr.heap.size) (hL : L.length ≤ 4000000)
    (h : ∀ v' w', Row w' base v' (L ++ [z]) → Below base wr w' → wpList Try.prog ops Q rest (a.put o.dst v') w') : wpList Try.prog ops Q (o :: rest) a (wr.alloc (.cells #[.int .i64 z] 3)) := by
  obtain ⟨i0, hi, hz0, hz1, hz2⟩ := info_parts Try.infoInt
  refine wpList_append_own _ hgd s x 25 ho base 3 i0 _ 1 8 Try.underlying25 hi hz0 hz1 hz2 rfl (by decide) v L.length (L.map (Value.int .i64)) hs (World.ownsRow.alloc hown _) ⟨wr.heap.size, 0, none⟩ 1 1 [.int .i64 z] hx rfl (cell_one_new _ _ _) (by simp [Value.oneCell']) (by unfold maxLen; omega) (by omega) (by simp; omega) ?_
  intro v' w1 h1 h2 _
  refine h v' w1 ?_ (((Below.refl base wr).alloc hbase _).grown h2 (by simp; omega) (fun k hk => (World.ownsRow.lt hown k hk).1))
  show w1.ownsRow _ _ _ _ _ _
  rw [List.length_append, List.map_append]
  exact h1

/-- The darts of an edge that leave v. -/
def dOf (g : Gph) (v : Int) (e : Int) : List Int := (if (getE g.e e.toNat).a = v then [2 * e] else []) ++ (if (getE g.e e.toNat).b = v then [2 * e + 1] else [])
def dartsL (g : Gph) (v : Int) (l : List Int) : List Int := l.flatMap (dOf g v)
def dartsOf (g : Gph) (p : Prt) (v : Int) : List Int := if perr g p = 0 then dartsL g v p.e else []

theorem dartsL_succ (g : Gph) (v : Int) (l : List Int) (k : Nat) (h : k < l.length) : dartsL g v (l.take (k + 1)) = dartsL g v (l.take k) ++ dOf g v (getI l k) := by
  rw [take_succ_getI l k h]
  simp [dartsL]
theorem dOf_len (g : Gph) (v e : Int) : (dOf g v e).length ≤ 2 := by unfold dOf; split <;> split <;> simp
theorem dartsL_len (g : Gph) (v : Int) : ∀ l, (dartsL g v l).length ≤ 2 * l.length
  | [] => Nat.le_refl _
  | e :: l => by
    have h1 := dartsL_len g v l
    have h2 := dOf_len g v e
    simp only [dartsL, List.flatMap_cons, List.length_append, List.length_cons] at h1 ⊢
    omega

theorem perr_rises {g : Gph} {p : Prt} (h : perr g p = 0) : g.err = 0 ∧ Rises p.v g.n ∧ Rises p.e g.e.length ∧ ∀ e ∈ p.e, (getE g.e e.toNat).a ∈ p.v ∧ (getE g.e e.toNat).b ∈ p.v := by
  unfold perr at h
  split at h
  · rename_i he
    split at h
    · rename_i hr
      rw [Bool.and_eq_true] at hr
      split at h
      · rename_i ha
        rw [List.all_eq_true] at ha
        refine ⟨he, of_decide_eq_true hr.1, of_decide_eq_true hr.2, fun e he' => ?_⟩
        have := ha e he'
        unfold endsIn at this
        rw [Bool.and_eq_true] at this
        exact ⟨of_decide_eq_true this.1, of_decide_eq_true this.2⟩
      · omega
    · omega
  · rename_i he; exact absurd h he

theorem edges_block {w : World} {l : List Ed} {b off n c : Nat} (h : Edges w (.slice (some ⟨b, off, none⟩) n c) l) {j : Nat} (hj : j < l.length) : b < w.heap.size := by
  obtain ⟨b', off', e, hb, _⟩ := edges_at h hj
  cases e; exact hb
theorem edges_snd {w : World} {l : List Ed} {b off n c : Nat} (h : Edges w (.slice (some ⟨b, off, none⟩) n c) l) {j : Nat} (hj : j < l.length) : w.cell? ⟨b, off + j * 2 + 1, none⟩ = some (.int .i64 (getE l j).b) := by
  obtain ⟨b', off', e, _, _, h2⟩ := edges_at h hj
  cases e; exact h2
theorem edges_fst {w : World} {l : List Ed} {b off n c : Nat} (h : Edges w (.slice (some ⟨b, off, none⟩) n c) l) {j : Nat} (hj : j < l.length) : w.cell? ⟨b, off + j * 2, none⟩ = some (.int .i64 (getE l j).a) := by
  obtain ⟨b', off', e, _, h1, _⟩ := edges_at h hj
  cases e; exact h1

end Go.Proofs.Ytohaopfpjkhheaa
