/-
  The document's Span.
-/
import Derived.Test.YtohaopfpjkhheaaGrT
import Derived.Lib.AppendZeros
namespace Go.Proofs.Ytohaopfpjkhheaa
open Go.RowKit

theorem run_append_empty {P : Program} {w : World} {base n : Nat} {t ty e : TypeId} {i : TypeInfo} {size : Nat} {v : Value} {xs : List Value} (ht : P.underlying t = some (.slice e)) (hi : P.info? e = some i)
    (hown : w.ownsRow base e size v n xs) (A' : Option Addr) (cap' : Nat) : (Builtin.append_ #[t, t] ty #[v, .slice A' 0 cap']).run P w = .ok v w := by
  rcases hown.2 with ⟨rfl, rfl⟩ | ⟨g, cap, cur, rfl, _, _, hnc, _⟩
  · cases A' <;> simp [Builtin.append_, run_underlying ht, sizeOf, typeInfo, hi, Builtin.lenOf, Builtin.firstCells, loadCells, loadCellsFrom]
  · cases A' <;> simp [Builtin.append_, run_underlying ht, sizeOf, typeInfo, hi, Builtin.lenOf, Builtin.firstCells, hnc, storeCells, loadCells, loadCellsFrom]

/-- append(l, m..): a whole list behind another. -/
theorem wpList_append_all {w : World} {ops : Array Oper} {rest : List Oper} {o : Oper} {a : Act} {Q : Exit → Act → World → Prop} (hgd : o.guard = none) (s x : Operand)
    (ho : o.op = .call { callee := .builtin .append, args := #[s, x], argTypes := #[25, 25] })
    {base : Nat} {v : Value} {L : List Int} (hs : a.eval s = v) (hown : Row w base v L) {u : Value} {m : List Int} (hx : a.eval x = u) (hI : Ints w u m) (h63 : L.length + m.length ≤ 4000000) (hbase : base ≤ w.heap.size)
    (h : ∀ v' w', Row w' base v' (L ++ m) → Below base w w' → wpList Try.prog ops Q rest (a.put o.dst v') w') : wpList Try.prog ops Q (o :: rest) a w := by
  obtain ⟨i0, hi, hz0, hz1, hz2⟩ := info_parts Try.infoInt
  obtain ⟨A', cap', rfl, hc, _, hr⟩ := hI
  by_cases h0 : m.length = 0
  · have e0 : m = [] := List.length_eq_zero_iff.1 h0
    subst e0
    refine Lib.wpList_append_run w hgd s x 25 25 ho v (.slice A' 0 cap') hs hx v w (run_append_empty Try.underlying25 hi hown A' cap') (h v w ?_ (Below.refl _ _))
    rw [List.append_nil]; exact hown
  · obtain ⟨b, off, rfl, hb, hg⟩ := hr (by omega)
    refine wpList_append_own w hgd s x 25 ho base 3 i0 (.int .i64 0) 1 8 Try.underlying25 hi hz0 hz1 hz2 rfl (by decide) v L.length (L.map (Value.int .i64)) hs hown ⟨b, off, none⟩ m.length cap' (m.map (Value.int .i64)) hx (by simp) (fun j u hu => ?_) (fun u hu => by obtain ⟨z, _, rfl⟩ := List.mem_map.1 hu; rfl) (by unfold maxLen; omega) (by omega) hbase fun v' w' h1 h2 _ => h v' w' ?_ ((Below.refl base w).grown h2 hbase (fun k hk => (World.ownsRow.lt hown k hk).1))
    · rw [List.getElem?_eq_some_iff] at hu
      obtain ⟨hj, hu⟩ := hu
      simp at hj
      rw [← hu, List.getElem_map, ← getI_of m j hj, Addr.add_lit]
      exact hg j hj
    · show w'.ownsRow _ _ _ _ _ _
      rw [List.length_append, List.map_append]
      exact h1

theorem endB_none {g : Gph} {l : List Int} {v : Int} (h : ∀ j, j < l.length → endOf g v (getI l j) = false) : endB g l v = false := by
  unfold endB
  rw [Bool.eq_false_iff]
  intro ha
  rw [List.any_eq_true] at ha
  obtain ⟨x, hx, he⟩ := ha
  obtain ⟨j, hj, rfl⟩ := (mem_getI l x).1 hx
  rw [h j hj] at he; cases he
theorem endB_hit {g : Gph} {l : List Int} {v : Int} {j : Nat} (hj : j < l.length) (h : endOf g v (getI l j) = true) : endB g l v = true := by
  unfold endB
  rw [List.any_eq_true]
  exact ⟨_, (mem_getI l _).2 ⟨j, hj, rfl⟩, h⟩

end Go.Proofs.Ytohaopfpjkhheaa
