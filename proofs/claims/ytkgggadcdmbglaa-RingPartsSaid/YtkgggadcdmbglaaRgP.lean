/-
  slices.Concat: lists, one behind the other, in a slice of the call's own; the program's Put.
-/
import Derived.Test.YtkgggadcdmbglaaRgW
import Derived.Test.YtkgggadcdmbglaaOpenInts
import Derived.Shelf.Spec.SlicesGrow
namespace Go.Proofs.Ytkgggadcdmbglaa
open Go.RowKit Go.Shelf

theorem run_append_empty {P : Program} {w : World} {base n : Nat} {t ty e : TypeId} {i : TypeInfo} {size : Nat} {v : Value} {xs : List Value} (ht : P.underlying t = some (.slice e)) (hi : P.info? e = some i)
    (hown : w.ownsRow base e size v n xs) (A' : Option Addr) (cap' : Nat) : (Builtin.append_ #[t, t] ty #[v, .slice A' 0 cap']).run P w = .ok v w := by
  rcases hown.2 with ⟨rfl, rfl⟩ | ⟨g, cap, cur, rfl, _, _, hnc, _⟩
  · cases A' <;> simp [Builtin.append_, run_underlying ht, sizeOf, typeInfo, hi, Builtin.lenOf, Builtin.firstCells, loadCells, loadCellsFrom]
  · cases A' <;> simp [Builtin.append_, run_underlying ht, sizeOf, typeInfo, hi, Builtin.lenOf, Builtin.firstCells, hnc, storeCells, loadCells, loadCellsFrom]

theorem wpList_append_ints {P : Program} {w : World} {ops : Array Oper} {rest : List Oper} {o : Oper} {a : Act} {Q : Exit → Act → World → Prop} (hgd : o.guard = none) (s x : Operand) (t : TypeId)
    (ho : o.op = .call { callee := .builtin .append, args := #[s, x], argTypes := #[t, t] })
    (base : Nat) (e : TypeId) (i : TypeInfo) (ht : P.underlying t = some (.slice e)) (hi : P.info? e = some i) (hz : i.zero = some (.int .i64 0)) (hsize : i.size = 1) (hby : i.bytes = 8)
    (v : Value) (n : Nat) (xs : List Value) (hs : a.eval s = v) (hown : w.ownsRow base e 1 v n xs) (u : Value) (m : List Int) (hx : a.eval x = u) (hI : Ints w u m) (h63 : n + m.length ≤ 1000000) (hbase : base ≤ w.heap.size)
    (h : ∀ v' w', w'.ownsRow base e 1 v' (n + m.length) (xs ++ m.map (Value.int .i64)) → Below base w w' → wpList P ops Q rest (a.put o.dst v') w') : wpList P ops Q (o :: rest) a w := by
  obtain ⟨A', cap', rfl, hc, _, hr⟩ := hI
  by_cases h0 : m.length = 0
  · have e0 : m = [] := List.length_eq_zero_iff.1 h0
    subst e0
    refine Lib.wpList_append_run w hgd s x t t ho v (.slice A' 0 cap') hs hx v w (run_append_empty ht hi hown A' cap') (h v w ?_ (Below.refl _ _))
    simpa using hown
  · obtain ⟨b, off, rfl, hb, hg⟩ := hr (by omega)
    refine wpList_append_own w hgd s x t ho base e i (.int .i64 0) 1 8 ht hi hz hsize hby rfl (by decide) v n xs hs hown ⟨b, off, none⟩ m.length cap' (m.map (Value.int .i64)) hx (by simp) (fun j u hu => ?_) (map_one m) (by unfold maxLen; omega) (by omega) hbase fun v' w' h1 h2 _ => h v' w' h1 ((Below.refl base w).grown h2 hbase (fun k hk => (hown.lt k hk).1))
    obtain ⟨hj, rfl⟩ := map_get _ _ _ hu
    rw [Addr.add_lit]
    exact hg j hj

/-- The numbers of lists, one behind the other. -/
def allOf (vs : List (Value × List Int)) : List Int := vs.flatMap (·.2)
theorem allOf_snoc (vs : List (Value × List Int)) (k : Nat) (x : Value × List Int) (h : vs[k]? = some x) : allOf (vs.take (k + 1)) = allOf (vs.take k) ++ x.2 := by
  rw [List.take_add_one, h]; simp [allOf]
theorem allOf_le (vs : List (Value × List Int)) (k : Nat) : (allOf (vs.take k)).length ≤ (allOf vs).length := by
  have h := congrArg (fun l => (allOf l).length) (List.take_append_drop k vs)
  simp only [allOf, List.flatMap_append, List.length_append] at h ⊢
  omega

/-- The new slice that slices.Grow makes. -/
theorem grow_any (n : Nat) (w : World) (hn : n ≤ 1000000) :
    Calls Try.prog 45 #[.slice none 0 0, .int .i64 (n : Int)] w fun e w' => ∃ u, e = .returned u ∧ w'.ownsRow w.heap.size 3 1 u 0 [] ∧ Below w.heap.size w w' := by
  by_cases h0 : n = 0
  · subst h0
    have hcon := Any8.slices_Grow_room Try.laysGrow none 0 0 0 w (by omega) (by omega) (by omega) (by omega)
    change Calls Try.prog 45 _ _ _ at hcon
    exact hcon.mono fun e w' h => ⟨_, h.1, by rw [h.2]; exact World.ownsRow_nil _ _ _ _, by rw [h.2]; exact Below.refl _ _⟩
  · obtain ⟨i0, hi, hz0, hz1, hz2⟩ := info_parts Try.infoInt
    have hcon := Any8.slices_Grow_grow Try.laysGrow i0 (.int .i64 0) hi hz0 (by omega) none 0 0 n [] w (by omega) (by omega) (by rw [hz2]; omega) (by omega) (by simp) (fun _ => rfl) (fun a h => by cases h)
    change Calls Try.prog 45 _ _ _ at hcon
    refine hcon.mono fun e w' h => ⟨_, h.1, ?_, by rw [h.2]; exact (Below.refl _ w).drew.alloc (Nat.le_refl _) _⟩
    rw [h.2]
    refine ⟨rfl, .inr ⟨w.heap.size, _, _, rfl, Nat.le_refl _, heap_alloc_new w.drew _, Nat.zero_le _, ?_, ?_, rfl⟩⟩
    · exact grownCap_le_maxLen w _ _ _ (by unfold maxLen; omega)
    · have hge := grownCap_ge w n 0 (Try.laysGrow_ren.t 25)
      simp only [Array.size_append, Builtin.zeroCells, Array.size_map, Array.size_range, Value.cells]
      simp
      omega

end Go.Proofs.Ytkgggadcdmbglaa
