/-
  RuB, Round, PlanIn, RuC, in one text.
-/
import Derived.Test.YtmbpmepoaonleaaGreatM25
import Derived.Test.YtmbpmepoaonleaaGreatM22
import Derived.Shelf.SlIterI.Nil
import Derived.Shelf.SortM.Plain
import Derived.Shelf.SortM.SortNone
import Derived.Sort.QuietIn
import Derived.OwnWalkIn
import Derived.RangeFuncCalls
import Derived.Test.YtmbpmepoaonleaaGreatPlan
/-! The program's Darts: all darts, rising, handed out one by one. -/
namespace Go.Proofs.YtmbpmepoaonleaaGreat.Rt
open Go.Proofs.YtmbpmepoaonleaaGreat Go.RowKit Go.Maps Go.Sort Go.Shelf

theorem up_pairs : ∀ l : List Int, Up l → Up (l.flatMap fun e => [2 * e, 2 * e + 1])
  | [], _ => List.Pairwise.nil
  | e :: l, h => by
    have h' := List.pairwise_cons.1 h
    have ih := up_pairs l h'.2
    have hm : ∀ x ∈ l.flatMap (fun e => [2 * e, 2 * e + 1]), 2 * e + 1 < x := by
      intro x hx
      obtain ⟨y, hy, hx⟩ := List.mem_flatMap.1 hx
      have := h'.1 y hy
      simp only [List.mem_cons, List.not_mem_nil, or_false] at hx
      omega
    rw [List.flatMap_cons]
    refine List.pairwise_cons.2 ⟨fun x hx => ?_, List.pairwise_cons.2 ⟨hm, ih⟩⟩
    rcases List.mem_cons.1 hx with rfl | hx
    · omega
    · have := hm x hx; omega

theorem allD_up {g : Gph} {p : Prt} (h : perr g p = 0) : Up (allD p) := up_pairs p.e (perr_rises h).2.2.1.up

/-- The map's keys, sorted, are all darts. -/
theorem keys_allD {w : World} {g : Gph} {p : Prt} {R : Value → Option (DataW Unit × List MemPlace)} {b n : Nat} {D : DataW Unit} {f : Int → DataW Unit} (hp : perr g p = 0) (ho : w.ownsMap Tryz.prog 3 R b n D) (hD : Hd D (Dart p) f) {ss : List Int} (hs : ss.Perm (intKeys D)) :
    (ss.mergeSort fun x y => decide (x ≤ y)) = allD p := by
  have hup := allD_up hp
  have hnd : (allD p).Nodup := hup.imp fun h => by omega
  have hperm : (allD p).Perm (intKeys D) := by
    obtain ⟨es, hE, hpw, _⟩ := ho.entries Tryz.keyInt
    obtain ⟨es', hE', hko⟩ := ho.keysOf
    obtain rfl : es = es' := by rw [hE] at hE'; simpa using hE'
    subst hE
    exact perm_intKeys hpw (fun q hq => by obtain ⟨v, hv⟩ := hko q hq; obtain ⟨x, _, hx, _⟩ := Maps.keyOf_i64 Tryz.underlying3 hv; exact ⟨x, hx⟩) hnd (fun x => by rw [mem_allD hp, ← hD.has x])
  have hp2 := hs.trans hperm.symm
  refine List.Perm.eq_of_pairwise (le := fun a b : Int => a ≤ b) (fun a b _ _ h1 h2 => by omega) ?_ (hup.imp fun h => by omega) ((List.mergeSort_perm ss _).trans hp2)
  have := List.pairwise_mergeSort (le := fun x y : Int => decide (x ≤ y)) (fun a b c h1 h2 => by simp at *; omega) (fun a b => by simp; omega) ss
  exact this.imp fun h => of_decide_eq_true h

theorem keys_any (mb : Option Nat) (W : World) :
    Calls Tryz.prog 111 #[.map mb] W fun e w' => e = .returned (.func (.func 132) #[] #[.pointer (some ⟨W.heap.size, 0, none⟩)]) ∧ w' = W.alloc (.cells #[.map mb] 101) :=
  (callsIn_wide (n := 6)).1 (AnyZI.keys_in Tryz.laysKeys Fence.wide 6 trivial rfl mb W)

theorem sortsK (m : Nat) : AnyZI.SortsIn Tryz.prog Tryz.laysSorted_ren Fence.wide m :=
  ⟨fun blk off cap ss W hH hblk hsz => callsIn_wide.2 (AnyM.slices_Sort_int Tryz.laysSort blk off cap ss W hH hblk hsz),
   fun p cap W => callsIn_wide.2 (AnyM.slices_Sort_int_none Tryz.laysSort p cap W)⟩

theorem sortedKeys_any (b n Bm : Nat) (g : Gph) (p : Prt) (D : DataW Unit) (f : Int → DataW Unit) (R : Value → Option (DataW Unit × List MemPlace)) (w : World) (hBm : Bm < w.heap.size) (hm : w.cell? ⟨Bm, 0, none⟩ = some (.map (some b))) (ho : w.ownsMap Tryz.prog 3 R b n D) (hn : n ≤ 1000000) (hp : perr g p = 0) (hD : Hd D (Dart p) f) :
    Calls Tryz.prog 110 #[.func (.func 132) #[] #[.pointer (some ⟨Bm, 0, none⟩)]] w fun e w' => ∃ v, e = .returned v ∧ Row w' w.heap.size v (allD p) ∧ Below w.heap.size w w' := by
  have hsz := ho.size_le
  have hseq : SeqGives Fence.wide 3 Tryz.prog 132 #[.pointer (some ⟨Bm, 0, none⟩)] encZ (fun ss => ss.Perm (intKeys D)) (Maps.size D) w :=
    AnyZI.keys_gives (ρ := Tryz.laysKeys_ren) { Tryz.laysKeys with } Fence.wide _ trivial rfl (by omega) Bm b n D w hBm hm ho
  have cS := AnyZI.sorted_in Tryz.laysSorted Fence.wide 6 trivial trivial trivial trivial rfl (by omega) (sortsK _) (enters_of Tryz.func131 (by kernel_rfl) rfl) 132 #[.pointer (some ⟨Bm, 0, none⟩)] trivial (enters_of Tryz.func132 (by kernel_rfl) rfl) _ _ (by unfold maxLen; omega) (by omega) _ hseq
  change CallsIn _ _ Tryz.prog 110 _ _ _ at cS
  refine ((callsIn_wide (n := 6)).1 cS).mono ?_
  rintro e w' ⟨v, ss, rfl, hS, hrow, _, hb⟩
  have hk := keys_allD hp ho hD hS
  refine ⟨v, rfl, ?_, hb⟩
  rw [hk] at hrow
  have hl : ss.length = (allD p).length := by rw [← hk, List.length_mergeSort]
  rw [hl] at hrow
  exact hrow

/-! ### Darts -/

end Go.Proofs.YtmbpmepoaonleaaGreat.Rt

/-! A region that draws its order and only reads, within a round of a range over a function: one walk in the order of the text serves every order. -/
namespace Go.Proofs.YtmbpmepoaonleaaGreat
open Go

section
variable {F : Fence} {n : Nat} {P : Program} {ops : Array Oper} {Q : Exit → Act → World → Prop} {md : Region.Mode} {l : Nat}

end

end Go.Proofs.YtmbpmepoaonleaaGreat

/-! Regions that draw their order, by a plan: a step that makes memory; and the same plans within a fence that lets everything by, and within a round of a range over a function there. -/
namespace Go.Proofs.YtmbpmepoaonleaaGreat
open Go.RowKit

section
variable {P : Program} {os : List Oper} {Ss : List Sp} {Q : Exit → Act → World → Prop} {a0 : Act} {w0 : World} {o : Oper} {S : Sp}

/-- An operation that makes a block of its own. -/
theorem step_make (hn : S.new = false) (h : ∀ (a : Act) (w : World), Below w0.heap.size w0 w → (∀ k, noDst (os.take Ss.length) k = true → a.tmps[k]? = a0.tmps[k]?) → (∀ j o' S' d, j ∈ preds o → os[j]? = some o' → Ss[j]? = some S' → o'.dst = some d → ∃ v, a.tmps[d]? = some v ∧ S'.p w v) →
    Region.wanted o (yielded os.toArray a.tmps) = true ∧ ∃ v w', (execOp a.eval o).run P w = .ok (.value v) w' ∧ Below w.heap.size w w' ∧ S.p w' v) : StepOk P os Ss Q a0 w0 o S := by
  intro a w hB O D
  obtain ⟨h1, v, w', h2, h3, h4⟩ := h a w hB O D
  refine .inl ⟨h1, ?_⟩
  unfold Oper.wp
  rw [h2]
  exact ⟨v, rfl, h3, h4, fun h => by rw [hn] at h; cases h⟩
end

/-! ### Within the fence that lets everything by -/

section
variable {P : Program} {n id : Nat} {os : List Oper} {Q : Exit → Act → World → Prop} {a0 : Act} {w0 : World}

end

end Go.Proofs.YtmbpmepoaonleaaGreat

/-! The document's example, as the law's awake asks it. -/
namespace Go.Proofs.YtmbpmepoaonleaaGreat.Rt
open Go.Proofs.YtmbpmepoaonleaaGreat Go.RowKit Go.Maps

def e0 : Gph := ⟨2, [⟨0, 1⟩, ⟨0, 1⟩]⟩
def p0 : Prt := ⟨countTo 2, countTo e0.e.length⟩
theorem lit2_ints (w : World) (a b : Int) : Ints (w.alloc (.cells #[.int .i64 a, .int .i64 b] 3)) (.slice (some ⟨w.heap.size, 0, none⟩) 2 2) [a, b] := by
  refine ⟨_, _, rfl, Nat.le_refl _, by unfold maxLen; omega, fun _ => ⟨w.heap.size, 0, rfl, by simp, fun j hj => ?_⟩⟩
  have hj' : j < 2 := hj
  rcases (show j = 0 ∨ j = 1 by omega) with rfl | rfl
  · exact cell_two0 w (.int .i64 a) (.int .i64 b) 3
  · exact cell_two1 w (.int .i64 a) (.int .i64 b) 3
theorem lit2_lists {w : World} {u v : Value} {l m : List Int} (h : Ints w u l) (h' : Ints w v m) : LL (w.alloc (.cells #[u, v] 25)) (.slice (some ⟨w.heap.size, 0, none⟩) 2 2) [l, m] := by
  refine ⟨_, _, rfl, Nat.le_refl _, by unfold maxLen; omega, fun _ => ⟨w.heap.size, 0, rfl, by simp, fun j hj => ?_⟩⟩
  have hj' : j < 2 := hj
  rcases (show j = 0 ∨ j = 1 by omega) with rfl | rfl
  · exact ⟨u, cell_two0 w u v 25, h.below (below_alloc _)⟩
  · exact ⟨v, cell_two1 w u v 25, h'.below (below_alloc _)⟩

end Go.Proofs.YtmbpmepoaonleaaGreat.Rt
