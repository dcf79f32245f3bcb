/-
  The program's find: where a thing stands; of nil sets it can't be put in.
-/
import Derived.Test.YtfofidbgjfmepaaStW
import Derived.Defers
import Derived.Recover
import Derived.Laws.Pointers
import Derived.WalkKit
namespace Go.Proofs.Ytfofidbgjfmepaa
open Go.RowKit Go.Maps

theorem below_alloc {w : World} (o : Obj) : Below w.heap.size w (w.alloc o) := (Below.refl _ w).alloc (Nat.le_refl _) _

theorem catch_idle (p : Addr) (w : World) :
    CallsD Try.prog 24 #[.pointer (some p)] .returning w fun e u' w' => e = .returned (.tuple #[]) ∧ u' = .returning ∧ w' = w := by
  refine callsD_of_wpS Try.func24 rfl fun c₀ cs hu => ?_
  apply wpS_seq
  apply wpS_region
  simp [wpOpsS, go_sem, recoverD, hu, Try.ntmps24, Exit.thenS]
  refine wpS_cond (t := false) (by simp [Act.eval, Array.replicate]) ?_
  simp only [Bool.false_eq_true, if_false]
  refine wpS_of_wp (wp_skip ?_)
  cases c₀
  simp_all [bodyPostS, results, Try.results24]

set_option maxRecDepth 100000 in
set_option maxHeartbeats 1000000 in
/-- Where a thing stands in sets that are there. -/
theorem find_any (w : World) (F : Nat → Prop) (sb : Nat) (s : St) (x : Int) (h : Holds w F sb s) (hx : (Lit.int .i64 x).wf = true) :
    Calls Try.prog 20 #[.pointer (some ⟨sb, 0, none⟩), .int .i64 x] w fun e w' => e = .returned (.int .i64 (Lib.idxOf s.ts x)) ∧ Below w.heap.size w w' := by
  obtain ⟨tv, av, bm, D, ah, R⟩ := h
  have c1 := R.c1
  have hkey := keyOf_int_mk Try.underlying3 hx
  have hT := R.tells.2 x
  have hown := R.places
  have hlt := R.lt
  have hmf : ∀ (fn : Fn) (first cap : Array Value) (w : World), (Instr.makeFunc fn first cap).run Try.prog w = .ok (.func fn first cap) w := fun _ _ _ _ => rfl
  clear R
  by_cases hm : x ∈ s.ts
  · have hh : Maps.has D (.int .i64 x) = true := by rw [hT.1]; exact decide_eq_true hm
    have hd := Lib.hid (hT.2 hm)
    clear hT hm
    go_enter_defers Try.func20, Try.ntmps20
    go_wp2_with (first
      | (at_lookup; refine wpList_lookup_own_ok_int _ rfl _ _ 45 rfl 3 3 .i64 Try.keyInt Try.underlying45 Try.underlying3 (Try.zeroInt _) bm s.ts.length D rfl (hown.alloc _) _ _ rfl hkey ?_; intro c hat hwc; rw [hh])
      | go_in)
    refine leaves_cons (f := 24) (args := #[.pointer (some ⟨w.heap.size, 0, none⟩)]) (by simp) (by simp [go_sem]) ?_
    refine (catch_idle ⟨w.heap.size, 0, none⟩ _).mono ?_
    rintro e u' w'' ⟨rfl, rfl, rfl⟩
    have e1 : c = Lib.idxOf s.ts x := by
      have := hat.symm.trans hd.out
      simpa using this
    simp [Leaves, settle, results, Try.results20, go_sem]
    exact ⟨e1, below_alloc _⟩
  · have hh : Maps.has D (.int .i64 x) = false := by rw [hT.1]; exact decide_eq_false hm
    have hd := Lib.hid (St.find_out hm)
    clear hT hm
    go_enter_defers Try.func20, Try.ntmps20
    go_wp2_with (first
      | (at_lookup; refine wpList_lookup_own_ok_int _ rfl _ _ 45 rfl 3 3 .i64 Try.keyInt Try.underlying45 Try.underlying3 (Try.zeroInt _) bm s.ts.length D rfl (hown.alloc _) _ _ rfl hkey ?_; intro c hat hwc; rw [hh])
      | go_in)
    refine leaves_cons (f := 24) (args := #[.pointer (some ⟨w.heap.size, 0, none⟩)]) (by simp) (by simp [go_sem]) ?_
    refine (catch_idle ⟨w.heap.size, 0, none⟩ _).mono ?_
    rintro e u' w'' ⟨rfl, rfl, rfl⟩
    simp [Leaves, settle, results, Try.results20, go_sem]
    exact ⟨hd.out.symm, below_alloc _⟩

set_option maxRecDepth 100000 in
/-- Of nil sets. -/
theorem find_nil (w : World) (x : Int) :
    Calls Try.prog 20 #[.pointer none, .int .i64 x] w fun e w' => e = .returned (.int .i64 (-2)) ∧ Below w.heap.size w w' := by
  go_enter_defers Try.func20, Try.ntmps20
  go_wp2
  simp [bodyPostD, Leaves, results, Try.results20, go_sem]
  exact below_alloc _
end Go.Proofs.Ytfofidbgjfmepaa
