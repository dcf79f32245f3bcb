/-
  What holds in the midst of the document's Add, whichever of its operations have been carried out.
-/
import Derived.Test.YtfofidbgjfmepaaStN
namespace Go.Proofs.Ytfofidbgjfmepaa
open Go.RowKit Go.Maps

theorem wpOp_of' {P : Program} {ops : Array Oper} {Q : Exit → Act → World → Prop} {i : Nat} {o : Oper} {K : Act → World → Prop} {a : Act} {w : World} (hi : ops[i]? = some o) (hg : o.guard = none) (h : ∀ K' : Act → World → Prop, (∀ a w, K a w → K' a w) → o.wp P a w K' Q) : wpOp P ops Q i K a w :=
  wpOp_of hi hg (h K (fun _ _ => id))

/-- Outside of what is made now: only the result's own block B1 is written, and that at the end. -/
structure Rs (w1 : World) (B1 : Nat) (b15 : Bool) (t20 t27 : Value) (w : World) : Prop where
  os : w.os = w1.os
  tape : w.tape = w1.tape
  output : w.output = w1.output
  size : w1.heap.size ≤ w.heap.size
  old : ∀ k, k < w1.heap.size → k ≠ B1 → w.heap[k]? = w1.heap[k]?
  box : b15 = false → w.heap[B1]? = w1.heap[B1]?
  fin : b15 = true → w.cell? ⟨B1, 0, none⟩ = some t20 ∧ w.cell? ⟨B1, 1, none⟩ = some t27

theorem Rs.start (w1 : World) (B1 : Nat) (t20 t27 : Value) : Rs w1 B1 false t20 t27 w1 := ⟨rfl, rfl, rfl, Nat.le_refl _, fun _ _ _ => rfl, fun _ => rfl, fun e => (by cases e)⟩
theorem Rs.grown {w1 w w' : World} {B1 : Nat} {b15 : Bool} {t20 t27 : Value} (h : Rs w1 B1 b15 t20 t27 w) (hB : B1 < w1.heap.size) {row : Option Nat} (hg : w.grownBy w' row) (hr : ∀ k, row = some k → w1.heap.size ≤ k) : Rs w1 B1 b15 t20 t27 w' := by
  have hk : ∀ k, k < w1.heap.size → w'.heap[k]? = w.heap[k]? := fun k hk => hg.block k (Nat.lt_of_lt_of_le hk h.size) (fun e => by have := hr k e.symm; omega)
  refine ⟨hg.os.trans h.os, hg.tape.trans h.tape, hg.output.trans h.output, Nat.le_trans h.size hg.size, fun k h1 h2 => (hk k h1).trans (h.old k h1 h2), fun e => (hk B1 hB).trans (h.box e), fun e => ?_⟩
  obtain ⟨a, b⟩ := h.fin e
  exact ⟨(World.cell?_of_block (a := ⟨B1, 0, none⟩) (hk B1 hB)).trans a, (World.cell?_of_block (a := ⟨B1, 1, none⟩) (hk B1 hB)).trans b⟩
theorem Rs.swap {w1 w : World} {B1 : Nat} {t20 t27 : Value} (h : Rs w1 B1 false t20 t27 w) (u20 u27 : Value) : Rs w1 B1 false u20 u27 w := ⟨h.os, h.tape, h.output, h.size, h.old, h.box, fun e => (by cases e)⟩

structure Fx (w1 : World) (B1 : Nat) (xs ys : List Int) (x n : Int) (va vg p0 p1 : Value) (b0 b1 b2 b3 b4 b5 b6 b7 b8 b9 b10 b11 b12 b13 b14 b15 : Bool) (t14 t15 t16 t17 t18 t19 t20 t21 t22 t23 t24 t25 t26 t27 t28 : Value) (w : World) : Prop where
  two : ∃ FA FB, (∀ k, FA k → ¬ FB k) ∧ Chn w1.heap.size w FA b0 b3 b5 b6 t14 t17 t19 t20 xs x ∧ Chn w1.heap.size w FB b7 b10 b12 b13 t21 t24 t26 t27 ys n
  rs : Rs w1 B1 b15 t20 t27 w
  e1 : b1 = true → t15 = p0
  e2 : b2 = true → t16 = va
  e4 : b4 = true → t18 = .int .i64 x
  e8 : b8 = true → t22 = p1
  e9 : b9 = true → t23 = vg
  e11 : b11 = true → t25 = .int .i64 n
  e14 : b14 = true → t28 = .agg #[t20, t27]
  l14 : b14 = true → b6 = true ∧ b13 = true
  l15 : b15 = true → b14 = true

variable {w1 w w' : World} {B1 : Nat} {xs ys : List Int} {x n : Int} {va vg p0 p1 : Value} {b0 b1 b2 b3 b4 b5 b6 b7 b8 b9 b10 b11 b12 b13 b14 b15 : Bool} {t14 t15 t16 t17 t18 t19 t20 t21 t22 t23 t24 t25 t26 t27 t28 : Value}

theorem Fx.step1 (h : Fx w1 B1 xs ys x n va vg p0 p1 b0 false b2 b3 b4 b5 b6 b7 b8 b9 b10 b11 b12 b13 b14 b15 t14 t15 t16 t17 t18 t19 t20 t21 t22 t23 t24 t25 t26 t27 t28 w) : Fx w1 B1 xs ys x n va vg p0 p1 b0 true b2 b3 b4 b5 b6 b7 b8 b9 b10 b11 b12 b13 b14 b15 t14 p0 t16 t17 t18 t19 t20 t21 t22 t23 t24 t25 t26 t27 t28 w := ⟨h.two, h.rs, fun _ => rfl, h.e2, h.e4, h.e8, h.e9, h.e11, h.e14, h.l14, h.l15⟩
theorem Fx.step2 (h : Fx w1 B1 xs ys x n va vg p0 p1 b0 b1 false b3 b4 b5 b6 b7 b8 b9 b10 b11 b12 b13 b14 b15 t14 t15 t16 t17 t18 t19 t20 t21 t22 t23 t24 t25 t26 t27 t28 w) : Fx w1 B1 xs ys x n va vg p0 p1 b0 b1 true b3 b4 b5 b6 b7 b8 b9 b10 b11 b12 b13 b14 b15 t14 t15 va t17 t18 t19 t20 t21 t22 t23 t24 t25 t26 t27 t28 w := ⟨h.two, h.rs, h.e1, fun _ => rfl, h.e4, h.e8, h.e9, h.e11, h.e14, h.l14, h.l15⟩
theorem Fx.step4 (h : Fx w1 B1 xs ys x n va vg p0 p1 b0 b1 b2 b3 false b5 b6 b7 b8 b9 b10 b11 b12 b13 b14 b15 t14 t15 t16 t17 t18 t19 t20 t21 t22 t23 t24 t25 t26 t27 t28 w) : Fx w1 B1 xs ys x n va vg p0 p1 b0 b1 b2 b3 true b5 b6 b7 b8 b9 b10 b11 b12 b13 b14 b15 t14 t15 t16 t17 (.int .i64 x) t19 t20 t21 t22 t23 t24 t25 t26 t27 t28 w := ⟨h.two, h.rs, h.e1, h.e2, fun _ => rfl, h.e8, h.e9, h.e11, h.e14, h.l14, h.l15⟩
theorem Fx.step8 (h : Fx w1 B1 xs ys x n va vg p0 p1 b0 b1 b2 b3 b4 b5 b6 b7 false b9 b10 b11 b12 b13 b14 b15 t14 t15 t16 t17 t18 t19 t20 t21 t22 t23 t24 t25 t26 t27 t28 w) : Fx w1 B1 xs ys x n va vg p0 p1 b0 b1 b2 b3 b4 b5 b6 b7 true b9 b10 b11 b12 b13 b14 b15 t14 t15 t16 t17 t18 t19 t20 t21 p1 t23 t24 t25 t26 t27 t28 w := ⟨h.two, h.rs, h.e1, h.e2, h.e4, fun _ => rfl, h.e9, h.e11, h.e14, h.l14, h.l15⟩
theorem Fx.step9 (h : Fx w1 B1 xs ys x n va vg p0 p1 b0 b1 b2 b3 b4 b5 b6 b7 b8 false b10 b11 b12 b13 b14 b15 t14 t15 t16 t17 t18 t19 t20 t21 t22 t23 t24 t25 t26 t27 t28 w) : Fx w1 B1 xs ys x n va vg p0 p1 b0 b1 b2 b3 b4 b5 b6 b7 b8 true b10 b11 b12 b13 b14 b15 t14 t15 t16 t17 t18 t19 t20 t21 t22 vg t24 t25 t26 t27 t28 w := ⟨h.two, h.rs, h.e1, h.e2, h.e4, h.e8, fun _ => rfl, h.e11, h.e14, h.l14, h.l15⟩
theorem Fx.step11 (h : Fx w1 B1 xs ys x n va vg p0 p1 b0 b1 b2 b3 b4 b5 b6 b7 b8 b9 b10 false b12 b13 b14 b15 t14 t15 t16 t17 t18 t19 t20 t21 t22 t23 t24 t25 t26 t27 t28 w) : Fx w1 B1 xs ys x n va vg p0 p1 b0 b1 b2 b3 b4 b5 b6 b7 b8 b9 b10 true b12 b13 b14 b15 t14 t15 t16 t17 t18 t19 t20 t21 t22 t23 t24 (.int .i64 n) t26 t27 t28 w := ⟨h.two, h.rs, h.e1, h.e2, h.e4, h.e8, h.e9, fun _ => rfl, h.e14, h.l14, h.l15⟩
theorem Fx.step14 (h : Fx w1 B1 xs ys x n va vg p0 p1 b0 b1 b2 b3 b4 b5 true b7 b8 b9 b10 b11 b12 true false b15 t14 t15 t16 t17 t18 t19 t20 t21 t22 t23 t24 t25 t26 t27 t28 w) : Fx w1 B1 xs ys x n va vg p0 p1 b0 b1 b2 b3 b4 b5 true b7 b8 b9 b10 b11 b12 true true b15 t14 t15 t16 t17 t18 t19 t20 t21 t22 t23 t24 t25 t26 t27 (.agg #[t20, t27]) w := by
  refine ⟨h.two, h.rs, h.e1, h.e2, h.e4, h.e8, h.e9, h.e11, fun _ => rfl, fun _ => ⟨rfl, rfl⟩, fun e => ?_⟩
  exact Bool.noConfusion (h.l15 e)
theorem Fx.step0 (h : Fx w1 B1 xs ys x n va vg p0 p1 false b1 b2 b3 b4 b5 b6 b7 b8 b9 b10 b11 b12 b13 b14 b15 t14 t15 t16 t17 t18 t19 t20 t21 t22 t23 t24 t25 t26 t27 t28 w) (hB : B1 < w1.heap.size) : Fx w1 B1 xs ys x n va vg p0 p1 true b1 b2 b3 b4 b5 b6 b7 b8 b9 b10 b11 b12 b13 b14 b15 (.slice (some ⟨w.heap.size, 0, none⟩) 0 0) t15 t16 t17 t18 t19 t20 t21 t22 t23 t24 t25 t26 t27 t28 (w.alloc (.cells #[] 3)) := by
  obtain ⟨FA, FB, hd, CA, CB⟩ := h.two
  exact ⟨⟨_, FB, fun k hk hB => hk.elim (fun f => hd k f hB) (fun f => by have := (CB.dom k hB).2; omega), CA.step0 h.rs.size, CB.below (below_alloc _)⟩, h.rs.grown hB (World.grownBy_alloc w _ Option.none) (fun k hk => (by cases hk)), h.e1, h.e2, h.e4, h.e8, h.e9, h.e11, h.e14, h.l14, h.l15⟩
theorem Fx.step5 (h : Fx w1 B1 xs ys x n va vg p0 p1 b0 b1 b2 b3 b4 false b6 b7 b8 b9 b10 b11 b12 b13 b14 b15 t14 t15 t16 t17 t18 t19 t20 t21 t22 t23 t24 t25 t26 t27 t28 w) (hB : B1 < w1.heap.size) : Fx w1 B1 xs ys x n va vg p0 p1 b0 b1 b2 b3 b4 true b6 b7 b8 b9 b10 b11 b12 b13 b14 b15 t14 t15 t16 t17 t18 (.slice (some ⟨w.heap.size, 0, none⟩) 1 1) t20 t21 t22 t23 t24 t25 t26 t27 t28 (w.alloc (.cells #[.int .i64 x] 3)) := by
  obtain ⟨FA, FB, hd, CA, CB⟩ := h.two
  exact ⟨⟨_, FB, fun k hk hB => hk.elim (fun f => hd k f hB) (fun f => by have := (CB.dom k hB).2; omega), CA.step2 h.rs.size, CB.below (below_alloc _)⟩, h.rs.grown hB (World.grownBy_alloc w _ Option.none) (fun k hk => (by cases hk)), h.e1, h.e2, h.e4, h.e8, h.e9, h.e11, h.e14, h.l14, h.l15⟩
theorem Fx.step3 (h : Fx w1 B1 xs ys x n va vg p0 p1 true b1 b2 false b4 b5 b6 b7 b8 b9 b10 b11 b12 b13 b14 b15 t14 t15 t16 t17 t18 t19 t20 t21 t22 t23 t24 t25 t26 t27 t28 w) (hB : B1 < w1.heap.size) {v' : Value} (ho : w'.ownsRow w1.heap.size 3 1 v' (0 + xs.length) ([] ++ xs.map (Value.int .i64))) (hg : w.grownBy w' t14.ownBlock) (hat : v'.ownBlock = t14.ownBlock ∨ v'.ownBlock = some w.heap.size) : Fx w1 B1 xs ys x n va vg p0 p1 true b1 b2 true b4 b5 b6 b7 b8 b9 b10 b11 b12 b13 b14 b15 t14 t15 t16 v' t18 t19 t20 t21 t22 t23 t24 t25 t26 t27 t28 w' := by
  obtain ⟨FA, FB, hd, CA, CB⟩ := h.two
  have hF := (CA.h0 rfl rfl).2
  exact ⟨⟨_, FB, fun k hk hB => hk.elim (fun f => hd k f hB) (fun f => by have := (CB.dom k hB).2; omega), CA.step1 h.rs.size ho hg hat, CB.kept (fun k hk => hg.block k (CB.dom k hk).2 (fun e => hd k (hF k e.symm) hk)) hg.size⟩, h.rs.grown hB hg (fun k hk => (CA.dom k (hF k hk)).1), h.e1, h.e2, h.e4, h.e8, h.e9, h.e11, h.e14, h.l14, h.l15⟩
theorem Fx.step6 (h : Fx w1 B1 xs ys x n va vg p0 p1 b0 b1 b2 true b4 true false b7 b8 b9 b10 b11 b12 b13 b14 b15 t14 t15 t16 t17 t18 t19 t20 t21 t22 t23 t24 t25 t26 t27 t28 w) (hB : B1 < w1.heap.size) {v' : Value} (ho : w'.ownsRow w1.heap.size 3 1 v' (xs.length + 1) (xs.map (Value.int .i64) ++ [x].map (Value.int .i64))) (hg : w.grownBy w' t17.ownBlock) (hat : v'.ownBlock = t17.ownBlock ∨ v'.ownBlock = some w.heap.size) : Fx w1 B1 xs ys x n va vg p0 p1 b0 b1 b2 true b4 true true b7 b8 b9 b10 b11 b12 b13 b14 b15 t14 t15 t16 t17 t18 t19 v' t21 t22 t23 t24 t25 t26 t27 t28 w' := by
  obtain ⟨FA, FB, hd, CA, CB⟩ := h.two
  have hF := (CA.h1 rfl rfl).2
  have h14 : b14 = false := Bool.eq_false_iff.2 (fun e => by have := (h.l14 e).1; cases this)
  have h15 : b15 = false := Bool.eq_false_iff.2 (fun e => by have := h.l15 e; rw [h14] at this; cases this)
  subst h14 h15
  exact ⟨⟨_, FB, fun k hk hB => hk.elim (fun f => hd k f hB) (fun f => by have := (CB.dom k hB).2; omega), CA.step3 h.rs.size ho hg hat, CB.kept (fun k hk => hg.block k (CB.dom k hk).2 (fun e => hd k (hF k e.symm) hk)) hg.size⟩, (h.rs.grown hB hg (fun k hk => (CA.dom k (hF k hk)).1)).swap v' t27, h.e1, h.e2, h.e4, h.e8, h.e9, h.e11, fun e => (by cases e), fun e => (by cases e), fun e => (by cases e)⟩
theorem Fx.step7 (h : Fx w1 B1 xs ys x n va vg p0 p1 b0 b1 b2 b3 b4 b5 b6 false b8 b9 b10 b11 b12 b13 b14 b15 t14 t15 t16 t17 t18 t19 t20 t21 t22 t23 t24 t25 t26 t27 t28 w) (hB : B1 < w1.heap.size) : Fx w1 B1 xs ys x n va vg p0 p1 b0 b1 b2 b3 b4 b5 b6 true b8 b9 b10 b11 b12 b13 b14 b15 t14 t15 t16 t17 t18 t19 t20 (.slice (some ⟨w.heap.size, 0, none⟩) 0 0) t22 t23 t24 t25 t26 t27 t28 (w.alloc (.cells #[] 3)) := by
  obtain ⟨FB, FA, hd', CB, CA⟩ := h.two
  have hd : ∀ k, FA k → ¬ FB k := fun k a b => hd' k b a
  exact ⟨⟨FB, _, fun k hB hk => hk.elim (fun f => hd k f hB) (fun f => by have := (CB.dom k hB).2; omega), CB.below (below_alloc _), CA.step0 h.rs.size⟩, h.rs.grown hB (World.grownBy_alloc w _ Option.none) (fun k hk => (by cases hk)), h.e1, h.e2, h.e4, h.e8, h.e9, h.e11, h.e14, h.l14, h.l15⟩
theorem Fx.step12 (h : Fx w1 B1 xs ys x n va vg p0 p1 b0 b1 b2 b3 b4 b5 b6 b7 b8 b9 b10 b11 false b13 b14 b15 t14 t15 t16 t17 t18 t19 t20 t21 t22 t23 t24 t25 t26 t27 t28 w) (hB : B1 < w1.heap.size) : Fx w1 B1 xs ys x n va vg p0 p1 b0 b1 b2 b3 b4 b5 b6 b7 b8 b9 b10 b11 true b13 b14 b15 t14 t15 t16 t17 t18 t19 t20 t21 t22 t23 t24 t25 (.slice (some ⟨w.heap.size, 0, none⟩) 1 1) t27 t28 (w.alloc (.cells #[.int .i64 n] 3)) := by
  obtain ⟨FB, FA, hd', CB, CA⟩ := h.two
  have hd : ∀ k, FA k → ¬ FB k := fun k a b => hd' k b a
  exact ⟨⟨FB, _, fun k hB hk => hk.elim (fun f => hd k f hB) (fun f => by have := (CB.dom k hB).2; omega), CB.below (below_alloc _), CA.step2 h.rs.size⟩, h.rs.grown hB (World.grownBy_alloc w _ Option.none) (fun k hk => (by cases hk)), h.e1, h.e2, h.e4, h.e8, h.e9, h.e11, h.e14, h.l14, h.l15⟩
theorem Fx.step10 (h : Fx w1 B1 xs ys x n va vg p0 p1 b0 b1 b2 b3 b4 b5 b6 true b8 b9 false b11 b12 b13 b14 b15 t14 t15 t16 t17 t18 t19 t20 t21 t22 t23 t24 t25 t26 t27 t28 w) (hB : B1 < w1.heap.size) {v' : Value} (ho : w'.ownsRow w1.heap.size 3 1 v' (0 + ys.length) ([] ++ ys.map (Value.int .i64))) (hg : w.grownBy w' t21.ownBlock) (hat : v'.ownBlock = t21.ownBlock ∨ v'.ownBlock = some w.heap.size) : Fx w1 B1 xs ys x n va vg p0 p1 b0 b1 b2 b3 b4 b5 b6 true b8 b9 true b11 b12 b13 b14 b15 t14 t15 t16 t17 t18 t19 t20 t21 t22 t23 v' t25 t26 t27 t28 w' := by
  obtain ⟨FB, FA, hd', CB, CA⟩ := h.two
  have hd : ∀ k, FA k → ¬ FB k := fun k a b => hd' k b a
  have hF := (CA.h0 rfl rfl).2
  exact ⟨⟨FB, _, fun k hB hk => hk.elim (fun f => hd k f hB) (fun f => by have := (CB.dom k hB).2; omega), CB.kept (fun k hk => hg.block k (CB.dom k hk).2 (fun e => hd k (hF k e.symm) hk)) hg.size, CA.step1 h.rs.size ho hg hat⟩, h.rs.grown hB hg (fun k hk => (CA.dom k (hF k hk)).1), h.e1, h.e2, h.e4, h.e8, h.e9, h.e11, h.e14, h.l14, h.l15⟩
theorem Fx.step13 (h : Fx w1 B1 xs ys x n va vg p0 p1 b0 b1 b2 b3 b4 b5 b6 b7 b8 b9 true b11 true false b14 b15 t14 t15 t16 t17 t18 t19 t20 t21 t22 t23 t24 t25 t26 t27 t28 w) (hB : B1 < w1.heap.size) {v' : Value} (ho : w'.ownsRow w1.heap.size 3 1 v' (ys.length + 1) (ys.map (Value.int .i64) ++ [n].map (Value.int .i64))) (hg : w.grownBy w' t24.ownBlock) (hat : v'.ownBlock = t24.ownBlock ∨ v'.ownBlock = some w.heap.size) : Fx w1 B1 xs ys x n va vg p0 p1 b0 b1 b2 b3 b4 b5 b6 b7 b8 b9 true b11 true true b14 b15 t14 t15 t16 t17 t18 t19 t20 t21 t22 t23 t24 t25 t26 v' t28 w' := by
  obtain ⟨FB, FA, hd', CB, CA⟩ := h.two
  have hd : ∀ k, FA k → ¬ FB k := fun k a b => hd' k b a
  have hF := (CA.h1 rfl rfl).2
  have h14 : b14 = false := Bool.eq_false_iff.2 (fun e => by have := (h.l14 e).2; cases this)
  have h15 : b15 = false := Bool.eq_false_iff.2 (fun e => by have := h.l15 e; rw [h14] at this; cases this)
  subst h14 h15
  exact ⟨⟨FB, _, fun k hB hk => hk.elim (fun f => hd k f hB) (fun f => by have := (CB.dom k hB).2; omega), CB.kept (fun k hk => hg.block k (CB.dom k hk).2 (fun e => hd k (hF k e.symm) hk)) hg.size, CA.step3 h.rs.size ho hg hat⟩, (h.rs.grown hB hg (fun k hk => (CA.dom k (hF k hk)).1)).swap t20 v', h.e1, h.e2, h.e4, h.e8, h.e9, h.e11, fun e => (by cases e), fun e => (by cases e), fun e => (by cases e)⟩

theorem Fx.step15 (h : Fx w1 B1 xs ys x n va vg p0 p1 b0 b1 b2 b3 b4 b5 b6 b7 b8 b9 b10 b11 b12 b13 true false t14 t15 t16 t17 t18 t19 t20 t21 t22 t23 t24 t25 t26 t27 t28 w) (hB : B1 < w1.heap.size) (c0 : ∃ v, w1.cell? ⟨B1, 0, none⟩ = some v) (c1 : ∃ v, w1.cell? ⟨B1, 1, none⟩ = some v) :
    Fx w1 B1 xs ys x n va vg p0 p1 b0 b1 b2 b3 b4 b5 b6 b7 b8 b9 b10 b11 b12 b13 true true t14 t15 t16 t17 t18 t19 t20 t21 t22 t23 t24 t25 t26 t27 t28 ((w.setCell ⟨B1, 0, none⟩ t20).setCell ⟨B1, 1, none⟩ t27) := by
  obtain ⟨FA, FB, hd, CA, CB⟩ := h.two
  obtain ⟨v0, c0⟩ := c0
  obtain ⟨v1, c1⟩ := c1
  have k0 : w.cell? ⟨B1, 0, none⟩ = some v0 := (World.cell?_of_block (a := ⟨B1, 0, none⟩) (h.rs.box rfl)).trans c0
  have k1 : w.cell? ⟨B1, 1, none⟩ = some v1 := (World.cell?_of_block (a := ⟨B1, 1, none⟩) (h.rs.box rfl)).trans c1
  have hoth : ∀ k, k ≠ B1 → ((w.setCell ⟨B1, 0, none⟩ t20).setCell ⟨B1, 1, none⟩ t27).heap[k]? = w.heap[k]? := fun k hk => (Below.heap_setCell _ _ _ _ hk).trans (Below.heap_setCell _ _ _ _ hk)
  have hz : ((w.setCell ⟨B1, 0, none⟩ t20).setCell ⟨B1, 1, none⟩ t27).heap.size = w.heap.size := by simp [World.setCell]
  refine ⟨⟨FA, FB, hd, CA.kept (fun k hk => hoth k (fun e => by have := (CA.dom k hk).1; omega)) (by omega), CB.kept (fun k hk => hoth k (fun e => by have := (CB.dom k hk).1; omega)) (by omega)⟩, ⟨h.rs.os, h.rs.tape, h.rs.output, by rw [hz]; exact h.rs.size, fun k h1 h2 => (hoth k h2).trans (h.rs.old k h1 h2), fun e => (by cases e), fun _ => ⟨?_, ?_⟩⟩, h.e1, h.e2, h.e4, h.e8, h.e9, h.e11, h.e14, h.l14, fun _ => rfl⟩
  · rw [World.cell?_setCell_other _ _ _ _ (by simp)]
    exact World.cell?_setCell_same _ _ _ k0
  · refine World.cell?_setCell_same _ _ _ (?_ : (w.setCell ⟨B1, 0, none⟩ t20).cell? ⟨B1, 1, none⟩ = some v1)
    rw [World.cell?_setCell_other _ _ _ _ (by simp)]
    exact k1

theorem Fx.start (w1 : World) (B1 : Nat) (xs ys : List Int) (x n : Int) (va vg p0 p1 : Value) (t14 t15 t16 t17 t18 t19 t20 t21 t22 t23 t24 t25 t26 t27 t28 : Value) : Fx w1 B1 xs ys x n va vg p0 p1 false false false false false false false false false false false false false false false false t14 t15 t16 t17 t18 t19 t20 t21 t22 t23 t24 t25 t26 t27 t28 w1.drew :=
  ⟨⟨_, _, fun _ h => h.elim, Chn.start _ _ _ _ _ _ _ _, Chn.start _ _ _ _ _ _ _ _⟩, ⟨rfl, rfl, rfl, Nat.le_refl _, fun _ _ _ => rfl, fun _ => rfl, fun e => (by cases e)⟩, fun e => (by cases e), fun e => (by cases e), fun e => (by cases e), fun e => (by cases e), fun e => (by cases e), fun e => (by cases e), fun e => (by cases e), fun e => (by cases e), fun e => (by cases e)⟩

end Go.Proofs.Ytfofidbgjfmepaa
