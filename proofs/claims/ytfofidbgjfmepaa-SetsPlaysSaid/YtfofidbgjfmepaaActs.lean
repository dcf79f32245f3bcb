/-
  An argument that is a slice of calls (a small number and two numbers each), opened once, nil or not: the list that it reads as.
-/
import Derived.Test.YtfofidbgjfmepaaStL
import Derived.Deep.Slices
import Derived.Deep.Strs
import Derived.ChangeSlices
import Derived.ProofKit
import Derived.OpenShut
namespace Go.Proofs.Ytfofidbgjfmepaa
open Go.ChangeShapes Go.WideShapes Go.ChangeAt Go.RowKit Go.Deep

/-- A call: which one, and of what. -/
structure Act1 where
  d : Int
  x : Int
  y : Int
instance : Inhabited Act1 := ⟨⟨0, 0, 0⟩⟩

def getA (l : List Act1) (j : Nat) : Act1 := l.getD j ⟨0, 0, 0⟩

structure Act1.Wf (a : Act1) : Prop where
  d0 : 0 ≤ a.d
  d1 : a.d ≤ 255
  x : (Lit.int .i64 a.x).wf = true
  y : (Lit.int .i64 a.y).wf = true

/-- The slice value v reads as the calls l. -/
def Acts (w : World) (v : Value) (l : List Act1) : Prop :=
  ∃ A cap, v = .slice A l.length cap ∧ l.length ≤ cap ∧ cap ≤ maxLen ∧
    (0 < l.length → ∃ b off, A = some ⟨b, off, none⟩ ∧ b < w.heap.size ∧ ∀ j, j < l.length →
      w.cell? ⟨b, off + j * 3, none⟩ = some (.int .u8 (getA l j).d) ∧ w.cell? ⟨b, off + j * 3 + 1, none⟩ = some (.int .i64 (getA l j).x) ∧ w.cell? ⟨b, off + j * 3 + 2, none⟩ = some (.int .i64 (getA l j).y)) ∧
    ∀ j, j < l.length → (getA l j).Wf

theorem Acts.nil {w : World} : Acts w (.slice none 0 0) [] := ⟨none, 0, rfl, Nat.le_refl _, by unfold maxLen; omega, fun h => absurd h (by simp), fun j h => absurd h (by simp)⟩

theorem cellsAct : Try.prog.cellsOf 28 = 3 := by kernel_rfl
theorem structAct : ∃ f0 f1 f2 : Field, Try.prog.underlying 28 = some (.struct #[f0, f1, f2]) ∧ f0.offset = 0 ∧ f1.offset = 1 ∧ f2.offset = 2 ∧ f0.type = 5 ∧ f1.type = 3 ∧ f2.type = 3 :=
  ⟨_, _, _, Try.underlying28, rfl, rfl, rfl, rfl, rfl, rfl⟩
theorem cellsInt1 : Try.prog.cellsOf 3 = 1 := by kernel_rfl
theorem cellsU8 : Try.prog.cellsOf 5 = 1 := by kernel_rfl

theorem open_acts {H : Type} {enc : TypeId × Value → H} {W : World} {base : Nat} {rd : Reach} {v : Value} {d : DataW H} {p : List MemPlace}
    (hv : Value.okWide Try.prog W rd base 22 v) (h : DataW.Trod enc Try.prog W 0 (fun _ => true) true 22 v d p) : ∃ l : List Act1, Acts W v l := by
  obtain ⟨a0, len, cap, rfl⟩ := okWide_slice Try.underlying22 hv
  obtain ⟨fuel, hf⟩ := h
  rcases open_slice Try.underlying22 hf with ⟨hcs, _⟩ | ⟨a, len', cap', m, n, D, Pl, hcs, _, hl, hm, hmm, _, hi⟩
  · simp [Value.cells] at hcs
    obtain ⟨rfl, rfl, rfl⟩ := hcs
    exact ⟨[], Acts.nil⟩
  · simp [Value.cells] at hcs
    obtain ⟨rfl, rfl, rfl⟩ := hcs
    simp only [if_true] at hmm
    subst hmm
    have each : ∀ i, i < len → ∃ q : Act1, q.Wf ∧ W.cell? (a.add (i * 3)) = some (.int .u8 q.d) ∧ W.cell? (a.add (i * 3 + 1)) = some (.int .i64 q.x) ∧ W.cell? (a.add (i * 3 + 2)) = some (.int .i64 q.y) := by
      intro i hil
      obtain ⟨cs', h1, h2⟩ := hi i (by omega)
      rw [cellsAct] at h1
      obtain ⟨_, hlen, hcell⟩ := World.cells?_some h1
      obtain ⟨f0, f1, f2, hs, o0, o1, o2, t0, t1, t2⟩ := structAct
      obtain ⟨y0, y1, y2, k, _, _, g0, g1, g2⟩ := trod_struct3 hs h2
      rw [o0, t0, cellsU8] at g0
      rw [o1, t1, cellsInt1] at g1
      rw [o2, t2, cellsInt1] at g2
      match cs', hlen with
      | [u0, u1, u2], _ =>
        have e0 := hcell 0 (by omega)
        have e1 := hcell 1 (by omega)
        have e2 := hcell 2 (by omega)
        rw [add_add] at e0 e1 e2
        obtain ⟨n0, r0, _, w0⟩ := DataW.trod_int Try.underlying5 g0
        obtain ⟨n1, r1, _, w1⟩ := DataW.trod_int Try.underlying3 g1
        obtain ⟨n2, r2, _, w2⟩ := DataW.trod_int Try.underlying3 g2
        simp at r0 r1 r2
        subst r0 r1 r2
        have b0 := w0
        simp only [Lit.wf, Bool.and_eq_true, decide_eq_true_eq] at b0
        exact ⟨⟨n0, n1, n2⟩, ⟨b0.1, b0.2, w1, w2⟩, by simpa using e0, by simpa using e1, by simpa using e2⟩
    obtain ⟨q, hq⟩ := choose_lt each
    have hlen : ((List.range len).map q).length = len := by simp
    have hget : ∀ j, j < len → getA ((List.range len).map q) j = q j := fun j hj => by unfold getA; simp [hj]
    refine ⟨(List.range len).map q, some a, m, by rw [hlen], by omega, hm, fun h0 => ?_, fun j hj => ?_⟩
    · rw [hlen] at h0
      obtain ⟨b, off, sp⟩ := a
      have h1 := (hq 0 (by omega)).2.1
      have hsp : sp = none := by simpa [Addr.add] using World.cell?_spot h1
      subst hsp
      refine ⟨b, off, rfl, by simpa [Addr.add] using World.block_lt_of_cell? W _ h1, fun j hj => ?_⟩
      rw [hlen] at hj
      rw [hget j hj]
      obtain ⟨_, c0, c1, c2⟩ := hq j hj
      rw [Addr.add_lit] at c0 c1 c2
      exact ⟨c0, by rw [Nat.add_assoc]; exact c1, by rw [Nat.add_assoc]; exact c2⟩
    · rw [hlen] at hj
      rw [hget j hj]
      exact (hq j hj).1

theorem Acts.below {w w' : World} {v : Value} {l : List Act1} (h : Acts w v l) (hb : Below w.heap.size w w') : Acts w' v l := by
  obtain ⟨A, cap, rfl, hc, hm, hr, hw⟩ := h
  refine ⟨A, cap, rfl, hc, hm, fun h0 => ?_, hw⟩
  obtain ⟨b, off, hA, hlt, hg⟩ := hr h0
  refine ⟨b, off, hA, Nat.lt_of_lt_of_le hlt hb.size, fun j hj => ?_⟩
  obtain ⟨h1, h2, h3⟩ := hg j hj
  exact ⟨(hb.cell (p := ⟨b, off + j * 3, none⟩) hlt).trans h1, (hb.cell (p := ⟨b, off + j * 3 + 1, none⟩) hlt).trans h2, (hb.cell (p := ⟨b, off + j * 3 + 2, none⟩) hlt).trans h3⟩

end Go.Proofs.Ytfofidbgjfmepaa
