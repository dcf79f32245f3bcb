/-
  GLays, GrI, GrJ, GrK, GrL, in one text.
-/
import Derived.Test.YtmbpmepoaonleaaGreatLays
import Derived.Test.YtmbpmepoaonleaaGreatM02
import Derived.Test.YtmbpmepoaonleaaGreatM03
/-! The layings stand in one text. -/


/-! The program's Has, Same; slices.Equal, slices.Clone, slices.BinarySearch at lists of numbers. -/
namespace Go.Proofs.YtmbpmepoaonleaaGreat
open Go.RowKit Go.Shelf

theorem getD_getI (l : List Int) (j : Nat) : l.getD j 0 = getI l j := rfl

theorem pequal_any (v : Value) (l : List Int) (u : Value) (m : List Int) (w : World) (h : Ints w v l) (h' : Ints w u m) (hl : l.length ≤ 1000000) (hm : m.length ≤ 1000000) :
    Calls Tryz.prog 40 #[v, u] w fun e w' => e = .returned (.bool (decide (l = m))) ∧ ∃ q, w' = w.drewN q := by
  obtain ⟨A, cap, rfl, _, _, hcell⟩ := h
  obtain ⟨A', cap', rfl, _, _, hcell'⟩ := h'
  by_cases h0 : l.length = 0
  · have e0 : l = [] := List.length_eq_zero_iff.1 h0
    subst e0
    have hcon := AnyG.slices_Equal_int_empty Tryz.laysEqual A A' cap m.length cap' w (by omega)
    change Calls Tryz.prog 40 _ _ _ at hcon
    refine hcon.mono ?_
    rintro e w' ⟨rfl, rfl⟩
    refine ⟨ret_bool (decide_eq_decide.2 ⟨fun e => (List.length_eq_zero_iff.1 e).symm, fun e => by rw [← e]; rfl⟩), 0, rfl⟩
  by_cases hlm : l.length = m.length
  · obtain ⟨b, off, rfl, hb, hc⟩ := hcell (by omega)
    obtain ⟨b', off', rfl, hb', hc'⟩ := hcell' (by omega)
    have hcon := AnyG.slices_Equal_int Tryz.laysEqual b off l.length cap b' off' m.length cap' l m w (Nat.le_refl _) (Nat.le_refl _) (by omega) (by omega) hc hc'
    change Calls Tryz.prog 40 _ _ _ at hcon
    refine hcon.mono ?_
    rintro e w' ⟨rfl, hq⟩
    refine ⟨ret_bool ?_, hq⟩
    rw [List.take_length, List.take_length, Bool.eq_iff_iff, beq_iff_eq, decide_eq_true_eq]
  · have HF := Lib.hid (show decide (l = m) = false by simpa using fun e : l = m => hlm (by rw [e]))
    have hne : ((l.length : Int) != (m.length : Int)) = true := by simp; omega
    clear hlm hcell hcell'
    go_enter Tryz.func40, Tryz.ntmps40
    go_wp2
    go_ret
    exact ⟨ret_bool HF.out.symm, 0, rfl⟩

def sameB (p q : Prt) : Bool := decide (p.v = q.v) && decide (p.e = q.e)
theorem sameB_iff (p q : Prt) : sameB p q = true ↔ p = q := by
  unfold sameB
  rw [Bool.and_eq_true, decide_eq_true_eq, decide_eq_true_eq]
  constructor
  · rintro ⟨h1, h2⟩
    cases p; cases q
    simp only at h1 h2
    rw [h1, h2]
  · rintro rfl
    exact ⟨rfl, rfl⟩

/-- What slices.Clone makes: a slice of the call's own. -/
theorem clone_any (v : Value) (l : List Int) (w : World) (h : Ints w v l) (hl : l.length ≤ 1000000) :
    Calls Tryz.prog 83 #[v] w fun e w' => ∃ u, e = .returned u ∧ Below w.heap.size w w' ∧ Row w' w.heap.size u l := by
  obtain ⟨A, cap, rfl, hcap, hm, hcell⟩ := h
  by_cases h0 : l.length = 0
  · have e0 : l = [] := List.length_eq_zero_iff.1 h0
    subst e0
    rcases A with _ | a
    · have hcon := AnyG.slices_Clone_int_nil Tryz.laysClone 0 cap w
      change Calls Tryz.prog 83 _ _ _ at hcon
      exact hcon.mono fun e w' h => ⟨_, h.1, by rw [h.2]; exact Below.refl _ _, Row.nil _ _⟩
    · have hcon := AnyG.slices_Clone_int_zero Tryz.laysClone a cap w
      change Calls Tryz.prog 83 _ _ _ at hcon
      refine hcon.mono ?_
      rintro e w' ⟨v', rfl, hown, _, hB⟩
      exact ⟨v', rfl, hB, hown⟩
  · obtain ⟨b, off, rfl, hb, hc⟩ := hcell (by omega)
    have hcon := AnyG.slices_Clone_int Tryz.laysClone b off l.length cap l w (Nat.le_refl _) (by omega) hc
    change Calls Tryz.prog 83 _ _ _ at hcon
    refine hcon.mono ?_
    rintro e w' ⟨v', rfl, hown, _, hB⟩
    rw [List.take_length] at hown
    exact ⟨v', rfl, hB, hown⟩

end Go.Proofs.YtmbpmepoaonleaaGreat

/-! The program's merge: two rising lists, put together. -/
namespace Go.Proofs.YtmbpmepoaonleaaGreat
open Go.RowKit

theorem same_of {P : Program} {f : FuncId} {args : Array Value} {w : World} {v : Value} (h : Calls P f args w fun e w' => e = .returned v ∧ w = w') : Calls P f args w fun e w' => e = .returned v ∧ w' = w :=
  h.mono fun _ _ ⟨a, b⟩ => ⟨a, b.symm⟩

theorem isNaN_any (x : Int) (w : World) : Calls Tryz.prog 124 #[.int .i64 x] w fun e w' => e = .returned (.bool false) ∧ w = w' := by
  have h : (x != x) = false := by simp
  go_enter Tryz.func124, Tryz.ntmps124
  go_wp2
  go_ret
  exact ⟨rfl, rfl⟩

/-- As cmp.Compare. -/
def cmpI (x y : Int) : Int := if x < y then -1 else if y < x then 1 else 0

set_option maxRecDepth 100000 in
set_option maxHeartbeats 1000000 in
theorem compare_any (x y : Int) (w : World) : Calls Tryz.prog 97 #[.int .i64 x, .int .i64 y] w fun e w' => e = .returned (.int .i64 (cmpI x y)) ∧ w = w' := by
  by_cases h1 : x < y
  · have HN := Lib.hid (show cmpI x y = -1 from if_pos h1)
    go_enter Tryz.func97, Tryz.ntmps97
    go_wp2_with fail
    refine (isNaN_any x w).mono ?_
    rintro e w' ⟨rfl, rfl⟩
    go_wp2_with fail
    refine (isNaN_any y w).mono ?_
    rintro e w' ⟨rfl, rfl⟩
    go_wp2
    go_ret
    exact ⟨ret_int HN.out.symm, rfl⟩
  · by_cases h2 : y < x
    · have HN := Lib.hid (show cmpI x y = 1 from (if_neg h1).trans (if_pos h2))
      go_enter Tryz.func97, Tryz.ntmps97
      go_wp2_with fail
      refine (isNaN_any x w).mono ?_
      rintro e w' ⟨rfl, rfl⟩
      go_wp2_with fail
      refine (isNaN_any y w).mono ?_
      rintro e w' ⟨rfl, rfl⟩
      go_wp2
      go_ret
      exact ⟨ret_int HN.out.symm, rfl⟩
    · have HN := Lib.hid (show cmpI x y = 0 from (if_neg h1).trans (if_neg h2))
      go_enter Tryz.func97, Tryz.ntmps97
      go_wp2_with fail
      refine (isNaN_any x w).mono ?_
      rintro e w' ⟨rfl, rfl⟩
      go_wp2_with fail
      refine (isNaN_any y w).mono ?_
      rintro e w' ⟨rfl, rfl⟩
      go_wp2
      go_ret
      exact ⟨ret_int HN.out.symm, rfl⟩

def cmpFirst : List Int → List Int → Int
  | [], _ => 1
  | _ :: _, [] => -1
  | x :: _, y :: _ => cmpI x y

theorem getI_zero (x : Int) (l : List Int) : getI (x :: l) 0 = x := rfl

def lenV : Value → Nat
  | .slice _ n _ => n
  | _ => 0

theorem Ints.behind1 {w : World} {b off cap n : Nat} {x : Int} {l : List Int} (h : Ints w (.slice (some ⟨b, off, none⟩) n cap) (x :: l)) :
    Ints w (.slice (if cap = 1 then some ⟨b, off, none⟩ else some ⟨b, off + 1, none⟩) (n - 1) (cap - 1)) l := by
  obtain ⟨A', cap', e, hc, hm, hr⟩ := h
  obtain ⟨rfl, rfl, rfl⟩ := Value.slice.inj e
  refine ⟨_, _, by rw [List.length_cons, Nat.add_sub_cancel], by simp at hc; omega, by omega, fun h0 => ?_⟩
  obtain ⟨b', off', hA, hlt, hg⟩ := hr (by simp)
  simp only [Option.some.injEq, Addr.mk.injEq, and_true] at hA
  obtain ⟨rfl, rfl⟩ := hA
  simp at hc
  refine ⟨b, off + 1, if_neg (by omega), hlt, fun j hj => ?_⟩
  have h1 := hg (j + 1) (by simp; omega)
  have e2 : off + 1 + j = off + (j + 1) := by omega
  rw [e2, h1]
  rfl

/-- What one round does. -/
theorem cmpFirst_left (x : Int) (l : List Int) : cmpFirst (x :: l) [] = -1 := rfl
theorem cmpFirst_lt {x y : Int} (l m : List Int) (h : x < y) : cmpFirst (x :: l) (y :: m) = -1 := if_pos h
theorem cmpFirst_gt {x y : Int} (l m : List Int) (h : y < x) : cmpFirst (x :: l) (y :: m) = 1 := (if_neg (by omega)).trans (if_pos h)
theorem cmpFirst_eq (x : Int) (l m : List Int) : cmpFirst (x :: l) (x :: m) = 0 := (if_neg (by omega)).trans (if_neg (by omega))

/-- The ways in which a round goes: the first's number alone, the second's alone, both; the end. -/
theorem mrg_ways (k : Int) (l m : List Int) :
    (∃ x l', l = x :: l' ∧ cmpFirst l m = -1 ∧ mrg k l m = (if k ≤ 1 then [x] else []) ++ mrg k l' m) ∨
    (∃ y m', m = y :: m' ∧ cmpFirst l m = 1 ∧ mrg k l m = (if k ≤ 1 then [y] else []) ++ mrg k l m') ∨
    (∃ x l' m', l = x :: l' ∧ m = x :: m' ∧ cmpFirst l m = 0 ∧ mrg k l m = (if k ≤ 2 then [x] else []) ++ mrg k l' m') ∨
    (l = [] ∧ m = []) := by
  match l, m with
  | [], [] => exact .inr (.inr (.inr ⟨rfl, rfl⟩))
  | [], y :: m => exact .inr (.inl ⟨y, m, rfl, rfl, mrg_right k y m⟩)
  | x :: l, [] => exact .inl ⟨x, l, rfl, rfl, mrg_left k x l⟩
  | x :: l, y :: m =>
    by_cases h : x < y
    · exact .inl ⟨x, l, rfl, cmpFirst_lt l m h, mrg_lt k l m h⟩
    · by_cases h2 : y < x
      · exact .inr (.inl ⟨y, m, rfl, cmpFirst_gt l m h2, mrg_gt k l m h2⟩)
      · have e : x = y := by omega
        subst e
        exact .inr (.inr (.inl ⟨x, l, m, rfl, rfl, cmpFirst_eq x l m, mrg_eq k l m rfl⟩))

end Go.Proofs.YtmbpmepoaonleaaGreat

/-! The program's merge: its loop. -/
namespace Go.Proofs.YtmbpmepoaonleaaGreat
open Go.RowKit

/-- What holds at each round's head. -/
structure Mg (w : World) (k : Int) (l m : List Int) (wr : World) (v0 v1 v7 : Value) (la lb out : List Int) : Prop where
  low : Below w.heap.size w wr
  a : Ints w v0 la
  b : Ints w v1 lb
  own : Row wr w.heap.size v7 out
  eq : out ++ mrg k la lb = mrg k l m
  len : out.length + la.length + lb.length ≤ l.length + m.length

theorem Mg.drew {w : World} {k : Int} {l m : List Int} {wr : World} {v0 v1 v7 : Value} {la lb out : List Int} (h : Mg w k l m wr v0 v1 v7 la lb out) (n : Nat) : Mg w k l m (wr.drewN n) v0 v1 v7 la lb out :=
  ⟨below_drewN h.low n, h.a, h.b, h.own.below (below_drewN' wr n), h.eq, h.len⟩

/-- A number has been taken, and put behind the others; or not. -/
theorem Mg.take {w : World} {k : Int} {l m : List Int} {wr w1 : World} {v0 v1 v7 u0 u1 u7 : Value} {la lb la' lb' out : List Int} {x : Int} {c : Prop} [Decidable c] (h : Mg w k l m wr v0 v1 v7 la lb out) (hc : c)
    (e : mrg k la lb = (if c then [x] else []) ++ mrg k la' lb') (ha : Ints w u0 la') (hb : Ints w u1 lb') (hl : la'.length + lb'.length + 1 ≤ la.length + lb.length) (ho : Row w1 w.heap.size u7 (out ++ [x])) (hB : Below w.heap.size w w1) : Mg w k l m w1 u0 u1 u7 la' lb' (out ++ [x]) :=
  ⟨hB, ha, hb, ho, by rw [← h.eq, e, if_pos hc, List.append_assoc], by have := h.len; simp; omega⟩
theorem Mg.pass {w : World} {k : Int} {l m : List Int} {wr : World} {v0 v1 v7 u0 u1 : Value} {la lb la' lb' out : List Int} {x : Int} {c : Prop} [Decidable c] (h : Mg w k l m wr v0 v1 v7 la lb out) (hc : ¬ c)
    (e : mrg k la lb = (if c then [x] else []) ++ mrg k la' lb') (ha : Ints w u0 la') (hb : Ints w u1 lb') (hl : la'.length + lb'.length + 1 ≤ la.length + lb.length) : Mg w k l m wr u0 u1 v7 la' lb' out :=
  ⟨h.low, ha, hb, h.own, by rw [← h.eq, e, if_neg hc, List.nil_append], by have := h.len; omega⟩

theorem ints_first {w : World} {n c : Nat} {A : Option Addr} {x : Int} {l : List Int} (h : Ints w (.slice A n c) (x :: l)) :
    ∃ b off, A = some ⟨b, off, none⟩ ∧ w.cell? ⟨b, off, none⟩ = some (.int .i64 x) ∧ b < w.heap.size ∧ 0 < n ∧ n ≤ c ∧ n = l.length + 1 := by
  obtain ⟨b, off, rfl, hb, hc⟩ := ints_at h (j := 0) (by simp)
  obtain ⟨h1, h2, _⟩ := ints_cap h
  simp at h1
  exact ⟨b, off, rfl, by rw [getI_zero, Nat.add_zero] at hc; exact hc, hb, by omega, h2, h1⟩

end Go.Proofs.YtmbpmepoaonleaaGreat

/-! The program's And, Or, Within. -/
namespace Go.Proofs.YtmbpmepoaonleaaGreat
open Go.RowKit

def Prt.and (p q : Prt) : Prt := ⟨mrg 2 p.v q.v, mrg 2 p.e q.e⟩
def Prt.or (p q : Prt) : Prt := ⟨mrg 1 p.v q.v, mrg 1 p.e q.e⟩

/-- Not too long for the walk. -/
def Prt.few (p : Prt) : Prop := p.v.length ≤ 1000000 ∧ p.e.length ≤ 1000000

theorem mrg2_len (l m : List Int) : (mrg 2 l m).length ≤ l.length := by
  refine mrg_ind (C := fun l m => (mrg 2 l m).length ≤ l.length) ?_ ?_ ?_ ?_ ?_ ?_ _ l m (Nat.le_refl _)
  · rw [mrg_nil]; simp
  · intro y m _; rw [and_right]; simp
  · intro x l _; rw [and_left]; simp
  · intro x y l m h ih; rw [mrg_lt 2 l m h, if_neg (by omega), List.nil_append, List.length_cons]; omega
  · intro x y l m h ih; rw [mrg_gt 2 l m h, if_neg (by omega), List.nil_append]; exact ih
  · intro x l m ih; rw [mrg_eq 2 l m rfl, if_pos (by omega), List.length_append, List.length_cons]; simp; omega
theorem and_few {p : Prt} (hp : p.few) (q : Prt) : (p.and q).few := by
  have h1 := mrg2_len p.v q.v
  have h2 := mrg2_len p.e q.e
  exact ⟨Nat.le_trans h1 hp.1, Nat.le_trans h2 hp.2⟩

end Go.Proofs.YtmbpmepoaonleaaGreat
