/-
  The program's merge: two rising lists, put together.
-/
import Derived.Test.YtjnohnbppkhbaaaGrI
namespace Go.Proofs.Ytjnohnbppkhbaaa
open Go.RowKit

theorem same_of {P : Program} {f : FuncId} {args : Array Value} {w : World} {v : Value} (h : Calls P f args w fun e w' => e = .returned v ∧ w = w') : Calls P f args w fun e w' => e = .returned v ∧ w' = w :=
  h.mono fun _ _ ⟨a, b⟩ => ⟨a, b.symm⟩

theorem isNaN_any (x : Int) (w : World) : Calls Try.prog 56 #[.int .i64 x] w fun e w' => e = .returned (.bool false) ∧ w = w' := by
  have h : (x != x) = false := by simp
  go_enter Try.func56, Try.ntmps56
  go_wp2
  go_ret
  exact ⟨rfl, rfl⟩

/-- As cmp.Compare. -/
def cmpI (x y : Int) : Int := if x < y then -1 else if y < x then 1 else 0

def cmpFirst : List Int → List Int → Int
  | [], _ => 1
  | _ :: _, [] => -1
  | x :: _, y :: _ => cmpI x y

theorem getI_zero (x : Int) (l : List Int) : getI (x :: l) 0 = x := rfl

def lenV : Value → Nat
  | .slice _ n _ => n
  | _ => 0

theorem Ints.behind1 {w : World} {b off cap n : Nat} {x : Int} {l : List Int} (h : Ints w (.slice (some ⟨b, off, none⟩) n cap) (x :: l)) :
    Ints w (.slice (if cap = 1 then some ⟨b, off, none⟩ else some ⟨b, off + 1, none⟩) (n - 1) (cap - 1)) l := by
  obtain ⟨A', cap', e, hc, hm, hr⟩ := h
  obtain ⟨rfl, rfl, rfl⟩ := Value.slice.inj e
  refine ⟨_, _, by rw [List.length_cons, Nat.add_sub_cancel], by simp at hc; omega, by omega, fun h0 => ?_⟩
  obtain ⟨b', off', hA, hlt, hg⟩ := hr (by simp)
  simp only [Option.some.injEq, Addr.mk.injEq, and_true] at hA
  obtain ⟨rfl, rfl⟩ := hA
  simp at hc
  refine ⟨b, off + 1, if_neg (by omega), hlt, fun j hj => ?_⟩
  have h1 := hg (j + 1) (by simp; omega)
  have e2 : off + 1 + j = off + (j + 1) := by omega
  rw [e2, h1]
  rfl

/-- What one round does. -/
theorem cmpFirst_left (x : Int) (l : List Int) : cmpFirst (x :: l) [] = -1 := rfl
theorem cmpFirst_lt {x y : Int} (l m : List Int) (h : x < y) : cmpFirst (x :: l) (y :: m) = -1 := if_pos h
theorem cmpFirst_gt {x y : Int} (l m : List Int) (h : y < x) : cmpFirst (x :: l) (y :: m) = 1 := (if_neg (by omega)).trans (if_pos h)
theorem cmpFirst_eq (x : Int) (l m : List Int) : cmpFirst (x :: l) (x :: m) = 0 := (if_neg (by omega)).trans (if_neg (by omega))

/-- The ways in which a round goes: the first's number alone, the second's alone, both; the end. -/
theorem mrg_ways (k : Int) (l m : List Int) :
    (∃ x l', l = x :: l' ∧ cmpFirst l m = -1 ∧ mrg k l m = (if k ≤ 1 then [x] else []) ++ mrg k l' m) ∨
    (∃ y m', m = y :: m' ∧ cmpFirst l m = 1 ∧ mrg k l m = (if k ≤ 1 then [y] else []) ++ mrg k l m') ∨
    (∃ x l' m', l = x :: l' ∧ m = x :: m' ∧ cmpFirst l m = 0 ∧ mrg k l m = (if k ≤ 2 then [x] else []) ++ mrg k l' m') ∨
    (l = [] ∧ m = []) := by
  match l, m with
  | [], [] => exact .inr (.inr (.inr ⟨rfl, rfl⟩))
  | [], y :: m => exact .inr (.inl ⟨y, m, rfl, rfl, mrg_right k y m⟩)
  | x :: l, [] => exact .inl ⟨x, l, rfl, rfl, mrg_left k x l⟩
  | x :: l, y :: m =>
    by_cases h : x < y
    · exact .inl ⟨x, l, rfl, cmpFirst_lt l m h, mrg_lt k l m h⟩
    · by_cases h2 : y < x
      · exact .inr (.inl ⟨y, m, rfl, cmpFirst_gt l m h2, mrg_gt k l m h2⟩)
      · have e : x = y := by omega
        subst e
        exact .inr (.inr (.inl ⟨x, l, m, rfl, rfl, cmpFirst_eq x l m, mrg_eq k l m rfl⟩))

end Go.Proofs.Ytjnohnbppkhbaaa
