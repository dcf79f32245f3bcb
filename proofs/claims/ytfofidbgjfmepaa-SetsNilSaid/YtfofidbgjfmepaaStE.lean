/-
  The program's get, Add, Count, Len, Same.
-/
import Derived.Test.YtfofidbgjfmepaaStD
namespace Go.Proofs.Ytfofidbgjfmepaa
open Go.RowKit Go.Maps

/-- The sets are as they were; of the rest only what is theirs may have changed. -/
def Keeps (F : Nat → Prop) (w : World) (sb : Nat) (s : St) (w' : World) : Prop := Holds w' F sb s ∧ Only F w w'

theorem Keeps.below {F : Nat → Prop} {w w' : World} {sb : Nat} {s : St} (h : Holds w F sb s) (hb : Below w.heap.size w w') : Keeps F w sb s w' := ⟨h.below hb, Only.of_below hb⟩
theorem Keeps.trans {F : Nat → Prop} {w w1 w2 : World} {sb : Nat} {s : St} (h1 : Keeps F w sb s w1) (h2 : Keeps F w1 sb s w2) : Keeps F w sb s w2 := ⟨h2.1, h1.2.trans' h2.2⟩
theorem Keeps.after {F : Nat → Prop} {w w' : World} {sb : Nat} {s : St} (h : Keeps F w sb s w') : After F w sb s w' := ⟨F, h.1, h.2, fun _ => .inl⟩
theorem Keeps.then {F : Nat → Prop} {w w1 w2 : World} {sb : Nat} {s s' : St} (h1 : Keeps F w sb s w1) (h2 : After F w1 sb s' w2) : After F w sb s' w2 := After.trans h1.2 (fun _ => .inl) h2
theorem After.then {F : Nat → Prop} {w w1 w2 : World} {sb : Nat} {s s' : St} (h1 : After F w sb s w1) (h2 : ∀ F', Holds w1 F' sb s → After F' w1 sb s' w2) : After F w sb s' w2 := by
  obtain ⟨F', a, b, c⟩ := h1
  exact After.trans b c (h2 F' a)

/-- first, of any of the structure's lists. -/
theorem first_any' (w : World) (F : Nat → Prop) (sb : Nat) (s : St) (h : Holds w F sb s) (i : Nat) (hi : i < s.ts.length) :
    Calls Try.prog 22 #[.pointer (some ⟨sb, 0, none⟩), .int .i64 (i : Int)] w fun e w' => e = .returned (.int .i64 (getN s.gr i : Int)) ∧ Keeps F w sb s w' := by
  obtain ⟨tv, av, bm, D, ah, R⟩ := h
  refine (first_any w F sb bm s tv av D ah R i hi).mono ?_
  rintro e w' ⟨rfl, ah', R', hO⟩
  exact ⟨rfl, ⟨_, _, _, _, _, R'⟩, hO⟩

set_option maxRecDepth 100000 in
set_option maxHeartbeats 1000000 in
theorem get_any (w : World) (F : Nat → Prop) (sb : Nat) (s : St) (x : Int) (h : Holds w F sb s) (hx : (Lit.int .i64 x).wf = true) (hl : s.ts.length ≤ 1000000) :
    Calls Try.prog 23 #[.pointer (some ⟨sb, 0, none⟩), .int .i64 x] w fun e w' => e = .returned (.int .i64 ((s.add x).place x : Int)) ∧ After F w sb (s.add x) w' := by
  have HF := Lib.hid (find_any w F sb s x h hx)
  by_cases hm : x ∈ s.ts
  · have e1 := (St.find_in hm).1
    have HA := Lib.hid (St.add_in hm)
    rw [e1] at HF
    have hne : ((s.place x : Int) == -1) = false := beq_eq_false_iff_ne.2 (by omega)
    go_enter Try.func23, Try.ntmps23
    clear e1 hm
    go_wp2_with fail
    refine HF.out.mono ?_
    rintro e w1 ⟨rfl, hB⟩
    go_wp2
    go_ret
    exact ⟨ret_int (by rw [HA.out]), by rw [HA.out]; exact (Keeps.below h hB).after⟩
  · have e1 := St.find_out hm
    have HA := Lib.hid (St.place_new hm)
    rw [e1] at HF
    have HM := Lib.hid hm
    clear hm e1
    go_enter Try.func23, Try.ntmps23
    go_wp2_with fail
    refine HF.out.mono ?_
    rintro e w1 ⟨rfl, hB⟩
    go_wp2_with fail
    refine (put_any w1 F sb s x (h.below hB) hx HM.out hl).mono ?_
    rintro e w2 ⟨rfl, hA⟩
    go_wp2
    go_ret
    exact ⟨ret_int (by rw [HA.out]), (Keeps.below h hB).then hA⟩

set_option maxRecDepth 100000 in
set_option maxHeartbeats 1000000 in
theorem add_any (w : World) (F : Nat → Prop) (sb : Nat) (s : St) (x : Int) (h : Holds w F sb s) (hx : (Lit.int .i64 x).wf = true) (hl : s.ts.length ≤ 1000000) :
    Calls Try.prog 9 #[.pointer (some ⟨sb, 0, none⟩), .int .i64 x] w fun e w' => e = .returned (.bool (decide (x ∉ s.ts))) ∧ After F w sb (s.add x) w' := by
  have HF := Lib.hid (find_any w F sb s x h hx)
  by_cases hm : x ∈ s.ts
  · have e1 := (St.find_in hm).1
    have HA := Lib.hid (St.add_in hm)
    have HM := Lib.hid (show decide (x ∉ s.ts) = false by simpa using hm)
    rw [e1] at HF
    have hne : ((s.place x : Int) != -1) = true := bne_iff_ne.2 (by omega)
    go_enter Try.func9, Try.ntmps9
    clear e1 hm
    go_wp2_with fail
    refine HF.out.mono ?_
    rintro e w1 ⟨rfl, hB⟩
    go_wp2
    go_ret
    exact ⟨ret_bool HM.out.symm, by rw [HA.out]; exact (Keeps.below h hB).after⟩
  · have e1 := St.find_out hm
    have HD := Lib.hid (show decide (x ∉ s.ts) = true by simpa using hm)
    rw [e1] at HF
    have HM := Lib.hid hm
    clear hm e1
    go_enter Try.func9, Try.ntmps9
    go_wp2_with fail
    refine HF.out.mono ?_
    rintro e w1 ⟨rfl, hB⟩
    go_wp2_with fail
    refine (put_any w1 F sb s x (h.below hB) hx HM.out hl).mono ?_
    rintro e w2 ⟨rfl, hA⟩
    go_wp2
    go_ret
    exact ⟨ret_bool HD.out.symm, (Keeps.below h hB).then hA⟩

set_option maxRecDepth 100000 in
theorem count_any (w : World) (F : Nat → Prop) (sb : Nat) (s : St) (h : Holds w F sb s) :
    Calls Try.prog 10 #[.pointer (some ⟨sb, 0, none⟩)] w fun e w' => e = .returned (.int .i64 (heads s.gr : Int)) ∧ w = w' := by
  obtain ⟨tv, av, bm, D, ah, R⟩ := h
  have c3 := R.c3
  clear R
  go_enter Try.func10, Try.ntmps10
  go_wp2
  go_ret
  exact ⟨rfl, rfl⟩

set_option maxRecDepth 100000 in
theorem count_nil (w : World) :
    Calls Try.prog 10 #[.pointer none] w fun e w' => e = .returned (.int .i64 0) ∧ w = w' := by
  go_enter Try.func10, Try.ntmps10
  go_wp2
  go_ret
  exact ⟨rfl, rfl⟩

set_option maxRecDepth 100000 in
theorem len_any (w : World) (F : Nat → Prop) (sb : Nat) (s : St) (h : Holds w F sb s) :
    Calls Try.prog 18 #[.pointer (some ⟨sb, 0, none⟩)] w fun e w' => e = .returned (.int .i64 (s.ts.length : Int)) ∧ w = w' := by
  obtain ⟨tv, av, bm, D, ah, R⟩ := h
  obtain ⟨A, cap, rfl⟩ := own_shape R.things
  have c0 := R.c0
  clear R
  go_enter Try.func18, Try.ntmps18
  go_wp2
  go_ret
  exact ⟨rfl, rfl⟩

set_option maxRecDepth 100000 in
theorem len_nil (w : World) :
    Calls Try.prog 18 #[.pointer none] w fun e w' => e = .returned (.int .i64 0) ∧ w = w' := by
  go_enter Try.func18, Try.ntmps18
  go_wp2
  go_ret
  exact ⟨rfl, rfl⟩

set_option maxRecDepth 100000 in
theorem add_nil (w : World) (x : Int) :
    Calls Try.prog 9 #[.pointer none, .int .i64 x] w fun e w' => e = .returned (.bool false) ∧ Below w.heap.size w w' := by
  go_enter Try.func9, Try.ntmps9
  go_wp2_with fail
  refine (find_nil _ x).mono ?_
  rintro e w1 ⟨rfl, hB⟩
  go_wp2
  go_ret
  exact ⟨rfl, hB⟩

set_option maxRecDepth 100000 in
theorem join_nil (w : World) (x y : Int) :
    Calls Try.prog 11 #[.pointer none, .int .i64 x, .int .i64 y] w fun e w' => e = .returned (.bool false) ∧ Below w.heap.size w w' := by
  go_enter Try.func11, Try.ntmps11
  go_wp2_with fail
  refine (find_nil _ x).mono ?_
  rintro e w1 ⟨rfl, hB⟩
  go_wp2
  go_ret
  exact ⟨rfl, hB⟩

set_option maxRecDepth 100000 in
theorem same_nil (w : World) (x y : Int) :
    Calls Try.prog 12 #[.pointer none, .int .i64 x, .int .i64 y] w fun e w' => e = .returned (.bool false) ∧ Below w.heap.size w w' := by
  go_enter Try.func12, Try.ntmps12
  go_wp2_with fail
  refine (find_nil _ x).mono ?_
  rintro e w1 ⟨rfl, hB⟩
  go_wp2_with fail
  refine (find_nil _ y).mono ?_
  rintro e w2 ⟨rfl, hB2⟩
  go_wp2
  go_ret
  exact ⟨rfl, trans2 hB hB2⟩

set_option maxRecDepth 100000 in
theorem head_nil (w : World) (x : Int) :
    Calls Try.prog 19 #[.pointer none, .int .i64 x] w fun e w' => e = .returned (.tuple #[.int .i64 0, .bool false]) ∧ Below w.heap.size w w' := by
  go_enter Try.func19, Try.ntmps19
  go_wp2_with fail
  refine (find_nil _ x).mono ?_
  rintro e w1 ⟨rfl, hB⟩
  go_wp2
  go_ret2
  exact ⟨rfl, hB⟩

set_option maxRecDepth 100000 in
theorem groups_nil (w : World) :
    Calls Try.prog 16 #[.pointer none] w fun e w' => e = .returned (.slice none 0 0) ∧ w = w' := by
  go_enter Try.func16, Try.ntmps16
  go_wp2
  go_ret
  exact ⟨rfl, rfl⟩

end Go.Proofs.Ytfofidbgjfmepaa
