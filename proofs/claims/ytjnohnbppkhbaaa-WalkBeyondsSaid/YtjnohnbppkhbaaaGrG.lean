/-
  The program's Ends.
-/
import Derived.Test.YtjnohnbppkhbaaaGrF
namespace Go.Proofs.Ytjnohnbppkhbaaa
open Go.RowKit

/-- What Ends answers. -/
def endsOf (g : Gph) (d : Int) : Value := if g.err = 0 ∧ 0 ≤ d ∧ d < 2 * (g.e.length : Int) then .tuple #[.int .i64 (tailOf g d.toNat), .int .i64 (headOf g d.toNat), .bool true] else .tuple #[.int .i64 0, .int .i64 0, .bool false]

theorem ret_val {a b : Value} (h : a = b) : Ending.returned a = .returned b := by rw [h]

set_option maxRecDepth 100000 in
set_option maxHeartbeats 1000000 in
theorem ends_any (v : Value) (g : Gph) (d : Int) (w : World) (h : Gr w v g) (hl : g.e.length ≤ 1000000) :
    Calls Try.prog 37 #[v, .int .i64 d] w fun e w' => e = .returned (endsOf g d) ∧ Below w.heap.size w w' := by
  have HG := Lib.hid h
  obtain ⟨ve, rfl, h1⟩ := h
  obtain ⟨Ae, ce, rfl⟩ := h1.form
  obtain ⟨b1, hm⟩ := one_box w (.int .i64 g.n) (.slice Ae g.e.length ce) 24
  have HB1 := Lib.hid b1
  have HM := Lib.hid hm
  have HG1 := Lib.hid (HG.out.below hm)
  have HE1 := Lib.hid (h1.below hm)
  clear b1 hm h1 HG
  go_enter Try.func37, Try.ntmps37
  go_wp2_with fail
  generalize w.alloc (.cells #[.int .i64 g.n, .slice Ae g.e.length ce] 24) = w1 at *
  refine (right_any _ g _ HG1.out hl).mono ?_
  rintro e w2 ⟨rfl, hB2⟩
  have B1 := HB1.out.below hB2
  have c0 := B1.c0
  have c1 := B1.c1
  have lt1 := B1.lt
  have HM2 := Lib.hid (trans2 HM.out hB2)
  have HE2 := Lib.hid (HE1.out.below hB2)
  clear HB1 HM HG1 HE1 hB2 B1
  by_cases he : g.err = 0
  · rw [he]
    go_wp2_with fail
    refine (below_any _ _ _).mono ?_
    rintro e w3 ⟨rfl, rfl⟩
    by_cases hb : inB d (2 * (g.e.length : Int)) = true
    · obtain ⟨d0, d1⟩ := of_decide_eq_true hb
      obtain ⟨k, rfl⟩ : ∃ k : Nat, d = (k : Int) := ⟨d.toNat, by omega⟩
      rw [hb]
      have HN := Lib.hid (show endsOf g (k : Int) = .tuple #[.int .i64 (tailOf g k), .int .i64 (headOf g k), .bool true] by
        unfold endsOf; rw [if_pos ⟨he, d0, d1⟩, Int.toNat_natCast])
      obtain ⟨be, oe, rfl, hbe, hca, hcb⟩ := edges_at HE2.out (show k / 2 < g.e.length by omega)
      have hr := rem_nat k
      have hq := quo_nat k
      have hlt : ((k / 2 : Nat) : Int) < (g.e.length : Int) := by omega
      have h0 : (0 : Int) ≤ ((k / 2 : Nat) : Int) := by omega
      have HT0 := Lib.hid (show k % 2 = 0 → tailOf g k = (getE g.e (k / 2)).a from fun h => if_pos h)
      have HT1 := Lib.hid (show ¬ k % 2 = 0 → tailOf g k = (getE g.e (k / 2)).b from fun h => if_neg h)
      have HH0 := Lib.hid (fun h => head_even g (d := k) h)
      have HH1 := Lib.hid (fun h => head_odd g (d := k) h)
      have HBB := Lib.hid (HM2.out.alloc HM2.out.size (.cells #[.int .i64 (getE g.e (k / 2)).a, .int .i64 (getE g.e (k / 2)).b] 51))
      generalize k / 2 = i at *
      generalize (getE g.e i).a = xa at *
      generalize (getE g.e i).b = xb at *
      have y0 := cell_two0 w2 (.int .i64 xa) (.int .i64 xb) 51
      have y1 := cell_two1 w2 (.int .i64 xa) (.int .i64 xb) 51
      clear d0 d1 hb
      by_cases h2 : k % 2 = 0
      · have e1 := Lib.hid (HT0.out h2)
        have e2 := Lib.hid (HH0.out h2)
        rw [h2] at hr
        clear h2 HT0 HT1 HH0 HH1
        go_wp2_with fail
        generalize w2.alloc (.cells #[.int .i64 xa, .int .i64 xb] 51) = w3 at *
        go_quiet (fail)
        go_wp2
        refine bodyPost_ret (v := .tuple #[.int .i64 xa, .int .i64 xb, .bool true]) ?_ rfl ⟨ret_val (by rw [HN.out, e1.out, e2.out]), below_drewN HBB.out _⟩
        simp [results, Try.results37, go_sem]
      · have e1 := Lib.hid (HT1.out h2)
        have e2 := Lib.hid (HH1.out h2)
        have h3 : k % 2 = 1 := by omega
        rw [h3] at hr
        clear h2 h3 HT0 HT1 HH0 HH1
        go_wp2_with fail
        generalize w2.alloc (.cells #[.int .i64 xa, .int .i64 xb] 51) = w3 at *
        go_quiet (fail)
        go_wp2
        refine bodyPost_ret (v := .tuple #[.int .i64 xb, .int .i64 xa, .bool true]) ?_ rfl ⟨ret_val (by rw [HN.out, e1.out, e2.out]), below_drewN HBB.out _⟩
        simp [results, Try.results37, go_sem]
    · have HN := Lib.hid (show endsOf g d = .tuple #[.int .i64 0, .int .i64 0, .bool false] from if_neg (fun h => hb (decide_eq_true h.2)))
      rw [Bool.eq_false_iff.2 hb]
      go_wp2
      refine bodyPost_ret (v := .tuple #[.int .i64 0, .int .i64 0, .bool false]) ?_ rfl ⟨ret_val HN.out.symm, HM2.out⟩
      simp [results, Try.results37, go_sem]
  · have HN := Lib.hid (show endsOf g d = .tuple #[.int .i64 0, .int .i64 0, .bool false] from if_neg (fun h => he h.1))
    have he' : (g.err != 0) = true := by simpa using he
    generalize g.err = ge at *
    go_wp2
    refine bodyPost_ret (v := .tuple #[.int .i64 0, .int .i64 0, .bool false]) ?_ rfl ⟨ret_val HN.out.symm, HM2.out⟩
    simp [results, Try.results37, go_sem]

end Go.Proofs.Ytjnohnbppkhbaaa
