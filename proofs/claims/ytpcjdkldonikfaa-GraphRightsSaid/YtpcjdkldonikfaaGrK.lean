/-
  The program's merge: its loop.
-/
import Derived.Test.YtpcjdkldonikfaaGrJ
namespace Go.Proofs.Ytpcjdkldonikfaa
open Go.RowKit

/-- What holds at each round's head. -/
structure Mg (w : World) (k : Int) (l m : List Int) (wr : World) (v0 v1 v7 : Value) (la lb out : List Int) : Prop where
  low : Below w.heap.size w wr
  a : Ints w v0 la
  b : Ints w v1 lb
  own : Row wr w.heap.size v7 out
  eq : out ++ mrg k la lb = mrg k l m
  len : out.length + la.length + lb.length ≤ l.length + m.length

theorem Mg.drew {w : World} {k : Int} {l m : List Int} {wr : World} {v0 v1 v7 : Value} {la lb out : List Int} (h : Mg w k l m wr v0 v1 v7 la lb out) (n : Nat) : Mg w k l m (wr.drewN n) v0 v1 v7 la lb out :=
  ⟨below_drewN h.low n, h.a, h.b, h.own.below (below_drewN' wr n), h.eq, h.len⟩

/-- A number has been taken, and put behind the others; or not. -/
theorem Mg.take {w : World} {k : Int} {l m : List Int} {wr w1 : World} {v0 v1 v7 u0 u1 u7 : Value} {la lb la' lb' out : List Int} {x : Int} {c : Prop} [Decidable c] (h : Mg w k l m wr v0 v1 v7 la lb out) (hc : c)
    (e : mrg k la lb = (if c then [x] else []) ++ mrg k la' lb') (ha : Ints w u0 la') (hb : Ints w u1 lb') (hl : la'.length + lb'.length + 1 ≤ la.length + lb.length) (ho : Row w1 w.heap.size u7 (out ++ [x])) (hB : Below w.heap.size w w1) : Mg w k l m w1 u0 u1 u7 la' lb' (out ++ [x]) :=
  ⟨hB, ha, hb, ho, by rw [← h.eq, e, if_pos hc, List.append_assoc], by have := h.len; simp; omega⟩
theorem Mg.pass {w : World} {k : Int} {l m : List Int} {wr : World} {v0 v1 v7 u0 u1 : Value} {la lb la' lb' out : List Int} {x : Int} {c : Prop} [Decidable c] (h : Mg w k l m wr v0 v1 v7 la lb out) (hc : ¬ c)
    (e : mrg k la lb = (if c then [x] else []) ++ mrg k la' lb') (ha : Ints w u0 la') (hb : Ints w u1 lb') (hl : la'.length + lb'.length + 1 ≤ la.length + lb.length) : Mg w k l m wr u0 u1 v7 la' lb' out :=
  ⟨h.low, ha, hb, h.own, by rw [← h.eq, e, if_neg hc, List.nil_append], by have := h.len; omega⟩

theorem ints_first {w : World} {n c : Nat} {A : Option Addr} {x : Int} {l : List Int} (h : Ints w (.slice A n c) (x :: l)) :
    ∃ b off, A = some ⟨b, off, none⟩ ∧ w.cell? ⟨b, off, none⟩ = some (.int .i64 x) ∧ b < w.heap.size ∧ 0 < n ∧ n ≤ c ∧ n = l.length + 1 := by
  obtain ⟨b, off, rfl, hb, hc⟩ := ints_at h (j := 0) (by simp)
  obtain ⟨h1, h2, _⟩ := ints_cap h
  simp at h1
  exact ⟨b, off, rfl, by rw [getI_zero, Nat.add_zero] at hc; exact hc, hb, by omega, h2, h1⟩

set_option maxRecDepth 100000 in
set_option maxHeartbeats 600000 in
theorem merge_any (v u : Value) (l m : List Int) (k : Int) (w : World) (h : Ints w v l) (h' : Ints w u m) (hl : l.length ≤ 1000000) (hm : m.length ≤ 1000000) :
    Calls Try.prog 40 #[v, u, .int .i64 k] w fun e w' => ∃ r, e = .returned r ∧ Below w.heap.size w w' ∧ Row w' w.heap.size r (mrg k l m) := by
  have HA := Lib.hid h
  have HB := Lib.hid h'
  obtain ⟨A, c, rfl⟩ := ints_form h
  obtain ⟨A', c', rfl⟩ := ints_form h'
  clear h h'
  go_enter Try.func40, Try.ntmps40
  go_wp2
  go_loopw [0, 1, 7] (fun a b o wr => ∃ la lb out, Hid (Mg w k l m wr a b o la lb out)) (fun a b _ _ => lenV a + lenV b)
  case atStart => exact ⟨l, m, [], Lib.hid ⟨Below.refl _ _, HA.out, HB.out, Row.nil _ _, rfl, by simp⟩⟩
  case round =>
    obtain ⟨la, lb, out, hM⟩ := hrel
    rename_i wr
    have hca := hM.out.a
    have hcb := hM.out.b
    obtain ⟨A1, c1, rfl⟩ := ints_form hca
    obtain ⟨A2, c2, rfl⟩ := ints_form hcb
    have HI1 := Lib.hid (hca.below hM.out.low)
    have HI2 := Lib.hid (hcb.below hM.out.low)
    rcases mrg_ways k la lb with ⟨x, la', e, ec, em⟩ | ⟨y, lb', e, ec, em⟩ | ⟨x, la', lb', e, e2, ec, em⟩ | ⟨e, e2⟩
    · -- the first's number alone
      subst e
      obtain ⟨b, off, rfl, hcell, hb, hn, hnc, hlen⟩ := ints_first hca
      have HBE := Lib.hid (Ints.behind1 hca)
      have HOT := Lib.hid hcb
      obtain ⟨Ab, hAb⟩ : ∃ Ab, (if c1 = 1 then some (⟨b, off, none⟩ : Addr) else some ⟨b, off + 1, none⟩) = some Ab := by split <;> exact ⟨_, rfl⟩
      have HEM := Lib.hid em
      have HEC := Lib.hid ec
      have HLO := Lib.hid (show out.length ≤ 4000000 by have := hM.out.len; omega)
      have HBE' := HBE.out
      rw [hAb] at HBE'
      have HBF := Lib.hid HBE'
      have HCE := Lib.hid ((hM.out.low.cell (p := ⟨b, off, none⟩) hb).trans hcell)
      have HLL := Lib.hid (show la'.length + lb.length + 1 ≤ (x :: la').length + lb.length by simp only [List.length_cons]; omega)
      clear hca hcb em ec HBE HBE' hcell hlen HA HB
      generalize hnn : (x :: la').length = n at *
      generalize hnm : lb.length = n2 at *
      clear hnn hnm
      have q1 : 1 ≤ n := hn
      go_wp2_with fail
      refine (compareFirst_any _ _ (x :: la') lb wr HI1.out HI2.out).mono ?_
      rintro e w2 ⟨rfl, q, rfl⟩
      rw [HEC.out]
      have HM2 := Lib.hid (hM.out.drew q)
      have hce := (World.cell?_drewN wr q _).trans HCE.out
      clear hM HI1 HI2 HCE
      generalize wr.drewN q = w3 at *
      go_wp2_with fail
      go_quiet (fail)
      have HM4 := Lib.hid (HM2.out.drew nq)
      clear HM2 hce
      generalize w3.drewN nq = w5 at *
      by_cases hk : k ≤ 1
      · go_wp2_with (at_builtin; refine wpList_append1 rfl _ _ rfl rfl rfl HM4.out.own HM4.out.low.size HLO.out ?_)
        intro v7 w6 hO5 hB5
        have HN5 := Lib.hid (HM4.out.take (c := k ≤ 1) hk HEM.out HBF.out HOT.out (by first | exact HLL.out | simp only [List.length_cons]; omega) hO5 (HM4.out.low.trans hB5))
        clear hO5 hB5
        go_wp2
        go_roundw
        case rel => exact ⟨_, _, _, HN5⟩
        case measure => simp [lenV]; omega
      · have HN5 := Lib.hid (HM4.out.pass (c := k ≤ 1) hk HEM.out HBF.out HOT.out (by first | exact HLL.out | simp only [List.length_cons]; omega))
        go_wp2
        go_roundw
        case rel => exact ⟨_, _, _, HN5⟩
        case measure => simp [lenV]; omega
    · -- the second's number alone
      subst e
      obtain ⟨b, off, rfl, hcell, hb, hn, hnc, hlen⟩ := ints_first hcb
      have HBE := Lib.hid (Ints.behind1 hcb)
      have HOT := Lib.hid hca
      obtain ⟨Ab, hAb⟩ : ∃ Ab, (if c2 = 1 then some (⟨b, off, none⟩ : Addr) else some ⟨b, off + 1, none⟩) = some Ab := by split <;> exact ⟨_, rfl⟩
      have HEM := Lib.hid em
      have HEC := Lib.hid ec
      have HLO := Lib.hid (show out.length ≤ 4000000 by have := hM.out.len; omega)
      have HBE' := HBE.out
      rw [hAb] at HBE'
      have HBF := Lib.hid HBE'
      have HCE := Lib.hid ((hM.out.low.cell (p := ⟨b, off, none⟩) hb).trans hcell)
      have HLL := Lib.hid (show la.length + lb'.length + 1 ≤ la.length + (y :: lb').length by simp only [List.length_cons]; omega)
      clear hca hcb em ec HBE HBE' hcell hlen HA HB
      generalize hnn : la.length = n at *
      generalize hnm : (y :: lb').length = n2 at *
      clear hnn hnm
      have q1 : 1 ≤ n2 := hn
      rcases Nat.eq_zero_or_pos n with hz | hz
      · subst hz
        go_wp2_with fail
        refine (compareFirst_any _ _ la (y :: lb') wr HI1.out HI2.out).mono ?_
        rintro e w2 ⟨rfl, q, rfl⟩
        rw [HEC.out]
        have HM2 := Lib.hid (hM.out.drew q)
        have hce := (World.cell?_drewN wr q _).trans HCE.out
        clear hM HI1 HI2 HCE
        generalize wr.drewN q = w3 at *
        go_wp2_with fail
        go_quiet (fail)
        have HM4 := Lib.hid (HM2.out.drew nq)
        clear HM2 hce
        generalize w3.drewN nq = w5 at *
        by_cases hk : k ≤ 1
        · go_wp2_with (at_builtin; refine wpList_append1 rfl _ _ rfl rfl rfl HM4.out.own HM4.out.low.size HLO.out ?_)
          intro v7 w6 hO5 hB5
          have HN5 := Lib.hid (HM4.out.take (c := k ≤ 1) hk HEM.out HOT.out HBF.out (by first | exact HLL.out | simp only [List.length_cons]; omega) hO5 (HM4.out.low.trans hB5))
          clear hO5 hB5
          go_wp2
          go_roundw
          case rel => exact ⟨_, _, _, HN5⟩
          case measure => simp [lenV]; omega
        · have HN5 := Lib.hid (HM4.out.pass (c := k ≤ 1) hk HEM.out HOT.out HBF.out (by first | exact HLL.out | simp only [List.length_cons]; omega))
          go_wp2
          go_roundw
          case rel => exact ⟨_, _, _, HN5⟩
          case measure => simp [lenV]; omega
      · skip
        go_wp2_with fail
        refine (compareFirst_any _ _ la (y :: lb') wr HI1.out HI2.out).mono ?_
        rintro e w2 ⟨rfl, q, rfl⟩
        rw [HEC.out]
        have HM2 := Lib.hid (hM.out.drew q)
        have hce := (World.cell?_drewN wr q _).trans HCE.out
        clear hM HI1 HI2 HCE
        generalize wr.drewN q = w3 at *
        go_wp2_with fail
        go_quiet (fail)
        have HM4 := Lib.hid (HM2.out.drew nq)
        clear HM2 hce
        generalize w3.drewN nq = w5 at *
        by_cases hk : k ≤ 1
        · go_wp2_with (at_builtin; refine wpList_append1 rfl _ _ rfl rfl rfl HM4.out.own HM4.out.low.size HLO.out ?_)
          intro v7 w6 hO5 hB5
          have HN5 := Lib.hid (HM4.out.take (c := k ≤ 1) hk HEM.out HOT.out HBF.out (by first | exact HLL.out | simp only [List.length_cons]; omega) hO5 (HM4.out.low.trans hB5))
          clear hO5 hB5
          go_wp2
          go_roundw
          case rel => exact ⟨_, _, _, HN5⟩
          case measure => simp [lenV]; omega
        · have HN5 := Lib.hid (HM4.out.pass (c := k ≤ 1) hk HEM.out HOT.out HBF.out (by first | exact HLL.out | simp only [List.length_cons]; omega))
          go_wp2
          go_roundw
          case rel => exact ⟨_, _, _, HN5⟩
          case measure => simp [lenV]; omega
    · -- the number of both
      subst e e2
      obtain ⟨b, off, rfl, hcell, hb, hn, hnc, hlen⟩ := ints_first hca
      obtain ⟨b2, off2, rfl, hcell2, hb2, hn2, hnc2, hlen2⟩ := ints_first hcb
      have HBE := Lib.hid (Ints.behind1 hca)
      have HOT := Lib.hid (Ints.behind1 hcb)
      obtain ⟨Ab2, hAb2⟩ : ∃ Ab, (if c2 = 1 then some (⟨b2, off2, none⟩ : Addr) else some ⟨b2, off2 + 1, none⟩) = some Ab := by split <;> exact ⟨_, rfl⟩
      obtain ⟨Ab, hAb⟩ : ∃ Ab, (if c1 = 1 then some (⟨b, off, none⟩ : Addr) else some ⟨b, off + 1, none⟩) = some Ab := by split <;> exact ⟨_, rfl⟩
      have HEM := Lib.hid em
      have HEC := Lib.hid ec
      have HLO := Lib.hid (show out.length ≤ 4000000 by have := hM.out.len; omega)
      have HBE' := HBE.out
      rw [hAb] at HBE'
      have HBF := Lib.hid HBE'
      have HOT' := HOT.out
      rw [hAb2] at HOT'
      have HOF := Lib.hid HOT'
      have HCE2 := Lib.hid ((hM.out.low.cell (p := ⟨b2, off2, none⟩) hb2).trans hcell2)
      have HCE := Lib.hid ((hM.out.low.cell (p := ⟨b, off, none⟩) hb).trans hcell)
      have HLL := Lib.hid (show la'.length + lb'.length + 1 ≤ (x :: la').length + (x :: lb').length by simp only [List.length_cons]; omega)
      clear hca hcb em ec HBE HBE' hcell hlen HA HB HOT HOT' hcell2 hlen2
      generalize hnn : (x :: la').length = n at *
      generalize hnm : (x :: lb').length = n2 at *
      clear hnn hnm
      have q1 : 1 ≤ n := hn
      have q2 : 1 ≤ n2 := hn2
      go_wp2_with fail
      refine (compareFirst_any _ _ (x :: la') (x :: lb') wr HI1.out HI2.out).mono ?_
      rintro e w2 ⟨rfl, q, rfl⟩
      rw [HEC.out]
      have HM2 := Lib.hid (hM.out.drew q)
      have hce := (World.cell?_drewN wr q _).trans HCE.out
      have hce2 := (World.cell?_drewN wr q _).trans HCE2.out
      clear hM HI1 HI2 HCE HCE2
      generalize wr.drewN q = w3 at *
      go_wp2_with fail
      go_quiet (fail)
      have hce3 := (World.cell?_drewN w3 nq _).trans hce2
      have HM3 := Lib.hid (HM2.out.drew nq)
      clear HM2 hce hce2
      generalize w3.drewN nq = w4 at *
      go_wp2_with fail
      go_quiet (fail)
      have HM4 := Lib.hid (HM3.out.drew nq)
      clear HM3 hce3
      generalize w4.drewN nq = w5 at *
      by_cases hk : k ≤ 2
      · go_wp2_with (at_builtin; refine wpList_append1 rfl _ _ rfl rfl rfl HM4.out.own HM4.out.low.size HLO.out ?_)
        intro v7 w6 hO5 hB5
        have HN5 := Lib.hid (HM4.out.take (c := k ≤ 2) hk HEM.out HBF.out HOF.out (by first | exact HLL.out | simp only [List.length_cons]; omega) hO5 (HM4.out.low.trans hB5))
        clear hO5 hB5
        go_wp2
        go_roundw
        case rel => exact ⟨_, _, _, HN5⟩
        case measure => simp [lenV]; omega
      · have HN5 := Lib.hid (HM4.out.pass (c := k ≤ 2) hk HEM.out HBF.out HOF.out (by first | exact HLL.out | simp only [List.length_cons]; omega))
        go_wp2
        go_roundw
        case rel => exact ⟨_, _, _, HN5⟩
        case measure => simp [lenV]; omega
    · -- the end
      subst e e2
      have HE := Lib.hid (show out = mrg k l m by have := hM.out.eq; rw [mrg_nil, List.append_nil] at this; exact this)
      clear hca hcb HI1 HI2
      simp only [List.length_nil]
      go_wp2
      go_ret
      exact ⟨_, rfl, hM.out.low, by rw [← HE.out]; exact hM.out.own⟩

end Go.Proofs.Ytpcjdkldonikfaa
