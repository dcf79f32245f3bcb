/-
  The law SetsJoin: its call answers yes, whatever the calls and the numbers.
-/
import Derived.Test.YtfofidbgjfmepaaLawSH
namespace Go.Proofs.Ytfofidbgjfmepaa
open Go.RowKit Go.Maps

/-- Both put in and joined, one call behind the other. -/
def St.acted (l : List Act1) : St := l.foldl (fun s a => ((s.add a.x).add a.y).join a.x a.y) St.empty
theorem St.acted_succ (l : List Act1) (k : Nat) (h : k < l.length) : St.acted (l.take (k + 1)) = (((St.acted (l.take k)).add (getA l k).x).add (getA l k).y).join (getA l k).x (getA l k).y := by
  unfold St.acted; rw [take_succ_getA l k h, List.foldl_append]; rfl
theorem St.join_in {s : St} {x y : Int} (hx : x ∈ s.ts) (hy : y ∈ s.ts) : (s.join x y).ts = s.ts := by
  rw [St.join_ts]; unfold St.both; rw [St.add_in hx, St.add_in hy]
theorem St.len_acted_aux : ∀ (l : List Act1) (s : St), (l.foldl (fun s a => ((s.add a.x).add a.y).join a.x a.y) s).ts.length ≤ s.ts.length + 2 * l.length
  | [], s => by simp
  | a :: l, s => by
    have h := St.len_acted_aux l (((s.add a.x).add a.y).join a.x a.y)
    have h1 := St.len_add s a.x
    have h2 := St.len_add (s.add a.x) a.y
    have h3 : (((s.add a.x).add a.y).join a.x a.y).ts.length = ((s.add a.x).add a.y).ts.length := by
      rw [St.join_in (St.mem_add_of _ (St.mem_add_self _ _)) (St.mem_add_self _ _)]
    simp only [List.foldl_cons, List.length_cons]
    omega
theorem St.len_acted (l : List Act1) : (St.acted l).ts.length ≤ 2 * l.length := by
  have := St.len_acted_aux l St.empty
  simp [St.empty] at this
  exact this

theorem count_still {w : World} {F : Nat → Prop} {sb : Nat} {s : St} (h : Holds w F sb s) :
    Calls Try.prog 10 #[.pointer (some ⟨sb, 0, none⟩)] w fun e w' => e = .returned (.int .i64 (heads s.gr : Int)) ∧ w' = w :=
  (count_any w F sb s h).mono fun _ _ ⟨a, b⟩ => ⟨a, b.symm⟩

set_option maxRecDepth 100000 in
set_option maxHeartbeats 4000000 in
theorem join_law (v : Value) (l : List Act1) (x y z : Int) (w : World) (h : Acts w v l) (hx : (Lit.int .i64 x).wf = true) (hy : (Lit.int .i64 y).wf = true) (hz : (Lit.int .i64 z).wf = true) :
    Calls Try.prog 3 #[v, .int .i64 x, .int .i64 y, .int .i64 z] w fun e w' => e = .returned (.bool true) ∧ Below w.heap.size w w' := by
  have HV := Lib.hid h
  obtain ⟨A, cap, rfl, hcap, hm, hcell, hwf⟩ := h
  go_enter Try.func3, Try.ntmps3
  by_cases hlen : l.length ≤ 100
  case neg =>
    have hgt : (100 : Int) < (l.length : Int) := by omega
    go_wp2_with fail
    refine (awake_any w).mono ?_
    rintro e w1 ⟨rfl, hB1⟩
    go_wp2_with fail
    refine (awake_any w1).mono ?_
    rintro e w2 ⟨rfl, hB2⟩
    go_wp2
    go_ret
    exact ⟨rfl, trans2 hB1 hB2⟩
  have hle : (l.length : Int) ≤ 100 := by omega
  go_wp2_with fail
  refine (awake_any w).mono ?_
  rintro e w1 ⟨rfl, hB1⟩
  go_wp2_with fail
  refine (new_any w1 _ [] Ints.nil (by simp) (by simp)).mono ?_
  rintro e w2 ⟨sb, F2, rfl, hH2, hB2, hF2⟩
  have hB02 := trans2 hB1 hB2
  have hF02 : ∀ k, F2 k → w.heap.size ≤ k := fun k hk => Nat.le_trans hB1.size (hF2 k hk)
  clear hB1 hB2 hF2
  go_wp2
  go_loopw [10] (fun i wr => ∃ k : Nat, k ≤ l.length ∧ i = .int .i64 (k : Int) ∧ ∃ F, Holds wr F sb (St.acted (l.take k)) ∧ Below w.heap.size w wr ∧ ∀ k, F k → w.heap.size ≤ k) (fun i _ => l.length - (intOf i).toNat)
  case atStart => exact ⟨0, Nat.zero_le _, rfl, F2, hH2, hB02, hF02⟩
  case round =>
    obtain ⟨k, hk, rfl, F, hH, hB, hF⟩ := hrel
    rename_i wr
    by_cases hlt : k < l.length
    · obtain ⟨b, off, rfl, hb, hc⟩ := hcell (by omega)
      obtain ⟨_, q1, q2⟩ := hc k hlt
      have WX := (hwf k hlt).x
      have WY := (hwf k hlt).y
      have HN := Lib.hid (St.acted_succ l k hlt)
      have hln := St.len_acted (l.take k)
      rw [List.length_take] at hln
      have hFl := Lib.hid (fun k hk => hF k hk)
      clear hc hcell hF hwf hF02 hH2 hB02
      generalize St.acted (l.take k) = s0 at *
      generalize (getA l k).x = gx at *
      generalize (getA l k).y = gy at *
      have hc1 := (hB.cell (p := ⟨b, off + k * 3 + 1, none⟩) hb).trans q1
      go_wp2_with fail
      refine (add_any wr F sb s0 gx hH WX (by omega)).mono ?_
      rintro e w3 ⟨rfl, F3, hH3, hO3, hF3⟩
      have hz0 := hB.size
      have hB3 := hB.trans (hO3.below hB.size hFl.out)
      have hFl3 := Lib.hid (show ∀ j, F3 j → w.heap.size ≤ j from fun j hj => (hF3 j hj).elim (hFl.out j) (fun h => by omega))
      have hc2 := (hB3.cell (p := ⟨b, off + k * 3 + 2, none⟩) hb).trans q2
      have hl1 := St.len_add s0 gx
      clear hO3 hF3 hc1 hH hB hFl hz0
      go_wp2_with fail
      refine (add_any w3 F3 sb (s0.add gx) gy hH3 WY (by omega)).mono ?_
      rintro e w4 ⟨rfl, F4, hH4, hO4, hF4⟩
      have hz0 := hB3.size
      have hB4 := hB3.trans (hO4.below hB3.size hFl3.out)
      have hFl4 := Lib.hid (show ∀ j, F4 j → w.heap.size ≤ j from fun j hj => (hF4 j hj).elim (hFl3.out j) (fun h => by omega))
      have hl2 := St.len_add (s0.add gx) gy
      have mx : gx ∈ ((s0.add gx).add gy).ts := St.mem_add_of _ (St.mem_add_self _ _)
      have my : gy ∈ ((s0.add gx).add gy).ts := St.mem_add_self _ _
      clear hO4 hF4 hc2 hH3 hB3 hFl3 hz0
      generalize (s0.add gx).add gy = s2 at *
      have hc1 := (hB4.cell (p := ⟨b, off + k * 3 + 1, none⟩) hb).trans q1
      have hc2 := (hB4.cell (p := ⟨b, off + k * 3 + 2, none⟩) hb).trans q2
      go_wp2_with fail
      refine (count_any w4 F4 sb s2 hH4).mono ?_
      rintro e w5 ⟨rfl, rfl⟩
      have HC := Lib.hid (join_any w4.drew F4 sb s2 gx gy (hH4.below (below_drewN' w4 1)) WX WY (by omega))
      go_wp2
      go_still_tail 11, (by kernel_rfl)
      change wpList _ _ _ _ _ w4.drew
      have hBd := hB4.drew
      have HSJ := Lib.hid (St.same_join hH4.ok WX WY)
      have HHJ := Lib.hid (St.heads_join hH4.ok mx my)
      have hcnt : heads s2.gr ≤ 1000 := Nat.le_trans (heads_le _) (by rw [hH4.ok.len]; omega)
      clear hc1 hc2 hB4 hH4
      generalize w4.drew = wx at *
      go_wp2_with fail
      refine HC.out.mono ?_
      rintro e w6 ⟨rfl, F6, hH6, hO6, hF6⟩
      have hz0 := hBd.size
      have hB6 := hBd.trans (hO6.below hBd.size hFl4.out)
      have hFl6 := Lib.hid (show ∀ j, F6 j → w.heap.size ≤ j from fun j hj => (hF6 j hj).elim (hFl4.out j) (fun h => by omega))
      have hc1 := (hB6.cell (p := ⟨b, off + k * 3 + 1, none⟩) hb).trans q1
      have hc2 := (hB6.cell (p := ⟨b, off + k * 3 + 2, none⟩) hb).trans q2
      clear HC hO6 hF6 hBd hFl4 hz0
      have HCS := Lib.hid (count_still (w := w6.drew) (hH6.below (below_drewN' w6 1)))
      have HSM := Lib.hid (same_any w6.drew F6 sb _ gx gy (hH6.below (below_drewN' w6 1)) WX WY)
      rw [HSJ.out] at HSM
      by_cases hj : s2.joins gx gy = true
      · rw [if_pos hj] at HHJ
        rw [hj]
        have HH := HHJ.out
        generalize heads (s2.join gx gy).gr = h3 at *
        rw [HH]
        have hh3 : h3 ≤ 1000 := by omega
        have v1 : ((h3 : Int) + 9223372036854775808) % 18446744073709551616 - 9223372036854775808 = (h3 : Int) := by omega
        have v2 : IntKind.i64.wrap (h3 : Int) = (h3 : Int) := by rw [IntKind.wrap_i64]; omega
        have v3 : wrap64 (h3 : Int) = (h3 : Int) := by unfold wrap64; omega
        clear HHJ hj hh3 hcnt
        go_wp2
        go_still_tail 29, (by kernel_rfl)
        still_call HCS.out
        repeat still_step
        refine wpStill_nil ?_
        change wpList _ _ _ _ _ w6.drew
        have hBd := hB6.drew
        clear HCS hc1 hc2 hB6 hH6
        generalize w6.drew = wy at *
        go_wp2_with fail
        refine HSM.out.mono ?_
        rintro e w7 ⟨rfl, hK7⟩
        have hB7 := hBd.trans (hK7.2.below hBd.size hFl6.out)
        clear HSM hBd
        go_wp2
        go_roundw
        case rel => exact ⟨k + 1, by omega, by go_num, F6, by rw [HN.out]; exact hK7.1, hB7, hFl6.out⟩
        case measure => simp [intOf]; omega
      · rw [if_neg hj, Nat.add_zero] at HHJ
        rw [Bool.eq_false_iff.2 hj]
        have HH := HHJ.out
        generalize heads (s2.join gx gy).gr = h3 at *
        rw [HH]
        have hh3 : h3 ≤ 1000 := by omega
        have v1 : ((h3 : Int) - 1 + 9223372036854775808) % 18446744073709551616 - 9223372036854775808 = (h3 : Int) - 1 := by omega
        have v2 : IntKind.i64.wrap ((h3 : Int) - 1) = (h3 : Int) - 1 := by rw [IntKind.wrap_i64]; omega
        have v3 : wrap64 ((h3 : Int) - 1) = (h3 : Int) - 1 := by unfold wrap64; omega
        have v4 : ((h3 : Int) == (h3 : Int) - 1) = false := beq_eq_false_iff_ne.2 (by omega)
        have v5 : ¬ ((h3 : Int) = (h3 : Int) - 1) := by omega
        clear HHJ hj hh3 hcnt
        go_wp2
        go_still_tail 29, (by kernel_rfl)
        still_call HCS.out
        repeat still_step
        still_call HCS.out
        repeat still_step
        refine wpStill_nil ?_
        change wpList _ _ _ _ _ w6.drew
        have hBd := hB6.drew
        clear HCS hc1 hc2 hB6 hH6
        generalize w6.drew = wy at *
        go_wp2_with fail
        refine HSM.out.mono ?_
        rintro e w7 ⟨rfl, hK7⟩
        have hB7 := hBd.trans (hK7.2.below hBd.size hFl6.out)
        clear HSM hBd
        go_wp2
        go_roundw
        case rel => exact ⟨k + 1, by omega, by go_num, F6, by rw [HN.out]; exact hK7.1, hB7, hFl6.out⟩
        case measure => simp [intOf]; omega
    · obtain rfl : k = l.length := by omega
      have HT := Lib.hid (List.take_length (l := l))
      rw [HT.out] at hH
      clear hcell HV HT hH2 hB02 hF02 hwf
      generalize St.acted l = s at *
      have hsym := Lib.hid (s.same_symm y x)
      go_wp2_with fail
      refine (same_any wr F sb s x y hH hx hy).mono ?_
      rintro e w3 ⟨rfl, hK3⟩
      go_wp2_with fail
      refine (same_any w3 F sb s y x hK3.1 hy hx).mono ?_
      rintro e w4 ⟨rfl, hK4⟩
      rw [hsym.out]
      by_cases h1 : s.same x y = true
      · rw [h1]
        go_wp2_with fail
        refine (same_any w4 F sb s x y hK4.1 hx hy).mono ?_
        rintro e w5 ⟨rfl, hK5⟩
        rw [h1]
        go_wp2_with fail
        refine (same_any w5 F sb s y z hK5.1 hy hz).mono ?_
        rintro e w6 ⟨rfl, hK6⟩
        by_cases h2 : s.same y z = true
        · have h3 := Lib.hid (St.same_trans h1 h2)
          rw [h2]
          go_wp2_with fail
          refine (same_any w6 F sb s x z hK6.1 hx hz).mono ?_
          rintro e w7 ⟨rfl, hK7⟩
          rw [h3.out]
          have HBB := Lib.hid (hB.trans (((((hK3.trans hK4).trans hK5).trans hK6).trans hK7).2.below hB.size hF))
          clear h1 h2 h3
          go_wp2
          go_ret
          exact ⟨rfl, HBB.out⟩
        · rw [Bool.eq_false_iff.2 h2]
          have HBB := Lib.hid (hB.trans ((((hK3.trans hK4).trans hK5).trans hK6).2.below hB.size hF))
          clear h1 h2
          go_wp2
          go_ret
          exact ⟨rfl, HBB.out⟩
      · have H1 := Lib.hid (Bool.eq_false_iff.2 h1)
        rw [H1.out]
        clear h1
        go_wp2_with fail
        refine (same_any w4 F sb s x y hK4.1 hx hy).mono ?_
        rintro e w5 ⟨rfl, hK5⟩
        rw [H1.out]
        have HBB := Lib.hid (hB.trans (((hK3.trans hK4).trans hK5).2.below hB.size hF))
        go_wp2
        go_ret
        exact ⟨rfl, HBB.out⟩

end Go.Proofs.Ytfofidbgjfmepaa
