/-
  The program's Groups.
-/
import Derived.Test.YtfofidbgjfmepaaStJ
import Derived.Deep.OwnRows
namespace Go.Proofs.Ytfofidbgjfmepaa
open Go.RowKit Go.Maps

set_option maxRecDepth 100000 in
set_option maxHeartbeats 4000000 in
theorem groups_any (w : World) (F : Nat → Prop) (sb : Nat) (s : St) (h : Holds w F sb s) (hl : s.ts.length ≤ 1000000) :
    Calls Try.prog 16 #[.pointer (some ⟨sb, 0, none⟩)] w fun e w' => ∃ u, e = .returned u ∧ Lists w' F u s.groups ∧ Keeps F w sb s w' := by
  obtain ⟨tv, av, bm, D, ah, R⟩ := h
  obtain ⟨A, cap, rfl⟩ := own_shape R.things
  obtain ⟨i0, hi, hz0, hz1, hz2⟩ := info_parts Try.infoInt
  obtain ⟨j0, hj, hy0, hy1, hy2⟩ := info_parts Try.infoInts
  have c0 := R.c0
  have hmk := run_make_row' (P := Try.prog) 32 3 (.int .i64 0) 8 Try.underlying32 Try.infoInt rfl .i64 .i64 s.ts.length (by omega) (by omega)
  have HS := Lib.hid (Gr.start R hl)
  have HOK := Lib.hid R.ok
  have c0' := HS.out.rep.c0
  clear R
  go_enter Try.func16, Try.ntmps16
  go_wp2
  go_loopw [3, 22] (fun gv i wr => ∃ (k : Nat) (us : List Value) (nums ah : List Nat), k ≤ s.ts.length ∧ i = .int .i64 (k : Int) ∧ Gr w F sb s (.slice A s.ts.length cap) av bm D wr gv us (s.groupsTo k) nums ah ∧ Hid (∀ r, r < k → getN s.gr r = r → getN nums r = s.rank r)) (fun _ i _ => s.ts.length - (intOf i).toNat)
  case atStart => exact ⟨0, [], _, _, Nat.zero_le _, rfl, HS.out, fun r h => absurd h (Nat.not_lt_zero _)⟩
  case round =>
    obtain ⟨k, us, nums, ah', hk, rfl, G, hnum⟩ := hrel
    rename_i wr
    by_cases hlt : k < s.ts.length
    · obtain ⟨tb, cap', hv, _, _⟩ := G.rep.tv_at (by omega)
      have hck := G.rep.thing hv hlt
      simp only [Value.slice.injEq] at hv
      have hA := hv.1
      clear hv
      subst hA
      have HF := Lib.hid (first_any wr F sb bm s _ av D ah' G.rep k hlt)
      obtain ⟨r1, r2⟩ := HOK.out.roots k (by rw [HOK.out.len]; exact hlt)
      have HG0 := Lib.hid G
      have hoG := G.grid.own
      have hlen0 := G.grid.len
      rw [St.groupsTo_length] at hlen0
      rw [hlen0] at hoG
      obtain ⟨B, gcap0, hgv0⟩ := own_shape hoG
      have HLEN := Lib.hid hlen0
      clear G HS hmk c0 c0' hlen0 hoG
      generalize hrk : getN s.gr k = r at *
      have hr : r < s.ts.length := by omega
      have hrle := St.rank_le s k
      subst hgv0
      go_wp2_with fail
      refine HF.out.mono ?_
      rintro e w1 ⟨rfl, ah1, R1, O1⟩
      have HG1 := Lib.hid (HG0.out.first R1 O1)
      clear R1 HG0 HF hck
      by_cases he : r = k
      · have HLD : Hid (s.groupsTo k ++ [[]] = s.laid k) := Lib.hid (by unfold St.laid; rw [if_pos (hrk.trans he)])
        have hek : ((r : Int) == (k : Int)) = true := beq_iff_eq.2 (by omega)
        have hG2 := HG1.out.number k (s.rank k)
        obtain ⟨nk1, nk2⟩ := HG1.out.num_cell hlt
        have HNX : Hid (∀ r', r' < k + 1 → getN s.gr r' = r' → getN (nums.set k (s.rank k)) r' = s.rank r') := Lib.hid (fun r' h1 h2 => by
          by_cases e : k = r'
          · subst e
            rw [getN_set_same _ _ _ (by rw [HG1.out.nlen]; exact hlt)]
          · rw [getN_set_other _ _ _ _ e]
            exact hnum.out r' (by omega) h2)
        have HNU : Hid (getN (nums.set k (s.rank k)) r = s.rank r) := Lib.hid (HNX.out r (by omega) r2)
        have hsz2 := HG1.out.size
        have hog := hG2.grid.own
        rw [HLEN.out] at hog
        have HG2 := Lib.hid hG2
        have HE := Lib.hid he
        clear hG2 he hnum
        go_wp2_with (at_builtin; refine wpList_append_own_at _ rfl _ _ 39 rfl w.heap.size 32 j0 (.slice none 0 0) 1 24 Try.underlying39 hj hy0 hy1 hy2 rfl (by decide) _ _ _ rfl (hog.alloc _) ⟨w1.heap.size, 0, none⟩ 1 1 [.slice none 0 0] rfl rfl (by have h := cell_one_new (w1.setCell ⟨w.heap.size, k, none⟩ (.int .i64 (s.rank k : Int))) (.slice none 0 0) 32; rw [Deep.nblk_setCell] at h; exact h) (by simp [Value.oneCell']) (by unfold maxLen; omega) (by omega) (by simp; omega) ?_)
        intro v4 w4 hown4 hgrow4 hnil4 hat4
        obtain ⟨B4, gcap4, rfl⟩ := own_shape hown4
        have G4 := (HG2.out.below (below_alloc (.cells #[.slice none 0 0] 32))).push hgrow4 (by rw [HLEN.out]; exact hown4)
        rw [HLD.out] at G4
        have HG := Lib.hid G4
        clear G4 hown4 hgrow4 hnil4 hat4 HG2 HG1 nk1 nk2 hog
        -- the thing goes to its group
        have hsucc := St.groupsTo_succ (s := s) HOK.out k hlt
        rw [hrk] at hsucc
        obtain ⟨gb, hgv, hnl, hcj, hzj⟩ := HG.out.grid.at_' hsucc.1
        have hoJ := HG.out.grid.each _ hsucc.1
        obtain ⟨nc1, nc2⟩ := HG.out.num_cell hr
        rw [HNU.out] at nc1
        have hbl : (getL (s.laid k) (s.rank r)).length ≤ k := St.laid_len s k _
        have hrl : s.rank r < s.rank k + 1 := by rw [hnl]; exact hsucc.1
        have HRL := Lib.hid hsucc.1
        obtain ⟨AJ, cJ, hsh⟩ := own_shape hoJ
        rw [hsh] at hcj hoJ
        have HSU := Lib.hid (show s.groupsTo (k + 1) = (s.laid k).set (s.rank r) (getL (s.laid k) (s.rank r) ++ [getI s.ts k]) from hsucc.2)
        have HSH := Lib.hid hsh
        have hszt := HG.out.size
        subst hgv
        clear hsucc hsh hnl nc2
        generalize hLJ : getL (s.laid k) (s.rank r) = lj at *
        generalize hRR : s.rank r = rk at *
        go_wp2_with (at_builtin; refine wpList_append_own_at _ rfl _ _ 32 rfl w.heap.size 3 i0 (.int .i64 0) 1 8 Try.underlying32 hi hz0 hz1 hz2 rfl (by decide) _ _ _ rfl (hoJ.alloc _) ⟨w4.heap.size, 0, none⟩ 1 1 [.int .i64 (getI s.ts k)] rfl rfl (cell_one_new _ _ _) (ints_oneCell .i64 [getI s.ts k]) (by unfold maxLen; omega) (by omega) (by simp; omega) ?_)
        intro v5 w5 hown5 hgrow5 hnil5 hat5
        obtain ⟨A5, cap5, rfl⟩ := own_shape hown5
        rw [← HSH.out] at hgrow5 hat5
        obtain ⟨G6, d1, d2⟩ := (HG.out.below (below_alloc (.cells #[.int .i64 (getI s.ts k)] 3))).put (j := rk) rfl HRL.out hgrow5 (by rw [hLJ]; exact hown5) (hat5.imp id (fun h => by rw [h]; simp))
        rw [HSH.out] at d1
        have HG6 := Lib.hid G6
        clear hown5 hgrow5 hnil5 hat5 G6 hcj hzj hoJ nc1
        go_wp2
        go_roundw
        case rel =>
          have G7 := HG6.out
          rw [hLJ, ← HSU.out] at G7
          exact ⟨k + 1, _, _, _, by omega, by go_num, G7, HNX.out⟩
        case measure => simp [intOf]; omega
      · have HLD : Hid (s.groupsTo k = s.laid k) := Lib.hid (by unfold St.laid; rw [if_neg (fun e => he (hrk.symm.trans e))])
        have hek : ((r : Int) == (k : Int)) = false := beq_eq_false_iff_ne.2 (by omega)
        have HNX : Hid (∀ r', r' < k + 1 → getN s.gr r' = r' → getN nums r' = s.rank r') := Lib.hid (fun r' h1 h2 => by
          by_cases e : k = r'
          · subst e
            exact absurd (hrk.symm.trans h2) he
          · exact hnum.out r' (by omega) h2)
        have HNU : Hid (getN nums r = s.rank r) := Lib.hid (HNX.out r (by omega) r2)
        have hsz2 := HG1.out.size
        have G4 := HG1.out
        rw [HLD.out] at G4
        have HG := Lib.hid G4
        have HE := Lib.hid he
        clear G4 he hnum HG1
        -- the thing goes to its group
        have hsucc := St.groupsTo_succ (s := s) HOK.out k hlt
        rw [hrk] at hsucc
        obtain ⟨gb, hgv, hnl, hcj, hzj⟩ := HG.out.grid.at_' hsucc.1
        have hoJ := HG.out.grid.each _ hsucc.1
        obtain ⟨nc1, nc2⟩ := HG.out.num_cell hr
        rw [HNU.out] at nc1
        have hbl : (getL (s.laid k) (s.rank r)).length ≤ k := St.laid_len s k _
        have hrl : s.rank r < s.rank k := by rw [hnl]; exact hsucc.1
        have HRL := Lib.hid hsucc.1
        obtain ⟨AJ, cJ, hsh⟩ := own_shape hoJ
        rw [hsh] at hcj hoJ
        have HSU := Lib.hid (show s.groupsTo (k + 1) = (s.laid k).set (s.rank r) (getL (s.laid k) (s.rank r) ++ [getI s.ts k]) from hsucc.2)
        have HSH := Lib.hid hsh
        have hszt := HG.out.size
        subst hgv
        clear hsucc hsh hnl nc2
        generalize hLJ : getL (s.laid k) (s.rank r) = lj at *
        generalize hRR : s.rank r = rk at *
        go_wp2_with (at_builtin; refine wpList_append_own_at _ rfl _ _ 32 rfl w.heap.size 3 i0 (.int .i64 0) 1 8 Try.underlying32 hi hz0 hz1 hz2 rfl (by decide) _ _ _ rfl (hoJ.alloc _) ⟨w1.heap.size, 0, none⟩ 1 1 [.int .i64 (getI s.ts k)] rfl rfl (cell_one_new _ _ _) (ints_oneCell .i64 [getI s.ts k]) (by unfold maxLen; omega) (by omega) (by simp; omega) ?_)
        intro v5 w5 hown5 hgrow5 hnil5 hat5
        obtain ⟨A5, cap5, rfl⟩ := own_shape hown5
        rw [← HSH.out] at hgrow5 hat5
        obtain ⟨G6, d1, d2⟩ := (HG.out.below (below_alloc (.cells #[.int .i64 (getI s.ts k)] 3))).put (j := rk) rfl HRL.out hgrow5 (by rw [hLJ]; exact hown5) (hat5.imp id (fun h => by rw [h]; simp))
        rw [HSH.out] at d1
        have HG6 := Lib.hid G6
        clear hown5 hgrow5 hnil5 hat5 G6 hcj hzj hoJ nc1
        go_wp2
        go_roundw
        case rel =>
          have G7 := HG6.out
          rw [hLJ, ← HSU.out] at G7
          exact ⟨k + 1, _, _, _, by omega, by go_num, G7, HNX.out⟩
        case measure => simp [intOf]; omega
    · obtain rfl : k = s.ts.length := by omega
      have HG := Lib.hid G
      clear G
      go_wp2
      go_ret
      exact ⟨_, rfl, HG.out.grid.lists HG.out.flt, ⟨_, _, _, _, _, HG.out.rep⟩, HG.out.only⟩

end Go.Proofs.Ytfofidbgjfmepaa
