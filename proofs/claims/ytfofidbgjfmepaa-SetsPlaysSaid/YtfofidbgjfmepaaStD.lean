/-
  The program's put: a new thing, by itself.
-/
import Derived.Test.YtfofidbgjfmepaaStC
namespace Go.Proofs.Ytfofidbgjfmepaa
open Go.RowKit Go.Maps

set_option maxRecDepth 100000 in
set_option maxHeartbeats 2000000 in
theorem put_any (w : World) (F : Nat → Prop) (sb : Nat) (s : St) (x : Int) (h : Holds w F sb s) (hx : (Lit.int .i64 x).wf = true) (hno : x ∉ s.ts) (hl : s.ts.length ≤ 1000000) :
    Calls Try.prog 21 #[.pointer (some ⟨sb, 0, none⟩), .int .i64 x] w fun e w' => e = .returned (.int .i64 (s.ts.length : Int)) ∧ After F w sb (s.add x) w' := by
  obtain ⟨tv, av, bm, D, ah, R⟩ := h
  obtain ⟨i0, hi, hz0, hz1, hz2⟩ := info_parts Try.infoInt
  have hkey := keyOf_int_mk Try.underlying3 hx
  have M0 := R.mid (G := fun k => F k ∨ w.heap.size ≤ k) (fun k => .inl)
  have HNL := Lib.hid (show (natsI ah).length = s.ts.length by rw [natsI_length]; exact R.len)
  obtain ⟨A, cap, rfl⟩ := own_shape R.things
  obtain ⟨A2, cap2, hav⟩ := own_shape (HNL.out ▸ R.ahead)
  obtain ⟨c0, c1, c2, c3, fz⟩ := box_cell R.box
  have hcnt : heads s.gr ≤ 1000000 := Nat.le_trans (heads_le _) (by rw [R.ok.len]; exact hl)
  have fz0 := fz 0
  have HT := Lib.hid (R.tells.put hno)
  have HA := Lib.hid (St.add_out hno)
  have HOK := Lib.hid (St.ok_add R.ok hx)
  have HL := Lib.hid R.leads.snoc
  have HN := Lib.hid (heads_snoc s.gr)
  have HG := Lib.hid R.ok.len
  have HFL := Lib.hid R.flt
  have hsz := R.lt
  have HM0 := Lib.hid M0
  have hoA := R.things
  clear R M0 fz hno
  go_enter Try.func21, Try.ntmps21
  go_wp2_with (at_builtin; refine wpList_append_own_at _ rfl _ _ 32 rfl 0 3 i0 (.int .i64 0) 1 8 Try.underlying32 hi hz0 hz1 hz2 rfl (by decide) _ _ _ rfl (hoA.alloc _) ⟨w.heap.size, 0, none⟩ 1 1 [.int .i64 x] rfl rfl (cell_one_new _ _ _) (ints_oneCell .i64 [x]) (by unfold maxLen; omega) (by omega) (by omega) ?_)
  intro v' w1 hown' hgrow hnil hat
  obtain ⟨A1, cap1, rfl⟩ := own_shape hown'
  have hown1 : w1.ownsRow 0 3 1 (.slice A1 (s.ts.length + 1) cap1) (s.ts ++ [x]).length ((s.ts ++ [x]).map (Value.int .i64)) := by rw [List.length_append, List.map_append]; exact hown'
  obtain ⟨M1, O1, box1⟩ := (HM0.out.same (below_alloc (.cells #[.int .i64 x] 3))).app0 hgrow hown1 (hat.imp id (fun h => by rw [h]; simp)) (fun k hk => .inr (by simp at hk; omega))
  obtain ⟨d0, d1, d2, d3, fz'⟩ := box_cell box1
  have g0 := fz' 0
  have HM1 := Lib.hid M1
  have HO1 := Lib.hid ((Only.of_below (F := fun k => F k ∨ w.heap.size ≤ k) (below_alloc (.cells #[.int .i64 x] 3))).trans' O1)
  have hs1 := hgrow.size
  clear hown' hgrow hnil hat hown1 M1 O1 box1 fz' HM0 hoA c0 c1 c2 c3 fz0
  go_wp2_with (at_mapUpdate; refine wpList_mapUpdate_in _ rfl _ _ _ 45 rfl 3 3 Try.keyInt Try.underlying45 _ bm s.ts.length D rfl HM1.out.places (by unfold maxLen; omega) _ _ _ rfl rfl hkey _ [] (plainElem_int Try.underlying3 (WalkArith.wf_i64 (by omega))) ?_)
  intro w3 hown3 hturn3
  obtain ⟨M3, O3⟩ := HM1.out.mapd hown3 hturn3
  have HM3 := Lib.hid M3
  have HO3 := Lib.hid (HO1.out.trans' O3)
  have hs3 : w.heap.size ≤ w3.heap.size := HO3.out.size
  obtain ⟨d0', d1', d2', d3', fz3⟩ := box_cell M3.box
  have hoB := M3.ahead
  rw [HNL.out] at hoB
  subst hav
  clear M3 O3 HM1 HO1 hown3 hturn3 d0 d1 d2 d3 g0 fz3
  go_wp2_with (at_builtin; refine wpList_append_own_at _ rfl _ _ 32 rfl 0 3 i0 (.int .i64 0) 1 8 Try.underlying32 hi hz0 hz1 hz2 rfl (by decide) _ _ _ rfl (hoB.alloc _) ⟨w3.heap.size, 0, none⟩ 1 1 [.int .i64 (s.ts.length : Int)] rfl rfl (cell_one_new _ _ _) (ints_oneCell .i64 [(s.ts.length : Int)]) (by unfold maxLen; omega) (by omega) (by omega) ?_)
  intro v5 w5 hown5 hgrow5 hnil5 hat5
  obtain ⟨A5, cap5, rfl⟩ := own_shape hown5
  have hown6 : w5.ownsRow 0 3 1 (.slice A5 (s.ts.length + 1) cap5) (natsI (ah ++ [s.ts.length])).length ((natsI (ah ++ [s.ts.length])).map (Value.int .i64)) := by rw [natsI_snoc, List.length_append, List.map_append, HNL.out]; exact hown5
  obtain ⟨M5, O5, box5⟩ := (HM3.out.same (below_alloc (.cells #[.int .i64 (s.ts.length : Int)] 3))).app2 hgrow5 hown6 (hat5.imp id (fun h => by rw [h]; simp)) (fun k hk => .inr (by simp at hk; omega))
  obtain ⟨e0, e1, e2, e3, fz5⟩ := box_cell box5
  have k2 := fz5 2
  have k3 := fz5 3
  have HM5 := Lib.hid M5
  have HO5 := Lib.hid (HO3.out.trans' ((Only.of_below (F := fun k => F k ∨ w.heap.size ≤ k) (below_alloc (.cells #[.int .i64 (s.ts.length : Int)] 3))).trans' O5))
  clear hown5 hgrow5 hnil5 hat5 hown6 M5 O5 box5 fz5 HM3 HO3 hoB d0' d1' d2' d3'
  go_wp2
  go_ret
  obtain ⟨M6, O6⟩ := HM5.out.count (.int .i64 ((heads s.gr : Int) + 1))
  refine ⟨rfl, ?_⟩
  have HO6 := HO5.out.trans' O6
  generalize ((w5.setCell ⟨sb, 2, none⟩ (.slice A5 (s.ts.length + 1) cap5)).setCell ⟨sb, 3, none⟩ (.int .i64 ((heads s.gr : Int) + 1))) = w6 at *
  have HTT := HT.out
  have HOO := HOK.out
  have HLL := HL.out
  rw [HG.out] at HLL
  have HC : ((heads s.gr : Int) + 1) = ((heads (s.gr ++ [s.ts.length]) : Nat) : Int) := by rw [← HG.out, HN.out]; simp
  rw [HC] at M6
  rw [HA.out] at HTT HOO ⊢
  have hl1 : s.ts.length + 1 = (s.ts ++ [x]).length := by simp
  rw [hl1] at M6
  exact Mid.after (s := ⟨s.ts ++ [x], s.gr ++ [s.ts.length]⟩) M6 HTT HLL HOO HO6 (fun k hk => Nat.lt_of_lt_of_le (HFL.out k hk) HO6.size)
end Go.Proofs.Ytfofidbgjfmepaa
