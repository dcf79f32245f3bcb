/-
  The document's Darts.
-/
import Derived.Test.YtjnohnbppkhbaaaGrQ
namespace Go.Proofs.Ytjnohnbppkhbaaa
open Go.RowKit

/-- The first s of the two darts of an edge, as far as they leave x. -/
def dPart (g : Gph) (x : Int) (i : Nat) : Nat → List Int
  | 0 => []
  | s + 1 => dPart g x i s ++ (if tailOf g (2 * i + s) = x then [2 * (i : Int) + (s : Int)] else [])

theorem tail0 (g : Gph) (i : Nat) : tailOf g (2 * i + 0) = (getE g.e i).a := by
  unfold tailOf
  rw [if_pos (by omega), show (2 * i + 0) / 2 = i by omega]
theorem tail1 (g : Gph) (i : Nat) : tailOf g (2 * i + 1) = (getE g.e i).b := by
  unfold tailOf
  rw [if_neg (by omega), show (2 * i + 1) / 2 = i by omega]
theorem dPart_all (g : Gph) (x : Int) (i : Nat) : dPart g x i 2 = dOf g x (i : Int) := by
  show ([] ++ (if tailOf g (2 * i + 0) = x then [2 * (i : Int) + ((0 : Nat) : Int)] else [])) ++ (if tailOf g (2 * i + 1) = x then [2 * (i : Int) + ((1 : Nat) : Int)] else []) = _
  rw [tail0, tail1]
  unfold dOf
  rw [Int.toNat_natCast, List.nil_append]
  simp
theorem dPart_len (g : Gph) (x : Int) (i : Nat) : ∀ s, (dPart g x i s).length ≤ s
  | 0 => Nat.le_refl _
  | s + 1 => by
    have := dPart_len g x i s
    unfold dPart
    rw [List.length_append]
    split <;> simp <;> omega

set_option maxRecDepth 100000 in
set_option maxHeartbeats 4000000 in
theorem rdarts_any (v u : Value) (g : Gph) (p : Prt) (x : Int) (w : World) (h : Gr w v g) (h' : Pt w u p) (hl : g.e.length ≤ 1000000) (hp2 : p.e.length ≤ 1000000) (hr : Rises p.e g.e.length) :
    Calls Try.prog 17 #[v, u, .int .i64 x] w fun e w' => ∃ u, e = .returned u ∧ Below w.heap.size w w' ∧ Row w' w.heap.size u (dartsL g x p.e) := by
  have HG := Lib.hid h
  have HR := Lib.hid hr
  obtain ⟨ve, rfl, h1⟩ := h
  obtain ⟨vv, vp, rfl, h2, h3⟩ := h'
  obtain ⟨Ae, ce, rfl⟩ := h1.form
  obtain ⟨Av, cv, rfl⟩ := ints_form h2
  obtain ⟨Ap, cp, rfl⟩ := ints_form h3
  obtain ⟨b1, b2, hm⟩ := two_boxes w (.int .i64 g.n) (.slice Ae g.e.length ce) (.slice Av p.v.length cv) (.slice Ap p.e.length cp) 24 27
  have HG1 := Lib.hid (HG.out.below hm)
  have HE := Lib.hid (h1.below hm)
  have HI := Lib.hid (h3.below hm)
  have HB1 := Lib.hid b1
  have HB2 := Lib.hid b2
  have HM := Lib.hid hm
  clear b1 b2 hm h1 h2 h3 HG hr
  go_enter Try.func17, Try.ntmps17
  go_wp2
  generalize (w.alloc (.cells #[.int .i64 g.n, .slice Ae g.e.length ce] 24)).alloc (.cells #[.slice Av p.v.length cv, .slice Ap p.e.length cp] 27) = w1 at *
  go_loopw [7, 8] (fun o a wr => ∃ k : Nat, k ≤ p.e.length ∧ a = .int .i64 k ∧ Hid (Below w1.heap.size w1 wr) ∧ Hid (Row wr w1.heap.size o (dartsL g x (p.e.take k)))) (fun _ a _ => p.e.length - (Go.RowKit.intOf a).toNat)
  case atStart => exact ⟨0, Nat.zero_le _, rfl, Lib.hid (Below.refl _ _), Lib.hid (Row.nil _ _)⟩
  case round =>
    obtain ⟨k, hk, rfl, hB0, hO0⟩ := hrel
    rename_i wo
    have x2 := (HB2.out.below hB0.out).c1
    by_cases hlt : k < p.e.length
    · obtain ⟨bp, op, rfl, hbp0, hck0⟩ := ints_at HI.out hlt
      obtain ⟨z0, z1, _⟩ := HR.out k hlt
      obtain ⟨i, hi⟩ : ∃ i : Nat, getI p.e k = (i : Int) := ⟨(getI p.e k).toNat, by omega⟩
      have hil : i < g.e.length := by omega
      obtain ⟨be, oe, rfl, hbe, _, _⟩ := edges_at HE.out hil
      have HS := Lib.hid (show dartsL g x (p.e.take (k + 1)) = dartsL g x (p.e.take k) ++ dPart g x i 2 by rw [dartsL_succ g x p.e k hlt, dPart_all, hi])
      have HL := Lib.hid (show (dartsL g x (p.e.take k)).length ≤ 2000000 by have := dartsL_len g x (p.e.take k); simp at this; omega)
      rw [hi] at hck0
      have HBP := Lib.hid hbp0
      have HCK := Lib.hid hck0
      clear hi z0 z1 hbe hbp0 hck0
      go_wp2
      clear x2
      go_loopw [7, 9] (fun o a wr => ∃ s : Nat, s ≤ 2 ∧ a = .int .i64 s ∧ Hid (Below w1.heap.size w1 wr) ∧ Hid (Row wr w1.heap.size o (dartsL g x (p.e.take k) ++ dPart g x i s))) (fun _ a _ => 2 - (Go.RowKit.intOf a).toNat)
      case atStart => exact ⟨0, by omega, rfl, hB0, Lib.hid (by rw [show dPart g x i 0 = [] from rfl, List.append_nil]; exact hO0.out)⟩
      case round =>
        obtain ⟨s, hs, rfl, hB1, hO1⟩ := hrel
        rename_i wr
        have HX1 := Lib.hid (HB1.out.below hB1.out)
        have HX2 := Lib.hid (HB2.out.below hB1.out)
        have HG2 := Lib.hid (HG1.out.below hB1.out)
        have hbp : bp < wr.heap.size := Nat.lt_of_lt_of_le HBP.out hB1.out.size
        have hck : wr.cell? ⟨bp, op + k, none⟩ = some (.int .i64 (i : Int)) := (hB1.out.cell (p := ⟨bp, op + k, none⟩) HBP.out).trans HCK.out
        have HLL := Lib.hid (show (dartsL g x (p.e.take k) ++ dPart g x i s).length ≤ 4000000 by have := HL.out; have := dPart_len g x i s; rw [List.length_append]; omega)
        by_cases hs2 : s < 2
        · rcases (show s = 0 ∨ s = 1 by omega) with rfl | rfl
          · go_wp2_with fail
            refine wp_region_plan [is (.agg #[.int .i64 g.n, .slice (some ⟨be, oe, none⟩) g.e.length ce]), is (.pointer (some ⟨w.heap.size + 1, 1, none⟩)), is (.slice (some ⟨bp, op, none⟩) p.e.length cp), is (.int .i64 (k : Int)), is (.pointer (some ⟨bp, op + k, none⟩)), is (.int .i64 (i : Int)), is (.int .i64 (2 * (i : Int))), is (.int .i64 0), is (.int .i64 (2 * (i : Int))), is (.int .i64 (tailOf g (2 * i + 0))), is (.int .i64 x), is (.bool (tailOf g (2 * i + 0) == x))] (by kernel_rfl) (by kernel_rfl) ?_ ?_
            · skip
              refine StepsP.cons ?_ ?_
              · refine step_val (fun a wx hB O D => ?_)
                have e3 : a.tmps[3]? = some (.pointer (some ⟨w.heap.size, 0, none⟩)) := O 3 (by rfl)
                obtain ⟨c0, c1, _⟩ := HX1.out.below hB
                clear O D
                exact ⟨rfl, by go_simp⟩
              refine StepsP.cons ?_ ?_
              · refine step_val (fun a wx hB O D => ?_)
                have e4 : a.tmps[4]? = some (.pointer (some ⟨w.heap.size + 1, 0, none⟩)) := O 4 (by rfl)
                clear O D
                exact ⟨rfl, by go_simp⟩
              refine StepsP.cons ?_ ?_
              · refine step_val (fun a wx hB O D => ?_)
                obtain ⟨_, e22, rfl⟩ := D 1 _ _ _ (by decide) rfl rfl rfl
                obtain ⟨c0, c1, _⟩ := HX2.out.below hB
                clear O D
                exact ⟨rfl, by go_simp⟩
              refine StepsP.cons ?_ ?_
              · refine step_val (fun a wx hB O D => ?_)
                have e8 : a.tmps[8]? = some (.int .i64 (k : Int)) := O 8 (by rfl)
                clear O D
                exact ⟨rfl, by unfold execOp; simp only [ev e8]; rfl⟩
              refine StepsP.cons ?_ ?_
              · refine step_val (fun a wx hB O D => ?_)
                obtain ⟨_, e23, rfl⟩ := D 2 _ _ _ (by decide) rfl rfl rfl
                obtain ⟨_, e24, rfl⟩ := D 3 _ _ _ (by decide) rfl rfl rfl
                clear O D
                exact ⟨rfl, by go_simp⟩
              refine StepsP.cons ?_ ?_
              · refine step_val (fun a wx hB O D => ?_)
                obtain ⟨_, e25, rfl⟩ := D 4 _ _ _ (by decide) rfl rfl rfl
                have q5 := (hB.cell (p := ⟨bp, op + k, none⟩) hbp).trans hck
                clear O D
                exact ⟨rfl, by go_simp⟩
              refine StepsP.cons ?_ ?_
              · refine step_val (fun a wx hB O D => ?_)
                obtain ⟨_, e26, rfl⟩ := D 5 _ _ _ (by decide) rfl rfl rfl
                have q6 : IntKind.i64.wrap (2 * (i : Int)) = 2 * (i : Int) := by rw [IntKind.wrap_i64]; omega
                clear O D
                exact ⟨rfl, by go_simp⟩
              refine StepsP.cons ?_ ?_
              · refine step_val (fun a wx hB O D => ?_)
                have e9 : a.tmps[9]? = some (.int .i64 0) := O 9 (by rfl)
                clear O D
                exact ⟨rfl, by unfold execOp; simp only [ev e9]; rfl⟩
              refine StepsP.cons ?_ ?_
              · refine step_val (fun a wx hB O D => ?_)
                obtain ⟨_, e27, rfl⟩ := D 6 _ _ _ (by decide) rfl rfl rfl
                obtain ⟨_, e28, rfl⟩ := D 7 _ _ _ (by decide) rfl rfl rfl
                have q8 : IntKind.i64.wrap (2 * (i : Int)) = 2 * (i : Int) := by rw [IntKind.wrap_i64]; omega
                clear O D
                exact ⟨rfl, by go_simp⟩
              refine StepsP.cons ?_ ?_
              · refine step_call (enters_of Try.func16 (by kernel_rfl) rfl) rfl rfl (fun a wx hB O D => ?_)
                obtain ⟨_, e21, rfl⟩ := D 0 _ _ _ (by decide) rfl rfl rfl
                obtain ⟨_, e29, rfl⟩ := D 8 _ _ _ (by decide) rfl rfl rfl
                have e9 : (2 * (i : Int) + 0) = ((2 * i + 0 : Nat) : Int) := by omega
                refine ⟨rfl, #[.agg #[.int .i64 g.n, .slice (some ⟨be, oe, none⟩) g.e.length ce], .int .i64 (2 * (i : Int))], by simp only [List.map_toArray, List.map_cons, List.map_nil, ev e21, ev e29] <;> rfl, ?_⟩
                first | exact (tail_any _ g (2 * i + 0) _ (HG2.out.below hB) (by omega) hl).mono fun e w2 ⟨he, hw⟩ => ⟨_, he, hw, rfl⟩
              refine StepsP.cons ?_ ?_
              · refine step_val (fun a wx hB O D => ?_)
                have e2 : a.tmps[2]? = some (.int .i64 x) := O 2 (by rfl)
                clear O D
                exact ⟨rfl, by unfold execOp; simp only [ev e2]; rfl⟩
              refine StepsP.cons ?_ ?_
              · refine step_val (fun a wx hB O D => ?_)
                obtain ⟨_, e30, rfl⟩ := D 9 _ _ _ (by decide) rfl rfl rfl
                obtain ⟨_, e31, rfl⟩ := D 10 _ _ _ (by decide) rfl rfl rfl
                clear O D
                exact ⟨rfl, by go_simp⟩
              exact StepsP.nil
            · intro wz hZ
              refine EndP.is ?_
              refine EndP.is ?_
              refine EndP.is ?_
              refine EndP.is ?_
              refine EndP.is ?_
              refine EndP.is ?_
              refine EndP.is ?_
              refine EndP.is ?_
              refine EndP.is ?_
              refine EndP.is ?_
              refine EndP.is ?_
              refine EndP.is ?_
              refine EndP.nil ?_
              have HZ := Lib.hid (hB1.out.trans (hZ.mono hB1.out.size))
              have HOZ := Lib.hid (hO1.out.below hZ)
              have zx2 := (HX2.out.below hZ).c1
              have zck := (hZ.cell (p := ⟨bp, op + k, none⟩) hbp).trans hck
              refine wpList_nil ?_
              simp only [Act.put, List.setIfInBounds_toArray, List.set_cons_zero, List.set_cons_succ]
              clear hZ hB1 hO1 HX1 HX2 HG2 hbp hck
              by_cases ht : tailOf g (2 * i + 0) = x
              · have HP := Lib.hid (show dPart g x i (0 + 1) = dPart g x i 0 ++ [2 * (i : Int) + ((0 : Nat) : Int)] by show _ ++ _ = _; rw [if_pos ht])
                have ht' : (tailOf g (2 * i + 0) == x) = true := by simpa using ht
                rw [ht']
                clear ht ht'
                go_wp2_with (at_builtin; refine wpList_append1 rfl _ _ rfl rfl rfl HOZ.out HZ.out.size HLL.out ?_)
                intro v7 w7 hO7 hB7
                have HO7 := Lib.hid hO7
                have HL7 := Lib.hid (HZ.out.trans hB7)
                clear hO7 hB7
                go_wp2
                go_roundw
                case rel => exact ⟨1, by omega, by go_num, HL7, Lib.hid (by rw [HP.out, ← List.append_assoc]; simpa using HO7.out)⟩
                case measure => simp [Go.RowKit.intOf]
              · have HP := Lib.hid (show dPart g x i (0 + 1) = dPart g x i 0 by show _ ++ _ = _; rw [if_neg ht, List.append_nil])
                have ht' : (tailOf g (2 * i + 0) == x) = false := by simpa using ht
                rw [ht']
                clear ht ht'
                go_wp2
                go_roundw
                case rel => exact ⟨1, by omega, by go_num, HZ, by rw [HP.out]; exact HOZ⟩
                case measure => simp [Go.RowKit.intOf]
          · go_wp2_with fail
            refine wp_region_plan [is (.agg #[.int .i64 g.n, .slice (some ⟨be, oe, none⟩) g.e.length ce]), is (.pointer (some ⟨w.heap.size + 1, 1, none⟩)), is (.slice (some ⟨bp, op, none⟩) p.e.length cp), is (.int .i64 (k : Int)), is (.pointer (some ⟨bp, op + k, none⟩)), is (.int .i64 (i : Int)), is (.int .i64 (2 * (i : Int))), is (.int .i64 1), is (.int .i64 (2 * (i : Int) + 1)), is (.int .i64 (tailOf g (2 * i + 1))), is (.int .i64 x), is (.bool (tailOf g (2 * i + 1) == x))] (by kernel_rfl) (by kernel_rfl) ?_ ?_
            · skip
              refine StepsP.cons ?_ ?_
              · refine step_val (fun a wx hB O D => ?_)
                have e3 : a.tmps[3]? = some (.pointer (some ⟨w.heap.size, 0, none⟩)) := O 3 (by rfl)
                obtain ⟨c0, c1, _⟩ := HX1.out.below hB
                clear O D
                exact ⟨rfl, by go_simp⟩
              refine StepsP.cons ?_ ?_
              · refine step_val (fun a wx hB O D => ?_)
                have e4 : a.tmps[4]? = some (.pointer (some ⟨w.heap.size + 1, 0, none⟩)) := O 4 (by rfl)
                clear O D
                exact ⟨rfl, by go_simp⟩
              refine StepsP.cons ?_ ?_
              · refine step_val (fun a wx hB O D => ?_)
                obtain ⟨_, e22, rfl⟩ := D 1 _ _ _ (by decide) rfl rfl rfl
                obtain ⟨c0, c1, _⟩ := HX2.out.below hB
                clear O D
                exact ⟨rfl, by go_simp⟩
              refine StepsP.cons ?_ ?_
              · refine step_val (fun a wx hB O D => ?_)
                have e8 : a.tmps[8]? = some (.int .i64 (k : Int)) := O 8 (by rfl)
                clear O D
                exact ⟨rfl, by unfold execOp; simp only [ev e8]; rfl⟩
              refine StepsP.cons ?_ ?_
              · refine step_val (fun a wx hB O D => ?_)
                obtain ⟨_, e23, rfl⟩ := D 2 _ _ _ (by decide) rfl rfl rfl
                obtain ⟨_, e24, rfl⟩ := D 3 _ _ _ (by decide) rfl rfl rfl
                clear O D
                exact ⟨rfl, by go_simp⟩
              refine StepsP.cons ?_ ?_
              · refine step_val (fun a wx hB O D => ?_)
                obtain ⟨_, e25, rfl⟩ := D 4 _ _ _ (by decide) rfl rfl rfl
                have q5 := (hB.cell (p := ⟨bp, op + k, none⟩) hbp).trans hck
                clear O D
                exact ⟨rfl, by go_simp⟩
              refine StepsP.cons ?_ ?_
              · refine step_val (fun a wx hB O D => ?_)
                obtain ⟨_, e26, rfl⟩ := D 5 _ _ _ (by decide) rfl rfl rfl
                have q6 : IntKind.i64.wrap (2 * (i : Int)) = 2 * (i : Int) := by rw [IntKind.wrap_i64]; omega
                clear O D
                exact ⟨rfl, by go_simp⟩
              refine StepsP.cons ?_ ?_
              · refine step_val (fun a wx hB O D => ?_)
                have e9 : a.tmps[9]? = some (.int .i64 1) := O 9 (by rfl)
                clear O D
                exact ⟨rfl, by unfold execOp; simp only [ev e9]; rfl⟩
              refine StepsP.cons ?_ ?_
              · refine step_val (fun a wx hB O D => ?_)
                obtain ⟨_, e27, rfl⟩ := D 6 _ _ _ (by decide) rfl rfl rfl
                obtain ⟨_, e28, rfl⟩ := D 7 _ _ _ (by decide) rfl rfl rfl
                have q8 : IntKind.i64.wrap (2 * (i : Int) + 1) = 2 * (i : Int) + 1 := by rw [IntKind.wrap_i64]; omega
                clear O D
                exact ⟨rfl, by go_simp⟩
              refine StepsP.cons ?_ ?_
              · refine step_call (enters_of Try.func16 (by kernel_rfl) rfl) rfl rfl (fun a wx hB O D => ?_)
                obtain ⟨_, e21, rfl⟩ := D 0 _ _ _ (by decide) rfl rfl rfl
                obtain ⟨_, e29, rfl⟩ := D 8 _ _ _ (by decide) rfl rfl rfl
                have e9 : (2 * (i : Int) + 1) = ((2 * i + 1 : Nat) : Int) := by omega
                refine ⟨rfl, #[.agg #[.int .i64 g.n, .slice (some ⟨be, oe, none⟩) g.e.length ce], .int .i64 (2 * (i : Int) + 1)], by simp only [List.map_toArray, List.map_cons, List.map_nil, ev e21, ev e29] <;> rfl, ?_⟩
                first | exact (tail_any _ g (2 * i + 1) _ (HG2.out.below hB) (by omega) hl).mono fun e w2 ⟨he, hw⟩ => ⟨_, he, hw, rfl⟩
              refine StepsP.cons ?_ ?_
              · refine step_val (fun a wx hB O D => ?_)
                have e2 : a.tmps[2]? = some (.int .i64 x) := O 2 (by rfl)
                clear O D
                exact ⟨rfl, by unfold execOp; simp only [ev e2]; rfl⟩
              refine StepsP.cons ?_ ?_
              · refine step_val (fun a wx hB O D => ?_)
                obtain ⟨_, e30, rfl⟩ := D 9 _ _ _ (by decide) rfl rfl rfl
                obtain ⟨_, e31, rfl⟩ := D 10 _ _ _ (by decide) rfl rfl rfl
                clear O D
                exact ⟨rfl, by go_simp⟩
              exact StepsP.nil
            · intro wz hZ
              refine EndP.is ?_
              refine EndP.is ?_
              refine EndP.is ?_
              refine EndP.is ?_
              refine EndP.is ?_
              refine EndP.is ?_
              refine EndP.is ?_
              refine EndP.is ?_
              refine EndP.is ?_
              refine EndP.is ?_
              refine EndP.is ?_
              refine EndP.is ?_
              refine EndP.nil ?_
              have HZ := Lib.hid (hB1.out.trans (hZ.mono hB1.out.size))
              have HOZ := Lib.hid (hO1.out.below hZ)
              have zx2 := (HX2.out.below hZ).c1
              have zck := (hZ.cell (p := ⟨bp, op + k, none⟩) hbp).trans hck
              refine wpList_nil ?_
              simp only [Act.put, List.setIfInBounds_toArray, List.set_cons_zero, List.set_cons_succ]
              clear hZ hB1 hO1 HX1 HX2 HG2 hbp hck
              by_cases ht : tailOf g (2 * i + 1) = x
              · have HP := Lib.hid (show dPart g x i (1 + 1) = dPart g x i 1 ++ [2 * (i : Int) + ((1 : Nat) : Int)] by show _ ++ _ = _; rw [if_pos ht])
                have ht' : (tailOf g (2 * i + 1) == x) = true := by simpa using ht
                rw [ht']
                clear ht ht'
                go_wp2_with (at_builtin; refine wpList_append1 rfl _ _ rfl rfl rfl HOZ.out HZ.out.size HLL.out ?_)
                intro v7 w7 hO7 hB7
                have HO7 := Lib.hid hO7
                have HL7 := Lib.hid (HZ.out.trans hB7)
                clear hO7 hB7
                go_wp2
                go_roundw
                case rel => exact ⟨2, by omega, by go_num, HL7, Lib.hid (by rw [HP.out, ← List.append_assoc]; simpa using HO7.out)⟩
                case measure => simp [Go.RowKit.intOf]
              · have HP := Lib.hid (show dPart g x i (1 + 1) = dPart g x i 1 by show _ ++ _ = _; rw [if_neg ht, List.append_nil])
                have ht' : (tailOf g (2 * i + 1) == x) = false := by simpa using ht
                rw [ht']
                clear ht ht'
                go_wp2
                go_roundw
                case rel => exact ⟨2, by omega, by go_num, HZ, by rw [HP.out]; exact HOZ⟩
                case measure => simp [Go.RowKit.intOf]
        · obtain rfl : s = 2 := by omega
          go_wp2
          go_roundw
          case rel => exact ⟨k + 1, by omega, by go_num, hB1, by rw [HS.out]; exact hO1⟩
          case measure => simp [Go.RowKit.intOf]; omega
    · obtain rfl : k = p.e.length := by omega
      have HT := Lib.hid (List.take_length (l := p.e))
      rw [HT.out] at hO0
      have HZ := Lib.hid (trans2 HM.out hB0.out)
      go_wp2
      go_ret
      exact ⟨_, rfl, HZ.out, hO0.out.le HM.out.size⟩

end Go.Proofs.Ytjnohnbppkhbaaa
