/-
  GrP, GrQ, GrR, GrS, in one text.
-/
import Derived.Test.YtmbpmepoaonleaaGreatM04
/-! The document's Equal, Same, And, Or. -/
namespace Go.Proofs.YtmbpmepoaonleaaGreat
open Go.RowKit

set_option maxRecDepth 100000 in
set_option maxHeartbeats 1000000 in
theorem requal_any (v : Value) (l : List Int) (u : Value) (m : List Int) (w : World) (h : Ints w v l) (h' : Ints w u m) (hl : l.length ≤ 4000000) :
    Calls Tryz.prog 32 #[v, u] w fun e w' => e = .returned (.bool (decide (l = m))) ∧ ∃ n, w' = w.drewN n := by
  obtain ⟨A, cap, rfl, hcap, _, hcell⟩ := h
  obtain ⟨A', cap', rfl, hcap', hm', hcell'⟩ := h'
  unfold maxLen at hm'
  by_cases hlen : l.length = m.length
  case neg =>
    have HF := Lib.hid (show decide (l = m) = false by simpa using fun e : l = m => hlen (by rw [e]))
    have hne' : ((l.length : Int) != (m.length : Int)) = true := by simp; omega
    clear hlen hcell hcell'
    go_enter Tryz.func32, Tryz.ntmps32
    go_wp2
    go_ret
    exact ⟨ret_bool HF.out.symm, 0, rfl⟩
  have HL := Lib.hid hlen
  have hne' : ((l.length : Int) != (m.length : Int)) = false := by simp; omega
  have hle : l.length ≤ m.length := by omega
  clear hlen
  go_enter Tryz.func32, Tryz.ntmps32
  go_wp2
  go_loopw [5] (fun i wr => ∃ k n : Nat, k ≤ l.length ∧ i = .int .i64 k ∧ wr = w.drewN n ∧ Hid (∀ j, j < k → getI l j = getI m j)) (fun i _ => l.length - (Go.RowKit.intOf i).toNat)
  case atStart => exact ⟨0, 0, Nat.zero_le _, rfl, rfl, Lib.hid (fun j hj => absurd hj (Nat.not_lt_zero _))⟩
  case round =>
    obtain ⟨k, n, hk, rfl, rfl, heq⟩ := hrel
    by_cases hlt : k < l.length
    · obtain ⟨b, off, rfl, hb, hc⟩ := hcell (by omega)
      obtain ⟨b', off', rfl, hb', hc'⟩ := hcell' (by omega)
      have hck := hc k hlt
      have hck' := hc' k (by omega)
      have hlt' : k < m.length := by omega
      clear hc hcell hc' hcell'
      by_cases he : getI l k = getI m k
      · have HK := Lib.hid he
        have he' : (getI l k != getI m k) = false := by simpa using he
        clear he
        go_wp2_with fail
        go_quiet (fail)
        go_wp2
        go_roundw
        case rel => exact ⟨k + 1, _, by omega, by go_num, rfl, Lib.hid (fun j hj => by
          by_cases e : j = k
          · rw [e]; exact HK.out
          · exact heq.out j (by omega))⟩
        case measure => simp [Go.RowKit.intOf]; omega
      · have HF := Lib.hid (show decide (l = m) = false by simpa using fun e : l = m => he (by rw [e]))
        have he' : (getI l k != getI m k) = true := by simpa using he
        clear he
        go_wp2_with fail
        go_quiet (fail)
        go_wp2
        go_ret
        exact ⟨ret_bool HF.out.symm, _, World.drewN_drewN _ _ _⟩
    · obtain rfl : k = l.length := by omega
      have HF := Lib.hid (show decide (l = m) = true by simpa using ext_getI l m HL.out heq.out)
      go_wp2
      go_ret
      exact ⟨ret_bool HF.out.symm, n, rfl⟩

/-! ### And -/

end Go.Proofs.YtmbpmepoaonleaaGreat

/-! The document's Or. -/
namespace Go.Proofs.YtmbpmepoaonleaaGreat
open Go.RowKit

structure Ro (w : World) (l m : List Int) (wr : World) (v : Value) (i j : Nat) (out : List Int) : Prop where
  low : Below w.heap.size w wr
  own : Row wr w.heap.size v out
  eq : out ++ mrg 1 (l.drop i) (m.drop j) = mrg 1 l m
  len : out.length ≤ i + j

theorem Ro.drew {w : World} {l m : List Int} {wr : World} {v : Value} {i j : Nat} {out : List Int} (h : Ro w l m wr v i j out) (n : Nat) : Ro w l m (wr.drewN n) v i j out :=
  ⟨below_drewN h.low n, h.own.below (below_drewN' wr n), h.eq, h.len⟩
theorem Ro.take {w : World} {l m : List Int} {wr w1 : World} {v u : Value} {i j i' j' : Nat} {out : List Int} {x : Int} (h : Ro w l m wr v i j out)
    (e : mrg 1 (l.drop i) (m.drop j) = [x] ++ mrg 1 (l.drop i') (m.drop j')) (hl : i + j + 1 ≤ i' + j') (ho : Row w1 w.heap.size u (out ++ [x])) (hB : Below w.heap.size w w1) : Ro w l m w1 u i' j' (out ++ [x]) :=
  ⟨hB, ho, by rw [← h.eq, e, List.append_assoc], by have := h.len; simp; omega⟩

end Go.Proofs.YtmbpmepoaonleaaGreat

/-! The document's Darts. -/
namespace Go.Proofs.YtmbpmepoaonleaaGreat
open Go.RowKit

/-- The first s of the two darts of an edge, as far as they leave x. -/
def dPart (g : Gph) (x : Int) (i : Nat) : Nat → List Int
  | 0 => []
  | s + 1 => dPart g x i s ++ (if tailOf g (2 * i + s) = x then [2 * (i : Int) + (s : Int)] else [])

theorem tail0 (g : Gph) (i : Nat) : tailOf g (2 * i + 0) = (getE g.e i).a := by
  unfold tailOf
  rw [if_pos (by omega), show (2 * i + 0) / 2 = i by omega]
theorem tail1 (g : Gph) (i : Nat) : tailOf g (2 * i + 1) = (getE g.e i).b := by
  unfold tailOf
  rw [if_neg (by omega), show (2 * i + 1) / 2 = i by omega]
theorem dPart_all (g : Gph) (x : Int) (i : Nat) : dPart g x i 2 = dOf g x (i : Int) := by
  show ([] ++ (if tailOf g (2 * i + 0) = x then [2 * (i : Int) + ((0 : Nat) : Int)] else [])) ++ (if tailOf g (2 * i + 1) = x then [2 * (i : Int) + ((1 : Nat) : Int)] else []) = _
  rw [tail0, tail1]
  unfold dOf
  rw [Int.toNat_natCast, List.nil_append]
  simp
theorem dPart_len (g : Gph) (x : Int) (i : Nat) : ∀ s, (dPart g x i s).length ≤ s
  | 0 => Nat.le_refl _
  | s + 1 => by
    have := dPart_len g x i s
    unfold dPart
    rw [List.length_append]
    split <;> simp <;> omega

set_option maxRecDepth 100000 in
set_option maxHeartbeats 4000000 in
theorem rdarts_any (v u : Value) (g : Gph) (p : Prt) (x : Int) (w : World) (h : Gr w v g) (h' : Pt w u p) (hl : g.e.length ≤ 1000000) (hp2 : p.e.length ≤ 1000000) (hr : Rises p.e g.e.length) :
    Calls Tryz.prog 59 #[v, u, .int .i64 x] w fun e w' => ∃ u, e = .returned u ∧ Below w.heap.size w w' ∧ Row w' w.heap.size u (dartsL g x p.e) := by
  have HG := Lib.hid h
  have HR := Lib.hid hr
  obtain ⟨ve, rfl, h1⟩ := h
  obtain ⟨vv, vp, rfl, h2, h3⟩ := h'
  obtain ⟨Ae, ce, rfl⟩ := h1.form
  obtain ⟨Av, cv, rfl⟩ := ints_form h2
  obtain ⟨Ap, cp, rfl⟩ := ints_form h3
  obtain ⟨b1, b2, hm⟩ := two_boxes w (.int .i64 g.n) (.slice Ae g.e.length ce) (.slice Av p.v.length cv) (.slice Ap p.e.length cp) 24 27
  have HG1 := Lib.hid (HG.out.below hm)
  have HE := Lib.hid (h1.below hm)
  have HI := Lib.hid (h3.below hm)
  have HB1 := Lib.hid b1
  have HB2 := Lib.hid b2
  have HM := Lib.hid hm
  clear b1 b2 hm h1 h2 h3 HG hr
  go_enter Tryz.func59, Tryz.ntmps59
  go_wp2
  generalize (w.alloc (.cells #[.int .i64 g.n, .slice Ae g.e.length ce] 24)).alloc (.cells #[.slice Av p.v.length cv, .slice Ap p.e.length cp] 27) = w1 at *
  go_loopw [7, 8] (fun o a wr => ∃ k : Nat, k ≤ p.e.length ∧ a = .int .i64 k ∧ Hid (Below w1.heap.size w1 wr) ∧ Hid (Row wr w1.heap.size o (dartsL g x (p.e.take k)))) (fun _ a _ => p.e.length - (Go.RowKit.intOf a).toNat)
  case atStart => exact ⟨0, Nat.zero_le _, rfl, Lib.hid (Below.refl _ _), Lib.hid (Row.nil _ _)⟩
  case round =>
    obtain ⟨k, hk, rfl, hB0, hO0⟩ := hrel
    rename_i wo
    have x2 := (HB2.out.below hB0.out).c1
    by_cases hlt : k < p.e.length
    · obtain ⟨bp, op, rfl, hbp0, hck0⟩ := ints_at HI.out hlt
      obtain ⟨z0, z1, _⟩ := HR.out k hlt
      obtain ⟨i, hi⟩ : ∃ i : Nat, getI p.e k = (i : Int) := ⟨(getI p.e k).toNat, by omega⟩
      have hil : i < g.e.length := by omega
      obtain ⟨be, oe, rfl, hbe, _, _⟩ := edges_at HE.out hil
      have HS := Lib.hid (show dartsL g x (p.e.take (k + 1)) = dartsL g x (p.e.take k) ++ dPart g x i 2 by rw [dartsL_succ g x p.e k hlt, dPart_all, hi])
      have HL := Lib.hid (show (dartsL g x (p.e.take k)).length ≤ 2000000 by have := dartsL_len g x (p.e.take k); simp at this; omega)
      rw [hi] at hck0
      have HBP := Lib.hid hbp0
      have HCK := Lib.hid hck0
      clear hi z0 z1 hbe hbp0 hck0
      go_wp2
      clear x2
      go_loopw [7, 9] (fun o a wr => ∃ s : Nat, s ≤ 2 ∧ a = .int .i64 s ∧ Hid (Below w1.heap.size w1 wr) ∧ Hid (Row wr w1.heap.size o (dartsL g x (p.e.take k) ++ dPart g x i s))) (fun _ a _ => 2 - (Go.RowKit.intOf a).toNat)
      case atStart => exact ⟨0, by omega, rfl, hB0, Lib.hid (by rw [show dPart g x i 0 = [] from rfl, List.append_nil]; exact hO0.out)⟩
      case round =>
        obtain ⟨s, hs, rfl, hB1, hO1⟩ := hrel
        rename_i wr
        have HX1 := Lib.hid (HB1.out.below hB1.out)
        have HX2 := Lib.hid (HB2.out.below hB1.out)
        have HG2 := Lib.hid (HG1.out.below hB1.out)
        have hbp : bp < wr.heap.size := Nat.lt_of_lt_of_le HBP.out hB1.out.size
        have hck : wr.cell? ⟨bp, op + k, none⟩ = some (.int .i64 (i : Int)) := (hB1.out.cell (p := ⟨bp, op + k, none⟩) HBP.out).trans HCK.out
        have HLL := Lib.hid (show (dartsL g x (p.e.take k) ++ dPart g x i s).length ≤ 4000000 by have := HL.out; have := dPart_len g x i s; rw [List.length_append]; omega)
        by_cases hs2 : s < 2
        · rcases (show s = 0 ∨ s = 1 by omega) with rfl | rfl
          · go_wp2_with fail
            refine wp_region_plan [is (.agg #[.int .i64 g.n, .slice (some ⟨be, oe, none⟩) g.e.length ce]), is (.pointer (some ⟨w.heap.size + 1, 1, none⟩)), is (.slice (some ⟨bp, op, none⟩) p.e.length cp), is (.int .i64 (k : Int)), is (.pointer (some ⟨bp, op + k, none⟩)), is (.int .i64 (i : Int)), is (.int .i64 (2 * (i : Int))), is (.int .i64 0), is (.int .i64 (2 * (i : Int))), is (.int .i64 (tailOf g (2 * i + 0))), is (.int .i64 x), is (.bool (tailOf g (2 * i + 0) == x))] (by kernel_rfl) (by kernel_rfl) ?_ ?_
            · skip
              refine StepsP.cons ?_ ?_
              · refine step_val (fun a wx hB O D => ?_)
                have e3 : a.tmps[3]? = some (.pointer (some ⟨w.heap.size, 0, none⟩)) := O 3 (by rfl)
                obtain ⟨c0, c1, _⟩ := HX1.out.below hB
                clear O D
                exact ⟨rfl, by go_simp⟩
              refine StepsP.cons ?_ ?_
              · refine step_val (fun a wx hB O D => ?_)
                have e4 : a.tmps[4]? = some (.pointer (some ⟨w.heap.size + 1, 0, none⟩)) := O 4 (by rfl)
                clear O D
                exact ⟨rfl, by go_simp⟩
              refine StepsP.cons ?_ ?_
              · refine step_val (fun a wx hB O D => ?_)
                obtain ⟨_, e22, rfl⟩ := D 1 _ _ _ (by decide) rfl rfl rfl
                obtain ⟨c0, c1, _⟩ := HX2.out.below hB
                clear O D
                exact ⟨rfl, by go_simp⟩
              refine StepsP.cons ?_ ?_
              · refine step_val (fun a wx hB O D => ?_)
                have e8 : a.tmps[8]? = some (.int .i64 (k : Int)) := O 8 (by rfl)
                clear O D
                exact ⟨rfl, by unfold execOp; simp only [ev e8]; rfl⟩
              refine StepsP.cons ?_ ?_
              · refine step_val (fun a wx hB O D => ?_)
                obtain ⟨_, e23, rfl⟩ := D 2 _ _ _ (by decide) rfl rfl rfl
                obtain ⟨_, e24, rfl⟩ := D 3 _ _ _ (by decide) rfl rfl rfl
                clear O D
                exact ⟨rfl, by go_simp⟩
              refine StepsP.cons ?_ ?_
              · refine step_val (fun a wx hB O D => ?_)
                obtain ⟨_, e25, rfl⟩ := D 4 _ _ _ (by decide) rfl rfl rfl
                have q5 := (hB.cell (p := ⟨bp, op + k, none⟩) hbp).trans hck
                clear O D
                exact ⟨rfl, by go_simp⟩
              refine StepsP.cons ?_ ?_
              · refine step_val (fun a wx hB O D => ?_)
                obtain ⟨_, e26, rfl⟩ := D 5 _ _ _ (by decide) rfl rfl rfl
                have q6 : IntKind.i64.wrap (2 * (i : Int)) = 2 * (i : Int) := by rw [IntKind.wrap_i64]; omega
                clear O D
                exact ⟨rfl, by go_simp⟩
              refine StepsP.cons ?_ ?_
              · refine step_val (fun a wx hB O D => ?_)
                have e9 : a.tmps[9]? = some (.int .i64 0) := O 9 (by rfl)
                clear O D
                exact ⟨rfl, by unfold execOp; simp only [ev e9]; rfl⟩
              refine StepsP.cons ?_ ?_
              · refine step_val (fun a wx hB O D => ?_)
                obtain ⟨_, e27, rfl⟩ := D 6 _ _ _ (by decide) rfl rfl rfl
                obtain ⟨_, e28, rfl⟩ := D 7 _ _ _ (by decide) rfl rfl rfl
                have q8 : IntKind.i64.wrap (2 * (i : Int)) = 2 * (i : Int) := by rw [IntKind.wrap_i64]; omega
                clear O D
                exact ⟨rfl, by go_simp⟩
              refine StepsP.cons ?_ ?_
              · refine step_call (enters_of Tryz.func89 (by kernel_rfl) rfl) rfl rfl (fun a wx hB O D => ?_)
                obtain ⟨_, e21, rfl⟩ := D 0 _ _ _ (by decide) rfl rfl rfl
                obtain ⟨_, e29, rfl⟩ := D 8 _ _ _ (by decide) rfl rfl rfl
                have e9 : (2 * (i : Int) + 0) = ((2 * i + 0 : Nat) : Int) := by omega
                refine ⟨rfl, #[.agg #[.int .i64 g.n, .slice (some ⟨be, oe, none⟩) g.e.length ce], .int .i64 (2 * (i : Int))], by simp only [List.map_toArray, List.map_cons, List.map_nil, ev e21, ev e29] <;> rfl, ?_⟩
                first | exact (tail_any _ g (2 * i + 0) _ (HG2.out.below hB) (by omega) hl).mono fun e w2 ⟨he, hw⟩ => ⟨_, he, hw, rfl⟩
              refine StepsP.cons ?_ ?_
              · refine step_val (fun a wx hB O D => ?_)
                have e2 : a.tmps[2]? = some (.int .i64 x) := O 2 (by rfl)
                clear O D
                exact ⟨rfl, by unfold execOp; simp only [ev e2]; rfl⟩
              refine StepsP.cons ?_ ?_
              · refine step_val (fun a wx hB O D => ?_)
                obtain ⟨_, e30, rfl⟩ := D 9 _ _ _ (by decide) rfl rfl rfl
                obtain ⟨_, e31, rfl⟩ := D 10 _ _ _ (by decide) rfl rfl rfl
                clear O D
                exact ⟨rfl, by go_simp⟩
              exact StepsP.nil
            · intro wz hZ
              refine EndP.is ?_
              refine EndP.is ?_
              refine EndP.is ?_
              refine EndP.is ?_
              refine EndP.is ?_
              refine EndP.is ?_
              refine EndP.is ?_
              refine EndP.is ?_
              refine EndP.is ?_
              refine EndP.is ?_
              refine EndP.is ?_
              refine EndP.is ?_
              refine EndP.nil ?_
              have HZ := Lib.hid (hB1.out.trans (hZ.mono hB1.out.size))
              have HOZ := Lib.hid (hO1.out.below hZ)
              have zx2 := (HX2.out.below hZ).c1
              have zck := (hZ.cell (p := ⟨bp, op + k, none⟩) hbp).trans hck
              refine wpList_nil ?_
              simp only [Act.put, List.setIfInBounds_toArray, List.set_cons_zero, List.set_cons_succ]
              clear hZ hB1 hO1 HX1 HX2 HG2 hbp hck
              by_cases ht : tailOf g (2 * i + 0) = x
              · have HP := Lib.hid (show dPart g x i (0 + 1) = dPart g x i 0 ++ [2 * (i : Int) + ((0 : Nat) : Int)] by show _ ++ _ = _; rw [if_pos ht])
                have ht' : (tailOf g (2 * i + 0) == x) = true := by simpa using ht
                rw [ht']
                clear ht ht'
                go_wp2_with (at_builtin; refine wpList_append1 rfl _ _ rfl rfl rfl HOZ.out HZ.out.size HLL.out ?_)
                intro v7 w7 hO7 hB7
                have HO7 := Lib.hid hO7
                have HL7 := Lib.hid (HZ.out.trans hB7)
                clear hO7 hB7
                go_wp2
                go_roundw
                case rel => exact ⟨1, by omega, by go_num, HL7, Lib.hid (by rw [HP.out, ← List.append_assoc]; simpa using HO7.out)⟩
                case measure => simp [Go.RowKit.intOf]
              · have HP := Lib.hid (show dPart g x i (0 + 1) = dPart g x i 0 by show _ ++ _ = _; rw [if_neg ht, List.append_nil])
                have ht' : (tailOf g (2 * i + 0) == x) = false := by simpa using ht
                rw [ht']
                clear ht ht'
                go_wp2
                go_roundw
                case rel => exact ⟨1, by omega, by go_num, HZ, by rw [HP.out]; exact HOZ⟩
                case measure => simp [Go.RowKit.intOf]
          · go_wp2_with fail
            refine wp_region_plan [is (.agg #[.int .i64 g.n, .slice (some ⟨be, oe, none⟩) g.e.length ce]), is (.pointer (some ⟨w.heap.size + 1, 1, none⟩)), is (.slice (some ⟨bp, op, none⟩) p.e.length cp), is (.int .i64 (k : Int)), is (.pointer (some ⟨bp, op + k, none⟩)), is (.int .i64 (i : Int)), is (.int .i64 (2 * (i : Int))), is (.int .i64 1), is (.int .i64 (2 * (i : Int) + 1)), is (.int .i64 (tailOf g (2 * i + 1))), is (.int .i64 x), is (.bool (tailOf g (2 * i + 1) == x))] (by kernel_rfl) (by kernel_rfl) ?_ ?_
            · skip
              refine StepsP.cons ?_ ?_
              · refine step_val (fun a wx hB O D => ?_)
                have e3 : a.tmps[3]? = some (.pointer (some ⟨w.heap.size, 0, none⟩)) := O 3 (by rfl)
                obtain ⟨c0, c1, _⟩ := HX1.out.below hB
                clear O D
                exact ⟨rfl, by go_simp⟩
              refine StepsP.cons ?_ ?_
              · refine step_val (fun a wx hB O D => ?_)
                have e4 : a.tmps[4]? = some (.pointer (some ⟨w.heap.size + 1, 0, none⟩)) := O 4 (by rfl)
                clear O D
                exact ⟨rfl, by go_simp⟩
              refine StepsP.cons ?_ ?_
              · refine step_val (fun a wx hB O D => ?_)
                obtain ⟨_, e22, rfl⟩ := D 1 _ _ _ (by decide) rfl rfl rfl
                obtain ⟨c0, c1, _⟩ := HX2.out.below hB
                clear O D
                exact ⟨rfl, by go_simp⟩
              refine StepsP.cons ?_ ?_
              · refine step_val (fun a wx hB O D => ?_)
                have e8 : a.tmps[8]? = some (.int .i64 (k : Int)) := O 8 (by rfl)
                clear O D
                exact ⟨rfl, by unfold execOp; simp only [ev e8]; rfl⟩
              refine StepsP.cons ?_ ?_
              · refine step_val (fun a wx hB O D => ?_)
                obtain ⟨_, e23, rfl⟩ := D 2 _ _ _ (by decide) rfl rfl rfl
                obtain ⟨_, e24, rfl⟩ := D 3 _ _ _ (by decide) rfl rfl rfl
                clear O D
                exact ⟨rfl, by go_simp⟩
              refine StepsP.cons ?_ ?_
              · refine step_val (fun a wx hB O D => ?_)
                obtain ⟨_, e25, rfl⟩ := D 4 _ _ _ (by decide) rfl rfl rfl
                have q5 := (hB.cell (p := ⟨bp, op + k, none⟩) hbp).trans hck
                clear O D
                exact ⟨rfl, by go_simp⟩
              refine StepsP.cons ?_ ?_
              · refine step_val (fun a wx hB O D => ?_)
                obtain ⟨_, e26, rfl⟩ := D 5 _ _ _ (by decide) rfl rfl rfl
                have q6 : IntKind.i64.wrap (2 * (i : Int)) = 2 * (i : Int) := by rw [IntKind.wrap_i64]; omega
                clear O D
                exact ⟨rfl, by go_simp⟩
              refine StepsP.cons ?_ ?_
              · refine step_val (fun a wx hB O D => ?_)
                have e9 : a.tmps[9]? = some (.int .i64 1) := O 9 (by rfl)
                clear O D
                exact ⟨rfl, by unfold execOp; simp only [ev e9]; rfl⟩
              refine StepsP.cons ?_ ?_
              · refine step_val (fun a wx hB O D => ?_)
                obtain ⟨_, e27, rfl⟩ := D 6 _ _ _ (by decide) rfl rfl rfl
                obtain ⟨_, e28, rfl⟩ := D 7 _ _ _ (by decide) rfl rfl rfl
                have q8 : IntKind.i64.wrap (2 * (i : Int) + 1) = 2 * (i : Int) + 1 := by rw [IntKind.wrap_i64]; omega
                clear O D
                exact ⟨rfl, by go_simp⟩
              refine StepsP.cons ?_ ?_
              · refine step_call (enters_of Tryz.func89 (by kernel_rfl) rfl) rfl rfl (fun a wx hB O D => ?_)
                obtain ⟨_, e21, rfl⟩ := D 0 _ _ _ (by decide) rfl rfl rfl
                obtain ⟨_, e29, rfl⟩ := D 8 _ _ _ (by decide) rfl rfl rfl
                have e9 : (2 * (i : Int) + 1) = ((2 * i + 1 : Nat) : Int) := by omega
                refine ⟨rfl, #[.agg #[.int .i64 g.n, .slice (some ⟨be, oe, none⟩) g.e.length ce], .int .i64 (2 * (i : Int) + 1)], by simp only [List.map_toArray, List.map_cons, List.map_nil, ev e21, ev e29] <;> rfl, ?_⟩
                first | exact (tail_any _ g (2 * i + 1) _ (HG2.out.below hB) (by omega) hl).mono fun e w2 ⟨he, hw⟩ => ⟨_, he, hw, rfl⟩
              refine StepsP.cons ?_ ?_
              · refine step_val (fun a wx hB O D => ?_)
                have e2 : a.tmps[2]? = some (.int .i64 x) := O 2 (by rfl)
                clear O D
                exact ⟨rfl, by unfold execOp; simp only [ev e2]; rfl⟩
              refine StepsP.cons ?_ ?_
              · refine step_val (fun a wx hB O D => ?_)
                obtain ⟨_, e30, rfl⟩ := D 9 _ _ _ (by decide) rfl rfl rfl
                obtain ⟨_, e31, rfl⟩ := D 10 _ _ _ (by decide) rfl rfl rfl
                clear O D
                exact ⟨rfl, by go_simp⟩
              exact StepsP.nil
            · intro wz hZ
              refine EndP.is ?_
              refine EndP.is ?_
              refine EndP.is ?_
              refine EndP.is ?_
              refine EndP.is ?_
              refine EndP.is ?_
              refine EndP.is ?_
              refine EndP.is ?_
              refine EndP.is ?_
              refine EndP.is ?_
              refine EndP.is ?_
              refine EndP.is ?_
              refine EndP.nil ?_
              have HZ := Lib.hid (hB1.out.trans (hZ.mono hB1.out.size))
              have HOZ := Lib.hid (hO1.out.below hZ)
              have zx2 := (HX2.out.below hZ).c1
              have zck := (hZ.cell (p := ⟨bp, op + k, none⟩) hbp).trans hck
              refine wpList_nil ?_
              simp only [Act.put, List.setIfInBounds_toArray, List.set_cons_zero, List.set_cons_succ]
              clear hZ hB1 hO1 HX1 HX2 HG2 hbp hck
              by_cases ht : tailOf g (2 * i + 1) = x
              · have HP := Lib.hid (show dPart g x i (1 + 1) = dPart g x i 1 ++ [2 * (i : Int) + ((1 : Nat) : Int)] by show _ ++ _ = _; rw [if_pos ht])
                have ht' : (tailOf g (2 * i + 1) == x) = true := by simpa using ht
                rw [ht']
                clear ht ht'
                go_wp2_with (at_builtin; refine wpList_append1 rfl _ _ rfl rfl rfl HOZ.out HZ.out.size HLL.out ?_)
                intro v7 w7 hO7 hB7
                have HO7 := Lib.hid hO7
                have HL7 := Lib.hid (HZ.out.trans hB7)
                clear hO7 hB7
                go_wp2
                go_roundw
                case rel => exact ⟨2, by omega, by go_num, HL7, Lib.hid (by rw [HP.out, ← List.append_assoc]; simpa using HO7.out)⟩
                case measure => simp [Go.RowKit.intOf]
              · have HP := Lib.hid (show dPart g x i (1 + 1) = dPart g x i 1 by show _ ++ _ = _; rw [if_neg ht, List.append_nil])
                have ht' : (tailOf g (2 * i + 1) == x) = false := by simpa using ht
                rw [ht']
                clear ht ht'
                go_wp2
                go_roundw
                case rel => exact ⟨2, by omega, by go_num, HZ, by rw [HP.out]; exact HOZ⟩
                case measure => simp [Go.RowKit.intOf]
        · obtain rfl : s = 2 := by omega
          go_wp2
          go_roundw
          case rel => exact ⟨k + 1, by omega, by go_num, hB1, by rw [HS.out]; exact hO1⟩
          case measure => simp [Go.RowKit.intOf]; omega
    · obtain rfl : k = p.e.length := by omega
      have HT := Lib.hid (List.take_length (l := p.e))
      rw [HT.out] at hO0
      have HZ := Lib.hid (trans2 HM.out hB0.out)
      go_wp2
      go_ret
      exact ⟨_, rfl, HZ.out, hO0.out.le HM.out.size⟩

end Go.Proofs.YtmbpmepoaonleaaGreat

/-! The document's RightPart, Whole. -/
namespace Go.Proofs.YtmbpmepoaonleaaGreat
open Go.RowKit

set_option maxRecDepth 100000 in
set_option maxHeartbeats 2000000 in
theorem rrightPart_any (v u : Value) (g : Gph) (p : Prt) (w : World) (h : Gr w v g) (h' : Pt w u p) (hl : g.e.length ≤ 1000000) (hp1 : p.v.length ≤ 1000000) (hp2 : p.e.length ≤ 1000000) :
    Calls Tryz.prog 58 #[v, u] w fun e w' => e = .returned (.int .i64 (perr g p)) ∧ Below w.heap.size w w' := by
  have HG := Lib.hid h
  obtain ⟨ve, rfl, h1⟩ := h
  obtain ⟨vv, vp, rfl, h2, h3⟩ := h'
  obtain ⟨Ae, ce, rfl⟩ := h1.form
  obtain ⟨Av, cv, rfl⟩ := ints_form h2
  obtain ⟨Ap, cp, rfl⟩ := ints_form h3
  obtain ⟨b1, b2, hm⟩ := two_boxes w (.int .i64 g.n) (.slice Ae g.e.length ce) (.slice Av p.v.length cv) (.slice Ap p.e.length cp) 24 27
  have HG2 := Lib.hid (HG.out.below hm)
  have HV := Lib.hid (h2.below hm)
  have HP := Lib.hid (h3.below hm)
  have HE := Lib.hid (h1.below hm)
  have HB1 := Lib.hid b1
  have HB2 := Lib.hid b2
  have HM := Lib.hid hm
  clear b1 b2 hm h1 h2 h3 HG
  go_enter Tryz.func58, Tryz.ntmps58
  go_wp2_with fail
  generalize (w.alloc (.cells #[.int .i64 g.n, .slice Ae g.e.length ce] 24)).alloc (.cells #[.slice Av p.v.length cv, .slice Ap p.e.length cp] 27) = w1 at *
  refine (rright_any _ g _ HG2.out hl).mono ?_
  rintro e w2 ⟨rfl, hB2⟩
  have HM2 := Lib.hid (trans2 HM.out hB2)
  have HV2 := Lib.hid (HV.out.below hB2)
  have HP2 := Lib.hid (HP.out.below hB2)
  have HE2 := Lib.hid (HE.out.below hB2)
  have HX1 := Lib.hid (HB1.out.below hB2)
  have HX2 := Lib.hid (HB2.out.below hB2)
  have c10 := HX1.out.c0
  have c11 := HX1.out.c1
  have c20 := HX2.out.c0
  have c21 := HX2.out.c1
  clear HB1 HB2 HV HP HE HG2 hB2 HM
  by_cases he : g.err = 0
  · rw [he]
    go_wp2_with fail
    refine (rrises_any _ p.v g.n w2 HV2.out hp1).mono ?_
    rintro e w3 ⟨rfl, m3, rfl⟩
    have y21 := (World.cell?_drewN w2 m3 _).trans c21
    have y11 := (World.cell?_drewN w2 m3 _).trans c11
    have HP3 := Lib.hid (HP2.out.drewN m3)
    have HD3 := Lib.hid (below_drewN' w2 m3)
    clear c10 c11 c20 c21
    by_cases r1 : riseB p.v g.n = true
    · rw [r1]
      generalize w2.drewN m3 = w3 at *
      go_wp2_with fail
      refine (rrises_any _ p.e g.e.length w3 HP3.out hp2).mono ?_
      rintro e w4 ⟨rfl, m4, rfl⟩
      have HD4 := Lib.hid (trans2 HD3.out (below_drewN' w3 m4))
      clear y21 y11 HP3 HD3
      generalize w3.drewN m4 = w4 at *
      by_cases r2 : riseB p.e g.e.length = true
      · rw [r2]
        have HR2 := Lib.hid (of_decide_eq_true r2 : Rises p.e g.e.length)
        go_wp2
        go_loopw [6] (fun a wr => ∃ k : Nat, k ≤ p.e.length ∧ a = .int .i64 k ∧ Hid (Below w2.heap.size w2 wr) ∧ Hid (∀ j, j < k → endsIn g p (getI p.e j) = true)) (fun a _ => p.e.length - (Go.RowKit.intOf a).toNat)
        case atStart => exact ⟨0, Nat.zero_le _, rfl, HD4, Lib.hid (fun j hj => absurd hj (Nat.not_lt_zero _))⟩
        case round =>
          obtain ⟨k, hk, rfl, hB, hA⟩ := hrel
          rename_i wr
          have X1 := HX1.out.below hB.out
          have X2 := HX2.out.below hB.out
          have x11 := X1.c1
          have x20 := X2.c0
          have x21 := X2.c1
          by_cases hlt : k < p.e.length
          · obtain ⟨bp, op, rfl, hbp, hck⟩ := ints_at (HP2.out.below hB.out) hlt
            obtain ⟨z0, z1, _⟩ := HR2.out k hlt
            obtain ⟨i, hi⟩ : ∃ i : Nat, getI p.e k = (i : Int) := ⟨(getI p.e k).toNat, by omega⟩
            have hil : i < g.e.length := by omega
            obtain ⟨be, oe, rfl, hbe, hca, hcb⟩ := edges_at (HE2.out.below hB.out) hil
            have HO : Hid (endsIn g p (getI p.e k) = (decide ((getE g.e i).a ∈ p.v) && decide ((getE g.e i).b ∈ p.v))) := by
              rw [hi]; rfl
            have HF : Hid (endsIn g p (getI p.e k) = false → perr g p = 4) := fun h => perr_no he r1 r2 hlt h
            have HH : Hid (endsIn g p (getI p.e k) = true → ∀ j, j < k + 1 → endsIn g p (getI p.e j) = true) := fun h j hj => by
              by_cases e : j = k
              · rw [e]; exact h
              · exact hA.out j (by omega)
            have HI1 := Lib.hid (fun n => same_of (in_any _ p.v (getE g.e i).a (wr.drewN n) ((HV2.out.below hB.out).drewN n) hp1))
            have HI2 := Lib.hid (fun n => same_of (in_any _ p.v (getE g.e i).b (wr.drewN n) ((HV2.out.below hB.out).drewN n) hp1))
            rw [hi] at hck
            have hil' : (i : Int) < (g.e.length : Int) := by omega
            have hil0 : (0 : Int) ≤ (i : Int) := by omega
            have HMB := Lib.hid (fun n => below_drewN (trans2 HM2.out hB.out) n)
            have HBD := Lib.hid (fun n => below_drewN hB.out n)
            clear hi z0 z1 hbe hbp X1 X2 hA hB
            generalize (getE g.e i).a = xa at *
            generalize (getE g.e i).b = xb at *
            by_cases m1 : xa ∈ p.v
            · rw [decide_eq_true m1] at HO HI1
              by_cases m2 : xb ∈ p.v
              · rw [decide_eq_true m2] at HO HI2
                have HK := Lib.hid (HH.out (by rw [HO.out]; rfl))
                clear m1 m2
                go_wp2_with fail
                go_quiet ((go_at_call 22; first | with_reducible exact Calls.quiet_of_same (HI1.out _) | with_reducible exact Calls.quiet_of_same (HI2.out _)))
                go_wp2
                go_roundw
                case rel => exact ⟨k + 1, by omega, by go_num, HBD.out _, HK⟩
                case measure => simp [Go.RowKit.intOf]; omega
              · rw [decide_eq_false m2] at HO HI2
                have HK := Lib.hid (HF.out (by rw [HO.out]; rfl))
                clear m1 m2
                go_wp2_with fail
                go_quiet ((go_at_call 22; first | with_reducible exact Calls.quiet_of_same (HI1.out _) | with_reducible exact Calls.quiet_of_same (HI2.out _)))
                go_wp2
                go_ret
                exact ⟨ret_int HK.out.symm, HMB.out _⟩
            · rw [decide_eq_false m1] at HO HI1
              have HK := Lib.hid (HF.out (by rw [HO.out]; simp))
              clear m1
              go_wp2_with fail
              go_quiet ((go_at_call 22; first | with_reducible exact Calls.quiet_of_same (HI1.out _) | with_reducible exact Calls.quiet_of_same (HI2.out _)))
              go_wp2
              go_ret
              exact ⟨ret_int HK.out.symm, HMB.out _⟩
          · obtain rfl : k = p.e.length := by omega
            have HK := Lib.hid (perr_yes he r1 r2 hA.out)
            have HZ := Lib.hid (trans2 HM2.out hB.out)
            go_wp2
            go_ret
            exact ⟨ret_int HK.out.symm, HZ.out⟩
      · have HK : Hid (perr g p = 4) := by unfold perr; rw [if_pos he, r1, Bool.eq_false_iff.2 r2]; rfl
        rw [Bool.eq_false_iff.2 r2]
        go_wp2
        go_ret
        exact ⟨ret_int HK.out.symm, trans2 HM2.out HD4.out⟩
    · have HK : Hid (perr g p = 4) := by unfold perr; rw [if_pos he, Bool.eq_false_iff.2 r1]; rfl
      rw [Bool.eq_false_iff.2 r1]
      go_wp2
      go_ret
      exact ⟨ret_int HK.out.symm, trans2 HM2.out HD3.out⟩
  · have HK : Hid (perr g p = g.err) := if_neg he
    have he' : (g.err != 0) = true := by simpa using he
    generalize g.err = ge at *
    go_wp2
    go_ret
    exact ⟨ret_int HK.out.symm, HM2.out⟩

end Go.Proofs.YtmbpmepoaonleaaGreat
