/-
  The document's examples, as the law's awake asks them.
-/
import Derived.Test.YtjnohnbppkhbaaaWkE
namespace Go.Proofs.Ytjnohnbppkhbaaa
open Go.RowKit Go.Maps

variable {g : Gph} {p : Prt}
theorem PathAns.yes {a b : Int} {w w' : World} {e : Ending} (h : PathAns g p a b w e w') (hp : perr g p = 0 ∧ b ∈ p.v ∧ Reach (Nbr g p) b a) : ∃ u l, e = .returned (.tuple #[u, .bool true]) ∧ Row w' w.heap.size u l ∧ Way g p b a l ∧ Below w.heap.size w w' := by
  unfold PathAns at h
  rw [if_pos hp] at h
  exact h
theorem PathAns.no {a b : Int} {w w' : World} {e : Ending} (h : PathAns g p a b w e w') (hn : ¬ (perr g p = 0 ∧ b ∈ p.v ∧ Reach (Nbr g p) b a)) : e = .returned (.tuple #[.slice none 0 0, .bool false]) ∧ Below w.heap.size w w' := by
  unfold PathAns at h
  rw [if_neg hn] at h
  exact h

def g3 : Gph := ⟨3, [⟨0, 1⟩, ⟨1, 2⟩]⟩
def p3 : Prt := ⟨[0, 1, 2], [0, 1]⟩
theorem p3_ok : perr g3 p3 = 0 := by decide +kernel
theorem nbr3 {x y : Int} (h : Nbr g3 p3 x y) : (x = 0 ∧ y = 1) ∨ (x = 1 ∧ y = 0) ∨ (x = 1 ∧ y = 2) ∨ (x = 2 ∧ y = 1) := by
  obtain ⟨e, he, hj⟩ := h
  have he' : e ∈ ([0, 1] : List Int) := he
  simp only [List.mem_cons, List.not_mem_nil, or_false] at he'
  rcases he' with rfl | rfl
  · rcases hj with ⟨h1, h2⟩ | ⟨h1, h2⟩
    · have h1' : (0 : Int) = x := h1
      have h2' : (1 : Int) = y := h2
      omega
    · have h1' : (1 : Int) = x := h1
      have h2' : (0 : Int) = y := h2
      omega
  · rcases hj with ⟨h1, h2⟩ | ⟨h1, h2⟩
    · have h1' : (1 : Int) = x := h1
      have h2' : (2 : Int) = y := h2
      omega
    · have h1' : (2 : Int) = x := h1
      have h2' : (1 : Int) = y := h2
      omega
theorem nbr01 : Nbr g3 p3 0 1 := ⟨0, by decide, .inl ⟨rfl, rfl⟩⟩
theorem nbr12 : Nbr g3 p3 1 2 := ⟨1, by decide, .inl ⟨rfl, rfl⟩⟩
theorem reach3 : Reach (Nbr g3 p3) 0 2 := ((Reach.refl _ 0).step nbr01).step nbr12
theorem way3 {l : List Int} (h : Way g3 p3 0 2 l) : l = [3, 1] := by
  match l, h with
  | [], h => exact absurd (show (2 : Int) = 0 from h) (by decide)
  | d :: t, ⟨s, hs, hd, _, hdist, _, hw⟩ =>
    have e1 : stepL g3 2 p3.e = [⟨3, 1⟩] := by rfl
    rw [e1, List.mem_singleton] at hs
    subst hs
    subst hd
    match t, hdist, hw with
    | [], _, hw => exact absurd (show (1 : Int) = 0 from hw) (by decide)
    | d' :: t', hdist, ⟨s, hs, hd, hds, _, _, hw⟩ =>
      have e2 : stepL g3 1 p3.e = [⟨1, 0⟩, ⟨2, 2⟩] := by rfl
      rw [e2] at hs
      simp only [List.mem_cons, List.not_mem_nil, or_false] at hs
      rcases hs with rfl | rfl
      · subst hd
        match t', hw with
        | [], _ => rfl
        | _ :: t2, hw =>
          have := hw.dist.uniq (Dist.zero _ 0)
          simp at this
      · have := hds.uniq hdist
        simp at this
        omega

theorem bey3 : BeyOk g3 p3 1 2 := ⟨p3_ok, by decide +kernel, by decide +kernel, by decide +kernel⟩
theorem bey3_no (x : Int) (h : Reach (StepBut g3 p3 1) 2 x) : x = 2 ∨ x = 1 :=
  h.ins (P := fun x => x = 2 ∨ x = 1) (fun x y hx hr => by
    rcases hx with rfl | rfl
    · have := nbr3 hr.2
      omega
    · exact absurd rfl hr.1) (.inl rfl)
open Classical in
theorem beyV3 : beyV g3 p3 1 2 = [1, 2] := by
  have h0 : beyB g3 p3 1 2 0 = false := by
    cases hb : beyB g3 p3 1 2 0
    · rfl
    · unfold beyB at hb
      have hb1 := of_decide_eq_true hb
      have := bey3_no 0 hb1.1
      omega
  have h2 : beyB g3 p3 1 2 2 = true := by
    unfold beyB
    exact decide_eq_true ⟨Reach.refl _ 2, by decide⟩
  show ([0, 1, 2] : List Int).filter (fun x => decide (x = 1) || beyB g3 p3 1 2 x) = [1, 2]
  simp only [List.filter_cons, List.filter_nil, h0, h2]
  decide

theorem g3_new (w : World) : Edges (w.alloc (.cells #[.int .i64 0, .int .i64 1, .int .i64 1, .int .i64 2] 51)) (.slice (some ⟨w.heap.size, 0, none⟩) 2 2) g3.e := by
  refine ⟨_, _, rfl, by decide, by unfold maxLen; omega, fun _ => ⟨w.heap.size, 0, rfl, by simp, fun j hj => ?_⟩⟩
  have hc : ∀ i, (w.alloc (.cells #[.int .i64 0, .int .i64 1, .int .i64 1, .int .i64 2] 51)).cell? ⟨w.heap.size, i, none⟩ = (#[.int .i64 0, .int .i64 1, .int .i64 1, .int .i64 2] : Array Value)[i]? := fun i => cell_of_row _ _ i _ _ (0, 0) (heap_alloc_new w _)
  have hj' : j < 2 := hj
  rcases (show j = 0 ∨ j = 1 by omega) with rfl | rfl
  · exact ⟨hc _, hc _⟩
  · exact ⟨hc _, hc _⟩

theorem lit_ints (w : World) (xs : List Int) (h : xs.length ≤ 1000000) :
    Ints (w.alloc (.cells (xs.map (Value.int .i64)).toArray 3)) (.slice (some ⟨w.heap.size, 0, none⟩) xs.length xs.length) xs := by
  refine ⟨_, _, rfl, Nat.le_refl _, by unfold maxLen; omega, fun h0 => ⟨w.heap.size, 0, rfl, by simp, fun j hj => ?_⟩⟩
  refine cell_of_row _ _ _ (xs.map (Value.int .i64)).toArray 3 (0, 0) (heap_alloc_new w _) |>.trans ?_
  rw [Nat.zero_add, getI_of xs j hj]
  simp [hj]
theorem lit2 (w : World) (a b : Int) : Ints (w.alloc (.cells #[.int .i64 a, .int .i64 b] 3)) (.slice (some ⟨w.heap.size, 0, none⟩) 2 2) [a, b] := lit_ints w [a, b] (by simp)

set_option maxRecDepth 100000 in
set_option maxHeartbeats 4000000 in
theorem wawake_any (w : World) :
    Calls Try.prog 7 #[] w fun e w' => e = .returned (.bool true) ∧ Below w.heap.size w w' := by
  have he := g3_new w
  obtain ⟨b1, hm1⟩ := one_box (w.alloc (.cells #[.int .i64 0, .int .i64 1, .int .i64 1, .int .i64 2] 51)) (.int .i64 3) (.slice (some ⟨w.heap.size, 0, none⟩) 2 2) 24
  have hsz : (w.alloc (.cells #[.int .i64 0, .int .i64 1, .int .i64 1, .int .i64 2] 51)).heap.size = w.heap.size + 1 := by simp
  rw [hsz] at b1
  have B1 := Lib.hid b1
  have HM := Lib.hid (trans2 (below_alloc (w := w) (.cells #[.int .i64 0, .int .i64 1, .int .i64 1, .int .i64 2] 51)) hm1)
  have HG := Lib.hid (show Gr ((w.alloc (.cells #[.int .i64 0, .int .i64 1, .int .i64 1, .int .i64 2] 51)).alloc (.cells #[.int .i64 3, .slice (some ⟨w.heap.size, 0, none⟩) 2 2] 24)) (.agg #[.int .i64 3, .slice (some ⟨w.heap.size, 0, none⟩) 2 2]) g3 from ⟨_, rfl, he.below hm1⟩)
  clear he b1 hm1 hsz
  go_enter Try.func7, Try.ntmps7
  have c0 := B1.out.c0
  have c1 := B1.out.c1
  go_wp2_with fail
  generalize (w.alloc (.cells #[.int .i64 0, .int .i64 1, .int .i64 1, .int .i64 2] 51)).alloc (.cells #[.int .i64 3, .slice (some ⟨w.heap.size, 0, none⟩) 2 2] 24) = w1 at *
  refine (rwhole_any _ g3 3 w1 HG.out rfl (by decide) (by decide)).mono ?_
  rintro e w2 ⟨u, rfl, hb, hP⟩
  have e3 : (⟨countTo 3, countTo g3.e.length⟩ : Prt) = p3 := by
    show Prt.mk (countTo 3) (countTo 2) = ⟨[0, 1, 2], [0, 1]⟩
    rw [show countTo 3 = [0, 1, 2] by decide, show countTo 2 = [0, 1] by decide]
  rw [e3] at hP
  obtain ⟨uv, ue, rfl, i1, i2⟩ := (show Pt w2 u p3 from hP)
  obtain ⟨A1, k1, rfl⟩ := ints_form i1
  obtain ⟨A2, k2, rfl⟩ := ints_form i2
  obtain ⟨b2, hm2⟩ := one_box w2 (.slice A1 p3.v.length k1) (.slice A2 p3.e.length k2) 27
  have HG2 := Lib.hid ((HG.out.below hb).below hm2)
  have HP2 := Lib.hid (hP.below hm2)
  have B2 := Lib.hid ((B1.out.below hb).below hm2)
  have B3 := Lib.hid b2
  have HM2 := Lib.hid (trans2 HM.out (trans2 hb hm2))
  clear c0 c1 hb i1 i2 hP b2 hm2 e3 HG B1
  have c0 := B2.out.c0
  have c1 := B2.out.c1
  have d0 := B3.out.c0
  have d1 := B3.out.c1
  have HPA := Lib.hid (path_any _ _ g3 p3 2 0 _ HG2.out HP2.out (by decide) (by decide) (by decide) (by decide +kernel))
  go_wp2_with fail
  refine HPA.out.mono ?_
  rintro e w3 hpa
  obtain ⟨v, l, rfl, hr, hw, hb⟩ := hpa.yes ⟨p3_ok, by decide, reach3⟩
  obtain rfl := way3 hw
  have HL := Lib.hid hr.ints
  have HG3 := Lib.hid (HG2.out.below hb)
  have HP3 := Lib.hid (HP2.out.below hb)
  have HM3 := Lib.hid (trans2 HM2.out hb)
  have c0' := (B2.out.below hb).c0
  have c1' := (B2.out.below hb).c1
  have d0' := (B3.out.below hb).c0
  have d1' := (B3.out.below hb).c1
  obtain ⟨A3, k3, rfl⟩ := ints_form hr.ints
  have HBY := Lib.hid (beyond_any _ _ g3 p3 1 2 w3 HG3.out HP3.out (by decide) (by decide) (by decide))
  clear hpa hr hw hb c0 c1 d0 d1 HPA
  go_wp2_with fail
  refine HBY.out.mono ?_
  rintro e w4 hba
  obtain ⟨v1, v2, rfl, hr1, hr2, hb⟩ := hba.yes bey3
  rw [beyV3] at hr1
  obtain ⟨A4, k4, rfl⟩ := ints_form hr1.ints
  obtain ⟨A5, k5, rfl⟩ := ints_form hr2.ints
  obtain ⟨b5, hm5⟩ := one_box w4 (.slice A4 ([1, 2] : List Int).length k4) (.slice A5 (beyE g3 p3 1 2).length k5) 27
  have B5 := Lib.hid b5
  have HL5 := Lib.hid ((HL.out.below hb).below hm5)
  have HR5 := Lib.hid (hr1.ints.below hm5)
  have HM5 := Lib.hid (trans2 HM3.out (trans2 hb hm5))
  clear hba hr1 hr2 hb b5 hm5 c0' c1' d0' d1' HBY
  have f0 := B5.out.c0
  generalize (beyE g3 p3 1 2).length = ne at *
  have hbl := fun (W : World) => below_alloc (w := W) (.cells #[.int .i64 3, .int .i64 1] 3)
  go_wp2_with fail
  have hl3 := lit2 (w4.alloc (.cells #[.slice A4 2 k4, .slice A5 ne k5] 27)) 3 1
  have hz5 : (w4.alloc (.cells #[.slice A4 2 k4, .slice A5 ne k5] 27)).heap.size = w4.heap.size + 1 := by simp
  rw [hz5] at hl3
  have hb6 := below_alloc (w := w4.alloc (.cells #[.slice A4 2 k4, .slice A5 ne k5] 27)) (.cells #[.int .i64 3, .int .i64 1] 3)
  refine (requal_any _ [3, 1] _ [3, 1] _ ((show Ints _ (.slice A3 2 k3) [3, 1] from HL5.out).below hb6) hl3 (by decide)).mono ?_
  rintro e w6 ⟨rfl, q, rfl⟩
  have hb7 := hb6.trans ((below_drewN' _ q).mono hb6.size)
  have HR7 := Lib.hid ((show Ints _ (.slice A4 2 k4) [1, 2] from HR5.out).below hb7)
  have HM7 := Lib.hid (trans2 HM5.out hb7)
  have f0' := (B5.out.below hb7).c0
  clear hl3 hz5 hb6 hb7 f0 hbl
  generalize ((w4.alloc (.cells #[.slice A4 2 k4, .slice A5 ne k5] 27)).alloc (.cells #[.int .i64 3, .int .i64 1] 3)).drewN q = w7 at *
  rw [show decide (([3, 1] : List Int) = [3, 1]) = true from rfl]
  go_wp2_with fail
  have hl4 := lit2 w7 1 2
  have hb8 := below_alloc (w := w7) (.cells #[.int .i64 1, .int .i64 2] 3)
  refine (requal_any _ [1, 2] _ [1, 2] _ (HR7.out.below hb8) hl4 (by decide)).mono ?_
  rintro e w8 ⟨rfl, q2, rfl⟩
  have HM8 := Lib.hid (trans2 HM7.out (hb8.trans ((below_drewN' _ q2).mono hb8.size)))
  rw [show decide (([1, 2] : List Int) = [1, 2]) = true from rfl]
  clear hl4 hb8
  go_wp2
  go_ret
  exact ⟨rfl, HM8.out⟩
end Go.Proofs.Ytjnohnbppkhbaaa
