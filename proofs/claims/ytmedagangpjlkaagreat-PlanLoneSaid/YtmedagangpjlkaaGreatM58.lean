/-
  PlV, in one text.
-/
import Derived.Test.YtmedagangpjlkaaGreatM57
import Derived.Test.YtmedagangpjlkaaGreatM17
import Derived.Test.YtmedagangpjlkaaGreatM20
/-! The program's Lone: the drawing of one piece's turns. -/
namespace Go.Proofs.YtmedagangpjlkaaGreat.Pl
open Go.Proofs.YtmedagangpjlkaaGreat Go.Proofs.YtmedagangpjlkaaGreat.Fc Go.Proofs.YtmedagangpjlkaaGreat.Rt Go.RowKit Go.Maps

variable {g : Gph} {p : Prt} {T S : List (List Int)} {w w' : World}
/-- The error of turns that are to be a drawing of one piece. -/
def loneE (g : Gph) (p : Prt) (T : List (List Int)) : Int := if sphE g p T = 0 then (if joinedB g p = true then 0 else 10) else sphE g p T

theorem lone_perr (h : loneE g p T = 0) : PErr g p (T.map fst) [] 0 := by
  have hs : sphE g p T = 0 := by
    unfold loneE at h
    split at h
    · assumption
    · exact h
  have hj : joinedB g p = true := by
    unfold loneE at h
    rw [if_pos hs] at h
    split at h
    · assumption
    · cases h
  obtain ⟨hT, hz⟩ := sphE_iff.1 hs
  have hF := pcs_facts hT.right
  have hone : (pcs g p).length ≤ 1 := of_decide_eq_true (hF.one ▸ hj)
  refine .inr (.inr ⟨sphE_iff.2 ⟨hT.alike (alike_fst T), ?_⟩, ⟨⟨fun l hl => absurd hl List.not_mem_nil, List.Pairwise.nil, fun l hl => absurd hl List.not_mem_nil, fun l hl => absurd hl List.not_mem_nil, List.nodup_nil⟩, fun i hi _ => absurd hi (Nat.not_lt_zero _), fun i j hi hj => ?_⟩, rfl⟩)
  · unfold genL at hz ⊢
    rw [walks_alike hT]
    exact hz
  · obtain rfl : i = j := by omega
    exact Conn.refl _ _

set_option maxRecDepth 100000 in
set_option maxHeartbeats 4000000 in
theorem lone_any (v u x : Value) (w : World) (h : Gr w v g) (h' : Pt w u p) (hT : LL w x T) (hl : g.e.length ≤ 100000) (hp1 : p.v.length ≤ 1000) (hp2 : p.e.length ≤ 1000) (hlT : T.length ≤ 1000) (hr : ∀ j, (getT T j).length ≤ 500) (hw : ∀ j, ∀ x ∈ getT T j, (Lit.int .i64 x).wf = true) :
    Calls Tryz.prog 26 #[v, u, x] w fun e w' => Below w.heap.size w w' ∧ ((loneE g p T ≠ 0 ∧ e = .returned (.tuple #[.agg #[.slice none 0 0, .slice none 0 0], .int .i64 (loneE g p T)])) ∨ (loneE g p T = 0 ∧ ∃ r, e = .returned (.tuple #[r, .int .i64 0]) ∧ MadeP w' w.heap.size r (T.map fst) [])) := by
  have HG := Lib.hid h
  have HP := Lib.hid h'
  have HL := Lib.hid hT
  obtain ⟨ve, rfl, h1⟩ := h
  obtain ⟨vv, vp, rfl, h2, h3⟩ := h'
  obtain ⟨Ae, ce, rfl⟩ := h1.form
  obtain ⟨Av, cv, rfl⟩ := ints_form h2
  obtain ⟨Ap, cp, rfl⟩ := ints_form h3
  obtain ⟨AT, cT, rfl, _, _⟩ := hT.form
  obtain ⟨b1, b2, b3, hm⟩ := three_boxes w (.int .i64 g.n) (.slice Ae g.e.length ce) (.slice Av p.v.length cv) (.slice Ap p.e.length cp) (.slice none 0 0) (.slice none 0 0) 24 27 30
  have HB1 := Lib.hid b1
  have HB2 := Lib.hid b2
  have HB3 := Lib.hid b3
  have HM := Lib.hid hm
  have HG1 := Lib.hid (HG.out.below hm)
  have HP1 := Lib.hid (HP.out.below hm)
  have HL1 := Lib.hid (HL.out.below hm)
  have HS := Lib.hid (onSpheres_any _ _ _ _ (HG.out.below hm) (HP.out.below hm) (HL.out.below hm) hl hp1 hp2 hlT hr hw)
  have c0 := b1.c0
  have c1 := b1.c1
  have d0 := b2.c0
  have d1 := b2.c1
  clear b1 b2 b3 hm h1 h2 h3 hT HG HP HL
  go_enter Tryz.func26, Tryz.ntmps26
  go_wp2_with fail
  have hsz : (((w.alloc (.cells #[.int .i64 g.n, .slice Ae g.e.length ce] 24)).alloc (.cells #[.slice Av p.v.length cv, .slice Ap p.e.length cp] 27)).alloc (.cells #[.slice none 0 0, .slice none 0 0] 30)).heap.size = w.heap.size + 3 := by simp
  generalize ((w.alloc (.cells #[.int .i64 g.n, .slice Ae g.e.length ce] 24)).alloc (.cells #[.slice Av p.v.length cv, .slice Ap p.e.length cp] 27)).alloc (.cells #[.slice none 0 0, .slice none 0 0] 30) = w1 at *
  have HSZ := Lib.hid hsz
  clear hsz
  refine HS.out.mono ?_
  clear HS c0 c1 d0 d1
  rintro e w2 ⟨rfl, hB2⟩
  have HBB := Lib.hid hB2
  have HZ := Lib.hid (HB3.out.below hB2)
  have HZB := Lib.hid (trans2 HM.out hB2)
  clear hB2
  by_cases hs : sphE g p T = 0
  case neg =>
    have HE := Lib.hid (show loneE g p T = sphE g p T from if_neg hs)
    have t0 : (sphE g p T != 0) = true := by simpa using hs
    have HNE := Lib.hid hs
    clear hs
    generalize sphE g p T = se at *
    have z0 := HZ.out.c0
    have z1 := HZ.out.c1
    have z2 := HZ.out.thaw 0
    have z3 := HZ.out.thaw 1
    have HZ3 := Lib.hid (HZ.out.stored (.slice none 0 0) (.slice none 0 0))
    have HZC := Lib.hid (below_stored (b := w.heap.size + 2) (u' := .slice none 0 0) (v' := .slice none 0 0) HZB.out (Nat.le_add_right _ 2))
    go_wp2
    refine bodyPost_ret (v := .tuple #[.agg #[.slice none 0 0, .slice none 0 0], .int .i64 se]) ?_ rfl ⟨HZC.out, .inl ⟨by rw [HE.out]; exact HNE.out, by rw [HE.out]⟩⟩
    simp [results, Tryz.results26, go_sem, HZ3.out.c0, HZ3.out.c1]
  have HE := Lib.hid (show loneE g p T = if joinedB g p = true then 0 else 10 from if_pos hs)
  rw [hs]
  clear hs
  have HQ1 := HB1.out.below HBB.out
  have HQ2 := HB2.out.below HBB.out
  have c0 := HQ1.c0
  have c1 := HQ1.c1
  have d0 := HQ2.c0
  have d1 := HQ2.c1
  have HJ := Lib.hid (joined_any _ _ g p w2 (HG1.out.below HBB.out) (HP1.out.below HBB.out) hl (by omega) (by omega))
  clear HQ1 HQ2
  go_wp2_with fail
  refine HJ.out.mono ?_
  clear HJ c0 c1 d0 d1
  rintro e w3 ⟨rfl, hB3⟩
  have HBB3 := Lib.hid (trans2 HBB.out hB3)
  have HZ' := Lib.hid (HZ.out.below hB3)
  have HZB' := Lib.hid (trans2 HZB.out hB3)
  clear hB3 HZ HZB
  cases hj : joinedB g p
  · have z0 := HZ'.out.c0
    have z1 := HZ'.out.c1
    have z2 := HZ'.out.thaw 0
    have z3 := HZ'.out.thaw 1
    have HZ3 := Lib.hid (HZ'.out.stored (.slice none 0 0) (.slice none 0 0))
    have HZC := Lib.hid (below_stored (b := w.heap.size + 2) (u' := .slice none 0 0) (v' := .slice none 0 0) HZB'.out (Nat.le_add_right _ 2))
    have HE2 := Lib.hid (show loneE g p T = 10 by rw [HE.out, hj]; rfl)
    clear hj
    go_wp2
    refine bodyPost_ret (v := .tuple #[.agg #[.slice none 0 0, .slice none 0 0], .int .i64 10]) ?_ rfl ⟨HZC.out, .inl ⟨by rw [HE2.out]; decide, by rw [HE2.out]⟩⟩
    simp [results, Tryz.results26, go_sem, HZ3.out.c0, HZ3.out.c1]
  · have HE2 := Lib.hid (show loneE g p T = 0 by rw [HE.out, hj]; rfl)
    have HCL := Lib.hid (clean_any _ T [] w3 (show Pn w3 (.agg #[.slice AT T.length cT, .slice none 0 0]) T [] from ⟨_, _, rfl, HL1.out.below HBB3.out, LL.nil⟩) (by omega) (fun j => Nat.le_trans (hr j) (by decide)) (by decide) (fun j => by rw [getT_out _ _ (by simp)]; decide))
    clear hj
    go_wp2_with fail
    refine HCL.out.mono ?_
    clear HCL
    rintro e w4 ⟨r, rfl, ⟨a, b, us, ts, rfl, hMa, hMb⟩, hB4⟩
    obtain ⟨Aa, ca, rfl⟩ := hMa.shape
    obtain ⟨Ab, cb, rfl⟩ := hMb.shape
    have HZ4 := Lib.hid (HZ'.out.below hB4)
    have z0 := HZ4.out.c0
    have z1 := HZ4.out.c1
    have z2 := HZ4.out.thaw 0
    have z3 := HZ4.out.thaw 1
    have hlm : (T.map fst).length = T.length := List.length_map _
    rw [hlm] at hMa ⊢
    have hlt : w.heap.size + 2 < w3.heap.size := by have := HBB3.out.size; rw [HSZ.out] at this; omega
    have hle : w.heap.size ≤ w3.heap.size := by omega
    have HZ3 := Lib.hid (HZ4.out.stored (.slice Aa T.length ca) (.slice Ab 0 cb))
    have HZC := Lib.hid (below_stored (b := w.heap.size + 2) (u' := .slice Aa T.length ca) (v' := .slice Ab 0 cb) (trans2 HZB'.out hB4) (Nat.le_add_right _ 2))
    have HM1 := Lib.hid (Made.le (Made.set (Made.set hMa hlt 0 (.slice Aa T.length ca)) hlt 1 (.slice Ab 0 cb)) hle)
    have HM2 := Lib.hid (Made.le (Made.set (Made.set hMb hlt 0 (.slice Aa T.length ca)) hlt 1 (.slice Ab 0 cb)) hle)
    clear hMa hMb hB4 hlt hle hlm
    go_wp2
    refine bodyPost_ret (v := .tuple #[.agg #[.slice Aa T.length ca, .slice Ab 0 cb], .int .i64 0]) ?_ rfl ⟨HZC.out, .inr ⟨HE2.out, _, rfl, _, _, _, _, rfl, HM1.out, HM2.out⟩⟩
    simp [results, Tryz.results26, go_sem, HZ3.out.c0, HZ3.out.c1]
end Go.Proofs.YtmedagangpjlkaaGreat.Pl
