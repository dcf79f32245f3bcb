/-
  Darts: the program's and the document's.
-/
import Derived.Test.YtpcjdkldonikfaaGrG
namespace Go.Proofs.Ytpcjdkldonikfaa
open Go.RowKit

/-- append(l, x): the list has one number more. -/
theorem wpList_append1 {wr : World} {ops : Array Oper} {rest : List Oper} {o : Oper} {a : Act} {Q : Exit → Act → World → Prop} (hgd : o.guard = none) (s x : Operand)
    (ho : o.op = .call { callee := .builtin .append, args := #[s, x], argTypes := #[27, 27] })
    {base : Nat} {v : Value} {L : List Int} {z : Int} (hs : a.eval s = v) (hx : a.eval x = .slice (some ⟨wr.heap.size, 0, none⟩) 1 1) (hown : Row wr base v L) (hbase : base ≤ wr.heap.size) (hL : L.length ≤ 4000000)
    (h : ∀ v' w', Row w' base v' (L ++ [z]) → Below base wr w' → wpList Try.prog ops Q rest (a.put o.dst v') w') : wpList Try.prog ops Q (o :: rest) a (wr.alloc (.cells #[.int .i64 z] 3)) := by
  obtain ⟨i0, hi, hz0, hz1, hz2⟩ := info_parts Try.infoInt
  refine wpList_append_own _ hgd s x 27 ho base 3 i0 _ 1 8 Try.underlying27 hi hz0 hz1 hz2 rfl (by decide) v L.length (L.map (Value.int .i64)) hs (World.ownsRow.alloc hown _) ⟨wr.heap.size, 0, none⟩ 1 1 [.int .i64 z] hx rfl (cell_one_new _ _ _) (by simp [Value.oneCell']) (by unfold maxLen; omega) (by omega) (by simp; omega) ?_
  intro v' w1 h1 h2 _
  refine h v' w1 ?_ (((Below.refl base wr).alloc hbase _).grown h2 (by simp; omega) (fun k hk => (World.ownsRow.lt hown k hk).1))
  show w1.ownsRow _ _ _ _ _ _
  rw [List.length_append, List.map_append]
  exact h1

/-- The darts of an edge that leave v. -/
def dOf (g : Gph) (v : Int) (e : Int) : List Int := (if (getE g.e e.toNat).a = v then [2 * e] else []) ++ (if (getE g.e e.toNat).b = v then [2 * e + 1] else [])
def dartsL (g : Gph) (v : Int) (l : List Int) : List Int := l.flatMap (dOf g v)
def dartsOf (g : Gph) (p : Prt) (v : Int) : List Int := if perr g p = 0 then dartsL g v p.e else []

theorem dartsL_succ (g : Gph) (v : Int) (l : List Int) (k : Nat) (h : k < l.length) : dartsL g v (l.take (k + 1)) = dartsL g v (l.take k) ++ dOf g v (getI l k) := by
  rw [take_succ_getI l k h]
  simp [dartsL]
theorem dOf_len (g : Gph) (v e : Int) : (dOf g v e).length ≤ 2 := by unfold dOf; split <;> split <;> simp
theorem dartsL_len (g : Gph) (v : Int) : ∀ l, (dartsL g v l).length ≤ 2 * l.length
  | [] => Nat.le_refl _
  | e :: l => by
    have h1 := dartsL_len g v l
    have h2 := dOf_len g v e
    simp only [dartsL, List.flatMap_cons, List.length_append, List.length_cons] at h1 ⊢
    omega

theorem perr_rises {g : Gph} {p : Prt} (h : perr g p = 0) : g.err = 0 ∧ Rises p.v g.n ∧ Rises p.e g.e.length ∧ ∀ e ∈ p.e, (getE g.e e.toNat).a ∈ p.v ∧ (getE g.e e.toNat).b ∈ p.v := by
  unfold perr at h
  split at h
  · rename_i he
    split at h
    · rename_i hr
      rw [Bool.and_eq_true] at hr
      split at h
      · rename_i ha
        rw [List.all_eq_true] at ha
        refine ⟨he, of_decide_eq_true hr.1, of_decide_eq_true hr.2, fun e he' => ?_⟩
        have := ha e he'
        unfold endsIn at this
        rw [Bool.and_eq_true] at this
        exact ⟨of_decide_eq_true this.1, of_decide_eq_true this.2⟩
      · omega
    · omega
  · rename_i he; exact absurd h he

theorem edges_block {w : World} {l : List Ed} {b off n c : Nat} (h : Edges w (.slice (some ⟨b, off, none⟩) n c) l) {j : Nat} (hj : j < l.length) : b < w.heap.size := by
  obtain ⟨b', off', e, hb, _⟩ := edges_at h hj
  cases e; exact hb
theorem edges_snd {w : World} {l : List Ed} {b off n c : Nat} (h : Edges w (.slice (some ⟨b, off, none⟩) n c) l) {j : Nat} (hj : j < l.length) : w.cell? ⟨b, off + j * 2 + 1, none⟩ = some (.int .i64 (getE l j).b) := by
  obtain ⟨b', off', e, _, _, h2⟩ := edges_at h hj
  cases e; exact h2
theorem edges_fst {w : World} {l : List Ed} {b off n c : Nat} (h : Edges w (.slice (some ⟨b, off, none⟩) n c) l) {j : Nat} (hj : j < l.length) : w.cell? ⟨b, off + j * 2, none⟩ = some (.int .i64 (getE l j).a) := by
  obtain ⟨b', off', e, _, h1, _⟩ := edges_at h hj
  cases e; exact h1

set_option maxRecDepth 100000 in
set_option maxHeartbeats 2000000 in
theorem darts_any (v u : Value) (g : Gph) (p : Prt) (x : Int) (w : World) (h : Gr w v g) (h' : Pt w u p) (hl : g.e.length ≤ 1000000) (hp1 : p.v.length ≤ 1000000) (hp2 : p.e.length ≤ 1000000) :
    Calls Try.prog 14 #[v, u, .int .i64 x] w fun e w' => ∃ u, e = .returned u ∧ Below w.heap.size w w' ∧ (spRow w.heap.size (dartsOf g p x)).p w' u := by
  have HG := Lib.hid h
  have HP := Lib.hid h'
  obtain ⟨ve, rfl, h1⟩ := h
  obtain ⟨vv, vp, rfl, h2, h3⟩ := h'
  obtain ⟨Ae, ce, rfl⟩ := h1.form
  obtain ⟨Av, cv, rfl⟩ := ints_form h2
  obtain ⟨Ap, cp, rfl⟩ := ints_form h3
  obtain ⟨b1, b2, hm⟩ := two_boxes w (.int .i64 g.n) (.slice Ae g.e.length ce) (.slice Av p.v.length cv) (.slice Ap p.e.length cp) 24 29
  have HG1 := Lib.hid (HG.out.below hm)
  have HP1 := Lib.hid (HP.out.below hm)
  have HE := Lib.hid (h1.below hm)
  have HI := Lib.hid (h3.below hm)
  have HB1 := Lib.hid b1
  have HB2 := Lib.hid b2
  have HM := Lib.hid hm
  clear b1 b2 hm h1 h2 h3 HG HP
  go_enter Try.func14, Try.ntmps14
  go_wp2_with fail
  generalize (w.alloc (.cells #[.int .i64 g.n, .slice Ae g.e.length ce] 24)).alloc (.cells #[.slice Av p.v.length cv, .slice Ap p.e.length cp] 29) = w1 at *
  refine (rightPart_any _ _ g p _ HG1.out HP1.out hl hp1 hp2).mono ?_
  rintro e w2 ⟨rfl, hB2⟩
  have HM2 := Lib.hid (trans2 HM.out hB2)
  have HE2 := Lib.hid (HE.out.below hB2)
  have HI2 := Lib.hid (HI.out.below hB2)
  have HX1 := Lib.hid (HB1.out.below hB2)
  have HX2 := Lib.hid (HB2.out.below hB2)
  clear HB1 HB2 HE HI HG1 HP1 hB2 HM
  by_cases he : perr g p = 0
  · have HN := Lib.hid (show dartsOf g p x = dartsL g x p.e from if_pos he)
    have HR := Lib.hid (perr_rises he).2.2.1
    rw [he]
    clear he
    have c20 := HX2.out.c0
    have c21 := HX2.out.c1
    go_wp2
    clear c20 c21
    go_loopw [7, 17] (fun o i wr => ∃ k : Nat, k ≤ p.e.length ∧ i = .int .i64 k ∧ Hid (Row wr w2.heap.size o (dartsL g x (p.e.take k))) ∧ Hid (Below w2.heap.size w2 wr)) (fun _ i _ => p.e.length - (intOf i).toNat)
    case atStart => exact ⟨0, Nat.zero_le _, rfl, Lib.hid (Row.nil _ _), Lib.hid (Below.refl _ _)⟩
    case round =>
      obtain ⟨k, hk, rfl, hO, hB⟩ := hrel
      rename_i wr
      by_cases hlt : k < p.e.length
      · obtain ⟨bp, op, rfl, hbp, hck⟩ := ints_at (HI2.out.below hB.out) hlt
        obtain ⟨x0, x1, _⟩ := HR.out k hlt
        obtain ⟨i, hi⟩ : ∃ i : Nat, getI p.e k = (i : Int) := ⟨(getI p.e k).toNat, by omega⟩
        have hil : i < g.e.length := by omega
        obtain ⟨be, oe, rfl, hbe, hca, hcb⟩ := edges_at (HE2.out.below hB.out) hil
        have X1 := HX1.out.below hB.out
        have c11 := X1.c1
        have HS := Lib.hid (dartsL_succ g x p.e k hlt)
        have HD := Lib.hid (show dOf g x (getI p.e k) = (if (getE g.e i).a = x then [2 * (i : Int)] else []) ++ (if (getE g.e i).b = x then [2 * (i : Int) + 1] else []) by rw [hi]; rfl)
        have HL := Lib.hid (show (dartsL g x (p.e.take k)).length ≤ 2000000 by have := dartsL_len g x (p.e.take k); simp at this; omega)
        have HW := Lib.hid hB.out.size
        have HBX := Lib.hid X1
        have HCA := Lib.hid (edges_snd HE2.out hil)
        have HBE := Lib.hid (show be < w2.heap.size from edges_block HE2.out hil)
        have hil' : (i : Int) < (g.e.length : Int) := by omega
        have hil0 : (0 : Int) ≤ (i : Int) := by omega
        rw [hi] at hck
        clear X1 hi x0 x1 hbp hbe
        have HBO := Lib.hid hB.out
        generalize (getE g.e i).a = xa at *
        generalize (getE g.e i).b = xb at *
        clear hB
        by_cases ha : xa = x
        · rw [if_pos ha] at HD
          have ha' : (xa == x) = true := by simpa using ha
          clear ha hcb
          go_wp2_with (at_builtin; refine wpList_append1 rfl _ _ rfl rfl rfl hO.out HW.out (by have := HL.out; omega) ?_)
          intro v1 w3 hO3 hB3
          have HO3 := Lib.hid hO3
          have HB3 := Lib.hid (HBO.out.trans hB3)
          have c11' := (HX1.out.below HB3.out).c1
          have hcb' := (HB3.out.cell (p := ⟨be, oe + i * 2 + 1, none⟩) HBE.out).trans HCA.out
          clear hO3 hB3
          by_cases hb : xb = x
          · rw [if_pos hb] at HD
            have hb' : (xb == x) = true := by simpa using hb
            clear hb
            go_wp2_with (at_builtin; refine wpList_append1 rfl _ _ rfl rfl rfl HO3.out HB3.out.size (by have := HL.out; rw [List.length_append]; simp; omega) ?_)
            intro v2 w4 hO4 hB4
            have HO4 := Lib.hid hO4
            have HB4 := Lib.hid (HB3.out.trans hB4)
            clear hO4 hB4
            go_wp2
            go_roundw
            case rel => exact ⟨k + 1, by omega, by go_num, Lib.hid (by rw [HS.out, HD.out]; simpa using HO4.out), HB4⟩
            case measure => simp [intOf]; omega
          · rw [if_neg hb] at HD
            have hb' : (xb == x) = false := by simpa using hb
            clear hb
            go_wp2
            go_roundw
            case rel => exact ⟨k + 1, by omega, by go_num, Lib.hid (by rw [HS.out, HD.out]; simpa using HO3.out), HB3⟩
            case measure => simp [intOf]; omega
        · rw [if_neg ha] at HD
          have ha' : (xa == x) = false := by simpa using ha
          clear ha
          by_cases hb : xb = x
          · rw [if_pos hb] at HD
            have hb' : (xb == x) = true := by simpa using hb
            clear hb
            go_wp2_with (at_builtin; refine wpList_append1 rfl _ _ rfl rfl rfl hO.out HW.out (by have := HL.out; omega) ?_)
            intro v1 w3 hO3 hB3
            have HO3 := Lib.hid hO3
            have HB3 := Lib.hid (HBO.out.trans hB3)
            clear hO3 hB3
            go_wp2
            go_roundw
            case rel => exact ⟨k + 1, by omega, by go_num, Lib.hid (by rw [HS.out, HD.out]; simpa using HO3.out), HB3⟩
            case measure => simp [intOf]; omega
          · rw [if_neg hb] at HD
            have hb' : (xb == x) = false := by simpa using hb
            clear hb
            go_wp2
            go_roundw
            case rel => exact ⟨k + 1, by omega, by go_num, Lib.hid (by rw [HS.out, HD.out]; simpa using hO.out), HBO⟩
            case measure => simp [intOf]; omega
      · obtain rfl : k = p.e.length := by omega
        have HT := Lib.hid (List.take_length (l := p.e))
        rw [HT.out] at hO
        have HZ := Lib.hid (trans2 HM2.out hB.out)
        clear hB
        go_wp2
        go_ret
        exact ⟨_, rfl, HZ.out, by rw [HN.out]; exact Row.le hO.out HM2.out.size⟩
  · have HN := Lib.hid (show dartsOf g p x = [] from if_neg he)
    have he' : (perr g p != 0) = true := by simpa using he
    generalize perr g p = ge at *
    go_wp2
    go_ret
    exact ⟨_, rfl, HM2.out, by rw [HN.out]; exact Row.nil _ _⟩

end Go.Proofs.Ytpcjdkldonikfaa
