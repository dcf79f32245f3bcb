/-
  The document's Far.
-/
import Derived.Test.YtjnohnbppkhbaaaWkM
import Derived.Test.YtjnohnbppkhbaaaStW
import Derived.Test.YtjnohnbppkhbaaaGrV
import Derived.Lib.SmallJoins
namespace Go.Proofs.Ytjnohnbppkhbaaa
open Go.RowKit

variable {g : Gph} {p : Prt}

/-- Behind k edges of a round. -/
def ringTo (g : Gph) (ring : List Int) (l : List Int) (k : Nat) : List Int := (l.take k).foldl (ringS g ring) ring
theorem ringTo_zero (g : Gph) (ring l : List Int) : ringTo g ring l 0 = ring := rfl
theorem ringTo_succ (g : Gph) (ring l : List Int) (k : Nat) (h : k < l.length) : ringTo g ring l (k + 1) = ringS g ring (ringTo g ring l k) (getI l k) := by
  unfold ringTo
  rw [take_succ_getI l k h, List.foldl_append]
  rfl
theorem ringTo_len (g : Gph) (ring l : List Int) (k : Nat) : (ringTo g ring l k).length ≤ ring.length + 2 * k := by
  have := fold_len (g := g) ring (l.take k) ring
  have h2 : (l.take k).length ≤ k := by rw [List.length_take]; exact Nat.min_le_left _ _
  unfold ringTo
  omega
theorem ringTo_all (g : Gph) (p : Prt) (a : Int) (n : Nat) : ringTo g (ringL g p a n) p.e p.e.length = ringL g p a (n + 1) := by
  unfold ringTo
  rw [List.take_length]
  rfl

theorem zeroEdge (w : World) : (zeroValue 51).run Try.prog w = .ok (.agg #[.int .i64 0, .int .i64 0]) w := by kernel_rfl

/-- A block that holds an edge. -/
def EBox (w : World) (g : Nat) (u v : Value) : Prop := w.heap[g]? = some (.cells #[u, v] 51 (0, 0))
section
variable {w w' : World} {b : Nat} {u v : Value}
theorem EBox.lt (hb : EBox w b u v) : b < w.heap.size := (Array.getElem?_eq_some_iff.1 hb).1
theorem EBox.below (hb : EBox w b u v) (hB : Below w.heap.size w w') : EBox w' b u v := (hB.block b hb.lt).trans hb
theorem EBox.box (hb : EBox w b u v) : Box w b u v :=
  ⟨(cell_of_row w b 0 _ _ (0, 0) hb), (cell_of_row w b 1 _ _ (0, 0) hb), hb.lt, fun i => by simp [World.frozen?, show w.heap[b]? = some (.cells #[u, v] 51 (0, 0)) from hb]⟩
theorem EBox.put (hb : EBox w b u v) (x y : Value) : EBox ((w.setCell ⟨b, 0, none⟩ x).setCell ⟨b, 1, none⟩ y) b x y := by
  have h1 := Go.Joins.block_setCell (i := 0) hb x
  have h2 := Go.Joins.block_setCell (i := 1) h1 y
  exact h2
end
/-- A new variable that holds an edge. -/
def spVar (u v : Value) : Sp := ⟨fun w x => ∃ b, x = .pointer (some ⟨b, 0, none⟩) ∧ EBox w b u v, true, fun _ _ _ hb ⟨b, e, h⟩ => ⟨b, e, h.below hb⟩⟩
theorem spVar_new (w : World) : (spVar (.int .i64 0) (.int .i64 0)).p (w.alloc (.cells #[.int .i64 0, .int .i64 0] 51)) (.pointer (some ⟨w.heap.size, 0, none⟩)) := ⟨_, rfl, heap_alloc_new w _⟩
theorem spVar_at {w : World} {b : Nat} {u v : Value} (h : (spVar u v).p w (.pointer (some ⟨b, 0, none⟩))) : EBox w b u v := by
  obtain ⟨b', e, hb⟩ := h
  cases e
  exact hb

/-- append(l, x): what holds an edge holds it still. -/
theorem wpList_append_keep {wr : World} {ops : Array Oper} {rest : List Oper} {o : Oper} {a : Act} {Q : Exit → Act → World → Prop} (hgd : o.guard = none) (s x : Operand)
    (ho : o.op = .call { callee := .builtin .append, args := #[s, x], argTypes := #[25, 25] })
    {base : Nat} {v : Value} {L : List Int} {z : Int} (hs : a.eval s = v) (hx : a.eval x = .slice (some ⟨wr.heap.size, 0, none⟩) 1 1) (hown : Row wr base v L) (hbase : base ≤ wr.heap.size) (hL : L.length ≤ 4000000)
    (h : ∀ v' w', Row w' base v' (L ++ [z]) → Below base wr w' → (∀ b u1 u2, EBox wr b u1 u2 → EBox w' b u1 u2) → wpList Try.prog ops Q rest (a.put o.dst v') w') : wpList Try.prog ops Q (o :: rest) a (wr.alloc (.cells #[.int .i64 z] 3)) := by
  obtain ⟨i0, hi, hz0, hz1, hz2⟩ := info_parts Try.infoInt
  refine wpList_append_own _ hgd s x 25 ho base 3 i0 _ 1 8 Try.underlying25 hi hz0 hz1 hz2 rfl (by decide) v L.length (L.map (Value.int .i64)) hs (World.ownsRow.alloc hown _) ⟨wr.heap.size, 0, none⟩ 1 1 [.int .i64 z] hx rfl (cell_one_new _ _ _) (by simp [Value.oneCell']) (by unfold maxLen; omega) (by omega) (by simp; omega) ?_
  intro v' w1 h1 h2 _
  refine h v' w1 ?_ (((Below.refl base wr).alloc hbase _).grown h2 (by simp; omega) (fun k hk => (World.ownsRow.lt hown k hk).1)) (fun b u1 u2 hb => ?_)
  · show w1.ownsRow _ _ _ _ _ _
    rw [List.length_append, List.map_append]
    exact h1
  · have hb1 := hb.below (below_alloc (w := wr) (.cells #[.int .i64 z] 3))
    refine (h2.block b hb1.lt (fun e => ?_)).trans hb1
    exact own_apart (World.ownsRow.alloc hown _) hb1 (by decide) e.symm

set_option maxRecDepth 100000 in
set_option maxHeartbeats 4000000 in
theorem rfar_any (v u : Value) (g : Gph) (p : Prt) (a b : Int) (w : World) (h : Gr w v g) (h' : Pt w u p) (hp : perr g p = 0) (hp1 : p.v.length ≤ 400) (hp2 : p.e.length ≤ 1000) :
    Calls Try.prog 14 #[v, u, .int .i64 a, .int .i64 b] w fun e w' => e = .returned (.int .i64 (farI g p a b)) ∧ Below w.heap.size w w' := by
  obtain ⟨he, hr1, hr2, hends⟩ := perr_rises hp
  obtain ⟨ve, rfl, h1⟩ := h
  obtain ⟨vv, vp, rfl, h2, h3⟩ := h'
  obtain ⟨Ae, ce, rfl⟩ := h1.form
  obtain ⟨Av, cv, rfl⟩ := ints_form h2
  obtain ⟨Ap, cp, rfl⟩ := ints_form h3
  obtain ⟨b1, b2, hm⟩ := two_boxes w (.int .i64 g.n) (.slice Ae g.e.length ce) (.slice Av p.v.length cv) (.slice Ap p.e.length cp) 24 27
  have HB1 := Lib.hid b1
  have HB2 := Lib.hid b2
  have HM := Lib.hid hm
  have HE1 := Lib.hid (h1.below hm)
  have HE2 := Lib.hid (h2.below hm)
  have HE3 := Lib.hid (h3.below hm)
  have d0 := b2.c0
  have HF := Lib.hid (show farI g p a b = if a ∈ p.v ∧ b ∈ p.v then farFrom g p a b (p.v.length + 1) 0 else -1 from rfl)
  clear b1 b2 hm h1 h2 h3
  by_cases ha : a ∈ p.v
  · have HA := Lib.hid (decide_eq_true ha)
    by_cases hb : b ∈ p.v
    · have HBB := Lib.hid (decide_eq_true hb)
      rw [if_pos ⟨ha, hb⟩] at HF
      clear ha hb
      go_enter Try.func14, Try.ntmps14
      go_wp2_with fail
      generalize (w.alloc (.cells #[.int .i64 g.n, .slice Ae g.e.length ce] 24)).alloc (.cells #[.slice Av p.v.length cv, .slice Ap p.e.length cp] 27) = w1 at *
      refine (in_any _ p.v a w1 HE2.out (by omega)).mono ?_
      rintro e w' ⟨rfl, rfl⟩
      rw [HA.out]
      go_wp2_with fail
      refine (in_any _ p.v b _ HE2.out (by omega)).mono ?_
      rintro e w' ⟨rfl, rfl⟩
      rw [HBB.out]
      go_wp2
      have HLA := Lib.hid (ints_lit1 w1 a)
      have HBA := Lib.hid (below_alloc (w := w1) (.cells #[.int .i64 a] 3))
      go_loopw [9, 10] (fun rv i wr => ∃ n : Nat, n ≤ p.v.length + 1 ∧ i = .int .i64 n ∧ Hid (Ints wr rv (ringL g p a n)) ∧ Hid (Below w1.heap.size w1 wr) ∧ Hid (farFrom g p a b (p.v.length + 1 - n) n = farI g p a b)) (fun _ i _ => p.v.length + 1 - (Go.RowKit.intOf i).toNat)
      case atStart => exact ⟨0, Nat.zero_le _, rfl, HLA, HBA, Lib.hid HF.out.symm⟩
      case round =>
        obtain ⟨n, hn, rfl, hR, hB, hFF⟩ := hrel
        obtain ⟨wo, hwo⟩ : ∃ z, z = wr := ⟨_, rfl⟩
        subst hwo
        have d0' := (HB2.out.below hB.out).c0
        have d1' := (HB2.out.below hB.out).c1
        obtain ⟨Ar, cr, hrv⟩ := ints_form hR.out
        subst hrv
        by_cases hlt : n ≤ p.v.length
        · have hrl := ring_len (g := g) (p := p) (a := a) hp2 n
          have hrl2 : (ringL g p a n).length ≤ 900000 := by omega
          have HI := Lib.hid (in_any _ (ringL g p a n) b wo hR.out (by omega))
          have hnl : (n : Int) ≤ (p.v.length : Int) := by omega
          have hff := hFF.out
          rw [show p.v.length + 1 - n = (p.v.length - n) + 1 by omega] at hff
          unfold farFrom at hff
          clear d0
          by_cases hin : b ∈ ringL g p a n
          · rw [decide_eq_true hin] at HI
            rw [if_pos hin] at hff
            have HFF := Lib.hid hff
            have HBE := Lib.hid (trans2 HM.out hB.out)
            clear hin hff hFF hR hB hrl
            go_wp2_with fail
            refine HI.out.mono ?_
            rintro e w' ⟨rfl, rfl⟩
            go_wp2
            go_ret
            exact ⟨ret_int HFF.out, HBE.out⟩
          · rw [decide_eq_false hin] at HI
            rw [if_neg hin] at hff
            have HFF := Lib.hid hff
            clear hin hff hFF
            have HBO := Lib.hid hB.out
            have HRI := Lib.hid hR.out
            have HRA := Lib.hid (ringTo_all g p a n)
            have hrl3 : (ringL g p a n).length ≤ 1 + 2000 * n := hrl
            clear hB hR hrl
            generalize ringL g p a n = ring at *
            go_wp2_with fail
            refine HI.out.mono ?_
            rintro e w' ⟨rfl, rfl⟩
            go_wp2_with (at_builtin; refine wpList_append_all rfl _ _ rfl rfl (Row.nil _ _) rfl HRI.out (by simp; omega) (Nat.le_refl _) ?_)
            intro v5 w5 hO5 hb5
            have HBO5 := Lib.hid (HBO.out.trans (hb5.mono HBO.out.size))
            have HRI5 := Lib.hid (HRI.out.below hb5)
            have HO5 := Lib.hid hO5
            have HW5 := Lib.hid hb5
            clear hO5 hb5 HI d0' d1'
            go_wp2
            go_loopw [11, 12] (fun nv i wr => ∃ k : Nat, k ≤ p.e.length ∧ i = .int .i64 k ∧ Hid (Row wr wo.heap.size nv (ringTo g ring p.e k)) ∧ Hid (Below wo.heap.size wo wr)) (fun _ i _ => p.e.length - (Go.RowKit.intOf i).toNat)
            case atStart => exact ⟨0, Nat.zero_le _, rfl, HO5, HW5⟩
            case round =>
              obtain ⟨k, hk, rfl, hN, hB⟩ := hrel
              obtain ⟨wq, hwq⟩ : ∃ z, z = wr := ⟨_, rfl⟩
              subst hwq
              have HBQ := Lib.hid (HBO.out.trans (hB.out.mono HBO.out.size))
              have dq1 := (HB2.out.below HBQ.out).c1
              by_cases hk2 : k < p.e.length
              · obtain ⟨pb, po, rfl, hpb, hpc⟩ := ints_at HE3.out hk2
                have hrk := hr2 k hk2
                obtain ⟨en, hen⟩ : ∃ en : Nat, getI p.e k = en := ⟨(getI p.e k).toNat, by omega⟩
                have hel : en < g.e.length := by omega
                obtain ⟨eb, eo, rfl, heb, he1, he2⟩ := edges_at HE1.out hel
                have hck := (HBQ.out.cell (p := ⟨pb, po + k, none⟩) hpb).trans hpc
                have g1 := (HBQ.out.cell (p := ⟨eb, eo + en * 2, none⟩) heb).trans he1
                have g2 := (HBQ.out.cell (p := ⟨eb, eo + en * 2 + 1, none⟩) heb).trans he2
                have cq1 := (HB1.out.below HBQ.out).c1
                have HS := Lib.hid (ringTo_succ g ring p.e k hk2)
                rw [hen] at HS hck
                have HS2 := Lib.hid (HS.out.trans (show ringS g ring (ringTo g ring p.e k) (en : Int) = half ring (half ring (ringTo g ring p.e k) (getE g.e en).a (getE g.e en).b) (getE g.e en).b (getE g.e en).a by unfold ringS; rw [Int.toNat_natCast]))
                have hn0 : (0 : Int) ≤ (en : Int) := by omega
                have hn1 : (en : Int) < (g.e.length : Int) := by omega
                generalize (getE g.e en).a = xa at *
                generalize (getE g.e en).b = xb at *
                have hlen := ringTo_len g ring p.e k
                clear hrk hen hpc he1 he2 HS
                have X0 := Lib.hid (HB1.out.below HBQ.out)
                have X1 := Lib.hid (HB2.out.below HBQ.out)
                have hpz : pb < wq.heap.size := Nat.lt_of_lt_of_le hpb HBQ.out.size
                have hez : eb < wq.heap.size := Nat.lt_of_lt_of_le heb HBQ.out.size
                go_wp2_with fail
                -- the region
                refine wp_region_plan [is (.pointer (some ⟨w.heap.size, 1, none⟩)), is (.slice (some ⟨eb, eo, none⟩) g.e.length ce), is (.pointer (some ⟨w.heap.size + 1, 1, none⟩)), is (.slice (some ⟨pb, po, none⟩) p.e.length cp), is (.int .i64 (k : Int)), is (.pointer (some ⟨pb, po + k, none⟩)), is (.int .i64 (en : Int)), is (.pointer (some ⟨eb, eo + en * 2, none⟩)), is (.agg #[.int .i64 xa, .int .i64 xb]), spVar (.int .i64 0) (.int .i64 0)] (by kernel_rfl) (by kernel_rfl) ?_ ?_
                · skip
                  refine StepsP.cons ?_ ?_
                  · refine step_val (fun a wx hB O D => ?_)
                    have e4 : a.tmps[4]? = some (.pointer (some ⟨w.heap.size, 0, none⟩)) := O 4 (by rfl)
                    clear O D
                    exact ⟨rfl, by go_simp⟩
                  refine StepsP.cons ?_ ?_
                  · refine step_val (fun a wx hB O D => ?_)
                    obtain ⟨_, e49, rfl⟩ := D 0 _ _ _ (by decide) rfl rfl rfl
                    obtain ⟨c0, c1, _⟩ := X0.out.below hB
                    clear O D
                    exact ⟨rfl, by go_simp⟩
                  refine StepsP.cons ?_ ?_
                  · refine step_val (fun a wx hB O D => ?_)
                    have e5 : a.tmps[5]? = some (.pointer (some ⟨w.heap.size + 1, 0, none⟩)) := O 5 (by rfl)
                    clear O D
                    exact ⟨rfl, by go_simp⟩
                  refine StepsP.cons ?_ ?_
                  · refine step_val (fun a wx hB O D => ?_)
                    obtain ⟨_, e51, rfl⟩ := D 2 _ _ _ (by decide) rfl rfl rfl
                    obtain ⟨c0, c1, _⟩ := X1.out.below hB
                    clear O D
                    exact ⟨rfl, by go_simp⟩
                  refine StepsP.cons ?_ ?_
                  · refine step_val (fun a wx hB O D => ?_)
                    have e12 : a.tmps[12]? = some (.int .i64 (k : Int)) := O 12 (by rfl)
                    clear O D
                    exact ⟨rfl, by unfold execOp; simp only [ev e12]; rfl⟩
                  refine StepsP.cons ?_ ?_
                  · refine step_val (fun a wx hB O D => ?_)
                    obtain ⟨_, e52, rfl⟩ := D 3 _ _ _ (by decide) rfl rfl rfl
                    obtain ⟨_, e53, rfl⟩ := D 4 _ _ _ (by decide) rfl rfl rfl
                    clear O D
                    exact ⟨rfl, by go_simp⟩
                  refine StepsP.cons ?_ ?_
                  · refine step_val (fun a wx hB O D => ?_)
                    obtain ⟨_, e54, rfl⟩ := D 5 _ _ _ (by decide) rfl rfl rfl
                    have q0 := (hB.cell (p := ⟨pb, po + k, none⟩) hpz).trans hck
                    clear O D
                    exact ⟨rfl, by go_simp⟩
                  refine StepsP.cons ?_ ?_
                  · refine step_val (fun a wx hB O D => ?_)
                    obtain ⟨_, e50, rfl⟩ := D 1 _ _ _ (by decide) rfl rfl rfl
                    obtain ⟨_, e55, rfl⟩ := D 6 _ _ _ (by decide) rfl rfl rfl
                    clear O D
                    exact ⟨rfl, by go_simp⟩
                  refine StepsP.cons ?_ ?_
                  · refine step_val (fun a wx hB O D => ?_)
                    obtain ⟨_, e56, rfl⟩ := D 7 _ _ _ (by decide) rfl rfl rfl
                    have q1 := (hB.cell (p := ⟨eb, eo + en * 2, none⟩) hez).trans g1
                    have q2 := (hB.cell (p := ⟨eb, eo + en * 2 + 1, none⟩) hez).trans g2
                    clear O D
                    exact ⟨rfl, by go_simp⟩
                  refine StepsP.cons ?_ ?_
                  · exact step_alloc rfl rfl zeroEdge spVar_new
                  exact StepsP.nil
                · intro wz hZ
                  refine EndP.is ?_
                  refine EndP.is ?_
                  refine EndP.is ?_
                  refine EndP.is ?_
                  refine EndP.is ?_
                  refine EndP.is ?_
                  refine EndP.is ?_
                  refine EndP.is ?_
                  refine EndP.is ?_
                  refine EndP.new rfl (fun g13 s13 l13 n13 => ?_)
                  refine EndP.nil ?_
                -- behind the region
                  have hbx := spVar_at s13
                  have HEb := Lib.hid (hbx.put (.int .i64 xa) (.int .i64 xb))
                  have z0 := hbx.box.c0
                  have z1 := hbx.box.c1
                  have t0 := hbx.box.thaw 0
                  have t1 := hbx.box.thaw 1
                  have hsw := hB.out.size
                  have HBa := Lib.hid (below_stored (b := g13) (u' := .int .i64 xa) (v' := .int .i64 xb) (hB.out.trans (hZ.mono hsw)) (Nat.le_trans hsw l13.1))
                  have HN : Hid (Row ((wz.setCell ⟨g13, 0, none⟩ (.int .i64 xa)).setCell ⟨g13, 1, none⟩ (.int .i64 xb)) wo.heap.size u11 (ringTo g ring p.e k)) := Lib.hid (own_block (hN.out.below hZ) (fun gg hgg => by
                    have hne : gg ≠ g13 := by have := (World.ownsRow.lt hN.out gg hgg).2; omega
                    exact (Below.heap_setCell _ _ _ _ hne).trans (Below.heap_setCell _ _ _ _ hne)))
                  have HRw := Lib.hid (HRI.out.below HBa.out)
                  clear hbx s13 l13 n13 hZ hN hB hck g1 g2 cq1 dq1 X0 X1
                  obtain ⟨wa, hwa⟩ : ∃ z, (wz.setCell ⟨g13, 0, none⟩ (.int .i64 xa)).setCell ⟨g13, 1, none⟩ (.int .i64 xb) = z := ⟨_, rfl⟩
                  rw [hwa] at HEb HBa HN HRw
                  obtain ⟨NN, hNN⟩ : ∃ z, z = ringTo g ring p.e k := ⟨_, rfl⟩
                  obtain ⟨nv, hnv⟩ : ∃ z, z = u11 := ⟨_, rfl⟩
                  rw [← hNN] at HN HS2 hlen
                  rw [← hnv] at HN ⊢
                  clear hnv hNN
                  have HIxa := Lib.hid (in_any _ ring xa wa HRw.out (by omega))
                  have b0 := HEb.out.box.c0
                  have b1 := HEb.out.box.c1
                  by_cases m1 : xa ∈ ring
                  · rw [decide_eq_true m1] at HIxa
                    have HJ := Lib.hid (in_any nv NN xb wa HN.out.ints (by omega))
                    by_cases m2 : xb ∈ NN
                    · rw [decide_eq_true m2] at HJ
                      have HH := Lib.hid (show NN = half ring NN xa xb from (if_neg (fun h => h.2 m2)).symm)
                      clear m1 m2
                      go_wp2_with fail
                      refine HIxa.out.mono ?_
                      rintro e w' ⟨rfl, rfl⟩
                      go_wp2_with fail
                      refine HJ.out.mono ?_
                      rintro e w' ⟨rfl, rfl⟩
                      replace HN : Hid (Row wa wo.heap.size nv (half ring NN xa xb)) := by rw [← HH.out]; exact HN
                      clear HIxa b0 b1
                      have hl1 := half_len ring NN xa xb
                      clear HH
                      generalize half ring NN xa xb = NM at *
                      have HIxb := Lib.hid (in_any _ ring xb wa HRw.out (by omega))
                      have b0 := HEb.out.box.c0
                      have b1 := HEb.out.box.c1
                      by_cases m1 : xb ∈ ring
                      · rw [decide_eq_true m1] at HIxb
                        have HJ := Lib.hid (in_any nv NM xa wa HN.out.ints (by omega))
                        by_cases m2 : xa ∈ NM
                        · rw [decide_eq_true m2] at HJ
                          have HH := Lib.hid (show NM = half ring NM xb xa from (if_neg (fun h => h.2 m2)).symm)
                          clear m1 m2
                          go_wp2_with fail
                          refine HIxb.out.mono ?_
                          rintro e w' ⟨rfl, rfl⟩
                          go_wp2_with fail
                          refine HJ.out.mono ?_
                          rintro e w' ⟨rfl, rfl⟩
                          go_wp2
                          go_roundw
                          case rel => exact ⟨k + 1, by omega, by go_num, by rw [HS2.out, ← HH.out]; exact HN, HBa⟩
                          case measure => simp [Go.RowKit.intOf]; omega
                        · rw [decide_eq_false m2] at HJ
                          have HH := Lib.hid (show NM ++ [xa] = half ring NM xb xa from (if_pos ⟨m1, m2⟩).symm)
                          clear m1 m2
                          go_wp2_with fail
                          refine HIxb.out.mono ?_
                          rintro e w' ⟨rfl, rfl⟩
                          go_wp2_with fail
                          refine HJ.out.mono ?_
                          rintro e w' ⟨rfl, rfl⟩
                          have HSa := Lib.hid HBa.out.size
                          have HLN := Lib.hid (show NM.length ≤ 4000000 by omega)
                          go_wp2_with (at_builtin; refine wpList_append_keep rfl _ _ rfl rfl rfl HN.out HSa.out HLN.out ?_)
                          intro v7 w7 hR7 hB7 hE7
                          have HN7 := Lib.hid hR7
                          have HEb7 := Lib.hid (hE7 _ _ _ HEb.out)
                          have HBa7 := Lib.hid (HBa.out.trans hB7)
                          obtain ⟨A7, c7, rfl⟩ := ints_form hR7.ints
                          clear hR7 hB7 hE7 HJ HIxb b0 b1
                          go_wp2
                          go_roundw
                          case rel => exact ⟨k + 1, by omega, by go_num, by rw [HS2.out, ← HH.out]; exact HN7, HBa7⟩
                          case measure => simp [Go.RowKit.intOf]; omega
                      · rw [decide_eq_false m1] at HIxb
                        have HH := Lib.hid (show NM = half ring NM xb xa from (if_neg (fun h => m1 h.1)).symm)
                        clear m1
                        go_wp2_with fail
                        refine HIxb.out.mono ?_
                        rintro e w' ⟨rfl, rfl⟩
                        go_wp2
                        go_roundw
                        case rel => exact ⟨k + 1, by omega, by go_num, by rw [HS2.out, ← HH.out]; exact HN, HBa⟩
                        case measure => simp [Go.RowKit.intOf]; omega
                    · rw [decide_eq_false m2] at HJ
                      have HH := Lib.hid (show NN ++ [xb] = half ring NN xa xb from (if_pos ⟨m1, m2⟩).symm)
                      clear m1 m2
                      go_wp2_with fail
                      refine HIxa.out.mono ?_
                      rintro e w' ⟨rfl, rfl⟩
                      go_wp2_with fail
                      refine HJ.out.mono ?_
                      rintro e w' ⟨rfl, rfl⟩
                      have HSa := Lib.hid HBa.out.size
                      have HLN := Lib.hid (show NN.length ≤ 4000000 by omega)
                      go_wp2_with (at_builtin; refine wpList_append_keep rfl _ _ rfl rfl rfl HN.out HSa.out HLN.out ?_)
                      intro v7 w7 hR7 hB7 hE7
                      have HN7 := Lib.hid hR7
                      have HEb7 := Lib.hid (hE7 _ _ _ HEb.out)
                      have HBa7 := Lib.hid (HBa.out.trans hB7)
                      obtain ⟨A7, c7, rfl⟩ := ints_form hR7.ints
                      clear hR7 hB7 hE7 HJ HIxa b0 b1
                      generalize (NN ++ [xb]).length = l7 at *
                      rw [HH.out] at HN7
                      clear HN HEb HBa HRw
                      have HRw := Lib.hid (HRI.out.below HBa7.out)
                      have HN : Hid (Row w7 wo.heap.size (.slice A7 l7 c7) (half ring NN xa xb)) := HN7
                      have HEb := HEb7
                      have HBa := HBa7
                      clear HN7 HEb7 HBa7
                      generalize Value.slice A7 l7 c7 = nv at *
                      generalize w7 = wa at *
                      have hl1 := half_len ring NN xa xb
                      clear HH
                      generalize half ring NN xa xb = NM at *
                      have HIxb := Lib.hid (in_any _ ring xb wa HRw.out (by omega))
                      have b0 := HEb.out.box.c0
                      have b1 := HEb.out.box.c1
                      by_cases m1 : xb ∈ ring
                      · rw [decide_eq_true m1] at HIxb
                        have HJ := Lib.hid (in_any nv NM xa wa HN.out.ints (by omega))
                        by_cases m2 : xa ∈ NM
                        · rw [decide_eq_true m2] at HJ
                          have HH := Lib.hid (show NM = half ring NM xb xa from (if_neg (fun h => h.2 m2)).symm)
                          clear m1 m2
                          go_wp2_with fail
                          refine HIxb.out.mono ?_
                          rintro e w' ⟨rfl, rfl⟩
                          go_wp2_with fail
                          refine HJ.out.mono ?_
                          rintro e w' ⟨rfl, rfl⟩
                          go_wp2
                          go_roundw
                          case rel => exact ⟨k + 1, by omega, by go_num, by rw [HS2.out, ← HH.out]; exact HN, HBa⟩
                          case measure => simp [Go.RowKit.intOf]; omega
                        · rw [decide_eq_false m2] at HJ
                          have HH := Lib.hid (show NM ++ [xa] = half ring NM xb xa from (if_pos ⟨m1, m2⟩).symm)
                          clear m1 m2
                          go_wp2_with fail
                          refine HIxb.out.mono ?_
                          rintro e w' ⟨rfl, rfl⟩
                          go_wp2_with fail
                          refine HJ.out.mono ?_
                          rintro e w' ⟨rfl, rfl⟩
                          have HSa := Lib.hid HBa.out.size
                          have HLN := Lib.hid (show NM.length ≤ 4000000 by omega)
                          go_wp2_with (at_builtin; refine wpList_append_keep rfl _ _ rfl rfl rfl HN.out HSa.out HLN.out ?_)
                          intro v7 w7 hR7 hB7 hE7
                          have HN7 := Lib.hid hR7
                          have HEb7 := Lib.hid (hE7 _ _ _ HEb.out)
                          have HBa7 := Lib.hid (HBa.out.trans hB7)
                          obtain ⟨A7, c7, rfl⟩ := ints_form hR7.ints
                          clear hR7 hB7 hE7 HJ HIxb b0 b1
                          go_wp2
                          go_roundw
                          case rel => exact ⟨k + 1, by omega, by go_num, by rw [HS2.out, ← HH.out]; exact HN7, HBa7⟩
                          case measure => simp [Go.RowKit.intOf]; omega
                      · rw [decide_eq_false m1] at HIxb
                        have HH := Lib.hid (show NM = half ring NM xb xa from (if_neg (fun h => m1 h.1)).symm)
                        clear m1
                        go_wp2_with fail
                        refine HIxb.out.mono ?_
                        rintro e w' ⟨rfl, rfl⟩
                        go_wp2
                        go_roundw
                        case rel => exact ⟨k + 1, by omega, by go_num, by rw [HS2.out, ← HH.out]; exact HN, HBa⟩
                        case measure => simp [Go.RowKit.intOf]; omega
                  · rw [decide_eq_false m1] at HIxa
                    have HH := Lib.hid (show NN = half ring NN xa xb from (if_neg (fun h => m1 h.1)).symm)
                    clear m1
                    go_wp2_with fail
                    refine HIxa.out.mono ?_
                    rintro e w' ⟨rfl, rfl⟩
                    replace HN : Hid (Row wa wo.heap.size nv (half ring NN xa xb)) := by rw [← HH.out]; exact HN
                    clear HIxa b0 b1
                    have hl1 := half_len ring NN xa xb
                    clear HH
                    generalize half ring NN xa xb = NM at *
                    have HIxb := Lib.hid (in_any _ ring xb wa HRw.out (by omega))
                    have b0 := HEb.out.box.c0
                    have b1 := HEb.out.box.c1
                    by_cases m1 : xb ∈ ring
                    · rw [decide_eq_true m1] at HIxb
                      have HJ := Lib.hid (in_any nv NM xa wa HN.out.ints (by omega))
                      by_cases m2 : xa ∈ NM
                      · rw [decide_eq_true m2] at HJ
                        have HH := Lib.hid (show NM = half ring NM xb xa from (if_neg (fun h => h.2 m2)).symm)
                        clear m1 m2
                        go_wp2_with fail
                        refine HIxb.out.mono ?_
                        rintro e w' ⟨rfl, rfl⟩
                        go_wp2_with fail
                        refine HJ.out.mono ?_
                        rintro e w' ⟨rfl, rfl⟩
                        go_wp2
                        go_roundw
                        case rel => exact ⟨k + 1, by omega, by go_num, by rw [HS2.out, ← HH.out]; exact HN, HBa⟩
                        case measure => simp [Go.RowKit.intOf]; omega
                      · rw [decide_eq_false m2] at HJ
                        have HH := Lib.hid (show NM ++ [xa] = half ring NM xb xa from (if_pos ⟨m1, m2⟩).symm)
                        clear m1 m2
                        go_wp2_with fail
                        refine HIxb.out.mono ?_
                        rintro e w' ⟨rfl, rfl⟩
                        go_wp2_with fail
                        refine HJ.out.mono ?_
                        rintro e w' ⟨rfl, rfl⟩
                        have HSa := Lib.hid HBa.out.size
                        have HLN := Lib.hid (show NM.length ≤ 4000000 by omega)
                        go_wp2_with (at_builtin; refine wpList_append_keep rfl _ _ rfl rfl rfl HN.out HSa.out HLN.out ?_)
                        intro v7 w7 hR7 hB7 hE7
                        have HN7 := Lib.hid hR7
                        have HEb7 := Lib.hid (hE7 _ _ _ HEb.out)
                        have HBa7 := Lib.hid (HBa.out.trans hB7)
                        obtain ⟨A7, c7, rfl⟩ := ints_form hR7.ints
                        clear hR7 hB7 hE7 HJ HIxb b0 b1
                        go_wp2
                        go_roundw
                        case rel => exact ⟨k + 1, by omega, by go_num, by rw [HS2.out, ← HH.out]; exact HN7, HBa7⟩
                        case measure => simp [Go.RowKit.intOf]; omega
                    · rw [decide_eq_false m1] at HIxb
                      have HH := Lib.hid (show NM = half ring NM xb xa from (if_neg (fun h => m1 h.1)).symm)
                      clear m1
                      go_wp2_with fail
                      refine HIxb.out.mono ?_
                      rintro e w' ⟨rfl, rfl⟩
                      go_wp2
                      go_roundw
                      case rel => exact ⟨k + 1, by omega, by go_num, by rw [HS2.out, ← HH.out]; exact HN, HBa⟩
                      case measure => simp [Go.RowKit.intOf]; omega
              · obtain rfl : k = p.e.length := by omega
                rw [HRA.out] at hN
                have HNR := Lib.hid hN.out.ints
                have HBZ := HBQ
                clear hN hB HO5 HRI5 HBO5 HW5
                go_wp2
                go_roundw
                case rel => exact ⟨n + 1, by omega, by go_num, HNR, HBZ, Lib.hid (by rw [show p.v.length + 1 - (n + 1) = p.v.length - n by omega]; exact HFF.out)⟩
                case measure => simp [Go.RowKit.intOf]; omega
        · obtain rfl : n = p.v.length + 1 := by omega
          have hff := hFF.out
          rw [Nat.sub_self] at hff
          have HFF := Lib.hid (show (-1 : Int) = farI g p a b from hff)
          have HBE := Lib.hid (trans2 HM.out hB.out)
          clear hff hFF hR hB
          go_wp2
          go_ret
          exact ⟨ret_int HFF.out, HBE.out⟩
    · have HBB := Lib.hid (decide_eq_false hb)
      rw [if_neg (fun h => hb h.2)] at HF
      clear ha hb
      go_enter Try.func14, Try.ntmps14
      go_wp2_with fail
      generalize (w.alloc (.cells #[.int .i64 g.n, .slice Ae g.e.length ce] 24)).alloc (.cells #[.slice Av p.v.length cv, .slice Ap p.e.length cp] 27) = w1 at *
      refine (in_any _ p.v a w1 HE2.out (by omega)).mono ?_
      rintro e w' ⟨rfl, rfl⟩
      rw [HA.out]
      go_wp2_with fail
      refine (in_any _ p.v b _ HE2.out (by omega)).mono ?_
      rintro e w' ⟨rfl, rfl⟩
      rw [HBB.out]
      go_wp2
      go_ret
      exact ⟨ret_int HF.out.symm, HM.out⟩
  · have HA := Lib.hid (decide_eq_false ha)
    rw [if_neg (fun h => ha h.1)] at HF
    clear ha
    go_enter Try.func14, Try.ntmps14
    go_wp2_with fail
    generalize (w.alloc (.cells #[.int .i64 g.n, .slice Ae g.e.length ce] 24)).alloc (.cells #[.slice Av p.v.length cv, .slice Ap p.e.length cp] 27) = w1 at *
    refine (in_any _ p.v a w1 HE2.out (by omega)).mono ?_
    rintro e w' ⟨rfl, rfl⟩
    rw [HA.out]
    go_wp2
    go_ret
    exact ⟨ret_int HF.out.symm, HM.out⟩
end Go.Proofs.Ytjnohnbppkhbaaa
