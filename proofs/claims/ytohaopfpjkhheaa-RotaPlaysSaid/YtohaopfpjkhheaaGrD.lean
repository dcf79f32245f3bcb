/-
  The program's RightPart.
-/
import Derived.Test.YtohaopfpjkhheaaGrC
import Derived.Lib.SmallJoins
namespace Go.Proofs.Ytohaopfpjkhheaa
open Go.RowKit

/-! ### An array of 1024 yes and no -/

def noes : Array Value := Array.replicate 1024 (.bool false)
theorem Try.zeroFlags (w : World) : Sem.run Try.prog (zeroValue 77) w = .ok (.agg noes) w := by
  unfold noes
  kernel_rfl

/-- Block B holds the array in which just the places of f are true. -/
def Flags (w : World) (B : Nat) (f : Nat → Bool) : Prop := ∃ cs, w.heap[B]? = some (.cells cs 77 (0, 0)) ∧ ∀ i, i < 1024 → cs[i]? = some (.bool (f i))

theorem Flags.new (w : World) : Flags (w.alloc (.cells noes 77)) w.heap.size (fun _ => false) :=
  ⟨noes, heap_alloc_new w _, fun i hi => by unfold noes; simp [hi]⟩
theorem Flags.cell {w : World} {B : Nat} {f : Nat → Bool} (h : Flags w B f) {i : Nat} (hi : i < 1024) : w.cell? ⟨B, i, none⟩ = some (.bool (f i)) := by
  obtain ⟨cs, h1, h2⟩ := h
  rw [cell_of_row w B i cs _ (0, 0) h1]
  exact h2 i hi
theorem Flags.thaw {w : World} {B : Nat} {f : Nat → Bool} (h : Flags w B f) (i : Nat) : w.frozen? ⟨B, i, none⟩ = false := by
  obtain ⟨cs, h1, h2⟩ := h
  simp [World.frozen?, h1]
theorem Flags.lt {w : World} {B : Nat} {f : Nat → Bool} (h : Flags w B f) : B < w.heap.size := by
  obtain ⟨cs, h1, _⟩ := h
  exact (Array.getElem?_eq_some_iff.1 h1).1
theorem Flags.below {w w' : World} {B : Nat} {f : Nat → Bool} (h : Flags w B f) (hb : Below w.heap.size w w') : Flags w' B f := by
  have hl := h.lt
  obtain ⟨cs, h1, h2⟩ := h
  exact ⟨cs, by rw [hb.block B hl]; exact h1, h2⟩
theorem Flags.set {w : World} {B : Nat} {f : Nat → Bool} (h : Flags w B f) (i : Nat) (hi : i < 1024) :
    Flags (w.setCell ⟨B, i, none⟩ (.bool true)) B (fun j => f j || decide (j = i)) := by
  have hl := h.lt
  obtain ⟨cs, h1, h2⟩ := h
  have hs : i < cs.size := (Array.getElem?_eq_some_iff.1 (h2 i hi)).1
  refine ⟨cs.setIfInBounds i (.bool true), ?_, fun j hj => ?_⟩
  · exact Go.Joins.block_setCell h1 _
  · by_cases e : j = i
    · subst e
      simp [hs]
    · rw [Array.getElem?_setIfInBounds_ne (Ne.symm e), h2 j hj]
      simp [e]
theorem Flags.congr {w : World} {B : Nat} {f g : Nat → Bool} (h : Flags w B f) (e : ∀ i, i < 1024 → f i = g i) : Flags w B g := by
  obtain ⟨cs, h1, h2⟩ := h
  exact ⟨cs, h1, fun i hi => by rw [h2 i hi, e i hi]⟩
theorem below_store {w w1 : World} {n B i : Nat} {v : Value} (h : Below n w w1) (hB : n ≤ B) : Below n w (w1.setCell ⟨B, i, none⟩ v) :=
  ⟨by rw [← h.os]; rfl, by rw [← h.tape]; rfl, by rw [← h.output]; rfl, by have := h.size; simpa using this, fun k hk => (Below.heap_setCell _ _ _ _ (fun e => by simp only at e; omega)).trans (h.block k hk)⟩

/-- The ends of a part's edge are among its vertices. -/
def endsIn (g : Gph) (p : Prt) (e : Int) : Bool := decide ((getE g.e e.toNat).a ∈ p.v) && decide ((getE g.e e.toNat).b ∈ p.v)
/-- A part's error: the graph's; 4; 0. -/
def perr (g : Gph) (p : Prt) : Int :=
  if g.err = 0 then (if riseB p.v g.n && riseB p.e g.e.length then (if p.e.all (endsIn g p) then 0 else 4) else 4) else g.err

theorem err_n {g : Gph} (h : g.err = 0) : g.n ≤ 1024 := by
  unfold Gph.err at h
  split at h
  · omega
  · split at h
    · omega
    · omega

theorem err_ends {g : Gph} (h : g.err = 0) : ∀ j, j < g.e.length → 0 ≤ (getE g.e j).a ∧ (getE g.e j).a < g.n ∧ 0 ≤ (getE g.e j).b ∧ (getE g.e j).b < g.n := by
  intro j hj
  unfold Gph.err at h
  split at h
  · omega
  · split at h
    · omega
    · split at h
      · rename_i ha
        rw [List.all_eq_true] at ha
        exact (edOk_iff _ _).1 (ha _ (mem_getE g.e j hj))
      · omega

theorem perr_no {g : Gph} {p : Prt} (he : g.err = 0) (r1 : riseB p.v g.n = true) (r2 : riseB p.e g.e.length = true) {k : Nat} (hk : k < p.e.length) (h : endsIn g p (getI p.e k) = false) : perr g p = 4 := by
  unfold perr
  rw [if_pos he, r1, r2, if_pos (show (true && true) = true from rfl), if_neg]
  intro ha
  rw [List.all_eq_true] at ha
  have := ha _ ((mem_getI p.e _).2 ⟨k, hk, rfl⟩)
  rw [h] at this; cases this
theorem perr_yes {g : Gph} {p : Prt} (he : g.err = 0) (r1 : riseB p.v g.n = true) (r2 : riseB p.e g.e.length = true) (h : ∀ j, j < p.e.length → endsIn g p (getI p.e j) = true) : perr g p = 0 := by
  unfold perr
  rw [if_pos he, r1, r2, if_pos (show (true && true) = true from rfl), if_pos]
  rw [List.all_eq_true]
  intro x hx
  obtain ⟨j, hj, rfl⟩ := (mem_getI p.e x).1 hx
  exact h j hj

set_option maxRecDepth 100000 in
set_option maxHeartbeats 2000000 in
theorem rightPart_any (v u : Value) (g : Gph) (p : Prt) (w : World) (h : Gr w v g) (h' : Pt w u p) (hl : g.e.length ≤ 1000000) (hp1 : p.v.length ≤ 1000000) (hp2 : p.e.length ≤ 1000000) :
    Calls Try.prog 30 #[v, u] w fun e w' => e = .returned (.int .i64 (perr g p)) ∧ Below w.heap.size w w' := by
  have HG := Lib.hid h
  obtain ⟨ve, rfl, h1⟩ := h
  obtain ⟨vv, vp, rfl, h2, h3⟩ := h'
  obtain ⟨Ae, ce, rfl⟩ := h1.form
  obtain ⟨Av, cv, rfl⟩ := ints_form h2
  obtain ⟨Ap, cp, rfl⟩ := ints_form h3
  obtain ⟨b1, b2, hm⟩ := two_boxes w (.int .i64 g.n) (.slice Ae g.e.length ce) (.slice Av p.v.length cv) (.slice Ap p.e.length cp) 24 27
  have HG2 := Lib.hid (HG.out.below hm)
  have HV := Lib.hid (h2.below hm)
  have HP := Lib.hid (h3.below hm)
  have HE := Lib.hid (h1.below hm)
  have HB1 := Lib.hid b1
  have HB2 := Lib.hid b2
  have HM := Lib.hid hm
  clear b1 b2 hm h1 h2 h3 HG
  go_enter Try.func30, Try.ntmps30
  go_wp2_with fail
  generalize (w.alloc (.cells #[.int .i64 g.n, .slice Ae g.e.length ce] 24)).alloc (.cells #[.slice Av p.v.length cv, .slice Ap p.e.length cp] 27) = w1 at *
  refine (right_any _ g _ HG2.out hl).mono ?_
  rintro e w2 ⟨rfl, hB2⟩
  have HM2 := Lib.hid (trans2 HM.out hB2)
  have HV2 := Lib.hid (HV.out.below hB2)
  have HP2 := Lib.hid (HP.out.below hB2)
  have HE2 := Lib.hid (HE.out.below hB2)
  have B1 := HB1.out.below hB2
  have B2 := HB2.out.below hB2
  have c10 := B1.c0
  have c11 := B1.c1
  have c20 := B2.c0
  have c21 := B2.c1
  clear HB1 HB2 HV HP HE HG2 hB2 HM
  by_cases he : g.err = 0
  · have HN : Hid (g.n ≤ 1024) := err_n he
    rw [he]
    go_wp2_with fail
    refine (rise_any _ p.v g.n w2 HV2.out hp1).mono ?_
    rintro e w3 ⟨rfl, rfl⟩
    by_cases r1 : riseB p.v g.n = true
    · rw [r1]
      go_wp2_with fail
      refine (rise_any _ p.e g.e.length w2 HP2.out hp2).mono ?_
      rintro e w3 ⟨rfl, rfl⟩
      by_cases r2 : riseB p.e g.e.length = true
      · rw [r2]
        have hz := Try.zeroFlags
        have HF0 := Lib.hid (Flags.new w2)
        have HB0 := Lib.hid (below_alloc (w := w2) (.cells noes 77))
        have n10 := old_cell (.cells noes 77) c10
        have n11 := old_cell (.cells noes 77) c11
        have n20 := old_cell (.cells noes 77) c20
        have n21 := old_cell (.cells noes 77) c21
        have HR1 := Lib.hid (of_decide_eq_true r1 : Rises p.v g.n)
        have HR2 := Lib.hid (of_decide_eq_true r2 : Rises p.e g.e.length)
        have HX1 := Lib.hid B1
        have HX2 := Lib.hid B2
        clear B1 B2 c10 c11 c20 c21
        go_wp2
        generalize hw3 : w2.alloc (.cells noes 77) = w3 at *
        clear hw3 n10 n11 n20 n21
        go_loopw [34] (fun i wr => ∃ k : Nat, k ≤ p.v.length ∧ i = .int .i64 k ∧ Hid (Below w2.heap.size w2 wr) ∧ Hid (Flags wr w2.heap.size (fun i => decide ((i : Int) ∈ p.v.take k)))) (fun i _ => p.v.length - (Go.RowKit.intOf i).toNat)
        case atStart => exact ⟨0, Nat.zero_le _, rfl, HB0, Lib.hid (HF0.out.congr (fun i _ => by simp))⟩
        case round =>
          obtain ⟨k, hk, rfl, hB, hF⟩ := hrel
          by_cases hlt : k < p.v.length
          · obtain ⟨b, off, rfl, hb, hck⟩ := ints_at (HV2.out.below hB.out) hlt
            obtain ⟨x0, x1, _⟩ := HR1.out k hlt
            have hn := HN.out
            generalize hx : getI p.v k = x at *
            have x2 : x < 1024 := by omega
            have x3 : x.toNat < 1024 := by omega
            have s1 := hF.out.cell x3
            have s2 := hF.out.thaw x.toNat
            have HF' := Lib.hid (hF.out.set x.toNat x3)
            have HB' := Lib.hid (below_store (i := x.toNat) (v := .bool true) hB.out (Nat.le_refl _))
            have HE' : Hid (∀ i : Nat, i < 1024 → (decide ((i : Int) ∈ p.v.take k) || decide (i = x.toNat)) = decide ((i : Int) ∈ p.v.take (k + 1))) := fun i _ => by
              rw [take_succ_getI p.v k hlt, hx, ← Bool.decide_or]
              refine decide_eq_decide.2 ?_
              rw [List.mem_append, List.mem_singleton]
              exact or_congr Iff.rfl ⟨fun h => by omega, fun h => by omega⟩
            clear hn x1 x3
            go_wp2
            go_roundw
            case rel => exact ⟨k + 1, by omega, by go_num, HB', Lib.hid (HF'.out.congr HE'.out)⟩
            case measure => simp [Go.RowKit.intOf]; omega
          · obtain rfl : k = p.v.length := by omega
            have HT := Lib.hid (List.take_length (l := p.v))
            rw [HT.out] at hF
            have HM4 := Lib.hid (trans2 HM2.out hB.out)
            have HP4 := Lib.hid (HP2.out.below hB.out)
            have HE4 := Lib.hid (HE2.out.below hB.out)
            have Z1 := HX1.out.below hB.out
            have Z2 := HX2.out.below hB.out
            have c10 := Z1.c0
            have c11 := Z1.c1
            have c20 := Z2.c0
            have c21 := Z2.c1
            have HEE := Lib.hid (err_ends he)
            clear HX1 HX2 Z1 Z2 hB HP2 HE2 HB0 HF0 hk hlt HV2
            go_wp2
            go_loop [44] (fun i => ∃ k : Nat, k ≤ p.e.length ∧ i = .int .i64 k ∧ Hid (∀ j, j < k → endsIn g p (getI p.e j) = true)) (fun i => p.e.length - (Go.RowKit.intOf i).toNat)
            case atStart => exact ⟨0, Nat.zero_le _, rfl, Lib.hid (fun j hj => absurd hj (Nat.not_lt_zero _))⟩
            case round =>
              obtain ⟨k, hk, rfl, hA⟩ := hrel
              by_cases hlt : k < p.e.length
              · obtain ⟨b, off, rfl, hb, hck⟩ := ints_at HP4.out hlt
                obtain ⟨x0, x1, _⟩ := HR2.out k hlt
                obtain ⟨i, hi⟩ : ∃ i : Nat, getI p.e k = (i : Int) := ⟨(getI p.e k).toNat, by omega⟩
                have hil : i < g.e.length := by omega
                obtain ⟨be, oe, rfl, hbe, hca, hcb⟩ := edges_at HE4.out hil
                obtain ⟨a0, a1, b0, b1⟩ := HEE.out i hil
                have hn := HN.out
                have HO : Hid (endsIn g p (getI p.e k) = (decide ((getE g.e i).a ∈ p.v) && decide ((getE g.e i).b ∈ p.v))) := by
                  rw [hi]; rfl
                have HF : Hid (endsIn g p (getI p.e k) = false → perr g p = 4) := fun h => perr_no he r1 r2 hlt h
                rw [hi] at hck
                generalize (getE g.e i).a = xa at *
                generalize (getE g.e i).b = xb at *
                obtain ⟨ia, rfl⟩ : ∃ i : Nat, xa = (i : Int) := ⟨xa.toNat, by omega⟩
                obtain ⟨ib, rfl⟩ : ∃ i : Nat, xb = (i : Int) := ⟨xb.toNat, by omega⟩
                have s1 := hF.out.cell (show ia < 1024 by omega)
                have s2 := hF.out.cell (show ib < 1024 by omega)
                have hil' : (i : Int) < (g.e.length : Int) := by omega
                have a2 : (ia : Int) < 1024 := by omega
                have b2 : (ib : Int) < 1024 := by omega
                clear hn a1 b1 x0 x1 hi
                have HH : Hid (endsIn g p (getI p.e k) = true → ∀ j, j < k + 1 → endsIn g p (getI p.e j) = true) := fun h j hj => by
                  by_cases e : j = k
                  · rw [e]; exact h
                  · exact hA.out j (by omega)
                by_cases m1 : (ia : Int) ∈ p.v
                · rw [decide_eq_true m1] at s1 HO
                  by_cases m2 : (ib : Int) ∈ p.v
                  · rw [decide_eq_true m2] at s2 HO
                    have HK := Lib.hid (HH.out (by rw [HO.out]; rfl))
                    go_wp2
                    go_round
                    case rel => exact ⟨k + 1, by omega, by go_num, HK⟩
                    case measure => simp [Go.RowKit.intOf]; omega
                  · rw [decide_eq_false m2] at s2 HO
                    have HK := Lib.hid (HF.out (by rw [HO.out]; rfl))
                    go_wp2
                    go_ret
                    exact ⟨ret_int HK.out.symm, HM4.out⟩
                · rw [decide_eq_false m1] at s1 HO
                  have HK := Lib.hid (HF.out (by rw [HO.out]; simp))
                  go_wp2
                  go_ret
                  exact ⟨ret_int HK.out.symm, HM4.out⟩
              · obtain rfl : k = p.e.length := by omega
                have HK := Lib.hid (perr_yes he r1 r2 hA.out)
                go_wp2
                go_ret
                exact ⟨ret_int HK.out.symm, HM4.out⟩
      · have HK : Hid (perr g p = 4) := by unfold perr; rw [if_pos he, r1, Bool.eq_false_iff.2 r2]; rfl
        rw [Bool.eq_false_iff.2 r2]
        go_wp2
        go_ret
        exact ⟨ret_int HK.out.symm, HM2.out⟩
    · have HK : Hid (perr g p = 4) := by unfold perr; rw [if_pos he, Bool.eq_false_iff.2 r1]; rfl
      rw [Bool.eq_false_iff.2 r1]
      go_wp2
      go_ret
      exact ⟨ret_int HK.out.symm, HM2.out⟩
  · have HK : Hid (perr g p = g.err) := if_neg he
    have he' : (g.err != 0) = true := by simpa using he
    generalize g.err = ge at *
    go_wp2
    go_ret
    exact ⟨ret_int HK.out.symm, HM2.out⟩
end Go.Proofs.Ytohaopfpjkhheaa
