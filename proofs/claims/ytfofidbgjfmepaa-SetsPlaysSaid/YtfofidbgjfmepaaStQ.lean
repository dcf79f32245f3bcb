/-
  The document's Join.
-/
import Derived.Test.YtfofidbgjfmepaaStO
import Derived.Deep.RegionHeld3
namespace Go.Proofs.Ytfofidbgjfmepaa
open Go.RowKit Go.Maps

/-- The labels, of which the first k have been gone through. -/
def jt (gr : List Nat) (M m : Nat) : Nat → List Nat
  | 0 => gr
  | k + 1 => if getN gr k = M then (jt gr M m k).set k m else jt gr M m k

theorem jt_length (gr : List Nat) (M m : Nat) : ∀ k, (jt gr M m k).length = gr.length
  | 0 => rfl
  | k + 1 => by
    unfold jt
    split
    · rw [List.length_set]; exact jt_length gr M m k
    · exact jt_length gr M m k
theorem jt_get (gr : List Nat) (M m j : Nat) (hj : j < gr.length) : ∀ k, getN (jt gr M m k) j = if j < k ∧ getN gr j = M then m else getN gr j
  | 0 => by rw [if_neg (by omega)]; rfl
  | k + 1 => by
    have ih := jt_get gr M m j hj k
    unfold jt
    by_cases e : getN gr k = M
    · rw [if_pos e]
      by_cases ej : k = j
      · subst ej
        rw [getN_set_same _ _ _ (by rw [jt_length]; exact hj), if_pos ⟨by omega, e⟩]
      · rw [getN_set_other _ _ _ _ ej, ih]
        have : (j < k ∧ getN gr j = M) ↔ (j < k + 1 ∧ getN gr j = M) := ⟨fun h => ⟨by omega, h.2⟩, fun h => ⟨by omega, h.2⟩⟩
        simp only [this]
    · rw [if_neg e, ih]
      have : (j < k ∧ getN gr j = M) ↔ (j < k + 1 ∧ getN gr j = M) := ⟨fun h => ⟨by omega, h.2⟩, fun h => ⟨by
        rcases Nat.lt_or_ge j k with h1 | h1
        · exact h1
        · have : j = k := by omega
          subst this
          exact absurd h.2 e, h.2⟩⟩
      simp only [this]
theorem jt_all (gr : List Nat) (a b : Nat) : jt gr (max a b) (min a b) gr.length = joinG gr a b := by
  refine List.ext_getElem (by rw [jt_length, joinG_length]) fun j h1 h2 => ?_
  rw [← getN_of _ j h1, ← getN_of _ j h2]
  rw [jt_length] at h1
  rw [jt_get _ _ _ _ h1, joinG_get _ _ _ _ h1]
  simp [h1]

/-- A list that is there lies in no block that isn't. -/
theorem Ints.offNew {w : World} {F : Nat → Prop} {v : Value} {l : List Int} (h : Ints w v l) (hf : 0 < l.length → Off F v) : 0 < l.length → Off (fun k => F k ∨ w.heap.size ≤ k) v := by
  intro h0 b hb hF
  obtain ⟨A, c, rfl, _, _, hr⟩ := h
  obtain ⟨b', off, rfl, hlt, _⟩ := hr h0
  cases hb
  rcases hF with hF | hF
  · exact hf h0 b' rfl hF
  · have hlt' : b' < w.heap.size := hlt
    have hF' : w.heap.size ≤ b' := hF
    omega
theorem RM.more {w : World} {F : Nat → Prop} {m : Value} {s : St} (h : RM w F m s) {G : Nat → Prop} (hG : ∀ k, G k → F k ∨ w.heap.size ≤ k) : RM w G m s := by
  obtain ⟨va, vg, hm, h1, h2, h3, h4⟩ := h
  exact ⟨va, vg, hm, h1, h2, fun h0 b hb hg => h1.offNew h3 h0 b hb (hG b hg), fun h0 b hb hg => h2.offNew h4 h0 b hb (hG b hg)⟩

theorem wpList_append_ints' {w : World} {ops : Array Oper} {rest : List Oper} {o : Oper} {a : Act} {Q : Exit → Act → World → Prop} (hgd : o.guard = none) (s x : Operand) (ho : o.op = .call { callee := .builtin .append, args := #[s, x], argTypes := #[32, 32] })
    (base : Nat) (v : Value) (n : Nat) (xs : List Value) (hs : a.eval s = v) (hown : w.ownsRow base 3 1 v n xs) (u : Value) (m : List Int) (hx : a.eval x = u) (hI : Ints w u m) (h63 : n + m.length ≤ 1000001) (hbase : base ≤ w.heap.size)
    (h : ∀ v' w', w'.ownsRow base 3 1 v' (n + m.length) (xs ++ m.map (Value.int .i64)) → w.grownBy w' v.ownBlock → wpList Try.prog ops Q rest (a.put o.dst v') w') : wpList Try.prog ops Q (o :: rest) a w :=
  wpList_plain hgd fun _ hK => wp_append_ints s x ho base v n xs hs hown u m hx hI h63 hbase fun v' w' h2 h3 _ => hK _ _ (h v' w' h2 h3)

/-- The document's sets as they lie in a cell of two. -/
theorem RM.open {w : World} {F : Nat → Prop} {m : Value} {s : St} (h : RM w F m s) (ok : St.Ok s) :
    ∃ A1 c1 A2 c2, m = .agg #[.slice A1 s.ts.length c1, .slice A2 s.ts.length c2] ∧ Ints w (.slice A1 s.ts.length c1) s.ts ∧ Ints w (.slice A2 s.ts.length c2) (natsI s.gr) ∧ (0 < s.ts.length → Off F (.slice A1 s.ts.length c1)) ∧ (0 < (natsI s.gr).length → Off F (.slice A2 s.ts.length c2)) := by
  obtain ⟨va, vg, rfl, h1, h2, h3, h4⟩ := h
  obtain ⟨A1, cap1, hv1⟩ : ∃ A c, va = .slice A s.ts.length c := by obtain ⟨A, c, e, _⟩ := h1; exact ⟨A, c, e⟩
  obtain ⟨A2, cap2, hv2⟩ : ∃ A c, vg = .slice A s.ts.length c := by obtain ⟨A, c, e, _⟩ := h2; exact ⟨A, c, by rw [e, natsI_length, ok.len]⟩
  subst hv1 hv2
  exact ⟨A1, cap1, A2, cap2, rfl, h1, h2, h3, h4⟩

/-- A list's number at a place, as a cell. -/
theorem Ints.at_ {w : World} {v : Value} {l : List Int} (h : Ints w v l) {A : Option Addr} {n c : Nat} (hv : v = .slice A n c) {j : Nat} (hj : j < l.length) : ∃ b off, A = some ⟨b, off, none⟩ ∧ b < w.heap.size ∧ ∀ j, j < l.length → w.cell? ⟨b, off + j, none⟩ = some (.int .i64 (getI l j)) := by
  obtain ⟨A', c', hv', _, _, hr⟩ := h
  rw [hv] at hv'
  simp only [Value.slice.injEq] at hv'
  obtain ⟨rfl, _⟩ := hv'
  exact hr (by omega)

set_option maxRecDepth 100000 in
set_option maxHeartbeats 4000000 in
theorem rjoin_any (w : World) (F : Nat → Prop) (m : Value) (s : St) (x y : Int) (h : RM w F m s) (hF : ∀ k, F k → k < w.heap.size) (ok : St.Ok s) (hx : (Lit.int .i64 x).wf = true) (hy : (Lit.int .i64 y).wf = true) (hl : s.ts.length ≤ 800000) :
    Calls Try.prog 15 #[m, .int .i64 x, .int .i64 y] w fun e w' => ∃ m', e = .returned (.tuple #[m', .bool (s.joins x y)]) ∧ RM w' F m' (s.join x y) ∧ Below w.heap.size w w' := by
  obtain ⟨A1, cap1, A2, cap2, rfl, h1, h2, h3, h4⟩ := h.open ok
  obtain ⟨va, hva⟩ : ∃ va, va = Value.slice A1 s.ts.length cap1 := ⟨_, rfl⟩
  obtain ⟨vg, hvg⟩ : ∃ vg, vg = Value.slice A2 s.ts.length cap2 := ⟨_, rfl⟩
  obtain ⟨wa, hwa⟩ : ∃ wa, (w.alloc (.cells #[va, vg] 34)).alloc (.cells #[.slice none 0 0, .slice none 0 0] 34) = wa := ⟨_, rfl⟩
  have hBa : Below w.heap.size w wa := by rw [← hwa]; exact (below_alloc _).trans ((below_alloc _).mono (by simp))
  have hsa : wa.heap.size = w.heap.size + 2 := by rw [← hwa]; simp
  have a0 : wa.cell? ⟨w.heap.size, 0, none⟩ = some va := by rw [← hwa]; exact old_cell _ (by simp)
  have a1 : wa.cell? ⟨w.heap.size, 1, none⟩ = some vg := by rw [← hwa]; exact old_cell _ (by simp)
  have a2 : wa.cell? ⟨w.heap.size + 1, 0, none⟩ = some (.slice none 0 0) := by rw [← hwa]; simp
  have a3 : wa.cell? ⟨w.heap.size + 1, 1, none⟩ = some (.slice none 0 0) := by rw [← hwa]; simp
  have f0 : ∀ j, wa.frozen? ⟨w.heap.size, j, none⟩ = false := fun j => by rw [← hwa]; simp
  have f1 : ∀ j, wa.frozen? ⟨w.heap.size + 1, j, none⟩ = false := fun j => by rw [← hwa]; simp
  have HWA := Lib.hid hwa
  have hsz : w.heap.size + 2 ≤ wa.heap.size := by omega
  obtain ⟨G, hG⟩ : ∃ G : Nat → Prop, G = fun k => F k ∨ (w.heap.size ≤ k ∧ k < w.heap.size + 2) := ⟨_, rfl⟩
  have hFa : ∀ k, G k → k < wa.heap.size := fun k hk => by
    rw [hG] at hk
    rcases hk with hk | hk
    · exact Nat.lt_of_lt_of_le (hF k hk) hBa.size
    · omega
  have HM := Lib.hid (show RM wa G (.agg #[.slice A1 s.ts.length cap1, .slice A2 s.ts.length cap2]) s from (h.more (fun k hk => by rw [hG] at hk; exact hk.imp id And.left)).only (Only.of_below hBa))
  have HGF := Lib.hid (show ∀ k, F k → G k from fun k hk => by rw [hG]; exact .inl hk)
  have HGB := Lib.hid (show G w.heap.size from by rw [hG]; exact .inr ⟨Nat.le_refl _, by omega⟩)
  have HGC := Lib.hid (show G (w.heap.size + 1) from by rw [hG]; exact .inr ⟨by omega, by omega⟩)
  clear hG
  have okx := St.ok_add ok hx
  have okb := St.ok_both ok hx hy
  have hlx := St.len_add s x
  clear h h1 h2 h3 h4 hwa hsa
  go_enter Try.func15, Try.ntmps15
  go_wp2_with fail
  rw [← hva, ← hvg, HWA.out, hva, hvg]
  refine (radd_any wa G _ s x HM.out hFa ok (by omega)).mono ?_
  rintro e w1 ⟨m1, rfl, hM1, hB1⟩
  go_wp2_with fail
  refine (radd_any w1 G m1 (s.add x) y hM1 (fun k hk => Nat.lt_of_lt_of_le (hFa k hk) hB1.size) okx (by omega)).mono ?_
  rintro e w2 ⟨m2, rfl, hM2, hB2⟩
  change RM w2 G m2 (s.both x y) at hM2
  have hB12 := trans2 hB1 hB2
  have hB02 := hBa.trans (hB12.mono hBa.size)
  obtain ⟨A3, cap3, A4, cap4, rfl, i1, i2, i3, i4⟩ := hM2.open okb
  have d0 := (hB12.cell (p := ⟨w.heap.size, 0, none⟩) (by simp; omega)).trans a0
  have d1 := (hB12.cell (p := ⟨w.heap.size, 1, none⟩) (by simp; omega)).trans a1
  have d2 := (hB12.cell (p := ⟨w.heap.size + 1, 0, none⟩) (by simp; omega)).trans a2
  have d3 := (hB12.cell (p := ⟨w.heap.size + 1, 1, none⟩) (by simp; omega)).trans a3
  have g0 := (hB12.frozen (p := ⟨w.heap.size, 0, none⟩) (by simp; omega)).trans (f0 0)
  have g1 := (hB12.frozen (p := ⟨w.heap.size, 1, none⟩) (by simp; omega)).trans (f0 1)
  have g2 := (hB12.frozen (p := ⟨w.heap.size + 1, 0, none⟩) (by simp; omega)).trans (f1 0)
  have g3 := (hB12.frozen (p := ⟨w.heap.size + 1, 1, none⟩) (by simp; omega)).trans (f1 1)
  have hs2 : w.heap.size + 2 ≤ w2.heap.size := Nat.le_trans hsz hB12.size
  clear a0 a1 a2 a3 f0 f1 HM hM1 hM2 hB1 hB2 hB12 hBa HWA
  have hlb := St.len_both s x y
  have hmx : x ∈ (s.both x y).ts := (St.mem_both s x y x).2 (.inr (.inl rfl))
  have hmy : y ∈ (s.both x y).ts := (St.mem_both s x y y).2 (.inr (.inr rfl))
  have hJT := Lib.hid (fun h => St.joins_true (s := s) (x := x) (y := y) h)
  have hJF := Lib.hid (fun h => St.joins_false (s := s) (x := x) (y := y) h)
  generalize hbb : s.both x y = sb at *
  have px := St.find_in hmx
  have py := St.find_in hmy
  have HX := Lib.hid px.1
  have HY := Lib.hid py.1
  have qx := px.2.1
  have qy := py.2.1
  have hrx : getN sb.gr (sb.place x) = sb.root x := rfl
  have hry : getN sb.gr (sb.place y) = sb.root y := rfl
  have lx := (St.root_lt okb hmx).1
  have ly := (St.root_lt okb hmy).1
  have HGL := Lib.hid okb.len
  clear px py hmx hmy hbb
  -- the world behind the store
  obtain ⟨w3, hw3⟩ : ∃ w3, (w2.setCell ⟨w.heap.size, 0, none⟩ (.slice A3 sb.ts.length cap3)).setCell ⟨w.heap.size, 1, none⟩ (.slice A4 sb.ts.length cap4) = w3 := ⟨_, rfl⟩
  have hW := After2.mk2 (w := w) (u0 := .slice A3 sb.ts.length cap3) (u1 := .slice A4 sb.ts.length cap4) hB02 d0 d1 (Nat.le_refl _)
  rw [hw3] at hW
  have hO3 : Only G w2 w3 := by rw [← hw3]; exact (Only.setCell w2 HGB.out _).trans' (Only.setCell _ HGB.out _)
  have k1 := i1.onlyN i3 hO3
  have k2 := i2.onlyN i4 hO3
  have b1 : w3.heap[w.heap.size + 1]? = w2.heap[w.heap.size + 1]? := by
    rw [← hw3]
    exact (Below.heap_setCell _ _ _ _ (by simp)).trans (Below.heap_setCell _ _ _ _ (by simp))
  have d2' := (World.cell?_of_block (a := ⟨w.heap.size + 1, 0, none⟩) b1).trans d2
  have d3' := (World.cell?_of_block (a := ⟨w.heap.size + 1, 1, none⟩) b1).trans d3
  have g2' := (World.frozen?_of_block (a := ⟨w.heap.size + 1, 0, none⟩) b1).trans g2
  have g3' := (World.frozen?_of_block (a := ⟨w.heap.size + 1, 1, none⟩) b1).trans g3
  have hs3 : w.heap.size + 2 ≤ w3.heap.size := Nat.le_trans hs2 hO3.size
  obtain ⟨gb, goff, rfl, hgb, hgc⟩ := k2.at_ rfl (j := sb.place x) (by rw [natsI_length, HGL.out]; exact qx)
  rw [natsI_length, HGL.out] at hgc
  have ex := hgc (sb.place x) qx
  have ey := hgc (sb.place y) qy
  rw [natsI_get _ _ (by rw [HGL.out]; exact qx), hrx] at ex
  rw [natsI_get _ _ (by rw [HGL.out]; exact qy), hry] at ey
  have HW3 := Lib.hid hw3
  have HB3 := Lib.hid hW.below
  have e0 := hW.c0
  have e1 := hW.c1
  have K1 := Lib.hid k1
  have K2 := Lib.hid k2
  have D2 := Lib.hid d2'
  have D3 := Lib.hid d3'
  have G2 := Lib.hid g2'
  have G3 := Lib.hid g3'
  have I3 := Lib.hid i3
  have I4 := Lib.hid i4
  clear hw3 hW hO3 k1 k2 b1 d2' d3' g2' g3' d2 d3 g2 g3 i1 i2 i3 i4 hB02 hgc hrx hry
  go_wp2
  rw [HW3.out]
  clear d0 d1 g0 g1 HW3
  generalize hpx : sb.place x = px at *
  generalize hpy : sb.place y = py at *
  generalize hrx : sb.root x = rx at *
  generalize hry : sb.root y = ry at *
  have hst : ∀ W W' : World, (W.cell? ⟨w.heap.size, 0, none⟩ = some (.slice A3 sb.ts.length cap3) ∧ W.cell? ⟨w.heap.size, 1, none⟩ = some (.slice (some ⟨gb, goff, none⟩) sb.ts.length cap4) ∧ W.cell? ⟨gb, goff + px, none⟩ = some (.int .i64 (rx : Int)) ∧ W.cell? ⟨gb, goff + py, none⟩ = some (.int .i64 (ry : Int)) ∧ Below w3.heap.size w3 W) →
      Below W.heap.size W W' →
      (W'.cell? ⟨w.heap.size, 0, none⟩ = some (.slice A3 sb.ts.length cap3) ∧ W'.cell? ⟨w.heap.size, 1, none⟩ = some (.slice (some ⟨gb, goff, none⟩) sb.ts.length cap4) ∧ W'.cell? ⟨gb, goff + px, none⟩ = some (.int .i64 (rx : Int)) ∧ W'.cell? ⟨gb, goff + py, none⟩ = some (.int .i64 (ry : Int)) ∧ Below w3.heap.size w3 W') := by
    rintro W W' ⟨s0, s1, s2, s3, sB⟩ hB
    exact ⟨(hB.cell (World.block_lt_of_cell? W _ s0)).trans s0, (hB.cell (World.block_lt_of_cell? W _ s1)).trans s1, (hB.cell (World.block_lt_of_cell? W _ s2)).trans s2, (hB.cell (World.block_lt_of_cell? W _ s3)).trans s3, sB.trans (hB.mono sB.size)⟩
  have HST := Lib.hid hst
  have hS0 : (w3.drew.cell? ⟨w.heap.size, 0, none⟩ = some (.slice A3 sb.ts.length cap3) ∧ w3.drew.cell? ⟨w.heap.size, 1, none⟩ = some (.slice (some ⟨gb, goff, none⟩) sb.ts.length cap4) ∧ w3.drew.cell? ⟨gb, goff + px, none⟩ = some (.int .i64 (rx : Int)) ∧ w3.drew.cell? ⟨gb, goff + py, none⟩ = some (.int .i64 (ry : Int)) ∧ Below w3.heap.size w3 w3.drew) := ⟨e0, e1, ex, ey, below_drewN' w3 1⟩
  have nx0 : (0 : Int) ≤ (px : Int) := by omega
  have ny0 : (0 : Int) ≤ (py : Int) := by omega
  have nx1 : (px : Int) < (sb.ts.length : Int) := by omega
  have ny1 : (py : Int) < (sb.ts.length : Int) := by omega
  clear hst
  go_region_held3 (fun W => W.cell? ⟨w.heap.size, 0, none⟩ = some (.slice A3 sb.ts.length cap3) ∧ W.cell? ⟨w.heap.size, 1, none⟩ = some (.slice (some ⟨gb, goff, none⟩) sb.ts.length cap4) ∧ W.cell? ⟨gb, goff + px, none⟩ = some (.int .i64 (rx : Int)) ∧ W.cell? ⟨gb, goff + py, none⟩ = some (.int .i64 (ry : Int)) ∧ Below w3.heap.size w3 W)
    (first | assumption | exact hS0)
    (first
      | (go_at_call 14; refine (rfind_any _ _ _ sb.ts _ (K1.out.below (And.right (And.right (And.right (And.right (by assumption)))))) (by omega)).mono ?_; rintro e w' ⟨rfl, hB⟩; have hS' := HST.out _ _ (by assumption) hB; first | rw [HX.out] | rw [HY.out]))
  obtain ⟨z0, z1, _, _, hB4⟩ := hS'
  obtain ⟨w4, hw4⟩ : ∃ w4, w4 = w' := ⟨_, rfl⟩
  subst hw4
  have K1' := Lib.hid (K1.out.below hB4)
  have K2' := Lib.hid (K2.out.below hB4)
  have D2' := Lib.hid ((hB4.cell (p := ⟨w.heap.size + 1, 0, none⟩) (World.block_lt_of_cell? _ _ D2.out)).trans D2.out)
  have D3' := Lib.hid ((hB4.cell (p := ⟨w.heap.size + 1, 1, none⟩) (World.block_lt_of_cell? _ _ D3.out)).trans D3.out)
  have G2' := Lib.hid ((hB4.frozen (p := ⟨w.heap.size + 1, 0, none⟩) (World.block_lt_of_cell? _ _ D2.out)).trans G2.out)
  have G3' := Lib.hid ((hB4.frozen (p := ⟨w.heap.size + 1, 1, none⟩) (World.block_lt_of_cell? _ _ D3.out)).trans G3.out)
  have HB4 := Lib.hid (HB3.out.trans (hB4.mono HB3.out.size))
  have hs4 : w.heap.size + 2 ≤ w4.heap.size := Nat.le_trans hs3 hB4.size
  clear HST hS0 nx0 ny0 nx1 ny1 hB hB4 K1 K2 D2 D3 G2 G3 HB3 e0 e1 ex ey hva hvg hs2 hs3 hsz
  by_cases he : rx = ry
  · subst he
    obtain ⟨j1, j2⟩ := hJF.out rfl
    have HJ1 := Lib.hid j1
    have HJ2 := Lib.hid j2
    have z2 := D2'.out
    have z3 := D3'.out
    have z4 := G2'.out
    have z5 := G3'.out
    clear j1 j2 hJF hJT
    go_wp2
    have W2 := After2.mk2 (w := w) (u0 := .slice A3 sb.ts.length cap3) (u1 := .slice (some ⟨gb, goff, none⟩) sb.ts.length cap4) HB4.out z2 z3 (Nat.le_succ _)
    have hOG : Only G w4 ((w4.setCell ⟨w.heap.size + 1, 0, none⟩ (.slice A3 sb.ts.length cap3)).setCell ⟨w.heap.size + 1, 1, none⟩ (.slice (some ⟨gb, goff, none⟩) sb.ts.length cap4)) := (Only.setCell w4 HGC.out _).trans' (Only.setCell _ HGC.out _)
    generalize ((w4.setCell ⟨w.heap.size + 1, 0, none⟩ (.slice A3 sb.ts.length cap3)).setCell ⟨w.heap.size + 1, 1, none⟩ (.slice (some ⟨gb, goff, none⟩) sb.ts.length cap4)) = w9 at *
    refine bodyPost_ret (v := .tuple #[.agg #[.slice A3 sb.ts.length cap3, .slice (some ⟨gb, goff, none⟩) sb.ts.length cap4], .bool false]) ?_ rfl ⟨_, by rw [HJ1.out], ?_, W2.below⟩
    · simp [results, Try.results15, go_sem, W2.c0, W2.c1]
    · rw [HJ2.out]
      exact ⟨_, _, rfl, K1'.out.onlyN I3.out hOG, K2'.out.onlyN I4.out hOG, fun h0 b hb hf => I3.out h0 b hb (HGF.out b hf), fun h0 b hb hf => I4.out h0 b hb (HGF.out b hf)⟩
  · have hne : ((rx : Int) == (ry : Int)) = false := beq_eq_false_iff_ne.2 (by omega)
    have HNE := Lib.hid he
    clear he
    rcases Nat.lt_or_ge rx ry with hlo | hlo
    · have hab : rx < ry := hlo
      have hba : ¬ ry < rx := by omega
      clear hlo
      have z1a := old_cell (.cells #[] 3) z1
      go_wp2_with (at_builtin; refine wpList_append_ints' rfl (.tmp 35) (.tmp 37) rfl w4.heap.size (.slice (some ⟨w4.heap.size, 0, none⟩) 0 0) 0 [] rfl (World.ownsRow_made w4 #[] 0 (Nat.le_refl _) (by unfold maxLen; omega) rfl) _ (natsI sb.gr) rfl (K2'.out.below (below_alloc _)) (by rw [natsI_length, HGL.out]; omega) (by simp) ?_)
      intro v5 w5 hown5 hgrow5
      have hown6 : w5.ownsRow w4.heap.size 3 1 v5 sb.ts.length ((natsI (jt sb.gr ry rx 0)).map (Value.int .i64)) := by
        have e1 : (natsI sb.gr).length = sb.ts.length := by rw [natsI_length]; exact HGL.out
        have e2 : jt sb.gr ry rx 0 = sb.gr := rfl
        rw [e2, ← e1]
        simpa using hown5
      have hB5 : Below w4.heap.size w4 w5 := (below_alloc _).trans ((Below.refl _ _).grown hgrow5 (by simp) (fun k hk => by cases hk; exact Nat.le_refl _))
      obtain ⟨A5, cap5, hv5⟩ := own_shape hown6
      obtain ⟨g5, rfl⟩ : ∃ g5, A5 = some ⟨g5, 0, none⟩ := by
        rcases hown6.2 with ⟨_, e⟩ | ⟨g, c, cur, e, _⟩
        · omega
        · rw [hv5] at e
          simp only [Value.slice.injEq] at e
          exact ⟨g, e.1⟩
      subst hv5
      have HOWN := Lib.hid hown6
      have HB5 := Lib.hid hB5
      clear hown5 hgrow5 hown6 hB5
      go_wp2
      go_loopw [11] (fun i wr => ∃ k : Nat, k ≤ sb.ts.length ∧ i = .int .i64 (k : Int) ∧ wr.ownsRow w4.heap.size 3 1 (.slice (some ⟨g5, 0, none⟩) sb.ts.length cap5) sb.ts.length ((natsI (jt sb.gr ry rx k)).map (Value.int .i64)) ∧ Below w4.heap.size w4 wr) (fun i _ => sb.ts.length - (intOf i).toNat)
      case atStart => exact ⟨0, Nat.zero_le _, rfl, HOWN.out, HB5.out⟩
      case round =>
        obtain ⟨k, hk, rfl, hown, hB⟩ := hrel
        rename_i wr
        by_cases hlt : k < sb.ts.length
        · have hck : wr.cell? ⟨g5, k, none⟩ = some (.int .i64 (getN sb.gr k : Int)) := by
            rw [hown.cellAt k (by omega), ints_get .i64 _ k (by rw [natsI_length, jt_length, HGL.out]; exact hlt), natsI_get _ _ (by rw [jt_length, HGL.out]; exact hlt), jt_get _ _ _ _ (by rw [HGL.out]; exact hlt), if_neg (by omega)]
          have hfk := hown.frozenAt k
          have HW := Lib.hid hown
          have hge := (hown.lt g5 rfl).1
          clear hown
          by_cases he : getN sb.gr k = ry
          · have hJ := Lib.hid (show jt sb.gr ry rx (k + 1) = (jt sb.gr ry rx k).set k rx by rw [jt, if_pos he])
            rw [he] at hck
            clear he
            go_wp2
            go_roundw
            case rel =>
              refine ⟨k + 1, by omega, by go_num, ?_, hB.setCell (p := ⟨g5, k, none⟩) hge _⟩
              rw [hJ.out, natsI_set, List.map_set]
              exact (HW.out.stored k (.int .i64 (rx : Int))).1
            case measure => simp [intOf]; omega
          · have hJ := Lib.hid (show jt sb.gr ry rx (k + 1) = jt sb.gr ry rx k by rw [jt, if_neg he])
            have he' : ((getN sb.gr k : Int) == (ry : Int)) = false := beq_eq_false_iff_ne.2 (by omega)
            have HE := Lib.hid he
            clear he
            go_wp2
            go_roundw
            case rel => exact ⟨k + 1, by omega, by go_num, by rw [hJ.out]; exact HW.out, hB⟩
            case measure => simp [intOf]; omega
        · obtain rfl : k = sb.ts.length := by omega
          have HW := Lib.hid hown
          have y0 := (hB.cell (p := ⟨w.heap.size, 0, none⟩) (World.block_lt_of_cell? _ _ z0)).trans z0
          have y1 := (hB.cell (p := ⟨w.heap.size, 1, none⟩) (World.block_lt_of_cell? _ _ z1)).trans z1
          have y2 := (hB.cell (p := ⟨w.heap.size + 1, 0, none⟩) (World.block_lt_of_cell? _ _ D2'.out)).trans D2'.out
          have y3 := (hB.cell (p := ⟨w.heap.size + 1, 1, none⟩) (World.block_lt_of_cell? _ _ D3'.out)).trans D3'.out
          have y4 := (hB.frozen (p := ⟨w.heap.size + 1, 0, none⟩) (World.block_lt_of_cell? _ _ D2'.out)).trans G2'.out
          have y5 := (hB.frozen (p := ⟨w.heap.size + 1, 1, none⟩) (World.block_lt_of_cell? _ _ D3'.out)).trans G3'.out
          clear hown
          go_wp2
          have hBw := HB4.out.trans (hB.mono HB4.out.size)
          have W2 := After2.mk2 (w := w) (u0 := .slice A3 sb.ts.length cap3) (u1 := .slice (some ⟨g5, 0, none⟩) sb.ts.length cap5) hBw y2 y3 (Nat.le_succ _)
          have hOG : Only G wr ((wr.setCell ⟨w.heap.size + 1, 0, none⟩ (.slice A3 sb.ts.length cap3)).setCell ⟨w.heap.size + 1, 1, none⟩ (.slice (some ⟨g5, 0, none⟩) sb.ts.length cap5)) := (Only.setCell wr HGC.out _).trans' (Only.setCell _ HGC.out _)
          have hown9 := own_block HW.out (w' := (wr.setCell ⟨w.heap.size + 1, 0, none⟩ (.slice A3 sb.ts.length cap3)).setCell ⟨w.heap.size + 1, 1, none⟩ (.slice (some ⟨g5, 0, none⟩) sb.ts.length cap5)) (fun g hg => by
            have h1 := (HW.out.lt g hg).1
            exact (Below.heap_setCell _ _ _ _ (by simp; omega)).trans (Below.heap_setCell _ _ _ _ (by simp; omega)))
          generalize ((wr.setCell ⟨w.heap.size + 1, 0, none⟩ (.slice A3 sb.ts.length cap3)).setCell ⟨w.heap.size + 1, 1, none⟩ (.slice (some ⟨g5, 0, none⟩) sb.ts.length cap5)) = w9 at *
          refine bodyPost_ret (v := .tuple #[.agg #[.slice A3 sb.ts.length cap3, .slice (some ⟨g5, 0, none⟩) sb.ts.length cap5], .bool true]) ?_ rfl ⟨_, by rw [(hJT.out HNE.out).1], ?_, W2.below⟩
          · simp [results, Try.results15, go_sem, W2.c0, W2.c1]
          · rw [(hJT.out HNE.out).2]
            have hjl : (natsI (joinG sb.gr rx ry)).length = sb.ts.length := by rw [natsI_length, joinG_length]; exact HGL.out
            have hja : jt sb.gr ry rx sb.ts.length = joinG sb.gr rx ry := by rw [← HGL.out, ← jt_all]; rw [Nat.max_eq_right (by omega), Nat.min_eq_left (by omega)]
            rw [hja] at hown9
            refine ⟨_, _, rfl, (K1'.out.below hB).onlyN I3.out hOG, Ints.of_own (base := w4.heap.size) (e := 3) ?_, fun h0 b hb hf => I3.out h0 b hb (HGF.out b hf), fun _ b hb hf => ?_⟩
            · show w9.ownsRow w4.heap.size 3 1 _ (natsI (joinG sb.gr rx ry)).length _
              rw [hjl]; exact hown9
            · have h1 := (hown9.lt b hb).1
              have h2 := hF b hf
              have h3 := HB4.out.size
              omega
    · have hab : ry < rx := by have := HNE.out; omega
      have hba : ¬ rx < ry := by omega
      clear hlo
      have z1a := old_cell (.cells #[] 3) z1
      go_wp2_with (at_builtin; refine wpList_append_ints' rfl (.tmp 35) (.tmp 37) rfl w4.heap.size (.slice (some ⟨w4.heap.size, 0, none⟩) 0 0) 0 [] rfl (World.ownsRow_made w4 #[] 0 (Nat.le_refl _) (by unfold maxLen; omega) rfl) _ (natsI sb.gr) rfl (K2'.out.below (below_alloc _)) (by rw [natsI_length, HGL.out]; omega) (by simp) ?_)
      intro v5 w5 hown5 hgrow5
      have hown6 : w5.ownsRow w4.heap.size 3 1 v5 sb.ts.length ((natsI (jt sb.gr rx ry 0)).map (Value.int .i64)) := by
        have e1 : (natsI sb.gr).length = sb.ts.length := by rw [natsI_length]; exact HGL.out
        have e2 : jt sb.gr rx ry 0 = sb.gr := rfl
        rw [e2, ← e1]
        simpa using hown5
      have hB5 : Below w4.heap.size w4 w5 := (below_alloc _).trans ((Below.refl _ _).grown hgrow5 (by simp) (fun k hk => by cases hk; exact Nat.le_refl _))
      obtain ⟨A5, cap5, hv5⟩ := own_shape hown6
      obtain ⟨g5, rfl⟩ : ∃ g5, A5 = some ⟨g5, 0, none⟩ := by
        rcases hown6.2 with ⟨_, e⟩ | ⟨g, c, cur, e, _⟩
        · omega
        · rw [hv5] at e
          simp only [Value.slice.injEq] at e
          exact ⟨g, e.1⟩
      subst hv5
      have HOWN := Lib.hid hown6
      have HB5 := Lib.hid hB5
      clear hown5 hgrow5 hown6 hB5
      go_wp2
      go_loopw [11] (fun i wr => ∃ k : Nat, k ≤ sb.ts.length ∧ i = .int .i64 (k : Int) ∧ wr.ownsRow w4.heap.size 3 1 (.slice (some ⟨g5, 0, none⟩) sb.ts.length cap5) sb.ts.length ((natsI (jt sb.gr rx ry k)).map (Value.int .i64)) ∧ Below w4.heap.size w4 wr) (fun i _ => sb.ts.length - (intOf i).toNat)
      case atStart => exact ⟨0, Nat.zero_le _, rfl, HOWN.out, HB5.out⟩
      case round =>
        obtain ⟨k, hk, rfl, hown, hB⟩ := hrel
        rename_i wr
        by_cases hlt : k < sb.ts.length
        · have hck : wr.cell? ⟨g5, k, none⟩ = some (.int .i64 (getN sb.gr k : Int)) := by
            rw [hown.cellAt k (by omega), ints_get .i64 _ k (by rw [natsI_length, jt_length, HGL.out]; exact hlt), natsI_get _ _ (by rw [jt_length, HGL.out]; exact hlt), jt_get _ _ _ _ (by rw [HGL.out]; exact hlt), if_neg (by omega)]
          have hfk := hown.frozenAt k
          have HW := Lib.hid hown
          have hge := (hown.lt g5 rfl).1
          clear hown
          by_cases he : getN sb.gr k = rx
          · have hJ := Lib.hid (show jt sb.gr rx ry (k + 1) = (jt sb.gr rx ry k).set k ry by rw [jt, if_pos he])
            rw [he] at hck
            clear he
            go_wp2
            go_roundw
            case rel =>
              refine ⟨k + 1, by omega, by go_num, ?_, hB.setCell (p := ⟨g5, k, none⟩) hge _⟩
              rw [hJ.out, natsI_set, List.map_set]
              exact (HW.out.stored k (.int .i64 (ry : Int))).1
            case measure => simp [intOf]; omega
          · have hJ := Lib.hid (show jt sb.gr rx ry (k + 1) = jt sb.gr rx ry k by rw [jt, if_neg he])
            have he' : ((getN sb.gr k : Int) == (rx : Int)) = false := beq_eq_false_iff_ne.2 (by omega)
            have HE := Lib.hid he
            clear he
            go_wp2
            go_roundw
            case rel => exact ⟨k + 1, by omega, by go_num, by rw [hJ.out]; exact HW.out, hB⟩
            case measure => simp [intOf]; omega
        · obtain rfl : k = sb.ts.length := by omega
          have HW := Lib.hid hown
          have y0 := (hB.cell (p := ⟨w.heap.size, 0, none⟩) (World.block_lt_of_cell? _ _ z0)).trans z0
          have y1 := (hB.cell (p := ⟨w.heap.size, 1, none⟩) (World.block_lt_of_cell? _ _ z1)).trans z1
          have y2 := (hB.cell (p := ⟨w.heap.size + 1, 0, none⟩) (World.block_lt_of_cell? _ _ D2'.out)).trans D2'.out
          have y3 := (hB.cell (p := ⟨w.heap.size + 1, 1, none⟩) (World.block_lt_of_cell? _ _ D3'.out)).trans D3'.out
          have y4 := (hB.frozen (p := ⟨w.heap.size + 1, 0, none⟩) (World.block_lt_of_cell? _ _ D2'.out)).trans G2'.out
          have y5 := (hB.frozen (p := ⟨w.heap.size + 1, 1, none⟩) (World.block_lt_of_cell? _ _ D3'.out)).trans G3'.out
          clear hown
          go_wp2
          have hBw := HB4.out.trans (hB.mono HB4.out.size)
          have W2 := After2.mk2 (w := w) (u0 := .slice A3 sb.ts.length cap3) (u1 := .slice (some ⟨g5, 0, none⟩) sb.ts.length cap5) hBw y2 y3 (Nat.le_succ _)
          have hOG : Only G wr ((wr.setCell ⟨w.heap.size + 1, 0, none⟩ (.slice A3 sb.ts.length cap3)).setCell ⟨w.heap.size + 1, 1, none⟩ (.slice (some ⟨g5, 0, none⟩) sb.ts.length cap5)) := (Only.setCell wr HGC.out _).trans' (Only.setCell _ HGC.out _)
          have hown9 := own_block HW.out (w' := (wr.setCell ⟨w.heap.size + 1, 0, none⟩ (.slice A3 sb.ts.length cap3)).setCell ⟨w.heap.size + 1, 1, none⟩ (.slice (some ⟨g5, 0, none⟩) sb.ts.length cap5)) (fun g hg => by
            have h1 := (HW.out.lt g hg).1
            exact (Below.heap_setCell _ _ _ _ (by simp; omega)).trans (Below.heap_setCell _ _ _ _ (by simp; omega)))
          generalize ((wr.setCell ⟨w.heap.size + 1, 0, none⟩ (.slice A3 sb.ts.length cap3)).setCell ⟨w.heap.size + 1, 1, none⟩ (.slice (some ⟨g5, 0, none⟩) sb.ts.length cap5)) = w9 at *
          refine bodyPost_ret (v := .tuple #[.agg #[.slice A3 sb.ts.length cap3, .slice (some ⟨g5, 0, none⟩) sb.ts.length cap5], .bool true]) ?_ rfl ⟨_, by rw [(hJT.out HNE.out).1], ?_, W2.below⟩
          · simp [results, Try.results15, go_sem, W2.c0, W2.c1]
          · rw [(hJT.out HNE.out).2]
            have hjl : (natsI (joinG sb.gr rx ry)).length = sb.ts.length := by rw [natsI_length, joinG_length]; exact HGL.out
            have hja : jt sb.gr rx ry sb.ts.length = joinG sb.gr rx ry := by rw [← HGL.out, ← jt_all]; rw [Nat.max_eq_left (by omega), Nat.min_eq_right (by omega)]
            rw [hja] at hown9
            refine ⟨_, _, rfl, (K1'.out.below hB).onlyN I3.out hOG, Ints.of_own (base := w4.heap.size) (e := 3) ?_, fun h0 b hb hf => I3.out h0 b hb (HGF.out b hf), fun _ b hb hf => ?_⟩
            · show w9.ownsRow w4.heap.size 3 1 _ (natsI (joinG sb.gr rx ry)).length _
              rw [hjl]; exact hown9
            · have h1 := (hown9.lt b hb).1
              have h2 := hF b hf
              have h3 := HB4.out.size
              omega

end Go.Proofs.Ytfofidbgjfmepaa
