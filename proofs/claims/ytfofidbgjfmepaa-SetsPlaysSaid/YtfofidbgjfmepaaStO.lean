/-
  The document's Find, Add.
-/
import Derived.Test.YtfofidbgjfmepaaStP
namespace Go.Proofs.Ytfofidbgjfmepaa
open Go.RowKit Go.Maps

/-- The document's sets: two lists. -/
def RM (w : World) (F : Nat → Prop) (m : Value) (s : St) : Prop := ∃ va vg, m = .agg #[va, vg] ∧ Ints w va s.ts ∧ Ints w vg (natsI s.gr) ∧ (0 < s.ts.length → Off F va) ∧ (0 < (natsI s.gr).length → Off F vg)

theorem RM.only {w w' : World} {F : Nat → Prop} {m : Value} {s : St} (h : RM w F m s) (ho : Only F w w') : RM w' F m s := by
  obtain ⟨va, vg, hm, h1, h2, h3, h4⟩ := h
  exact ⟨va, vg, hm, h1.onlyN h3 ho, h2.onlyN h4 ho, h3, h4⟩

set_option maxRecDepth 100000 in
set_option maxHeartbeats 1000000 in
theorem rfind_any (w : World) (va vg : Value) (ts : List Int) (x : Int) (h : Ints w va ts) (hl : ts.length ≤ 1000000) :
    Calls Try.prog 14 #[.agg #[va, vg], .int .i64 x] w fun e w' => e = .returned (.int .i64 (Lib.idxOf ts x)) ∧ Below w.heap.size w w' := by
  obtain ⟨A, cap, rfl, hcap, _, hcell⟩ := h.below (below_alloc (.cells #[va, vg] 34))
  have HN := Lib.hid (fun k => idx_at ts k x)
  have HM := Lib.hid (idx_none ts x)
  go_enter Try.func14, Try.ntmps14
  go_wp2
  go_loop [5] (fun i => ∃ k : Nat, k ≤ ts.length ∧ i = .int .i64 k ∧ Hid (∀ j, j < k → getI ts j ≠ x)) (fun i => ts.length - (intOf i).toNat)
  case atStart => exact ⟨0, Nat.zero_le _, rfl, Lib.hid (fun j hj => absurd hj (Nat.not_lt_zero _))⟩
  case round =>
    obtain ⟨k, hk, rfl, hne⟩ := hrel
    by_cases hlt : k < ts.length
    · obtain ⟨b, off, rfl, hb, hc⟩ := hcell (by omega)
      have hck := hc k hlt
      clear hc hcell
      by_cases he : getI ts k = x
      · have HK := Lib.hid (HN.out k hlt he hne.out)
        have he' : (getI ts k == x) = true := by simpa using he
        clear he
        go_wp2
        go_ret
        exact ⟨ret_int HK.out.symm, below_alloc _⟩
      · have HK := Lib.hid he
        have he' : (getI ts k == x) = false := by simpa using he
        clear he
        go_wp2
        go_round
        case rel => exact ⟨k + 1, by omega, by go_num, Lib.hid (fun j hj => by
          by_cases e : j = k
          · rw [e]; exact HK.out
          · exact hne.out j (by omega))⟩
        case measure => simp [intOf]; omega
    · obtain rfl : k = ts.length := by omega
      have HK := Lib.hid (HM.out hne.out)
      clear hcell
      go_wp2
      go_ret
      exact ⟨ret_int HK.out.symm, below_alloc _⟩

/-- The result's two cells have been written. -/
structure After2 (w w1 : World) (B1 : Nat) (u0 u1 : Value) (w3 : World) : Prop where
  c0 : w3.cell? ⟨B1, 0, none⟩ = some u0
  c1 : w3.cell? ⟨B1, 1, none⟩ = some u1
  below : Below w.heap.size w w3
theorem After2.mk2 {w w1 : World} {B1 : Nat} {u0 u1 v0 v1 : Value} (hB : Below w.heap.size w w1) (c0 : w1.cell? ⟨B1, 0, none⟩ = some v0) (c1 : w1.cell? ⟨B1, 1, none⟩ = some v1) (hl : w.heap.size ≤ B1) :
    After2 w w1 B1 u0 u1 ((w1.setCell ⟨B1, 0, none⟩ u0).setCell ⟨B1, 1, none⟩ u1) := by
  refine ⟨?_, ?_, (hB.setCell (p := ⟨B1, 0, none⟩) hl _).setCell (p := ⟨B1, 1, none⟩) hl _⟩
  · rw [World.cell?_setCell_other _ _ _ _ (by simp)]
    exact World.cell?_setCell_same _ _ _ c0
  · refine World.cell?_setCell_same _ _ _ (?_ : (w1.setCell ⟨B1, 0, none⟩ u0).cell? ⟨B1, 1, none⟩ = some v1)
    rw [World.cell?_setCell_other _ _ _ _ (by simp)]
    exact c1

set_option maxRecDepth 100000 in
set_option maxHeartbeats 1000000 in
theorem radd_any (w : World) (F : Nat → Prop) (m : Value) (s : St) (x : Int) (h : RM w F m s) (hF : ∀ k, F k → k < w.heap.size) (ok : St.Ok s) (hl : s.ts.length ≤ 900000) :
    Calls Try.prog 13 #[m, .int .i64 x] w fun e w' => ∃ m', e = .returned m' ∧ RM w' F m' (s.add x) ∧ Below w.heap.size w w' := by
  obtain ⟨va, vg, rfl, h1, h2, h3, h4⟩ := h
  obtain ⟨A1, cap1, hv1⟩ : ∃ A c, va = .slice A s.ts.length c := by obtain ⟨A, c, e, _⟩ := h1; exact ⟨A, c, e⟩
  obtain ⟨A2, cap2, hv2⟩ : ∃ A c, vg = .slice A s.ts.length c := by obtain ⟨A, c, e, _⟩ := h2; exact ⟨A, c, by rw [e, natsI_length, ok.len]⟩
  subst hv1 hv2
  obtain ⟨va, hva⟩ : ∃ va, va = Value.slice A1 s.ts.length cap1 := ⟨_, rfl⟩
  obtain ⟨vg, hvg⟩ : ∃ vg, vg = Value.slice A2 s.ts.length cap2 := ⟨_, rfl⟩
  rw [← hva, ← hvg]
  rw [← hva] at h1 h3
  rw [← hvg] at h2 h4
  have b0 : (w.alloc (.cells #[va, vg] 34)).cell? ⟨w.heap.size, 0, none⟩ = some va := by simp
  have b1 : (w.alloc (.cells #[va, vg] 34)).cell? ⟨w.heap.size, 1, none⟩ = some vg := by simp
  obtain ⟨wa, hwa⟩ : ∃ wa, (w.alloc (.cells #[va, vg] 34)).alloc (.cells #[.slice none 0 0, .slice none 0 0] 34) = wa := ⟨_, rfl⟩
  have hBa : Below w.heap.size w wa := by rw [← hwa]; exact (below_alloc _).trans ((below_alloc _).mono (by simp))
  have hsa : wa.heap.size = w.heap.size + 2 := by rw [← hwa]; simp
  have a0 : wa.cell? ⟨w.heap.size, 0, none⟩ = some va := by rw [← hwa]; exact old_cell _ b0
  have a1 : wa.cell? ⟨w.heap.size, 1, none⟩ = some vg := by rw [← hwa]; exact old_cell _ b1
  have a2 : wa.cell? ⟨w.heap.size + 1, 0, none⟩ = some (.slice none 0 0) := by rw [← hwa]; simp
  have a3 : wa.cell? ⟨w.heap.size + 1, 1, none⟩ = some (.slice none 0 0) := by rw [← hwa]; simp
  have a4 : ∀ j, wa.frozen? ⟨w.heap.size + 1, j, none⟩ = false := fun j => by
    rw [← hwa]
    simp
  have HWA := Lib.hid hwa
  have HS := Lib.hid hsa
  have hsz : w.heap.size + 2 ≤ wa.heap.size := by omega
  clear b0 b1 hwa hsa
  rw [hva, hvg]
  go_enter Try.func13, Try.ntmps13
  go_wp2_with fail
  rw [← hva, ← hvg, HWA.out]
  refine (rfind_any _ _ _ s.ts x (hva ▸ h1.below hBa) (by omega)).mono ?_
  rintro e w1 ⟨rfl, hB⟩
  have hB1 := hBa.trans (hB.mono hBa.size)
  have d0 := (hB.cell (p := ⟨w.heap.size, 0, none⟩) (by simp; omega)).trans a0
  have d1 := (hB.cell (p := ⟨w.heap.size, 1, none⟩) (by simp; omega)).trans a1
  have d2 := (hB.cell (p := ⟨w.heap.size + 1, 0, none⟩) (by simp; omega)).trans a2
  have d3 := (hB.cell (p := ⟨w.heap.size + 1, 1, none⟩) (by simp; omega)).trans a3
  have d4 := (hB.frozen (p := ⟨w.heap.size + 1, 0, none⟩) (by simp; omega)).trans (a4 0)
  have d5 := (hB.frozen (p := ⟨w.heap.size + 1, 1, none⟩) (by simp; omega)).trans (a4 1)
  have hs1 : w.heap.size + 2 ≤ w1.heap.size := Nat.le_trans hsz hB.size
  clear a0 a1 a2 a3 a4 HWA HS hsz hB
  have HI1 := Lib.hid h1
  have HI2 := Lib.hid h2
  have HO1 := Lib.hid h3
  have HO2 := Lib.hid h4
  clear h1 h2 h3 h4
  subst hva hvg
  by_cases hx : x ∈ s.ts
  · rw [(St.find_in hx).1]
    have HA := Lib.hid (St.add_in hx)
    clear hx
    go_wp2
    have W : After2 w w1 (w.heap.size + 1) (.slice A1 s.ts.length cap1) (.slice A2 s.ts.length cap2) ((w1.setCell ⟨w.heap.size + 1, 0, none⟩ (.slice A1 s.ts.length cap1)).setCell ⟨w.heap.size + 1, 1, none⟩ (.slice A2 s.ts.length cap2)) := After2.mk2 hB1 d2 d3 (Nat.le_succ _)
    generalize ((w1.setCell ⟨w.heap.size + 1, 0, none⟩ (.slice A1 s.ts.length cap1)).setCell ⟨w.heap.size + 1, 1, none⟩ (.slice A2 s.ts.length cap2)) = w3 at *
    obtain ⟨q0, q1, hB3⟩ := W
    refine bodyPost_ret (v := .agg #[.slice A1 s.ts.length cap1, .slice A2 s.ts.length cap2]) ?_ rfl ⟨_, rfl, ?_, hB3⟩
    · simp [results, Try.results13, go_sem, q0, q1]
    · rw [HA.out]
      exact ⟨_, _, rfl, HI1.out.below hB3, HI2.out.below hB3, HO1.out, HO2.out⟩
  · rw [St.find_out hx]
    go_wp2
    have HA := Lib.hid (St.add_out hx)
    have hgl : (natsI s.gr).length = s.ts.length := by rw [natsI_length]; exact ok.len
    have hBl : w.heap.size + 1 < w1.heap.size := by omega
    have hold : ∀ {v : Value} {l : List Int} {b15 : Bool} {t20 t27 : Value} {w2 : World}, Ints w v l → Rs w1 (w.heap.size + 1) b15 t20 t27 w2 → Ints w2 v l := fun hI hR =>
      hI.below (hB1.trans ⟨hR.os, hR.tape, hR.output, hR.size, fun k h1 => hR.old k (by omega) (by omega)⟩)
    refine wp_region_any (by kernel_rfl) (wpAny_inv (fun listed a w2 => ∃ (b0 b1 b2 b3 b4 b5 b6 b7 b8 b9 b10 b11 b12 b13 b14 b15 : Bool) (t14 t15 t16 t17 t18 t19 t20 t21 t22 t23 t24 t25 t26 t27 t28 : Value), listed = #[b0, b1, b2, b3, b4, b5, b6, b7, b8, b9, b10, b11, b12, b13, b14, b15] ∧ a = { tmps := #[.agg #[.slice A1 s.ts.length cap1, .slice A2 s.ts.length cap2], .int .i64 x, .pointer (some ⟨w.heap.size, 0, none⟩), undef, .pointer (some ⟨w.heap.size + 1, 0, none⟩), .int .i64 (s.ts.length : Int), .agg #[.slice A1 s.ts.length cap1, .slice A2 s.ts.length cap2], .int .i64 x, .int .i64 (-1), .bool false, undef, .pointer (some ⟨w.heap.size, 0, none⟩), .slice A1 s.ts.length cap1, .int .i64 (s.ts.length : Int), t14, t15, t16, t17, t18, t19, t20, t21, t22, t23, t24, t25, t26, t27, t28], defers := [] } ∧ Fx w1 (w.heap.size + 1) s.ts (natsI s.gr) x (s.ts.length : Int) (.slice A1 s.ts.length cap1) (.slice A2 s.ts.length cap2) (.pointer (some ⟨w.heap.size, 0, none⟩)) (.pointer (some ⟨w.heap.size, 1, none⟩)) b0 b1 b2 b3 b4 b5 b6 b7 b8 b9 b10 b11 b12 b13 b14 b15 t14 t15 t16 t17 t18 t19 t20 t21 t22 t23 t24 t25 t26 t27 t28 w2) ?_ ?_ _ _ _ _ (missing_le _ _) ⟨false, false, false, false, false, false, false, false, false, false, false, false, false, false, false, false, undef, undef, undef, undef, undef, undef, undef, undef, undef, undef, undef, undef, undef, undef, undef, rfl, rfl, Fx.start _ _ _ _ _ _ _ _ _ _ _ _ _ _ _ _ _ _ _ _ _ _ _ _ _⟩)
    · intro listed a w2 hr hI
      obtain ⟨b0, b1, b2, b3, b4, b5, b6, b7, b8, b9, b10, b11, b12, b13, b14, b15, t14, t15, t16, t17, t18, t19, t20, t21, t22, t23, t24, t25, t26, t27, t28, rfl, rfl, H⟩ := hI
      obtain rfl : b0 = true := by simpa using not_ready hr 0 _ rfl (by simp)
      obtain rfl : b1 = true := by simpa using not_ready hr 1 _ rfl (by simp)
      obtain rfl : b2 = true := by simpa using not_ready hr 2 _ rfl (by simp)
      obtain rfl : b3 = true := by simpa using not_ready hr 3 _ rfl (by simp)
      obtain rfl : b4 = true := by simpa using not_ready hr 4 _ rfl (by simp)
      obtain rfl : b5 = true := by simpa using not_ready hr 5 _ rfl (by simp)
      obtain rfl : b6 = true := by simpa using not_ready hr 6 _ rfl (by simp)
      obtain rfl : b7 = true := by simpa using not_ready hr 7 _ rfl (by simp)
      obtain rfl : b8 = true := by simpa using not_ready hr 8 _ rfl (by simp)
      obtain rfl : b9 = true := by simpa using not_ready hr 9 _ rfl (by simp)
      obtain rfl : b10 = true := by simpa using not_ready hr 10 _ rfl (by simp)
      obtain rfl : b11 = true := by simpa using not_ready hr 11 _ rfl (by simp)
      obtain rfl : b12 = true := by simpa using not_ready hr 12 _ rfl (by simp)
      obtain rfl : b13 = true := by simpa using not_ready hr 13 _ rfl (by simp)
      obtain rfl : b14 = true := by simpa using not_ready hr 14 _ rfl (by simp)
      obtain rfl : b15 = true := by simpa using not_ready hr 15 _ rfl (by simp)
      clear hr
      obtain ⟨q0, q1⟩ := H.rs.fin rfl
      obtain ⟨FA, FB, hd, CA, CB⟩ := H.two
      have hB3 : Below w.heap.size w w2 := hB1.trans ⟨H.rs.os, H.rs.tape, H.rs.output, H.rs.size, fun k h1 => H.rs.old k (by omega) (by omega)⟩
      have o1 := (CA.h3 rfl).1
      have o2 := (CB.h3 rfl).1
      have hoff : ∀ {v : Value} {m : Nat} {zs : List Value}, w2.ownsRow w1.heap.size 3 1 v m zs → Off F v := fun ho b hb hf => by
        have h1 := (ho.lt b hb).1
        have h2 := hF b hf
        omega
      have r1 : RM w2 F (.agg #[t20, t27]) (s.add x) := by
        rw [HA.out]
        refine ⟨t20, t27, rfl, Ints.of_own (base := w1.heap.size) (e := 3) ?_, Ints.of_own (base := w1.heap.size) (e := 3) ?_, fun _ => hoff o1, fun _ => hoff o2⟩
        · rw [List.length_append]; exact o1
        · show w2.ownsRow w1.heap.size 3 1 t27 (natsI (s.gr ++ [s.ts.length])).length ((natsI (s.gr ++ [s.ts.length])).map (Value.int .i64))
          rw [natsI_snoc, List.length_append]; exact o2
      have R1 := Lib.hid r1
      clear H CA CB o1 o2 hoff r1 hd
      go_wp2
      refine bodyPost_ret (v := .agg #[t20, t27]) ?_ rfl ⟨_, rfl, R1.out, hB3⟩
      simp [results, Try.results13, go_sem, q0, q1]
    · intro listed a w2 i hi hI
      obtain ⟨b0, b1, b2, b3, b4, b5, b6, b7, b8, b9, b10, b11, b12, b13, b14, b15, t14, t15, t16, t17, t18, t19, t20, t21, t22, t23, t24, t25, t26, t27, t28, rfl, rfl, H⟩ := hI
      obtain ⟨hb, o, ho, hdep⟩ := mem_ready.1 hi
      have hlt : i < 16 := (Array.getElem?_eq_some_iff.1 ho).1
      clear hi
      obtain rfl | rfl | rfl | rfl | rfl | rfl | rfl | rfl | rfl | rfl | rfl | rfl | rfl | rfl | rfl | rfl : i = 0 ∨ i = 1 ∨ i = 2 ∨ i = 3 ∨ i = 4 ∨ i = 5 ∨ i = 6 ∨ i = 7 ∨ i = 8 ∨ i = 9 ∨ i = 10 ∨ i = 11 ∨ i = 12 ∨ i = 13 ∨ i = 14 ∨ i = 15 := by omega
      all_goals (obtain rfl := Option.some.inj ho; clear ho hlt)
      · -- operation 0
        obtain rfl : b0 = false := by simpa using hb
        refine wpOp_of' rfl rfl fun K' hK => ?_
        go_simp
        exact hK _ _ ⟨true, b1, b2, b3, b4, b5, b6, b7, b8, b9, b10, b11, b12, b13, b14, b15, .slice (some ⟨w2.heap.size, 0, none⟩) 0 0, t15, t16, t17, t18, t19, t20, t21, t22, t23, t24, t25, t26, t27, t28, rfl, rfl, H.step0 hBl⟩
      · -- operation 1
        obtain rfl : b1 = false := by simpa using hb
        refine wpOp_of' rfl rfl fun K' hK => ?_
        go_simp
        exact hK _ _ ⟨b0, true, b2, b3, b4, b5, b6, b7, b8, b9, b10, b11, b12, b13, b14, b15, t14, .pointer (some ⟨w.heap.size, 0, none⟩), t16, t17, t18, t19, t20, t21, t22, t23, t24, t25, t26, t27, t28, rfl, rfl, H.step1⟩
      · -- operation 2
        obtain rfl : b2 = false := by simpa using hb
        obtain rfl : b1 = true := by simpa using hdep { on := 1, ground := .data } (by simp) rfl
        obtain rfl := H.e1 rfl
        have q0 := (World.cell?_of_block (a := ⟨w.heap.size, 0, none⟩) (H.rs.old w.heap.size (by omega) (by omega))).trans d0
        refine wpOp_of' rfl rfl fun K' hK => ?_
        go_simp
        exact hK _ _ ⟨b0, true, true, b3, b4, b5, b6, b7, b8, b9, b10, b11, b12, b13, b14, b15, t14, _, .slice A1 s.ts.length cap1, t17, t18, t19, t20, t21, t22, t23, t24, t25, t26, t27, t28, rfl, rfl, H.step2⟩
      · -- operation 3
        obtain rfl : b3 = false := by simpa using hb
        obtain rfl : b0 = true := by simpa using hdep { on := 0, ground := .data } (by simp) rfl
        obtain rfl : b2 = true := by simpa using hdep { on := 2, ground := .data } (by simp) rfl
        obtain ⟨FA, FB, hd, CA, CB⟩ := H.two
        obtain rfl := H.e2 rfl
        refine wpOp_of rfl rfl (wp_append_ints (.tmp 14) (.tmp 16) rfl w1.heap.size t14 0 [] rfl (CA.h0 rfl rfl).1 _ s.ts rfl (hold HI1.out H.rs) (by omega) H.rs.size fun v' w3 g1 g2 g3 => ?_)
        exact ⟨true, b1, true, true, b4, b5, b6, b7, b8, b9, b10, b11, b12, b13, b14, b15, t14, t15, _, v', t18, t19, t20, t21, t22, t23, t24, t25, t26, t27, t28, rfl, rfl, H.step3 hBl g1 g2 g3⟩
      · -- operation 4
        obtain rfl : b4 = false := by simpa using hb
        refine wpOp_of' rfl rfl fun K' hK => ?_
        go_simp
        exact hK _ _ ⟨b0, b1, b2, b3, true, b5, b6, b7, b8, b9, b10, b11, b12, b13, b14, b15, t14, t15, t16, t17, .int .i64 x, t19, t20, t21, t22, t23, t24, t25, t26, t27, t28, rfl, rfl, H.step4⟩
      · -- operation 5
        obtain rfl : b5 = false := by simpa using hb
        obtain rfl : b4 = true := by simpa using hdep { on := 4, ground := .data } (by simp) rfl
        obtain rfl := H.e4 rfl
        refine wpOp_of' rfl rfl fun K' hK => ?_
        go_simp
        exact hK _ _ ⟨b0, b1, b2, b3, true, true, b6, b7, b8, b9, b10, b11, b12, b13, b14, b15, t14, t15, t16, t17, _, .slice (some ⟨w2.heap.size, 0, none⟩) 1 1, t20, t21, t22, t23, t24, t25, t26, t27, t28, rfl, rfl, H.step5 hBl⟩
      · -- operation 6
        obtain rfl : b6 = false := by simpa using hb
        obtain rfl : b3 = true := by simpa using hdep { on := 3, ground := .data } (by simp) rfl
        obtain rfl : b5 = true := by simpa using hdep { on := 5, ground := .data } (by simp) rfl
        obtain ⟨FA, FB, hd, CA, CB⟩ := H.two
        refine wpOp_of rfl rfl (wp_append_ints (.tmp 17) (.tmp 19) rfl w1.heap.size t17 s.ts.length (s.ts.map (Value.int .i64)) rfl (CA.h1 rfl rfl).1 _ [x] rfl CA.src2 (by simp; omega) H.rs.size fun v' w3 g1 g2 g3 => ?_)
        exact ⟨b0, b1, b2, true, b4, true, true, b7, b8, b9, b10, b11, b12, b13, b14, b15, t14, t15, t16, t17, t18, t19, v', t21, t22, t23, t24, t25, t26, t27, t28, rfl, rfl, H.step6 hBl g1 g2 g3⟩
      · -- operation 7
        obtain rfl : b7 = false := by simpa using hb
        refine wpOp_of' rfl rfl fun K' hK => ?_
        go_simp
        exact hK _ _ ⟨b0, b1, b2, b3, b4, b5, b6, true, b8, b9, b10, b11, b12, b13, b14, b15, t14, t15, t16, t17, t18, t19, t20, .slice (some ⟨w2.heap.size, 0, none⟩) 0 0, t22, t23, t24, t25, t26, t27, t28, rfl, rfl, H.step7 hBl⟩
      · -- operation 8
        obtain rfl : b8 = false := by simpa using hb
        refine wpOp_of' rfl rfl fun K' hK => ?_
        go_simp
        exact hK _ _ ⟨b0, b1, b2, b3, b4, b5, b6, b7, true, b9, b10, b11, b12, b13, b14, b15, t14, t15, t16, t17, t18, t19, t20, t21, .pointer (some ⟨w.heap.size, 1, none⟩), t23, t24, t25, t26, t27, t28, rfl, rfl, H.step8⟩
      · -- operation 9
        obtain rfl : b9 = false := by simpa using hb
        obtain rfl : b8 = true := by simpa using hdep { on := 8, ground := .data } (by simp) rfl
        obtain rfl := H.e8 rfl
        have q0 := (World.cell?_of_block (a := ⟨w.heap.size, 1, none⟩) (H.rs.old w.heap.size (by omega) (by omega))).trans d1
        refine wpOp_of' rfl rfl fun K' hK => ?_
        go_simp
        exact hK _ _ ⟨b0, b1, b2, b3, b4, b5, b6, b7, true, true, b10, b11, b12, b13, b14, b15, t14, t15, t16, t17, t18, t19, t20, t21, _, .slice A2 s.ts.length cap2, t24, t25, t26, t27, t28, rfl, rfl, H.step9⟩
      · -- operation 10
        obtain rfl : b10 = false := by simpa using hb
        obtain rfl : b7 = true := by simpa using hdep { on := 7, ground := .data } (by simp) rfl
        obtain rfl : b9 = true := by simpa using hdep { on := 9, ground := .data } (by simp) rfl
        obtain ⟨FA, FB, hd, CA, CB⟩ := H.two
        obtain rfl := H.e9 rfl
        refine wpOp_of rfl rfl (wp_append_ints (.tmp 21) (.tmp 23) rfl w1.heap.size t21 0 [] rfl (CB.h0 rfl rfl).1 _ (natsI s.gr) rfl (hold HI2.out H.rs) (by omega) H.rs.size fun v' w3 g1 g2 g3 => ?_)
        exact ⟨b0, b1, b2, b3, b4, b5, b6, true, b8, true, true, b11, b12, b13, b14, b15, t14, t15, t16, t17, t18, t19, t20, t21, t22, _, v', t25, t26, t27, t28, rfl, rfl, H.step10 hBl g1 g2 g3⟩
      · -- operation 11
        obtain rfl : b11 = false := by simpa using hb
        refine wpOp_of' rfl rfl fun K' hK => ?_
        go_simp
        exact hK _ _ ⟨b0, b1, b2, b3, b4, b5, b6, b7, b8, b9, b10, true, b12, b13, b14, b15, t14, t15, t16, t17, t18, t19, t20, t21, t22, t23, t24, .int .i64 (s.ts.length : Int), t26, t27, t28, rfl, rfl, H.step11⟩
      · -- operation 12
        obtain rfl : b12 = false := by simpa using hb
        obtain rfl : b11 = true := by simpa using hdep { on := 11, ground := .data } (by simp) rfl
        obtain rfl := H.e11 rfl
        refine wpOp_of' rfl rfl fun K' hK => ?_
        go_simp
        exact hK _ _ ⟨b0, b1, b2, b3, b4, b5, b6, b7, b8, b9, b10, true, true, b13, b14, b15, t14, t15, t16, t17, t18, t19, t20, t21, t22, t23, t24, _, .slice (some ⟨w2.heap.size, 0, none⟩) 1 1, t27, t28, rfl, rfl, H.step12 hBl⟩
      · -- operation 13
        obtain rfl : b13 = false := by simpa using hb
        obtain rfl : b10 = true := by simpa using hdep { on := 10, ground := .data } (by simp) rfl
        obtain rfl : b12 = true := by simpa using hdep { on := 12, ground := .data } (by simp) rfl
        obtain ⟨FA, FB, hd, CA, CB⟩ := H.two
        refine wpOp_of rfl rfl (wp_append_ints (.tmp 24) (.tmp 26) rfl w1.heap.size t24 (natsI s.gr).length ((natsI s.gr).map (Value.int .i64)) rfl (CB.h1 rfl rfl).1 _ [(s.ts.length : Int)] rfl CB.src2 (by simp; omega) H.rs.size fun v' w3 g1 g2 g3 => ?_)
        exact ⟨b0, b1, b2, b3, b4, b5, b6, b7, b8, b9, true, b11, true, true, b14, b15, t14, t15, t16, t17, t18, t19, t20, t21, t22, t23, t24, t25, t26, v', t28, rfl, rfl, H.step13 hBl g1 g2 g3⟩
      · -- operation 14
        obtain rfl : b14 = false := by simpa using hb
        obtain rfl : b6 = true := by simpa using hdep { on := 6, ground := .data } (by simp) rfl
        obtain rfl : b13 = true := by simpa using hdep { on := 13, ground := .data } (by simp) rfl
        obtain ⟨FA, FB, hd, CA, CB⟩ := H.two
        obtain ⟨A5, cap5, hs5⟩ := own_shape (CA.h3 rfl).1
        obtain ⟨A6, cap6, hs6⟩ := own_shape (CB.h3 rfl).1
        rw [hgl] at hs6
        subst hs5 hs6
        have HH := Lib.hid H.step14
        clear H CA CB
        refine wpOp_of' rfl rfl fun K' hK => ?_
        go_simp
        exact hK _ _ ⟨b0, b1, b2, b3, b4, b5, true, b7, b8, b9, b10, b11, b12, true, true, b15, t14, t15, t16, t17, t18, t19, _, t21, t22, t23, t24, t25, t26, _, .agg #[_, _], rfl, rfl, HH.out⟩
      · -- operation 15
        obtain rfl : b15 = false := by simpa using hb
        obtain rfl : b14 = true := by simpa using hdep { on := 14, ground := .data } (by simp) rfl
        obtain ⟨rfl, rfl⟩ := H.l14 rfl
        obtain ⟨FA, FB, hd, CA, CB⟩ := H.two
        obtain rfl := H.e14 rfl
        obtain ⟨A5, cap5, hs5⟩ := own_shape (CA.h3 rfl).1
        obtain ⟨A6, cap6, hs6⟩ := own_shape (CB.h3 rfl).1
        rw [hgl] at hs6
        have q0 := (World.cell?_of_block (a := ⟨w.heap.size + 1, 0, none⟩) (H.rs.box rfl)).trans d2
        have q1 := (World.cell?_of_block (a := ⟨w.heap.size + 1, 1, none⟩) (H.rs.box rfl)).trans d3
        have q2 := (World.frozen?_of_block (a := ⟨w.heap.size + 1, 0, none⟩) (H.rs.box rfl)).trans d4
        have q3 := (World.frozen?_of_block (a := ⟨w.heap.size + 1, 1, none⟩) (H.rs.box rfl)).trans d5
        have H' := H.step15 hBl ⟨_, d2⟩ ⟨_, d3⟩
        subst hs5 hs6
        have HH := Lib.hid H'
        clear H H' CA CB
        refine wpOp_of' rfl rfl fun K' hK => ?_
        go_simp
        exact hK _ _ ⟨b0, b1, b2, b3, b4, b5, true, b7, b8, b9, b10, b11, b12, true, true, true, t14, t15, t16, t17, t18, t19, _, t21, t22, t23, t24, t25, t26, _, _, rfl, rfl, HH.out⟩

end Go.Proofs.Ytfofidbgjfmepaa
