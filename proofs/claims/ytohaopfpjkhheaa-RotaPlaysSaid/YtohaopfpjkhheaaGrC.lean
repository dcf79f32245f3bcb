/-
  The document's Right.
-/
import Derived.Test.YtohaopfpjkhheaaGrB
namespace Go.Proofs.Ytohaopfpjkhheaa
open Go.RowKit

theorem rright_loop {n : Int} {l : List Ed} {k : Nat} (hA : allE n l k) (h : edOk n (getE l k) = true) : allE n l (k + 1) := fun j hj => by
  by_cases e : j = k
  · subst e; exact h
  · exact hA j (by omega)

theorem edOk_iff (n : Int) (e : Ed) : edOk n e = true ↔ 0 ≤ e.a ∧ e.a < n ∧ 0 ≤ e.b ∧ e.b < n := by
  unfold edOk inB
  rw [Bool.and_eq_true, decide_eq_true_eq, decide_eq_true_eq]
  exact ⟨fun h => ⟨h.1.1, h.1.2, h.2.1, h.2.2⟩, fun h => ⟨⟨h.1, h.2.1⟩, h.2.2.1, h.2.2.2⟩⟩

set_option maxRecDepth 100000 in
set_option maxHeartbeats 2000000 in
theorem rright_any (v : Value) (g : Gph) (w : World) (h : Gr w v g) (hl : g.e.length ≤ 1000000) :
    Calls Try.prog 54 #[v] w fun e w' => e = .returned (.int .i64 g.err) ∧ Below w.heap.size w w' := by
  obtain ⟨n, l⟩ := g
  obtain ⟨ve, rfl, h1⟩ := h
  simp only at h1 hl ⊢
  have hm := (below_alloc (w := w) (.cells #[.int .i64 n, ve] 24))
  obtain ⟨A, cap, rfl, hcap, _, hcell⟩ := h1.below hm
  have hlp : (0 : Int) ≤ (l.length : Int) := by omega
  by_cases hn : n < 0
  · have HN : Hid (Gph.err ⟨n, l⟩ = 3) := if_pos hn
    go_enter Try.func54, Try.ntmps54
    go_wp2
    go_ret
    exact ⟨ret_int HN.out.symm, below_alloc _⟩
  by_cases hb : n > 1024 - (l.length : Int)
  · have HN : Hid (Gph.err ⟨n, l⟩ = 2) := (if_neg hn).trans (if_pos hb)
    by_cases hn2 : 1024 < n
    · go_enter Try.func54, Try.ntmps54
      go_wp2
      go_ret
      exact ⟨ret_int HN.out.symm, below_alloc _⟩
    by_cases hl2 : (1024 : Int) < (l.length : Int)
    · go_enter Try.func54, Try.ntmps54
      go_wp2
      go_ret
      exact ⟨ret_int HN.out.symm, below_alloc _⟩
    have hs : (1024 : Int) < n + (l.length : Int) := by omega
    go_enter Try.func54, Try.ntmps54
    go_wp2
    go_ret
    exact ⟨ret_int HN.out.symm, below_alloc _⟩
  have HE : Hid (Gph.err ⟨n, l⟩ = if l.all (edOk n) then 0 else 3) := (if_neg hn).trans (if_neg hb)
  have c0 := cell_two0 w (.int .i64 n) (.slice A l.length cap) 24
  have c1 := cell_two1 w (.int .i64 n) (.slice A l.length cap) 24
  have hlt0 : w.heap.size < (w.alloc (.cells #[.int .i64 n, .slice A l.length cap] 24)).heap.size := by simp
  have hs : n + (l.length : Int) ≤ 1024 := by omega
  go_enter Try.func54, Try.ntmps54
  go_wp2
  generalize w.alloc (.cells #[.int .i64 n, .slice A l.length cap] 24) = w1 at *
  go_loopw [3] (fun i wr => ∃ k m : Nat, k ≤ l.length ∧ i = .int .i64 k ∧ wr = w1.drewN m ∧ Hid (allE n l k)) (fun i _ => l.length - (Go.RowKit.intOf i).toNat)
  case atStart => exact ⟨0, 0, Nat.zero_le _, rfl, rfl, Lib.hid (fun j hj => absurd hj (Nat.not_lt_zero _))⟩
  case round =>
    obtain ⟨k, m, hk, rfl, rfl, hA⟩ := hrel
    by_cases hlt : k < l.length
    · obtain ⟨b, off, rfl, hb1, hc⟩ := hcell (by omega)
      obtain ⟨hca, hcb⟩ := hc k hlt
      have HO : Hid (edOk n (getE l k) = true → allE n l (k + 1)) := fun h => rright_loop hA.out h
      have HF : Hid (edOk n (getE l k) = false → Gph.err ⟨n, l⟩ = 3) := fun h => by rw [HE.out, allE_not n l k hlt h]; rfl
      have HX := Lib.hid (edOk_iff n (getE l k))
      have HMB : Hid (∀ m, Below w.heap.size w (w1.drewN m)) := fun m => below_drewN hm m
      clear hc hcell hA HE
      generalize (getE l k).a = x at *
      generalize (getE l k).b = y at *
      by_cases x0 : x < 0
      · have HOK : Hid (Gph.err ⟨n, l⟩ = 3) := HF.out (Bool.eq_false_iff.2 (fun h => by have := HX.out.1 h; omega))
        go_wp2_with fail
        go_quiet (fail)
        go_wp2
        go_ret
        exact ⟨ret_int HOK.out.symm, by rw [World.drewN_drewN]; exact HMB.out _⟩
      have d0 : decide (x < 0) = false := decide_eq_false x0
      by_cases x1 : n ≤ x
      · have HOK : Hid (Gph.err ⟨n, l⟩ = 3) := HF.out (Bool.eq_false_iff.2 (fun h => by have := HX.out.1 h; omega))
        go_wp2_with fail
        go_quiet (fail)
        go_wp2
        go_ret
        exact ⟨ret_int HOK.out.symm, by rw [World.drewN_drewN]; exact HMB.out _⟩
      have d1 : decide (n ≤ x) = false := decide_eq_false x1
      by_cases y0 : y < 0
      · have HOK : Hid (Gph.err ⟨n, l⟩ = 3) := HF.out (Bool.eq_false_iff.2 (fun h => by have := HX.out.1 h; omega))
        go_wp2_with fail
        go_quiet (fail)
        go_wp2
        go_ret
        exact ⟨ret_int HOK.out.symm, by rw [World.drewN_drewN]; exact HMB.out _⟩
      have d2 : decide (y < 0) = false := decide_eq_false y0
      by_cases y1 : n ≤ y
      · have HOK : Hid (Gph.err ⟨n, l⟩ = 3) := HF.out (Bool.eq_false_iff.2 (fun h => by have := HX.out.1 h; omega))
        go_wp2_with fail
        go_quiet (fail)
        go_wp2
        go_ret
        exact ⟨ret_int HOK.out.symm, by rw [World.drewN_drewN]; exact HMB.out _⟩
      have d3 : decide (n ≤ y) = false := decide_eq_false y1
      have HOK := Lib.hid (HO.out (HX.out.2 (by omega)))
      go_wp2_with fail
      go_quiet (fail)
      go_wp2
      go_roundw
      case rel => exact ⟨k + 1, _, by omega, by go_num, rfl, HOK⟩
      case measure => simp [Go.RowKit.intOf]; omega
    · obtain rfl : k = l.length := by omega
      have HK : Hid (Gph.err ⟨n, l⟩ = 0) := by rw [HE.out, allE_all n l hA.out]; rfl
      go_wp2
      go_ret
      exact ⟨ret_int HK.out.symm, below_drewN hm m⟩

end Go.Proofs.Ytohaopfpjkhheaa
