/-
  The program's New.
-/
import Derived.Test.YtfofidbgjfmepaaStF
namespace Go.Proofs.Ytfofidbgjfmepaa
open Go.RowKit Go.Maps

/-- Things put in, one behind the other. -/
def St.news (l : List Int) : St := l.foldl St.add St.empty
theorem St.news_succ (l : List Int) (k : Nat) (h : k < l.length) : St.news (l.take (k + 1)) = (St.news (l.take k)).add (getI l k) := by
  unfold St.news; rw [take_succ_getI l k h, List.foldl_append]; rfl
theorem St.len_news_aux : ∀ (l : List Int) (s : St), (l.foldl St.add s).ts.length ≤ s.ts.length + l.length
  | [], s => by simp
  | x :: l, s => by
    have h := St.len_news_aux l (s.add x)
    have h2 := St.len_add s x
    simp only [List.foldl_cons, List.length_cons]
    omega
theorem St.len_news (l : List Int) : (St.news l).ts.length ≤ l.length := by
  have := St.len_news_aux l St.empty
  simp [St.empty] at this
  exact this

theorem holds_start (w : World) :
    Holds ((w.alloc (.map #[] 0)).alloc (.cells #[.slice none 0 0, .map (some w.heap.size), .slice none 0 0, .int .i64 0] 47)) (fun k => k = w.heap.size ∨ k = w.heap.size + 1) (w.heap.size + 1) St.empty := by
  have hm := (World.ownsMap_made w Try.prog 3 (plainElem (H := Unit) Try.prog 3)).alloc (.cells #[.slice none 0 0, .map (some w.heap.size), .slice none 0 0, .int .i64 0] 47)
  refine ⟨.slice none 0 0, .slice none 0 0, w.heap.size, .map [], [], ⟨?_, World.ownsRow_nil _ _ _ _, World.ownsRow_nil _ _ _ _, .inl rfl, hm, Tells.start, ⟨rfl, fun i h => absurd h (Nat.not_lt_zero _)⟩, St.ok_empty, .inr rfl, .inl rfl, fun k hk => (by cases hk), fun k hk => (by cases hk), ?_⟩⟩
  · have := heap_alloc_new (w.alloc (.map #[] 0)) (.cells #[.slice none 0 0, .map (some w.heap.size), .slice none 0 0, .int .i64 0] 47)
    rw [show (w.alloc (.map #[] 0)).heap.size = w.heap.size + 1 by simp] at this
    exact this
  · rintro k (rfl | rfl) <;> simp <;> omega

set_option maxRecDepth 100000 in
set_option maxHeartbeats 1000000 in
theorem new_any (w : World) (v : Value) (l : List Int) (h : Ints w v l) (hwf : ∀ x ∈ l, (Lit.int .i64 x).wf = true) (hl : l.length ≤ 100000) :
    Calls Try.prog 8 #[v] w fun e w' => ∃ sb F', e = .returned (.pointer (some ⟨sb, 0, none⟩)) ∧ Holds w' F' sb (St.news l) ∧ Below w.heap.size w w' ∧ ∀ k, F' k → w.heap.size ≤ k := by
  obtain ⟨A, cap, rfl, hcap, hm, hcell⟩ := h
  have hmm := @run_makeMap Try.prog
  have HS := Lib.hid (holds_start w)
  have HB0 : Below w.heap.size w ((w.alloc (.map #[] 0)).alloc (.cells #[.slice none 0 0, .map (some w.heap.size), .slice none 0 0, .int .i64 0] 47)) :=
    ((Below.refl _ w).alloc (Nat.le_refl _) _).alloc (by simp) _
  go_enter Try.func8, Try.ntmps8
  go_wp2
  go_loopw [11] (fun i wr => ∃ k : Nat, k ≤ l.length ∧ i = .int .i64 (k : Int) ∧ ∃ F, Holds wr F (w.heap.size + 1) (St.news (l.take k)) ∧ Below w.heap.size w wr ∧ ∀ k, F k → w.heap.size ≤ k) (fun i _ => l.length - (intOf i).toNat)
  case atStart => exact ⟨0, Nat.zero_le _, rfl, _, HS.out, HB0, by rintro k (rfl | rfl) <;> omega⟩
  case round =>
    obtain ⟨k, hk, rfl, F, hH, hB, hF⟩ := hrel
    rename_i wr
    by_cases hlt : k < l.length
    · obtain ⟨b, off, rfl, hb, hc⟩ := hcell (by omega)
      have hck := (hB.cell (p := ⟨b, off + k, none⟩) hb).trans (hc k hlt)
      have HW := hwf (getI l k) ((mem_getI _ _).2 ⟨k, hlt, rfl⟩)
      have HN := Lib.hid (St.news_succ l k hlt)
      have hln := St.len_news (l.take k)
      rw [List.length_take] at hln
      have HC := Lib.hid (add_any wr F (w.heap.size + 1) _ (getI l k) hH HW (by omega))
      have hFl := Lib.hid (fun k hk => hF k hk)
      clear hc hcell hH HS HB0 hF hwf hln
      go_wp2_with fail
      refine HC.out.mono ?_
      rintro e w1 ⟨rfl, F1, hH1, hO1, hF1⟩
      have HB1 := hB.trans (hO1.below hB.size hFl.out)
      have hz := hB.size
      go_wp2
      go_roundw
      case rel => exact ⟨k + 1, by omega, by go_num, F1, by rw [HN.out]; exact hH1, HB1, fun j hj => (hF1 j hj).elim (hFl.out j) (fun h => by omega)⟩
      case measure => simp [intOf]; omega
    · obtain rfl : k = l.length := by omega
      have HT := Lib.hid (List.take_length (l := l))
      rw [HT.out] at hH
      clear hcell
      go_wp2
      go_ret
      exact ⟨_, F, rfl, hH, hB, hF⟩

end Go.Proofs.Ytfofidbgjfmepaa
