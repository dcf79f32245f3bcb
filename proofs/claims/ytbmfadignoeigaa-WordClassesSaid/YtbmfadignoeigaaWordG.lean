/-
  The document's test of a name: its call answers whether the text is a name.
-/
import Derived.Test.YtbmfadignoeigaaWordF
import Derived.Test.YtbmfadignoeigaaWordN
namespace Go.Proofs.Ytbmfadignoeigaa
open Go.RowKit

set_option maxRecDepth 100000 in
set_option maxHeartbeats 4000000 in
theorem refName_any (s : ByteArray) (w : World) (hs : s.size ≤ 1000000) :
    Calls Try.prog 18 #[.string s] w fun e w' => e = .returned (.bool (nameB s)) ∧ Below w.heap.size w w' := by
  have hlen := clsFrom_length s s.size 0
  have hlen' : (clsOf s).length ≤ s.size := by unfold clsOf; omega
  have HN := Lib.hid (nameB_eq s)
  go_enter Try.func18, Try.ntmps18
  go_wp2_with fail
  refine (classes_any s w hs).mono ?_
  rintro e w1 ⟨v, rfl, hown, hB⟩
  obtain ⟨hxl, A, cap, rfl, hcap, hcell⟩ := Sl.of_own hown
  clear hown hlen hxl
  generalize clsOf s = l at *
  by_cases h0 : l.length = 0
  · have HF := Lib.hid (show nameL l = false by simp [nameL, h0])
    have h0' : l.length < 1 := by omega
    clear h0
    go_wp2
    go_ret
    exact ⟨ret_bool (by rw [HN.out, HF.out]), hB⟩
  obtain ⟨g, rfl, hg, hc⟩ := hcell (by omega)
  have hcc : ∀ j, j < l.length → w1.cell? ⟨g, j, none⟩ = some (.int .i64 (getI l j)) := fun j hj => hc j _ (ints_get _ l j hj)
  clear hcell hc
  by_cases h16 : 16 < l.length
  · have HF := Lib.hid (show nameL l = false by simp [nameL]; omega)
    go_wp2
    go_ret
    exact ⟨ret_bool (by rw [HN.out, HF.out]), hB⟩
  have hc0 := hcc 0 (by omega)
  by_cases h1 : getI l 0 = 1
  case neg =>
    have HF := Lib.hid (show nameL l = false by
      unfold getI at h1
      have : ¬ (1 ≤ l.length ∧ l.length ≤ 16 ∧ l.getD 0 0 = 1 ∧ l.length - strip l l.length ≤ 3) := fun h => h1 h.2.2.1
      simp only [nameL, this, decide_false, Bool.false_and])
    have h1' : (getI l 0 != 1) = true := by simpa using h1
    clear h1
    go_wp2
    go_ret
    exact ⟨ret_bool (by rw [HN.out, HF.out]), hB⟩
  have h1' : (getI l 0 != 1) = false := by simpa using h1
  have H1 := Lib.hid h1
  clear h1
  go_wp2
  go_loop [4] (fun n => ∃ k : Nat, k ≤ l.length ∧ n = .int .i64 k ∧ strip l k = strip l l.length) (fun n => (intOf n).toNat)
  case atStart => exact ⟨l.length, by omega, rfl, rfl⟩
  case round =>
    obtain ⟨k, hk, rfl, hst⟩ := hrel
    have HS := Lib.hid hst
    clear hst
    by_cases hk0 : 0 < k ∧ getI l (k - 1) = 3
    · obtain ⟨hk0, h3⟩ := hk0
      obtain ⟨k, rfl⟩ : ∃ k', k = k' + 1 := ⟨k - 1, by omega⟩
      simp only [Nat.add_sub_cancel] at h3
      have hck := hcc k (by omega)
      have h3' : (getI l k == 3) = true := by simpa using h3
      have HK := Lib.hid (show strip l (k + 1) = strip l k by unfold getI at h3; rw [strip, if_pos h3])
      clear h3
      go_wp2
      go_round
      case rel => exact ⟨k, by omega, by go_num, by rw [← HS.out, HK.out]⟩
      case measure => simp [intOf]
    · have HK := Lib.hid (show strip l l.length = k by
        rw [← HS.out]
        match k, hk0 with
        | 0, _ => rfl
        | k + 1, h => unfold getI at h; simp only [Nat.add_sub_cancel] at h; rw [strip, if_neg (fun h' => h ⟨by omega, h'⟩)])
      have hkb : k ≤ 0 ∨ (0 < k ∧ w1.cell? ⟨g, k - 1, none⟩ = some (.int .i64 (getI l (k - 1))) ∧ (getI l (k - 1) == 3) = false) := by
        by_cases h : k ≤ 0
        · exact .inl h
        · refine .inr ⟨by omega, hcc (k - 1) (by omega), ?_⟩
          simp; intro h'; exact hk0 ⟨by omega, h'⟩
      clear hk0
      have HE := Lib.hid (show nameL l = (decide (l.length - k ≤ 3) && okTo l k) by
        have e1 := H1.out
        unfold getI at e1
        unfold nameL
        rw [HK.out]
        have e2 : (1 ≤ l.length ∧ l.length ≤ 16 ∧ l.getD 0 0 = 1 ∧ l.length - k ≤ 3) ↔ l.length - k ≤ 3 := ⟨fun h => h.2.2.2, fun h => ⟨by omega, by omega, e1, h⟩⟩
        simp only [e2])
      rcases hkb with hk0 | ⟨hk0, hck, hk3⟩
      all_goals
        by_cases hl3 : l.length - k ≤ 3
        case neg =>
          have hl3' : (3 : Int) < (l.length : Int) - k := by omega
          have HF := Lib.hid (show nameL l = false by rw [HE.out]; simp [hl3])
          go_wp2
          go_ret
          exact ⟨ret_bool (by rw [HN.out, HF.out]), hB⟩
        go_wp2
        go_loop [5] (fun i => ∃ j : Nat, j ≤ k ∧ i = .int .i64 j ∧ okTo l j = true) (fun i => k - (intOf i).toNat)
        case atStart => exact ⟨0, by omega, rfl, rfl⟩
        case round =>
          obtain ⟨j, hj, rfl, hok⟩ := hrel
          have HO := Lib.hid hok
          clear hok
          by_cases hjk : j < k
          · have hcj := hcc j (by omega)
            by_cases hy : getI l j = 1 ∨ getI l j = 2
            · have HY := Lib.hid (show okTo l (j + 1) = true by unfold getI at hy; rw [okTo, HO.out]; simp only [Bool.true_and, Bool.or_eq_true, decide_eq_true_eq]; exact hy)
              by_cases hy1 : getI l j = 1
              · have hy1' : (getI l j != 1) = false := by simpa using hy1
                clear hy hy1
                go_wp2
                go_round
                case rel => exact ⟨j + 1, by omega, by go_num, HY.out⟩
                case measure => simp [intOf]; omega
              · have hy1' : (getI l j != 1) = true := by simpa using hy1
                have hy2' : (getI l j != 2) = false := by simp; omega
                clear hy hy1
                go_wp2
                go_round
                case rel => exact ⟨j + 1, by omega, by go_num, HY.out⟩
                case measure => simp [intOf]; omega
            · have hy1' : (getI l j != 1) = true := by simp; omega
              have hy2' : (getI l j != 2) = true := by simp; omega
              have HF := Lib.hid (show nameL l = false by
                rw [HE.out]
                have : okTo l k = false := by
                  rw [Bool.eq_false_iff]; intro h
                  exact hy ((okTo_iff l k).1 h j hjk)
                rw [this, Bool.and_false])
              clear hy
              go_wp2
              go_ret
              exact ⟨ret_bool (by rw [HN.out, HF.out]), hB⟩
          · obtain rfl : j = k := by omega
            have HF := Lib.hid (show nameL l = true by rw [HE.out, HO.out]; simpa using hl3)
            go_wp2
            go_ret
            exact ⟨ret_bool (by rw [HN.out, HF.out]), hB⟩

end Go.Proofs.Ytbmfadignoeigaa
