/-
  The program's Keep, of what a plain function says, and of what Labels' own closure says.
-/
import Derived.Test.YtkgggadcdmbglaaRgS
namespace Go.Proofs.Ytkgggadcdmbglaa
open Go.RowKit

theorem below_alloc {w : World} (o : Obj) : Below w.heap.size w (w.alloc o) := (Below.refl _ w).alloc (Nat.le_refl _) _

theorem even_any (x : Int) (w : World) : Calls Try.prog 25 #[.int .i64 x] w fun e w' => e = .returned (.bool (decide (x.tmod 2 = 0))) ∧ w = w' := by
  go_enter Try.func25, Try.ntmps25
  go_wp2
  go_ret
  exact ⟨rfl, rfl⟩

theorem all_any (x : Int) (w : World) : Calls Try.prog 30 #[.int .i64 x] w fun e w' => e = .returned (.bool true) ∧ w = w' := by
  go_enter Try.func30, Try.ntmps30
  go_wp2
  go_ret
  exact ⟨rfl, rfl⟩

/-- Is a number even, as the call tells it? -/
def evenB (x : Int) : Bool := decide (x.tmod 2 = 0)
def allB (_ : Int) : Bool := true
theorem even_any' (x : Int) (w : World) : Calls Try.prog 25 #[.int .i64 x] w fun e w' => e = .returned (.bool (evenB x)) ∧ w = w' := even_any x w
theorem all_any' (x : Int) (w : World) : Calls Try.prog 30 #[.int .i64 x] w fun e w' => e = .returned (.bool (allB x)) ∧ w = w' := all_any x w

set_option maxRecDepth 100000 in
set_option maxHeartbeats 2000000 in
theorem keepEven_any (v : Value) (l : List Int) (w : World) (h : Ints w v l) (hl : l.length ≤ 1000000) :
    Calls Try.prog 24 #[v, .func (.func 25) #[] #[]] w fun e w' => ∃ u, e = .returned u ∧ w'.ownsRow w.heap.size 3 1 u (l.filter evenB).length ((l.filter evenB).map (Value.int .i64)) ∧ Below w.heap.size w w' := by
  obtain ⟨A, cap, rfl, hcap, hm, hcell⟩ := h
  obtain ⟨i0, hi, hz0, hz1, hz2⟩ := info_parts Try.infoInt
  have hnil : Sem.run Try.prog (binOp BinOp.eql 37 (.func (.func 25) #[] #[]) .nilFunc) w = .ok (.bool false) w := by kernel_rfl
  go_enter Try.func24, Try.ntmps24
  go_wp2
  go_loopw [5, 12] (fun o i wr => ∃ k : Nat, k ≤ l.length ∧ i = .int .i64 k ∧ wr.ownsRow w.heap.size 3 1 o ((l.take k).filter evenB).length (((l.take k).filter evenB).map (Value.int .i64)) ∧ Below w.heap.size w wr) (fun _ i _ => l.length - (intOf i).toNat)
  case atStart => exact ⟨0, Nat.zero_le _, rfl, World.ownsRow_nil _ _ _ _, Below.refl _ _⟩
  case round =>
    obtain ⟨k, hk, rfl, hown, hB⟩ := hrel
    rename_i wr
    by_cases hlt : k < l.length
    · obtain ⟨b, off, rfl, hb, hc⟩ := hcell (by omega)
      have hck := (hB.cell (p := ⟨b, off + k, none⟩) hb).trans (hc k hlt)
      have HT := Lib.hid (take_succ_getI l k hlt)
      have hln : ((l.take k).filter evenB).length ≤ k := Nat.le_trans (List.length_filter_le _ _) (by simp; omega)
      clear hc hcell
      by_cases hp : evenB (getI l k) = true
      · have HK := Lib.hid (show (l.take (k + 1)).filter evenB = (l.take k).filter evenB ++ [getI l k] by rw [HT.out, List.filter_append]; simp [hp])
        have HP := Lib.hid hp
        clear hp
        go_wp2_with fail
        refine (even_any' (getI l k) _).mono ?_
        rintro e w' ⟨rfl, rfl⟩
        rw [HP.out]
        go_wp2_with (at_builtin; refine wpList_append_own _ rfl _ _ 22 rfl w.heap.size 3 i0 _ 1 8 Try.underlying22 hi hz0 hz1 hz2 rfl (by decide) _ _ _ rfl (hown.alloc _) ⟨wr.heap.size, 0, none⟩ 1 1 _ rfl rfl (cell_one_new _ _ _) (by simp [Value.oneCell']) (by unfold maxLen; omega) (by omega) (by have := hB.size; simp; omega) ?_)
        intro v' w1 hown' hgrow _
        go_wp2
        go_roundw
        case rel =>
          have hBB := (hB.alloc hB.size _).grown hgrow (by have := hB.size; simp; omega) (fun k hk => (hown.lt k hk).1)
          exact ⟨k + 1, by omega, by go_num, by rw [HK.out, List.map_append, List.length_append]; exact hown', hBB⟩
        case measure => simp [intOf]; omega
      · have HK := Lib.hid (show (l.take (k + 1)).filter evenB = (l.take k).filter evenB by rw [HT.out, List.filter_append]; simp [hp])
        have HP := Lib.hid hp
        clear hp
        go_wp2_with fail
        refine (even_any' (getI l k) _).mono ?_
        rintro e w' ⟨rfl, rfl⟩
        rw [Bool.eq_false_iff.2 HP.out]
        go_wp2
        go_roundw
        case rel => exact ⟨k + 1, by omega, by go_num, by rw [HK.out]; exact hown, hB⟩
        case measure => simp [intOf]; omega
    · obtain rfl : k = l.length := by omega
      have HT := Lib.hid (List.take_length (l := l))
      rw [HT.out] at hown
      clear hcell
      go_wp2
      go_ret
      exact ⟨_, rfl, hown, hB⟩

set_option maxRecDepth 100000 in
set_option maxHeartbeats 2000000 in
theorem keepAll_any (v : Value) (l : List Int) (w : World) (h : Ints w v l) (hl : l.length ≤ 1000000) :
    Calls Try.prog 24 #[v, .func (.func 30) #[] #[]] w fun e w' => ∃ u, e = .returned u ∧ w'.ownsRow w.heap.size 3 1 u (l.filter allB).length ((l.filter allB).map (Value.int .i64)) ∧ Below w.heap.size w w' := by
  obtain ⟨A, cap, rfl, hcap, hm, hcell⟩ := h
  obtain ⟨i0, hi, hz0, hz1, hz2⟩ := info_parts Try.infoInt
  have hnil : Sem.run Try.prog (binOp BinOp.eql 37 (.func (.func 30) #[] #[]) .nilFunc) w = .ok (.bool false) w := by kernel_rfl
  go_enter Try.func24, Try.ntmps24
  go_wp2
  go_loopw [5, 12] (fun o i wr => ∃ k : Nat, k ≤ l.length ∧ i = .int .i64 k ∧ wr.ownsRow w.heap.size 3 1 o ((l.take k).filter allB).length (((l.take k).filter allB).map (Value.int .i64)) ∧ Below w.heap.size w wr) (fun _ i _ => l.length - (intOf i).toNat)
  case atStart => exact ⟨0, Nat.zero_le _, rfl, World.ownsRow_nil _ _ _ _, Below.refl _ _⟩
  case round =>
    obtain ⟨k, hk, rfl, hown, hB⟩ := hrel
    rename_i wr
    by_cases hlt : k < l.length
    · obtain ⟨b, off, rfl, hb, hc⟩ := hcell (by omega)
      have hck := (hB.cell (p := ⟨b, off + k, none⟩) hb).trans (hc k hlt)
      have HT := Lib.hid (take_succ_getI l k hlt)
      have hln : ((l.take k).filter allB).length ≤ k := Nat.le_trans (List.length_filter_le _ _) (by simp; omega)
      clear hc hcell
      by_cases hp : allB (getI l k) = true
      · have HK := Lib.hid (show (l.take (k + 1)).filter allB = (l.take k).filter allB ++ [getI l k] by rw [HT.out, List.filter_append]; simp [hp])
        have HP := Lib.hid hp
        clear hp
        go_wp2_with fail
        refine (all_any' (getI l k) _).mono ?_
        rintro e w' ⟨rfl, rfl⟩
        rw [HP.out]
        go_wp2_with (at_builtin; refine wpList_append_own _ rfl _ _ 22 rfl w.heap.size 3 i0 _ 1 8 Try.underlying22 hi hz0 hz1 hz2 rfl (by decide) _ _ _ rfl (hown.alloc _) ⟨wr.heap.size, 0, none⟩ 1 1 _ rfl rfl (cell_one_new _ _ _) (by simp [Value.oneCell']) (by unfold maxLen; omega) (by omega) (by have := hB.size; simp; omega) ?_)
        intro v' w1 hown' hgrow _
        go_wp2
        go_roundw
        case rel =>
          have hBB := (hB.alloc hB.size _).grown hgrow (by have := hB.size; simp; omega) (fun k hk => (hown.lt k hk).1)
          exact ⟨k + 1, by omega, by go_num, by rw [HK.out, List.map_append, List.length_append]; exact hown', hBB⟩
        case measure => simp [intOf]; omega
      · have HK := Lib.hid (show (l.take (k + 1)).filter allB = (l.take k).filter allB by rw [HT.out, List.filter_append]; simp [hp])
        have HP := Lib.hid hp
        clear hp
        go_wp2_with fail
        refine (all_any' (getI l k) _).mono ?_
        rintro e w' ⟨rfl, rfl⟩
        rw [Bool.eq_false_iff.2 HP.out]
        go_wp2
        go_roundw
        case rel => exact ⟨k + 1, by omega, by go_num, by rw [HK.out]; exact hown, hB⟩
        case measure => simp [intOf]; omega
    · obtain rfl : k = l.length := by omega
      have HT := Lib.hid (List.take_length (l := l))
      rw [HT.out] at hown
      clear hcell
      go_wp2
      go_ret
      exact ⟨_, rfl, hown, hB⟩

end Go.Proofs.Ytkgggadcdmbglaa
