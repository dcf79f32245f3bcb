/-
  The classes of a text's runes, as the document's answer lists them.
-/
import Derived.Test.YtbmfadignoeigaaWordD
import Derived.Test.YtbmfadignoeigaaSl
namespace Go.Proofs.Ytbmfadignoeigaa
open Go.RowKit

theorem Try.infoInt : (Try.prog.info? 3).map (fun i => (i.zero, i.size, i.bytes)) = some (some (.int .i64 0), 1, 8) := by kernel_rfl

set_option maxRecDepth 100000 in
set_option maxHeartbeats 4000000 in
theorem classes_any (s : ByteArray) (w : World) (hs : s.size ≤ 1000000) :
    Calls Try.prog 27 #[.string s] w fun e w' => ∃ v, e = .returned v ∧ w'.ownsRow w.heap.size 3 1 v (clsOf s).length ((clsOf s).map (Value.int .i64)) ∧ Below w.heap.size w w' := by
  obtain ⟨i0, hi, hz0, hz1, hz2⟩ := info_parts Try.infoInt
  go_enter Try.func27, Try.ntmps27
  go_wp2
  go_loopw [3, 4] (fun v i wr => ∃ (pos b : Nat) (l : List Int), i = .int .i64 pos ∧ l ++ clsFrom s b pos = clsOf s ∧ wr.ownsRow w.heap.size 3 1 v l.length (l.map (Value.int .i64)) ∧ s.size ≤ pos + b ∧ pos ≤ s.size ∧ l.length ≤ pos ∧ Below w.heap.size w wr)
    (fun _ i _ => s.size - (intOf i).toNat)
  case atStart => exact ⟨0, s.size, [], rfl, rfl, World.ownsRow_nil _ _ _ _, by omega, by omega, by simp, Below.refl _ _⟩
  case round =>
    obtain ⟨pos, b, l, rfl, hc, hown, hb, hps, hl, hB⟩ := hrel
    rename_i wr
    by_cases hp : pos < s.size
    · obtain ⟨b, rfl⟩ : ∃ b', b = b' + 1 := ⟨b - 1, by omega⟩
      rw [clsFrom_next s b pos hp] at hc
      have hw := wide_facts s pos hp
      have hw1 := hw.1
      have hw2 := hw.2.1
      clear hw
      have HC := Lib.hid hc
      clear hc
      have hru := rune_any s pos wr (by unfold maxLen; omega) hp
      have hbs := hB.size
      rcases refRune_cases s pos hp with ⟨he, hr, hwd⟩ | ⟨he, hr0, hr1⟩
      · rw [he] at hru
        have HR := Lib.hid hru
        have HK := Lib.hid (show clsAt s pos = 9 by unfold clsAt; rw [he]; rfl)
        have HW := Lib.hid hwd
        clear hru he hr hwd
        go_wp2_with (first | (go_at_call 25; refine HR.out.mono ?_; rintro e w' ⟨rfl, rfl⟩) | (at_builtin; refine wpList_append_own _ rfl _ _ 48 rfl w.heap.size 3 i0 (.int .i64 0) 1 8 Try.underlying48 hi hz0 hz1 hz2 rfl (by decide) _ _ _ rfl (hown.alloc _) ⟨wr.heap.size, 0, none⟩ 1 1 [.int .i64 9] rfl rfl ?c1 ?c2 ?c3 ?c4 ?c5 ?_))
        case c1 => intro j u hj; match j, hj with | 0, hj => (simp at hj; subst hj; simp [Addr.add])
        case c2 => intro u hu; simp at hu; subst hu; rfl
        case c3 => unfold maxLen; omega
        case c4 => omega
        case c5 => simp; omega
        intro v' w1 hown' hgrow _
        go_wp2
        go_roundw
        case rel => exact ⟨pos + 1, b, l ++ [9], by go_num, by rw [← HC.out, HK.out, HW.out]; simp, by simpa using hown', by omega, by omega, by simp; omega, (hB.alloc hbs _).grown hgrow (by simp; omega) (fun k hk => (hown.lt k hk).1)⟩
        case measure => simp [intOf]; omega
      · rw [he] at hru
        have HR := Lib.hid hru
        have HK := Lib.hid (show clsAt s pos = cls (runeAt s pos) by unfold clsAt; rw [he, if_neg (by simp; omega)])
        clear hru he
        go_wp2_with (first | (go_at_call 25; refine HR.out.mono ?_; rintro e w' ⟨rfl, rfl⟩) | (go_at_call 17; refine (refClass_any _ _).mono ?_; rintro e w' ⟨rfl, rfl⟩) | (at_builtin; refine wpList_append_own _ rfl _ _ 48 rfl w.heap.size 3 i0 (.int .i64 0) 1 8 Try.underlying48 hi hz0 hz1 hz2 rfl (by decide) _ _ _ rfl (hown.alloc _) ⟨wr.heap.size, 0, none⟩ 1 1 [.int .i64 (cls (runeAt s pos))] rfl rfl ?d1 ?d2 ?d3 ?d4 ?d5 ?_))
        case d1 => intro j u hj; match j, hj with | 0, hj => (simp at hj; subst hj; simp [Addr.add])
        case d2 => intro u hu; simp at hu; subst hu; rfl
        case d3 => unfold maxLen; omega
        case d4 => omega
        case d5 => simp; omega
        intro v' w1 hown' hgrow _
        go_wp2
        go_roundw
        case rel => exact ⟨pos + wideAt s pos, b, l ++ [cls (runeAt s pos)], by go_num, by rw [← HC.out, HK.out]; simp, by simpa using hown', by omega, by omega, by simp; omega, (hB.alloc hbs _).grown hgrow (by simp; omega) (fun k hk => (hown.lt k hk).1)⟩
        case measure => simp [intOf]; omega
    · rw [clsFrom_end s b pos hp, List.append_nil] at hc
      have HC := Lib.hid hc
      clear hc
      go_wp2
      go_ret
      exact ⟨_, rfl, by rw [← HC.out]; exact hown, hB⟩

end Go.Proofs.Ytbmfadignoeigaa
