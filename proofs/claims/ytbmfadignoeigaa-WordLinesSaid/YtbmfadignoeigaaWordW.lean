/-
  The document's examples of the word layer: the call that asks them answers yes.
-/
import Derived.Test.YtbmfadignoeigaaWordU
import Derived.Test.YtbmfadignoeigaaWordB
import Derived.Test.YtbmfadignoeigaaSl
namespace Go.Proofs.Ytbmfadignoeigaa
open Go.RowKit

theorem ex_words : wordsOf ⟨#[32, 97, 98, 32, 32, 99]⟩ = [(1, 3), (5, 6)] := by decide +kernel
theorem ex_bad : badOf ⟨#[97, 33]⟩ = some 1 := by decide +kernel
theorem ex_name1 : nameB ⟨#[120, 49, 95]⟩ = true := by decide +kernel
theorem ex_name2 : nameB ⟨#[49, 120]⟩ = false := by decide +kernel

theorem ex_cut : (⟨#[32, 97, 98, 32, 32, 99]⟩ : ByteArray).extract 1 3 = ⟨#[97, 98]⟩ := by decide +kernel

set_option maxRecDepth 100000 in
set_option maxHeartbeats 4000000 in
theorem awake_any (w : World) :
    Calls Try.prog 9 #[] w fun e w' => e = .returned (.bool true) ∧ Below w.heap.size w w' := by
  go_enter Try.func9, Try.ntmps9
  go_wp2_with fail
  refine (split_any _ w (by decide)).mono ?_
  rintro e w1 ⟨v, rfl, hown, hB1⟩
  rw [ex_words] at hown
  obtain ⟨_, A, cap, rfl, hcap, hcell⟩ := Sl.of_own hown
  obtain ⟨g, rfl, hg, hc⟩ := hcell (by decide)
  have c0 := hc 0 _ rfl
  have c1 := hc 1 _ rfl
  have c2 := hc 2 _ rfl
  have c3 := hc 3 _ rfl
  clear hc hcell hown
  go_wp2_with fail
  refine (bad_any _ w1).mono ?_
  rintro e w2 ⟨rfl, hB2⟩
  rw [ex_bad]
  have c0' := (hB2.cell (p := ⟨g, 0, none⟩) hg).trans c0
  have c1' := (hB2.cell (p := ⟨g, 1, none⟩) hg).trans c1
  have c2' := (hB2.cell (p := ⟨g, 2, none⟩) hg).trans c2
  rw [ex_cut] at c1'
  clear c0 c1 c2 c3
  go_wp2_with fail
  refine (name_any _ w2).mono ?_
  rintro e w3 ⟨rfl, hB3⟩
  rw [ex_name1]
  go_wp2_with fail
  refine (name_any _ w3).mono ?_
  rintro e w4 ⟨rfl, hB4⟩
  rw [ex_name2]
  go_wp2
  go_ret
  have h1 := hB1.size
  have h2 := hB2.size
  have h3 := hB3.size
  exact ⟨rfl, ((hB1.trans (hB2.mono h1)).trans (hB3.mono (by omega))).trans (hB4.mono (by omega))⟩

end Go.Proofs.Ytbmfadignoeigaa
