/-
  The document's Groups.
-/
import Derived.Test.YtfofidbgjfmepaaStQ
namespace Go.Proofs.Ytfofidbgjfmepaa
open Go.RowKit Go.Maps

/-- The groups whose first place is below g, each whole. -/
def St.rg (s : St) (g : Nat) : List (List Int) := (headsTo s.gr g).map (s.memb s.ts.length)
theorem St.rg_succ (s : St) (g : Nat) : s.rg (g + 1) = if getN s.gr g = g then s.rg g ++ [s.memb s.ts.length g] else s.rg g := by
  unfold St.rg
  rw [headsTo_succ]
  by_cases e : getN s.gr g = g
  · rw [if_pos e, if_pos e, List.map_append]; rfl
  · rw [if_neg e, if_neg e]
theorem St.rg_all (s : St) : s.rg s.ts.length = s.groups := rfl
theorem St.memb_pos {s : St} (ok : St.Ok s) {g : Nat} (hg : g < s.ts.length) : 0 < (s.memb s.ts.length g).length ↔ getN s.gr g = g := by
  unfold St.memb
  rw [List.length_map]
  constructor
  · intro h
    obtain ⟨i, hi⟩ := List.exists_mem_of_length_pos h
    rw [List.mem_filter, List.mem_range] at hi
    have e := of_decide_eq_true hi.2
    have := (ok.roots i (by rw [ok.len]; exact hi.1)).2
    rw [e] at this
    exact this
  · intro h
    refine List.length_pos_of_mem (a := g) ?_
    rw [List.mem_filter, List.mem_range]
    exact ⟨hg, decide_eq_true h⟩
theorem St.memb_le (s : St) (k g : Nat) : (s.memb k g).length ≤ k := by
  unfold St.memb
  rw [List.length_map]
  exact Nat.le_trans (List.length_filter_le _ _) (by simp)
theorem St.rg_len (s : St) (g : Nat) : (s.rg g).length ≤ g := by
  unfold St.rg; rw [List.length_map]; exact headsTo_le _ _

variable {w w1 : World} {base : Nat} {v : Value} {us : List Value} {ls : List (List Int)}

/-- A list that has been made since has been appended. -/
theorem Grid.pushV (h : Grid w base none v us ls) {v' u : Value} {l : List Int} {base' : Nat} (hg : w.grownBy w1 v.ownBlock) (ho : w1.ownsRow base 32 1 v' (us.length + 1) (us ++ [u]))
    (hu : w.ownsRow base' 3 1 u l.length (l.map (Value.int .i64))) (hb : base ≤ base') (hn : ∀ j, j < ls.length → ∀ b, (getV us j).ownBlock = some b → b < base') : Grid w1 base none v' (us ++ [u]) (ls ++ [l]) := by
  have hl := h.len
  have hr : ∀ {x : Value} {m : Nat} {zs : List Value} {b : Nat}, w.ownsRow b 3 1 x m zs → w1.ownsRow b 3 1 x m zs := fun {x m zs b} hx => by
    refine hx.kept hg ?_
    rcases own_types hx h.own (by decide) with e | e
    · exact .inl e
    · exact .inr e
  refine ⟨by rw [List.length_append]; exact ho, by simp [hl], fun j hj => ?_, fun i j hi hj hne => ?_, fun j hj => ?_⟩
  · simp at hj
    by_cases e : j = ls.length
    · subst e
      rw [getL_app_right, ← hl, getV_app_right]
      exact own_base (hr hu) (fun g hg => Nat.le_trans hb (hu.lt g hg).1)
    · rw [getL_app_left _ _ _ (by omega), getV_app_left _ _ _ (by omega)]
      exact hr (h.each j (by omega))
  · simp at hi hj
    have key : ∀ j, j < ls.length → (getV us j).ownBlock = none ∨ (getV us j).ownBlock ≠ u.ownBlock := fun j hj => by
      by_cases h0 : (getV us j).ownBlock = none
      · exact .inl h0
      · obtain ⟨b, hbb⟩ := Option.ne_none_iff_exists'.1 h0
        right
        intro e
        have h1 := hn j hj b hbb
        have h2 := (hu.lt b (by rw [← e]; exact hbb)).1
        omega
    by_cases e : i = ls.length
    · subst e
      rw [← hl, getV_app_right]
      have hj' : j < ls.length := by omega
      rw [getV_app_left _ _ _ (by omega)]
      rcases key j hj' with e1 | e1
      · by_cases h0 : u.ownBlock = none
        · exact .inl h0
        · exact .inr (by rw [e1]; exact h0)
      · exact .inr (Ne.symm e1)
    · rw [getV_app_left _ _ _ (by omega)]
      by_cases e2 : j = ls.length
      · subst e2
        rw [← hl, getV_app_right]
        exact key i (by omega)
      · rw [getV_app_left _ _ _ (by omega)]
        exact h.apart i j (by omega) (by omega) hne
  · by_cases h0 : (getV (us ++ [u]) j).ownBlock = none
    · exact .inl h0
    · exact .inr h0

set_option maxRecDepth 100000 in
set_option maxHeartbeats 4000000 in
theorem rgroups_any (w : World) (F : Nat → Prop) (m : Value) (s : St) (h : RM w F m s) (hF : ∀ k, F k → k < w.heap.size) (ok : St.Ok s) (hl : s.ts.length ≤ 900000) :
    Calls Try.prog 17 #[m] w fun e w' => ∃ u, e = .returned u ∧ Lists w' F u s.groups ∧ Below w.heap.size w w' := by
  obtain ⟨A1, cap1, A2, cap2, rfl, h1, h2, _, _⟩ := h.open ok
  obtain ⟨va, hva⟩ : ∃ va, va = Value.slice A1 s.ts.length cap1 := ⟨_, rfl⟩
  obtain ⟨vg, hvg⟩ : ∃ vg, vg = Value.slice A2 s.ts.length cap2 := ⟨_, rfl⟩
  obtain ⟨i0, hi, hz0, hz1, hz2⟩ := info_parts Try.infoInt
  obtain ⟨j0, hj0, hy0, hy1, hy2⟩ := info_parts Try.infoInts
  obtain ⟨wa, hwa⟩ : ∃ wa, w.alloc (.cells #[va, vg] 34) = wa := ⟨_, rfl⟩
  have hBa : Below w.heap.size w wa := by rw [← hwa]; exact below_alloc _
  have hsa : wa.heap.size = w.heap.size + 1 := by rw [← hwa]; simp
  have a0 : wa.cell? ⟨w.heap.size, 0, none⟩ = some va := by rw [← hwa]; simp
  have a1 : wa.cell? ⟨w.heap.size, 1, none⟩ = some vg := by rw [← hwa]; simp
  have K1 := Lib.hid (h1.below hBa)
  have K2 := Lib.hid (h2.below hBa)
  have HSA := Lib.hid hsa
  have HBA := Lib.hid hBa
  have HWA := Lib.hid hwa
  have hfa : wa.heap.size ≤ w.heap.size + 1 := by omega
  rw [hva] at a0
  rw [hvg] at a1
  clear h h1 h2 hwa hsa hBa
  go_enter Try.func17, Try.ntmps17
  go_wp2_with fail
  rw [← hva, ← hvg, HWA.out]
  clear HWA hva hvg
  go_loopw [3, 4] (fun out g wr => ∃ (k : Nat) (us : List Value), k ≤ s.ts.length ∧ g = .int .i64 (k : Int) ∧ Grid wr wa.heap.size none out us (s.rg k) ∧ Below wa.heap.size wa wr) (fun _ g _ => s.ts.length - (intOf g).toNat)
  case atStart => exact ⟨0, [], Nat.zero_le _, rfl, Grid.start _ _ _, Below.refl _ _⟩
  case round =>
    obtain ⟨k, us, hk, rfl, hG, hB⟩ := hrel
    obtain ⟨wr0, hwr0⟩ : ∃ z, z = wr := ⟨_, rfl⟩
    subst hwr0
    have b0 := (hB.cell (p := ⟨w.heap.size, 0, none⟩) (World.block_lt_of_cell? _ _ a0)).trans a0
    have b1 := (hB.cell (p := ⟨w.heap.size, 1, none⟩) (World.block_lt_of_cell? _ _ a1)).trans a1
    have HG := Lib.hid hG
    have HB := Lib.hid hB
    clear hG hB
    by_cases hlt : k < s.ts.length
    · have L1 := Lib.hid (K1.out.below HB.out)
      have L2 := Lib.hid (K2.out.below HB.out)
      have HR := Lib.hid (St.rg_succ s k)
      have HM := Lib.hid (St.memb_pos ok hlt)
      obtain ⟨bb, boff, rfl, _, hgc⟩ := L2.out.at_ rfl (j := k) (by rw [natsI_length, ok.len]; exact hlt)
      obtain ⟨ab, aoff, rfl, _, hac⟩ := L1.out.at_ rfl (j := k) hlt
      have HGC := Lib.hid hgc
      have HAC := Lib.hid hac
      have HL2 := Lib.hid (show (natsI s.gr).length = s.ts.length by rw [natsI_length]; exact ok.len)
      have HGL := Lib.hid ok.len
      clear hgc hac a0 a1 K1 K2
      go_wp2
      go_loopw [5, 6] (fun lv i w2 => ∃ (j : Nat), j ≤ s.ts.length ∧ i = .int .i64 (j : Int) ∧ w2.ownsRow wr0.heap.size 3 1 lv (s.memb j k).length ((s.memb j k).map (Value.int .i64)) ∧ Below wr0.heap.size wr0 w2) (fun _ i _ => s.ts.length - (intOf i).toNat)
      case atStart => exact ⟨0, Nat.zero_le _, rfl, World.ownsRow_nil _ _ _ _, Below.refl _ _⟩
      case round =>
        obtain ⟨j, hj, rfl, hown, hB2⟩ := hrel
        obtain ⟨w2, hw2⟩ : ∃ z, z = wr := ⟨_, rfl⟩
        subst hw2
        have c0 := (hB2.cell (p := ⟨w.heap.size, 0, none⟩) (World.block_lt_of_cell? _ _ b0)).trans b0
        have c1 := (hB2.cell (p := ⟨w.heap.size, 1, none⟩) (World.block_lt_of_cell? _ _ b1)).trans b1
        by_cases hjl : j < s.ts.length
        · have x0 := HGC.out j (by rw [HL2.out]; exact hjl)
          have x1 := HAC.out j hjl
          rw [natsI_get _ _ (by rw [HGL.out]; exact hjl)] at x0
          have y0 := (hB2.cell (p := ⟨bb, boff + j, none⟩) (World.block_lt_of_cell? _ _ x0)).trans x0
          have y1 := (hB2.cell (p := ⟨ab, aoff + j, none⟩) (World.block_lt_of_cell? _ _ x1)).trans x1
          have hml := St.memb_le s j k
          have HMS := Lib.hid (St.memb_succ s j k)
          have hs2 := hB2.size
          clear x0 x1 b0 b1
          obtain ⟨A5, c5, rfl⟩ := own_shape hown
          by_cases he : getN s.gr j = k
          · have HM2 := HMS.out
            rw [if_pos he] at HM2
            have HM3 := Lib.hid HM2
            have he' : ((getN s.gr j : Int) == (k : Int)) = true := beq_iff_eq.2 (by omega)
            have HE := Lib.hid he
            clear he HM2
            go_wp2_with (at_builtin; refine wpList_append_own_at _ rfl _ _ 32 rfl wr0.heap.size 3 i0 (.int .i64 0) 1 8 Try.underlying32 hi hz0 hz1 hz2 rfl (by decide) _ _ _ rfl (hown.alloc _) ⟨w2.heap.size, 0, none⟩ 1 1 [.int .i64 (getI s.ts j)] rfl rfl (cell_one_new _ _ _) (ints_oneCell .i64 [getI s.ts j]) (by unfold maxLen; omega) (by omega) (by simp; omega) ?_)
            intro v5 w5 hown5 hgrow5 hnil5 hat5
            have hB5 := (hB2.alloc hs2 (.cells #[.int .i64 (getI s.ts j)] 3)).grown hgrow5 (by simp; omega) (fun q hq => (hown.lt q hq).1)
            clear hown hgrow5 hnil5 hat5
            go_wp2
            go_roundw
            case rel => exact ⟨j + 1, by omega, by go_num, by rw [HM3.out, List.length_append, List.map_append]; exact hown5, hB5⟩
            case measure => simp [intOf]; omega
          · have HM2 := HMS.out
            rw [if_neg he] at HM2
            have HM3 := Lib.hid HM2
            have he' : ((getN s.gr j : Int) == (k : Int)) = false := beq_eq_false_iff_ne.2 (by omega)
            have HE := Lib.hid he
            clear he HM2
            go_wp2
            go_roundw
            case rel => exact ⟨j + 1, by omega, by go_num, by rw [HM3.out]; exact hown, hB2⟩
            case measure => simp [intOf]; omega
        · obtain rfl : j = s.ts.length := by omega
          have HO := Lib.hid hown
          have HB2 := Lib.hid hB2
          have hml := St.memb_le s s.ts.length k
          have hsr := HB.out.size
          have hs2 := hB2.size
          obtain ⟨A5, c5, hv5⟩ := own_shape hown
          subst hv5
          have HG2 := Lib.hid (HG.out.below hB2)
          have hNB := Lib.hid (show ∀ q, q < (s.rg k).length → ∀ b, (getV us q).ownBlock = some b → b < wr0.heap.size from fun q hq b hb => ((HG.out.each q hq).lt b hb).2)
          clear hown hB2 b0 b1
          by_cases he : getN s.gr k = k
          · have HR2 := HR.out
            rw [if_pos he] at HR2
            have HR3 := Lib.hid HR2
            have hpos := HM.out.2 he
            have hpos' : (0 : Int) < ((s.memb s.ts.length k).length : Int) := by omega
            obtain ⟨A6, c6, hv6⟩ := own_shape HG2.out.own
            subst hv6
            have hog := HG2.out.own
            have hul := HG2.out.len
            have hrl := St.rg_len s k
            have HUL := Lib.hid hul
            have hul2 : us.length ≤ 1000000 := by omega
            clear he HR2 hul hpos
            generalize hmm : s.memb s.ts.length k = mm at *
            go_wp2_with (at_builtin; refine wpList_append_own_at _ rfl _ _ 39 rfl wa.heap.size 32 j0 (.slice none 0 0) 1 24 Try.underlying39 hj0 hy0 hy1 hy2 rfl (by decide) _ _ _ rfl (hog.alloc _) ⟨w2.heap.size, 0, none⟩ 1 1 [.slice A5 mm.length c5] rfl rfl (cell_one_new _ _ _) (by simp [Value.oneCell']) (by unfold maxLen; omega) (by omega) (by simp; omega) ?_)
            intro v7 w7 hown7 hgrow7 hnil7 hat7
            have hB7 := (HB.out.trans (HB2.out.mono hsr)).trans (((Below.refl wa.heap.size w2).alloc (by omega) (.cells #[.slice A5 mm.length c5] 32)).grown hgrow7 (by simp; omega) (fun q hq => (hog.lt q hq).1))
            have hG7 := (HG2.out.below (below_alloc (.cells #[.slice A5 mm.length c5] 32))).pushV hgrow7 hown7 (HO.out.alloc _) hsr hNB.out
            have HG7 := Lib.hid hG7
            clear hown7 hgrow7 hnil7 hat7 hG7 hog
            go_wp2
            go_roundw
            case rel => exact ⟨k + 1, _, by omega, by go_num, by rw [HR3.out]; exact HG7.out, hB7⟩
            case measure => simp [intOf]; omega
          · have HR2 := HR.out
            rw [if_neg he] at HR2
            have HR3 := Lib.hid HR2
            have hpos : (s.memb s.ts.length k).length = 0 := by
              rcases Nat.eq_zero_or_pos (s.memb s.ts.length k).length with e | e
              · exact e
              · exact absurd (HM.out.1 e) he
            have HE := Lib.hid he
            have hB7 := HB.out.trans (HB2.out.mono hsr)
            clear he HR2
            go_wp2
            go_roundw
            case rel => exact ⟨k + 1, _, by omega, by go_num, by rw [HR3.out]; exact HG2.out, hB7⟩
            case measure => simp [intOf]; omega
    · obtain rfl : k = s.ts.length := by omega
      have hsa := HSA.out
      clear K1 K2 a0 a1
      go_wp2
      go_ret
      exact ⟨_, rfl, HG.out.lists (fun q hq => by have := hF q hq; omega), HBA.out.trans (HB.out.mono (by omega))⟩

end Go.Proofs.Ytfofidbgjfmepaa
