/-
  PlL, in one text.
-/
import Derived.Test.YtmbpmepoaonleaaGreatM51
import Derived.Test.YtmbpmepoaonleaaGreatM52
import Derived.Test.YtmbpmepoaonleaaGreatPlan
/-! The program's hang: do a plan's lists hang the pieces together, in one way alone? -/
namespace Go.Proofs.YtmbpmepoaonleaaGreat.Pl
open Go.Proofs.YtmbpmepoaonleaaGreat Go.Proofs.YtmbpmepoaonleaaGreat.Fc Go.Proofs.YtmbpmepoaonleaaGreat.Rt Go.RowKit Go.Maps

/-- An operation whose guard was left out is left out. -/
theorem step_skipU {P : Program} {os : List Oper} {Ss : List Sp} {Q : Exit → Act → World → Prop} {a0 : Act} {w0 : World} {o : Oper} {g t : Nat} {want : Bool} (hg : o.guard = some (g, want)) (ht : (os.toArray[g]?).bind (·.dst) = some t) {og : Oper} (h1 : g ∈ preds o) (h2 : os[g]? = some og) (h3 : Ss[g]? = some (is undef)) (h4 : og.dst = some t) : StepOk P os Ss Q a0 w0 o (is undef) := by
  intro a w hB O D
  obtain ⟨_, e, rfl⟩ := D g og _ t h1 h2 h3 h4
  refine .inr ⟨?_, rfl, rfl⟩
  unfold Region.wanted yielded
  simp only [hg, ht, Option.bind_some, e]
  cases want <;> rfl

theorem isSorted_is (v : Value) (l : List Int) (w : World) (h : Ints w v l) (hl : l.length ≤ 1000000) {b : Bool} (hb : b = true ↔ SortedL l) :
    Calls Tryz.prog 80 #[v] w fun e w' => e = .returned (.bool b) ∧ Below w.heap.size w w' := by
  refine (isSorted_any v l w h hl).mono ?_
  rintro e w' ⟨⟨c, rfl, hc⟩, n, rfl⟩
  have : c = b := by
    have := hc.trans hb.symm
    cases b <;> cases c <;> simp_all
  exact ⟨by rw [this], below_drewN' w n⟩

theorem isSorted_yes (v : Value) (l : List Int) (w : World) (h : Ints w v l) (hl : l.length ≤ 1000000) (hs : SortedL l) : Calls Tryz.prog 80 #[v] w fun e w' => e = .returned (.bool true) ∧ Below w.heap.size w w' := isSorted_is v l w h hl ⟨fun _ => hs, fun _ => rfl⟩
theorem isSorted_no (v : Value) (l : List Int) (w : World) (h : Ints w v l) (hl : l.length ≤ 1000000) (hs : ¬ SortedL l) : Calls Tryz.prog 80 #[v] w fun e w' => e = .returned (.bool false) ∧ Below w.heap.size w w' := isSorted_is v l w h hl ⟨fun h => (by cases h), fun h => absurd h hs⟩

variable {ks : List Int} {own : Int → Int} {S : List (List Int)} {w : World} {mb nn n : Nat}

/-- Lists that hang n pieces together, in one way alone. -/
def HungG (ks : List Int) (own : Int → Int) (n : Nat) (S : List (List Int)) : Prop :=
  (Lists ks S ∧ ForestTo (stars (ow own S)) (stars (ow own S)).length) ∧ ∀ i j : Nat, i < n → j < n → Conn (relE (stars (ow own S))) i j
theorem not_hung {v : Nat} (hv : v < S.length) (h : ¬ Good1 ks own S v) : ¬ HungG ks own n S := fun hH => h (lists_good hH.1.1 hH.1.2 hv)
theorem good_of {v : Nat} (h2 : 2 ≤ (getT S v).length) (hs : SortedL (getT S v)) (hh : 0 < v → getI (getT S (v - 1)) 0 ≤ getI (getT S v) 0)
    (hk : KeysOk (fun x => x ∈ ks ∧ ¬ Seen S v 0 x) (getT S v) (getT S v).length) (hj : JoinsOk own (ahd own S v) (getT S v) (getT S v).length) : Good1 ks own S v where
  two := h2
  sorted := hs
  head := hh
  keys := fun k hk' => ⟨(hk k hk').1.1, fun h => h.elim (fun h => (hk k hk').1.2 (.inl h)) (fun h => (hk k hk').2 h)⟩
  forest := hj
theorem of_good {v : Nat} (h : Good1 ks own S v) : KeysOk (fun x => x ∈ ks ∧ ¬ Seen S v 0 x) (getT S v) (getT S v).length ∧ JoinsOk own (ahd own S v) (getT S v) (getT S v).length :=
  ⟨fun k hk => ⟨⟨(h.keys k hk).1, fun hs => (h.keys k hk).2 hs.less⟩, fun ht => (h.keys k hk).2 (.inr ht)⟩, h.forest⟩

/-- The list at place v begins no lower than the one ahead of it. -/
def HeadOk (S : List (List Int)) (v : Nat) : Prop := 0 < v → getI (getT S (v - 1)) 0 ≤ getI (getT S v) 0
theorem seen_next {v : Nat} (x : Int) : (x ∈ ks ∧ ¬ Seen S (v + 1) 0 x) ↔ ((x ∈ ks ∧ ¬ Seen S v 0 x) ∧ x ∉ getT S v) := by
  rw [Seen.next]
  unfold Seen
  rw [List.take_length, List.take_zero]
  constructor
  · rintro ⟨h1, h2⟩
    exact ⟨⟨h1, fun h => h2 (h.elim .inl (fun h => absurd h List.not_mem_nil))⟩, fun h => h2 (.inr h)⟩
  · rintro ⟨⟨h1, h2⟩, h3⟩
    exact ⟨h1, fun h => h.elim (fun h => h2 (.inl h)) h3⟩

set_option maxRecDepth 100000 in
set_option maxHeartbeats 8000000 in
theorem hang_any (u : Value) (w : World) (hS : LL w u S) (hM : IMap w mb nn (fun x => x ∈ ks) own) (hn : n ≤ 800000) (hown : ∀ x ∈ ks, own x ∈ countTo n) (hlS : S.length ≤ 1000000) (hr : ∀ j, (getT S j).length ≤ 1000000) (hw : ∀ j, ∀ x ∈ getT S j, (Lit.int .i64 x).wf = true) :
    Calls Tryz.prog 45 #[u, .map (some mb), .int .i64 (n : Int)] w fun e w' => Only (New mb w.heap.size) w w' ∧
      ((e = .returned (.bool true) ∧ HungG ks own n S ∧ IMap w' mb nn (fun x => x ∈ ks ∧ x ∉ S.flatten) own) ∨ (e = .returned (.bool false) ∧ ¬ HungG ks own n S)) := by
  have HS := Lib.hid hS
  obtain ⟨A, cap, rfl, hcap, hmx⟩ := hS.form
  have HM := Lib.hid hM
  have HO := Lib.hid hown
  have HW := Lib.hid hw
  have hmB := hM.lt
  have HMB := Lib.hid hM.block
  have HNW := Lib.hid (Go.Proofs.YtmbpmepoaonleaaGreat.new_any w (.slice none 0 0) [] (Ints.nil) (fun x hx => absurd hx List.not_mem_nil) (by simp))
  clear hS hM hown hw
  go_enter Tryz.func45, Tryz.ntmps45
  go_wp2_with fail
  refine HNW.out.mono ?_
  rintro e w1 ⟨sb, F0, rfl, hH, hB, hF⟩
  have HH0 := Lib.hid hH
  have HB0 := Lib.hid hB
  have HF0 := Lib.hid hF
  clear hH hB hF HNW
  go_wp2
  go_loopw [13] (fun i wr => ∃ (k : Nat) (F : Nat → Prop), k ≤ n ∧ i = .int .i64 (k : Nat) ∧ Hid (Holds wr F sb (St.news ((countTo n).take k))) ∧ Hid (∀ j, F j → w.heap.size ≤ j) ∧ Hid (Below w.heap.size w wr)) (fun i _ => n - (Go.RowKit.intOf i).toNat)
  case atStart => exact ⟨0, F0, Nat.zero_le _, rfl, HH0, HF0, HB0⟩
  case round =>
    obtain ⟨k, F, hk, rfl, hH, hF, hB⟩ := hrel
    obtain ⟨wq, hwq⟩ : ∃ z, z = wr := ⟨_, rfl⟩
    subst hwq
    by_cases hlt : k < n
    · have HS2 := Lib.hid (show St.news ((countTo n).take (k + 1)) = (St.news ((countTo n).take k)).add (k : Int) by
        rw [St.news_succ _ _ (by rw [countTo_length]; exact hlt), countTo_get n k hlt])
      have hwk : (Lit.int .i64 (k : Int)).wf = true := in_wf (n := n) (by omega) ((mem_countTo n _).2 ⟨by omega, by omega⟩)
      have HA := Lib.hid (add_any wq F sb _ (k : Int) hH.out hwk (Nat.le_trans (St.len_news _) (by rw [List.length_take]; omega)))
      clear hwk
      go_wp2_with fail
      refine HA.out.mono ?_
      rintro e w2 ⟨rfl, F2, hH2, hO2, hF2⟩
      have HH2 := Lib.hid hH2
      rw [← HS2.out] at HH2
      have HB2 := Lib.hid (hB.out.trans (hO2.below hB.out.size hF.out))
      have HF2 := Lib.hid (show ∀ j, F2 j → w.heap.size ≤ j from fun j hj => (hF2 j hj).elim (hF.out j) (fun h => Nat.le_trans hB.out.size h))
      clear hH2 hO2 hF2 HA
      go_wp2
      go_roundw
      case rel => exact ⟨k + 1, F2, by omega, by go_num, HH2, HF2, HB2⟩
      case measure => simp [Go.RowKit.intOf]; omega
    · obtain rfl : k = n := by omega
      have HT := Lib.hid (show St.Tells (St.news ((countTo k).take k)) (countTo k) (Sym (relE (ahd own S 0))) by
        rw [List.take_of_length_le (by rw [countTo_length]; exact Nat.le_refl _)]
        exact told_start (by omega))
      have HG0 := Lib.hid (show Hg wq mb nn w.heap.size F sb (St.news ((countTo k).take k)) k own (fun x => x ∈ ks ∧ ¬ Seen S 0 0 x) (ahd own S 0) from
        ⟨(HM.out.below hB.out).cong (fun x => ⟨fun h => h.1, fun h => ⟨h, Seen.start S x⟩⟩), hH.out, HT.out, hF.out⟩)
      have HO0 := Lib.hid (show Only (New mb w.heap.size) w wq from Only.of_below hB.out)
      clear hH hF hB HT
      generalize St.news ((countTo k).take k) = s0 at *
      go_wp2
      go_loopw [22] (fun i wr => ∃ (v : Nat) (F : Nat → Prop) (s : St), v ≤ S.length ∧ i = .int .i64 (v : Nat) ∧ Hid (Hg wr mb nn w.heap.size F sb s k own (fun x => x ∈ ks ∧ ¬ Seen S v 0 x) (ahd own S v)) ∧ Hid (Only (New mb w.heap.size) w wr) ∧ Hid (∀ j, j < v → Good1 ks own S j)) (fun i _ => S.length - (Go.RowKit.intOf i).toNat)
      case atStart => exact ⟨0, F, s0, Nat.zero_le _, rfl, HG0, HO0, Lib.hid (fun j h => absurd h (Nat.not_lt_zero _))⟩
      case round =>
        clear HG0 HO0
        obtain ⟨v, F1, s1, hv, rfl, hG, hO, hgd⟩ := hrel
        obtain ⟨wz, hwz⟩ : ∃ z, z = wr := ⟨_, rfl⟩
        subst hwz
        by_cases hvt : v < S.length
        · obtain ⟨b, off, rfl, A1, c1, hcv, hI, hOf⟩ := LL.at_keep HS.out HMB.out hO.out hvt
          have HIL := Lib.hid hI
          have HOF := Lib.hid hOf
          have hrv := hr v
          have hbl : b < wz.heap.size := World.block_lt_of_cell? wz _ hcv
          have HCV := Lib.hid hcv
          have HLN : Hid ((getT S v).length = (getT S v).length) := Lib.hid rfl
          have HSZ := Lib.hid hO.out.size
          clear hI hOf
          by_cases h2 : (getT S v).length < 2
          · have HNO := Lib.hid (not_hung (n := k) hvt (fun h : Good1 ks own S v => absurd h.two (by omega)))
            generalize (getT S v).length = nl at *
            go_wp2_with fail
            -- region A
            refine wp_region_plan [is (.slice A1 nl c1), is (.int .i64 (nl : Int)), is (.bool true), is (.bool true), is undef, is undef, is undef, is (.bool true), is (.bool true), is undef, is undef, is undef, is undef, is undef, is undef, is undef, is undef, is undef, is undef, is undef, is undef, is undef, is undef, is undef, is (.bool true), is (.bool true), is undef, is undef, is undef, is undef, is undef, is (.bool true)] (by kernel_rfl) (by kernel_rfl) ?_ ?_
            · skip
              refine StepsP.cons ?_ ?_
              · refine step_val (fun a wx hB O D => ?_)
                have e10 : a.tmps[10]? = some (.slice A1 nl c1) := O 10 (by rfl)
                clear O D
                exact ⟨rfl, by unfold execOp; simp only [ev e10]; rfl⟩
              refine StepsP.cons ?_ ?_
              · refine step_val (fun a wx hB O D => ?_)
                obtain ⟨_, e27, rfl⟩ := D 0 _ _ _ (by decide) rfl rfl rfl
                clear O D
                exact ⟨rfl, by go_simp⟩
              refine StepsP.cons ?_ ?_
              · refine step_val (fun a wx hB O D => ?_)
                obtain ⟨_, e28, rfl⟩ := D 1 _ _ _ (by decide) rfl rfl rfl
                have h2i : (nl : Int) < 2 := by omega
                clear O D
                exact ⟨rfl, by go_simp⟩
              refine StepsP.cons ?_ ?_
              · refine step_val (fun a wx hB O D => ?_)
                obtain ⟨_, e29, rfl⟩ := D 2 _ _ _ (by decide) rfl rfl rfl
                clear O D
                exact ⟨rfl, by unfold execOp; simp only [ev e29]; rfl⟩
              refine StepsP.cons ?_ ?_
              · exact step_skip rfl rfl rfl (by decide) rfl rfl rfl
              refine StepsP.cons ?_ ?_
              · exact step_skip rfl rfl rfl (by decide) rfl rfl rfl
              refine StepsP.cons ?_ ?_
              · exact step_skip rfl rfl rfl (by decide) rfl rfl rfl
              refine StepsP.cons ?_ ?_
              · refine step_val (fun a wx hB O D => ?_)
                obtain ⟨_, e30, rfl⟩ := D 3 _ _ _ (by decide) rfl rfl rfl
                obtain ⟨_, e33, rfl⟩ := D 6 _ _ _ (by decide) rfl rfl rfl
                clear O D
                exact ⟨rfl, by go_simp⟩
              refine StepsP.cons ?_ ?_
              · refine step_val (fun a wx hB O D => ?_)
                obtain ⟨_, e34, rfl⟩ := D 7 _ _ _ (by decide) rfl rfl rfl
                clear O D
                exact ⟨rfl, by unfold execOp; simp only [ev e34]; rfl⟩
              refine StepsP.cons ?_ ?_
              · exact step_skip rfl rfl rfl (by decide) rfl rfl rfl
              refine StepsP.cons ?_ ?_
              · exact step_skip rfl rfl rfl (by decide) rfl rfl rfl
              refine StepsP.cons ?_ ?_
              · exact step_skip rfl rfl rfl (by decide) rfl rfl rfl
              refine StepsP.cons ?_ ?_
              · exact step_skipU rfl rfl (by decide) rfl rfl rfl
              refine StepsP.cons ?_ ?_
              · exact step_skipU rfl rfl (by decide) rfl rfl rfl
              refine StepsP.cons ?_ ?_
              · exact step_skipU rfl rfl (by decide) rfl rfl rfl
              refine StepsP.cons ?_ ?_
              · exact step_skipU rfl rfl (by decide) rfl rfl rfl
              refine StepsP.cons ?_ ?_
              · exact step_skipU rfl rfl (by decide) rfl rfl rfl
              refine StepsP.cons ?_ ?_
              · exact step_skipU rfl rfl (by decide) rfl rfl rfl
              refine StepsP.cons ?_ ?_
              · exact step_skipU rfl rfl (by decide) rfl rfl rfl
              refine StepsP.cons ?_ ?_
              · exact step_skipU rfl rfl (by decide) rfl rfl rfl
              refine StepsP.cons ?_ ?_
              · exact step_skipU rfl rfl (by decide) rfl rfl rfl
              refine StepsP.cons ?_ ?_
              · exact step_skipU rfl rfl (by decide) rfl rfl rfl
              refine StepsP.cons ?_ ?_
              · exact step_skipU rfl rfl (by decide) rfl rfl rfl
              refine StepsP.cons ?_ ?_
              · exact step_skip rfl rfl rfl (by decide) rfl rfl rfl
              refine StepsP.cons ?_ ?_
              · refine step_val (fun a wx hB O D => ?_)
                obtain ⟨_, e35, rfl⟩ := D 8 _ _ _ (by decide) rfl rfl rfl
                obtain ⟨_, e50, rfl⟩ := D 23 _ _ _ (by decide) rfl rfl rfl
                clear O D
                exact ⟨rfl, by go_simp⟩
              refine StepsP.cons ?_ ?_
              · refine step_val (fun a wx hB O D => ?_)
                obtain ⟨_, e51, rfl⟩ := D 24 _ _ _ (by decide) rfl rfl rfl
                clear O D
                exact ⟨rfl, by unfold execOp; simp only [ev e51]; rfl⟩
              refine StepsP.cons ?_ ?_
              · exact step_skip rfl rfl rfl (by decide) rfl rfl rfl
              refine StepsP.cons ?_ ?_
              · exact step_skip rfl rfl rfl (by decide) rfl rfl rfl
              refine StepsP.cons ?_ ?_
              · exact step_skip rfl rfl rfl (by decide) rfl rfl rfl
              refine StepsP.cons ?_ ?_
              · exact step_skip rfl rfl rfl (by decide) rfl rfl rfl
              refine StepsP.cons ?_ ?_
              · exact step_skip rfl rfl rfl (by decide) rfl rfl rfl
              refine StepsP.cons ?_ ?_
              · refine step_val (fun a wx hB O D => ?_)
                obtain ⟨_, e52, rfl⟩ := D 25 _ _ _ (by decide) rfl rfl rfl
                obtain ⟨_, e57, rfl⟩ := D 30 _ _ _ (by decide) rfl rfl rfl
                clear O D
                exact ⟨rfl, by go_simp⟩
              exact StepsP.nil
            · intro wz hZ
              refine EndP.is ?_
              refine EndP.is ?_
              refine EndP.is ?_
              refine EndP.is ?_
              refine EndP.is ?_
              refine EndP.is ?_
              refine EndP.is ?_
              refine EndP.is ?_
              refine EndP.is ?_
              refine EndP.is ?_
              refine EndP.is ?_
              refine EndP.is ?_
              refine EndP.is ?_
              refine EndP.is ?_
              refine EndP.is ?_
              refine EndP.is ?_
              refine EndP.is ?_
              refine EndP.is ?_
              refine EndP.is ?_
              refine EndP.is ?_
              refine EndP.is ?_
              refine EndP.is ?_
              refine EndP.is ?_
              refine EndP.is ?_
              refine EndP.is ?_
              refine EndP.is ?_
              refine EndP.is ?_
              refine EndP.is ?_
              refine EndP.is ?_
              refine EndP.is ?_
              refine EndP.is ?_
              refine EndP.is ?_
              refine EndP.nil ?_
              refine wpList_nil ?_
            -- behind A
              simp only [Act.put, List.setIfInBounds_toArray, List.set_cons_zero, List.set_cons_succ]
              have HOZ := Lib.hid (hO.out.trans' (Only.of_below hZ))
              clear hZ
              go_wp2
              go_ret
              exact ⟨HOZ.out, .inr ⟨rfl, HNO.out⟩⟩
          by_cases hs : SortedL (getT S v)
          case neg =>
            have HNO := Lib.hid (not_hung (n := k) hvt (fun h : Good1 ks own S v => hs h.sorted))
            have HSB := Lib.hid hs
            generalize (getT S v).length = nl at *
            have h2' : ¬ nl < 2 := h2
            clear hs
            go_wp2_with fail
            -- region B
            refine wp_region_plan [is (.slice A1 nl c1), is (.int .i64 (nl : Int)), is (.bool false), is (.bool false), is (.slice A1 nl c1), is (.bool false), is (.bool true), is (.bool true), is (.bool true), is undef, is undef, is undef, is undef, is undef, is undef, is undef, is undef, is undef, is undef, is undef, is undef, is undef, is undef, is undef, is (.bool true), is (.bool true), is undef, is undef, is undef, is undef, is undef, is (.bool true)] (by kernel_rfl) (by kernel_rfl) ?_ ?_
            · skip
              refine StepsP.cons ?_ ?_
              · refine step_val (fun a wx hB O D => ?_)
                have e10 : a.tmps[10]? = some (.slice A1 nl c1) := O 10 (by rfl)
                clear O D
                exact ⟨rfl, by unfold execOp; simp only [ev e10]; rfl⟩
              refine StepsP.cons ?_ ?_
              · refine step_val (fun a wx hB O D => ?_)
                obtain ⟨_, e27, rfl⟩ := D 0 _ _ _ (by decide) rfl rfl rfl
                clear O D
                exact ⟨rfl, by go_simp⟩
              refine StepsP.cons ?_ ?_
              · refine step_val (fun a wx hB O D => ?_)
                obtain ⟨_, e28, rfl⟩ := D 1 _ _ _ (by decide) rfl rfl rfl
                have h2i : ¬ (nl : Int) < 2 := by omega
                clear O D
                exact ⟨rfl, by go_simp⟩
              refine StepsP.cons ?_ ?_
              · refine step_val (fun a wx hB O D => ?_)
                obtain ⟨_, e29, rfl⟩ := D 2 _ _ _ (by decide) rfl rfl rfl
                clear O D
                exact ⟨rfl, by unfold execOp; simp only [ev e29]; rfl⟩
              refine StepsP.cons ?_ ?_
              · refine step_val (fun a wx hB O D => ?_)
                have e10 : a.tmps[10]? = some (.slice A1 nl c1) := O 10 (by rfl)
                obtain ⟨_, e30, rfl⟩ := D 3 _ _ _ (by decide) rfl rfl rfl
                clear O D
                exact ⟨wanted_of rfl rfl e30 rfl, by unfold execOp; simp only [ev e10]; rfl⟩
              refine StepsP.cons ?_ ?_
              · refine step_call (enters_of Tryz.func80 (by kernel_rfl) rfl) rfl rfl (fun a wx hB O D => ?_)
                obtain ⟨_, e31, rfl⟩ := D 4 _ _ _ (by decide) rfl rfl rfl
                obtain ⟨_, e30, rfl⟩ := D 3 _ _ _ (by decide) rfl rfl rfl
                refine ⟨wanted_of rfl rfl e30 rfl, #[.slice A1 nl c1], by simp only [List.map_toArray, List.map_cons, List.map_nil, ev e31] <;> rfl, ?_⟩
                exact (isSorted_no _ _ _ (HIL.out.below hB) (hr v) HSB.out).mono fun _ _ ⟨he, hb⟩ => ⟨_, he, hb, rfl⟩
              refine StepsP.cons ?_ ?_
              · refine step_val (fun a wx hB O D => ?_)
                obtain ⟨_, e32, rfl⟩ := D 5 _ _ _ (by decide) rfl rfl rfl
                obtain ⟨_, e30, rfl⟩ := D 3 _ _ _ (by decide) rfl rfl rfl
                clear O D
                exact ⟨wanted_of rfl rfl e30 rfl, by go_simp⟩
              refine StepsP.cons ?_ ?_
              · refine step_val (fun a wx hB O D => ?_)
                obtain ⟨_, e30, rfl⟩ := D 3 _ _ _ (by decide) rfl rfl rfl
                obtain ⟨_, e33, rfl⟩ := D 6 _ _ _ (by decide) rfl rfl rfl
                clear O D
                exact ⟨rfl, by go_simp⟩
              refine StepsP.cons ?_ ?_
              · refine step_val (fun a wx hB O D => ?_)
                obtain ⟨_, e34, rfl⟩ := D 7 _ _ _ (by decide) rfl rfl rfl
                clear O D
                exact ⟨rfl, by unfold execOp; simp only [ev e34]; rfl⟩
              refine StepsP.cons ?_ ?_
              · exact step_skip rfl rfl rfl (by decide) rfl rfl rfl
              refine StepsP.cons ?_ ?_
              · exact step_skip rfl rfl rfl (by decide) rfl rfl rfl
              refine StepsP.cons ?_ ?_
              · exact step_skip rfl rfl rfl (by decide) rfl rfl rfl
              refine StepsP.cons ?_ ?_
              · exact step_skipU rfl rfl (by decide) rfl rfl rfl
              refine StepsP.cons ?_ ?_
              · exact step_skipU rfl rfl (by decide) rfl rfl rfl
              refine StepsP.cons ?_ ?_
              · exact step_skipU rfl rfl (by decide) rfl rfl rfl
              refine StepsP.cons ?_ ?_
              · exact step_skipU rfl rfl (by decide) rfl rfl rfl
              refine StepsP.cons ?_ ?_
              · exact step_skipU rfl rfl (by decide) rfl rfl rfl
              refine StepsP.cons ?_ ?_
              · exact step_skipU rfl rfl (by decide) rfl rfl rfl
              refine StepsP.cons ?_ ?_
              · exact step_skipU rfl rfl (by decide) rfl rfl rfl
              refine StepsP.cons ?_ ?_
              · exact step_skipU rfl rfl (by decide) rfl rfl rfl
              refine StepsP.cons ?_ ?_
              · exact step_skipU rfl rfl (by decide) rfl rfl rfl
              refine StepsP.cons ?_ ?_
              · exact step_skipU rfl rfl (by decide) rfl rfl rfl
              refine StepsP.cons ?_ ?_
              · exact step_skipU rfl rfl (by decide) rfl rfl rfl
              refine StepsP.cons ?_ ?_
              · exact step_skip rfl rfl rfl (by decide) rfl rfl rfl
              refine StepsP.cons ?_ ?_
              · refine step_val (fun a wx hB O D => ?_)
                obtain ⟨_, e35, rfl⟩ := D 8 _ _ _ (by decide) rfl rfl rfl
                obtain ⟨_, e50, rfl⟩ := D 23 _ _ _ (by decide) rfl rfl rfl
                clear O D
                exact ⟨rfl, by go_simp⟩
              refine StepsP.cons ?_ ?_
              · refine step_val (fun a wx hB O D => ?_)
                obtain ⟨_, e51, rfl⟩ := D 24 _ _ _ (by decide) rfl rfl rfl
                clear O D
                exact ⟨rfl, by unfold execOp; simp only [ev e51]; rfl⟩
              refine StepsP.cons ?_ ?_
              · exact step_skip rfl rfl rfl (by decide) rfl rfl rfl
              refine StepsP.cons ?_ ?_
              · exact step_skip rfl rfl rfl (by decide) rfl rfl rfl
              refine StepsP.cons ?_ ?_
              · exact step_skip rfl rfl rfl (by decide) rfl rfl rfl
              refine StepsP.cons ?_ ?_
              · exact step_skip rfl rfl rfl (by decide) rfl rfl rfl
              refine StepsP.cons ?_ ?_
              · exact step_skip rfl rfl rfl (by decide) rfl rfl rfl
              refine StepsP.cons ?_ ?_
              · refine step_val (fun a wx hB O D => ?_)
                obtain ⟨_, e52, rfl⟩ := D 25 _ _ _ (by decide) rfl rfl rfl
                obtain ⟨_, e57, rfl⟩ := D 30 _ _ _ (by decide) rfl rfl rfl
                clear O D
                exact ⟨rfl, by go_simp⟩
              exact StepsP.nil
            · intro wz hZ
              refine EndP.is ?_
              refine EndP.is ?_
              refine EndP.is ?_
              refine EndP.is ?_
              refine EndP.is ?_
              refine EndP.is ?_
              refine EndP.is ?_
              refine EndP.is ?_
              refine EndP.is ?_
              refine EndP.is ?_
              refine EndP.is ?_
              refine EndP.is ?_
              refine EndP.is ?_
              refine EndP.is ?_
              refine EndP.is ?_
              refine EndP.is ?_
              refine EndP.is ?_
              refine EndP.is ?_
              refine EndP.is ?_
              refine EndP.is ?_
              refine EndP.is ?_
              refine EndP.is ?_
              refine EndP.is ?_
              refine EndP.is ?_
              refine EndP.is ?_
              refine EndP.is ?_
              refine EndP.is ?_
              refine EndP.is ?_
              refine EndP.is ?_
              refine EndP.is ?_
              refine EndP.is ?_
              refine EndP.is ?_
              refine EndP.nil ?_
              refine wpList_nil ?_
            -- behind B
              simp only [Act.put, List.setIfInBounds_toArray, List.set_cons_zero, List.set_cons_succ]
              have HOZ := Lib.hid (hO.out.trans' (Only.of_below hZ))
              clear hZ
              go_wp2
              go_ret
              exact ⟨HOZ.out, .inr ⟨rfl, HNO.out⟩⟩
          have HSL := Lib.hid hs
          have h2' : 2 ≤ (getT S v).length := by omega
          have HH2 := Lib.hid h2'
          -- what comes of the list
          have HHB := Lib.hid (fun (wx : World) (hx : Below wz.heap.size wz wx) => hangBy_any (mb := mb) (B := w.heap.size) (.slice A1 (getT S v).length c1) wx (HIL.out.below hx) (HOF.out (by omega)) (by omega) hrv (HW.out v) (hG.out.below hx) hmB (Nat.le_trans HSZ.out hx.size) (by omega) (fun x hx => HO.out x hx.1))
          rcases Nat.eq_zero_or_pos v with hv0 | hv0
          · have HHD := Lib.hid (show HeadOk S v from fun h => by omega)
            have HT1 := Lib.hid (show ¬ 0 < v by omega)
            clear hs hv0
            have HAS := Lib.hid (ahd_succ (own := own) hvt)
            generalize hnl : (getT S v).length = nl at *
            have HNL := Lib.hid hnl
            clear hnl h2 h2'
            go_wp2_with fail
            -- region C
            refine wp_region_plan [is (.slice A1 nl c1), is (.int .i64 (nl : Int)), is (.bool false), is (.bool false), is (.slice A1 nl c1), is (.bool true), is (.bool false), is (.bool false), is (.bool false), is (.int .i64 (v : Int)), is (.bool false), is (.bool false), is undef, is undef, is undef, is undef, is undef, is undef, is undef, is undef, is undef, is undef, is undef, is (.bool false), is (.bool false), is (.bool false), is (.slice A1 nl c1), is (.map (some mb)), is (.pointer (some ⟨sb, 0, none⟩))] (by kernel_rfl) (by kernel_rfl) ?_ ?_
            · skip
              refine StepsP.cons ?_ ?_
              · refine step_val (fun a wx hB O D => ?_)
                have e10 : a.tmps[10]? = some (.slice A1 nl c1) := O 10 (by rfl)
                clear O D
                exact ⟨rfl, by unfold execOp; simp only [ev e10]; rfl⟩
              refine StepsP.cons ?_ ?_
              · refine step_val (fun a wx hB O D => ?_)
                obtain ⟨_, e27, rfl⟩ := D 0 _ _ _ (by decide) rfl rfl rfl
                clear O D
                exact ⟨rfl, by go_simp⟩
              refine StepsP.cons ?_ ?_
              · refine step_val (fun a wx hB O D => ?_)
                obtain ⟨_, e28, rfl⟩ := D 1 _ _ _ (by decide) rfl rfl rfl
                have h2 := HH2.out
                have h2i : ¬ (nl : Int) < 2 := by omega
                clear O D
                exact ⟨rfl, by go_simp⟩
              refine StepsP.cons ?_ ?_
              · refine step_val (fun a wx hB O D => ?_)
                obtain ⟨_, e29, rfl⟩ := D 2 _ _ _ (by decide) rfl rfl rfl
                clear O D
                exact ⟨rfl, by unfold execOp; simp only [ev e29]; rfl⟩
              refine StepsP.cons ?_ ?_
              · refine step_val (fun a wx hB O D => ?_)
                have e10 : a.tmps[10]? = some (.slice A1 nl c1) := O 10 (by rfl)
                obtain ⟨_, e30, rfl⟩ := D 3 _ _ _ (by decide) rfl rfl rfl
                clear O D
                exact ⟨wanted_of rfl rfl e30 rfl, by unfold execOp; simp only [ev e10]; rfl⟩
              refine StepsP.cons ?_ ?_
              · refine step_call (enters_of Tryz.func80 (by kernel_rfl) rfl) rfl rfl (fun a wx hB O D => ?_)
                obtain ⟨_, e31, rfl⟩ := D 4 _ _ _ (by decide) rfl rfl rfl
                obtain ⟨_, e30, rfl⟩ := D 3 _ _ _ (by decide) rfl rfl rfl
                refine ⟨wanted_of rfl rfl e30 rfl, #[.slice A1 nl c1], by simp only [List.map_toArray, List.map_cons, List.map_nil, ev e31] <;> rfl, ?_⟩
                exact (isSorted_yes _ _ _ (HIL.out.below hB) (hr v) HSL.out).mono fun _ _ ⟨he, hb⟩ => ⟨_, he, hb, rfl⟩
              refine StepsP.cons ?_ ?_
              · refine step_val (fun a wx hB O D => ?_)
                obtain ⟨_, e32, rfl⟩ := D 5 _ _ _ (by decide) rfl rfl rfl
                obtain ⟨_, e30, rfl⟩ := D 3 _ _ _ (by decide) rfl rfl rfl
                clear O D
                exact ⟨wanted_of rfl rfl e30 rfl, by go_simp⟩
              refine StepsP.cons ?_ ?_
              · refine step_val (fun a wx hB O D => ?_)
                obtain ⟨_, e30, rfl⟩ := D 3 _ _ _ (by decide) rfl rfl rfl
                obtain ⟨_, e33, rfl⟩ := D 6 _ _ _ (by decide) rfl rfl rfl
                clear O D
                exact ⟨rfl, by go_simp⟩
              refine StepsP.cons ?_ ?_
              · refine step_val (fun a wx hB O D => ?_)
                obtain ⟨_, e34, rfl⟩ := D 7 _ _ _ (by decide) rfl rfl rfl
                clear O D
                exact ⟨rfl, by unfold execOp; simp only [ev e34]; rfl⟩
              refine StepsP.cons ?_ ?_
              · refine step_val (fun a wx hB O D => ?_)
                have e9 : a.tmps[9]? = some (.int .i64 (v : Int)) := O 9 (by rfl)
                obtain ⟨_, e35, rfl⟩ := D 8 _ _ _ (by decide) rfl rfl rfl
                clear O D
                exact ⟨wanted_of rfl rfl e35 rfl, by unfold execOp; simp only [ev e9]; rfl⟩
              refine StepsP.cons ?_ ?_
              · refine step_val (fun a wx hB O D => ?_)
                obtain ⟨_, e36, rfl⟩ := D 9 _ _ _ (by decide) rfl rfl rfl
                obtain ⟨_, e35, rfl⟩ := D 8 _ _ _ (by decide) rfl rfl rfl
                have t1 := HT1.out
                clear O D
                exact ⟨wanted_of rfl rfl e35 rfl, by go_simp⟩
              refine StepsP.cons ?_ ?_
              · refine step_val (fun a wx hB O D => ?_)
                obtain ⟨_, e37, rfl⟩ := D 10 _ _ _ (by decide) rfl rfl rfl
                obtain ⟨_, e35, rfl⟩ := D 8 _ _ _ (by decide) rfl rfl rfl
                clear O D
                exact ⟨wanted_of rfl rfl e35 rfl, by unfold execOp; simp only [ev e37]; rfl⟩
              refine StepsP.cons ?_ ?_
              · exact step_skip rfl rfl rfl (by decide) rfl rfl rfl
              refine StepsP.cons ?_ ?_
              · exact step_skip rfl rfl rfl (by decide) rfl rfl rfl
              refine StepsP.cons ?_ ?_
              · exact step_skip rfl rfl rfl (by decide) rfl rfl rfl
              refine StepsP.cons ?_ ?_
              · exact step_skip rfl rfl rfl (by decide) rfl rfl rfl
              refine StepsP.cons ?_ ?_
              · exact step_skip rfl rfl rfl (by decide) rfl rfl rfl
              refine StepsP.cons ?_ ?_
              · exact step_skip rfl rfl rfl (by decide) rfl rfl rfl
              refine StepsP.cons ?_ ?_
              · exact step_skip rfl rfl rfl (by decide) rfl rfl rfl
              refine StepsP.cons ?_ ?_
              · exact step_skip rfl rfl rfl (by decide) rfl rfl rfl
              refine StepsP.cons ?_ ?_
              · exact step_skip rfl rfl rfl (by decide) rfl rfl rfl
              refine StepsP.cons ?_ ?_
              · exact step_skip rfl rfl rfl (by decide) rfl rfl rfl
              refine StepsP.cons ?_ ?_
              · exact step_skip rfl rfl rfl (by decide) rfl rfl rfl
              refine StepsP.cons ?_ ?_
              · refine step_val (fun a wx hB O D => ?_)
                obtain ⟨_, e38, rfl⟩ := D 11 _ _ _ (by decide) rfl rfl rfl
                obtain ⟨_, e49, rfl⟩ := D 22 _ _ _ (by decide) rfl rfl rfl
                obtain ⟨_, e35, rfl⟩ := D 8 _ _ _ (by decide) rfl rfl rfl
                clear O D
                exact ⟨wanted_of rfl rfl e35 rfl, by go_simp⟩
              refine StepsP.cons ?_ ?_
              · refine step_val (fun a wx hB O D => ?_)
                obtain ⟨_, e35, rfl⟩ := D 8 _ _ _ (by decide) rfl rfl rfl
                obtain ⟨_, e50, rfl⟩ := D 23 _ _ _ (by decide) rfl rfl rfl
                clear O D
                exact ⟨rfl, by go_simp⟩
              refine StepsP.cons ?_ ?_
              · refine step_val (fun a wx hB O D => ?_)
                obtain ⟨_, e51, rfl⟩ := D 24 _ _ _ (by decide) rfl rfl rfl
                clear O D
                exact ⟨rfl, by unfold execOp; simp only [ev e51]; rfl⟩
              refine StepsP.cons ?_ ?_
              · refine step_val (fun a wx hB O D => ?_)
                have e10 : a.tmps[10]? = some (.slice A1 nl c1) := O 10 (by rfl)
                obtain ⟨_, e52, rfl⟩ := D 25 _ _ _ (by decide) rfl rfl rfl
                clear O D
                exact ⟨wanted_of rfl rfl e52 rfl, by unfold execOp; simp only [ev e10]; rfl⟩
              refine StepsP.cons ?_ ?_
              · refine step_val (fun a wx hB O D => ?_)
                have e1 : a.tmps[1]? = some (.map (some mb)) := O 1 (by rfl)
                obtain ⟨_, e52, rfl⟩ := D 25 _ _ _ (by decide) rfl rfl rfl
                clear O D
                exact ⟨wanted_of rfl rfl e52 rfl, by unfold execOp; simp only [ev e1]; rfl⟩
              refine StepsP.cons ?_ ?_
              · refine step_val (fun a wx hB O D => ?_)
                have e7 : a.tmps[7]? = some (.pointer (some ⟨sb, 0, none⟩)) := O 7 (by rfl)
                obtain ⟨_, e52, rfl⟩ := D 25 _ _ _ (by decide) rfl rfl rfl
                clear O D
                exact ⟨wanted_of rfl rfl e52 rfl, by unfold execOp; simp only [ev e7]; rfl⟩
              exact StepsP.nil
            · intro wz hZ
              refine EndP.is ?_
              refine EndP.is ?_
              refine EndP.is ?_
              refine EndP.is ?_
              refine EndP.is ?_
              refine EndP.is ?_
              refine EndP.is ?_
              refine EndP.is ?_
              refine EndP.is ?_
              refine EndP.is ?_
              refine EndP.is ?_
              refine EndP.is ?_
              refine EndP.is ?_
              refine EndP.is ?_
              refine EndP.is ?_
              refine EndP.is ?_
              refine EndP.is ?_
              refine EndP.is ?_
              refine EndP.is ?_
              refine EndP.is ?_
              refine EndP.is ?_
              refine EndP.is ?_
              refine EndP.is ?_
              refine EndP.is ?_
              refine EndP.is ?_
              refine EndP.is ?_
              refine EndP.is ?_
              refine EndP.is ?_
            -- behind C
              unfold EndP
              intro v58 hv58 _
              obtain rfl : v58 = .pointer (some ⟨sb, 0, none⟩) := hv58
              unfold EndP
              simp only [Act.put, List.setIfInBounds_toArray, List.set_cons_zero, List.set_cons_succ, List.length_cons, List.length_nil, List.drop_succ_cons, List.drop_zero]
              have HHZ := Lib.hid (HHB.out wz hZ)
              have HOZ := Lib.hid (hO.out.trans' (Only.of_below hZ))
              clear hZ HHB
              go_wp2_with fail
              refine HHZ.out.mono ?_
              clear HHZ
              rintro e w9 ⟨hO9, ⟨rfl, hK, hJ, F2, s2, hG2⟩ | ⟨rfl, hno⟩⟩
              · have HO9 := Lib.hid (HOZ.out.trans' hO9)
                have HGD := Lib.hid (show ∀ j, j < v + 1 → Good1 ks own S j from fun j hj => by
                  rcases Nat.lt_or_eq_of_le (Nat.le_of_lt_succ hj) with h | rfl
                  · exact hgd.out j h
                  · exact good_of (by rw [HNL.out]; exact HH2.out) HSL.out HHD.out (by rw [HNL.out]; exact hK) (by rw [HNL.out]; exact hJ))
                have HG2 := Lib.hid (show Hg w9 mb nn w.heap.size F2 sb s2 k own (fun x => x ∈ ks ∧ ¬ Seen S (v + 1) 0 x) (ahd own S (v + 1)) from by
                  rw [HAS.out]; exact hG2.cong seen_next)
                clear hO9 hK hJ hG2 hG hO HOZ hgd
                go_wp2
                go_roundw
                case rel => exact ⟨v + 1, F2, s2, by omega, by go_num, HG2, HO9, HGD⟩
                case measure => simp [Go.RowKit.intOf]; omega
              · have HO9 := Lib.hid (HOZ.out.trans' hO9)
                have HNO := Lib.hid (not_hung (n := k) hvt (fun h : Good1 ks own S v => hno (by have h1 := of_good h; rw [HNL.out] at h1; exact h1)))
                clear hO9 hno hG hO HOZ hgd
                go_wp2
                go_ret
                exact ⟨HO9.out, .inr ⟨rfl, HNO.out⟩⟩
          · obtain ⟨m, hm, hkm⟩ : ∃ m : Nat, v = m + 1 ∧ (v : Int) - 1 = (m : Int) := ⟨v - 1, by omega, by omega⟩
            have hmS : m < S.length := by omega
            obtain ⟨b', off', e, A2, c2, hcm, hI2, _⟩ := LL.at_keep HS.out HMB.out hO.out hmS
            cases e
            have hp2 : 2 ≤ (getT S m).length := (hgd.out m (by omega)).two
            obtain ⟨pb, po, rfl, hpb, hpc⟩ := ints_at hI2 (show 0 < (getT S m).length by omega)
            obtain ⟨lb, lo, rfl, hlb, hlc⟩ := ints_at HIL.out (show 0 < (getT S v).length by omega)
            rw [Nat.add_zero] at hpc hlc
            have HAS := Lib.hid (ahd_succ (own := own) hvt)
            have HPC := Lib.hid hpc
            have HLC := Lib.hid hlc
            have HCM := Lib.hid hcm
            have HKM := Lib.hid hkm
            have HMS := Lib.hid hmS
            have HT1 := Lib.hid (show 0 < v by omega)
            have HP2 := Lib.hid (show 0 < (getT S m).length by omega)
            have HWM := Lib.hid (w64p ((v : Int) - 1) (by omega) (by omega))
            have HMV := Lib.hid (show v - 1 = m by omega)
            have HMB2 := Lib.hid hpb
            clear hpc hlc hcm hkm hm hI2 hp2 hs
            by_cases hxy : getI (getT S v) 0 < getI (getT S m) 0
            · have HNO := Lib.hid (not_hung (n := k) hvt (fun h : Good1 ks own S v => by have := h.head HT1.out; rw [HMV.out] at this; omega))
              have HXY := Lib.hid hxy
              clear hxy HHB
              generalize (getT S v).length = nl at *
              generalize (getT S m).length = np at *
              generalize getI (getT S v) 0 = y at *
              generalize getI (getT S m) 0 = x at *
              clear h2 h2'
              go_wp2_with fail
              -- region D
              refine wp_region_plan [is (.slice (some ⟨lb, lo, none⟩) nl c1), is (.int .i64 (nl : Int)), is (.bool false), is (.bool false), is (.slice (some ⟨lb, lo, none⟩) nl c1), is (.bool true), is (.bool false), is (.bool false), is (.bool false), is (.int .i64 (v : Int)), is (.bool true), is (.bool true), is (.slice (some ⟨b, off, none⟩) S.length cap), is (.int .i64 (v : Int)), is (.int .i64 (m : Int)), is (.pointer (some ⟨b, off + m, none⟩)), is (.slice (some ⟨pb, po, none⟩) np c2), is (.pointer (some ⟨pb, po, none⟩)), is (.int .i64 x), is (.slice (some ⟨lb, lo, none⟩) nl c1), is (.pointer (some ⟨lb, lo, none⟩)), is (.int .i64 y), is (.bool true), is (.bool true), is (.bool true), is (.bool true), is undef, is undef, is undef, is undef, is undef, is (.bool true)] (by kernel_rfl) (by kernel_rfl) ?_ ?_
              · skip
                refine StepsP.cons ?_ ?_
                · refine step_val (fun a wx hB O D => ?_)
                  have e10 : a.tmps[10]? = some (.slice (some ⟨lb, lo, none⟩) nl c1) := O 10 (by rfl)
                  clear O D
                  exact ⟨rfl, by unfold execOp; simp only [ev e10]; rfl⟩
                refine StepsP.cons ?_ ?_
                · refine step_val (fun a wx hB O D => ?_)
                  obtain ⟨_, e27, rfl⟩ := D 0 _ _ _ (by decide) rfl rfl rfl
                  clear O D
                  exact ⟨rfl, by go_simp⟩
                refine StepsP.cons ?_ ?_
                · refine step_val (fun a wx hB O D => ?_)
                  obtain ⟨_, e28, rfl⟩ := D 1 _ _ _ (by decide) rfl rfl rfl
                  have h2 := HH2.out
                  have h2i : ¬ (nl : Int) < 2 := by omega
                  clear O D
                  exact ⟨rfl, by go_simp⟩
                refine StepsP.cons ?_ ?_
                · refine step_val (fun a wx hB O D => ?_)
                  obtain ⟨_, e29, rfl⟩ := D 2 _ _ _ (by decide) rfl rfl rfl
                  clear O D
                  exact ⟨rfl, by unfold execOp; simp only [ev e29]; rfl⟩
                refine StepsP.cons ?_ ?_
                · refine step_val (fun a wx hB O D => ?_)
                  have e10 : a.tmps[10]? = some (.slice (some ⟨lb, lo, none⟩) nl c1) := O 10 (by rfl)
                  obtain ⟨_, e30, rfl⟩ := D 3 _ _ _ (by decide) rfl rfl rfl
                  clear O D
                  exact ⟨wanted_of rfl rfl e30 rfl, by unfold execOp; simp only [ev e10]; rfl⟩
                refine StepsP.cons ?_ ?_
                · refine step_call (enters_of Tryz.func80 (by kernel_rfl) rfl) rfl rfl (fun a wx hB O D => ?_)
                  obtain ⟨_, e31, rfl⟩ := D 4 _ _ _ (by decide) rfl rfl rfl
                  obtain ⟨_, e30, rfl⟩ := D 3 _ _ _ (by decide) rfl rfl rfl
                  refine ⟨wanted_of rfl rfl e30 rfl, #[.slice (some ⟨lb, lo, none⟩) nl c1], by simp only [List.map_toArray, List.map_cons, List.map_nil, ev e31] <;> rfl, ?_⟩
                  exact (isSorted_yes _ _ _ (HIL.out.below hB) (hr v) HSL.out).mono fun _ _ ⟨he, hb⟩ => ⟨_, he, hb, rfl⟩
                refine StepsP.cons ?_ ?_
                · refine step_val (fun a wx hB O D => ?_)
                  obtain ⟨_, e32, rfl⟩ := D 5 _ _ _ (by decide) rfl rfl rfl
                  obtain ⟨_, e30, rfl⟩ := D 3 _ _ _ (by decide) rfl rfl rfl
                  clear O D
                  exact ⟨wanted_of rfl rfl e30 rfl, by go_simp⟩
                refine StepsP.cons ?_ ?_
                · refine step_val (fun a wx hB O D => ?_)
                  obtain ⟨_, e30, rfl⟩ := D 3 _ _ _ (by decide) rfl rfl rfl
                  obtain ⟨_, e33, rfl⟩ := D 6 _ _ _ (by decide) rfl rfl rfl
                  clear O D
                  exact ⟨rfl, by go_simp⟩
                refine StepsP.cons ?_ ?_
                · refine step_val (fun a wx hB O D => ?_)
                  obtain ⟨_, e34, rfl⟩ := D 7 _ _ _ (by decide) rfl rfl rfl
                  clear O D
                  exact ⟨rfl, by unfold execOp; simp only [ev e34]; rfl⟩
                refine StepsP.cons ?_ ?_
                · refine step_val (fun a wx hB O D => ?_)
                  have e9 : a.tmps[9]? = some (.int .i64 (v : Int)) := O 9 (by rfl)
                  obtain ⟨_, e35, rfl⟩ := D 8 _ _ _ (by decide) rfl rfl rfl
                  clear O D
                  exact ⟨wanted_of rfl rfl e35 rfl, by unfold execOp; simp only [ev e9]; rfl⟩
                refine StepsP.cons ?_ ?_
                · refine step_val (fun a wx hB O D => ?_)
                  obtain ⟨_, e36, rfl⟩ := D 9 _ _ _ (by decide) rfl rfl rfl
                  obtain ⟨_, e35, rfl⟩ := D 8 _ _ _ (by decide) rfl rfl rfl
                  have t1 := HT1.out
                  clear O D
                  exact ⟨wanted_of rfl rfl e35 rfl, by go_simp⟩
                refine StepsP.cons ?_ ?_
                · refine step_val (fun a wx hB O D => ?_)
                  obtain ⟨_, e37, rfl⟩ := D 10 _ _ _ (by decide) rfl rfl rfl
                  obtain ⟨_, e35, rfl⟩ := D 8 _ _ _ (by decide) rfl rfl rfl
                  clear O D
                  exact ⟨wanted_of rfl rfl e35 rfl, by unfold execOp; simp only [ev e37]; rfl⟩
                refine StepsP.cons ?_ ?_
                · refine step_val (fun a wx hB O D => ?_)
                  have e0 : a.tmps[0]? = some (.slice (some ⟨b, off, none⟩) S.length cap) := O 0 (by rfl)
                  obtain ⟨_, e38, rfl⟩ := D 11 _ _ _ (by decide) rfl rfl rfl
                  clear O D
                  exact ⟨wanted_of rfl rfl e38 rfl, by unfold execOp; simp only [ev e0]; rfl⟩
                refine StepsP.cons ?_ ?_
                · refine step_val (fun a wx hB O D => ?_)
                  have e9 : a.tmps[9]? = some (.int .i64 (v : Int)) := O 9 (by rfl)
                  obtain ⟨_, e38, rfl⟩ := D 11 _ _ _ (by decide) rfl rfl rfl
                  clear O D
                  exact ⟨wanted_of rfl rfl e38 rfl, by unfold execOp; simp only [ev e9]; rfl⟩
                refine StepsP.cons ?_ ?_
                · refine step_val (fun a wx hB O D => ?_)
                  obtain ⟨_, e40, rfl⟩ := D 13 _ _ _ (by decide) rfl rfl rfl
                  obtain ⟨_, e38, rfl⟩ := D 11 _ _ _ (by decide) rfl rfl rfl
                  have e := HKM.out
                  have w64 := HWM.out
                  rw [e] at w64
                  clear O D
                  exact ⟨wanted_of rfl rfl e38 rfl, by go_simp⟩
                refine StepsP.cons ?_ ?_
                · refine step_val (fun a wx hB O D => ?_)
                  obtain ⟨_, e39, rfl⟩ := D 12 _ _ _ (by decide) rfl rfl rfl
                  obtain ⟨_, e41, rfl⟩ := D 14 _ _ _ (by decide) rfl rfl rfl
                  obtain ⟨_, e38, rfl⟩ := D 11 _ _ _ (by decide) rfl rfl rfl
                  have hms := HMS.out
                  clear O D
                  exact ⟨wanted_of rfl rfl e38 rfl, by go_simp⟩
                refine StepsP.cons ?_ ?_
                · refine step_val (fun a wx hB O D => ?_)
                  obtain ⟨_, e42, rfl⟩ := D 15 _ _ _ (by decide) rfl rfl rfl
                  obtain ⟨_, e38, rfl⟩ := D 11 _ _ _ (by decide) rfl rfl rfl
                  have q := (hB.cell (p := ⟨b, off + m, none⟩) hbl).trans HCM.out
                  clear O D
                  exact ⟨wanted_of rfl rfl e38 rfl, by go_simp⟩
                refine StepsP.cons ?_ ?_
                · refine step_val (fun a wx hB O D => ?_)
                  obtain ⟨_, e43, rfl⟩ := D 16 _ _ _ (by decide) rfl rfl rfl
                  obtain ⟨_, e38, rfl⟩ := D 11 _ _ _ (by decide) rfl rfl rfl
                  have h := HP2.out
                  clear O D
                  exact ⟨wanted_of rfl rfl e38 rfl, by go_simp⟩
                refine StepsP.cons ?_ ?_
                · refine step_val (fun a wx hB O D => ?_)
                  obtain ⟨_, e44, rfl⟩ := D 17 _ _ _ (by decide) rfl rfl rfl
                  obtain ⟨_, e38, rfl⟩ := D 11 _ _ _ (by decide) rfl rfl rfl
                  have q := (hB.cell (p := ⟨pb, po, none⟩) hpb).trans HPC.out
                  clear O D
                  exact ⟨wanted_of rfl rfl e38 rfl, by go_simp⟩
                refine StepsP.cons ?_ ?_
                · refine step_val (fun a wx hB O D => ?_)
                  have e10 : a.tmps[10]? = some (.slice (some ⟨lb, lo, none⟩) nl c1) := O 10 (by rfl)
                  obtain ⟨_, e38, rfl⟩ := D 11 _ _ _ (by decide) rfl rfl rfl
                  clear O D
                  exact ⟨wanted_of rfl rfl e38 rfl, by unfold execOp; simp only [ev e10]; rfl⟩
                refine StepsP.cons ?_ ?_
                · refine step_val (fun a wx hB O D => ?_)
                  obtain ⟨_, e46, rfl⟩ := D 19 _ _ _ (by decide) rfl rfl rfl
                  obtain ⟨_, e38, rfl⟩ := D 11 _ _ _ (by decide) rfl rfl rfl
                  have h : 0 < nl := Nat.lt_of_lt_of_le (by decide) HH2.out
                  clear O D
                  exact ⟨wanted_of rfl rfl e38 rfl, by go_simp⟩
                refine StepsP.cons ?_ ?_
                · refine step_val (fun a wx hB O D => ?_)
                  obtain ⟨_, e47, rfl⟩ := D 20 _ _ _ (by decide) rfl rfl rfl
                  obtain ⟨_, e38, rfl⟩ := D 11 _ _ _ (by decide) rfl rfl rfl
                  have q := (hB.cell (p := ⟨lb, lo, none⟩) hlb).trans HLC.out
                  clear O D
                  exact ⟨wanted_of rfl rfl e38 rfl, by go_simp⟩
                refine StepsP.cons ?_ ?_
                · refine step_val (fun a wx hB O D => ?_)
                  obtain ⟨_, e45, rfl⟩ := D 18 _ _ _ (by decide) rfl rfl rfl
                  obtain ⟨_, e48, rfl⟩ := D 21 _ _ _ (by decide) rfl rfl rfl
                  obtain ⟨_, e38, rfl⟩ := D 11 _ _ _ (by decide) rfl rfl rfl
                  have h := HXY.out
                  clear O D
                  exact ⟨wanted_of rfl rfl e38 rfl, by go_simp⟩
                refine StepsP.cons ?_ ?_
                · refine step_val (fun a wx hB O D => ?_)
                  obtain ⟨_, e38, rfl⟩ := D 11 _ _ _ (by decide) rfl rfl rfl
                  obtain ⟨_, e49, rfl⟩ := D 22 _ _ _ (by decide) rfl rfl rfl
                  obtain ⟨_, e35, rfl⟩ := D 8 _ _ _ (by decide) rfl rfl rfl
                  clear O D
                  exact ⟨wanted_of rfl rfl e35 rfl, by go_simp⟩
                refine StepsP.cons ?_ ?_
                · refine step_val (fun a wx hB O D => ?_)
                  obtain ⟨_, e35, rfl⟩ := D 8 _ _ _ (by decide) rfl rfl rfl
                  obtain ⟨_, e50, rfl⟩ := D 23 _ _ _ (by decide) rfl rfl rfl
                  clear O D
                  exact ⟨rfl, by go_simp⟩
                refine StepsP.cons ?_ ?_
                · refine step_val (fun a wx hB O D => ?_)
                  obtain ⟨_, e51, rfl⟩ := D 24 _ _ _ (by decide) rfl rfl rfl
                  clear O D
                  exact ⟨rfl, by unfold execOp; simp only [ev e51]; rfl⟩
                refine StepsP.cons ?_ ?_
                · exact step_skip rfl rfl rfl (by decide) rfl rfl rfl
                refine StepsP.cons ?_ ?_
                · exact step_skip rfl rfl rfl (by decide) rfl rfl rfl
                refine StepsP.cons ?_ ?_
                · exact step_skip rfl rfl rfl (by decide) rfl rfl rfl
                refine StepsP.cons ?_ ?_
                · exact step_skip rfl rfl rfl (by decide) rfl rfl rfl
                refine StepsP.cons ?_ ?_
                · exact step_skip rfl rfl rfl (by decide) rfl rfl rfl
                refine StepsP.cons ?_ ?_
                · refine step_val (fun a wx hB O D => ?_)
                  obtain ⟨_, e52, rfl⟩ := D 25 _ _ _ (by decide) rfl rfl rfl
                  obtain ⟨_, e57, rfl⟩ := D 30 _ _ _ (by decide) rfl rfl rfl
                  clear O D
                  exact ⟨rfl, by go_simp⟩
                exact StepsP.nil
              · intro wz hZ
                refine EndP.is ?_
                refine EndP.is ?_
                refine EndP.is ?_
                refine EndP.is ?_
                refine EndP.is ?_
                refine EndP.is ?_
                refine EndP.is ?_
                refine EndP.is ?_
                refine EndP.is ?_
                refine EndP.is ?_
                refine EndP.is ?_
                refine EndP.is ?_
                refine EndP.is ?_
                refine EndP.is ?_
                refine EndP.is ?_
                refine EndP.is ?_
                refine EndP.is ?_
                refine EndP.is ?_
                refine EndP.is ?_
                refine EndP.is ?_
                refine EndP.is ?_
                refine EndP.is ?_
                refine EndP.is ?_
                refine EndP.is ?_
                refine EndP.is ?_
                refine EndP.is ?_
                refine EndP.is ?_
                refine EndP.is ?_
                refine EndP.is ?_
                refine EndP.is ?_
                refine EndP.is ?_
                refine EndP.is ?_
                refine EndP.nil ?_
                refine wpList_nil ?_
              -- behind D
                simp only [Act.put, List.setIfInBounds_toArray, List.set_cons_zero, List.set_cons_succ]
                have HOZ := Lib.hid (hO.out.trans' (Only.of_below hZ))
                clear hZ
                go_wp2
                go_ret
                exact ⟨HOZ.out, .inr ⟨rfl, HNO.out⟩⟩
            · have HHD := Lib.hid (show HeadOk S v from fun _ => by rw [HMV.out]; omega)
              have HXY := Lib.hid hxy
              clear hxy
              generalize hnl : (getT S v).length = nl at *
              have HNL := Lib.hid hnl
              generalize (getT S m).length = np at *
              generalize getI (getT S v) 0 = y at *
              generalize getI (getT S m) 0 = x at *
              clear hnl h2 h2'
              go_wp2_with fail
              -- region E
              refine wp_region_plan [is (.slice (some ⟨lb, lo, none⟩) nl c1), is (.int .i64 (nl : Int)), is (.bool false), is (.bool false), is (.slice (some ⟨lb, lo, none⟩) nl c1), is (.bool true), is (.bool false), is (.bool false), is (.bool false), is (.int .i64 (v : Int)), is (.bool true), is (.bool true), is (.slice (some ⟨b, off, none⟩) S.length cap), is (.int .i64 (v : Int)), is (.int .i64 (m : Int)), is (.pointer (some ⟨b, off + m, none⟩)), is (.slice (some ⟨pb, po, none⟩) np c2), is (.pointer (some ⟨pb, po, none⟩)), is (.int .i64 x), is (.slice (some ⟨lb, lo, none⟩) nl c1), is (.pointer (some ⟨lb, lo, none⟩)), is (.int .i64 y), is (.bool false), is (.bool false), is (.bool false), is (.bool false), is (.slice (some ⟨lb, lo, none⟩) nl c1), is (.map (some mb)), is (.pointer (some ⟨sb, 0, none⟩))] (by kernel_rfl) (by kernel_rfl) ?_ ?_
              · skip
                refine StepsP.cons ?_ ?_
                · refine step_val (fun a wx hB O D => ?_)
                  have e10 : a.tmps[10]? = some (.slice (some ⟨lb, lo, none⟩) nl c1) := O 10 (by rfl)
                  clear O D
                  exact ⟨rfl, by unfold execOp; simp only [ev e10]; rfl⟩
                refine StepsP.cons ?_ ?_
                · refine step_val (fun a wx hB O D => ?_)
                  obtain ⟨_, e27, rfl⟩ := D 0 _ _ _ (by decide) rfl rfl rfl
                  clear O D
                  exact ⟨rfl, by go_simp⟩
                refine StepsP.cons ?_ ?_
                · refine step_val (fun a wx hB O D => ?_)
                  obtain ⟨_, e28, rfl⟩ := D 1 _ _ _ (by decide) rfl rfl rfl
                  have h2 := HH2.out
                  have h2i : ¬ (nl : Int) < 2 := by omega
                  clear O D
                  exact ⟨rfl, by go_simp⟩
                refine StepsP.cons ?_ ?_
                · refine step_val (fun a wx hB O D => ?_)
                  obtain ⟨_, e29, rfl⟩ := D 2 _ _ _ (by decide) rfl rfl rfl
                  clear O D
                  exact ⟨rfl, by unfold execOp; simp only [ev e29]; rfl⟩
                refine StepsP.cons ?_ ?_
                · refine step_val (fun a wx hB O D => ?_)
                  have e10 : a.tmps[10]? = some (.slice (some ⟨lb, lo, none⟩) nl c1) := O 10 (by rfl)
                  obtain ⟨_, e30, rfl⟩ := D 3 _ _ _ (by decide) rfl rfl rfl
                  clear O D
                  exact ⟨wanted_of rfl rfl e30 rfl, by unfold execOp; simp only [ev e10]; rfl⟩
                refine StepsP.cons ?_ ?_
                · refine step_call (enters_of Tryz.func80 (by kernel_rfl) rfl) rfl rfl (fun a wx hB O D => ?_)
                  obtain ⟨_, e31, rfl⟩ := D 4 _ _ _ (by decide) rfl rfl rfl
                  obtain ⟨_, e30, rfl⟩ := D 3 _ _ _ (by decide) rfl rfl rfl
                  refine ⟨wanted_of rfl rfl e30 rfl, #[.slice (some ⟨lb, lo, none⟩) nl c1], by simp only [List.map_toArray, List.map_cons, List.map_nil, ev e31] <;> rfl, ?_⟩
                  exact (isSorted_yes _ _ _ (HIL.out.below hB) (hr v) HSL.out).mono fun _ _ ⟨he, hb⟩ => ⟨_, he, hb, rfl⟩
                refine StepsP.cons ?_ ?_
                · refine step_val (fun a wx hB O D => ?_)
                  obtain ⟨_, e32, rfl⟩ := D 5 _ _ _ (by decide) rfl rfl rfl
                  obtain ⟨_, e30, rfl⟩ := D 3 _ _ _ (by decide) rfl rfl rfl
                  clear O D
                  exact ⟨wanted_of rfl rfl e30 rfl, by go_simp⟩
                refine StepsP.cons ?_ ?_
                · refine step_val (fun a wx hB O D => ?_)
                  obtain ⟨_, e30, rfl⟩ := D 3 _ _ _ (by decide) rfl rfl rfl
                  obtain ⟨_, e33, rfl⟩ := D 6 _ _ _ (by decide) rfl rfl rfl
                  clear O D
                  exact ⟨rfl, by go_simp⟩
                refine StepsP.cons ?_ ?_
                · refine step_val (fun a wx hB O D => ?_)
                  obtain ⟨_, e34, rfl⟩ := D 7 _ _ _ (by decide) rfl rfl rfl
                  clear O D
                  exact ⟨rfl, by unfold execOp; simp only [ev e34]; rfl⟩
                refine StepsP.cons ?_ ?_
                · refine step_val (fun a wx hB O D => ?_)
                  have e9 : a.tmps[9]? = some (.int .i64 (v : Int)) := O 9 (by rfl)
                  obtain ⟨_, e35, rfl⟩ := D 8 _ _ _ (by decide) rfl rfl rfl
                  clear O D
                  exact ⟨wanted_of rfl rfl e35 rfl, by unfold execOp; simp only [ev e9]; rfl⟩
                refine StepsP.cons ?_ ?_
                · refine step_val (fun a wx hB O D => ?_)
                  obtain ⟨_, e36, rfl⟩ := D 9 _ _ _ (by decide) rfl rfl rfl
                  obtain ⟨_, e35, rfl⟩ := D 8 _ _ _ (by decide) rfl rfl rfl
                  have t1 := HT1.out
                  clear O D
                  exact ⟨wanted_of rfl rfl e35 rfl, by go_simp⟩
                refine StepsP.cons ?_ ?_
                · refine step_val (fun a wx hB O D => ?_)
                  obtain ⟨_, e37, rfl⟩ := D 10 _ _ _ (by decide) rfl rfl rfl
                  obtain ⟨_, e35, rfl⟩ := D 8 _ _ _ (by decide) rfl rfl rfl
                  clear O D
                  exact ⟨wanted_of rfl rfl e35 rfl, by unfold execOp; simp only [ev e37]; rfl⟩
                refine StepsP.cons ?_ ?_
                · refine step_val (fun a wx hB O D => ?_)
                  have e0 : a.tmps[0]? = some (.slice (some ⟨b, off, none⟩) S.length cap) := O 0 (by rfl)
                  obtain ⟨_, e38, rfl⟩ := D 11 _ _ _ (by decide) rfl rfl rfl
                  clear O D
                  exact ⟨wanted_of rfl rfl e38 rfl, by unfold execOp; simp only [ev e0]; rfl⟩
                refine StepsP.cons ?_ ?_
                · refine step_val (fun a wx hB O D => ?_)
                  have e9 : a.tmps[9]? = some (.int .i64 (v : Int)) := O 9 (by rfl)
                  obtain ⟨_, e38, rfl⟩ := D 11 _ _ _ (by decide) rfl rfl rfl
                  clear O D
                  exact ⟨wanted_of rfl rfl e38 rfl, by unfold execOp; simp only [ev e9]; rfl⟩
                refine StepsP.cons ?_ ?_
                · refine step_val (fun a wx hB O D => ?_)
                  obtain ⟨_, e40, rfl⟩ := D 13 _ _ _ (by decide) rfl rfl rfl
                  obtain ⟨_, e38, rfl⟩ := D 11 _ _ _ (by decide) rfl rfl rfl
                  have e := HKM.out
                  have w64 := HWM.out
                  rw [e] at w64
                  clear O D
                  exact ⟨wanted_of rfl rfl e38 rfl, by go_simp⟩
                refine StepsP.cons ?_ ?_
                · refine step_val (fun a wx hB O D => ?_)
                  obtain ⟨_, e39, rfl⟩ := D 12 _ _ _ (by decide) rfl rfl rfl
                  obtain ⟨_, e41, rfl⟩ := D 14 _ _ _ (by decide) rfl rfl rfl
                  obtain ⟨_, e38, rfl⟩ := D 11 _ _ _ (by decide) rfl rfl rfl
                  have hms := HMS.out
                  clear O D
                  exact ⟨wanted_of rfl rfl e38 rfl, by go_simp⟩
                refine StepsP.cons ?_ ?_
                · refine step_val (fun a wx hB O D => ?_)
                  obtain ⟨_, e42, rfl⟩ := D 15 _ _ _ (by decide) rfl rfl rfl
                  obtain ⟨_, e38, rfl⟩ := D 11 _ _ _ (by decide) rfl rfl rfl
                  have q := (hB.cell (p := ⟨b, off + m, none⟩) hbl).trans HCM.out
                  clear O D
                  exact ⟨wanted_of rfl rfl e38 rfl, by go_simp⟩
                refine StepsP.cons ?_ ?_
                · refine step_val (fun a wx hB O D => ?_)
                  obtain ⟨_, e43, rfl⟩ := D 16 _ _ _ (by decide) rfl rfl rfl
                  obtain ⟨_, e38, rfl⟩ := D 11 _ _ _ (by decide) rfl rfl rfl
                  have h := HP2.out
                  clear O D
                  exact ⟨wanted_of rfl rfl e38 rfl, by go_simp⟩
                refine StepsP.cons ?_ ?_
                · refine step_val (fun a wx hB O D => ?_)
                  obtain ⟨_, e44, rfl⟩ := D 17 _ _ _ (by decide) rfl rfl rfl
                  obtain ⟨_, e38, rfl⟩ := D 11 _ _ _ (by decide) rfl rfl rfl
                  have q := (hB.cell (p := ⟨pb, po, none⟩) hpb).trans HPC.out
                  clear O D
                  exact ⟨wanted_of rfl rfl e38 rfl, by go_simp⟩
                refine StepsP.cons ?_ ?_
                · refine step_val (fun a wx hB O D => ?_)
                  have e10 : a.tmps[10]? = some (.slice (some ⟨lb, lo, none⟩) nl c1) := O 10 (by rfl)
                  obtain ⟨_, e38, rfl⟩ := D 11 _ _ _ (by decide) rfl rfl rfl
                  clear O D
                  exact ⟨wanted_of rfl rfl e38 rfl, by unfold execOp; simp only [ev e10]; rfl⟩
                refine StepsP.cons ?_ ?_
                · refine step_val (fun a wx hB O D => ?_)
                  obtain ⟨_, e46, rfl⟩ := D 19 _ _ _ (by decide) rfl rfl rfl
                  obtain ⟨_, e38, rfl⟩ := D 11 _ _ _ (by decide) rfl rfl rfl
                  have h : 0 < nl := Nat.lt_of_lt_of_le (by decide) HH2.out
                  clear O D
                  exact ⟨wanted_of rfl rfl e38 rfl, by go_simp⟩
                refine StepsP.cons ?_ ?_
                · refine step_val (fun a wx hB O D => ?_)
                  obtain ⟨_, e47, rfl⟩ := D 20 _ _ _ (by decide) rfl rfl rfl
                  obtain ⟨_, e38, rfl⟩ := D 11 _ _ _ (by decide) rfl rfl rfl
                  have q := (hB.cell (p := ⟨lb, lo, none⟩) hlb).trans HLC.out
                  clear O D
                  exact ⟨wanted_of rfl rfl e38 rfl, by go_simp⟩
                refine StepsP.cons ?_ ?_
                · refine step_val (fun a wx hB O D => ?_)
                  obtain ⟨_, e45, rfl⟩ := D 18 _ _ _ (by decide) rfl rfl rfl
                  obtain ⟨_, e48, rfl⟩ := D 21 _ _ _ (by decide) rfl rfl rfl
                  obtain ⟨_, e38, rfl⟩ := D 11 _ _ _ (by decide) rfl rfl rfl
                  have h := HXY.out
                  clear O D
                  exact ⟨wanted_of rfl rfl e38 rfl, by go_simp⟩
                refine StepsP.cons ?_ ?_
                · refine step_val (fun a wx hB O D => ?_)
                  obtain ⟨_, e38, rfl⟩ := D 11 _ _ _ (by decide) rfl rfl rfl
                  obtain ⟨_, e49, rfl⟩ := D 22 _ _ _ (by decide) rfl rfl rfl
                  obtain ⟨_, e35, rfl⟩ := D 8 _ _ _ (by decide) rfl rfl rfl
                  clear O D
                  exact ⟨wanted_of rfl rfl e35 rfl, by go_simp⟩
                refine StepsP.cons ?_ ?_
                · refine step_val (fun a wx hB O D => ?_)
                  obtain ⟨_, e35, rfl⟩ := D 8 _ _ _ (by decide) rfl rfl rfl
                  obtain ⟨_, e50, rfl⟩ := D 23 _ _ _ (by decide) rfl rfl rfl
                  clear O D
                  exact ⟨rfl, by go_simp⟩
                refine StepsP.cons ?_ ?_
                · refine step_val (fun a wx hB O D => ?_)
                  obtain ⟨_, e51, rfl⟩ := D 24 _ _ _ (by decide) rfl rfl rfl
                  clear O D
                  exact ⟨rfl, by unfold execOp; simp only [ev e51]; rfl⟩
                refine StepsP.cons ?_ ?_
                · refine step_val (fun a wx hB O D => ?_)
                  have e10 : a.tmps[10]? = some (.slice (some ⟨lb, lo, none⟩) nl c1) := O 10 (by rfl)
                  obtain ⟨_, e52, rfl⟩ := D 25 _ _ _ (by decide) rfl rfl rfl
                  clear O D
                  exact ⟨wanted_of rfl rfl e52 rfl, by unfold execOp; simp only [ev e10]; rfl⟩
                refine StepsP.cons ?_ ?_
                · refine step_val (fun a wx hB O D => ?_)
                  have e1 : a.tmps[1]? = some (.map (some mb)) := O 1 (by rfl)
                  obtain ⟨_, e52, rfl⟩ := D 25 _ _ _ (by decide) rfl rfl rfl
                  clear O D
                  exact ⟨wanted_of rfl rfl e52 rfl, by unfold execOp; simp only [ev e1]; rfl⟩
                refine StepsP.cons ?_ ?_
                · refine step_val (fun a wx hB O D => ?_)
                  have e7 : a.tmps[7]? = some (.pointer (some ⟨sb, 0, none⟩)) := O 7 (by rfl)
                  obtain ⟨_, e52, rfl⟩ := D 25 _ _ _ (by decide) rfl rfl rfl
                  clear O D
                  exact ⟨wanted_of rfl rfl e52 rfl, by unfold execOp; simp only [ev e7]; rfl⟩
                exact StepsP.nil
              · intro wz hZ
                refine EndP.is ?_
                refine EndP.is ?_
                refine EndP.is ?_
                refine EndP.is ?_
                refine EndP.is ?_
                refine EndP.is ?_
                refine EndP.is ?_
                refine EndP.is ?_
                refine EndP.is ?_
                refine EndP.is ?_
                refine EndP.is ?_
                refine EndP.is ?_
                refine EndP.is ?_
                refine EndP.is ?_
                refine EndP.is ?_
                refine EndP.is ?_
                refine EndP.is ?_
                refine EndP.is ?_
                refine EndP.is ?_
                refine EndP.is ?_
                refine EndP.is ?_
                refine EndP.is ?_
                refine EndP.is ?_
                refine EndP.is ?_
                refine EndP.is ?_
                refine EndP.is ?_
                refine EndP.is ?_
                refine EndP.is ?_
              -- behind E
                unfold EndP
                intro v58 hv58 _
                obtain rfl : v58 = .pointer (some ⟨sb, 0, none⟩) := hv58
                unfold EndP
                simp only [Act.put, List.setIfInBounds_toArray, List.set_cons_zero, List.set_cons_succ, List.length_cons, List.length_nil, List.drop_succ_cons, List.drop_zero]
                have HHZ := Lib.hid (HHB.out wz hZ)
                have HOZ := Lib.hid (hO.out.trans' (Only.of_below hZ))
                clear hZ HHB
                go_wp2_with fail
                refine HHZ.out.mono ?_
                clear HHZ
                rintro e w9 ⟨hO9, ⟨rfl, hK, hJ, F2, s2, hG2⟩ | ⟨rfl, hno⟩⟩
                · have HO9 := Lib.hid (HOZ.out.trans' hO9)
                  have HGD := Lib.hid (show ∀ j, j < v + 1 → Good1 ks own S j from fun j hj => by
                    rcases Nat.lt_or_eq_of_le (Nat.le_of_lt_succ hj) with h | rfl
                    · exact hgd.out j h
                    · exact good_of (by rw [HNL.out]; exact HH2.out) HSL.out HHD.out (by rw [HNL.out]; exact hK) (by rw [HNL.out]; exact hJ))
                  have HG2 := Lib.hid (show Hg w9 mb nn w.heap.size F2 sb s2 k own (fun x => x ∈ ks ∧ ¬ Seen S (v + 1) 0 x) (ahd own S (v + 1)) from by
                    rw [HAS.out]; exact hG2.cong seen_next)
                  clear hO9 hK hJ hG2 hG hO HOZ hgd
                  go_wp2
                  go_roundw
                  case rel => exact ⟨v + 1, F2, s2, by omega, by go_num, HG2, HO9, HGD⟩
                  case measure => simp [Go.RowKit.intOf]; omega
                · have HO9 := Lib.hid (HOZ.out.trans' hO9)
                  have HNO := Lib.hid (not_hung (n := k) hvt (fun h : Good1 ks own S v => hno (by have h1 := of_good h; rw [HNL.out] at h1; exact h1)))
                  clear hO9 hno hG hO HOZ hgd
                  go_wp2
                  go_ret
                  exact ⟨HO9.out, .inr ⟨rfl, HNO.out⟩⟩
        · obtain rfl : v = S.length := by omega
          have HCT := Lib.hid (count_any wz F1 sb s1 hG.out.sets)
          have HTC := Lib.hid (told_count hG.out.told)
          have HGL := Lib.hid (good_lists hgd.out)
          have HAL := Lib.hid (ahd_all (own := own) (S := S))
          have HIM := Lib.hid (show IMap wz mb nn (fun x => x ∈ ks ∧ x ∉ S.flatten) own from hG.out.map.cong (fun x => by rw [Seen.flat]))
          have hh : heads s1.gr ≤ 1000000 := by
            have := heads_le s1.gr
            rw [hG.out.sets.ok.len, hG.out.told.1, countTo_length] at this
            omega
          rw [HAL.out] at HTC
          clear hG hgd
          generalize heads s1.gr = nh at *
          go_wp2_with fail
          refine HCT.out.mono ?_
          rintro e w9 ⟨rfl, rfl⟩
          by_cases h1 : nh ≤ 1
          · have HH := Lib.hid (show HungG ks own k S from ⟨HGL.out, HTC.out.1 h1⟩)
            go_wp2
            go_ret
            exact ⟨hO.out, .inl ⟨by simp; omega, HH.out, HIM.out⟩⟩
          · have HH := Lib.hid (show ¬ HungG ks own k S from fun h => h1 (HTC.out.2 h.2))
            go_wp2
            go_ret
            exact ⟨hO.out, .inr ⟨by simp; omega, HH.out⟩⟩
end Go.Proofs.YtmbpmepoaonleaaGreat.Pl
