/-
  The law SetsHeads: its call answers yes, whatever the calls and the numbers.
-/
import Derived.Test.YtfofidbgjfmepaaActs
import Derived.StillTailTactics
namespace Go.Proofs.Ytfofidbgjfmepaa
open Go.RowKit Go.Maps

/-- Joins made, one behind the other. -/
def St.joined (l : List Act1) : St := l.foldl (fun s a => s.join a.x a.y) St.empty
theorem take_succ_getA (l : List Act1) (k : Nat) (h : k < l.length) : l.take (k + 1) = l.take k ++ [getA l k] := by
  unfold getA; rw [List.take_add_one, List.getElem?_eq_getElem h]; simp [h]
theorem St.joined_succ (l : List Act1) (k : Nat) (h : k < l.length) : St.joined (l.take (k + 1)) = (St.joined (l.take k)).join (getA l k).x (getA l k).y := by
  unfold St.joined; rw [take_succ_getA l k h, List.foldl_append]; rfl
theorem St.len_joined_aux : ∀ (l : List Act1) (s : St), (l.foldl (fun s a => s.join a.x a.y) s).ts.length ≤ s.ts.length + 2 * l.length
  | [], s => by simp
  | a :: l, s => by
    have h := St.len_joined_aux l (s.join a.x a.y)
    have h2 := St.len_join s a.x a.y
    simp only [List.foldl_cons, List.length_cons]
    omega
theorem St.len_joined (l : List Act1) : (St.joined l).ts.length ≤ 2 * l.length := by
  have := St.len_joined_aux l St.empty
  simp [St.empty] at this
  exact this

/-- Two things belong together just if they have the same head; a head is its own. -/
theorem St.heads_law {s : St} (ok : St.Ok s) (x y : Int) :
    s.same x y = (decide (x ∈ s.ts) && decide (y ∈ s.ts) && decide (s.head x = s.head y)) ∧ (x ∈ s.ts → s.head x ∈ s.ts ∧ s.head (s.head x) = s.head x) := by
  constructor
  · by_cases hx : x ∈ s.ts
    · by_cases hy : y ∈ s.ts
      · have rx := St.root_lt ok hx
        have ry := St.root_lt ok hy
        unfold St.same St.head
        by_cases e : s.root x = s.root y
        · rw [decide_eq_true ⟨hx, hy, e⟩, e]; simp [hx, hy]
        · rw [decide_eq_false (fun h => e h.2.2)]
          have : ¬ getI s.ts (s.root x) = getI s.ts (s.root y) := fun h => e (ok.one _ _ rx.1 ry.1 h)
          simp [this]
      · unfold St.same; simp [hy]
    · unfold St.same; simp [hx]
  · intro hx
    have rx := St.root_lt ok hx
    have hm : s.head x ∈ s.ts := (mem_getI _ _).2 ⟨s.root x, rx.1, rfl⟩
    refine ⟨hm, ?_⟩
    unfold St.head
    rw [show s.root (getI s.ts (s.root x)) = s.root x by
      show getN s.gr (s.place (getI s.ts (s.root x))) = _
      rw [St.place_at ok rx.1]; exact rx.2]

/-- Head, of whatever thing: what is told, and whether it is there. -/
theorem head_any' (w : World) (F : Nat → Prop) (sb : Nat) (s : St) (x : Int) (h : Holds w F sb s) (hx : (Lit.int .i64 x).wf = true) :
    Calls Try.prog 19 #[.pointer (some ⟨sb, 0, none⟩), .int .i64 x] w fun e w' =>
      ∃ (a : Int) (o : Bool), e = .returned (.tuple #[.int .i64 a, .bool o]) ∧ (x ∈ s.ts → a = s.head x ∧ o = true) ∧ (x ∉ s.ts → o = false) ∧ (Lit.int .i64 a).wf = true ∧ Keeps F w sb s w' := by
  refine (head_any w F sb s x h hx).mono ?_
  rintro e w' ⟨rfl, hK⟩
  by_cases hm : x ∈ s.ts
  · rw [if_pos hm]
    exact ⟨_, _, rfl, fun _ => ⟨rfl, rfl⟩, fun h => absurd hm h, h.ok.wf _ ((mem_getI _ _).2 ⟨s.root x, (St.root_lt h.ok hm).1, rfl⟩), hK⟩
  · rw [if_neg hm]
    exact ⟨_, _, rfl, fun h => absurd h hm, fun _ => rfl, by decide, hK⟩

set_option maxRecDepth 100000 in
set_option maxHeartbeats 2000000 in
theorem heads_law (v : Value) (l : List Act1) (x y : Int) (w : World) (h : Acts w v l) (hx : (Lit.int .i64 x).wf = true) (hy : (Lit.int .i64 y).wf = true) :
    Calls Try.prog 6 #[v, .int .i64 x, .int .i64 y] w fun e w' => e = .returned (.bool true) ∧ Below w.heap.size w w' := by
  have HV := Lib.hid h
  obtain ⟨A, cap, rfl, hcap, hm, hcell, hwf⟩ := h
  go_enter Try.func6, Try.ntmps6
  by_cases hlen : l.length ≤ 100
  case neg =>
    have hgt : (100 : Int) < (l.length : Int) := by omega
    go_wp2_with fail
    refine (awake_any w).mono ?_
    rintro e w1 ⟨rfl, hB1⟩
    go_wp2_with fail
    refine (awake_any w1).mono ?_
    rintro e w2 ⟨rfl, hB2⟩
    go_wp2
    go_ret
    exact ⟨rfl, trans2 hB1 hB2⟩
  have hle : (l.length : Int) ≤ 100 := by omega
  go_wp2_with fail
  refine (awake_any w).mono ?_
  rintro e w1 ⟨rfl, hB1⟩
  go_wp2_with fail
  refine (new_any w1 _ [] Ints.nil (by simp) (by simp)).mono ?_
  rintro e w2 ⟨sb, F2, rfl, hH2, hB2, hF2⟩
  have hB02 := trans2 hB1 hB2
  have hF02 : ∀ k, F2 k → w.heap.size ≤ k := fun k hk => Nat.le_trans hB1.size (hF2 k hk)
  clear hB1 hB2 hF2
  go_wp2
  go_loopw [8] (fun i wr => ∃ k : Nat, k ≤ l.length ∧ i = .int .i64 (k : Int) ∧ ∃ F, Holds wr F sb (St.joined (l.take k)) ∧ Below w.heap.size w wr ∧ ∀ k, F k → w.heap.size ≤ k) (fun i _ => l.length - (intOf i).toNat)
  case atStart => exact ⟨0, Nat.zero_le _, rfl, F2, hH2, hB02, hF02⟩
  case round =>
    obtain ⟨k, hk, rfl, F, hH, hB, hF⟩ := hrel
    rename_i wr
    by_cases hlt : k < l.length
    · obtain ⟨b, off, rfl, hb, hc⟩ := hcell (by omega)
      obtain ⟨_, q1, q2⟩ := hc k hlt
      have hc1 := (hB.cell (p := ⟨b, off + k * 3 + 1, none⟩) hb).trans q1
      have hc2 := (hB.cell (p := ⟨b, off + k * 3 + 2, none⟩) hb).trans q2
      have W := hwf k hlt
      have HN := Lib.hid (St.joined_succ l k hlt)
      have hln := St.len_joined (l.take k)
      rw [List.length_take] at hln
      have HC := Lib.hid (join_any wr.drew F sb _ (getA l k).x (getA l k).y (hH.below (below_drewN' wr 1)) W.x W.y (by omega))
      have hFl := Lib.hid (fun k hk => hF k hk)
      clear hc hcell hH hF hwf hln hF02 hH2 hB02 q1 q2 W
      go_wp2
      go_still_tail 11, (by kernel_rfl)
      change wpList _ _ _ _ _ wr.drew
      have hBd := hB.drew
      clear hc1 hc2 hB
      generalize wr.drew = wx at *
      go_wp2_with fail
      refine HC.out.mono ?_
      rintro e w3 ⟨rfl, F1, hH1, hO1, hF1⟩
      have HB1 := hBd.trans (hO1.below hBd.size hFl.out)
      have hz := hBd.size
      clear HC hO1 hBd
      go_wp2
      go_roundw
      case rel => exact ⟨k + 1, by omega, by go_num, F1, by rw [HN.out]; exact hH1, HB1, fun j hj => (hF1 j hj).elim (hFl.out j) (fun h => by omega)⟩
      case measure => simp [intOf]; omega
    · obtain rfl : k = l.length := by omega
      have HT := Lib.hid (List.take_length (l := l))
      rw [HT.out] at hH
      clear hcell HV HT hH2 hB02 hF02 hwf
      generalize St.joined l = s at *
      have hL := Lib.hid (St.heads_law hH.ok)
      go_wp2_with fail
      refine (head_any' wr F sb s x hH hx).mono ?_
      rintro e w3 ⟨a, oa, rfl, ha1, ha2, hwa, hK3⟩
      go_wp2_with fail
      refine (head_any' w3 F sb s y hK3.1 hy).mono ?_
      rintro e w4 ⟨b, ob, rfl, hb1, hb2, hwb, hK4⟩
      go_wp2_with fail
      refine (head_any' w4 F sb s a hK4.1 hwa).mono ?_
      rintro e w5 ⟨c, oc, rfl, hc1, hc2, hwc, hK5⟩
      go_wp2_with fail
      refine (same_any w5 F sb s x y hK5.1 hx hy).mono ?_
      rintro e w6 ⟨rfl, hK6⟩
      have HBB := Lib.hid (hB.trans ((((hK3.trans hK4).trans hK5).trans hK6).2.below hB.size hF))
      have hS := (hL.out x y).1
      have hself := Lib.hid (hL.out x y).2
      rw [hS]
      clear hL hB hF hH hK3 hK4 hK5 hK6 hS hwa hwb hwc
      by_cases mx : x ∈ s.ts
      · obtain ⟨rfl, rfl⟩ := ha1 mx
        obtain ⟨m2, e2⟩ := hself.out mx
        obtain ⟨rfl, rfl⟩ := hc1 m2
        rw [e2, decide_eq_true mx]
        by_cases my : y ∈ s.ts
        · obtain ⟨rfl, rfl⟩ := hb1 my
          rw [decide_eq_true my]
          clear ha1 ha2 hb1 hb2 hc1 hc2 hself mx my m2 e2
          generalize s.head x = p at *
          generalize s.head y = q at *
          by_cases e : p = q
          · subst e
            rw [decide_eq_true (rfl : p = p)]
            go_wp2
            go_ret
            exact ⟨rfl, HBB.out⟩
          · rw [decide_eq_false e]
            have e' : (p == q) = false := beq_eq_false_iff_ne.2 e
            go_wp2
            go_ret
            exact ⟨rfl, HBB.out⟩
        · obtain rfl := hb2 my
          rw [decide_eq_false my]
          clear ha1 ha2 hb1 hb2 hc1 hc2 hself mx my m2 e2
          generalize s.head x = p at *
          go_wp2
          go_ret
          exact ⟨rfl, HBB.out⟩
      · obtain rfl := ha2 mx
        rw [decide_eq_false mx]
        clear ha1 ha2 hb1 hb2 hc1 hc2 hself mx
        go_wp2
        go_ret
        exact ⟨rfl, HBB.out⟩

end Go.Proofs.Ytfofidbgjfmepaa
