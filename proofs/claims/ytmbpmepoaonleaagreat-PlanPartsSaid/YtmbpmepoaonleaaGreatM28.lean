/-
  FpA, FpB, in one text.
-/
import Derived.Test.YtmbpmepoaonleaaGreatM20
import Derived.Test.YtmbpmepoaonleaaGreatM27
/-! The program's around: a dart's walk, step by step. -/
namespace Go.Proofs.YtmbpmepoaonleaaGreat.Fc
open Go.Proofs.YtmbpmepoaonleaaGreat Go.RowKit

theorem dart_wf' {g : Gph} {p : Prt} {d : Int} (hp : perr g p = 0) (hl : g.e.length ≤ 1000000) (hd : Rt.Dart p d) : (Lit.int .i64 d).wf = true := by
  have hi := Rt.ints g p hp hd.2
  have h0 := hd.1
  show (decide (IntKind.i64.min ≤ d) && decide (d ≤ IntKind.i64.max)) = true
  have h1 : IntKind.i64.min = -9223372036854775808 := rfl
  have h2 : IntKind.i64.max = 9223372036854775807 := rfl
  rw [h1, h2, Bool.and_eq_true, decide_eq_true_iff, decide_eq_true_iff]
  omega

set_option maxRecDepth 100000 in
set_option maxHeartbeats 4000000 in
theorem around_any (b : Nat) (g : Gph) (p : Prt) (U : List (List Int)) (w : World) (d : Int) (h : Rt.Ro w b g p U) (hU : Rt.Turns g p U) (hd : Rt.Dart p d) (hr : ∀ j, (Rt.getT U j).length ≤ 1000000) (hl : g.e.length ≤ 1000000) (hp : p.e.length ≤ 1000000) :
    Calls Tryz.prog 94 #[.pointer (some ⟨b, 0, none⟩), .int .i64 d] w fun e w' => ∃ v, e = .returned v ∧ Row w' w.heap.size v (orb (Rt.nxt g U) (prs p.e).length d) ∧ Below w.heap.size w w' := by
  have HP := Lib.hid (nxt_perm hU)
  have HDX := Lib.hid ((mem_dart hU.right).2 hd)
  have HIN := Lib.hid (fun k => (mem_dart hU.right).1 (HP.out.it_mem HDX.out k))
  have HN := Lib.hid (fun k W (hW : Below w.heap.size w W) => show Calls Tryz.prog 113 #[.pointer (some ⟨b, 0, none⟩), .int .i64 (it (Rt.nxt g U) k d)] W fun e w' => e = .returned (.tuple #[.int .i64 (it (Rt.nxt g U) (k + 1) d), .bool true]) ∧ Below W.heap.size W w' by
    have h1 := Rt.next_any b g p U W (it (Rt.nxt g U) k d) (h.below hW) hU (dart_wf' hU.right hl (HIN.out k)) hr
    rw [Rt.stp_yes (HIN.out k), decide_eq_true (HIN.out k)] at h1
    exact h1)
  have HRI := Lib.hid (fun k (h0 : 0 < k) hk => HP.out.round_iff HDX.out (Nat.le_refl _) h0 (k := k) hk)
  have hper := (HP.out.per HDX.out (Nat.le_refl _)).1
  have HLA := Lib.hid (row_lit1 w d)
  have HBA := Lib.hid (below_alloc (w := w) (.cells #[.int .i64 d] 3))
  have hN : (prs p.e).length ≤ 2000000 := by rw [prs_len]; omega
  clear h hU hd hr hl hp
  generalize Rt.nxt g U = f at *
  generalize (prs p.e).length = N at *
  have HF := Lib.hid (HN.out 0 _ HBA.out)
  rw [show it f 0 d = d from rfl] at HF
  go_enter Tryz.func94, Tryz.ntmps94
  go_wp2_with fail
  generalize w.alloc (.cells #[.int .i64 d] 3) = w1 at *
  refine HF.out.mono ?_
  rintro e w2 ⟨rfl, hB2⟩
  have HL2 := Lib.hid (HLA.out.below hB2)
  have HB2 := Lib.hid (HBA.out.trans (hB2.mono HBA.out.size))
  clear hB2 HF HLA HBA
  go_wp2
  go_loopw [5, 6] (fun l x wr => ∃ k : Nat, 0 < k ∧ k ≤ per f N d ∧ x = .int .i64 (it f k d) ∧ Hid (Row wr w.heap.size l (orbTo f d k)) ∧ Hid (Below w.heap.size w wr)) (fun l _ _ => N + 1 - lenS l)
  case atStart => exact ⟨1, Nat.one_pos, per_pos _ _ _, rfl, HL2, HB2⟩
  case round =>
    obtain ⟨k, hk0, hk, rfl, hR, hB⟩ := hrel
    clear HL2 HB2
    have hri := HRI.out k hk0 hk
    have HNK := Lib.hid (HN.out k)
    obtain ⟨Al, cl, rfl⟩ := ints_form hR.out.ints
    have HLO := Lib.hid (orbTo_len f d k)
    have HOS := Lib.hid (orbTo_succ f d k)
    obtain ⟨x, hx⟩ : ∃ x, it f k d = x := ⟨_, rfl⟩
    rw [hx] at hri HNK HOS ⊢
    clear hx
    by_cases hround : x = d
    · have hkp := hri.1 hround
      have t2 : (x != d) = false := by rw [hround]; simp
      rw [hkp] at hR
      replace hR : Hid (Row wr w.heap.size (.slice Al (orbTo f d (per f N d)).length cl) (orb f N d)) := hR
      rw [hkp]
      clear hri hround hk0 hk hkp HNK HOS HLO
      generalize (orbTo f d (per f N d)).length = nl at *
      go_wp2
      go_ret
      exact ⟨_, rfl, hR.out, hB.out⟩
    · have t2 : (x != d) = true := bne_iff_ne.2 hround
      have hkp : k < per f N d := by
        rcases Nat.lt_or_eq_of_le hk with h | h
        · exact h
        · exact absurd (hri.2 h) hround
      have HLE := Lib.hid (show (orbTo f d k).length ≤ 4000000 by rw [HLO.out]; omega)
      have HSZ := Lib.hid hB.out.size
      clear hri hround
      go_wp2_with (at_builtin; refine wpList_append1 rfl _ _ rfl rfl rfl hR.out HSZ.out HLE.out ?_)
      intro v7 w7 hR7 hB7
      rw [← HOS.out] at hR7
      have HR7 := Lib.hid hR7
      have HB7 := Lib.hid (hB.out.trans hB7)
      have HN7 := Lib.hid (HNK.out w7 HB7.out)
      obtain ⟨A7, c7, hv7⟩ := ints_form hR7.ints
      subst hv7
      clear hR7 hB7 hR hB HLE HSZ HOS HNK
      go_wp2_with fail
      refine HN7.out.mono ?_
      rintro e w8 ⟨rfl, hB8⟩
      have HR8 := Lib.hid (HR7.out.below hB8)
      have HB8 := Lib.hid (HB7.out.trans (hB8.mono HB7.out.size))
      clear hB8 HN7 HB7 HR7
      go_wp2
      go_roundw
      case rel => exact ⟨k + 1, by omega, hkp, rfl, HR8, HB8⟩
      case measure => simp [lenS, orbTo_len]; omega

end Go.Proofs.YtmbpmepoaonleaaGreat.Fc

/-! What goes through a list from behind, as an iterator: place and number. -/
namespace Go.Proofs.YtmbpmepoaonleaaGreat.Fc
open Go.Proofs.YtmbpmepoaonleaaGreat Go.RowKit Go.Maps Go.Shelf

attribute [local go_sem] Oper.semAt_some

/-- All places, the last one first. -/
def downs (l : List Int) : List (Fin l.length) := (List.finRange l.length).reverse
theorem downs_len (l : List Int) : (downs l).length = l.length := by unfold downs; rw [List.length_reverse, List.length_finRange]
theorem downs_take {l : List Int} {k : Nat} (h : k < l.length) : ∃ x : Fin l.length, x.1 = l.length - 1 - k ∧ (downs l).take (k + 1) = (downs l).take k ++ [x] := by
  refine ⟨⟨l.length - 1 - k, by omega⟩, rfl, ?_⟩
  rw [List.take_add_one]
  have e : (downs l)[k]? = some ⟨l.length - 1 - k, by omega⟩ := by
    rw [List.getElem?_eq_getElem (by rw [downs_len]; exact h)]
    unfold downs
    rw [List.getElem_reverse]
    congr 1
    rw [List.getElem_finRange]
    apply Fin.ext
    simp
  rw [e]
  rfl
theorem downs_map (l : List Int) : (downs l).map (fun x => getI l x.1) = l.reverse := by
  unfold downs
  rw [List.map_reverse]
  congr 1
  apply List.ext_getElem
  · simp
  · intro i h1 h2
    rw [List.getElem_map, List.getElem_finRange]
    exact getI_of l i (by simpa using h2)

set_option maxRecDepth 100000 in
set_option maxHeartbeats 2000000 in
theorem back1_in (F : Fence) (n : Nat) (h7 : F.fn 109) (hro : F.round = none) (hn : 1 ≤ n) (lp Bs : Nat) (sv : Value) (l : List Int) (hlen : l.length ≤ 1000000) (J Jx : List (Fin l.length) → World → Prop)
    (hY : ∀ pre x W, J pre W → pre.length < l.length → YieldAt F (n - 1) Tryz.prog lp #[.int .i64 (x.1 : Int), .int .i64 (getI l x.1)] W fun e W' =>
      (e = .returned (.bool true) ∧ J (pre ++ [x]) W' ∧ ((W.cell? ⟨Bs, 0, none⟩ = some sv ∧ Rt.IntsR W sv l) → (W'.cell? ⟨Bs, 0, none⟩ = some sv ∧ Rt.IntsR W' sv l))) ∨ (e = .returned (.bool false) ∧ Jx (pre ++ [x]) W'))
    (W : World) (hBs : W.cell? ⟨Bs, 0, none⟩ = some sv) (hI : Rt.IntsR W sv l) (h0 : J [] W) :
    CallsIn F n Tryz.prog 109 #[.func (.yield lp) #[] #[], .pointer (some ⟨Bs, 0, none⟩)] W fun e W' => (∃ v, e = .returned v) ∧
      ((∃ ys, ys = downs l ∧ J ys W') ∨ (∃ pre, pre <+: downs l ∧ Jx pre W')) := by
  have HI := Lib.hid hI
  obtain ⟨A, cap, rfl, hcell⟩ := hI
  have HC := Lib.hid hBs
  clear hcell
  refine callsIn_of_wp Tryz.func109 rfl h7 ?_ hro
  simp only [Tryz.ntmps109, List.size_toArray, List.length_cons, List.length_nil, Nat.reduceAdd, Nat.reduceSub, Array.replicate_succ, Array.replicate_zero, List.push_toArray, List.append_toArray, List.nil_append, List.cons_append]
  gi_wp2
  clear hBs
  gi_loopw [3] (fun i wr => ∃ k : Nat, k ≤ l.length ∧ i = .int .i64 ((l.length : Int) - 1 - (k : Int)) ∧ J ((downs l).take k) wr ∧ Hid (wr.cell? ⟨Bs, 0, none⟩ = some (.slice A l.length cap) ∧ Rt.IntsR wr (.slice A l.length cap) l))
    (fun i _ => (intOf i + 1).toNat)
  case atStart => exact ⟨0, Nat.zero_le _, by congr 1 <;> omega, by rw [List.take_zero]; exact h0, Lib.hid ⟨HC.out, HI.out⟩⟩
  case round =>
    obtain ⟨k, hk, rfl, hJs, hnx⟩ := hrel
    rename_i wr
    by_cases hlt : k < l.length
    · obtain ⟨hcb, A', cap', e', hcell⟩ := hnx.out
      cases e'
      obtain ⟨b, off, rfl, hc⟩ := hcell (by omega)
      obtain ⟨x, hx, HT0⟩ := downs_take hlt
      have hck := hc (l.length - 1 - k) (by omega)
      rw [← hx] at hck
      have HT := Lib.hid HT0
      obtain ⟨j, hj⟩ : ∃ j : Nat, (l.length : Int) - 1 - (k : Int) = (j : Int) ∧ j = x.1 ∧ j < l.length := ⟨x.1, by omega, rfl, x.2⟩
      obtain ⟨hj1, hj2, hj3⟩ := hj
      obtain ⟨fn, tmps, assign, body, hy, hR⟩ := hY _ x wr hJs (by rw [List.length_take, downs_len]; omega)
      have HP := Lib.hid (List.take_prefix (k + 1) (downs l))
      rw [hj1]
      rw [← hj2] at hck hy
      have HJ1 := Lib.hid hj1
      clear hc hcell HT0 hx hj2 hj1
      gi_wp2
      refine hR.mono ?_
      rintro e W3 (⟨rfl, hJ3, hk3⟩ | ⟨rfl, hJx3⟩)
      · have HN := Lib.hid (hk3 hnx.out)
        gi_wp2
        go_roundw
        case rel => exact ⟨k + 1, by omega, by have := HJ1.out; congr 1 <;> omega, by rw [HT.out]; exact hJ3, HN⟩
        case measure => have := HJ1.out; simp [intOf] <;> omega
      · gi_wp2
        refine bodyPost_ret (results_none rfl _ _ _) rfl ?_
        exact ⟨⟨_, rfl⟩, .inr ⟨_, HP.out, by rw [HT.out]; exact hJx3⟩⟩
    · obtain rfl : k = l.length := by omega
      have HT := Lib.hid (show (downs l).take l.length = downs l from List.take_of_length_le (by rw [downs_len]; exact Nat.le_refl _))
      rw [HT.out] at hJs
      have hm : (l.length : Int) - 1 - (l.length : Int) = -1 := by omega
      rw [hm]
      clear hm
      gi_wp2
      go_end0
      exact ⟨⟨_, rfl⟩, .inl ⟨_, rfl, hJs⟩⟩

/-- What a body has to leave as it was. -/
def KpB (Bs : Nat) (v : Value) (l : List Int) (w w' : World) : Prop := (w.cell? ⟨Bs, 0, none⟩ = some v ∧ Rt.IntsR w v l) → (w'.cell? ⟨Bs, 0, none⟩ = some v ∧ Rt.IntsR w' v l)
theorem KpB.trans {Bs : Nat} {v : Value} {l : List Int} {A B C : World} (h : KpB Bs v l A B) (k : KpB Bs v l B C) : KpB Bs v l A C := fun x => k (h x)
theorem KpB.obj {Bs : Nat} {v : Value} {l : List Int} (W : World) (b : Nat) (o o' : Obj) (ho : W.heap[b]? = some o) (hc : o.isCells = false) : KpB Bs v l W (W.putObj b o') := by
  rintro ⟨h1, h2⟩
  refine ⟨?_, Rt.KpD.obj W b o o' ho hc h2⟩
  have hne : Bs ≠ b := fun e => by
    unfold World.cell? at h1
    simp only [e, ho] at h1
    cases o <;> simp [Obj.isCells] at hc h1
  exact (World.cell?_of_block (World.putObj_heap_other hne)).trans h1
theorem KpB.same {Bs : Nat} {v : Value} {l : List Int} {w W W' : World} (hB : Bs < w.heap.size) (hc : w.cell? ⟨Bs, 0, none⟩ = some v) (hI : Ints w v l) (h' : Below w.heap.size w W') : KpB Bs v l W W' := fun _ => ⟨(h'.cell (p := ⟨Bs, 0, none⟩) hB).trans hc, Rt.IntsR.of (hI.below h')⟩

theorem back_stops (F : Fence) (n : Nat) (h7 : F.fn 109) (hro : F.round = none) (hn : 1 ≤ n) (Bs : Nat) (sv : Value) (l : List Int) (hlen : l.length ≤ 1000000) (w : World) (hBs : Bs < w.heap.size)
    (hc : w.cell? ⟨Bs, 0, none⟩ = some sv) (hI : Ints w sv l) :
    SeqStopsK F n Tryz.prog 109 #[.pointer (some ⟨Bs, 0, none⟩)] (fun x : Fin l.length => #[Value.int .i64 (x.1 : Int), .int .i64 (getI l x.1)]) (KpB Bs sv l) (fun ys => ys = downs l) (fun pre => pre <+: downs l) l.length w := fun lp J Jx W hW _ _ hY h0 =>
  back1_in F n h7 hro hn lp Bs sv l hlen J Jx hY W ((hW.cell (p := ⟨Bs, 0, none⟩) hBs).trans hc) (Rt.IntsR.of (hI.below hW)) h0

set_option maxRecDepth 100000 in
set_option maxHeartbeats 1000000 in
theorem backward_any (v : Value) (l : List Int) (w : World) (h : Ints w v l) :
    Calls Tryz.prog 92 #[v] w fun e w' => e = .returned (.func (.func 109) #[] #[.pointer (some ⟨w.heap.size, 0, none⟩)]) ∧ w' = w.alloc (.cells #[v] 25) := by
  obtain ⟨A, cap, rfl, _⟩ := h
  go_enter Tryz.func92, Tryz.ntmps92
  go_wp2
  go_ret
  exact ⟨rfl, rfl⟩
theorem backward_at (v : Value) (l : List Int) (w : World) (h : Ints w v l) :
    Calls Tryz.prog 92 #[v] w fun e w' => ∃ Bs, e = .returned (.func (.func 109) #[] #[.pointer (some ⟨Bs, 0, none⟩)]) ∧ w.heap.size ≤ Bs ∧ Bs < w'.heap.size ∧ w'.cell? ⟨Bs, 0, none⟩ = some v ∧ Below w.heap.size w w' :=
  (backward_any v l w h).mono fun e w' ⟨he, hw⟩ => by
    subst hw
    exact ⟨_, he, Nat.le_refl _, by simp, new_cell _ _ _, below_alloc _⟩
end Go.Proofs.YtmbpmepoaonleaaGreat.Fc
