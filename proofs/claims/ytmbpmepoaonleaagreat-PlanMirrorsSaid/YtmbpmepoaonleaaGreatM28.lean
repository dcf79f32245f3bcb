/-
  FpA, FpB, FpC, FpD, FpE, in one text.
-/
import Derived.Test.YtmbpmepoaonleaaGreatM20
import Derived.Test.YtmbpmepoaonleaaGreatM27
import Derived.Maps.OwnIn
import Derived.RangeFuncWrites
/-! The program's around: a dart's walk, step by step. -/
namespace Go.Proofs.YtmbpmepoaonleaaGreat.Fc
open Go.Proofs.YtmbpmepoaonleaaGreat Go.RowKit

theorem dart_wf' {g : Gph} {p : Prt} {d : Int} (hp : perr g p = 0) (hl : g.e.length ≤ 1000000) (hd : Rt.Dart p d) : (Lit.int .i64 d).wf = true := by
  have hi := Rt.ints g p hp hd.2
  have h0 := hd.1
  show (decide (IntKind.i64.min ≤ d) && decide (d ≤ IntKind.i64.max)) = true
  have h1 : IntKind.i64.min = -9223372036854775808 := rfl
  have h2 : IntKind.i64.max = 9223372036854775807 := rfl
  rw [h1, h2, Bool.and_eq_true, decide_eq_true_iff, decide_eq_true_iff]
  omega

set_option maxRecDepth 100000 in
set_option maxHeartbeats 4000000 in
theorem around_any (b : Nat) (g : Gph) (p : Prt) (U : List (List Int)) (w : World) (d : Int) (h : Rt.Ro w b g p U) (hU : Rt.Turns g p U) (hd : Rt.Dart p d) (hr : ∀ j, (Rt.getT U j).length ≤ 1000000) (hl : g.e.length ≤ 1000000) (hp : p.e.length ≤ 1000000) :
    Calls Tryz.prog 94 #[.pointer (some ⟨b, 0, none⟩), .int .i64 d] w fun e w' => ∃ v, e = .returned v ∧ Row w' w.heap.size v (orb (Rt.nxt g U) (prs p.e).length d) ∧ Below w.heap.size w w' := by
  have HP := Lib.hid (nxt_perm hU)
  have HDX := Lib.hid ((mem_dart hU.right).2 hd)
  have HIN := Lib.hid (fun k => (mem_dart hU.right).1 (HP.out.it_mem HDX.out k))
  have HN := Lib.hid (fun k W (hW : Below w.heap.size w W) => show Calls Tryz.prog 113 #[.pointer (some ⟨b, 0, none⟩), .int .i64 (it (Rt.nxt g U) k d)] W fun e w' => e = .returned (.tuple #[.int .i64 (it (Rt.nxt g U) (k + 1) d), .bool true]) ∧ Below W.heap.size W w' by
    have h1 := Rt.next_any b g p U W (it (Rt.nxt g U) k d) (h.below hW) hU (dart_wf' hU.right hl (HIN.out k)) hr
    rw [Rt.stp_yes (HIN.out k), decide_eq_true (HIN.out k)] at h1
    exact h1)
  have HRI := Lib.hid (fun k (h0 : 0 < k) hk => HP.out.round_iff HDX.out (Nat.le_refl _) h0 (k := k) hk)
  have hper := (HP.out.per HDX.out (Nat.le_refl _)).1
  have HLA := Lib.hid (row_lit1 w d)
  have HBA := Lib.hid (below_alloc (w := w) (.cells #[.int .i64 d] 3))
  have hN : (prs p.e).length ≤ 2000000 := by rw [prs_len]; omega
  clear h hU hd hr hl hp
  generalize Rt.nxt g U = f at *
  generalize (prs p.e).length = N at *
  have HF := Lib.hid (HN.out 0 _ HBA.out)
  rw [show it f 0 d = d from rfl] at HF
  go_enter Tryz.func94, Tryz.ntmps94
  go_wp2_with fail
  generalize w.alloc (.cells #[.int .i64 d] 3) = w1 at *
  refine HF.out.mono ?_
  rintro e w2 ⟨rfl, hB2⟩
  have HL2 := Lib.hid (HLA.out.below hB2)
  have HB2 := Lib.hid (HBA.out.trans (hB2.mono HBA.out.size))
  clear hB2 HF HLA HBA
  go_wp2
  go_loopw [5, 6] (fun l x wr => ∃ k : Nat, 0 < k ∧ k ≤ per f N d ∧ x = .int .i64 (it f k d) ∧ Hid (Row wr w.heap.size l (orbTo f d k)) ∧ Hid (Below w.heap.size w wr)) (fun l _ _ => N + 1 - lenS l)
  case atStart => exact ⟨1, Nat.one_pos, per_pos _ _ _, rfl, HL2, HB2⟩
  case round =>
    obtain ⟨k, hk0, hk, rfl, hR, hB⟩ := hrel
    clear HL2 HB2
    have hri := HRI.out k hk0 hk
    have HNK := Lib.hid (HN.out k)
    obtain ⟨Al, cl, rfl⟩ := ints_form hR.out.ints
    have HLO := Lib.hid (orbTo_len f d k)
    have HOS := Lib.hid (orbTo_succ f d k)
    obtain ⟨x, hx⟩ : ∃ x, it f k d = x := ⟨_, rfl⟩
    rw [hx] at hri HNK HOS ⊢
    clear hx
    by_cases hround : x = d
    · have hkp := hri.1 hround
      have t2 : (x != d) = false := by rw [hround]; simp
      rw [hkp] at hR
      replace hR : Hid (Row wr w.heap.size (.slice Al (orbTo f d (per f N d)).length cl) (orb f N d)) := hR
      rw [hkp]
      clear hri hround hk0 hk hkp HNK HOS HLO
      generalize (orbTo f d (per f N d)).length = nl at *
      go_wp2
      go_ret
      exact ⟨_, rfl, hR.out, hB.out⟩
    · have t2 : (x != d) = true := bne_iff_ne.2 hround
      have hkp : k < per f N d := by
        rcases Nat.lt_or_eq_of_le hk with h | h
        · exact h
        · exact absurd (hri.2 h) hround
      have HLE := Lib.hid (show (orbTo f d k).length ≤ 4000000 by rw [HLO.out]; omega)
      have HSZ := Lib.hid hB.out.size
      clear hri hround
      go_wp2_with (at_builtin; refine wpList_append1 rfl _ _ rfl rfl rfl hR.out HSZ.out HLE.out ?_)
      intro v7 w7 hR7 hB7
      rw [← HOS.out] at hR7
      have HR7 := Lib.hid hR7
      have HB7 := Lib.hid (hB.out.trans hB7)
      have HN7 := Lib.hid (HNK.out w7 HB7.out)
      obtain ⟨A7, c7, hv7⟩ := ints_form hR7.ints
      subst hv7
      clear hR7 hB7 hR hB HLE HSZ HOS HNK
      go_wp2_with fail
      refine HN7.out.mono ?_
      rintro e w8 ⟨rfl, hB8⟩
      have HR8 := Lib.hid (HR7.out.below hB8)
      have HB8 := Lib.hid (HB7.out.trans (hB8.mono HB7.out.size))
      clear hB8 HN7 HB7 HR7
      go_wp2
      go_roundw
      case rel => exact ⟨k + 1, by omega, hkp, rfl, HR8, HB8⟩
      case measure => simp [lenS, orbTo_len]; omega

end Go.Proofs.YtmbpmepoaonleaaGreat.Fc

/-! What goes through a list from behind, as an iterator: place and number. -/
namespace Go.Proofs.YtmbpmepoaonleaaGreat.Fc
open Go.Proofs.YtmbpmepoaonleaaGreat Go.RowKit Go.Maps Go.Shelf

attribute [local go_sem] Oper.semAt_some

/-- All places, the last one first. -/
def downs (l : List Int) : List (Fin l.length) := (List.finRange l.length).reverse
theorem downs_len (l : List Int) : (downs l).length = l.length := by unfold downs; rw [List.length_reverse, List.length_finRange]
theorem downs_take {l : List Int} {k : Nat} (h : k < l.length) : ∃ x : Fin l.length, x.1 = l.length - 1 - k ∧ (downs l).take (k + 1) = (downs l).take k ++ [x] := by
  refine ⟨⟨l.length - 1 - k, by omega⟩, rfl, ?_⟩
  rw [List.take_add_one]
  have e : (downs l)[k]? = some ⟨l.length - 1 - k, by omega⟩ := by
    rw [List.getElem?_eq_getElem (by rw [downs_len]; exact h)]
    unfold downs
    rw [List.getElem_reverse]
    congr 1
    rw [List.getElem_finRange]
    apply Fin.ext
    simp
  rw [e]
  rfl
theorem downs_map (l : List Int) : (downs l).map (fun x => getI l x.1) = l.reverse := by
  unfold downs
  rw [List.map_reverse]
  congr 1
  apply List.ext_getElem
  · simp
  · intro i h1 h2
    rw [List.getElem_map, List.getElem_finRange]
    exact getI_of l i (by simpa using h2)

set_option maxRecDepth 100000 in
set_option maxHeartbeats 2000000 in
theorem back1_in (F : Fence) (n : Nat) (h7 : F.fn 109) (hro : F.round = none) (hn : 1 ≤ n) (lp Bs : Nat) (sv : Value) (l : List Int) (hlen : l.length ≤ 1000000) (J Jx : List (Fin l.length) → World → Prop)
    (hY : ∀ pre x W, J pre W → pre.length < l.length → YieldAt F (n - 1) Tryz.prog lp #[.int .i64 (x.1 : Int), .int .i64 (getI l x.1)] W fun e W' =>
      (e = .returned (.bool true) ∧ J (pre ++ [x]) W' ∧ ((W.cell? ⟨Bs, 0, none⟩ = some sv ∧ Rt.IntsR W sv l) → (W'.cell? ⟨Bs, 0, none⟩ = some sv ∧ Rt.IntsR W' sv l))) ∨ (e = .returned (.bool false) ∧ Jx (pre ++ [x]) W'))
    (W : World) (hBs : W.cell? ⟨Bs, 0, none⟩ = some sv) (hI : Rt.IntsR W sv l) (h0 : J [] W) :
    CallsIn F n Tryz.prog 109 #[.func (.yield lp) #[] #[], .pointer (some ⟨Bs, 0, none⟩)] W fun e W' => (∃ v, e = .returned v) ∧
      ((∃ ys, ys = downs l ∧ J ys W') ∨ (∃ pre, pre <+: downs l ∧ Jx pre W')) := by
  have HI := Lib.hid hI
  obtain ⟨A, cap, rfl, hcell⟩ := hI
  have HC := Lib.hid hBs
  clear hcell
  refine callsIn_of_wp Tryz.func109 rfl h7 ?_ hro
  simp only [Tryz.ntmps109, List.size_toArray, List.length_cons, List.length_nil, Nat.reduceAdd, Nat.reduceSub, Array.replicate_succ, Array.replicate_zero, List.push_toArray, List.append_toArray, List.nil_append, List.cons_append]
  gi_wp2
  clear hBs
  gi_loopw [3] (fun i wr => ∃ k : Nat, k ≤ l.length ∧ i = .int .i64 ((l.length : Int) - 1 - (k : Int)) ∧ J ((downs l).take k) wr ∧ Hid (wr.cell? ⟨Bs, 0, none⟩ = some (.slice A l.length cap) ∧ Rt.IntsR wr (.slice A l.length cap) l))
    (fun i _ => (intOf i + 1).toNat)
  case atStart => exact ⟨0, Nat.zero_le _, by congr 1 <;> omega, by rw [List.take_zero]; exact h0, Lib.hid ⟨HC.out, HI.out⟩⟩
  case round =>
    obtain ⟨k, hk, rfl, hJs, hnx⟩ := hrel
    rename_i wr
    by_cases hlt : k < l.length
    · obtain ⟨hcb, A', cap', e', hcell⟩ := hnx.out
      cases e'
      obtain ⟨b, off, rfl, hc⟩ := hcell (by omega)
      obtain ⟨x, hx, HT0⟩ := downs_take hlt
      have hck := hc (l.length - 1 - k) (by omega)
      rw [← hx] at hck
      have HT := Lib.hid HT0
      obtain ⟨j, hj⟩ : ∃ j : Nat, (l.length : Int) - 1 - (k : Int) = (j : Int) ∧ j = x.1 ∧ j < l.length := ⟨x.1, by omega, rfl, x.2⟩
      obtain ⟨hj1, hj2, hj3⟩ := hj
      obtain ⟨fn, tmps, assign, body, hy, hR⟩ := hY _ x wr hJs (by rw [List.length_take, downs_len]; omega)
      have HP := Lib.hid (List.take_prefix (k + 1) (downs l))
      rw [hj1]
      rw [← hj2] at hck hy
      have HJ1 := Lib.hid hj1
      clear hc hcell HT0 hx hj2 hj1
      gi_wp2
      refine hR.mono ?_
      rintro e W3 (⟨rfl, hJ3, hk3⟩ | ⟨rfl, hJx3⟩)
      · have HN := Lib.hid (hk3 hnx.out)
        gi_wp2
        go_roundw
        case rel => exact ⟨k + 1, by omega, by have := HJ1.out; congr 1 <;> omega, by rw [HT.out]; exact hJ3, HN⟩
        case measure => have := HJ1.out; simp [intOf] <;> omega
      · gi_wp2
        refine bodyPost_ret (results_none rfl _ _ _) rfl ?_
        exact ⟨⟨_, rfl⟩, .inr ⟨_, HP.out, by rw [HT.out]; exact hJx3⟩⟩
    · obtain rfl : k = l.length := by omega
      have HT := Lib.hid (show (downs l).take l.length = downs l from List.take_of_length_le (by rw [downs_len]; exact Nat.le_refl _))
      rw [HT.out] at hJs
      have hm : (l.length : Int) - 1 - (l.length : Int) = -1 := by omega
      rw [hm]
      clear hm
      gi_wp2
      go_end0
      exact ⟨⟨_, rfl⟩, .inl ⟨_, rfl, hJs⟩⟩

/-- What a body has to leave as it was. -/
def KpB (Bs : Nat) (v : Value) (l : List Int) (w w' : World) : Prop := (w.cell? ⟨Bs, 0, none⟩ = some v ∧ Rt.IntsR w v l) → (w'.cell? ⟨Bs, 0, none⟩ = some v ∧ Rt.IntsR w' v l)
theorem KpB.trans {Bs : Nat} {v : Value} {l : List Int} {A B C : World} (h : KpB Bs v l A B) (k : KpB Bs v l B C) : KpB Bs v l A C := fun x => k (h x)
theorem KpB.obj {Bs : Nat} {v : Value} {l : List Int} (W : World) (b : Nat) (o o' : Obj) (ho : W.heap[b]? = some o) (hc : o.isCells = false) : KpB Bs v l W (W.putObj b o') := by
  rintro ⟨h1, h2⟩
  refine ⟨?_, Rt.KpD.obj W b o o' ho hc h2⟩
  have hne : Bs ≠ b := fun e => by
    unfold World.cell? at h1
    simp only [e, ho] at h1
    cases o <;> simp [Obj.isCells] at hc h1
  exact (World.cell?_of_block (World.putObj_heap_other hne)).trans h1
theorem KpB.same {Bs : Nat} {v : Value} {l : List Int} {w W W' : World} (hB : Bs < w.heap.size) (hc : w.cell? ⟨Bs, 0, none⟩ = some v) (hI : Ints w v l) (h' : Below w.heap.size w W') : KpB Bs v l W W' := fun _ => ⟨(h'.cell (p := ⟨Bs, 0, none⟩) hB).trans hc, Rt.IntsR.of (hI.below h')⟩

theorem back_stops (F : Fence) (n : Nat) (h7 : F.fn 109) (hro : F.round = none) (hn : 1 ≤ n) (Bs : Nat) (sv : Value) (l : List Int) (hlen : l.length ≤ 1000000) (w : World) (hBs : Bs < w.heap.size)
    (hc : w.cell? ⟨Bs, 0, none⟩ = some sv) (hI : Ints w sv l) :
    SeqStopsK F n Tryz.prog 109 #[.pointer (some ⟨Bs, 0, none⟩)] (fun x : Fin l.length => #[Value.int .i64 (x.1 : Int), .int .i64 (getI l x.1)]) (KpB Bs sv l) (fun ys => ys = downs l) (fun pre => pre <+: downs l) l.length w := fun lp J Jx W hW _ _ hY h0 =>
  back1_in F n h7 hro hn lp Bs sv l hlen J Jx hY W ((hW.cell (p := ⟨Bs, 0, none⟩) hBs).trans hc) (Rt.IntsR.of (hI.below hW)) h0

set_option maxRecDepth 100000 in
set_option maxHeartbeats 1000000 in
theorem backward_any (v : Value) (l : List Int) (w : World) (h : Ints w v l) :
    Calls Tryz.prog 92 #[v] w fun e w' => e = .returned (.func (.func 109) #[] #[.pointer (some ⟨w.heap.size, 0, none⟩)]) ∧ w' = w.alloc (.cells #[v] 25) := by
  obtain ⟨A, cap, rfl, _⟩ := h
  go_enter Tryz.func92, Tryz.ntmps92
  go_wp2
  go_ret
  exact ⟨rfl, rfl⟩
theorem backward_at (v : Value) (l : List Int) (w : World) (h : Ints w v l) :
    Calls Tryz.prog 92 #[v] w fun e w' => ∃ Bs, e = .returned (.func (.func 109) #[] #[.pointer (some ⟨Bs, 0, none⟩)]) ∧ w.heap.size ≤ Bs ∧ Bs < w'.heap.size ∧ w'.cell? ⟨Bs, 0, none⟩ = some v ∧ Below w.heap.size w w' :=
  (backward_any v l w h).mono fun e w' ⟨he, hw⟩ => by
    subst hw
    exact ⟨_, he, Nat.le_refl _, by simp, new_cell _ _ _, below_alloc _⟩
end Go.Proofs.YtmbpmepoaonleaaGreat.Fc

/-! The walks of the call's own, while other blocks change: a variable of the caller's that holds them; what lies beside it. -/
namespace Go.Proofs.YtmbpmepoaonleaaGreat.Fc
open Go.Proofs.YtmbpmepoaonleaaGreat Go.RowKit Go.Maps Go.Shelf

theorem Tryz.infoFWalk : (Tryz.prog.info? 78).map (fun i => (i.zero, i.size, i.bytes)) = some (some (.agg #[.int .i64 0, .slice none 0 0]), 2, 32) := by kernel_rfl

variable {w w0 w1 W W' : World} {base nb : Nat} {v : Value} {c : Comp} {t : TypeId} {us : List (Value × Value)} {xs : List (Comp × Comp)} {L : List Wlk} {bs : List Nat} {l : List Int}

theorem Comp.ok.keep (h : c.ok w base v) (hs : ∀ (g : Nat) (cur : Array Value), w.heap[g]? = some (.cells cur 3 (0, 0)) → w1.heap[g]? = w.heap[g]?) : c.ok w1 base v := by
  cases c with
  | inl k => exact h
  | inr l =>
    have h' : w.ownsRow base 3 1 v l.length (l.map (Value.int .i64)) := h
    refine own_block h' (fun g hg => ?_)
    rcases h'.2 with ⟨rfl, _⟩ | ⟨g', cap, cur, rfl, _, hg', _⟩
    · cases hg
    · cases hg; exact hs _ cur hg'
/-- Where the blocks of both kinds stand, it stands. -/
theorem Twos.keep (h : Twos t w base v us xs) (hs : ∀ (g : Nat) (cur : Array Value) (t' : TypeId), (t' = t ∨ t' = 3) → w.heap[g]? = some (.cells cur t' (0, 0)) → w1.heap[g]? = w.heap[g]?) : Twos t w1 base v us xs := by
  refine ⟨own_block h.own (fun g hg => ?_), h.len, fun p hp => ⟨(h.each p hp).1.keep fun g cur => hs g cur _ (.inr rfl), (h.each p hp).2.keep fun g cur => hs g cur _ (.inr rfl)⟩⟩
  rcases h.own.2 with ⟨rfl, _⟩ | ⟨g', cap, cur, rfl, _, hg', _⟩
  · cases hg
  · cases hg; exact hs _ cur t (.inl rfl) hg'
theorem Twos.row (h : Twos t w base v us xs) {row : Option Nat} (hg : w.grownBy w1 row) (hr : ∀ r, row = some r → ∃ o : Obj, w.heap[r]? = some o ∧ o.isCells = false) : Twos t w1 base v us xs :=
  h.keep fun _ _ _ _ hk => grownBy_keeps_cells hg hr hk rfl
theorem Twos.cell (h : Twos t w base v us xs) {cs : Array Value} {t' : TypeId} (hb : w.heap[nb]? = some (.cells cs t' (0, 0))) (h1 : t' ≠ t) (h2 : t' ≠ 3) (x : Value) : Twos t (w.setCell ⟨nb, 0, none⟩ x) base v us xs :=
  h.keep fun g cur t'' ht hg => Below.heap_setCell _ _ _ _ (fun e => by
    have e' : g = nb := e
    subst e'
    rw [hb] at hg
    cases hg
    rcases ht with rfl | rfl
    · exact h1 rfl
    · exact h2 rfl)

/-- The variable at block nb holds these walks; their memory lies behind base. -/
def WkAt (w : World) (base nb : Nat) (L : List Wlk) : Prop := ∃ v us, w.heap[nb]? = some (.cells #[v] 59 (0, 0)) ∧ Twos 78 w base v us (L.map cmp)
theorem WkAt.below (h : WkAt w base nb L) (hb : Below w.heap.size w w1) : WkAt w1 base nb L := by
  obtain ⟨v, us, h1, h2⟩ := h
  exact ⟨v, us, (hb.block nb (Array.getElem?_eq_some_iff.1 h1).1).trans h1, h2.below hb⟩
theorem WkAt.row (h : WkAt w base nb L) {row : Option Nat} (hg : w.grownBy w1 row) (hr : ∀ r, row = some r → ∃ o : Obj, w.heap[r]? = some o ∧ o.isCells = false) : WkAt w1 base nb L := by
  obtain ⟨v, us, h1, h2⟩ := h
  exact ⟨v, us, (grownBy_keeps_cells hg hr h1 rfl).trans h1, h2.row hg hr⟩
theorem WkAt.turned (h : WkAt w base nb L) {b : Nat} (ht : w.mapTurned w1 b) : WkAt w1 base nb L := by
  have hg := ht.grown
  obtain ⟨es, clock, es', clock', hb, _⟩ := ht
  exact h.row hg fun r e => by cases e; exact ⟨_, hb, rfl⟩
theorem WkAt.start (w : World) (base : Nat) : WkAt (w.alloc (.cells #[.slice none 0 0] 59)) base w.heap.size [] := ⟨_, _, heap_alloc_new w _, Twos.start _ _ _⟩
theorem WkAt.get (h : WkAt w base nb L) : ∃ A c us, w.cell? ⟨nb, 0, none⟩ = some (.slice A L.length c) ∧ w.frozen? ⟨nb, 0, none⟩ = false ∧ Twos 78 w base (.slice A L.length c) us (L.map cmp) := by
  obtain ⟨v, us, h1, h2⟩ := h
  obtain ⟨A, c, rfl⟩ := h2.shape
  rw [List.length_map] at h1 h2
  exact ⟨A, c, us, cell_of_row w nb 0 _ _ (0, 0) h1, frozen_of_row w nb 0 _ _ h1, h2⟩
theorem WkAt.put (h : WkAt w base nb L) (hn : nb < base) (hb : Below base w w1) {L' : List Wlk} {us : List (Value × Value)} (h2 : Twos 78 w1 base v us (L'.map cmp)) : WkAt (w1.setCell ⟨nb, 0, none⟩ v) base nb L' := by
  obtain ⟨v0, us0, h1, _⟩ := h
  have h3 : w1.heap[nb]? = some (.cells #[v0] 59 (0, 0)) := (hb.block nb hn).trans h1
  refine ⟨v, us, ?_, h2.cell h3 (by decide) (by decide) v⟩
  rw [Rt.box_set' h3]
  rfl

/-- All blocks from of old but some stand as they stood. -/
def Side (w0 : World) (bs : List Nat) (W : World) : Prop := w0.heap.size ≤ W.heap.size ∧ ∀ k, k < w0.heap.size → k ∉ bs → W.heap[k]? = w0.heap[k]?
theorem Side.refl (w0 : World) (bs : List Nat) : Side w0 bs w0 := ⟨Nat.le_refl _, fun _ _ _ => rfl⟩
theorem Side.below (h : Side w0 bs W) {n : Nat} (hn : w0.heap.size ≤ n) (hb : Below n W W') : Side w0 bs W' := ⟨Nat.le_trans h.1 hb.size, fun k hk hn' => (hb.block k (by omega)).trans (h.2 k hk hn')⟩
theorem Side.new (h : Side w0 bs W) (hb : Below W.heap.size W W') : Side w0 bs W' := h.below h.1 hb
theorem Side.set (h : Side w0 bs W) (hn : nb ∈ bs) (x : Value) : Side w0 bs (W.setCell ⟨nb, 0, none⟩ x) :=
  ⟨by simpa [World.setCell] using h.1, fun k hk hn' => (Below.heap_setCell _ _ _ _ (fun e => hn' (by have e' : k = nb := e; rw [e']; exact hn))).trans (h.2 k hk hn')⟩
theorem Side.turned (h : Side w0 bs W) (hn : nb ∈ bs) (ht : W.mapTurned W' nb) : Side w0 bs W' := by
  have hg := ht.grown
  refine ⟨Nat.le_trans h.1 hg.size, fun k hk hn' => (hg.block k (by have := h.1; omega) (fun e => hn' (by cases e; exact hn))).trans (h.2 k hk hn')⟩
theorem ownFrom_side {β : Type} (w0 : World) (bs : List Nat) : OwnFrom w0.heap.size (fun (_ : β) W => Side w0 bs W) := fun _ A B row hs hg hr =>
  ⟨Nat.le_trans hs.1 hg.size, fun k hk hn' => (hg.block k (by have := hs.1; omega) (fun e => by have := (hr k e.symm).1; omega)).trans (hs.2 k hk hn')⟩
theorem ownFrom_wk {β : Type} (B base nb : Nat) (f : β → List Wlk) : OwnFrom B (fun (s : β) W => WkAt W base nb (f s)) := fun _ _ _ _ hs hg hr => hs.row hg fun r e => (hr r e).2
theorem IntsR.side (h : Rt.IntsR w0 v l) (hs : Side w0 bs W) (hne : ∀ b ∈ bs, v.ownBlock ≠ some b) : Rt.IntsR W v l := by
  obtain ⟨A, cap, rfl, hr⟩ := h
  refine ⟨A, cap, rfl, fun h0 => ?_⟩
  obtain ⟨bb, off, rfl, hg⟩ := hr h0
  refine ⟨bb, off, rfl, fun j hj => ?_⟩
  have h1 := World.block_lt_of_cell? w0 _ (hg j hj)
  exact (World.cell?_of_block (hs.2 bb h1 (fun e => hne bb e rfl))).trans (hg j hj)
theorem cell_side (hs : Side w0 bs W) {b : Nat} (hb : b < w0.heap.size) (hne : b ∉ bs) {i : Nat} : W.cell? ⟨b, i, none⟩ = w0.cell? ⟨b, i, none⟩ := World.cell?_of_block (hs.2 b hb hne)

theorem KpB.same2 {w8 w1 W0 W : World} {Bs : Nat} (hB : Bs < w8.heap.size ∧ Bs ≠ nb ∧ w8.cell? ⟨Bs, 0, none⟩ = some v) (hI : Ints w1 v l) (hs : Side w8 [nb] W) (hb : Below w1.heap.size w1 W) : KpB Bs v l W0 W := fun _ =>
  ⟨(cell_side hs hB.1 (fun h => hB.2.1 (List.mem_singleton.1 h))).trans hB.2.2, Rt.IntsR.of (hI.below hb)⟩
/-- append(s, x) in a fence: one more. -/
theorem wpListIn_append_two {F : Fence} {nF : Nat} {wr : World} {ops : Array Oper} {rest : List Oper} {o : Oper} {a : Act} {Q : Exit → Act → World → Prop} (hgd : o.guard = none) (s x : Operand) (t t' : TypeId)
    (ho : o.op = .call { callee := .builtin .append, args := #[s, x], argTypes := #[t', t'] }) {i0 : TypeInfo} {z : Value} {by_ : Nat} (hu : Tryz.prog.underlying t' = some (.slice t)) (hi : Tryz.prog.info? t = some i0) (hz0 : i0.zero = some z) (hz1 : i0.size = 2) (hz2 : i0.bytes = by_) (hzs : z.cells.size = 2) (hby : by_ ≤ 100) (ht : 3 ≠ t)
    {base : Nat} {v u1 u2 : Value} {us : List (Value × Value)} {xs : List (Comp × Comp)} {y : Comp × Comp} (hs : a.eval s = v) (hx : a.eval x = .slice (some ⟨wr.heap.size, 0, none⟩) 1 1) (hM : Twos t wr base v us xs) (h1 : y.1.ok wr base u1) (h2 : y.2.ok wr base u2)
    (hbase : base ≤ wr.heap.size) (hL : xs.length ≤ 1000000)
    (h : ∀ v' us' w', Twos t w' base v' us' (xs ++ [y]) → Below base wr w' → KeepsOthers wr w' → wpListIn F nF Tryz.prog ops Q rest (a.put o.dst v') w') : wpListIn F nF Tryz.prog ops Q (o :: rest) a (wr.alloc (.cells #[u1, u2] t)) := by
  have hl := hM.len
  have hb0 := below_alloc (w := wr) (.cells #[u1, u2] t)
  have hM2 := hM.below hb0
  refine wpListIn_append_own _ hgd s x t' ho base t i0 z 2 by_ hu hi hz0 hz1 hz2 hzs (by decide) v us.length (cells2 us) hs hM2.own ⟨wr.heap.size, 0, none⟩ 1 1 [u1, u2] hx rfl (cell_two_new _ _ _ _) (fun u' hu' => ?_) (by unfold maxLen; omega) ?_ (by simp; omega) ?_
  · simp at hu'
    rcases hu' with rfl | rfl
    · exact h1.one
    · exact h2.one
  · have : (us.length + 1) * by_ ≤ (us.length + 1) * 100 := Nat.mul_le_mul_left _ hby
    omega
  · intro v' w1 k1 k2 _
    exact h v' _ w1 (hM2.push ht (u := (u1, u2)) (h1.below hb0) (h2.below hb0) k2 k1) (((Below.refl base wr).alloc hbase _).grown k2 (by simp; omega) (fun k hk => (World.ownsRow.lt hM.own k hk).1))
      ((KeepsOthers.alloc wr _).trans (KeepsOthers.of_grownBy k2 (fun j o hj ho => by
        rcases hM2.own.2 with ⟨rfl, _⟩ | ⟨g', cap, cur, rfl, _, hg', _⟩
        · cases hj
        · cases hj; rw [hg'] at ho; cases ho; rfl)))

/-! ### append(walks, more...) -/

theorem zip_app_mem {α β : Type} {a c : List α} {b d : List β} (h : a.length = b.length) {p : α × β} (hp : p ∈ (a ++ c).zip (b ++ d)) : p ∈ a.zip b ∨ p ∈ c.zip d := by
  rw [List.zip_append h] at hp
  exact List.mem_append.1 hp
end Go.Proofs.YtmbpmepoaonleaaGreat.Fc

/-! The program's walksWithout. -/
namespace Go.Proofs.YtmbpmepoaonleaaGreat.Fc
open Go.Proofs.YtmbpmepoaonleaaGreat Go.RowKit Go.Maps Go.Shelf

attribute [local go_sem] Oper.semAt_some

/-- Walks of those vertices, in that order, that have no darts. -/
def lonesAt (U : List (List Int)) (l : List Int) (pre : List (Fin l.length)) : List Wlk := ((pre.map fun x => getI l x.1).filter (loneB U)).map fun v => (-1 - v, [])
theorem lonesAt_all (U : List (List Int)) (l : List Int) : lonesAt U l (downs l) = lones U l := by
  unfold lonesAt lones
  rw [downs_map]
theorem lonesAt_step (U : List (List Int)) (l : List Int) (pre : List (Fin l.length)) (x : Fin l.length) : lonesAt U l (pre ++ [x]) = lonesAt U l pre ++ (if loneB U (getI l x.1) = true then [(-1 - getI l x.1, [])] else []) := by
  unfold lonesAt
  rw [List.map_append, List.filter_append, List.map_append]
  congr 1
  by_cases e : loneB U (getI l x.1) = true
  · rw [if_pos e]; simp [e]
  · rw [if_neg e]; simp [e]
theorem lonesAt_len (U : List (List Int)) (l : List Int) (pre : List (Fin l.length)) : (lonesAt U l pre).length ≤ pre.length := by
  unfold lonesAt
  rw [List.length_map]
  exact Nat.le_trans (List.length_filter_le _ _) (by rw [List.length_map]; exact Nat.le_refl _)

set_option maxRecDepth 100000 in
set_option maxHeartbeats 4000000 in
theorem without_any (u : Value) (p : Prt) (b : Nat) (g : Gph) (U : List (List Int)) (w : World) (h' : Pt w u p) (h : Rt.Ro w b g p U) (hr : ∀ j, (Rt.getT U j).length ≤ 1000000) (hp1 : p.v.length ≤ 1000000) (hU : U.length ≤ 1000000) (hpv : ∀ v ∈ p.v, 0 ≤ v ∧ v < (U.length : Int)) :
    Calls Tryz.prog 63 #[u, .pointer (some ⟨b, 0, none⟩)] w fun e w' => ∃ v us, e = .returned v ∧ Twos 78 w' w.heap.size v us ((lones U p.v).map cmp) ∧ Below w.heap.size w w' := by
  obtain ⟨i0, hi, hz0, hz1, hz2⟩ := info_parts Tryz.infoFWalk
  obtain ⟨vv, vp, rfl, h2, h3⟩ := h'
  obtain ⟨Av, cv, rfl⟩ := ints_form h2
  obtain ⟨Ap, cp, rfl⟩ := ints_form h3
  obtain ⟨b1, hm1⟩ := one_box w (.slice Av p.v.length cv) (.slice Ap p.e.length cp) 27
  have hsz1 : (w.alloc (.cells #[.slice Av p.v.length cv, .slice Ap p.e.length cp] 27)).heap.size = w.heap.size + 1 := by simp
  have hc2 := new_cell (w.alloc (.cells #[.slice Av p.v.length cv, .slice Ap p.e.length cp] 27)) (.pointer (some ⟨b, 0, none⟩)) 65
  have hm2 := below_alloc (w := w.alloc (.cells #[.slice Av p.v.length cv, .slice Ap p.e.length cp] 27)) (.cells #[.pointer (some ⟨b, 0, none⟩)] 65)
  have hsz2 : ((w.alloc (.cells #[.slice Av p.v.length cv, .slice Ap p.e.length cp] 27)).alloc (.cells #[.pointer (some ⟨b, 0, none⟩)] 65)).heap.size = w.heap.size + 1 + 1 := by rw [World.size_alloc, hsz1]
  rw [hsz1] at hc2
  have HM := Lib.hid (trans2 hm1 hm2)
  have HB1 := Lib.hid (b1.below hm2)
  have HC2 := Lib.hid hc2
  have HR := Lib.hid (h.below HM.out)
  have HI := Lib.hid (h2.below HM.out)
  have HS2 := Lib.hid hsz2
  have HRL := Lib.hid hr
  have HPV := Lib.hid hpv
  clear b1 hm1 hm2 hc2 hsz1 hsz2 h2 h3 h hr hpv
  refine (callsIn_wide (n := 6)).1 ?_
  refine callsIn_of_wp_marks Tryz.func63 rfl trivial ?_ rfl
  simp only [Tryz.ntmps63, List.size_toArray, List.length_cons, List.length_nil, Nat.reduceAdd, Nat.reduceSub, Array.replicate_succ, Array.replicate_zero, List.push_toArray, List.append_toArray, List.nil_append, List.cons_append]
  gi_wp2_with fail
  generalize (w.alloc (.cells #[.slice Av p.v.length cv, .slice Ap p.e.length cp] 27)).alloc (.cells #[.pointer (some ⟨b, 0, none⟩)] 65) = w1 at *
  have hnb := below_alloc (w := w1) (.cells #[.slice none 0 0] 59)
  have hns : (w1.alloc (.cells #[.slice none 0 0] 59)).heap.size = w1.heap.size + 1 := by simp
  have HST := Lib.hid (fun base => WkAt.start w1 base)
  have HBW := Lib.hid (backward_at _ _ _ (HI.out.below hnb))
  generalize w1.alloc (.cells #[.slice none 0 0] 59) = wn at *
  refine ⟨trivial, (callsIn_wide.2 HBW.out).mono ?_⟩
  rintro e w8 ⟨Bs, rfl, hBs1, hBs2, hBs3, hB8⟩
  have hn8 : w1.heap.size < w8.heap.size := Nat.lt_of_lt_of_le (by omega) hB8.size
  have HIT := Lib.hid (back_stops Fence.wide 5 trivial rfl (by omega) Bs _ p.v hp1 w8 hBs2 hBs3 ((HI.out.below hnb).below hB8))
  have HW0 := Lib.hid ((HST.out w8.heap.size).below hB8)
  have HI8 := HI
  have HB8 := Lib.hid (trans2 hnb hB8)
  have HN8 := Lib.hid hn8
  have HBs := Lib.hid (show Bs < w8.heap.size ∧ Bs ≠ w1.heap.size ∧ w8.cell? ⟨Bs, 0, none⟩ = some (.slice Av p.v.length cv) from ⟨hBs2, by omega, hBs3⟩)
  rw [HS2.out] at HW0 HBs
  clear hnb hns HST HBW hBs1 hBs2 hBs3 hB8 hn8
  gi_wp2_with fail
  refine' wpIn_rangeFunc_ownF rfl (by omega) (gf := 109) (lb := #[.pointer (some ⟨Bs, 0, none⟩)]) rfl trivial (enters_of Tryz.func109 (by kernel_rfl) rfl)
    HIT.out (fun h k => KpB.trans h k) (fun W l o o' _ ho hc _ => KpB.obj W l o o' ho hc) (Below.refl _ _) (fun _ => rfl)
    (fun pre W => (WkAt W w8.heap.size (w.heap.size + 1 + 1) (lonesAt U p.v pre) ∧ Side w8 [w.heap.size + 1 + 1] W) ∧ Below w1.heap.size w1 W)
    (fun c pre _ => False)
    (OwnFrom.and (OwnFrom.and (ownFrom_wk _ _ _ (lonesAt U p.v)) (ownFrom_side w8 [w.heap.size + 1 + 1])) (ownFrom_below (Nat.le_refl _) HB8.out.size))
    (fun _ _ _ _ _ hs _ _ => hs) ⟨⟨HW0.out, Side.refl _ _⟩, HB8.out⟩ _ ?assign ?body ?done ?stop
  case assign =>
    intro l x W K hK
    gi_wp2
    exact hK
  case stop =>
    rintro D c pre W hD hpre h hK
    exact h.elim
  case done =>
    rintro D ys W hD rfl ⟨⟨hWK, hSd⟩, hBW⟩ hK
    rw [lonesAt_all] at hWK
    obtain ⟨A, c, us, hc, hf, hT⟩ := hWK.get
    have HT := Lib.hid (hT.le (Nat.le_trans HM.out.size HB8.out.size))
    have HBA := Lib.hid (trans2 HM.out hBW)
    have HK := Lib.hid hK
    have hDw : w.heap.size ≤ D := Nat.le_trans (Nat.le_trans HM.out.size HB8.out.size) hD
    clear hWK hSd hBW hf hT
    gi_wp2
    refine ⟨by simp, .inl ⟨_, _, rfl, run_takeDeferred HK.out, ?_⟩⟩
    refine ⟨.slice A (lones U p.v).length c, ?_, _, us, rfl, HT.out.row (grownBy_putObj' _ D (.deferred none)) (fun r e => by cases e; exact ⟨_, HK.out, rfl⟩), HBA.out.trans (belowK_b (w := w) (Nat.le_refl _) _ D _ _ hDw HK.out rfl rfl)⟩
    simp [results, Tryz.f63, go_sem]
  case body =>
    rintro lp pre x W ⟨⟨hWK, hSd⟩, hBW⟩ hpl
    have hxv := HPV.out _ ((mem_getI _ _).2 ⟨x.1, x.2, rfl⟩)
    have HSTEP := Lib.hid (lonesAt_step U p.v pre x)
    obtain ⟨vn, hvn⟩ : ∃ vn : Nat, getI p.v x.1 = (vn : Int) := ⟨(getI p.v x.1).toNat, by omega⟩
    rw [hvn] at hxv HSTEP ⊢
    have hvb : (vn : Int) < 1000000 := by omega
    have c1 := (hBW.cell (p := ⟨w.heap.size + 1, 0, none⟩) (by rw [HS2.out]; exact Nat.lt_succ_self _)).trans HC2.out
    have HA := Lib.hid (Rt.at_any b g p U W (vn : Int) (HR.out.below hBW) HRL.out)
    have HAE := Lib.hid (show Rt.atL U (vn : Int) = Rt.getT U vn by unfold Rt.atL; rw [if_pos (by omega), Int.toNat_natCast])
    rw [HAE.out] at HA
    have HWK := Lib.hid hWK
    have HSd := Lib.hid hSd
    have HBW := Lib.hid hBW
    have hlk : (lonesAt U p.v pre).length ≤ 1000000 := Nat.le_trans (lonesAt_len U p.v pre) (by omega)
    clear hvn hWK hSd hBW hpl
    generalize lonesAt U p.v pre = LS at *
    gi_wp2_with fail
    refine ⟨trivial, ((callsIn_wide.2 HA.out).inRound lp).mono ?_⟩
    rintro e W1 ⟨u1, rfl, hu, hB1⟩
    obtain ⟨Au, cu, rfl⟩ := ints_form (Row.ints hu)
    have HWK1 := Lib.hid (HWK.out.below hB1)
    have HSd1 := Lib.hid (HSd.out.new hB1)
    have HBW1 := Lib.hid (trans2 HBW.out hB1)
    have HBX := Lib.hid hB1
    clear hu HA c1 hB1 HWK HSd HBW
    by_cases hlone : Rt.getT U vn = []
    · have t1 : (((Rt.getT U vn).length : Int) == 0) = true := by rw [hlone]; rfl
      have HH := Lib.hid (HSTEP.out.trans (by rw [if_pos (lone_iff.2 (by rw [Int.toNat_natCast]; exact hlone))]))
      obtain ⟨A5, c5, us, hc, hf, hT⟩ := HWK1.out.get
      have HT := Lib.hid hT
      clear hT hlone HSTEP
      generalize (Rt.getT U vn).length = nT at *
      have HLN := Lib.hid (show (LS.map cmp).length ≤ 1000000 by rw [List.length_map]; exact hlk)
      have HXS := Lib.hid HSd1.out.1
      gi_wp2_with (gi_at_builtin; refine wpListIn_append_two rfl _ _ _ _ rfl Tryz.underlying59 hi hz0 hz1 hz2 rfl (by decide) (by decide) (y := (.inl (-1 - (vn : Int)), .inr [])) rfl rfl HT.out rfl (World.ownsRow_nil _ _ _ _) HXS.out HLN.out ?_)
      intro v7 us7 w7 hO7 hB7 hK7
      have HO7 := Lib.hid (show Twos 78 w7 w8.heap.size v7 us7 ((lonesAt U p.v (pre ++ [x])).map cmp) by rw [HH.out, List.map_append]; exact hO7)
      have HB7 := Lib.hid hB7
      have HK7 := Lib.hid hK7
      obtain ⟨A7, c7, rfl⟩ := hO7.shape
      have hlt7 : w.heap.size + 1 + 1 < w8.heap.size := by have := HN8.out; rw [HS2.out] at this; exact this
      have hc7 := (hB7.cell (p := ⟨w.heap.size + 1 + 1, 0, none⟩) hlt7).trans hc
      have hf7 := (hB7.frozen (p := ⟨w.heap.size + 1 + 1, 0, none⟩) hlt7).trans hf
      have HW7 := Lib.hid (HWK1.out.put hlt7 hB7 HO7.out)
      have HS7 := Lib.hid ((HSd1.out.below (Nat.le_refl _) hB7).set (List.mem_singleton.2 rfl) (.slice A7 (LS.map cmp ++ [(Sum.inl (-1 - (vn : Int)), Sum.inr [])]).length c7))
      have HB8' := Lib.hid ((HBW1.out.trans (hB7.mono HB8.out.size)).setCell (p := ⟨w.heap.size + 1 + 1, 0, none⟩) (by rw [HS2.out]; exact Nat.le_refl _) (.slice A7 (LS.map cmp ++ [(Sum.inl (-1 - (vn : Int)), Sum.inr [])]).length c7))
      clear hO7 hB7 hK7 hc hf
      generalize (LS.map cmp ++ [((Sum.inl (-1 - (vn : Int)), Sum.inr []) : Comp × Comp)]).length = n7 at *
      gi_wp2
      exact ⟨((Rt.keepsOthers_below HBX.out).trans HK7.out).trans (KeepsOthers.setCell _ _ _), KpB.same2 HBs.out HI8.out HS7.out HB8'.out, ⟨⟨HW7.out, HS7.out⟩, HB8'.out⟩⟩
    · have t1 : (((Rt.getT U vn).length : Int) == 0) = false := beq_eq_false_iff_ne.2 (fun e => hlone (List.length_eq_zero_iff.1 (by omega)))
      have HH := Lib.hid (HSTEP.out.trans (by rw [if_neg (fun e => hlone (by have := lone_iff.1 e; rwa [Int.toNat_natCast] at this)), List.append_nil]))
      clear hlone HSTEP
      generalize (Rt.getT U vn).length = nT at *
      gi_wp2
      exact ⟨Rt.keepsOthers_below HBX.out, KpB.same2 HBs.out HI8.out HSd1.out HBW1.out, by show (WkAt W1 w8.heap.size (w.heap.size + 1 + 1) (lonesAt U p.v (pre ++ [x])) ∧ _) ∧ _; rw [HH.out]; exact ⟨⟨HWK1.out, HSd1.out⟩, HBW1.out⟩⟩
end Go.Proofs.YtmbpmepoaonleaaGreat.Fc

/-! The program's walksWith. -/
namespace Go.Proofs.YtmbpmepoaonleaaGreat.Fc
open Go.Proofs.YtmbpmepoaonleaaGreat Go.RowKit Go.Maps Go.Shelf

attribute [local go_sem] Oper.semAt_some

/-- One dart more has been looked at. -/
def stepW (X : List Int) (f : Int → Int) (s : List Int × List Wlk) (d : Int) : List Int × List Wlk := if d ∈ s.1 then (s.1.filter (fun y => decide (y ∉ orb f X.length d)), s.2 ++ [wlk f X.length d]) else s
def stW (X : List Int) (f : Int → Int) (pre : List Int) : List Int × List Wlk := pre.foldl (stepW X f) (X, [])
theorem stW_snoc (X : List Int) (f : Int → Int) (pre : List Int) (d : Int) : stW X f (pre ++ [d]) = stepW X f (stW X f pre) d := by
  unfold stW
  rw [List.foldl_append]
  rfl
theorem stW_all {X : List Int} {f : Int → Int} (h : Perm X f) (hX : Up X) : ∀ n, n ≤ X.length → (stW X f (X.take n)).2 = facesTo X f n ∧ ∀ y, y ∈ (stW X f (X.take n)).1 ↔ Unmet X f n y
  | 0, _ => ⟨rfl, fun y => by rw [unmet_zero]; exact Iff.rfl⟩
  | n + 1, hn => by
    obtain ⟨h1, h2⟩ := stW_all h hX n (by omega)
    rw [take_succ_getI X n (by omega), stW_snoc]
    unfold stepW
    by_cases hl : leastB f X.length (getI X n) = true
    · rw [if_pos ((h2 _).2 ((h.unmet hX (by omega)).2 hl))]
      refine ⟨?_, fun y => ?_⟩
      · rw [facesTo_succ X f n (by omega), if_pos hl, h1]
      · rw [unmet_take (by omega) hl]
        show y ∈ List.filter _ _ ↔ _
        rw [List.mem_filter, h2, decide_eq_true_iff]
    · rw [if_neg (fun e => hl ((h.unmet hX (by omega)).1 ((h2 _).1 e)))]
      refine ⟨?_, fun y => ?_⟩
      · rw [facesTo_succ X f n (by omega), if_neg hl, h1, List.append_nil]
      · rw [unmet_skip (by omega) (by simpa using hl), h2]
theorem stW_done {X : List Int} {f : Int → Int} (h : Perm X f) (hX : Up X) : (stW X f X).2 = (faces X f).map (wlk f X.length) := by
  have := (stW_all h hX X.length (Nat.le_refl _)).1
  rw [List.take_length] at this
  rw [this, facesTo_all]
theorem stW_len (X : List Int) (f : Int → Int) : ∀ (pre : List Int) (s : List Int × List Wlk), (pre.foldl (stepW X f) s).2.length ≤ s.2.length + pre.length
  | [], s => Nat.le_refl _
  | d :: pre, s => by
    have h1 := stW_len X f pre (stepW X f s d)
    have h2 : (stepW X f s d).2.length ≤ s.2.length + 1 := by
      unfold stepW
      split
      · simp
      · omega
    simp only [List.foldl_cons, List.length_cons]
    omega

/-- The map at block mb holds just those of which Q holds. -/
def SetAt (w : World) (mb n : Nat) (Q : Int → Prop) : Prop := ∃ D, w.ownsMap Tryz.prog 3 (unitElem (H := Unit)) mb n D ∧ Rt.Hd D Q (fun _ => .agg [])
variable {w w0 w1 W W' : World} {mb n : Nat} {Q Q' : Int → Prop}
theorem SetAt.cong (h : SetAt w mb n Q) (hq : ∀ x, Q' x ↔ Q x) : SetAt w mb n Q' := by
  obtain ⟨D, h1, h2⟩ := h
  exact ⟨D, h1, h2.cong hq⟩
theorem SetAt.lt (h : SetAt w mb n Q) : mb < w.heap.size := by
  obtain ⟨D, h1, _⟩ := h
  exact h1.lt
theorem SetAt.same (h : SetAt w mb n Q) (hs : w1.heap[mb]? = w.heap[mb]?) : SetAt w1 mb n Q := by
  obtain ⟨D, h1, h2⟩ := h
  exact ⟨D, Rt.map_at h1 hs, h2⟩
theorem SetAt.below (h : SetAt w mb n Q) (hb : Below w.heap.size w w1) : SetAt w1 mb n Q := h.same (hb.block mb h.lt)
theorem SetAt.le (h : SetAt w mb n Q) {n' : Nat} (hn : n ≤ n') : SetAt w mb n' Q := by
  obtain ⟨D, h1, h2⟩ := h
  exact ⟨D, h1.mono hn, h2⟩
theorem ownFrom_set {β : Type} (B mb : Nat) (hB : mb < B) (N : β → Nat) (Q : β → Int → Prop) : OwnFrom B (fun (s : β) W => SetAt W mb (N s) (Q s)) := fun s A B' row hs hg hr =>
  hs.same (hg.block mb hs.lt (fun e => by have := (hr mb e.symm).1; omega))
theorem SetAt.start (w : World) : SetAt (w.alloc (.map #[] 0)) w.heap.size 0 (fun _ => False) := by
  exact ⟨_, World.ownsMap_made w Tryz.prog 3 _, Rt.Hd.start _⟩

theorem ints_turned {v : Value} {l : List Int} (h : Ints w v l) (ht : w.mapTurned w1 mb) : Ints w1 v l := by
  have hg := ht.grown
  obtain ⟨es, clock, es', clock', hb, _⟩ := ht
  obtain ⟨A, cap, rfl, hc, hm, hr⟩ := h
  refine ⟨A, cap, rfl, hc, hm, fun h0 => ?_⟩
  obtain ⟨b, off, hA, hlt, hg'⟩ := hr h0
  exact ⟨b, off, hA, Nat.lt_of_lt_of_le hlt hg.size, fun j hj => cell_kept (hg' j hj) hg (fun r e => by cases e; exact ⟨_, hb, rfl⟩)⟩
theorem cell_turned {a : Addr} {v : Value} (h : w.cell? a = some v) (ht : w.mapTurned w1 mb) : w1.cell? a = some v := by
  have hg := ht.grown
  obtain ⟨es, clock, es', clock', hb, _⟩ := ht
  exact cell_kept h hg (fun r e => by cases e; exact ⟨_, hb, rfl⟩)
theorem row_turned {v : Value} {l : List Int} {base : Nat} (h : Row w base v l) (ht : w.mapTurned w1 mb) : Row w1 base v l := by
  obtain ⟨es, clock, es', clock', hb, hw⟩ := ht
  have ht : w.mapTurned w1 mb := ⟨es, clock, es', clock', hb, hw⟩
  exact Rt.row_only h (k := mb) (fun cur e => by rw [hb] at e; cases e) (fun k hk hl => ht.grown.block k hl (fun e => hk (Option.some.inj e)))

theorem Tryz.zeroUnit (w : World) : (zeroValue 126).run Tryz.prog w = .ok (.agg #[]) w := by kernel_rfl

set_option maxRecDepth 100000 in
set_option maxHeartbeats 8000000 in
theorem with_any (b : Nat) (g : Gph) (p : Prt) (U : List (List Int)) (w : World) (h : Rt.Ro w b g p U) (hU : Rt.Turns g p U) (hr : ∀ j, (Rt.getT U j).length ≤ 1000000) (hl : g.e.length ≤ 1000000) (hp : p.e.length ≤ 100000) :
    Calls Tryz.prog 64 #[.pointer (some ⟨b, 0, none⟩)] w fun e w' => ∃ v us, e = .returned v ∧ Twos 78 w' w.heap.size v us (((faces (prs p.e) (Rt.nxt g U)).map (wlk (Rt.nxt g U) (prs p.e).length)).map cmp) ∧ Below w.heap.size w w' := by
  obtain ⟨i0, hi, hz0, hz1, hz2⟩ := info_parts Tryz.infoFWalk
  have hc1 := new_cell w (.pointer (some ⟨b, 0, none⟩)) 65
  have hm1 := below_alloc (w := w) (.cells #[.pointer (some ⟨b, 0, none⟩)] 65)
  have hs1 : (w.alloc (.cells #[.pointer (some ⟨b, 0, none⟩)] 65)).heap.size = w.heap.size + 1 := by simp
  have HC1 := Lib.hid hc1
  have HM := Lib.hid hm1
  have HS1 := Lib.hid hs1
  have HR := Lib.hid (h.below hm1)
  have HRL := Lib.hid hr
  have HU := Lib.hid hU
  clear hc1 hm1 hs1 h hr hU
  refine (callsIn_wide (n := 6)).1 ?_
  refine callsIn_of_wp_marks Tryz.func64 rfl trivial ?_ rfl
  simp only [Tryz.ntmps64, List.size_toArray, List.length_cons, List.length_nil, Nat.reduceAdd, Nat.reduceSub, Array.replicate_succ, Array.replicate_zero, List.push_toArray, List.append_toArray, List.nil_append, List.cons_append]
  have hmm := @run_makeMap Tryz.prog
  have HX := Lib.hid (show (prs p.e).length ≤ 200000 by rw [prs_len]; omega)
  have HP0 := Lib.hid HU.out.right
  gi_wp2_with fail
  generalize w.alloc (.cells #[.pointer (some ⟨b, 0, none⟩)] 65) = w1 at *
  have hm2 := below_alloc (w := w1) (.map #[] 0)
  have hs2 : (w1.alloc (.map #[] 0)).heap.size = w.heap.size + 1 + 1 := by rw [World.size_alloc, HS1.out]
  have hst := SetAt.start w1
  rw [HS1.out] at hst
  have hm3 := below_alloc (w := w1.alloc (.map #[] 0)) (.cells #[.map (some (w.heap.size + 1))] 122)
  have hs3 : ((w1.alloc (.map #[] 0)).alloc (.cells #[.map (some (w.heap.size + 1))] 122)).heap.size = w.heap.size + 1 + 1 + 1 := by rw [World.size_alloc, hs2]
  have hc3 := new_cell (w1.alloc (.map #[] 0)) (.map (some (w.heap.size + 1))) 122
  rw [hs2] at hc3
  have HDR := Lib.hid (Rt.darts_row b g p U _ (HR.out.below (trans2 hm2 hm3)) HP0.out)
  have HSet3 := Lib.hid (hst.below hm3)
  have HB3 := Lib.hid (trans2 hm2 hm3)
  clear hst hm2 hs2 hm3
  generalize (w1.alloc (.map #[] 0)).alloc (.cells #[.map (some (w.heap.size + 1))] 122) = w3 at *
  refine ⟨trivial, (callsIn_wide.2 HDR.out).mono ?_⟩
  clear HDR
  rintro e w8 ⟨Bs, sv, rfl, hBs1, hBs2, hBs3, hRow, _, hB8⟩
  have HSet8 := Lib.hid (HSet3.out.below hB8)
  have HC38 := Lib.hid ((hB8.cell (p := ⟨w.heap.size + 1 + 1, 0, none⟩) (by rw [hs3]; exact Nat.lt_succ_self _)).trans hc3)
  have HB8 := Lib.hid (trans2 HB3.out hB8)
  have HL8 := Lib.hid (show w.heap.size + 1 + 1 + 1 ≤ w8.heap.size by have := hB8.size; rw [hs3] at this; exact this)
  have HNE := Lib.hid (show sv.ownBlock ≠ some (w.heap.size + 1) from fun e => by
    have := (World.ownsRow.lt hRow _ e).1
    rw [hs3] at this
    omega)
  have HII := Lib.hid (Rt.IntsR.of (Row.ints hRow))
  have HIT := Lib.hid (Rt.iter_stops Fence.wide 5 trivial rfl (by omega) Bs sv (Rt.allD p) (by rw [Rt.allD_len]; omega) w8 hBs2 hBs3 (Row.ints hRow))
  clear hs3 hc3 hBs1 hBs2 hBs3 hRow hB8 HSet3 HB3
  gi_wp2_with fail
  refine' wpIn_rangeFunc_ownG rfl (by omega) (gf := 112) (lb := #[.pointer (some ⟨Bs, 0, none⟩)]) rfl trivial (enters_of Tryz.func112 (by kernel_rfl) rfl)
    HIT.out (fun h k => Rt.KpD.trans h k) (fun W l o o' _ ho hc _ => Rt.KpD.obj W l o o' ho hc) (Below.refl _ _) (fun _ => rfl)
    (fun pre W => (SetAt W (w.heap.size + 1) pre.length (fun y => y ∈ pre.map Subtype.val) ∧ Side w8 [w.heap.size + 1] W) ∧ Below w1.heap.size w1 W)
    (fun c pre _ => False)
    (OwnFrom.and (OwnFrom.and (ownFrom_set w8.heap.size (w.heap.size + 1) (by have := HL8.out; omega) (fun pre : List (Rt.In (Rt.allD p)) => pre.length) (fun pre y => y ∈ pre.map Subtype.val)) (ownFrom_side w8 [w.heap.size + 1])) (ownFrom_below (Nat.le_refl _) HB8.out.size))
    (fun _ _ _ _ _ hs _ _ => hs) ⟨⟨HSet8.out.cong (fun x => by simp), Side.refl _ _⟩, HB8.out⟩ _ ?assign ?body ?done ?stop
  case assign =>
    intro l x W K hK
    gi_wp2
    exact hK
  case stop =>
    rintro D c pre W hD hpre h hK
    exact h.elim
  case body =>
    rintro lp pre ⟨d, hd⟩ W ⟨⟨⟨D, hO, hD⟩, hSd⟩, hBW⟩ hpl
    have hwd := dart_wf' HP0.out hl ((Rt.mem_allD HP0.out d).1 hd)
    have hkey := keyOf_int_mk Tryz.underlying3 hwd
    have q3 := (cell_side hSd (b := w.heap.size + 1 + 1) (i := 0) (by have := HL8.out; omega) (by simp)).trans HC38.out
    have HO := Lib.hid hO
    have HD := Lib.hid hD
    have HSd := Lib.hid hSd
    have HBW := Lib.hid hBW
    have HPL := Lib.hid (show pre.length < maxLen by rw [Rt.allD_len] at hpl; unfold maxLen; omega)
    clear hO hD hSd hBW hpl hwd
    gi_wp2_with (gi_at_mapUpdate; refine wpListIn_mapUpdate_in _ rfl _ _ _ 122 rfl 3 126 Tryz.keyInt Tryz.underlying122 unitElem (w.heap.size + 1) pre.length D rfl HO.out HPL.out _ _ _ rfl rfl hkey (.agg []) [] unitElem_mk ?_)
    intro W2 hO2 ht2
    have HO2 := Lib.hid hO2
    have HT2 := Lib.hid ht2
    clear hO2 ht2 q3
    gi_wp2
    have hs2 := HSd.out.turned (List.mem_singleton.2 rfl) HT2.out
    refine ⟨KeepsFrom.of_grownBy HT2.out.grown (fun j e => by cases e; have := HL8.out; omega), fun _ => IntsR.side HII.out hs2 (fun b hb => by rw [List.mem_singleton.1 hb]; exact HNE.out), ⟨⟨D.put (.int .i64 d) (.agg []), ?_, ?_⟩, hs2⟩, ?_⟩
    · rw [List.length_append]; exact HO2.out
    · exact (HD.out.put d).cong fun y => by simp
    · exact Rt.below_turned HBW.out HT2.out (by rw [HS1.out]; exact Nat.le_refl _) HBW.out.size
  case done =>
    rintro D1 ys W hD1 rfl ⟨⟨hSet, hSd⟩, hBW⟩ hK1
    rw [Rt.att_len] at hSet
    have hSet' := hSet.cong (Q' := fun y => y ∈ prs p.e) (fun x => by rw [List.attach_map_subtype_val]; exact Iff.rfl)
    have hwb := below_alloc (w := W) (.cells #[.slice none 0 0] 59)
    have hsW : (W.alloc (.cells #[.slice none 0 0] 59)).heap.size = W.heap.size + 1 := by simp
    have HWK := Lib.hid (fun base => WkAt.start W base)
    have hWs : w.heap.size < w1.heap.size := by rw [HS1.out]; exact Nat.lt_succ_self _
    have q1 := ((trans2 hBW hwb).cell (p := ⟨w.heap.size, 0, none⟩) hWs).trans HC1.out
    have HDR := Lib.hid (Rt.darts_row b g p U _ (HR.out.below (trans2 hBW hwb)) HP0.out)
    have HSetW := Lib.hid (hSet'.below hwb)
    have HBWn := Lib.hid (trans2 hBW hwb)
    have hc3 := (cell_side hSd (b := w.heap.size + 1 + 1) (i := 0) (by have := HL8.out; omega) (by simp)).trans HC38.out
    have HC3W := Lib.hid ((hwb.cell (p := ⟨w.heap.size + 1 + 1, 0, none⟩) (World.block_lt_of_cell? W _ hc3)).trans hc3)
    have HKn := Lib.hid ((hwb.block D1 (Array.getElem?_eq_some_iff.1 hK1).1).trans hK1)
    have HL9 := Lib.hid (show w.heap.size + 1 + 1 + 1 ≤ W.heap.size by have h1 := HL8.out; have h2 := hSd.1; omega)
    have hDl : D1 < W.heap.size := (Array.getElem?_eq_some_iff.1 hK1).1
    clear hSet hSet' hSd hBW hK1 hc3 hwb
    gi_wp2_with fail
    generalize W.alloc (.cells #[.slice none 0 0] 59) = wn at *
    clear q1
    refine ⟨trivial, (callsIn_wide.2 HDR.out).mono ?_⟩
    clear HDR
    rintro e w9 ⟨Bt, st, rfl, hBt1, hBt2, hBt3, hRow, _, hB9⟩
    have HSet9 := Lib.hid (HSetW.out.below hB9)
    have HC39 := Lib.hid ((hB9.cell (p := ⟨w.heap.size + 1 + 1, 0, none⟩) (World.block_lt_of_cell? wn _ HC3W.out)).trans HC3W.out)
    have HB9 := Lib.hid (trans2 HBWn.out hB9)
    have HK9 := Lib.hid ((hB9.block D1 (Array.getElem?_eq_some_iff.1 HKn.out).1).trans HKn.out)
    have HW9 := Lib.hid ((HWK.out w9.heap.size).below hB9)
    have HN9 := Lib.hid (show W.heap.size < w9.heap.size from Nat.lt_of_lt_of_le (by omega) hB9.size)
    have HNE9 := Lib.hid (show ∀ b ∈ [w.heap.size + 1, W.heap.size], st.ownBlock ≠ some b from fun b hb e => by
      have h1 := (World.ownsRow.lt hRow _ e).1
      have h2 := HL9.out
      rw [hsW] at h1
      simp at hb
      omega)
    have HII9 := Lib.hid (Rt.IntsR.of (Row.ints hRow))
    have HIT9 := Lib.hid (Rt.iter_stops Fence.wide 5 trivial rfl (by omega) Bt st (Rt.allD p) (by rw [Rt.allD_len]; omega) w9 hBt2 hBt3 (Row.ints hRow))
    clear hBt1 hBt2 hBt3 hRow hB9 HSetW HC3W HBWn HKn HWK hsW
    gi_wp2_with fail
    refine' wpIn_rangeFunc_ownG rfl (by omega) (gf := 112) (lb := #[.pointer (some ⟨Bt, 0, none⟩)]) rfl trivial (enters_of Tryz.func112 (by kernel_rfl) rfl)
      HIT9.out (fun h k => Rt.KpD.trans h k) (fun W l o o' _ ho hc _ => Rt.KpD.obj W l o o' ho hc) (Below.refl _ _) (fun _ => rfl)
      (fun pre V => ((SetAt V (w.heap.size + 1) (Rt.allD p).length (fun y => y ∈ (stW (prs p.e) (Rt.nxt g U) (pre.map Subtype.val)).1) ∧ WkAt V w9.heap.size W.heap.size (stW (prs p.e) (Rt.nxt g U) (pre.map Subtype.val)).2) ∧ Side w9 [w.heap.size + 1, W.heap.size] V) ∧ Below w1.heap.size w1 V)
      (fun c pre _ => False)
      (OwnFrom.and (OwnFrom.and (OwnFrom.and (ownFrom_set w9.heap.size (w.heap.size + 1) (by have := HL9.out; have := HN9.out; omega) (fun _ : List (Rt.In (Rt.allD p)) => (Rt.allD p).length) (fun pre y => y ∈ (stW (prs p.e) (Rt.nxt g U) (pre.map Subtype.val)).1)) (ownFrom_wk _ _ _ (fun pre : List (Rt.In (Rt.allD p)) => (stW (prs p.e) (Rt.nxt g U) (pre.map Subtype.val)).2))) (ownFrom_side w9 [w.heap.size + 1, W.heap.size])) (ownFrom_below (Nat.le_refl _) HB9.out.size))
      (fun _ _ _ _ _ hs _ _ => hs) ⟨⟨⟨HSet9.out, HW9.out⟩, Side.refl _ _⟩, HB9.out⟩ _ ?assign ?body ?done ?stop
    case assign =>
      intro l x W K hK
      gi_wp2
      exact hK
    case stop =>
      rintro D c pre W hD hpre h hK
      exact h.elim
    case done =>
      rintro D2 ys V hD2 rfl ⟨⟨⟨hSet, hWK⟩, hSd⟩, hBV⟩ hK2
      rw [List.attach_map_subtype_val] at hWK
      have hup := prs_up (perr_rises HP0.out).2.2.1.up
      rw [show Rt.allD p = prs p.e from rfl, stW_done (nxt_perm HU.out) hup] at hWK
      obtain ⟨A, c, us, hc, hf, hT⟩ := hWK.get
      have HT := Lib.hid (hT.le (show w.heap.size ≤ w9.heap.size from Nat.le_trans HM.out.size HB9.out.size))
      have HBA := Lib.hid (trans2 HM.out hBV)
      have HK2 := Lib.hid hK2
      have HK1 := Lib.hid ((hSd.2 D1 (Nat.lt_trans hDl HN9.out) (by have := HL8.out; simp; omega)).trans HK9.out)
      have hDw : w.heap.size ≤ D2 := Nat.le_trans (Nat.le_trans HM.out.size HB9.out.size) hD2
      have hDw1 : w.heap.size ≤ D1 := Nat.le_trans (Nat.le_trans HM.out.size HB8.out.size) hD1
      have hDD : D1 ≠ D2 := by have := HN9.out; omega
      clear hWK hSd hBV hf hT hup hSet
      generalize hFL : (faces (prs p.e) (Rt.nxt g U)).map (wlk (Rt.nxt g U) (prs p.e).length) = FL at *
      have HFL := Lib.hid hFL
      clear hFL
      gi_wp2
      refine ⟨by simp, .inl ⟨_, _, rfl, run_takeDeferred HK2.out, ?_⟩⟩
      have hK1' : (V.putObj D2 (.deferred none)).heap[D1]? = some (.deferred (some [])) := (World.putObj_heap_other hDD).trans HK1.out
      refine ⟨by simp, .inl ⟨_, _, rfl, run_takeDeferred hK1', ?_⟩⟩
      have HTa := HT.out.row (grownBy_putObj' _ D2 (.deferred none)) (fun r e => by cases e; exact ⟨_, HK2.out, rfl⟩)
      have HTb := HTa.row (grownBy_putObj' _ D1 (.deferred none)) (fun r e => by cases e; exact ⟨_, hK1', rfl⟩)
      have hB2 := HBA.out.trans (belowK_b (w := w) (Nat.le_refl _) _ D2 _ (.deferred none) hDw HK2.out rfl rfl)
      refine ⟨.slice A FL.length c, ?_, _, us, rfl, by rw [HFL.out]; exact HTb, hB2.trans (belowK_b (w := w) (Nat.le_refl _) _ D1 _ _ hDw1 hK1' rfl rfl)⟩
      simp [results, Tryz.f64, go_sem]
    case body =>
      rintro lp pre ⟨d, hd⟩ V ⟨⟨⟨hSet, hWK⟩, hSd⟩, hBV⟩ hpl
      have hdd := (Rt.mem_allD HP0.out d).1 hd
      have hwd := dart_wf' HP0.out hl hdd
      have hkey := keyOf_int_mk Tryz.underlying3 hwd
      have HST := Lib.hid (show stW (prs p.e) (Rt.nxt g U) ((pre ++ [(⟨d, hd⟩ : Rt.In (Rt.allD p))]).map Subtype.val) = stepW (prs p.e) (Rt.nxt g U) (stW (prs p.e) (Rt.nxt g U) (pre.map Subtype.val)) d by rw [List.map_append]; exact stW_snoc _ _ _ _)
      have q3 := (cell_side hSd (b := w.heap.size + 1 + 1) (i := 0) (by have := HL9.out; have := HN9.out; omega) (by have := HL9.out; simp; omega)).trans HC39.out
      have HLL := Lib.hid (show (stW (prs p.e) (Rt.nxt g U) (pre.map Subtype.val)).2.length ≤ 1000000 by
        have h1 := stW_len (prs p.e) (Rt.nxt g U) (pre.map Subtype.val) (prs p.e, [])
        rw [List.length_map] at h1
        rw [Rt.allD_len] at hpl
        show ((pre.map Subtype.val).foldl (stepW (prs p.e) (Rt.nxt g U)) (prs p.e, [])).2.length ≤ _
        have h2 : ((prs p.e, ([] : List Wlk)) : List Int × List Wlk).2.length = 0 := rfl
        rw [h2] at h1
        omega)
      generalize stW (prs p.e) (Rt.nxt g U) (pre.map Subtype.val) = s at *
      obtain ⟨D, hO, hD⟩ := hSet
      have q1 := (hBV.cell (p := ⟨w.heap.size, 0, none⟩) hWs).trans HC1.out
      have hba := below_alloc (w := V) (.cells #[] 126)
      have q1' := (hba.cell (p := ⟨w.heap.size, 0, none⟩) (World.block_lt_of_cell? V _ q1)).trans q1
      by_cases hq : d ∈ s.1
      · have hh := hD.yes hq
        have hss : stepW (prs p.e) (Rt.nxt g U) s d = (s.1.filter (fun y => decide (y ∉ orb (Rt.nxt g U) (prs p.e).length d)), s.2 ++ [wlk (Rt.nxt g U) (prs p.e).length d]) := if_pos hq
        have hwk : wlk (Rt.nxt g U) (prs p.e).length d = (d, orb (Rt.nxt g U) (prs p.e).length d) := rfl
        have HIX := Lib.hid (fun y (hy : y ∈ orb (Rt.nxt g U) (prs p.e).length d) => dart_wf' HP0.out hl ((mem_dart HP0.out).1 ((nxt_perm HU.out).orb_in ((mem_dart HP0.out).2 hdd) hy)))
        have HLO := Lib.hid (show (orb (Rt.nxt g U) (prs p.e).length d).length ≤ 200000 by
          have := ((nxt_perm HU.out).per ((mem_dart HP0.out).2 hdd) (Nat.le_refl _)).1
          rw [orb_len]
          have := HX.out
          omega)
        have HAR := Lib.hid (around_any b g p U _ d (HR.out.below (trans2 hBV hba)) HU.out hdd HRL.out hl (by omega))
        have HO := Lib.hid hO
        have HD := Lib.hid hD
        have HWK := Lib.hid (hWK.below hba)
        have HSd := Lib.hid (hSd.new hba)
        have HBV := Lib.hid (trans2 hBV hba)
        have HQ3 := Lib.hid ((hba.cell (p := ⟨w.heap.size + 1 + 1, 0, none⟩) (World.block_lt_of_cell? V _ q3)).trans q3)
        have HO1 := Lib.hid (Rt.map_at hO (hba.block _ hO.lt))
        have HKF := Lib.hid ((Rt.keepsOthers_below hba).from w9.heap.size)
        rw [hwk] at hss
        have HSS := Lib.hid hss
        clear hD hWK hSd hBV hpl hwd hss hq hdd hba hO hwk
        generalize orb (Rt.nxt g U) (prs p.e).length d = ol at *
        gi_wp2_with (gi_at_lookup; refine wpListIn_lookup_own_unit _ rfl _ _ 122 rfl 3 126 Tryz.keyInt Tryz.underlying122 (Tryz.zeroUnit _) (w.heap.size + 1) (Rt.allD p).length D rfl HO.out _ _ rfl hkey ?_; rw [hh])
        generalize V.alloc (.cells #[] 126) = V1 at *
        clear q1 q1' q3
        refine ⟨trivial, ((callsIn_wide.2 HAR.out).inRound lp).mono ?_⟩
        rintro e V2 ⟨vo, rfl, hRo, hB2⟩
        obtain ⟨Ao, co, rfl⟩ := ints_form (Row.ints hRo)
        obtain ⟨b3, hm3⟩ := one_box V2 (.int .i64 d) (.slice Ao ol.length co) 78
        have z0 := b3.c0
        have z1 := b3.c1
        have HB3 := Lib.hid b3
        have hm13 := trans2 hB2 hm3
        have HRo := Lib.hid ((Row.le hRo HSd.out.1).below hm3)
        have HWK3 := Lib.hid (HWK.out.below hm13)
        have HSd3 := Lib.hid (HSd.out.new hm13)
        have HBV3 := Lib.hid (trans2 HBV.out hm13)
        have HQ33 := Lib.hid ((hm13.cell (p := ⟨w.heap.size + 1 + 1, 0, none⟩) (World.block_lt_of_cell? V1 _ HQ3.out)).trans HQ3.out)
        have HO3 := Lib.hid (Rt.map_at HO1.out (hm13.block _ HO1.out.lt))
        have HKF3 := Lib.hid (HKF.out.trans ((Rt.keepsOthers_below hm13).from w9.heap.size))
        have HT3 := Lib.hid HO3.out.turned_refl
        clear hRo hB2 b3 hm3 hm13 HAR HO1 HQ3 HKF HSd HBV HWK
        gi_wp2_with fail
        clear z0 z1
        generalize V2.alloc (.cells #[.int .i64 d, .slice Ao ol.length co] 78) = V3 at *
        gi_loopw [38] (fun i wr => ∃ j : Nat, j ≤ ol.length ∧ i = .int .i64 (j : Nat) ∧ Hid (SetAt wr (w.heap.size + 1) (Rt.allD p).length (fun y => y ∈ s.1 ∧ y ∉ ol.take j)) ∧ Hid (V3.mapTurned wr (w.heap.size + 1))) (fun i _ => ol.length - (Go.RowKit.intOf i).toNat)
        case atStart => exact ⟨0, Nat.zero_le _, rfl, Lib.hid (⟨D, HO3.out, HD.out.cong (fun y => by simp)⟩ : SetAt _ _ _ _), HT3⟩
        case round =>
          obtain ⟨j, hj, rfl, hSj, hTj⟩ := hrel
          rename_i wr
          have hlo := HLO.out
          by_cases hjl : j < ol.length
          · obtain ⟨bl, oo, rfl, hbl, hcl⟩ := ints_at (ints_turned (Row.ints HRo.out) hTj.out) hjl
            have q3 := cell_turned HQ33.out hTj.out
            have hkj := keyOf_int_mk Tryz.underlying3 (HIX.out _ (Rt.getI_in _ _ hjl))
            have HTK := Lib.hid (take_succ_getI ol j hjl)
            obtain ⟨Dj, hOj, hDj⟩ := hSj.out
            have HOj := Lib.hid hOj
            have HDj := Lib.hid hDj
            clear hOj hDj hbl
            generalize getI ol j = x at *
            gi_wp2_with (gi_at_delete; refine wpListIn_delete_own _ rfl _ _ 122 3 rfl 126 Tryz.keyInt Tryz.underlying122 unitElem (w.heap.size + 1) (Rt.allD p).length Dj rfl HOj.out _ _ rfl hkj ?_)
            intro W2 hO2 ht2
            have HO2 := Lib.hid hO2
            have HT2 := Lib.hid (hTj.out.trans ht2)
            clear hO2 ht2 q3 hcl
            gi_wp2
            go_roundw
            case rel => exact ⟨j + 1, by omega, by go_num, Lib.hid (⟨_, HO2.out, (HDj.out.del x).cong (fun y => by rw [HTK.out, List.mem_append, List.mem_singleton, not_or, and_assoc])⟩ : SetAt _ _ _ _), HT2⟩
            case measure => simp [Go.RowKit.intOf]; omega
          · obtain rfl : j = ol.length := by omega
            obtain ⟨A5, c5, us, hc, hf, hT⟩ := (HWK3.out.turned hTj.out).get
            have HT := Lib.hid hT
            have z0 := cell_turned HB3.out.c0 hTj.out
            have z1 := cell_turned HB3.out.c1 hTj.out
            have HRo4 := Lib.hid (row_turned HRo.out hTj.out)
            have HSd4 := Lib.hid (HSd3.out.turned (List.mem_cons_self ..) hTj.out)
            have HLN := Lib.hid (show (s.2.map cmp).length ≤ 1000000 by rw [List.length_map]; exact HLL.out)
            have HXS := Lib.hid HSd4.out.1
            have HWKr := Lib.hid (HWK3.out.turned hTj.out)
            have HBVr := Lib.hid (Rt.below_turned HBV3.out hTj.out (by rw [HS1.out]; exact Nat.le_refl _) HBV3.out.size)
            have HKFr := Lib.hid (HKF3.out.trans (KeepsFrom.of_grownBy hTj.out.grown (fun j e => by cases e; have := HL9.out; have := HN9.out; omega)))
            have HSj := Lib.hid (hSj.out.cong (Q' := fun y => y ∈ s.1.filter (fun y => decide (y ∉ ol))) (fun y => by rw [List.take_length, List.mem_filter, decide_eq_true_iff]))
            clear hT hTj hSj HO3 HT3
            gi_wp2_with (gi_at_builtin; refine wpListIn_append_two rfl _ _ _ _ rfl Tryz.underlying59 hi hz0 hz1 hz2 rfl (by decide) (by decide) (y := (.inl d, .inr ol)) rfl rfl HT.out rfl HRo4.out HXS.out HLN.out ?_)
            intro v7 us7 w7 hO7 hB7 hK7
            have HO7 := Lib.hid (show Twos 78 w7 w9.heap.size v7 us7 ((s.2 ++ [(d, ol)]).map cmp) by rw [List.map_append]; exact hO7)
            have HB7 := Lib.hid hB7
            have HK7 := Lib.hid hK7
            obtain ⟨A7, c7, rfl⟩ := hO7.shape
            have hc7 := (hB7.cell (p := ⟨W.heap.size, 0, none⟩) HN9.out).trans hc
            have hf7 := (hB7.frozen (p := ⟨W.heap.size, 0, none⟩) HN9.out).trans hf
            have HW7 := Lib.hid (HWKr.out.put HN9.out hB7 HO7.out)
            have HS7 := Lib.hid ((HSd4.out.below (Nat.le_refl _) hB7).set (nb := W.heap.size) (by simp) (.slice A7 (s.2.map cmp ++ [(Sum.inl d, Sum.inr ol)]).length c7))
            have HB8' := Lib.hid ((HBVr.out.trans (hB7.mono HB9.out.size)).setCell (p := ⟨W.heap.size, 0, none⟩) (by show w1.heap.size ≤ W.heap.size; have := HL9.out; rw [HS1.out]; omega) (.slice A7 (s.2.map cmp ++ [(Sum.inl d, Sum.inr ol)]).length c7))
            have HSet7 := Lib.hid ((HSj.out.same (hB7.block (w.heap.size + 1) (by have := HL9.out; have := HN9.out; omega))).same (w1 := w7.setCell ⟨W.heap.size, 0, none⟩ (.slice A7 (s.2.map cmp ++ [(Sum.inl d, Sum.inr ol)]).length c7)) (Below.heap_setCell _ _ _ _ (by show w.heap.size + 1 ≠ W.heap.size; have := HL9.out; omega)))
            clear hO7 hB7 hK7 hc hf z0 z1
            generalize (s.2.map cmp ++ [((Sum.inl d, Sum.inr ol) : Comp × Comp)]).length = n7 at *
            gi_wp2
            refine ⟨HKFr.out.trans ((HK7.out.trans (KeepsOthers.setCell _ _ _)).from _), fun _ => IntsR.side HII9.out HS7.out HNE9.out, ?_⟩
            show ((SetAt _ _ _ (fun y => y ∈ (stW (prs p.e) (Rt.nxt g U) ((pre ++ [(⟨d, hd⟩ : Rt.In (Rt.allD p))]).map Subtype.val)).1) ∧ WkAt _ _ _ (stW (prs p.e) (Rt.nxt g U) ((pre ++ [(⟨d, hd⟩ : Rt.In (Rt.allD p))]).map Subtype.val)).2) ∧ _) ∧ _
            rw [HST.out, HSS.out]
            exact ⟨⟨⟨HSet7.out, HW7.out⟩, HS7.out⟩, HB8'.out⟩
      · have hh := hD.no hq
        have hss : stepW (prs p.e) (Rt.nxt g U) s d = s := if_neg hq
        have HO := Lib.hid hO
        have HD := Lib.hid hD
        have HBA := Lib.hid hba
        have HWK1 := Lib.hid (hWK.below hba)
        have HSd1 := Lib.hid (hSd.new hba)
        have HBV1 := Lib.hid (trans2 hBV hba)
        have HKF := Lib.hid ((Rt.keepsOthers_below hba).from w9.heap.size)
        have HSS := Lib.hid hss
        clear hO hD hWK hSd hBV hpl hwd hss hq hdd hba q1 q1'
        gi_wp2_with (gi_at_lookup; refine wpListIn_lookup_own_unit _ rfl _ _ 122 rfl 3 126 Tryz.keyInt Tryz.underlying122 (Tryz.zeroUnit _) (w.heap.size + 1) (Rt.allD p).length D rfl HO.out _ _ rfl hkey ?_; rw [hh])
        refine ⟨HKF.out, fun _ => IntsR.side HII9.out HSd1.out HNE9.out, ?_⟩
        show ((SetAt _ _ _ (fun y => y ∈ (stW (prs p.e) (Rt.nxt g U) ((pre ++ [(⟨d, hd⟩ : Rt.In (Rt.allD p))]).map Subtype.val)).1) ∧ WkAt _ _ _ (stW (prs p.e) (Rt.nxt g U) ((pre ++ [(⟨d, hd⟩ : Rt.In (Rt.allD p))]).map Subtype.val)).2) ∧ _) ∧ _
        rw [HST.out, HSS.out]
        exact ⟨⟨⟨SetAt.below (w := V) ⟨D, HO.out, HD.out⟩ HBA.out, HWK1.out⟩, HSd1.out⟩, HBV1.out⟩
end Go.Proofs.YtmbpmepoaonleaaGreat.Fc
