/-
  RtW, RtX, in one text.
-/
import Derived.Test.YtmbpmepoaonleaaGreatM21
import Derived.Test.YtmbpmepoaonleaaGreatM23
/-! Turns as they lie in memory: the structure, its lists, its map of places; as they are made. -/
namespace Go.Proofs.YtmbpmepoaonleaaGreat.Rt
open Go.Proofs.YtmbpmepoaonleaaGreat Go.RowKit Go.Maps

theorem first_row (v : Value) (l : List Int) (w : World) (h : Ints w v l) (hl : l.length ≤ 1000000) :
    Calls Tryz.prog 55 #[v] w fun e w' => ∃ u, e = .returned u ∧ Row w' w.heap.size u (fst l) ∧ Below w.heap.size w w' :=
  (rgFirst_any v l w h hl).mono fun e w' h => by
    obtain ⟨u, rfl, hu, hb⟩ := h
    refine ⟨u, rfl, ?_, hb⟩
    show w'.ownsRow _ _ _ _ _ _
    rw [fst_len]
    exact hu

set_option maxRecDepth 100000 in
set_option maxHeartbeats 1000000 in
theorem about_row (v : Value) (l : List Int) (w : World) (h : Ints w v l) (hl : l.length ≤ 1000000) :
    Calls Tryz.prog 72 #[v] w fun e w' => ∃ u, e = .returned u ∧ Row w' w.heap.size u l.reverse ∧ Below w.heap.size w w' := by
  have HI := Lib.hid h
  obtain ⟨A, cap, rfl, _, _, hcell⟩ := h
  clear hcell
  go_enter Tryz.func72, Tryz.ntmps72
  go_wp2_with fail
  refine (rgClone_any _ l w HI.out hl).mono ?_
  rintro e w1 ⟨u, rfl, hown, hB⟩
  have HR := Lib.hid (reverse_any _ u l w1 hown hB.size hl)
  clear hown
  go_wp2_with fail
  refine HR.out.mono ?_
  rintro e w2 ⟨rfl, hown2, hB2⟩
  have hl2 : l.reverse.length = l.length := List.length_reverse
  rw [← hl2] at hown2
  have HO := Lib.hid (show Row w2 w.heap.size u l.reverse from hown2)
  clear hown2 hl2
  go_wp2
  go_ret
  exact ⟨_, rfl, HO.out, hB.trans hB2⟩

/-! ### A place as a value -/

def placeR : Value → Option (DataW Unit × List MemPlace)
  | .agg cs => match cs.toList with
    | [.int .i64 a, .int .i64 b] => some (.agg [.lit (.int .i64 a), .lit (.int .i64 b)], [])
    | _ => none
  | _ => none
theorem placeR_mk (a b : Int) : placeR (.agg #[.int .i64 a, .int .i64 b]) = some (.agg [.lit (.int .i64 a), .lit (.int .i64 b)], []) := rfl
theorem placeR_inv {v : Value} {a b : Int} {ps : List MemPlace} (h : placeR v = some (.agg [.lit (.int .i64 a), .lit (.int .i64 b)], ps)) : v = .agg #[.int .i64 a, .int .i64 b] := by
  unfold placeR at h
  split at h
  · rename_i cs
    split at h
    · rename_i x y e
      simp at h
      obtain ⟨⟨rfl, rfl⟩, _⟩ := h
      congr 1
      exact Array.toList_inj.1 e
    · cases h
  · cases h

def plF (g : Gph) (U : List (List Int)) (x : Int) : DataW Unit := .agg [.lit (.int .i64 (tl g x : Nat)), .lit (.int .i64 (Lib.idxOf (getT U (tl g x)) x))]

/-- Block b holds turns U of p: its lists, and where each dart stands. -/
def Ro (w : World) (b : Nat) (g : Gph) (p : Prt) (U : List (List Int)) : Prop :=
  ∃ sv mb n D, w.heap[b]? = some (.cells #[sv, .map (some mb)] 103 (0, 0)) ∧ LL w sv U ∧ n ≤ 1000000 ∧ w.ownsMap Tryz.prog 3 placeR mb n D ∧ Hd D (Dart p) (plF g U)

variable {w w1 w2 : World} {base rb mb b n : Nat} {sv v v' u : Value} {us us' : List Value} {L U T : List (List Int)} {l : List Int} {D : DataW Unit} {Q Q' : Int → Prop} {f : Int → DataW Unit} {g : Gph} {p : Prt}

theorem map_at {R : Value → Option (DataW Unit × List MemPlace)} (h : w.ownsMap Tryz.prog 3 R mb n D) (hs : w1.heap[mb]? = w.heap[mb]?) : w1.ownsMap Tryz.prog 3 R mb n D := by
  obtain ⟨es, clock, hb, r⟩ := h
  exact ⟨es, clock, by rw [hs]; exact hb, r⟩
theorem Ro.below (h : Ro w b g p U) (hb : Below w.heap.size w w1) : Ro w1 b g p U := by
  obtain ⟨sv, mb, n, D, h1, h2, h3, h4, h5⟩ := h
  exact ⟨sv, mb, n, D, (hb.block b (Array.getElem?_eq_some_iff.1 h1).1).trans h1, h2.below hb, h3, map_at h4 (hb.block mb h4.lt), h5⟩

/-- Rows stand where the block that changes is none of theirs. -/
theorem Made.only (h : Made w base v us T) {k : Nat} (h1 : ∀ cur, w.heap[k]? ≠ some (.cells cur 25 (0, 0))) (h2 : ∀ cur, w.heap[k]? ≠ some (.cells cur 3 (0, 0))) (hs : ∀ g, g ≠ k → g < w.heap.size → w1.heap[g]? = w.heap[g]?) : Made w1 base v us T := by
  refine ⟨own_block h.own (fun g hg => hs g (fun e => ?_) (h.own.lt g hg).2), h.len, fun j hj => own_block (h.each j hj) (fun g hg => hs g (fun e => ?_) ((h.each j hj).lt g hg).2)⟩
  · subst e
    rcases h.own.2 with ⟨rfl, _⟩ | ⟨g', cap, cur, rfl, _, hg', _⟩
    · cases hg
    · cases hg; exact h1 cur hg'
  · subst e
    rcases (h.each j hj).2 with ⟨e, _⟩ | ⟨g', cap, cur, e, _, hg', _⟩
    · rw [e] at hg; cases hg
    · rw [e] at hg; cases hg; exact h2 cur hg'
theorem row_only (h : Row w base u l) {k : Nat} (h2 : ∀ cur, w.heap[k]? ≠ some (.cells cur 3 (0, 0))) (hs : ∀ g, g ≠ k → g < w.heap.size → w1.heap[g]? = w.heap[g]?) : Row w1 base u l := by
  refine own_block h (fun g hg => hs g (fun e => ?_) (World.ownsRow.lt h g hg).2)
  subst e
  rcases h.2 with ⟨rfl, _⟩ | ⟨g', cap, cur, rfl, _, hg', _⟩
  · cases hg
  · cases hg; exact h2 cur hg'

theorem box_set' {sb : Nat} {cs : Array Value} {t : TypeId} (h : w.heap[sb]? = some (.cells cs t (0, 0))) (j : Nat) (x : Value) : (w.setCell ⟨sb, j, none⟩ x).heap[sb]? = some (.cells (cs.setIfInBounds j x) t (0, 0)) := by
  simp [World.setCell, Array.getElem?_modify, h]

/-- Turns, as they are made. -/
structure Tk (w : World) (base rb mb : Nat) (sv : Value) (us : List Value) (L : List (List Int)) (n : Nat) (D : DataW Unit) (Q : Int → Prop) (f : Int → DataW Unit) : Prop where
  box : w.heap[rb]? = some (.cells #[sv, .map (some mb)] 103 (0, 0))
  rows : Made w base sv us L
  map : w.ownsMap Tryz.prog 3 placeR mb n D
  tells : Hd D Q f

theorem Tk.below (M : Tk w base rb mb sv us L n D Q f) (hb : Below w.heap.size w w1) : Tk w1 base rb mb sv us L n D Q f :=
  ⟨(hb.block rb (Array.getElem?_eq_some_iff.1 M.box).1).trans M.box, M.rows.below hb, map_at M.map (hb.block mb M.map.lt), M.tells⟩
theorem Tk.cong (M : Tk w base rb mb sv us L n D Q f) (hq : ∀ x, Q' x ↔ Q x) : Tk w base rb mb sv us L n D Q' f := ⟨M.box, M.rows, M.map, M.tells.cong hq⟩
theorem Tk.more (M : Tk w base rb mb sv us L n D Q f) {n' : Nat} (hn : n ≤ n') : Tk w base rb mb sv us L n' D Q f := ⟨M.box, M.rows, M.map.mono hn, M.tells⟩
theorem Tk.ne (M : Tk w base rb mb sv us L n D Q f) : rb ≠ mb := fun e => by
  obtain ⟨es, clock, hb, _⟩ := M.map
  have h1 := M.box
  rw [e, hb] at h1
  cases h1
theorem Tk.cells (M : Tk w base rb mb sv us L n D Q f) : w.cell? ⟨rb, 0, none⟩ = some sv ∧ w.cell? ⟨rb, 1, none⟩ = some (.map (some mb)) ∧ w.frozen? ⟨rb, 0, none⟩ = false :=
  ⟨cell_of_row w rb 0 _ _ (0, 0) M.box, cell_of_row w rb 1 _ _ (0, 0) M.box, frozen_of_row w rb 0 _ _ M.box⟩

/-- A row more: the lists have grown, and lie in the structure again. -/
theorem Tk.push (M : Tk w base rb mb sv us L n D Q f) {u : Value} (hg : (w.alloc (.cells #[u] 25)).grownBy w2 sv.ownBlock) (hm : Made w2 base v' us' (L ++ [l])) :
    Tk (w2.setCell ⟨rb, 0, none⟩ v') base rb mb v' us' (L ++ [l]) n D Q f ∧ w2.heap[rb]? = some (.cells #[sv, .map (some mb)] 103 (0, 0)) ∧ (∀ x l', Row w base x l' → Row (w2.setCell ⟨rb, 0, none⟩ v') base x l') := by
  have hrl := (Array.getElem?_eq_some_iff.1 M.box).1
  have hml := M.map.lt
  have hb := below_alloc (w := w) (.cells #[u] 25)
  have hrb : w2.heap[rb]? = some (.cells #[sv, .map (some mb)] 103 (0, 0)) := by
    refine (hg.block rb (Nat.lt_of_lt_of_le hrl hb.size) (fun e => ?_)).trans ((hb.block rb hrl).trans M.box)
    rcases M.rows.own.2 with ⟨rfl, _⟩ | ⟨g', cap, cur, rfl, _, hg', _⟩
    · cases e
    · cases e
      rw [M.box] at hg'
      cases hg'
  have hmb : w2.heap[mb]? = w.heap[mb]? := by
    refine (hg.block mb (Nat.lt_of_lt_of_le hml hb.size) (fun e => ?_)).trans (hb.block mb hml)
    rcases M.rows.own.2 with ⟨rfl, _⟩ | ⟨g', cap, cur, rfl, _, hg', _⟩
    · cases e
    · cases e
      obtain ⟨es, clock, hbm, _⟩ := M.map
      rw [hbm] at hg'
      cases hg'
  have hoth : ∀ k, k ≠ rb → (w2.setCell ⟨rb, 0, none⟩ v').heap[k]? = w2.heap[k]? := fun k hk => Below.heap_setCell _ _ _ _ hk
  refine ⟨⟨?_, hm.only (k := rb) (fun cur e => by rw [hrb] at e; cases e) (fun cur e => by rw [hrb] at e; cases e) (fun k hk _ => hoth k hk), map_at (map_at M.map hmb) (hoth mb M.ne.symm), M.tells⟩, hrb, fun x l' hx => ?_⟩
  · rw [box_set' hrb]
    rfl
  · have h1 : Row w2 base x l' := World.ownsRow.kept (own_below hx hb) hg (own_two (own_below hx hb) (own_below M.rows.own hb) (by decide))
    exact row_only h1 (k := rb) (fun cur e => by rw [hrb] at e; cases e) (fun k hk _ => hoth k hk)

/-- A place more. -/
theorem Tk.put (M : Tk w base rb mb sv us L n D Q f) (x : Int) (ho : w1.ownsMap Tryz.prog 3 placeR mb (n + 1) (D.put (dk x) (f x))) (ht : w.mapTurned w1 mb) :
    Tk w1 base rb mb sv us L (n + 1) (D.put (dk x) (f x)) (fun y => Q y ∨ y = x) f ∧ (∀ u l', Row w base u l' → Row w1 base u l') := by
  have hoth : ∀ k, k ≠ mb → k < w.heap.size → w1.heap[k]? = w.heap[k]? := fun k hk hl => ht.grown.block k hl (fun e => hk (Option.some.inj e))
  obtain ⟨es, clock, hbm, _⟩ := M.map
  refine ⟨⟨(hoth rb M.ne (Array.getElem?_eq_some_iff.1 M.box).1).trans M.box, M.rows.only (k := mb) (fun cur e => by rw [hbm] at e; cases e) (fun cur e => by rw [hbm] at e; cases e) hoth, ho, M.tells.put x⟩, fun u l' hu => ?_⟩
  exact row_only hu (k := mb) (fun cur e => by rw [hbm] at e; cases e) hoth

theorem Tk.ro (M : Tk w base rb mb sv us U n D (Dart p) (plF g U)) (hn : n ≤ 1000000) : Ro w rb g p U := ⟨sv, mb, n, D, M.box, M.rows.reads, hn, M.map, M.tells⟩

end Go.Proofs.YtmbpmepoaonleaaGreat.Rt

/-! The program's take: turns made of lists that are turns. -/
namespace Go.Proofs.YtmbpmepoaonleaaGreat.Rt
open Go.Proofs.YtmbpmepoaonleaaGreat Go.RowKit Go.Maps

theorem Tk.start (w : World) (f : Int → DataW Unit) : Tk ((w.alloc (.map #[] 0)).alloc (.cells #[.slice none 0 0, .map (some w.heap.size)] 103)) w.heap.size (w.heap.size + 1) w.heap.size (.slice none 0 0) [] [] 0 (.map []) (fun _ => False) f := by
  have h1 := heap_alloc_new (w.alloc (.map #[] 0)) (.cells #[.slice none 0 0, .map (some w.heap.size)] 103)
  rw [World.size_alloc] at h1
  exact ⟨h1, Made.start _ _, World.ownsMap.alloc (World.ownsMap_made w Tryz.prog 3 placeR) _, Hd.start f⟩

set_option maxRecDepth 100000 in
set_option maxHeartbeats 4000000 in
theorem take_any (u : Value) (g : Gph) (p : Prt) (T : List (List Int)) (w : World) (hT : LL w u T) (h : Turns g p T) (hl : T.length ≤ 1000) (hr : ∀ j, (getT T j).length ≤ 500) (hw : ∀ j, ∀ x ∈ getT T j, (Lit.int .i64 x).wf = true) :
    Calls Tryz.prog 71 #[u] w fun e w' => ∃ b, e = .returned (.pointer (some ⟨b, 0, none⟩)) ∧ w.heap.size ≤ b ∧ Ro w' b g p (T.map fst) ∧ Below w.heap.size w w' := by
  obtain ⟨A, cap, rfl, hcap, hmx⟩ := hT.form
  have HT := Lib.hid hT
  have HW := Lib.hid hw
  have HUT := Lib.hid (h.alike (alike_fst T))
  have HUL := Lib.hid (show (T.map fst).length = T.length by simp)
  have HUG := Lib.hid (fun v => getT_map fst fst_nil T v)
  have hmm := @run_makeMap Tryz.prog
  have HS0 := Lib.hid (Tk.start w (plF g (T.map fst)))
  have HB0 := Lib.hid (show Below w.heap.size w ((w.alloc (.map #[] 0)).alloc (.cells #[.slice none 0 0, .map (some w.heap.size)] 103)) from ((Below.refl _ w).alloc (Nat.le_refl _) _).alloc (by simp) _)
  unfold maxLen at hmx
  clear hT hw h
  go_enter Tryz.func71, Tryz.ntmps71
  go_wp2
  generalize (w.alloc (.map #[] 0)).alloc (.cells #[.slice none 0 0, .map (some w.heap.size)] 103) = w1 at *
  go_loopw [14] (fun i wr => ∃ k n D sv us, k ≤ T.length ∧ n ≤ 500 * k ∧ i = .int .i64 (k : Nat) ∧ Hid (Tk wr w.heap.size (w.heap.size + 1) w.heap.size sv us ((T.map fst).take k) n D (Met (T.map fst) k 0) (plF g (T.map fst))) ∧ Hid (Below w.heap.size w wr)) (fun i _ => T.length - (Go.RowKit.intOf i).toNat)
  case atStart => exact ⟨0, 0, _, _, _, Nat.zero_le _, Nat.zero_le _, rfl, Lib.hid (HS0.out.cong (fun x => ⟨fun h => Met.start _ x h, fun h => h.elim⟩)), HB0⟩
  case round =>
    clear HS0 HB0
    obtain ⟨k, n, D, sv, us, hk, hnk, rfl, hM, hB⟩ := hrel
    obtain ⟨wo, hwo⟩ : ∃ z, z = wr := ⟨_, rfl⟩
    subst hwo
    by_cases hlt : k < T.length
    · obtain ⟨bT, oT, rfl, hbT, A1, c1, hcT, hi⟩ := (HT.out.below hB.out).get hlt
      have HF := Lib.hid (first_row _ _ wo hi (by have := hr k; omega))
      have hrk := hr k
      have HLE := Lib.hid (show (getT (T.map fst) k).length = (getT T k).length by rw [HUG.out, fst_len])
      have HX := Lib.hid (HUG.out k)
      have HMN := Lib.hid (fun (x : Int) (hx : x ∈ getT (T.map fst) k) => HW.out k x (by rw [HUG.out] at hx; exact (fst_in _ _).1 hx))
      clear hi hbT
      generalize (getT T k).length = nk at *
      go_wp2_with fail
      clear hcT
      refine HF.out.mono ?_
      rintro e w1 ⟨uf, rfl, hu, hB1⟩
      rw [← HX.out] at hu
      obtain ⟨Au, cu, rfl⟩ := ints_form (Row.ints hu)
      have HB1 := Lib.hid (hB.out.trans (hB1.mono hB.out.size))
      have HM1 := Lib.hid (hM.out.below hB1)
      have HU := Lib.hid (Row.le hu hB.out.size)
      have hLk : ((T.map fst).take k).length = k := by rw [List.length_take, HUL.out]; omega
      have HLM := Lib.hid (show ((T.map fst).take k).length ≤ 1000000 by omega)
      obtain ⟨As, cs, hsv⟩ := HM1.out.rows.shape
      rw [hLk] at hsv
      subst hsv
      have c0 := HM1.out.cells.1
      have HTS := Lib.hid (take_getT (T.map fst) k (by rw [HUL.out]; exact hlt))
      clear hu hB1 hM hB HF HX hLk
      rw [HLE.out] at HU ⊢
      go_wp2_with (at_builtin; refine wpList_append_list rfl _ _ rfl (v := .slice As k cs) (l := getT (T.map fst) k) rfl rfl HM1.out.rows HU.out HB1.out.size HLM.out ?_)
      intro v' us' w2 hM2 hG2 hB2
      obtain ⟨HM3, hbx, HR3⟩ := HM1.out.push hG2 hM2
      obtain ⟨Av, cv, hsv⟩ := hM2.shape
      have hLk : ((T.map fst).take k ++ [getT (T.map fst) k]).length = k + 1 := by rw [← HTS.out, List.length_take, HUL.out]; omega
      rw [hLk] at hsv
      subst hsv
      rw [← HTS.out] at HM3
      have HM3 := Lib.hid HM3
      have HR3 := Lib.hid (HR3 _ _ HU.out)
      have HB3 := Lib.hid (show Below w.heap.size w (w2.setCell ⟨w.heap.size + 1, 0, none⟩ (.slice Av (k + 1) cv)) from (HB1.out.trans hB2).setCell (by show w.heap.size ≤ w.heap.size + 1; omega) _)
      have d0 := cell_of_row w2 (w.heap.size + 1) 0 _ _ (0, 0) hbx
      have df := frozen_of_row w2 (w.heap.size + 1) 0 _ _ hbx
      clear hM2 hG2 hB2 hbx HM1 HB1 HU c0 hLk
      go_wp2
      clear d0 df
      generalize w2.setCell ⟨w.heap.size + 1, 0, none⟩ (.slice Av (k + 1) cv) = w3 at *
      go_loopw [33] (fun i wr => ∃ j n D, j ≤ nk ∧ n ≤ 500 * k + j ∧ i = .int .i64 (j : Nat) ∧ Hid (Tk wr w.heap.size (w.heap.size + 1) w.heap.size (.slice Av (k + 1) cv) us' ((T.map fst).take (k + 1)) n D (Met (T.map fst) k j) (plF g (T.map fst))) ∧ Hid (Row wr w.heap.size (.slice Au nk cu) (getT (T.map fst) k)) ∧ Hid (Below w.heap.size w wr)) (fun i _ => nk - (Go.RowKit.intOf i).toNat)
      case atStart => exact ⟨0, n, D, Nat.zero_le _, by omega, rfl, HM3, HR3, HB3⟩
      case round =>
        clear HM3 HR3 HB3
        obtain ⟨j, n2, D2, hj, hn2, rfl, hM, hR, hB⟩ := hrel
        by_cases hjt : j < nk
        · have hjt2 : j < (getT (T.map fst) k).length := by rw [HLE.out]; exact hjt
          obtain ⟨bl, ol, rfl, hbl, hcl⟩ := ints_at (Row.ints hR.out) hjt2
          have c1 := hM.out.cells.2.1
          have hmem := getI_in _ _ hjt2
          have HPL := Lib.hid (show plF g (T.map fst) (getI (getT (T.map fst) k) j) = .agg [.lit (.int .i64 (k : Int)), .lit (.int .i64 (j : Int))] by
            unfold plF
            rw [(HUT.out.dart hmem).2.2, idx_nodup (HUT.out.once k) j hjt2])
          have HST := Lib.hid (fun x => Met.step (T := T.map fst) (k := k) hjt2 x)
          have hkey := keyOf_int_mk Tryz.underlying3 (HMN.out _ hmem)
          have HPT := Lib.hid (fun (w' : World) ho ht => (hM.out.put (w1 := w') (getI (getT (T.map fst) k) j) ho ht))
          have HMP := Lib.hid hM.out.map
          have HBT := Lib.hid (fun (w' : World) (ht : wr.mapTurned w' w.heap.size) => below_turned hB.out ht (Nat.le_refl _) hB.out.size)
          rw [HPL.out] at HPT
          clear hmem hbl hM hB HPL
          generalize getI (getT (T.map fst) k) j = x at *
          go_wp2_with (at_mapUpdate; refine wpList_mapUpdate_in _ rfl _ _ _ 101 rfl 3 136 Tryz.keyInt Tryz.underlying101 _ w.heap.size n2 D2 rfl HMP.out (by unfold maxLen; omega) _ _ _ rfl rfl hkey _ [] (placeR_mk k j) ?_)
          intro w4 ho ht
          obtain ⟨HM4, HR4⟩ := HPT.out w4 ho ht
          have HM4 := Lib.hid (HM4.cong HST.out)
          have HR4 := Lib.hid (HR4 _ _ hR.out)
          have HB4 := Lib.hid (HBT.out w4 ht)
          clear ho ht HPT HBT hR c1 hcl HMP
          go_wp2
          go_roundw
          case rel => exact ⟨j + 1, n2 + 1, _, by omega, by omega, by go_num, HM4, HR4, HB4⟩
          case measure => simp [Go.RowKit.intOf]; omega
        · obtain rfl : j = nk := by omega
          have HM4 := Lib.hid (hM.out.cong (Q' := Met (T.map fst) (k + 1) 0) (fun x => by rw [Met.next, HLE.out]))
          clear hM hR
          go_wp2
          go_roundw
          case rel => exact ⟨k + 1, n2, D2, _, us', by omega, by omega, by go_num, HM4, hB⟩
          case measure => simp [Go.RowKit.intOf]; omega
    · obtain rfl : k = T.length := by omega
      have HM4 := Lib.hid (hM.out.cong (Q' := Dart p) (fun x => by rw [← HUL.out, HUT.out.met]))
      go_wp2
      go_ret
      refine ⟨_, rfl, by omega, ?_, hB.out⟩
      have := HM4.out
      rw [← HUL.out, List.take_length] at this
      exact this.ro (by omega)

end Go.Proofs.YtmbpmepoaonleaaGreat.Rt
