/-
  PmG, PmK, PmM, PmH, in one text.
-/
import Derived.Test.YtmbpmepoaonleaaGreatM59
import Derived.Test.YtmbpmepoaonleaaGreatM20
import Derived.Test.YtmbpmepoaonleaaGreatM57
import Derived.Test.YtmbpmepoaonleaaGreatM54
import Derived.Test.YtmbpmepoaonleaaGreatM06
import Derived.Test.YtmbpmepoaonleaaGreatM03
import Derived.Test.YtmbpmepoaonleaaGreatM13
import Derived.Test.YtmbpmepoaonleaaGreatM61
import Derived.Test.YtmbpmepoaonleaaGreatM62
/-! The document's Mirror: which walks there its keys name (plain mathematics). -/
namespace Go.Proofs.YtmbpmepoaonleaaGreat.Pl
open Go.Proofs.YtmbpmepoaonleaaGreat Go.Proofs.YtmbpmepoaonleaaGreat.Fc Go.Proofs.YtmbpmepoaonleaaGreat.Rt Go.RowKit Go.Maps

variable {g : Gph} {p : Prt} {T S : List (List Int)} {κ : Int} {l : List Int}
/-- A key, turned about. -/
def tw (κ : Int) : Int := if κ < 0 then κ else twi κ
theorem hit_iff {d : Int} {x : Wlk} : hitB d x = true ↔ x.1 = d ∨ d ∈ x.2 := by
  unfold hitB
  rw [Bool.or_eq_true, beq_iff_eq, decide_eq_true_eq]
theorem hit_mk (h : Turns g p T) (hκ : κ ∈ keysOf g p T) {x : Wlk} (hx : x ∈ walksOf g p (Rt.mir T)) : hitB (tw κ) x = true ↔ x.1 = mk g p T κ := by
  rcases mem_keys.1 hκ with ⟨v, hv, _, rfl⟩ | hf
  · have h0 := (v_nn h.right hv).1
    have hneg : -1 - v < 0 := by omega
    rw [mk_lone hneg, show tw (-1 - v) = -1 - v from if_pos hneg]
    exact ⟨fun hh => hit_lone h0 h.mir hx hh, fun e => hit_iff.2 (.inl e)⟩
  · have h0 := face_nn h hf
    obtain ⟨h1, h2⟩ := mk_face h hf
    have hP := nxt_perm h.mir
    have hm := hP.mem_faces.1 h1
    have ht := prs_twi ((nxt_perm h).mem_faces.1 hf).1
    have ht0 := ((mem_dart h.right).1 ht).1
    have hm0 := face_nn h.mir h1
    rw [show tw κ = twi κ from if_neg (by omega), hit_iff]
    rcases mem_walks.1 hx with ⟨v, hv, _, rfl⟩ | ⟨a, ha, rfl⟩
    · have := (v_nn h.right hv).1
      constructor
      · rintro (e | e)
        · have e' : -1 - v = twi κ := e
          omega
        · exact absurd e List.not_mem_nil
      · intro e
        have e' : -1 - v = mk g p T κ := e
        omega
    · have ha1 := hP.mem_faces.1 ha
      constructor
      · intro hh
        have hc : Conn (rel (prs p.e) (Rt.nxt g (Rt.mir T))) a (twi κ) := by
          rcases hh with e | e
          · have e' : a = twi κ := e
            rw [e']
            exact Conn.refl _ _
          · exact (hP.mem_orb ha1.1 (Nat.le_refl _)).1 e
        have hc2 := hc.trans h2
        exact Int.le_antisymm (ha1.2 _ hm.1 hc2) (hm.2 _ ha1.1 hc2.symm)
      · intro e
        have e' : a = mk g p T κ := e
        subst e'
        exact .inr ((hP.mem_orb ha1.1 (Nat.le_refl _)).2 h2.symm)

/-- What the document's loops find of one list: walk by walk, key by key. -/
def hits (L : List Wlk) (l : List Int) : List Int := L.flatMap fun x => (l.filter fun κ => hitB (tw κ) x).map fun _ => x.1
theorem one_hit (h : Turns g p T) (hk : ∀ κ ∈ l, κ ∈ keysOf g p T) (hn : l.Nodup) {x : Wlk} (hx : x ∈ walksOf g p (Rt.mir T)) :
    ((l.filter fun κ => hitB (tw κ) x).map fun _ => x.1) = if x.1 ∈ l.map (mk g p T) then [x.1] else [] := by
  have hr := ren h
  induction l with
  | nil => rfl
  | cons κ l ih =>
    have hkl : ∀ κ ∈ l, κ ∈ keysOf g p T := fun y hy => hk y (List.mem_cons_of_mem _ hy)
    have hnl := (List.nodup_cons.1 hn)
    have ih' := ih hkl hnl.2
    have hm := hit_mk h (hk κ (List.mem_cons_self ..)) hx
    by_cases e : x.1 = mk g p T κ
    · have hno : x.1 ∉ l.map (mk g p T) := fun hin => by
        obtain ⟨y, hy, ey⟩ := List.mem_map.1 hin
        have b1 := hr.back _ (hk κ (List.mem_cons_self ..))
        have b2 := hr.back _ (hkl y hy)
        rw [← e, ← ey, b2] at b1
        exact hnl.1 (b1 ▸ hy)
      rw [if_neg hno] at ih'
      rw [List.filter_cons_of_pos (p := fun κ => hitB (tw κ) x) (hm.2 e), List.map_cons, ih', if_pos (List.mem_map.2 ⟨κ, List.mem_cons_self .., e.symm⟩)]
    · rw [List.filter_cons_of_neg (p := fun κ => hitB (tw κ) x) (fun hh => e (hm.1 hh)), ih', List.map_cons]
      by_cases hin : x.1 ∈ l.map (mk g p T)
      · rw [if_pos hin, if_pos (List.mem_cons_of_mem _ hin)]
      · rw [if_neg hin, if_neg (fun hc => (List.mem_cons.1 hc).elim e hin)]
theorem hits_msort (h : Turns g p T) (hk : ∀ κ ∈ l, κ ∈ keysOf g p T) (hn : l.Nodup) : hits (walksOf g p (Rt.mir T)) l = msort (keysOf g p (Rt.mir T)) (mk g p T) l := by
  have key : ∀ L : List Wlk, (∀ x ∈ L, x ∈ walksOf g p (Rt.mir T)) → hits L l = msort (L.map (·.1)) (mk g p T) l := by
    intro L
    induction L with
    | nil => exact fun _ => rfl
    | cons x L ih =>
      intro hL
      have e1 := one_hit h hk hn (hL x (List.mem_cons_self ..))
      have e2 := ih fun y hy => hL y (List.mem_cons_of_mem _ hy)
      unfold hits msort at e2 ⊢
      rw [List.flatMap_cons, e1, e2, List.map_cons]
      by_cases hin : x.1 ∈ l.map (mk g p T)
      · rw [if_pos hin, List.filter_cons_of_pos (by simpa using hin)]
        rfl
      · rw [if_neg hin, List.filter_cons_of_neg (by simpa using hin)]
        rfl
  exact key _ fun _ hx => hx
end Go.Proofs.YtmbpmepoaonleaaGreat.Pl

/-! What the document's Mirror has found on its way through the walks and the lists (plain mathematics). -/
namespace Go.Proofs.YtmbpmepoaonleaaGreat.Pl
open Go.Proofs.YtmbpmepoaonleaaGreat Go.Proofs.YtmbpmepoaonleaaGreat.Fc Go.Proofs.YtmbpmepoaonleaaGreat.Rt Go.RowKit Go.Maps

variable {ms l : List Int} {U S : List (List Int)} {L : List Wlk} {i k j n : Nat} {φ : Int → Int}
/-- One of the walks, or none. -/
def wkAt (L : List Wlk) (j : Nat) : Wlk := L.getD j (0, [])
theorem wkAt_of (h : j < L.length) : wkAt L j = L[j] := by unfold wkAt; simp [h]
/-- A walk's key, as often as keys of the list meet it, among the first ones. -/
def oneTo (x : Wlk) (l : List Int) (n : Nat) : List Int := ((l.take n).filter fun κ => hitB (tw κ) x).map fun _ => x.1
theorem oneTo_zero (x : Wlk) (l : List Int) : oneTo x l 0 = [] := by simp [oneTo]
theorem oneTo_yes {x : Wlk} (h : n < l.length) (hh : hitB (tw (getI l n)) x = true) : oneTo x l (n + 1) = oneTo x l n ++ [x.1] := by
  unfold oneTo
  rw [List.take_add_one, List.getElem?_eq_getElem h, ← getI_of _ _ h, List.filter_append, List.map_append]
  congr 1
  simp [hh]
theorem oneTo_no {x : Wlk} (h : n < l.length) (hh : hitB (tw (getI l n)) x = false) : oneTo x l (n + 1) = oneTo x l n := by
  unfold oneTo
  rw [List.take_add_one, List.getElem?_eq_getElem h, ← getI_of _ _ h, List.filter_append, List.map_append]
  simp [hh]
theorem oneTo_len (x : Wlk) (l : List Int) (n : Nat) : (oneTo x l n).length ≤ l.length := by
  unfold oneTo
  rw [List.length_map]
  exact Nat.le_trans (List.length_filter_le _ _) (by rw [List.length_take]; omega)
/-- All that the walks ahead gave, and this walk so far. -/
def hitTo (L : List Wlk) (l : List Int) (j n : Nat) : List Int := hits (L.take j) l ++ oneTo (wkAt L j) l n
theorem hitTo_zero (L : List Wlk) (l : List Int) : hitTo L l 0 0 = [] := by simp [hitTo, hits, oneTo_zero]
theorem hitTo_yes (h : n < l.length) (hh : hitB (tw (getI l n)) (wkAt L j) = true) : hitTo L l j (n + 1) = hitTo L l j n ++ [(wkAt L j).1] := by
  unfold hitTo
  rw [oneTo_yes h hh, List.append_assoc]
theorem hitTo_no (h : n < l.length) (hh : hitB (tw (getI l n)) (wkAt L j) = false) : hitTo L l j (n + 1) = hitTo L l j n := by
  unfold hitTo
  rw [oneTo_no h hh]
theorem hitTo_next (h : j < L.length) : hitTo L l (j + 1) 0 = hitTo L l j l.length := by
  unfold hitTo
  rw [oneTo_zero, List.append_nil, List.take_add_one, List.getElem?_eq_getElem h]
  unfold hits oneTo
  rw [List.flatMap_append, List.take_length, wkAt_of h]
  simp
theorem hitTo_all (L : List Wlk) (l : List Int) : hitTo L l L.length 0 = hits L l := by
  unfold hitTo
  rw [oneTo_zero, List.append_nil, List.take_length]
theorem hits_len : ∀ (L : List Wlk) (l : List Int), (hits L l).length ≤ L.length * l.length
  | [], _ => by simp [hits]
  | x :: L, l => by
    have h := hits_len L l
    have e : hits (x :: L) l = oneTo x l l.length ++ hits L l := by unfold hits oneTo; rw [List.take_length]; rfl
    have h1 := oneTo_len x l l.length
    rw [e, List.length_append, List.length_cons, Nat.add_mul]
    omega
theorem hitTo_len (h : j ≤ L.length) : (hitTo L l j n).length ≤ (L.length + 1) * l.length := by
  unfold hitTo
  rw [List.length_append]
  have h1 := hits_len (L.take j) l
  have h2 := oneTo_len (wkAt L j) l n
  have h3 : (L.take j).length * l.length ≤ L.length * l.length := Nat.mul_le_mul_right _ (by rw [List.length_take]; omega)
  rw [Nat.add_mul]
  omega
/-- A list that begins with a key. -/
def begB (y : Int) (l : List Int) : Bool := decide (0 < l.length) && (getI l 0 == y)
/-- The lists laid so far: of the keys ahead all that begin so, of this key those among the first lists. -/
def sameTo (ms : List Int) (U : List (List Int)) (i k : Nat) : List (List Int) := ((ms.take i).flatMap fun y => U.filter (begB y)) ++ (U.take k).filter (begB (getI ms i))
theorem sameTo_zero (ms : List Int) (U : List (List Int)) : sameTo ms U 0 0 = [] := by simp [sameTo]
theorem sameTo_yes (h : k < U.length) (hh : begB (getI ms i) (getT U k) = true) : sameTo ms U i (k + 1) = sameTo ms U i k ++ [getT U k] := by
  unfold sameTo
  rw [List.take_add_one, List.getElem?_eq_getElem h, ← getT_of _ _ h, List.filter_append, List.append_assoc]
  congr 2
  simp [hh]
theorem sameTo_no (h : k < U.length) (hh : begB (getI ms i) (getT U k) = false) : sameTo ms U i (k + 1) = sameTo ms U i k := by
  unfold sameTo
  rw [List.take_add_one, List.getElem?_eq_getElem h, ← getT_of _ _ h, List.filter_append]
  simp [hh]
theorem sameTo_next (h : i < ms.length) : sameTo ms U (i + 1) 0 = sameTo ms U i U.length := by
  unfold sameTo
  rw [List.take_zero, List.filter_nil, List.append_nil, List.take_add_one, List.getElem?_eq_getElem h, List.flatMap_append, List.take_length, getI_of _ _ h]
  simp
theorem sameTo_all (ms : List Int) (φ : Int → Int) (S : List (List Int)) : sameTo ms (S.map (msort ms φ)) ms.length 0 = mirS ms φ S := by
  unfold sameTo mirS
  rw [List.take_zero, List.filter_nil, List.append_nil, List.take_length]
  rfl
theorem beg_len : ∀ (ms : List Int) (U : List (List Int)), (ms.flatMap fun y => U.filter (begB y)).length ≤ ms.length * U.length
  | [], _ => by simp
  | y :: ms, U => by
    have h := beg_len ms U
    have h1 : (U.filter (begB y)).length ≤ U.length := List.length_filter_le _ _
    rw [List.flatMap_cons, List.length_append, List.length_cons, Nat.add_mul]
    omega
theorem sameTo_len (h : i ≤ ms.length) : (sameTo ms U i k).length ≤ (ms.length + 1) * U.length := by
  unfold sameTo
  rw [List.length_append]
  have h1 := beg_len (ms.take i) U
  have h2 : ((U.take k).filter (begB (getI ms i))).length ≤ U.length := Nat.le_trans (List.length_filter_le _ _) (by rw [List.length_take]; omega)
  have h3 : (ms.take i).length * U.length ≤ ms.length * U.length := Nat.mul_le_mul_right _ (by rw [List.length_take]; omega)
  rw [Nat.add_mul]
  omega
end Go.Proofs.YtmbpmepoaonleaaGreat.Pl

/-! What the document's Mirror keeps in memory while it lays its lists: the plan's variable, the lists, the walks. -/
namespace Go.Proofs.YtmbpmepoaonleaaGreat.Pl
open Go.Proofs.YtmbpmepoaonleaaGreat Go.Proofs.YtmbpmepoaonleaaGreat.Fc Go.Proofs.YtmbpmepoaonleaaGreat.Rt Go.RowKit Go.Maps

variable {w2 w3 w4 wr w' : World} {B : Nat} {tv Sv Sv' : Value} {us us' : List Value} {X X' : List (List Int)}
/-- From w2 on: a variable of two cells at B (w2's end), the walks (between w3 and w4), and lists of the call's own behind w4. -/
structure MS (w2 w3 w4 wr : World) (B : Nat) (tv Sv : Value) (us : List Value) (X : List (List Int)) : Prop where
  bel : Below w2.heap.size w2 wr
  box : Box wr B tv Sv
  same : Made wr w4.heap.size Sv us X
  rest : ∀ g, w3.heap.size ≤ g → g < w4.heap.size → wr.heap[g]? = w4.heap[g]?
  size : w4.heap.size ≤ wr.heap.size
theorem MS.below (h : MS w2 w3 w4 wr B tv Sv us X) (hb : Below wr.heap.size wr w') : MS w2 w3 w4 w' B tv Sv us X where
  bel := trans2 h.bel hb
  box := h.box.below hb
  same := h.same.below hb
  rest := fun g h1 h2 => (hb.block g (Nat.lt_of_lt_of_le h2 h.size)).trans (h.rest g h1 h2)
  size := Nat.le_trans h.size hb.size
theorem MS.put (h : MS w2 w3 w4 wr B tv Sv us X) (h2 : w2.heap.size ≤ B) (h3 : B < w3.heap.size) (h4 : w3.heap.size ≤ w4.heap.size) (hM : Made w' w4.heap.size Sv' us' X') (hb : Below w4.heap.size wr w') : MS w2 w3 w4 (w'.setCell ⟨B, 1, none⟩ Sv') B tv Sv' us' X' where
  bel := (h.bel.trans (hb.mono (by omega))).setCell (p := ⟨B, 1, none⟩) h2 _
  box := (Box.belowN h.box hb (by omega)).store1 _
  same := Made.set hM (by omega) 1 Sv'
  rest := fun g h1 h2 => (Below.heap_setCell _ _ _ _ (by show g ≠ B; omega)).trans ((hb.block g h2).trans (h.rest g h1 h2))
  size := by
    have h5 := hb.size
    have h6 := h.size
    simp only [World.setCell, Array.size_modify]
    omega

/-! ### What its loops find -/

variable {g : Gph} {p : Prt} {T S : List (List Int)} {k : Nat}
/-- The lists as they are in the mirror, each in its order. -/
def mirU (g : Gph) (p : Prt) (T S : List (List Int)) : List (List Int) := S.map (msort (keysOf g p (Rt.mir T)) (mk g p T))
theorem mirU_len (g : Gph) (p : Prt) (T S : List (List Int)) : (mirU g p T S).length = S.length := List.length_map _
theorem mirU_hits (h : Turns g p T) (hS : Lists (keysOf g p T) S) (hk : k < S.length) : hits (walksOf g p (Rt.mir T)) (getT S k) = getT (mirU g p T S) k := by
  have hm : getT S k ∈ S := getT_mem hk
  rw [hits_msort h (fun κ hκ => hS.keys _ hm κ hκ) (up_nodup (hS.up _ hm)), getT_of (mirU g p T S) k (by rw [mirU_len]; exact hk), getT_of S k hk]
  unfold mirU
  rw [List.getElem_map]
theorem mirU_end (g : Gph) (p : Prt) (T S : List (List Int)) : sameTo ((walksOf g p (Rt.mir T)).map (·.1)) (mirU g p T S) (walksOf g p (Rt.mir T)).length 0 = mirP g p T S := by
  have h := sameTo_all (keysOf g p (Rt.mir T)) (mk g p T) S
  have hl : (keysOf g p (Rt.mir T)).length = (walksOf g p (Rt.mir T)).length := by unfold keysOf; rw [List.length_map]
  rw [hl] at h
  exact h
theorem rtwin (k : Nat) (w : World) (hk : k ≤ 4000000) : Calls Tryz.prog 54 #[.int .i64 (k : Int)] w fun e w' => e = .returned (.int .i64 (twi (k : Int))) ∧ w = w' := by
  rw [twi_nat]
  exact twin_any k w hk
theorem fst_at (L : List Wlk) {i : Nat} (h : i < L.length) : getI (L.map (·.1)) i = (wkAt L i).1 := by
  rw [getI_of _ _ (by rw [List.length_map]; exact h), wkAt_of h, List.getElem_map]
end Go.Proofs.YtmbpmepoaonleaaGreat.Pl

/-! The document's Mirror: its turns. -/
namespace Go.Proofs.YtmbpmepoaonleaaGreat.Pl
open Go.Proofs.YtmbpmepoaonleaaGreat Go.Proofs.YtmbpmepoaonleaaGreat.Fc Go.Proofs.YtmbpmepoaonleaaGreat.Rt Go.RowKit Go.Maps

variable {g : Gph} {p : Prt} {T S : List (List Int)} {w w' : World}
def mrTo (T : List (List Int)) (k : Nat) : List (List Int) := (T.take k).map List.reverse
theorem mrTo_zero (T : List (List Int)) : mrTo T 0 = [] := by simp [mrTo]
theorem mrTo_succ {k : Nat} (h : k < T.length) : mrTo T (k + 1) = mrTo T k ++ [(getT T k).reverse] := by
  unfold mrTo
  rw [take_getT T k h, List.map_append]
  rfl
theorem mrTo_len {k : Nat} (h : k ≤ T.length) : (mrTo T k).length = k := by unfold mrTo; rw [List.length_map, List.length_take]; omega
theorem mrTo_all (T : List (List Int)) : mrTo T T.length = mir T := by unfold mrTo mir; rw [List.take_length]
/-- What lies behind a place, turned about. -/
def rvFrom (l : List Int) (z : Int) : List Int := (l.drop (z + 1).toNat).reverse
theorem rvFrom_start (l : List Int) : rvFrom l ((l.length : Int) - 1) = [] := by
  unfold rvFrom
  rw [show ((l.length : Int) - 1 + 1).toNat = l.length by omega, List.drop_length]
  rfl
theorem rvFrom_step {l : List Int} {j : Nat} (h : j < l.length) : rvFrom l ((j : Int) - 1) = rvFrom l j ++ [getI l j] := by
  unfold rvFrom
  rw [show ((j : Int) - 1 + 1).toNat = j by omega, show ((j : Int) + 1).toNat = j + 1 by omega, List.drop_eq_getElem_cons h, List.reverse_cons, getI_of _ _ h]
theorem rvFrom_end (l : List Int) : rvFrom l (-1) = l.reverse := rfl
theorem rvFrom_len {l : List Int} {z : Int} : (rvFrom l z).length ≤ l.length := by
  unfold rvFrom
  rw [List.length_reverse, List.length_drop]
  omega

set_option maxRecDepth 100000 in
set_option maxHeartbeats 16000000 in
theorem rmirror_any (v u x : Value) (w : World) (h : Gr w v g) (h' : Pt w u p) (hx : Pn w x T S) (hT : Turns g p T) (hS : Lists (keysOf g p T) S) (hl : g.e.length ≤ 60) (hn : g.n ≤ 100000) (hp1 : p.v.length ≤ 60) (hp2 : p.e.length ≤ 60) (hlT : T.length ≤ 100) (hr : ∀ j, (getT T j).length ≤ 200) (hlS : S.length ≤ 60) (hrS : ∀ j, (getT S j).length ≤ 60) :
    Calls Tryz.prog 23 #[v, u, x] w fun e w' => ∃ r, e = .returned r ∧ Pn w' r (mirF T) (mirP g p T S) ∧ Below w.heap.size w w' := by
  have HG := Lib.hid h
  have HP := Lib.hid h'
  have HX := Lib.hid hx
  obtain ⟨ve, rfl, h1⟩ := h
  obtain ⟨vv, vp, rfl, h2, h3⟩ := h'
  obtain ⟨vT, vS, rfl, h4, h5⟩ := hx
  obtain ⟨Ae, ce, rfl⟩ := h1.form
  obtain ⟨Av, cv, rfl⟩ := ints_form h2
  obtain ⟨Ap, cp, rfl⟩ := ints_form h3
  obtain ⟨AT, cT, rfl, _, _⟩ := h4.form
  obtain ⟨AS, cS, rfl, _, _⟩ := h5.form
  obtain ⟨b1, b2, b3, hm⟩ := three_boxes w (.int .i64 g.n) (.slice Ae g.e.length ce) (.slice Av p.v.length cv) (.slice Ap p.e.length cp) (.slice AT T.length cT) (.slice AS S.length cS) 24 27 30
  have HB1 := Lib.hid b1
  have HB2 := Lib.hid b2
  have HB3 := Lib.hid b3
  have HM := Lib.hid hm
  have HG1 := Lib.hid (HG.out.below hm)
  have HP1 := Lib.hid (HP.out.below hm)
  have HTL := Lib.hid (h4.below hm)
  have HSL := Lib.hid (h5.below hm)
  have HTU := Lib.hid hT
  have HKS := Lib.hid hS
  clear b1 b2 b3 hm h1 h2 h3 h4 h5 HG HP HX hT hS
  go_enter Tryz.func23, Tryz.ntmps23
  go_wp2
  generalize hw0 : ((w.alloc (.cells #[.int .i64 g.n, .slice Ae g.e.length ce] 24)).alloc (.cells #[.slice Av p.v.length cv, .slice Ap p.e.length cp] 27)).alloc (.cells #[.slice AT T.length cT, .slice AS S.length cS] 30) = w0 at *
  have hs0 : w0.heap.size = w.heap.size + 1 + 1 + 1 := by rw [← hw0]; simp
  obtain ⟨b4, hm4⟩ := one_box w0 (.slice none 0 0) (.slice none 0 0) 30
  rw [hs0] at b4
  have hsz : (w0.alloc (.cells #[.slice none 0 0, .slice none 0 0] 30)).heap.size = w.heap.size + 1 + 1 + 1 + 1 := by rw [World.size_alloc, hs0]
  have HB4 := Lib.hid b4
  have HB1 := Lib.hid (HB1.out.below hm4)
  have HB2 := Lib.hid (HB2.out.below hm4)
  have HB3 := Lib.hid (HB3.out.below hm4)
  have HM := Lib.hid (trans2 HM.out hm4)
  have HG1 := Lib.hid (HG1.out.below hm4)
  have HP1 := Lib.hid (HP1.out.below hm4)
  have HTL := Lib.hid (HTL.out.below hm4)
  have HSL := Lib.hid (HSL.out.below hm4)
  clear b4 hm4 hw0 hs0
  generalize w0.alloc (.cells #[.slice none 0 0, .slice none 0 0] 30) = w1 at *
  have HSZ := Lib.hid hsz
  clear hsz
  go_loopw [7, 8] (fun o i wr => ∃ k us, k ≤ T.length ∧ i = .int .i64 (k : Nat) ∧ Hid (Below w1.heap.size w1 wr) ∧ Hid (Made wr w1.heap.size o us (mrTo T k))) (fun _ i _ => T.length - (Go.RowKit.intOf i).toNat)
  case atStart => exact ⟨0, [], Nat.zero_le _, rfl, Lib.hid (Below.refl _ _), Lib.hid (by rw [mrTo_zero]; exact Made.start _ _)⟩
  case round =>
    obtain ⟨k, us, hk, rfl, hB, hM⟩ := hrel
    rename_i o wr
    obtain ⟨wo, hwo⟩ : ∃ z, z = wr := ⟨_, rfl⟩
    subst hwo
    have e0 := (HB3.out.below hB.out).c0
    by_cases hlt : k < T.length
    · obtain ⟨b, off, rfl, hb, A1, c1, hck, hi⟩ := (HTL.out.below hB.out).get hlt
      have HI := Lib.hid hi
      have HTS := Lib.hid (mrTo_succ hlt)
      have HN := Lib.hid (show (mrTo T k).length ≤ 1000000 by rw [mrTo_len hk]; omega)
      have hll := hr k
      have HE0 := Lib.hid e0
      have HCK := Lib.hid hck
      clear hi
      generalize getT T k = l at *
      go_wp2
      clear e0 hck
      go_loopw [9, 10] (fun o2 i wr => ∃ z : Int, -1 ≤ z ∧ z < l.length ∧ i = .int .i64 z ∧ Hid (Row wr wo.heap.size o2 (rvFrom l z)) ∧ Hid (Below wo.heap.size wo wr)) (fun _ i _ => (Go.RowKit.intOf i + 1).toNat)
      case atStart => exact ⟨(l.length : Int) - 1, by omega, by omega, rfl, Lib.hid (by rw [rvFrom_start]; exact Row.nil _ _), Lib.hid (Below.refl _ _)⟩
      case round =>
        obtain ⟨z, hz0, hz1, rfl, hR, hB2⟩ := hrel
        rename_i o2 wr
        by_cases hz : 0 ≤ z
        · obtain ⟨j, rfl⟩ : ∃ j : Nat, z = (j : Int) := ⟨z.toNat, by omega⟩
          have hjl : j < l.length := by omega
          obtain ⟨ub, uo, rfl, hub, huc⟩ := ints_at (HI.out.below hB2.out) hjl
          have e0 := (HB3.out.below (hB.out.trans (hB2.out.mono hB.out.size))).c0
          have hck := (hB2.out.cell (p := ⟨b, off + k, none⟩) (World.block_lt_of_cell? wo _ HCK.out)).trans HCK.out
          have HST := Lib.hid (rvFrom_step hjl)
          have HLE := Lib.hid (show (rvFrom l (j : Int)).length ≤ 4000000 from Nat.le_trans rvFrom_len (by omega))
          have HSZ2 := Lib.hid hB2.out.size
          obtain ⟨Aq, cq, rfl⟩ := ints_form hR.out.ints
          clear hub hz
          generalize getI l j = y at *
          go_wp2_with (at_builtin; refine wpList_append1 rfl _ _ rfl rfl rfl hR.out HSZ2.out HLE.out ?_)
          intro v7 w7 hR7 hB7
          rw [← HST.out] at hR7
          have HR7 := Lib.hid hR7
          have HB7 := Lib.hid (hB2.out.trans hB7)
          obtain ⟨A7, c7, hv7⟩ := ints_form hR7.ints
          subst hv7
          clear hR7 hB7 hR hB2 HLE HSZ2 HST huc e0 hck
          go_wp2
          go_roundw
          case rel => exact ⟨(j : Int) - 1, by omega, by omega, by go_num, HR7, HB7⟩
          case measure => simp [Go.RowKit.intOf]
        · obtain rfl : z = -1 := by omega
          rw [rvFrom_end] at hR
          have HU := Lib.hid (Row.le hR.out hB.out.size)
          have HB1' := Lib.hid (hB.out.trans (hB2.out.mono hB.out.size))
          have HM1 := Lib.hid (hM.out.below hB2.out)
          obtain ⟨Au, cu, rfl⟩ := ints_form hR.out.ints
          obtain ⟨Ao, co, hso⟩ := hM.out.shape
          subst hso
          clear hR hB2
          generalize l.reverse = fl at *
          go_wp2_with (at_builtin; refine wpList_append_list rfl _ _ rfl rfl rfl HM1.out HU.out HB1'.out.size HN.out ?_; intro v' us' w2 hM2 hG2 hB2)
          have HM2 := Lib.hid hM2
          have HB2' := Lib.hid (HB1'.out.trans hB2)
          obtain ⟨Av', cv', hsv⟩ := hM2.shape
          subst hsv
          clear hM2 hG2 hB2
          go_wp2
          go_roundw
          case rel => exact ⟨k + 1, _, by omega, by go_num, HB2', Lib.hid (by rw [HTS.out]; exact HM2.out)⟩
          case measure => simp [Go.RowKit.intOf]; omega
    · obtain rfl : k = T.length := by omega
      rw [mrTo_all] at hM
      have HMR := Lib.hid hM.out.reads
      obtain ⟨Ao, co, hso⟩ := hM.out.shape
      have hlm : (mir T).length = T.length := by unfold mir; exact List.length_map _
      rw [hlm] at hso
      subst hso
      have e0 := (HB3.out.below hB.out).c0
      have hlmT : (mir T).length ≤ 1000000 := by omega
      have hrM : ∀ j, (getT (mir T) j).length ≤ 1000000 := fun j => by rw [getT_mir, List.length_reverse]; exact Nat.le_trans (hr j) (by decide)
      have HF1 := Lib.hid (r6First_any (.slice Ao T.length co) (mir T) wo HMR.out hlmT hrM)
      have HBW := Lib.hid hB.out
      have HRM := Lib.hid hrM
      clear hB hM hlm hlmT hrM
      go_wp2_with fail
      refine HF1.out.mono ?_
      clear HF1 e0
      rintro e w2 ⟨vf, uf, rfl, hMf, hB2⟩
      obtain ⟨Af, cf, rfl⟩ := hMf.shape
      have hlf : ((mir T).map fst).length = T.length := by rw [List.length_map, mir, List.length_map]
      rw [hlf] at hMf ⊢
      have HMF := Lib.hid (show Made w2 wo.heap.size (.slice Af T.length cf) uf (mirF T) from hMf)
      obtain ⟨o1, o2⟩ := one_box w2 (.slice Af T.length cf) (.slice none 0 0) 30
      have HBP := Lib.hid o1
      have HB3' := Lib.hid (trans2 (trans2 HBW.out hB2) o2)
      have HBP2 := Lib.hid o2
      have HB12 := Lib.hid (trans2 HBW.out hB2)
      have HMF3 := Lib.hid (HMF.out.below o2)
      have HMR3 := Lib.hid ((HMR.out.below hB2).below o2)
      have c0 := (HB1.out.below HB3'.out).c0
      have c1 := (HB1.out.below HB3'.out).c1
      have d0 := (HB2.out.below HB3'.out).c0
      have d1 := (HB2.out.below HB3'.out).c1
      clear hMf hlf o1 o2 hB2
      go_wp2_with fail
      have hs3 : (w2.alloc (.cells #[.slice Af T.length cf, .slice none 0 0] 30)).heap.size = w2.heap.size + 1 := World.size_alloc _ _
      have HS3 := Lib.hid hs3
      clear hs3
      generalize w2.alloc (.cells #[.slice Af T.length cf, .slice none 0 0] 30) = w3 at *
      have HWK := Lib.hid (rwalks_any _ _ (.slice Ao T.length co) g p (mir T) w3 (HG1.out.below HB3'.out) (HP1.out.below HB3'.out) HMR3.out HTU.out.mir (by omega) (by omega) (by omega) hn HRM.out)
      refine HWK.out.mono ?_
      clear HWK c0 c1 d0 d1
      rintro e w4 ⟨mw, usw, rfl, hTw, hB4⟩
      obtain ⟨Aw, cw, rfl⟩ := hTw.shape
      rw [List.length_map] at hTw ⊢
      have HTW4 := Lib.hid hTw
      have HS34 := Lib.hid hB4.size
      have hU := mirU_len g p T S
      have hLL := walksOf_len g p (mir T)
      have HHT := Lib.hid (fun k (hk : k < S.length) => mirU_hits HTU.out HKS.out hk)
      have HEND := Lib.hid (mirU_end g p T S)
      have HLL := Lib.hid (show (walksOf g p (mir T)).length ≤ 180 by omega)
      have HD2 := Lib.hid (fun (x : Wlk) (hx : x ∈ walksOf g p (mir T)) => show x.2.length ≤ 1000000 from by
        rcases walk_facts HTU.out.mir hx with ⟨h, _⟩ | ⟨_, _, _, _, _, h⟩
        · rw [h]; exact Nat.zero_le _
        · omega)
      have HRW := Lib.hid hrS
      have HKW := Lib.hid (fun (k : Nat) (hk : k < S.length) (n : Nat) (hnk : n < (getT S k).length) => key_range HTU.out (by omega) hn (HKS.out.keys _ (getT_mem hk) _ ((mem_getI _ _).2 ⟨n, hnk, rfl⟩)))
      have HMS := Lib.hid (show MS w2 w3 w4 w4 w2.heap.size (.slice Af T.length cf) (.slice none 0 0) [] (sameTo ((walksOf g p (mir T)).map (·.1)) (mirU g p T S) 0 0) from ⟨trans2 HBP2.out hB4, HBP.out.below hB4, by rw [sameTo_zero]; exact Made.start _ _, fun _ _ _ => rfl, Nat.le_refl _⟩)
      have HFA := Lib.hid (fun i (h : i < (walksOf g p (mir T)).length) => fst_at (walksOf g p (mir T)) h)
      have HML := Lib.hid (show ((walksOf g p (mir T)).map (·.1)).length = (walksOf g p (mir T)).length from List.length_map _)
      have HUL := Lib.hid hU
      clear hTw hB4 hU hLL hr hrS HKS HMR HMR3 HBP HB3' HRM
      generalize (walksOf g p (mir T)).map (·.1) = ms at *
      generalize walksOf g p (mir T) = L at *
      generalize mirU g p T S = U at *
      go_wp2
      go_loopw [13] (fun i wr => ∃ (i0 : Nat) (Sv : Value) (us : List Value), i0 ≤ L.length ∧ i = .int .i64 (i0 : Nat) ∧ Hid (MS w2 w3 w4 wr w2.heap.size (.slice Af T.length cf) Sv us (sameTo ms U i0 0))) (fun i _ => L.length - (Go.RowKit.intOf i).toNat)
      case atStart => exact ⟨0, _, _, Nat.zero_le _, rfl, HMS⟩
      case round =>
        obtain ⟨i0, Sv, us, hi0, rfl, hM⟩ := hrel
        obtain ⟨wi, hwi⟩ : ∃ z, z = wr := ⟨_, rfl⟩
        subst hwi
        by_cases hit : i0 < L.length
        · have hLL5 := HLL.out
          go_wp2
          go_loopw [14] (fun i wr => ∃ (k : Nat) (Sv : Value) (us : List Value), k ≤ S.length ∧ i = .int .i64 (k : Nat) ∧ Hid (MS w2 w3 w4 wr w2.heap.size (.slice Af T.length cf) Sv us (sameTo ms U i0 k))) (fun i _ => S.length - (Go.RowKit.intOf i).toNat)
          case atStart => exact ⟨0, Sv, us, Nat.zero_le _, rfl, hM⟩
          case round =>
            clear hM
            obtain ⟨k, Sv, us, hk, rfl, hM⟩ := hrel
            obtain ⟨wk, hwk⟩ : ∃ z, z = wr := ⟨_, rfl⟩
            subst hwk
            have HWK1 := Lib.hid (trans2 HB12.out hM.out.bel)
            have e1 := (HB3.out.below HWK1.out).c1
            by_cases hkt : k < S.length
            · obtain ⟨b, off, rfl, hb, A1, c1, hck1, hi⟩ := HSL.out.get hkt
              have hck := (HWK1.out.cell (p := ⟨b, off + k, none⟩) hb).trans hck1
              have HCK1 := Lib.hid hck1
              have HIB := Lib.hid hb
              have HI := Lib.hid hi
              have HTWk := Lib.hid ((HTW4.out.same hM.out.rest).reads)
              have HKT := Lib.hid hkt
              have hrk := HRW.out k
              have hlS5 := hlS
              obtain ⟨nl, hnl⟩ : ∃ z, z = (getT S k).length := ⟨_, rfl⟩
              rw [← hnl] at hck HI HCK1 hrk
              have HNL := Lib.hid hnl
              clear hi hnl hck1
              go_wp2
              go_loopw [15, 16] (fun lv i wr => ∃ j : Nat, j ≤ L.length ∧ i = .int .i64 (j : Nat) ∧ Hid (Row wr wk.heap.size lv (hitTo L (getT S k) j 0)) ∧ Hid (Below wk.heap.size wk wr)) (fun _ i _ => L.length - (Go.RowKit.intOf i).toNat)
              case atStart => exact ⟨0, Nat.zero_le _, rfl, Lib.hid (by rw [hitTo_zero]; exact Row.nil _ _), Lib.hid (Below.refl _ _)⟩
              case round =>
                obtain ⟨j, hj, rfl, hR, hB⟩ := hrel
                obtain ⟨wj, hwj⟩ : ∃ z, z = wr := ⟨_, rfl⟩
                subst hwj
                by_cases hjt : j < L.length
                · have HJX := Lib.hid (hitTo_next (l := getT S k) hjt)
                  have hjt5 := Lib.hid hjt
                  clear e1 hck
                  go_wp2
                  go_loopw [15, 17] (fun lv i wr => ∃ n : Nat, n ≤ nl ∧ i = .int .i64 (n : Nat) ∧ Hid (Row wr wk.heap.size lv (hitTo L (getT S k) j n)) ∧ Hid (Below wk.heap.size wk wr)) (fun _ i _ => nl - (Go.RowKit.intOf i).toNat)
                  case atStart => exact ⟨0, Nat.zero_le _, rfl, hR, hB⟩
                  case round =>
                    clear hR hB
                    obtain ⟨n, hnn, rfl, hR, hB⟩ := hrel
                    obtain ⟨wn, hwn⟩ : ∃ z, z = wr := ⟨_, rfl⟩
                    subst hwn
                    have HWN1 := Lib.hid (trans2 HWK1.out hB.out)
                    have e1 := (HB3.out.below HWN1.out).c1
                    have hck := (HWN1.out.cell (p := ⟨b, off + k, none⟩) HIB.out).trans HCK1.out
                    by_cases hnt : n < nl
                    · have hnl : n < (getT S k).length := by have := HNL.out; omega
                      obtain ⟨ub, uo, hA1, hub, huc⟩ := ints_at HI.out hnl
                      subst hA1
                      replace huc := (HWN1.out.cell (p := ⟨ub, uo + n, none⟩) hub).trans huc
                      obtain ⟨mb, hAw, hmb, hw0, W0, x0, hv0, hdr⟩ := TwoL.walk (HTWk.out.below hB.out) hjt
                      subst hAw
                      have hd2 := HD2.out _ (List.getElem_mem hjt)
                      rw [← wkAt_of hjt] at hw0 hv0 hdr hd2
                      have hkr := HKW.out k HKT.out n hnl
                      obtain ⟨Aq, cq, hlv⟩ := ints_form hR.out.ints
                      subst hlv
                      have hnt5 := hnt
                      have hn60 : n ≤ 60 := by omega
                      have hj180 : j ≤ 180 := by omega
                      have hk60 : k ≤ 60 := by omega
                      generalize hy : getI (getT S k) n = y at *
                      replace hy := Lib.hid hy
                      obtain ⟨nd, hnd⟩ : ∃ z, z = (wkAt L j).2.length := ⟨_, rfl⟩
                      rw [← hnd] at hv0 hdr
                      clear hnd
                      clear hub hmb
                      by_cases h0 : 0 ≤ y
                      · obtain ⟨d, hd⟩ : ∃ d : Nat, y = d := ⟨y.toNat, by omega⟩
                        have HTK := Lib.hid (show tw y = twi (d : Int) by rw [hd]; exact if_neg (by omega))
                        have hd4 : d ≤ 4000000 := by omega
                        have t0 : decide (0 ≤ y) = true := decide_eq_true h0
                        subst hd
                        have t0' : decide ((0 : Int) ≤ (d : Int)) = true := t0
                        have HTW := Lib.hid (rtwin d wn hd4)
                        clear h0
                        go_wp2_with fail
                        refine HTW.out.mono ?_
                        rintro e w8 ⟨rfl, hw8⟩
                        subst hw8
                        generalize twi (d : Int) = z at *
                        generalize hyd : (d : Int) = y at *
                        clear t0 t0' HTW
                        by_cases hx : (wkAt L j).1 = z
                        · have t1 : ((wkAt L j).1 == z) = true := beq_iff_eq.2 hx
                          have HH := Lib.hid (show hitB (tw y) (wkAt L j) = true by rw [HTK.out]; unfold hitB; rw [t1]; rfl)
                          clear hx
                          have HMT := Lib.hid (show hitTo L (getT S k) j (n + 1) = hitTo L (getT S k) j n ++ [(wkAt L j).1] from hitTo_yes hnl (by rw [hy.out]; exact HH.out))
                          have HLE := Lib.hid (show (hitTo L (getT S k) j n).length ≤ 4000000 from Nat.le_trans (hitTo_len (Nat.le_of_lt hjt5.out)) (Nat.le_trans (Nat.mul_le_mul (show L.length + 1 ≤ 200 by have := HLL.out; omega) (show (getT S k).length ≤ 60 from HRW.out k)) (by decide)))
                          have HSZ := Lib.hid hB.out.size
                          clear hnl HH
                          generalize (wkAt L j).1 = xk at *
                          go_wp2_with (at_builtin; refine wpList_append1 rfl _ _ rfl rfl rfl hR.out HSZ.out HLE.out ?_)
                          intro v7 w7 hR7 hB7
                          rw [← HMT.out] at hR7
                          have HR7 := Lib.hid hR7
                          have HB7 := Lib.hid (hB.out.trans hB7)
                          obtain ⟨A7, c7, hv7⟩ := ints_form hR7.ints
                          subst hv7
                          clear hR7 hB7 hR hB e1 hck huc hw0 hv0
                          go_wp2
                          go_roundw
                          case rel => exact ⟨n + 1, by omega, by go_num, HR7, HB7⟩
                          case measure => simp [Go.RowKit.intOf]; omega
                        · have t1 : ((wkAt L j).1 == z) = false := beq_eq_false_iff_ne.2 hx
                          have HIN := Lib.hid (fun (W : World) (hW : Below wn.heap.size wn W) => in_any _ (wkAt L j).2 (z) W (hdr.below hW) hd2)
                          clear hx
                          go_wp2_with fail
                          refine (HIN.out _ (Below.refl _ _)).mono ?_
                          rintro e w8 ⟨rfl, hw8⟩
                          subst hw8
                          by_cases hm : z ∈ (wkAt L j).2
                          · have HH := Lib.hid (show hitB (tw y) (wkAt L j) = true by rw [HTK.out]; unfold hitB; rw [decide_eq_true hm]; simp)
                            rw [decide_eq_true hm]
                            clear hm HIN
                            have HMT := Lib.hid (show hitTo L (getT S k) j (n + 1) = hitTo L (getT S k) j n ++ [(wkAt L j).1] from hitTo_yes hnl (by rw [hy.out]; exact HH.out))
                            have HLE := Lib.hid (show (hitTo L (getT S k) j n).length ≤ 4000000 from Nat.le_trans (hitTo_len (Nat.le_of_lt hjt5.out)) (Nat.le_trans (Nat.mul_le_mul (show L.length + 1 ≤ 200 by have := HLL.out; omega) (show (getT S k).length ≤ 60 from HRW.out k)) (by decide)))
                            have HSZ := Lib.hid hB.out.size
                            clear hnl HH
                            generalize (wkAt L j).1 = xk at *
                            go_wp2_with (at_builtin; refine wpList_append1 rfl _ _ rfl rfl rfl hR.out HSZ.out HLE.out ?_)
                            intro v7 w7 hR7 hB7
                            rw [← HMT.out] at hR7
                            have HR7 := Lib.hid hR7
                            have HB7 := Lib.hid (hB.out.trans hB7)
                            obtain ⟨A7, c7, hv7⟩ := ints_form hR7.ints
                            subst hv7
                            clear hR7 hB7 hR hB e1 hck huc hw0 hv0
                            go_wp2
                            go_roundw
                            case rel => exact ⟨n + 1, by omega, by go_num, HR7, HB7⟩
                            case measure => simp [Go.RowKit.intOf]; omega
                          · have HMT := Lib.hid (show hitTo L (getT S k) j (n + 1) = hitTo L (getT S k) j n from hitTo_no hnl (by rw [hy.out, HTK.out]; unfold hitB; rw [t1, decide_eq_false hm]; rfl))
                            rw [decide_eq_false hm]
                            clear hm HIN
                            generalize (wkAt L j).1 = xk at *
                            go_wp2
                            go_roundw
                            case rel => exact ⟨n + 1, by omega, by go_num, Lib.hid (by rw [HMT.out]; exact hR.out), hB⟩
                            case measure => simp [Go.RowKit.intOf]; omega
                      · have HTK := Lib.hid (show tw y = y from if_pos (by omega))
                        have t0 : decide (0 ≤ y) = false := decide_eq_false h0
                        clear h0
                        by_cases hx : (wkAt L j).1 = y
                        · have t1 : ((wkAt L j).1 == y) = true := beq_iff_eq.2 hx
                          have HH := Lib.hid (show hitB (tw y) (wkAt L j) = true by rw [HTK.out]; unfold hitB; rw [t1]; rfl)
                          clear hx
                          have HMT := Lib.hid (show hitTo L (getT S k) j (n + 1) = hitTo L (getT S k) j n ++ [(wkAt L j).1] from hitTo_yes hnl (by rw [hy.out]; exact HH.out))
                          have HLE := Lib.hid (show (hitTo L (getT S k) j n).length ≤ 4000000 from Nat.le_trans (hitTo_len (Nat.le_of_lt hjt5.out)) (Nat.le_trans (Nat.mul_le_mul (show L.length + 1 ≤ 200 by have := HLL.out; omega) (show (getT S k).length ≤ 60 from HRW.out k)) (by decide)))
                          have HSZ := Lib.hid hB.out.size
                          clear hnl HH
                          generalize (wkAt L j).1 = xk at *
                          go_wp2_with (at_builtin; refine wpList_append1 rfl _ _ rfl rfl rfl hR.out HSZ.out HLE.out ?_)
                          intro v7 w7 hR7 hB7
                          rw [← HMT.out] at hR7
                          have HR7 := Lib.hid hR7
                          have HB7 := Lib.hid (hB.out.trans hB7)
                          obtain ⟨A7, c7, hv7⟩ := ints_form hR7.ints
                          subst hv7
                          clear hR7 hB7 hR hB e1 hck huc hw0 hv0
                          go_wp2
                          go_roundw
                          case rel => exact ⟨n + 1, by omega, by go_num, HR7, HB7⟩
                          case measure => simp [Go.RowKit.intOf]; omega
                        · have t1 : ((wkAt L j).1 == y) = false := beq_eq_false_iff_ne.2 hx
                          have HIN := Lib.hid (fun (W : World) (hW : Below wn.heap.size wn W) => in_any _ (wkAt L j).2 (y) W (hdr.below hW) hd2)
                          clear hx
                          go_wp2_with fail
                          refine (HIN.out _ (Below.refl _ _)).mono ?_
                          rintro e w8 ⟨rfl, hw8⟩
                          subst hw8
                          by_cases hm : y ∈ (wkAt L j).2
                          · have HH := Lib.hid (show hitB (tw y) (wkAt L j) = true by rw [HTK.out]; unfold hitB; rw [decide_eq_true hm]; simp)
                            rw [decide_eq_true hm]
                            clear hm HIN
                            have HMT := Lib.hid (show hitTo L (getT S k) j (n + 1) = hitTo L (getT S k) j n ++ [(wkAt L j).1] from hitTo_yes hnl (by rw [hy.out]; exact HH.out))
                            have HLE := Lib.hid (show (hitTo L (getT S k) j n).length ≤ 4000000 from Nat.le_trans (hitTo_len (Nat.le_of_lt hjt5.out)) (Nat.le_trans (Nat.mul_le_mul (show L.length + 1 ≤ 200 by have := HLL.out; omega) (show (getT S k).length ≤ 60 from HRW.out k)) (by decide)))
                            have HSZ := Lib.hid hB.out.size
                            clear hnl HH
                            generalize (wkAt L j).1 = xk at *
                            go_wp2_with (at_builtin; refine wpList_append1 rfl _ _ rfl rfl rfl hR.out HSZ.out HLE.out ?_)
                            intro v7 w7 hR7 hB7
                            rw [← HMT.out] at hR7
                            have HR7 := Lib.hid hR7
                            have HB7 := Lib.hid (hB.out.trans hB7)
                            obtain ⟨A7, c7, hv7⟩ := ints_form hR7.ints
                            subst hv7
                            clear hR7 hB7 hR hB e1 hck huc hw0 hv0
                            go_wp2
                            go_roundw
                            case rel => exact ⟨n + 1, by omega, by go_num, HR7, HB7⟩
                            case measure => simp [Go.RowKit.intOf]; omega
                          · have HMT := Lib.hid (show hitTo L (getT S k) j (n + 1) = hitTo L (getT S k) j n from hitTo_no hnl (by rw [hy.out, HTK.out]; unfold hitB; rw [t1, decide_eq_false hm]; rfl))
                            rw [decide_eq_false hm]
                            clear hm HIN
                            generalize (wkAt L j).1 = xk at *
                            go_wp2
                            go_roundw
                            case rel => exact ⟨n + 1, by omega, by go_num, Lib.hid (by rw [HMT.out]; exact hR.out), hB⟩
                            case measure => simp [Go.RowKit.intOf]; omega
                    · obtain rfl : nl = n := by omega
                      have HRn := Lib.hid (show Row wn wk.heap.size _ (hitTo L (getT S k) (j + 1) 0) by rw [HJX.out, ← HNL.out]; exact hR.out)
                      clear hR
                      go_wp2
                      go_roundw
                      case rel => exact ⟨j + 1, by omega, by go_num, HRn, hB⟩
                      case measure => simp [Go.RowKit.intOf]; omega
                · obtain rfl : j = L.length := by omega
                  have HRu := Lib.hid (show Row wj wk.heap.size _ (getT U k) by rw [← HHT.out k HKT.out, ← hitTo_all]; exact hR.out)
                  have HMj := Lib.hid (hM.out.below hB.out)
                  have HWS := Lib.hid hM.out.size
                  have HWJ1 := Lib.hid (trans2 HWK1.out hB.out)
                  obtain ⟨Aq, cq, hlv⟩ := ints_form HRu.out.ints
                  subst hlv
                  obtain ⟨mb, hAw, hmb, hw0, W0, x0, hv0, hdr⟩ := TwoL.walk (HTWk.out.below hB.out) hit
                  subst hAw
                  rw [← wkAt_of hit, ← HFA.out i0 hit] at hw0
                  have hkU : k < U.length := by rw [HUL.out]; exact HKT.out
                  have HUN := Lib.hid (show (sameTo ms U i0 k).length ≤ 1000000 from Nat.le_trans (sameTo_len (by rw [HML.out]; exact hi0)) (Nat.le_trans (Nat.mul_le_mul (show ms.length + 1 ≤ 200 by have := HLL.out; have := HML.out; omega) (show U.length ≤ 60 by rw [HUL.out]; exact hlS)) (by decide)))
                  have hi180 : i0 ≤ 180 := by omega
                  have hi0' : (0 : Int) ≤ (i0 : Int) := by omega
                  have hi1' : (i0 : Int) < (L.length : Int) := by omega
                  clear hR hmb hv0 hdr hck e1 hM HTWk
                  rcases Nat.eq_zero_or_pos (getT U k).length with h0 | h0
                  · have t1 : decide (0 < (getT U k).length) = false := decide_eq_false (by omega)
                    have t2 : decide ((0 : Int) < ((getT U k).length : Int)) = false := decide_eq_false (by omega)
                    have HSA := Lib.hid (show sameTo ms U i0 (k + 1) = sameTo ms U i0 k from sameTo_no hkU (by unfold begB; rw [t1]; rfl))
                    clear hB h0
                    generalize (getT U k).length = nu at *
                    generalize getI ms i0 = ym at *
                    go_wp2_with fail
                    go_quiet (fail)
                    have HMn := Lib.hid (HMj.out.below (below_drewN' wj nq))
                    go_wp2
                    go_roundw
                    case rel => exact ⟨k + 1, _, _, by have := HKT.out; omega, by go_num, Lib.hid (by rw [HSA.out]; exact HMn.out)⟩
                    case measure => have := HKT.out; simp [Go.RowKit.intOf]; omega
                  · have t1 : decide (0 < (getT U k).length) = true := decide_eq_true h0
                    have t2 : decide ((0 : Int) < ((getT U k).length : Int)) = true := decide_eq_true (by omega)
                    have t3 : (0 : Int) < ((getT U k).length : Int) := by omega
                    have t4 : 0 < (getT U k).length := h0
                    obtain ⟨ub, uo, hAq, hub, huc⟩ := ints_at HRu.out.ints h0
                    subst hAq
                    rw [Nat.add_zero] at huc
                    by_cases e : getI (getT U k) 0 = getI ms i0
                    · have HSA := Lib.hid (show sameTo ms U i0 (k + 1) = sameTo ms U i0 k ++ [getT U k] from sameTo_yes hkU (by unfold begB; rw [t1, e]; simp))
                      rw [e] at huc
                      have t5 : (getI ms i0 == getI ms i0) = true := by simp
                      clear hB h0 e hub
                      generalize hnu : (getT U k).length = nu at *
                      replace hnu := Lib.hid hnu
                      generalize getI ms i0 = ym at *
                      go_wp2_with fail
                      go_quiet (fail)
                      have HMn := Lib.hid (HMj.out.below (below_drewN' wj nq))
                      have HUn := Lib.hid (show (wj.drewN nq).ownsRow w4.heap.size 3 1 _ (getT U k).length ((getT U k).map (Value.int .i64)) from Row.le (HRu.out.below (below_drewN' wj nq)) HWS.out)
                      have HSn := Lib.hid HMn.out.size
                      clear t1 t2 t3 t4 t5 huc hw0
                      generalize wj.drewN nq = wq at *
                      have z1 := HMn.out.box.c1
                      have HSM := Lib.hid HMn.out.same
                      obtain ⟨Ao2, co2, hSv⟩ := HMn.out.same.shape
                      subst hSv
                      have HPT := Lib.hid (fun (v7 : Value) (us7 : List Value) (w7 : World) (hM7 : Made w7 w4.heap.size v7 us7 (sameTo ms U i0 k ++ [getT U k])) (hB7 : Below w4.heap.size wq w7) => HMn.out.put (Nat.le_refl _) (by rw [HS3.out]; omega) HS34.out hM7 hB7)
                      have HBX := Lib.hid (fun (w7 : World) (hB7 : Below w4.heap.size wq w7) => Box.belowN HMn.out.box hB7 (by have := HS34.out; have := HS3.out; omega))
                      go_wp2_with (at_builtin; refine wpList_append_list rfl _ _ rfl rfl rfl HSM.out HUn.out HSn.out HUN.out ?_; intro v7 us7 w7 hM7 hG7 hB7; obtain ⟨Ao3, co3, rfl⟩ := hM7.shape; have HM7 := Lib.hid (HPT.out _ _ _ hM7 hB7); have z2 := (HBX.out w7 hB7).c1; have z3 := (HBX.out w7 hB7).thaw 1; clear hM7 hG7 hB7 z1)
                      go_roundw
                      case rel => exact ⟨k + 1, .slice Ao3 ((sameTo ms U i0 k).length + 1) co3, us7, by have := HKT.out; omega, by go_num, Lib.hid (by rw [HSA.out]; have h := HM7.out; rw [List.length_append] at h; exact h)⟩
                      case measure => have := HKT.out; simp [Go.RowKit.intOf]; omega
                    · have t5 : (getI (getT U k) 0 == getI ms i0) = false := beq_eq_false_iff_ne.2 e
                      have HSA := Lib.hid (show sameTo ms U i0 (k + 1) = sameTo ms U i0 k from sameTo_no hkU (by unfold begB; rw [t1, t5]; rfl))
                      clear hB h0 e hub
                      generalize getI (getT U k) 0 = yu at *
                      generalize (getT U k).length = nu at *
                      generalize getI ms i0 = ym at *
                      go_wp2_with fail
                      go_quiet (fail)
                      have HMn := Lib.hid (HMj.out.below (below_drewN' wj nq))
                      go_wp2
                      go_roundw
                      case rel => exact ⟨k + 1, _, _, by have := HKT.out; omega, by go_num, Lib.hid (by rw [HSA.out]; exact HMn.out)⟩
                      case measure => have := HKT.out; simp [Go.RowKit.intOf]; omega
            · obtain rfl : k = S.length := by omega
              have HMx := Lib.hid (show MS w2 w3 w4 wk w2.heap.size (.slice Af T.length cf) Sv us (sameTo ms U (i0 + 1) 0) by rw [sameTo_next (by rw [HML.out]; exact hit), HUL.out]; exact hM.out)
              clear hM
              go_wp2
              go_roundw
              case rel => exact ⟨i0 + 1, Sv, us, by omega, by go_num, HMx⟩
              case measure => simp [Go.RowKit.intOf]; omega
        · obtain rfl : i0 = L.length := by omega
          rw [HEND.out] at hM
          obtain ⟨As, cs, hSv⟩ := hM.out.same.shape
          subst hSv
          have HBZ := Lib.hid (HB4.out.below (trans2 HB12.out hM.out.bel))
          have HWZ := Lib.hid (trans2 HM.out (trans2 HB12.out hM.out.bel))
          have hsw : w.heap.size + 1 + 1 + 1 < wo.heap.size := by have h1 := HSZ.out; have h2 := HBW.out.size; omega
          have hs4 : w.heap.size + 1 + 1 + 1 < w4.heap.size := by have h1 := HB12.out.size; have h2 := HS3.out; have h3 := HS34.out; have h4 := HSZ.out; omega
          have HR1 := Lib.hid (Made.reads (Made.set (Made.set (HMF.out.below hM.out.bel) hsw 0 (.slice Af T.length cf)) hsw 1 (.slice As (mirP g p T S).length cs)))
          have HR2 := Lib.hid (Made.reads (Made.set (Made.set hM.out.same hs4 0 (.slice Af T.length cf)) hs4 1 (.slice As (mirP g p T S).length cs)))
          have W2 := Lib.hid (HBZ.out.stored (.slice Af T.length cf) (.slice As (mirP g p T S).length cs))
          have HZB := Lib.hid (below_stored (b := w.heap.size + 1 + 1 + 1) (u' := .slice Af T.length cf) (v' := .slice As (mirP g p T S).length cs) HWZ.out (by omega))
          have d0 := HBZ.out.c0
          have d1 := HBZ.out.c1
          have d2 := HBZ.out.thaw 0
          have d3 := HBZ.out.thaw 1
          have z0 := hM.out.box.c0
          have z1 := hM.out.box.c1
          clear hM hsw hs4
          generalize (mirP g p T S).length = ns at *
          go_wp2
          refine bodyPost_ret (v := .agg #[.slice Af T.length cf, .slice As ns cs]) ?_ rfl ⟨_, rfl, ⟨_, _, rfl, HR1.out, HR2.out⟩, HZB.out⟩
          simp [results, Tryz.results23, go_sem, W2.out.c0, W2.out.c1]
end Go.Proofs.YtmbpmepoaonleaaGreat.Pl
