/-
  PmA, PmE, PmJ, PmB, PmF, PmL, in one text.
-/
import Derived.Test.YtmbpmepoaonleaaGreatM55
import Derived.Test.YtmbpmepoaonleaaGreatM59
import Derived.Test.YtmbpmepoaonleaaGreatM54
import Derived.Test.YtmbpmepoaonleaaGreatM13
import Derived.Test.YtmbpmepoaonleaaGreatM30
import Derived.Test.YtmbpmepoaonleaaGreatPlan
import Derived.Test.YtmbpmepoaonleaaGreatM50
import Derived.Deep.AppendLies
/-! The program's Region: which of the regions holds a key. -/
namespace Go.Proofs.YtmbpmepoaonleaaGreat.Pl
open Go.Proofs.YtmbpmepoaonleaaGreat Go.Proofs.YtmbpmepoaonleaaGreat.Fc Go.Proofs.YtmbpmepoaonleaaGreat.Rt Go.RowKit Go.Maps

variable {g : Gph} {p : Prt} {T S : List (List Int)} {w w' : World}
/-- The first of lists that holds a number; -1: none. -/
def At (R : List (List Int)) (x : Int) (i : Int) : Prop := (i = -1 ∧ ∀ j, j < R.length → x ∉ getT R j) ∨ ∃ k : Nat, i = k ∧ k < R.length ∧ x ∈ getT R k ∧ ∀ j, j < k → x ∉ getT R j

set_option maxRecDepth 100000 in
set_option maxHeartbeats 2000000 in
theorem has_any (v : Value) (l : List Int) (x : Int) (cb : Nat) (w : World) (h : Ints w v l) (hl : l.length ≤ 1000000) (hc : w.cell? ⟨cb, 0, none⟩ = some (.int .i64 x)) :
    Calls Tryz.prog 50 #[v, .pointer (some ⟨cb, 0, none⟩)] w fun e w' => e = .returned (.bool (decide (x ∈ l))) ∧ w = w' := by
  have HI := Lib.hid h
  obtain ⟨A, c, rfl⟩ := ints_form h
  have HC := Lib.hid (contains_any _ l x w h hl)
  clear h
  go_enter Tryz.func50, Tryz.ntmps50
  go_wp2_with fail
  refine HC.out.mono ?_
  rintro e w1 ⟨rfl, rfl⟩
  go_wp2
  go_ret
  exact ⟨rfl, rfl⟩

set_option maxRecDepth 100000 in
set_option maxHeartbeats 2000000 in
theorem indexR_any (v : Value) (R : List (List Int)) (x : Int) (cb : Nat) (w : World) (h : LL w v R) (hl : R.length ≤ 1000000) (hr : ∀ j, (getT R j).length ≤ 1000000) (hc : w.cell? ⟨cb, 0, none⟩ = some (.int .i64 x)) :
    Calls Tryz.prog 49 #[v, .func (.func 50) #[] #[.pointer (some ⟨cb, 0, none⟩)]] w fun e w' => (∃ i, e = .returned (.int .i64 i) ∧ At R x i) ∧ w = w' := by
  have HV := Lib.hid h
  have HC := Lib.hid hc
  obtain ⟨A, c, rfl, _, _⟩ := h.form
  clear h hc
  go_enter Tryz.func49, Tryz.ntmps49
  go_wp2
  go_loopw [8] (fun i wr => ∃ j : Nat, j ≤ R.length ∧ i = .int .i64 j ∧ wr = w ∧ Hid (∀ i, i < j → x ∉ getT R i)) (fun i _ => R.length - (Go.RowKit.intOf i).toNat)
  case atStart => exact ⟨0, Nat.zero_le _, rfl, rfl, Lib.hid (fun i hi => absurd hi (Nat.not_lt_zero _))⟩
  case round =>
    obtain ⟨j, hj, rfl, rfl, hH⟩ := hrel
    by_cases hlt : j < R.length
    · obtain ⟨b, o, rfl, hb, A1, c1, hck, hi⟩ := HV.out.get hlt
      have HX := Lib.hid (has_any _ (getT R j) x cb wr hi (hr j) HC.out)
      by_cases hx : x ∈ getT R j
      · have HK := Lib.hid (show At R x j from .inr ⟨j, rfl, hlt, hx, hH.out⟩)
        rw [decide_eq_true hx] at HX
        clear hx hH hi
        generalize (getT R j).length = n1 at *
        go_wp2_with fail
        refine HX.out.mono ?_
        rintro e w1 ⟨rfl, rfl⟩
        clear HX
        go_wp2
        go_ret
        exact ⟨⟨(j : Int), rfl, HK.out⟩, rfl⟩
      · have HN := Lib.hid (show ∀ i, i < j + 1 → x ∉ getT R i from fun i hi => by
          rcases Nat.lt_or_eq_of_le (Nat.le_of_lt_succ hi) with h | rfl
          · exact hH.out i h
          · exact hx)
        rw [decide_eq_false hx] at HX
        clear hx hH hi
        generalize (getT R j).length = n1 at *
        go_wp2_with fail
        refine HX.out.mono ?_
        rintro e w1 ⟨rfl, rfl⟩
        go_wp2
        go_roundw
        case rel => exact ⟨j + 1, by omega, by go_num, by first | rfl | trivial, HN⟩
        case measure => simp [Go.RowKit.intOf]; omega
    · obtain rfl : j = R.length := by omega
      have HK := Lib.hid (show At R x (-1) from .inl ⟨rfl, hH.out⟩)
      clear hH
      go_wp2
      go_ret
      exact ⟨⟨-1, rfl, HK.out⟩, rfl⟩

/-- What Region answers of an index. -/
def regV (i : Int) : Value := .tuple #[.int .i64 (if i < 0 then 0 else i), .bool (decide (0 ≤ i))]

set_option maxRecDepth 100000 in
set_option maxHeartbeats 4000000 in
theorem region_any (v u x : Value) (key : Int) (w : World) (h : Gr w v g) (h' : Pt w u p) (hx : Pn w x T S) (hf : Fits g p T S) {er : Int} (hE : PErr g p T S er) (hrl : er = 0 → (regs (keysOf g p T) S).length ≤ 1000000 ∧ ∀ j, (getT (regs (keysOf g p T) S) j).length ≤ 1000000) :
    Calls Tryz.prog 19 #[v, u, x, .int .i64 key] w fun e w' => Below w.heap.size w w' ∧ ∃ i, e = .returned (regV i) ∧ ((er ≠ 0 ∧ i = -1) ∨ (er = 0 ∧ At (regs (keysOf g p T) S) key i)) := by
  have HG := Lib.hid h
  have HP := Lib.hid h'
  have HX := Lib.hid hx
  obtain ⟨ve, rfl, h1⟩ := h
  obtain ⟨vv, vp, rfl, h2, h3⟩ := h'
  obtain ⟨vT, vS, rfl, h4, h5⟩ := hx
  obtain ⟨Ae, ce, rfl⟩ := h1.form
  obtain ⟨Av, cv, rfl⟩ := ints_form h2
  obtain ⟨Ap, cp, rfl⟩ := ints_form h3
  obtain ⟨AT, cT, rfl, _, _⟩ := h4.form
  obtain ⟨AS, cS, rfl, _, _⟩ := h5.form
  obtain ⟨b1, b2, b3, hm⟩ := three_boxes w (.int .i64 g.n) (.slice Ae g.e.length ce) (.slice Av p.v.length cv) (.slice Ap p.e.length cp) (.slice AT T.length cT) (.slice AS S.length cS) 24 27 30
  have HB1 := Lib.hid b1
  have HB2 := Lib.hid b2
  have HB3 := Lib.hid b3
  have HM := Lib.hid hm
  have HG1 := Lib.hid (HG.out.below hm)
  have HP1 := Lib.hid (HP.out.below hm)
  have HX1 := Lib.hid (HX.out.below hm)
  have HRL := Lib.hid hrl
  clear b1 b2 b3 hm h1 h2 h3 h4 h5 HG HP HX hrl
  go_enter Tryz.func19, Tryz.ntmps19
  go_wp2_with fail
  generalize hw0 : ((w.alloc (.cells #[.int .i64 g.n, .slice Ae g.e.length ce] 24)).alloc (.cells #[.slice Av p.v.length cv, .slice Ap p.e.length cp] 27)).alloc (.cells #[.slice AT T.length cT, .slice AS S.length cS] 30) = w0 at *
  have hs0 : w0.heap.size = w.heap.size + 1 + 1 + 1 := by rw [← hw0]; simp
  have hm4 := below_alloc (w := w0) (.cells #[.int .i64 key] 3)
  have hc4 := new_cell w0 (.int .i64 key) 3
  rw [hs0] at hc4
  have HC4 := Lib.hid hc4
  have HLT := Lib.hid (show w.heap.size + 1 + 1 + 1 < (w0.alloc (.cells #[.int .i64 key] 3)).heap.size by rw [World.size_alloc, hs0]; exact Nat.lt_succ_self _)
  have HM1 := Lib.hid (trans2 HM.out hm4)
  have HR := Lib.hid (regions_any _ _ _ _ (HG1.out.below hm4) (HP1.out.below hm4) (HX1.out.below hm4) hf hE)
  clear hm4 hc4 hs0 hw0 HB1 HB2 HB3 HG1 HP1 HX1 HM hf hE
  generalize w0.alloc (.cells #[.int .i64 key] 3) = w1 at *
  refine HR.out.mono ?_
  clear HR
  rintro e w2 ⟨hB2, ⟨hne, rfl⟩ | ⟨h0, m, us, rfl, hMd⟩⟩
  · have HI := Lib.hid (indexR_any (.slice none 0 0) [] key _ w2 LL.nil (by decide) (fun j => by rw [getT_out _ _ (by simp)]; decide) ((hB2.cell (p := ⟨w.heap.size + 1 + 1 + 1, 0, none⟩) HLT.out).trans HC4.out))
    have HZ := Lib.hid (trans2 HM1.out hB2)
    have HNE := Lib.hid hne
    clear hB2 hne
    go_wp2_with fail
    refine HI.out.mono ?_
    rintro e w3 ⟨⟨i, rfl, hA⟩, rfl⟩
    rcases hA with ⟨rfl, _⟩ | ⟨k, _, hk, _⟩
    · clear HI
      go_wp2
      go_ret2
      exact ⟨HZ.out, -1, rfl, .inl ⟨HNE.out, rfl⟩⟩
    · exact absurd hk (Nat.not_lt_zero _)
  · obtain ⟨Am, cm, rfl⟩ := hMd.shape
    obtain ⟨hl, hr⟩ := HRL.out h0
    have HI := Lib.hid (indexR_any _ (regs (keysOf g p T) S) key _ w2 hMd.reads hl hr ((hB2.cell (p := ⟨w.heap.size + 1 + 1 + 1, 0, none⟩) HLT.out).trans HC4.out))
    have HZ := Lib.hid (trans2 HM1.out hB2)
    have H0 := Lib.hid h0
    clear hB2 h0 hMd hr HRL
    generalize hR : regs (keysOf g p T) S = R at *
    have HRE := Lib.hid hR
    clear hR
    generalize R.length = nr at *
    go_wp2_with fail
    refine HI.out.mono ?_
    clear HI
    rintro e w3 ⟨⟨i, rfl, hA⟩, rfl⟩
    have HA := Lib.hid hA
    rcases hA with ⟨rfl, _⟩ | ⟨k, rfl, _, _⟩
    · go_wp2
      go_ret2
      exact ⟨HZ.out, -1, rfl, .inr ⟨H0.out, by rw [HRE.out]; exact HA.out⟩⟩
    · have hk0 : ¬ ((k : Int) < 0) := by omega
      have HV := Lib.hid (show regV (k : Int) = .tuple #[.int .i64 (k : Int), .bool true] from by unfold regV; rw [if_neg hk0, decide_eq_true (by omega : (0 : Int) ≤ (k : Int))])
      go_wp2
      go_ret2
      exact ⟨HZ.out, k, by rw [HV.out]; rfl, .inr ⟨H0.out, by rw [HRE.out]; exact HA.out⟩⟩
end Go.Proofs.YtmbpmepoaonleaaGreat.Pl

/-! The regions' lists hold each key just once; of one piece, each region has one. -/
namespace Go.Proofs.YtmbpmepoaonleaaGreat.Pl
open Go.Proofs.YtmbpmepoaonleaaGreat Go.Proofs.YtmbpmepoaonleaaGreat.Fc Go.Proofs.YtmbpmepoaonleaaGreat.Rt Go.RowKit Go.Maps

variable {g : Gph} {p : Prt} {T S : List (List Int)} {ks : List Int}
theorem heads_nodup {U : List (List Int)} (h : (U.map fun l => getI l 0).Nodup) : U.Nodup := List.Pairwise.imp (fun {a b} (hab : getI a 0 ≠ getI b 0) (e : a = b) => hab (by rw [e])) (List.pairwise_map.1 h)
theorem regs_perm (hk : Up ks) (hS : Lists ks S) : (regs ks S).Perm (S ++ alone ks S) :=
  (List.perm_ext_iff_of_nodup (List.Pairwise.imp (fun {a b} (hab : getI a 0 < getI b 0) e => by rw [e] at hab; omega) (regs_rise hk)) (heads_nodup (all_heads hk hS))).2 fun _ => mem_regs hS
theorem alone_flat (ks : List Int) (S : List (List Int)) : (alone ks S).flatten = ks.filter fun x => decide (x ∉ S.flatten) := by
  unfold alone
  induction ks.filter fun x => decide (x ∉ S.flatten) with
  | nil => rfl
  | cons x l ih => rw [List.map_cons, List.flatten_cons, ih]; rfl
theorem regs_flat (hk : Up ks) (hS : Lists ks S) : (regs ks S).flatten.Perm ks := by
  have hn := up_nodup hk
  refine (List.Perm.flatten (regs_perm hk hS)).trans ?_
  rw [List.flatten_append, alone_flat]
  refine (List.perm_ext_iff_of_nodup ?_ hn).2 fun x => ?_
  · rw [List.nodup_append]
    refine ⟨hS.once, hn.filter _, fun a ha b hb e => ?_⟩
    subst e
    have := (List.mem_filter.1 hb).2
    exact absurd ha (of_decide_eq_true this)
  · rw [List.mem_append, List.mem_filter, decide_eq_true_iff]
    constructor
    · rintro (h | h)
      · obtain ⟨l, hl, hx⟩ := List.mem_flatten.1 h
        exact hS.keys l hl x hx
      · exact h.1
    · intro h
      by_cases hx : x ∈ S.flatten
      · exact .inl hx
      · exact .inr ⟨h, hx⟩
end Go.Proofs.YtmbpmepoaonleaaGreat.Pl

/-! The numbers met so far on the way through a list of lists. -/
namespace Go.Proofs.YtmbpmepoaonleaaGreat.Pl
open Go.Proofs.YtmbpmepoaonleaaGreat Go.Proofs.YtmbpmepoaonleaaGreat.Fc Go.Proofs.YtmbpmepoaonleaaGreat.Rt Go.RowKit Go.Maps

variable {R : List (List Int)} {v k : Nat} {x : Int}
/-- All numbers of the lists ahead, and the first ones of this list. -/
def metTo (R : List (List Int)) (v k : Nat) : List Int := (R.take v).flatten ++ (getT R v).take k
theorem metTo_zero (R : List (List Int)) : metTo R 0 0 = [] := by simp [metTo]
theorem metTo_succ (h : k < (getT R v).length) : metTo R v (k + 1) = metTo R v k ++ [getI (getT R v) k] := by
  unfold metTo
  rw [List.append_assoc, List.take_add_one, List.getElem?_eq_getElem h, getI_of _ _ h]
  rfl
theorem metTo_next (h : v < R.length) : metTo R (v + 1) 0 = metTo R v (getT R v).length := by
  unfold metTo
  rw [List.take_zero, List.append_nil, List.take_length, List.take_add_one, List.getElem?_eq_getElem h, getT_of R v h, List.flatten_append]
  simp
theorem metTo_sub (h : v < R.length) : (metTo R v k).Sublist R.flatten := by
  have e : R.flatten = (R.take v).flatten ++ ((getT R v) ++ (R.drop (v + 1)).flatten) := by
    rw [getT_of R v h, ← List.flatten_cons, ← List.flatten_append]
    congr 1
    rw [← List.drop_eq_getElem_cons h, List.take_append_drop]
  rw [e]
  exact List.Sublist.append (List.Sublist.refl _) ((List.take_sublist _ _).trans (List.sublist_append_left _ _))
theorem metTo_len (h : v ≤ R.length) : (metTo R v k).length ≤ R.flatten.length := by
  rcases Nat.lt_or_eq_of_le h with h | rfl
  · exact (metTo_sub h).length_le
  · have : getT R R.length = [] := getT_out _ _ (Nat.lt_irrefl _)
    unfold metTo
    rw [this]
    simp
theorem metTo_seen : x ∈ metTo R v k ↔ Seen R v k x := by
  unfold metTo Seen
  rw [List.mem_append, List.mem_flatten]
  refine or_congr ⟨fun ⟨l, hl, hx⟩ => ?_, fun ⟨i, hi, hx⟩ => ?_⟩ Iff.rfl
  · obtain ⟨i, hi, rfl⟩ := List.getElem_of_mem hl
    rw [List.length_take] at hi
    refine ⟨i, by omega, ?_⟩
    rw [getT_of R i (by omega)]
    rwa [List.getElem_take] at hx
  · have hlt : i < R.length := by
      refine Nat.lt_of_not_le fun h => ?_
      rw [getT_out _ _ (Nat.not_lt.2 h)] at hx
      exact absurd hx List.not_mem_nil
    refine ⟨getT R i, ?_, hx⟩
    rw [getT_of R i hlt]
    exact List.mem_take_iff_getElem.2 ⟨i, by omega, rfl⟩
end Go.Proofs.YtmbpmepoaonleaaGreat.Pl

/-! The document's find and Owner. -/
namespace Go.Proofs.YtmbpmepoaonleaaGreat.Pl
open Go.Proofs.YtmbpmepoaonleaaGreat Go.Proofs.YtmbpmepoaonleaaGreat.Fc Go.Proofs.YtmbpmepoaonleaaGreat.Rt Go.RowKit Go.Maps

variable {g : Gph} {p : Prt} {T S : List (List Int)} {w w' : World}
/-- The first of the walks that has a key; -1: none. -/
def FindAt (L : List Wlk) (key : Int) (i : Int) : Prop := (i = -1 ∧ ∀ x ∈ L, x.1 ≠ key) ∨ ∃ k : Nat, i = k ∧ ∃ h : k < L.length, (L[k]).1 = key

set_option maxRecDepth 100000 in
set_option maxHeartbeats 2000000 in
theorem find_any (v : Value) (L : List Wlk) (key : Int) (w : World) (h : TwoL w v (L.map cmp)) (hl : L.length ≤ 1000000) :
    Calls Tryz.prog 52 #[v, .int .i64 key] w fun e w' => (∃ i, e = .returned (.int .i64 i) ∧ FindAt L key i) ∧ w = w' := by
  obtain ⟨A, c, rfl, -⟩ := id h
  rw [List.length_map] at h ⊢
  have HV := Lib.hid h
  clear h
  go_enter Tryz.func52, Tryz.ntmps52
  go_wp2
  go_loopw [5] (fun i wr => ∃ j : Nat, j ≤ L.length ∧ i = .int .i64 j ∧ wr = w ∧ Hid (∀ i (h : i < L.length), i < j → (L[i]).1 ≠ key)) (fun i _ => L.length - (Go.RowKit.intOf i).toNat)
  case atStart => exact ⟨0, Nat.zero_le _, rfl, rfl, Lib.hid (fun i _ hi => absurd hi (Nat.not_lt_zero _))⟩
  case round =>
    obtain ⟨j, hj, rfl, rfl, hH⟩ := hrel
    by_cases hlt : j < L.length
    · obtain ⟨b, rfl, hb, hc1, A', c', _⟩ := fwalk_at HV.out hlt
      by_cases hx : (L[j]).1 = key
      · have HK := Lib.hid (show FindAt L key j from .inr ⟨j, rfl, hlt, hx⟩)
        rw [hx] at hc1
        clear hx hH
        go_wp2
        go_ret
        exact ⟨⟨(j : Int), rfl, HK.out⟩, rfl⟩
      · have HN := Lib.hid (show ∀ i (h : i < L.length), i < j + 1 → (L[i]).1 ≠ key from fun i h hi => by
          rcases Nat.lt_or_eq_of_le (Nat.le_of_lt_succ hi) with h1 | rfl
          · exact hH.out i h h1
          · exact hx)
        have t1 : ((L[j]).1 == key) = false := by simpa using hx
        clear hx hH
        generalize (L[j]).1 = kj at *
        go_wp2
        go_roundw
        case rel => exact ⟨j + 1, by omega, by go_num, by first | rfl | trivial, HN⟩
        case measure => simp [Go.RowKit.intOf]; omega
    · obtain rfl : j = L.length := by omega
      have HK := Lib.hid (show FindAt L key (-1) from .inl ⟨rfl, fun x hx => by
        obtain ⟨i, hi, rfl⟩ := List.getElem_of_mem hx
        exact hH.out i hi hi⟩)
      clear hH
      go_wp2
      go_ret
      exact ⟨⟨-1, rfl, HK.out⟩, rfl⟩

set_option maxRecDepth 100000 in
set_option maxHeartbeats 600000 in
theorem owner_any (v : Value) (key : Int) (pA : Option Addr) (cap : Nat) (ps : List Prt) (A : Option Addr) (n c : Nat) (w : World) (h : Gr w v g) (hP : PList w pA ps) (hl : g.e.length ≤ 1000000) (hps : ps.length ≤ 100000) (hvl : ∀ j, j < ps.length → (getP ps j).v.length ≤ 1000000) (hk0 : -1000000 ≤ key) (hk : key < 2 * g.e.length)
    (hav : ∀ i j, i < ps.length → j < ps.length → i ≠ j → ∀ x ∈ (getP ps i).v, x ∉ (getP ps j).v) (hin : ∃ j, j < ps.length ∧ crn g key ∈ (getP ps j).v) :
    Calls Tryz.prog 53 #[v, .slice pA ps.length cap, .agg #[.int .i64 key, .slice A n c]] w fun e w' => e = .returned (.int .i64 (plc ps (crn g key) : Nat)) ∧ Below w.heap.size w w' := by
  have HG := Lib.hid h
  obtain ⟨ve, rfl, h1⟩ := h
  obtain ⟨Ae, ce, rfl⟩ := h1.form
  obtain ⟨b1, b2, hm⟩ := two_boxes w (.int .i64 g.n) (.slice Ae g.e.length ce) (.int .i64 key) (.slice A n c) 24 85
  have HB1 := Lib.hid b1
  have HB2 := Lib.hid b2
  have HM := Lib.hid hm
  have HG1 := Lib.hid (HG.out.below hm)
  have HP1 := Lib.hid (hP.below hm)
  have HAV := Lib.hid hav
  have HIN := Lib.hid hin
  clear b1 b2 hm h1 HG hP hav hin
  go_enter Tryz.func53, Tryz.ntmps53
  go_wp2_with fail
  generalize (w.alloc (.cells #[.int .i64 g.n, .slice Ae g.e.length ce] 24)).alloc (.cells #[.int .i64 key, .slice A n c] 85) = w1 at *
  go_loopw [7] (fun i wr => ∃ k : Nat, k ≤ ps.length ∧ i = .int .i64 k ∧ Hid (Below w1.heap.size w1 wr) ∧ Hid (∀ j, j < k → crn g key ∉ (getP ps j).v)) (fun i _ => ps.length - (Go.RowKit.intOf i).toNat)
  case atStart => exact ⟨0, Nat.zero_le _, rfl, Lib.hid (Below.refl _ _), Lib.hid (fun i hi => absurd hi (Nat.not_lt_zero _))⟩
  case round =>
    obtain ⟨k, hkk, rfl, hB0, hH⟩ := hrel
    obtain ⟨wo, hwo⟩ : ∃ z, z = wr := ⟨_, rfl⟩
    subst hwo
    by_cases hlt : k < ps.length
    · obtain ⟨pb, A1, c1, A3, ce2, rfl, hpb, hc1, hc2, hi1, hi2⟩ := (HP1.out.below hB0.out) k hlt
      have HVI := Lib.hid hi1
      have HVL := Lib.hid (hvl k hlt)
      have X0 := Lib.hid (HB1.out.below hB0.out)
      have X1 := Lib.hid (HB2.out.below hB0.out)
      have HCR := Lib.hid (fun (W : World) (hW : Below wo.heap.size wo W) => rcorner_any _ g key A n c W (HG1.out.below (trans2 hB0.out hW)) hl hk0 hk)
      have HK0 := Lib.hid (show (0 : Int) ≤ (k : Int) by omega)
      have HK1 := Lib.hid (show (k : Int) < (ps.length : Int) by omega)
      have HK2 := Lib.hid (show k ≤ 100000 by omega)
      by_cases hx : crn g key ∈ (getP ps k).v
      · have HBI := Lib.hid (decide_eq_true hx)
        have HPC := Lib.hid (plc_of HAV.out hlt hx)
        clear hx hH hi1 hi2 hc2
        generalize hcr : crn g key = cr at *
        have HCE := Lib.hid hcr
        clear hcr
        go_wp2_with fail
        -- region A
        refine wp_region_plan [is (.slice (some ⟨pb, 0, none⟩) ps.length cap), is (.int .i64 (k : Int)), is (.pointer (some ⟨pb, k * 2, none⟩)), is (.pointer (some ⟨pb, k * 2, none⟩)), is (.slice A1 (getP ps k).v.length c1), is (.agg #[.int .i64 g.n, .slice Ae g.e.length ce]), is (.agg #[.int .i64 key, .slice A n c]), is (.int .i64 cr), is (.bool true)] (by kernel_rfl) (by kernel_rfl) ?_ ?_
        · skip
          refine StepsP.cons ?_ ?_
          · refine step_val (fun a wx hB O D => ?_)
            have e1 : a.tmps[1]? = some (.slice (some ⟨pb, 0, none⟩) ps.length cap) := O 1 (by rfl)
            clear O D
            exact ⟨rfl, by unfold execOp; simp only [ev e1]; rfl⟩
          refine StepsP.cons ?_ ?_
          · refine step_val (fun a wx hB O D => ?_)
            have e7 : a.tmps[7]? = some (.int .i64 (k : Int)) := O 7 (by rfl)
            clear O D
            exact ⟨rfl, by unfold execOp; simp only [ev e7]; rfl⟩
          refine StepsP.cons ?_ ?_
          · refine step_val (fun a wx hB O D => ?_)
            obtain ⟨_, e14, rfl⟩ := D 0 _ _ _ (by decide) rfl rfl rfl
            obtain ⟨_, e15, rfl⟩ := D 1 _ _ _ (by decide) rfl rfl rfl
            have hk0 := HK0.out
            have hk1 := HK1.out
            have hk2 := HK2.out
            clear O D
            exact ⟨rfl, by go_simp⟩
          refine StepsP.cons ?_ ?_
          · refine step_val (fun a wx hB O D => ?_)
            obtain ⟨_, e16, rfl⟩ := D 2 _ _ _ (by decide) rfl rfl rfl
            clear O D
            exact ⟨rfl, by go_simp⟩
          refine StepsP.cons ?_ ?_
          · refine step_val (fun a wx hB O D => ?_)
            obtain ⟨_, e17, rfl⟩ := D 3 _ _ _ (by decide) rfl rfl rfl
            have q0 := (hB.cell (p := ⟨pb, k * 2, none⟩) hpb).trans hc1
            clear O D
            exact ⟨rfl, by go_simp⟩
          refine StepsP.cons ?_ ?_
          · refine step_val (fun a wx hB O D => ?_)
            have e3 : a.tmps[3]? = some (.pointer (some ⟨w.heap.size, 0, none⟩)) := O 3 (by rfl)
            obtain ⟨c0, c1, _⟩ := X0.out.below hB
            clear O D
            exact ⟨rfl, by go_simp⟩
          refine StepsP.cons ?_ ?_
          · refine step_val (fun a wx hB O D => ?_)
            have e5 : a.tmps[5]? = some (.pointer (some ⟨w.heap.size + 1, 0, none⟩)) := O 5 (by rfl)
            obtain ⟨c0, c1, _⟩ := X1.out.below hB
            clear O D
            exact ⟨rfl, by go_simp⟩
          refine StepsP.cons ?_ ?_
          · refine step_call (enters_of Tryz.func85 (by kernel_rfl) rfl) rfl rfl (fun a wx hB O D => ?_)
            obtain ⟨_, e19, rfl⟩ := D 5 _ _ _ (by decide) rfl rfl rfl
            obtain ⟨_, e20, rfl⟩ := D 6 _ _ _ (by decide) rfl rfl rfl
            refine ⟨rfl, #[.agg #[.int .i64 g.n, .slice Ae g.e.length ce], .agg #[.int .i64 key, .slice A n c]], by simp only [List.map_toArray, List.map_cons, List.map_nil, ev e19, ev e20] <;> rfl, ?_⟩
            exact (HCR.out _ hB).mono fun _ _ ⟨he, hb⟩ => ⟨_, he, hb, rfl⟩
          refine StepsP.cons ?_ ?_
          · refine step_call (enters_of Tryz.func22 (by kernel_rfl) rfl) rfl rfl (fun a wx hB O D => ?_)
            obtain ⟨_, e18, rfl⟩ := D 4 _ _ _ (by decide) rfl rfl rfl
            obtain ⟨_, e21, rfl⟩ := D 7 _ _ _ (by decide) rfl rfl rfl
            refine ⟨rfl, #[.slice A1 (getP ps k).v.length c1, .int .i64 cr], by simp only [List.map_toArray, List.map_cons, List.map_nil, ev e18, ev e21] <;> rfl, ?_⟩
            exact (in_any _ (getP ps k).v cr _ (HVI.out.below hB) HVL.out).mono fun _ _ ⟨he, hw⟩ => ⟨_, by rw [he, HBI.out], hw ▸ Below.refl _ _, rfl⟩
          exact StepsP.nil
        · intro wz hZ
          refine EndP.is ?_
          refine EndP.is ?_
          refine EndP.is ?_
          refine EndP.is ?_
          refine EndP.is ?_
          refine EndP.is ?_
          refine EndP.is ?_
          refine EndP.is ?_
          refine EndP.is ?_
          refine EndP.nil ?_
        -- behind A
          have HZ := Lib.hid (trans2 HM.out (trans2 hB0.out hZ))
          clear hZ
          refine wpList_nil ?_
          simp only [Act.put, List.setIfInBounds_toArray, List.set_cons_zero, List.set_cons_succ]
          go_wp2
          go_ret
          exact ⟨by rw [HCE.out, HPC.out]; rfl, HZ.out⟩
      · have HBI := Lib.hid (decide_eq_false hx)
        have HN := Lib.hid (show ∀ j, j < k + 1 → crn g key ∉ (getP ps j).v from fun i hi => by
          rcases Nat.lt_or_eq_of_le (Nat.le_of_lt_succ hi) with h1 | rfl
          · exact hH.out i h1
          · exact hx)
        clear hx hH hi1 hi2 hc2
        generalize crn g key = cr at *
        go_wp2_with fail
        -- region B
        refine wp_region_plan [is (.slice (some ⟨pb, 0, none⟩) ps.length cap), is (.int .i64 (k : Int)), is (.pointer (some ⟨pb, k * 2, none⟩)), is (.pointer (some ⟨pb, k * 2, none⟩)), is (.slice A1 (getP ps k).v.length c1), is (.agg #[.int .i64 g.n, .slice Ae g.e.length ce]), is (.agg #[.int .i64 key, .slice A n c]), is (.int .i64 cr), is (.bool false)] (by kernel_rfl) (by kernel_rfl) ?_ ?_
        · skip
          refine StepsP.cons ?_ ?_
          · refine step_val (fun a wx hB O D => ?_)
            have e1 : a.tmps[1]? = some (.slice (some ⟨pb, 0, none⟩) ps.length cap) := O 1 (by rfl)
            clear O D
            exact ⟨rfl, by unfold execOp; simp only [ev e1]; rfl⟩
          refine StepsP.cons ?_ ?_
          · refine step_val (fun a wx hB O D => ?_)
            have e7 : a.tmps[7]? = some (.int .i64 (k : Int)) := O 7 (by rfl)
            clear O D
            exact ⟨rfl, by unfold execOp; simp only [ev e7]; rfl⟩
          refine StepsP.cons ?_ ?_
          · refine step_val (fun a wx hB O D => ?_)
            obtain ⟨_, e14, rfl⟩ := D 0 _ _ _ (by decide) rfl rfl rfl
            obtain ⟨_, e15, rfl⟩ := D 1 _ _ _ (by decide) rfl rfl rfl
            have hk0 := HK0.out
            have hk1 := HK1.out
            have hk2 := HK2.out
            clear O D
            exact ⟨rfl, by go_simp⟩
          refine StepsP.cons ?_ ?_
          · refine step_val (fun a wx hB O D => ?_)
            obtain ⟨_, e16, rfl⟩ := D 2 _ _ _ (by decide) rfl rfl rfl
            clear O D
            exact ⟨rfl, by go_simp⟩
          refine StepsP.cons ?_ ?_
          · refine step_val (fun a wx hB O D => ?_)
            obtain ⟨_, e17, rfl⟩ := D 3 _ _ _ (by decide) rfl rfl rfl
            have q0 := (hB.cell (p := ⟨pb, k * 2, none⟩) hpb).trans hc1
            clear O D
            exact ⟨rfl, by go_simp⟩
          refine StepsP.cons ?_ ?_
          · refine step_val (fun a wx hB O D => ?_)
            have e3 : a.tmps[3]? = some (.pointer (some ⟨w.heap.size, 0, none⟩)) := O 3 (by rfl)
            obtain ⟨c0, c1, _⟩ := X0.out.below hB
            clear O D
            exact ⟨rfl, by go_simp⟩
          refine StepsP.cons ?_ ?_
          · refine step_val (fun a wx hB O D => ?_)
            have e5 : a.tmps[5]? = some (.pointer (some ⟨w.heap.size + 1, 0, none⟩)) := O 5 (by rfl)
            obtain ⟨c0, c1, _⟩ := X1.out.below hB
            clear O D
            exact ⟨rfl, by go_simp⟩
          refine StepsP.cons ?_ ?_
          · refine step_call (enters_of Tryz.func85 (by kernel_rfl) rfl) rfl rfl (fun a wx hB O D => ?_)
            obtain ⟨_, e19, rfl⟩ := D 5 _ _ _ (by decide) rfl rfl rfl
            obtain ⟨_, e20, rfl⟩ := D 6 _ _ _ (by decide) rfl rfl rfl
            refine ⟨rfl, #[.agg #[.int .i64 g.n, .slice Ae g.e.length ce], .agg #[.int .i64 key, .slice A n c]], by simp only [List.map_toArray, List.map_cons, List.map_nil, ev e19, ev e20] <;> rfl, ?_⟩
            exact (HCR.out _ hB).mono fun _ _ ⟨he, hb⟩ => ⟨_, he, hb, rfl⟩
          refine StepsP.cons ?_ ?_
          · refine step_call (enters_of Tryz.func22 (by kernel_rfl) rfl) rfl rfl (fun a wx hB O D => ?_)
            obtain ⟨_, e18, rfl⟩ := D 4 _ _ _ (by decide) rfl rfl rfl
            obtain ⟨_, e21, rfl⟩ := D 7 _ _ _ (by decide) rfl rfl rfl
            refine ⟨rfl, #[.slice A1 (getP ps k).v.length c1, .int .i64 cr], by simp only [List.map_toArray, List.map_cons, List.map_nil, ev e18, ev e21] <;> rfl, ?_⟩
            exact (in_any _ (getP ps k).v cr _ (HVI.out.below hB) HVL.out).mono fun _ _ ⟨he, hw⟩ => ⟨_, by rw [he, HBI.out], hw ▸ Below.refl _ _, rfl⟩
          exact StepsP.nil
        · intro wz hZ
          refine EndP.is ?_
          refine EndP.is ?_
          refine EndP.is ?_
          refine EndP.is ?_
          refine EndP.is ?_
          refine EndP.is ?_
          refine EndP.is ?_
          refine EndP.is ?_
          refine EndP.is ?_
          refine EndP.nil ?_
        -- behind B
          have HZ := Lib.hid (trans2 hB0.out hZ)
          clear hZ
          refine wpList_nil ?_
          simp only [Act.put, List.setIfInBounds_toArray, List.set_cons_zero, List.set_cons_succ]
          go_wp2
          go_roundw
          case rel => exact ⟨k + 1, by omega, by go_num, HZ, HN⟩
          case measure => simp [Go.RowKit.intOf]; omega
    · exfalso
      obtain ⟨j, hj, hx⟩ := HIN.out
      exact hH.out j (by omega) hx
end Go.Proofs.YtmbpmepoaonleaaGreat.Pl

/-! What the document's Right asks of a plan's lists, list by list and key by key, in its own order (plain mathematics). -/
namespace Go.Proofs.YtmbpmepoaonleaaGreat.Pl
open Go.Proofs.YtmbpmepoaonleaaGreat Go.Proofs.YtmbpmepoaonleaaGreat.Fc Go.Proofs.YtmbpmepoaonleaaGreat.Rt Go.RowKit Go.Maps

variable {ks : List Int} {own : Int → Int} {S : List (List Int)} {v k n : Nat} {gr : List Int}
/-- All is well with one list, as the document looks at it. -/
structure Doc1 (ks : List Int) (own : Int → Int) (S : List (List Int)) (v : Nat) : Prop where
  two : 2 ≤ (getT S v).length
  head : 0 < v → getI (getT S (v - 1)) 0 < getI (getT S v) 0
  keys : ∀ k, k < (getT S v).length → getI (getT S v) k ∈ ks ∧ ¬ Seen S v k (getI (getT S v) k) ∧ (0 < k → getI (getT S v) (k - 1) < getI (getT S v) k)
  forest : ∀ k, k + 1 < (getT S v).length → ¬ Conn (relE (upto own S v k)) (own (getI (getT S v) 0)) (own (getI (getT S v) (k + 1)))
theorem Doc1.good (h : Doc1 ks own S v) : Good1 ks own S v where
  two := h.two
  sorted := fun k hk => by
    have := (h.keys (k + 1) hk).2.2 (Nat.succ_pos k)
    rw [Nat.add_sub_cancel] at this
    omega
  head := fun h0 => Int.le_of_lt (h.head h0)
  keys := fun k hk => ⟨(h.keys k hk).1, (h.keys k hk).2.1⟩
  forest := h.forest
theorem doc_lists (h : ∀ v, v < S.length → Doc1 ks own S v) : Lists ks S ∧ ForestTo (stars (ow own S)) (stars (ow own S)).length := good_lists fun v hv => (h v hv).good
theorem lists_doc (hL : Lists ks S) (hF : ForestTo (stars (ow own S)) (stars (ow own S)).length) (hv : v < S.length) : Doc1 ks own S v := by
  have hg := lists_good (own := own) hL hF hv
  have hu := hL.up _ (getT_mem hv)
  refine ⟨hg.two, fun h0 => ?_, fun k hk => ⟨(hg.keys k hk).1, (hg.keys k hk).2, fun h0 => ?_⟩, hg.forest⟩
  · have := List.pairwise_iff_getElem.1 hL.heads (v - 1) v (by omega) hv (by omega)
    rw [getT_of S v hv, getT_of S (v - 1) (by omega)]
    exact this
  · have := List.pairwise_iff_getElem.1 hu (k - 1) k (by omega) hk (by omega)
    rw [getI_of _ _ hk, getI_of _ _ (show k - 1 < (getT S v).length by omega)]
    exact this
/-- The groups ahead of a list, and behind its first keys. -/
theorem told_first (n : Nat) : Told (countTo n) (upto own S 0 0) n := by rw [upto_zero, ahd_zero]; exact Told.start n
theorem told_key {a b : Nat} (h : Told gr (upto own S v k) n) (hk : k + 1 < (getT S v).length) (ea : own (getI (getT S v) 0) = (a : Int)) (eb : own (getI (getT S v) (k + 1)) = (b : Int)) (ha : a < n) (hb : b < n) :
    (getI gr a = getI gr b ↔ Conn (relE (upto own S v k)) (own (getI (getT S v) 0)) (own (getI (getT S v) (k + 1)))) ∧ Told (over gr (getI gr a) (getI gr b)) (upto own S v (k + 1)) n := by
  refine ⟨by rw [ea, eb]; exact h.iff a b ha hb, ?_⟩
  rw [upto_succ hk, ea, eb]
  exact h.join ha hb
theorem told_list (h : Told gr (upto own S v ((getT S v).length - 1)) n) (hv : v < S.length) : Told gr (upto own S (v + 1) 0) n := by
  rw [upto_all hv] at h
  rw [upto_zero]
  exact h
/-- At the end: all in one group just if all hang together. -/
theorem told_all (h : Told gr (upto own S S.length 0) n) : (∀ i, i < n → getI gr i = getI gr 0) ↔ ∀ i j : Nat, i < n → j < n → Conn (relE (stars (ow own S))) i j := by
  rw [upto_zero, ahd_all] at h
  constructor
  · intro ha i j hi hj
    exact (h.iff i j hi hj).1 ((ha i hi).trans (ha j hj).symm)
  · intro hc i hi
    exact (h.iff i 0 hi (by omega)).2 (hc i 0 hi (by omega))
end Go.Proofs.YtmbpmepoaonleaaGreat.Pl

/-! The document's groups, overwritten cell by cell; what its Right answers, list by list (plain mathematics). -/
namespace Go.Proofs.YtmbpmepoaonleaaGreat.Pl
open Go.Proofs.YtmbpmepoaonleaaGreat Go.Proofs.YtmbpmepoaonleaaGreat.Fc Go.Proofs.YtmbpmepoaonleaaGreat.Rt Go.RowKit Go.Maps

variable {g : Gph} {p : Prt} {T S : List (List Int)} {gr : List Int} {a b x er : Int} {z v k n i : Nat}
/-- Groups of which the first z are overwritten. -/
def ovTo (gr : List Int) (a b : Int) (z : Nat) : List Int := over (gr.take z) a b ++ gr.drop z
theorem ovTo_zero (gr : List Int) (a b : Int) : ovTo gr a b 0 = gr := by simp [ovTo, over]
theorem ovTo_all (gr : List Int) (a b : Int) : ovTo gr a b gr.length = over gr a b := by simp [ovTo]
theorem ovTo_len (h : z ≤ gr.length) : (ovTo gr a b z).length = gr.length := by
  unfold ovTo
  rw [List.length_append, over_len, List.length_take, List.length_drop]
  omega
theorem ovTo_get (h : z < gr.length) : getI (ovTo gr a b z) z = getI gr z := by
  have hl : (over (gr.take z) a b).length = z := by rw [over_len, List.length_take]; omega
  rw [getI_of _ _ (by rw [ovTo_len (Nat.le_of_lt h)]; exact h), getI_of _ _ h]
  unfold ovTo
  rw [List.getElem_append_right (by omega)]
  simp [hl]
theorem ovTo_split (h : z < gr.length) (u : Int) : (ovTo gr a b z).set z u = over (gr.take z) a b ++ u :: gr.drop (z + 1) := by
  have hl : (over (gr.take z) a b).length = z := by rw [over_len, List.length_take]; omega
  unfold ovTo
  rw [List.set_append_right _ _ (by omega), hl, Nat.sub_self, List.drop_eq_getElem_cons h, List.set_cons_zero]
theorem ovTo_next (h : z < gr.length) : ovTo gr a b (z + 1) = over (gr.take z) a b ++ (if getI gr z = b then a else getI gr z) :: gr.drop (z + 1) := by
  unfold ovTo over
  rw [List.take_add_one, List.getElem?_eq_getElem h, List.map_append, List.append_assoc, getI_of _ _ h]
  rfl
theorem ovTo_yes (h : z < gr.length) (e : getI gr z = b) : ovTo gr a b (z + 1) = (ovTo gr a b z).set z a := by
  rw [ovTo_next h, ovTo_split h, if_pos e]
theorem ovTo_no (h : z < gr.length) (e : getI gr z ≠ b) : ovTo gr a b (z + 1) = ovTo gr a b z := by
  rw [ovTo_next h, if_neg e]
  unfold ovTo
  rw [List.drop_eq_getElem_cons h, getI_of _ _ h]

/-! ### Which walk has a key, and which piece has it -/

theorem key_at (h : Turns g p T) (hx : x ∈ keysOf g p T) : ∃ q, ∃ hq : q < (walksOf g p T).length, ((walksOf g p T)[q]).1 = x ∧ ∀ i, FindAt (walksOf g p T) x i → i = (q : Int) := by
  unfold keysOf at hx
  obtain ⟨w, hw, rfl⟩ := List.mem_map.1 hx
  obtain ⟨q, hq, rfl⟩ := List.getElem_of_mem hw
  refine ⟨q, hq, rfl, fun i hi => ?_⟩
  rcases hi with ⟨_, hno⟩ | ⟨m, rfl, hm, he⟩
  · exact absurd rfl (hno _ hw)
  · have hr := walks_rise h
    rw [List.pairwise_iff_getElem] at hr
    rcases Nat.lt_trichotomy m q with hlt | rfl | hgt
    · have := hr m q hm hq hlt; omega
    · rfl
    · have := hr q m hq hm hgt; omega
theorem key_no (hx : x ∉ keysOf g p T) {i : Int} (h : FindAt (walksOf g p T) x i) : i = -1 := by
  rcases h with ⟨rfl, _⟩ | ⟨m, rfl, hm, he⟩
  · rfl
  · exact absurd (List.mem_map.2 ⟨_, List.getElem_mem hm, he⟩) hx
/-- The piece of a key, by its place. -/
def ownN (g : Gph) (p : Prt) (x : Int) : Nat := plc (pcs g p) (crn g x)
theorem ownN_eq (g : Gph) (p : Prt) (x : Int) : ownI g p x = (ownN g p x : Int) := rfl
theorem ownN_lt (h : Turns g p T) (hx : x ∈ keysOf g p T) : ownN g p x < (pcs g p).length := by
  obtain ⟨j, hj, e⟩ := own_lt h hx
  rw [ownN_eq] at e
  omega
theorem own_in (h : Turns g p T) (hx : x ∈ keysOf g p T) : ∃ j, j < (pcs g p).length ∧ crn g x ∈ (getP (pcs g p) j).v := by
  obtain ⟨w, hw, rfl⟩ := List.mem_map.1 hx
  exact (pcs_facts h.right).covers _ (start_in h hw)
theorem key_range (h : Turns g p T) (hl : g.e.length ≤ 1000) (hn : g.n ≤ 100000) (hx : x ∈ keysOf g p T) : -1000000 ≤ x ∧ x < 2 * g.e.length := by
  rcases mem_keys.1 hx with ⟨v, hv, _, rfl⟩ | hf
  · have h1 := v_nn h.right hv
    omega
  · have h1 := (mem_dart h.right).1 ((nxt_perm h).mem_faces.1 hf).1
    have h2 := face_nn h hf
    have h3 := (perr_rises h.right).2.2.1.mem h1.2
    omega

/-! ### A list of one's own, read and written -/

theorem row_form {w : World} {base : Nat} {u : Value} {l : List Int} (h : Row w base u l) (h0 : 0 < l.length) : ∃ gb c, u = .slice (some ⟨gb, 0, none⟩) l.length c ∧ base ≤ gb ∧ gb < w.heap.size := World.ownsRow.form h h0
theorem row_get {w : World} {base gb m c : Nat} {l : List Int} (h : Row w base (.slice (some ⟨gb, 0, none⟩) m c) l) (hm : m = l.length) (hi : i < l.length) : w.cell? ⟨gb, i, none⟩ = some (.int .i64 (getI l i)) := by
  subst hm
  rw [World.ownsRow.cellAt h i (by omega), List.getElem?_map, List.getElem?_eq_getElem hi, getI_of _ _ hi]
  rfl
theorem row_thaw {w : World} {base gb m c : Nat} {l : List Int} (h : Row w base (.slice (some ⟨gb, 0, none⟩) m c) l) (hm : m = l.length) (i : Nat) : w.frozen? ⟨gb, i, none⟩ = false := by
  subst hm
  exact World.ownsRow.frozenAt h i
theorem row_put {w : World} {base gb m c : Nat} {l : List Int} (h : Row w base (.slice (some ⟨gb, 0, none⟩) m c) l) (hm : m = l.length) (i : Nat) (u : Int) : Row (w.setCell ⟨gb, i, none⟩ (.int .i64 u)) base (.slice (some ⟨gb, 0, none⟩) m c) (l.set i u) := by
  subst hm
  have h1 := (World.ownsRow.stored h i (.int .i64 u)).1
  unfold Row
  rw [List.length_set, List.map_set]
  exact h1
/-- A key is well, as the document looks at it. -/
def KeyOk (ks : List Int) (S : List (List Int)) (v k : Nat) : Prop := getI (getT S v) k ∈ ks ∧ ¬ Seen S v k (getI (getT S v) k) ∧ (0 < k → getI (getT S v) (k - 1) < getI (getT S v) k)

/-! ### What Right answers -/

/-- Where a list isn't as the document asks, Right answers 7. -/
theorem bad_list (h0 : sphE g p T = 0) (hE : PErr g p T S er) (hv : v < S.length) (hD : ¬ Doc1 (keysOf g p T) (ownI g p) S v) : er = 7 := by
  rcases hE with ⟨h, _⟩ | ⟨_, _, h⟩ | ⟨_, hH, _⟩
  · exact absurd h0 h
  · exact h
  · exact absurd (lists_doc hH.lists hH.forest hv) hD
theorem all_right (h0 : sphE g p T = 0) (hE : PErr g p T S er) (hA : ∀ v, v < S.length → Doc1 (keysOf g p T) (ownI g p) S v) (hT : Told gr (upto (ownI g p) S S.length 0) (pcs g p).length) (hg : ∀ i, i < (pcs g p).length → getI gr i = getI gr 0) : er = 0 := by
  rcases hE with ⟨h, _⟩ | ⟨_, hN, _⟩ | ⟨_, _, h⟩
  · exact absurd h0 h
  · obtain ⟨h1, h2⟩ := doc_lists hA
    exact absurd ⟨h1, h2, (told_all hT).1 hg⟩ hN
  · exact h
theorem not_all (h0 : sphE g p T = 0) (hE : PErr g p T S er) (hT : Told gr (upto (ownI g p) S S.length 0) (pcs g p).length) (hi : i < (pcs g p).length) (hg : getI gr i ≠ getI gr 0) : er = 7 := by
  rcases hE with ⟨h, _⟩ | ⟨_, _, h⟩ | ⟨_, hH, _⟩
  · exact absurd h0 h
  · exact h
  · exact absurd ((told_all hT).2 hH.all i hi) hg
end Go.Proofs.YtmbpmepoaonleaaGreat.Pl
