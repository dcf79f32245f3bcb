/-
  PmA, PmE, PmJ, in one text.
-/
import Derived.Test.YtmbpmepoaonleaaGreatM55
import Derived.Test.YtmbpmepoaonleaaGreatM59
/-! The program's Region: which of the regions holds a key. -/
namespace Go.Proofs.YtmbpmepoaonleaaGreat.Pl
open Go.Proofs.YtmbpmepoaonleaaGreat Go.Proofs.YtmbpmepoaonleaaGreat.Fc Go.Proofs.YtmbpmepoaonleaaGreat.Rt Go.RowKit Go.Maps

variable {g : Gph} {p : Prt} {T S : List (List Int)} {w w' : World}
/-- The first of lists that holds a number; -1: none. -/
def At (R : List (List Int)) (x : Int) (i : Int) : Prop := (i = -1 ∧ ∀ j, j < R.length → x ∉ getT R j) ∨ ∃ k : Nat, i = k ∧ k < R.length ∧ x ∈ getT R k ∧ ∀ j, j < k → x ∉ getT R j

set_option maxRecDepth 100000 in
set_option maxHeartbeats 2000000 in
theorem has_any (v : Value) (l : List Int) (x : Int) (cb : Nat) (w : World) (h : Ints w v l) (hl : l.length ≤ 1000000) (hc : w.cell? ⟨cb, 0, none⟩ = some (.int .i64 x)) :
    Calls Tryz.prog 50 #[v, .pointer (some ⟨cb, 0, none⟩)] w fun e w' => e = .returned (.bool (decide (x ∈ l))) ∧ w = w' := by
  have HI := Lib.hid h
  obtain ⟨A, c, rfl⟩ := ints_form h
  have HC := Lib.hid (contains_any _ l x w h hl)
  clear h
  go_enter Tryz.func50, Tryz.ntmps50
  go_wp2_with fail
  refine HC.out.mono ?_
  rintro e w1 ⟨rfl, rfl⟩
  go_wp2
  go_ret
  exact ⟨rfl, rfl⟩

set_option maxRecDepth 100000 in
set_option maxHeartbeats 2000000 in
theorem indexR_any (v : Value) (R : List (List Int)) (x : Int) (cb : Nat) (w : World) (h : LL w v R) (hl : R.length ≤ 1000000) (hr : ∀ j, (getT R j).length ≤ 1000000) (hc : w.cell? ⟨cb, 0, none⟩ = some (.int .i64 x)) :
    Calls Tryz.prog 49 #[v, .func (.func 50) #[] #[.pointer (some ⟨cb, 0, none⟩)]] w fun e w' => (∃ i, e = .returned (.int .i64 i) ∧ At R x i) ∧ w = w' := by
  have HV := Lib.hid h
  have HC := Lib.hid hc
  obtain ⟨A, c, rfl, _, _⟩ := h.form
  clear h hc
  go_enter Tryz.func49, Tryz.ntmps49
  go_wp2
  go_loopw [8] (fun i wr => ∃ j : Nat, j ≤ R.length ∧ i = .int .i64 j ∧ wr = w ∧ Hid (∀ i, i < j → x ∉ getT R i)) (fun i _ => R.length - (Go.RowKit.intOf i).toNat)
  case atStart => exact ⟨0, Nat.zero_le _, rfl, rfl, Lib.hid (fun i hi => absurd hi (Nat.not_lt_zero _))⟩
  case round =>
    obtain ⟨j, hj, rfl, rfl, hH⟩ := hrel
    by_cases hlt : j < R.length
    · obtain ⟨b, o, rfl, hb, A1, c1, hck, hi⟩ := HV.out.get hlt
      have HX := Lib.hid (has_any _ (getT R j) x cb wr hi (hr j) HC.out)
      by_cases hx : x ∈ getT R j
      · have HK := Lib.hid (show At R x j from .inr ⟨j, rfl, hlt, hx, hH.out⟩)
        rw [decide_eq_true hx] at HX
        clear hx hH hi
        generalize (getT R j).length = n1 at *
        go_wp2_with fail
        refine HX.out.mono ?_
        rintro e w1 ⟨rfl, rfl⟩
        clear HX
        go_wp2
        go_ret
        exact ⟨⟨(j : Int), rfl, HK.out⟩, rfl⟩
      · have HN := Lib.hid (show ∀ i, i < j + 1 → x ∉ getT R i from fun i hi => by
          rcases Nat.lt_or_eq_of_le (Nat.le_of_lt_succ hi) with h | rfl
          · exact hH.out i h
          · exact hx)
        rw [decide_eq_false hx] at HX
        clear hx hH hi
        generalize (getT R j).length = n1 at *
        go_wp2_with fail
        refine HX.out.mono ?_
        rintro e w1 ⟨rfl, rfl⟩
        go_wp2
        go_roundw
        case rel => exact ⟨j + 1, by omega, by go_num, by first | rfl | trivial, HN⟩
        case measure => simp [Go.RowKit.intOf]; omega
    · obtain rfl : j = R.length := by omega
      have HK := Lib.hid (show At R x (-1) from .inl ⟨rfl, hH.out⟩)
      clear hH
      go_wp2
      go_ret
      exact ⟨⟨-1, rfl, HK.out⟩, rfl⟩

/-- What Region answers of an index. -/
def regV (i : Int) : Value := .tuple #[.int .i64 (if i < 0 then 0 else i), .bool (decide (0 ≤ i))]

set_option maxRecDepth 100000 in
set_option maxHeartbeats 4000000 in
theorem region_any (v u x : Value) (key : Int) (w : World) (h : Gr w v g) (h' : Pt w u p) (hx : Pn w x T S) (hf : Fits g p T S) {er : Int} (hE : PErr g p T S er) (hrl : er = 0 → (regs (keysOf g p T) S).length ≤ 1000000 ∧ ∀ j, (getT (regs (keysOf g p T) S) j).length ≤ 1000000) :
    Calls Tryz.prog 19 #[v, u, x, .int .i64 key] w fun e w' => Below w.heap.size w w' ∧ ∃ i, e = .returned (regV i) ∧ ((er ≠ 0 ∧ i = -1) ∨ (er = 0 ∧ At (regs (keysOf g p T) S) key i)) := by
  have HG := Lib.hid h
  have HP := Lib.hid h'
  have HX := Lib.hid hx
  obtain ⟨ve, rfl, h1⟩ := h
  obtain ⟨vv, vp, rfl, h2, h3⟩ := h'
  obtain ⟨vT, vS, rfl, h4, h5⟩ := hx
  obtain ⟨Ae, ce, rfl⟩ := h1.form
  obtain ⟨Av, cv, rfl⟩ := ints_form h2
  obtain ⟨Ap, cp, rfl⟩ := ints_form h3
  obtain ⟨AT, cT, rfl, _, _⟩ := h4.form
  obtain ⟨AS, cS, rfl, _, _⟩ := h5.form
  obtain ⟨b1, b2, b3, hm⟩ := three_boxes w (.int .i64 g.n) (.slice Ae g.e.length ce) (.slice Av p.v.length cv) (.slice Ap p.e.length cp) (.slice AT T.length cT) (.slice AS S.length cS) 24 27 30
  have HB1 := Lib.hid b1
  have HB2 := Lib.hid b2
  have HB3 := Lib.hid b3
  have HM := Lib.hid hm
  have HG1 := Lib.hid (HG.out.below hm)
  have HP1 := Lib.hid (HP.out.below hm)
  have HX1 := Lib.hid (HX.out.below hm)
  have HRL := Lib.hid hrl
  clear b1 b2 b3 hm h1 h2 h3 h4 h5 HG HP HX hrl
  go_enter Tryz.func19, Tryz.ntmps19
  go_wp2_with fail
  generalize hw0 : ((w.alloc (.cells #[.int .i64 g.n, .slice Ae g.e.length ce] 24)).alloc (.cells #[.slice Av p.v.length cv, .slice Ap p.e.length cp] 27)).alloc (.cells #[.slice AT T.length cT, .slice AS S.length cS] 30) = w0 at *
  have hs0 : w0.heap.size = w.heap.size + 1 + 1 + 1 := by rw [← hw0]; simp
  have hm4 := below_alloc (w := w0) (.cells #[.int .i64 key] 3)
  have hc4 := new_cell w0 (.int .i64 key) 3
  rw [hs0] at hc4
  have HC4 := Lib.hid hc4
  have HLT := Lib.hid (show w.heap.size + 1 + 1 + 1 < (w0.alloc (.cells #[.int .i64 key] 3)).heap.size by rw [World.size_alloc, hs0]; exact Nat.lt_succ_self _)
  have HM1 := Lib.hid (trans2 HM.out hm4)
  have HR := Lib.hid (regions_any _ _ _ _ (HG1.out.below hm4) (HP1.out.below hm4) (HX1.out.below hm4) hf hE)
  clear hm4 hc4 hs0 hw0 HB1 HB2 HB3 HG1 HP1 HX1 HM hf hE
  generalize w0.alloc (.cells #[.int .i64 key] 3) = w1 at *
  refine HR.out.mono ?_
  clear HR
  rintro e w2 ⟨hB2, ⟨hne, rfl⟩ | ⟨h0, m, us, rfl, hMd⟩⟩
  · have HI := Lib.hid (indexR_any (.slice none 0 0) [] key _ w2 LL.nil (by decide) (fun j => by rw [getT_out _ _ (by simp)]; decide) ((hB2.cell (p := ⟨w.heap.size + 1 + 1 + 1, 0, none⟩) HLT.out).trans HC4.out))
    have HZ := Lib.hid (trans2 HM1.out hB2)
    have HNE := Lib.hid hne
    clear hB2 hne
    go_wp2_with fail
    refine HI.out.mono ?_
    rintro e w3 ⟨⟨i, rfl, hA⟩, rfl⟩
    rcases hA with ⟨rfl, _⟩ | ⟨k, _, hk, _⟩
    · clear HI
      go_wp2
      go_ret2
      exact ⟨HZ.out, -1, rfl, .inl ⟨HNE.out, rfl⟩⟩
    · exact absurd hk (Nat.not_lt_zero _)
  · obtain ⟨Am, cm, rfl⟩ := hMd.shape
    obtain ⟨hl, hr⟩ := HRL.out h0
    have HI := Lib.hid (indexR_any _ (regs (keysOf g p T) S) key _ w2 hMd.reads hl hr ((hB2.cell (p := ⟨w.heap.size + 1 + 1 + 1, 0, none⟩) HLT.out).trans HC4.out))
    have HZ := Lib.hid (trans2 HM1.out hB2)
    have H0 := Lib.hid h0
    clear hB2 h0 hMd hr HRL
    generalize hR : regs (keysOf g p T) S = R at *
    have HRE := Lib.hid hR
    clear hR
    generalize R.length = nr at *
    go_wp2_with fail
    refine HI.out.mono ?_
    clear HI
    rintro e w3 ⟨⟨i, rfl, hA⟩, rfl⟩
    have HA := Lib.hid hA
    rcases hA with ⟨rfl, _⟩ | ⟨k, rfl, _, _⟩
    · go_wp2
      go_ret2
      exact ⟨HZ.out, -1, rfl, .inr ⟨H0.out, by rw [HRE.out]; exact HA.out⟩⟩
    · have hk0 : ¬ ((k : Int) < 0) := by omega
      have HV := Lib.hid (show regV (k : Int) = .tuple #[.int .i64 (k : Int), .bool true] from by unfold regV; rw [if_neg hk0, decide_eq_true (by omega : (0 : Int) ≤ (k : Int))])
      go_wp2
      go_ret2
      exact ⟨HZ.out, k, by rw [HV.out]; rfl, .inr ⟨H0.out, by rw [HRE.out]; exact HA.out⟩⟩
end Go.Proofs.YtmbpmepoaonleaaGreat.Pl

/-! The regions' lists hold each key just once; of one piece, each region has one. -/
namespace Go.Proofs.YtmbpmepoaonleaaGreat.Pl
open Go.Proofs.YtmbpmepoaonleaaGreat Go.Proofs.YtmbpmepoaonleaaGreat.Fc Go.Proofs.YtmbpmepoaonleaaGreat.Rt Go.RowKit Go.Maps

variable {g : Gph} {p : Prt} {T S : List (List Int)} {ks : List Int}
theorem heads_nodup {U : List (List Int)} (h : (U.map fun l => getI l 0).Nodup) : U.Nodup := List.Pairwise.imp (fun {a b} (hab : getI a 0 ≠ getI b 0) (e : a = b) => hab (by rw [e])) (List.pairwise_map.1 h)
theorem regs_perm (hk : Up ks) (hS : Lists ks S) : (regs ks S).Perm (S ++ alone ks S) :=
  (List.perm_ext_iff_of_nodup (List.Pairwise.imp (fun {a b} (hab : getI a 0 < getI b 0) e => by rw [e] at hab; omega) (regs_rise hk)) (heads_nodup (all_heads hk hS))).2 fun _ => mem_regs hS
theorem alone_flat (ks : List Int) (S : List (List Int)) : (alone ks S).flatten = ks.filter fun x => decide (x ∉ S.flatten) := by
  unfold alone
  induction ks.filter fun x => decide (x ∉ S.flatten) with
  | nil => rfl
  | cons x l ih => rw [List.map_cons, List.flatten_cons, ih]; rfl
theorem regs_flat (hk : Up ks) (hS : Lists ks S) : (regs ks S).flatten.Perm ks := by
  have hn := up_nodup hk
  refine (List.Perm.flatten (regs_perm hk hS)).trans ?_
  rw [List.flatten_append, alone_flat]
  refine (List.perm_ext_iff_of_nodup ?_ hn).2 fun x => ?_
  · rw [List.nodup_append]
    refine ⟨hS.once, hn.filter _, fun a ha b hb e => ?_⟩
    subst e
    have := (List.mem_filter.1 hb).2
    exact absurd ha (of_decide_eq_true this)
  · rw [List.mem_append, List.mem_filter, decide_eq_true_iff]
    constructor
    · rintro (h | h)
      · obtain ⟨l, hl, hx⟩ := List.mem_flatten.1 h
        exact hS.keys l hl x hx
      · exact h.1
    · intro h
      by_cases hx : x ∈ S.flatten
      · exact .inl hx
      · exact .inr ⟨h, hx⟩
theorem regs_once (hk : Up ks) (hS : Lists ks S) : (regs ks S).flatten.Nodup := (regs_flat hk hS).nodup_iff.2 (up_nodup hk)
/-- Which region holds a key of the i-th: the i-th. -/
theorem at_own (hk : Up ks) (hS : Lists ks S) {i k : Nat} (hi : i < (regs ks S).length) (hx : k < (getT (regs ks S) i).length) {n : Int} (h : At (regs ks S) (getI (getT (regs ks S) i) k) n) : n = i := by
  have hin := Rt.getI_in (getT (regs ks S) i) k hx
  rcases h with ⟨_, h1⟩ | ⟨j, rfl, hj, hxj, _⟩
  · exact absurd hin (h1 i hi)
  · have e := flat_one (regs_once hk hS) (getT_mem hi) (getT_mem hj) hin hxj
    have hp := List.pairwise_iff_getElem.1 (regs_rise (S := S) hk)
    rw [getT_of _ _ hi, getT_of _ _ hj] at e
    rcases Nat.lt_trichotomy i j with h | h | h
    · have := hp i j hi hj h
      rw [e] at this
      omega
    · rw [h]
    · have := hp j i hj hi h
      rw [e] at this
      omega
theorem one_none (h : Turns g p T) (hH : Hung g p T S) (h1 : (pcs g p).length = 1) : S = [] := by
  cases S with
  | nil => rfl
  | cons l S' =>
    exfalso
    have hl : (0 : Nat) < (l :: S').length := Nat.succ_pos _
    have h2 := hH.lists.two l (List.mem_cons_self ..)
    have hg : getT (l :: S') 0 = l := by rw [getT_of _ _ hl]; rfl
    have ha := own_apart hH hl (i := 0) (j := 1) (by omega) (by rw [hg]; omega)
    rw [hg] at ha
    have k0 := hH.lists.keys l (List.mem_cons_self ..) _ (Rt.getI_in l 0 (by omega))
    have k1 := hH.lists.keys l (List.mem_cons_self ..) _ (Rt.getI_in l 1 (by omega))
    obtain ⟨i, hi, e0⟩ := own_lt h k0
    obtain ⟨j, hj, e1⟩ := own_lt h k1
    rw [e0, e1] at ha
    exact ha (by rw [show i = j by omega])
theorem one_regs (h : Turns g p T) (hH : Hung g p T S) (h1 : (pcs g p).length = 1) : ∀ l ∈ regs (keysOf g p T) S, l.length = 1 := fun l hl => by
  obtain rfl := one_none h hH h1
  have := (mem_regs hH.lists).1 hl
  rw [List.nil_append] at this
  obtain ⟨x, _, rfl⟩ := List.mem_map.1 this
  rfl
end Go.Proofs.YtmbpmepoaonleaaGreat.Pl

/-! The numbers met so far on the way through a list of lists. -/
namespace Go.Proofs.YtmbpmepoaonleaaGreat.Pl
open Go.Proofs.YtmbpmepoaonleaaGreat Go.Proofs.YtmbpmepoaonleaaGreat.Fc Go.Proofs.YtmbpmepoaonleaaGreat.Rt Go.RowKit Go.Maps

variable {R : List (List Int)} {v k : Nat} {x : Int}
/-- All numbers of the lists ahead, and the first ones of this list. -/
def metTo (R : List (List Int)) (v k : Nat) : List Int := (R.take v).flatten ++ (getT R v).take k
theorem metTo_zero (R : List (List Int)) : metTo R 0 0 = [] := by simp [metTo]
theorem metTo_succ (h : k < (getT R v).length) : metTo R v (k + 1) = metTo R v k ++ [getI (getT R v) k] := by
  unfold metTo
  rw [List.append_assoc, List.take_add_one, List.getElem?_eq_getElem h, getI_of _ _ h]
  rfl
theorem metTo_next (h : v < R.length) : metTo R (v + 1) 0 = metTo R v (getT R v).length := by
  unfold metTo
  rw [List.take_zero, List.append_nil, List.take_length, List.take_add_one, List.getElem?_eq_getElem h, getT_of R v h, List.flatten_append]
  simp
theorem metTo_all (R : List (List Int)) : metTo R R.length 0 = R.flatten := by simp [metTo]
theorem metTo_end (h : v < R.length) : metTo R (v + 1) 0 = metTo R v (getT R v).length := metTo_next h
theorem metTo_sub (h : v < R.length) : (metTo R v k).Sublist R.flatten := by
  have e : R.flatten = (R.take v).flatten ++ ((getT R v) ++ (R.drop (v + 1)).flatten) := by
    rw [getT_of R v h, ← List.flatten_cons, ← List.flatten_append]
    congr 1
    rw [← List.drop_eq_getElem_cons h, List.take_append_drop]
  rw [e]
  exact List.Sublist.append (List.Sublist.refl _) ((List.take_sublist _ _).trans (List.sublist_append_left _ _))
theorem metTo_len (h : v ≤ R.length) : (metTo R v k).length ≤ R.flatten.length := by
  rcases Nat.lt_or_eq_of_le h with h | rfl
  · exact (metTo_sub h).length_le
  · have : getT R R.length = [] := getT_out _ _ (Nat.lt_irrefl _)
    unfold metTo
    rw [this]
    simp
theorem metTo_new (hn : R.flatten.Nodup) (h : v < R.length) (hk : k < (getT R v).length) : getI (getT R v) k ∉ metTo R v k := by
  have h1 := (metTo_sub (k := k + 1) h).nodup hn
  rw [metTo_succ hk] at h1
  intro hx
  exact (List.nodup_append.1 h1).2.2 _ hx _ (List.mem_singleton.2 rfl) rfl
theorem metTo_seen : x ∈ metTo R v k ↔ Seen R v k x := by
  unfold metTo Seen
  rw [List.mem_append, List.mem_flatten]
  refine or_congr ⟨fun ⟨l, hl, hx⟩ => ?_, fun ⟨i, hi, hx⟩ => ?_⟩ Iff.rfl
  · obtain ⟨i, hi, rfl⟩ := List.getElem_of_mem hl
    rw [List.length_take] at hi
    refine ⟨i, by omega, ?_⟩
    rw [getT_of R i (by omega)]
    rwa [List.getElem_take] at hx
  · have hlt : i < R.length := by
      refine Nat.lt_of_not_le fun h => ?_
      rw [getT_out _ _ (Nat.not_lt.2 h)] at hx
      exact absurd hx List.not_mem_nil
    refine ⟨getT R i, ?_, hx⟩
    rw [getT_of R i hlt]
    exact List.mem_take_iff_getElem.2 ⟨i, by omega, rfl⟩
end Go.Proofs.YtmbpmepoaonleaaGreat.Pl
