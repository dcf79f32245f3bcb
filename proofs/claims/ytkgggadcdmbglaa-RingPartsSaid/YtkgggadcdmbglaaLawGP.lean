/-
  RingParts: what is kept, and what is put in a number's place, is in its place and order: the law's call answers true at every input.
-/
import Derived.Test.YtkgggadcdmbglaaRgQ
namespace Go.Proofs.Ytkgggadcdmbglaa
open Go.RowKit

theorem dec_self (l : List Int) : decide (l = l) = true := by simp

/-- An append of a whole list, what it leaves hidden from the walk. -/
theorem wpList_append_hid {P : Program} {w : World} {ops : Array Oper} {rest : List Oper} {o : Oper} {a : Act} {Q : Exit → Act → World → Prop} (hgd : o.guard = none) (s x : Operand) (t : TypeId)
    (ho : o.op = .call { callee := .builtin .append, args := #[s, x], argTypes := #[t, t] })
    (base : Nat) (e : TypeId) (i : TypeInfo) (ht : P.underlying t = some (.slice e)) (hi : P.info? e = some i) (hz : i.zero = some (.int .i64 0)) (hsize : i.size = 1) (hby : i.bytes = 8)
    (v : Value) (L : List Int) (hs : a.eval s = v) (hown : w.ownsRow base e 1 v L.length (L.map (Value.int .i64))) (u : Value) (m : List Int) (hx : a.eval x = u) (hI : Ints w u m) (h63 : L.length + m.length ≤ 1000000) (hbase : base ≤ w.heap.size)
    (h : ∀ v' w', Hid (w'.ownsRow base e 1 v' (L ++ m).length ((L ++ m).map (Value.int .i64))) → Below base w w' → wpList P ops Q rest (a.put o.dst v') w') : wpList P ops Q (o :: rest) a w :=
  wpList_append_ints hgd s x t ho base e i ht hi hz hsize hby v _ _ hs hown u m hx hI h63 hbase fun v' w' h1 h2 => h v' w' (by rw [List.length_append, List.map_append]; exact h1) h2

/-- Where a number that is kept stands among those that are kept. -/
theorem kept_at (p : Int → Bool) (l : List Int) (j : Nat) (hj : j < l.length) (he : p (getI l j) = true) :
    ((l.take j).filter p).length < (l.filter p).length ∧ getI (l.filter p) ((l.take j).filter p).length = getI l j ∧ ((l.take (j + 1)).filter p).length = ((l.take j).filter p).length + 1 := by
  have e1 : l.filter p = (l.take j).filter p ++ (l.drop j).filter p := by rw [← List.filter_append, List.take_append_drop]
  have e2 : l.drop j = getI l j :: l.drop (j + 1) := by
    rw [List.drop_eq_getElem_cons hj, getI_of l j hj]
  have e3 : (l.drop j).filter p = getI l j :: (l.drop (j + 1)).filter p := by rw [e2, List.filter_cons, if_pos he]
  refine ⟨?_, ?_, ?_⟩
  · rw [e1, e3, List.length_append, List.length_cons]; omega
  · rw [e1, e3]
    have := getI_app_right ((l.take j).filter p) (getI l j :: (l.drop (j + 1)).filter p) 0
    rw [Nat.add_zero] at this
    exact this
  · rw [take_succ_getI l j hj, List.filter_append, List.length_append]; simp [he]
theorem kept_not (p : Int → Bool) (l : List Int) (j : Nat) (hj : j < l.length) (he : ¬ p (getI l j) = true) :
    ((l.take (j + 1)).filter p).length = ((l.take j).filter p).length := by
  rw [take_succ_getI l j hj, List.filter_append, List.length_append]; simp [he]

set_option maxRecDepth 100000 in
set_option maxHeartbeats 4000000 in
theorem ringParts_any (v : Value) (l : List Int) (u : Value) (m : List Int) (x : Int) (w : World) (h : Ints w v l) (h' : Ints w u m) :
    Calls Try.prog 6 #[v, u, .int .i64 x] w fun e w' => e = .returned (.bool true) ∧ Below w.heap.size w w' := by
  have HI := Lib.hid h
  have HI2 := Lib.hid h'
  obtain ⟨A, cap, rfl, hcap, hm, hcell⟩ := h
  obtain ⟨A2, cap2, rfl, hcap2, hm2, hcell2⟩ := h'
  unfold maxLen at hm hm2
  have HC := Lib.hid hcell
  clear hcell hcell2
  obtain ⟨i0, hi, hz0, hz1, hz2⟩ := info_parts Try.infoInt
  by_cases hl : 100 < l.length
  · go_enter Try.func6, Try.ntmps6
    go_wp2_with fail
    refine (awake_any w).mono ?_
    rintro e w1 ⟨rfl, hB1⟩
    go_wp2_with fail
    refine (awake_any w1).mono ?_
    rintro e w2 ⟨rfl, hB2⟩
    go_wp2
    go_ret
    exact ⟨rfl, trans2 hB1 hB2⟩
  by_cases hl' : 100 < m.length
  · go_enter Try.func6, Try.ntmps6
    go_wp2_with fail
    refine (awake_any w).mono ?_
    rintro e w1 ⟨rfl, hB1⟩
    go_wp2_with fail
    refine (awake_any w1).mono ?_
    rintro e w2 ⟨rfl, hB2⟩
    go_wp2
    go_ret
    exact ⟨rfl, trans2 hB1 hB2⟩
  go_enter Try.func6, Try.ntmps6
  go_wp2_with fail
  refine (awake_any w).mono ?_
  rintro e w1 ⟨rfl, hB1⟩
  go_wp2_with fail
  refine (keepEven_any _ l w1 (HI.out.below hB1) (by omega)).mono ?_
  rintro e w2 ⟨uk, rfl, hown, hB2⟩
  have HB2 := trans2 hB1 hB2
  have HK := Lib.hid (Ints.of_own hown)
  clear hown hB1 hB2
  have hFl : (l.filter evenB).length ≤ 100 := by have := List.length_filter_le evenB l; omega
  obtain ⟨A3, cap3, rfl, hcap3, hm3, hcell3⟩ := HK.out
  have HC3 := Lib.hid hcell3
  clear hcell3
  go_wp2
  go_loopw [8, 9] (fun sn si wr => ∃ j n : Nat, j ≤ l.length ∧ si = .int .i64 j ∧ sn = .int .i64 (((l.take j).filter evenB).length : Nat) ∧ wr = w2.drewN n) (fun _ si _ => l.length - (intOf si).toNat)
  case atStart => exact ⟨0, 0, Nat.zero_le _, rfl, rfl, rfl⟩
  case round =>
    obtain ⟨j, nd, hj, rfl, rfl, rfl⟩ := hrel
    by_cases hlt : j < l.length
    · obtain ⟨b, off, rfl, hb, hc⟩ := HC.out (by omega)
      have hcj := (HB2.cell (p := ⟨b, off + j, none⟩) hb).trans (hc j hlt)
      clear hc
      by_cases hev : evenB (getI l j) = true
      · obtain ⟨k1, k2, k3⟩ := kept_at evenB l j hlt hev
        obtain ⟨b3, off3, rfl, hb3, hc3⟩ := HC3.out (by omega)
        have hck := hc3 _ k1
        rw [k2] at hck
        have HK3 := Lib.hid k3
        have HEV := Lib.hid hev
        have hnl : ((l.take j).filter evenB).length ≤ 100 := by omega
        have hge : decide ((l.filter evenB).length ≤ ((l.take j).filter evenB).length) = false := by simp; omega
        clear k2 k3 hev hc3
        generalize ((l.take j).filter evenB).length = n at *
        generalize (l.filter evenB).length = nf at *
        go_wp2_with fail
        refine (even_any' (getI l j) _).mono ?_
        rintro e w' ⟨rfl, rfl⟩
        rw [HEV.out]
        have hxx : (getI l j != getI l j) = false := by simp
        go_wp2_with fail
        go_quiet (fail)
        go_wp2
        go_roundw
        case rel => exact ⟨j + 1, _, by omega, by go_num, by rw [HK3.out]; go_num, rfl⟩
        case measure => simp [intOf]; omega
      · have HK3 := Lib.hid (kept_not evenB l j hlt hev)
        have HEV := Lib.hid (Bool.eq_false_iff.2 hev)
        clear hev
        go_wp2_with fail
        refine (even_any' (getI l j) _).mono ?_
        rintro e w' ⟨rfl, rfl⟩
        rw [HEV.out]
        go_wp2
        go_roundw
        case rel => exact ⟨j + 1, _, by omega, by go_num, by rw [HK3.out], rfl⟩
        case measure => simp [intOf]; omega
    · obtain rfl : j = l.length := by omega
      have HT := Lib.hid (List.take_length (l := l))
      rw [HT.out]
      have HB3 := below_drewN HB2 nd
      clear HB2
      generalize w2.drewN nd = w3 at *
      have hff : ((l.filter evenB).length != (l.filter evenB).length) = false := by simp
      have hff2 : (((l.filter evenB).length : Int) != ((l.filter evenB).length : Int)) = false := by simp
      generalize (l.filter evenB).length = nf at *
      rcases idx_cases l x with ⟨k, hk, e, hx, _⟩ | ⟨e, _⟩
      · have HE := Lib.hid e
        clear e
        go_wp2_with fail
        refine ((put_any _ l x _ m w3 (HI.out.below HB3) (HI2.out.below HB3) (by omega) (by omega)).1 k hk HE.out).mono ?_
        rintro e w4 ⟨p, rfl, hp, hB4⟩
        have HB4 := trans2 HB3 hB4
        have HP := Lib.hid hp
        clear hB4 HB3 hp
        go_wp2_with fail
        refine (find_any _ l x w4 (HI.out.below HB4) (by omega)).mono ?_
        rintro e w5 ⟨rfl, rfl⟩
        rw [HE.out]
        obtain ⟨b, off, rfl, hb0, hb1⟩ := HC.out (by omega)
        clear hb0 hb1
        obtain ⟨A', hA'⟩ : ∃ A', (if cap = k + 1 then some (⟨b, off, none⟩ : Addr) else some ⟨b, off + (k + 1), none⟩) = some A' := by split <;> exact ⟨_, rfl⟩
        have HI4 := Lib.hid (HI.out.below HB4)
        have HM4 := Lib.hid (HI2.out.below HB4)
        have hbeh := HI4.out.behind (k + 1) (by omega)
        rw [hA'] at hbeh
        have HBE := Lib.hid hbeh
        clear hbeh
        have HCU := Lib.hid (HI4.out.cut k (by omega))
        have HLT := Lib.hid (show (l.take k).length = k by simp; omega)
        have HLD := Lib.hid (show (l.drop (k + 1)).length = l.length - (k + 1) by simp)
        have hp0 : (0 : Int) ≤ (k : Int) + 1 := by omega
        have hp1 : (k : Int) + 1 ≤ (l.length : Int) := by omega
        have hp3 : (0 : Int) ≤ (k : Int) := by omega
        have hp4 : (k : Int) ≤ (cap : Int) := by omega
        have hp5 : (k : Int) + 1 ≤ (cap : Int) := by omega
        have hp6 : ¬ (k : Int) < 0 := by omega
        have hlk : (l.take k).length ≤ 100 := by rw [HLT.out]; omega
        have hld : (l.drop (k + 1)).length ≤ 100 := by rw [HLD.out]; omega
        have HNIL : Hid (w4.ownsRow w4.heap.size 3 1 (.slice none 0 0) ([] : List Int).length (([] : List Int).map (Value.int .i64))) := World.ownsRow_nil _ _ _ _
        generalize hLT : l.take k = lt at *
        generalize hLD : l.drop (k + 1) = ld at *
        clear hLT hLD
        go_wp2_with (at_builtin; refine wpList_append_hid rfl _ _ 22 rfl w4.heap.size 3 i0 Try.underlying22 hi hz0 hz1 hz2 _ [] rfl HNIL.out _ lt rfl HCU.out (by simp; omega) (Nat.le_refl _) ?_)
        intro v1 w5 HO5 hB5
        have HS5 := Lib.hid hB5.size
        have HM5 := Lib.hid (HM4.out.below hB5)
        go_wp2_with (at_builtin; refine wpList_append_hid rfl _ _ 22 rfl w4.heap.size 3 i0 Try.underlying22 hi hz0 hz1 hz2 _ lt rfl HO5.out _ m rfl HM5.out (by omega) HS5.out ?_)
        intro v2 w6 HO6 hB6
        have hown7 : w6.ownsRow w4.heap.size 3 1 v2 (lt ++ m).length ((lt ++ m).map (Value.int .i64)) := by
          rw [List.length_append, List.map_append]
          exact HO6.out
        have HO6' := Lib.hid hown7
        clear hown7 HO6
        have HB46 := hB5.trans hB6
        have HS6 := Lib.hid HB46.size
        have HBE6 := Lib.hid (HBE.out.below HB46)
        clear HO5 HM5 HS5 hB5 hB6
        go_wp2_with (at_builtin; refine wpList_append_hid rfl _ _ 22 rfl w4.heap.size 3 i0 Try.underlying22 hi hz0 hz1 hz2 _ (lt ++ m) rfl HO6'.out _ ld rfl HBE6.out (by simp; omega) HS6.out ?_)
        intro v3 w7 HO7 hB7
        have HB47 := HB46.trans hB7
        have HP7 := Lib.hid (HP.out.below HB47)
        have HB7 := trans2 HB4 HB47
        have hown8 : w7.ownsRow w4.heap.size 3 1 v3 (lt ++ (m ++ ld)).length ((lt ++ (m ++ ld)).map (Value.int .i64)) := by
          rw [List.length_append, List.length_append, List.map_append, List.map_append]
          exact HO7.out
        have HW7 := Lib.hid (Ints.of_own hown8)
        have hle : (lt ++ (m ++ ld)).length ≤ 1000000 := by simp; omega
        clear HO7 hown8 HO6' HBE6 HS6 HBE HCU HB46 HB47 hB7 HP HB4 HI4 HM4 HLT HLD
        generalize lt ++ (m ++ ld) = r at *
        go_wp2_with fail
        refine (equal_any _ r _ r w7 HP7.out HW7.out hle).mono ?_
        rintro e w8 ⟨rfl, n8, rfl⟩
        rw [dec_self]
        go_wp2
        go_ret
        exact ⟨rfl, below_drewN HB7 n8⟩
      · have HE := Lib.hid e
        clear e
        go_wp2_with fail
        refine ((put_any _ l x _ m w3 (HI.out.below HB3) (HI2.out.below HB3) (by omega) (by omega)).2 HE.out).mono ?_
        rintro e w4 ⟨rfl, rfl⟩
        go_wp2_with fail
        refine (find_any _ l x w3 (HI.out.below HB3) (by omega)).mono ?_
        rintro e w5 ⟨rfl, rfl⟩
        rw [HE.out]
        go_wp2
        go_ret
        exact ⟨rfl, HB3⟩

end Go.Proofs.Ytkgggadcdmbglaa
