/-
  The program's meet: what is come to from a vertex by steps, and how many they are.
-/
import Derived.Test.YtjnohnbppkhbaaaWkT
namespace Go.Proofs.Ytjnohnbppkhbaaa
open Go.RowKit Go.Maps

/-- The length of a slice value. -/
def lenOf : Value → Nat | .slice _ n _ => n | _ => 0

theorem below_only {n : Nat} {F : Nat → Prop} {w0 w w' : World} (h : Below n w0 w) (hn : n ≤ w.heap.size) (ho : Only F w w') (hF : ∀ k, F k → n ≤ k) : Below n w0 w' :=
  h.trans (ho.below hn hF)

theorem Bfs.lenN {N : Nat} {ss : Nat → List Ed} {a : Int} {ts : List Int} {ds : List Nat} {hd q : Nat} (B : Bfs (StepR N ss) (adjOf N ss) a ts ds hd q) (ha : 0 ≤ a ∧ a < N) (hss : ∀ j, j < N → ∀ s ∈ ss j, 0 ≤ s.b ∧ s.b < N) :
    ts.length ≤ N ∧ ∀ x ∈ ts, 0 ≤ x ∧ x < N := by
  have hin : ∀ x ∈ ts, 0 ≤ x ∧ x < N := B.inside (P := fun x => 0 ≤ x ∧ x < N) (fun x y hx hr => by
    unfold StepR adjOf at hr
    rw [if_pos hx] at hr
    obtain ⟨s, hs, rfl⟩ := List.mem_map.1 hr
    exact hss x.toNat (by omega) s hs) ha
  have := once_len (m := (List.range N).map fun (n : Nat) => (n : Int)) B.once (fun x hx => List.mem_map.2 ⟨x.toNat, List.mem_range.2 (by have := hin x hx; omega), by have := hin x hx; omega⟩)
  rw [List.length_map, List.length_range] at this
  exact ⟨this, hin⟩

set_option maxRecDepth 100000 in
set_option maxHeartbeats 4000000 in
theorem meet_any (w : World) (v : Value) (N : Nat) (ss : Nat → List Ed) (a : Int) (h : Steps w v N ss) (ha : 0 ≤ a ∧ a < N) (hss : ∀ j, j < N → (ss j).length ≤ 1000000 ∧ ∀ s ∈ ss j, 0 ≤ s.b ∧ s.b < N) (hN : N ≤ 100000) :
    Calls Try.prog 36 #[v, .int .i64 a] w fun e w' => ∃ D ts ds, e = .returned (.map (some w.heap.size)) ∧ Mp w' w.heap.size D ts ds ∧ Bfs (StepR N ss) (adjOf N ss) a ts ds ts.length 0 ∧ Below w.heap.size w w' := by
  have hmm := @run_makeMap Try.prog
  have HSW := Lib.hid h
  obtain ⟨A, cap, rfl, hrow⟩ := h
  have HRO := Lib.hid hrow
  have HSS := Lib.hid hss
  have hwa : (Lit.int .i64 a).wf = true := WalkArith.wf_i64 (by omega)
  have hkey := keyOf_int_mk Try.underlying3 hwa
  have HM0 := Lib.hid (Mp.start w)
  have HB0 : Hid (Below w.heap.size w (w.alloc (.map #[] 0))) := Lib.hid (below_alloc _)
  have HSZ : Hid ((w.alloc (.map #[] 0)).heap.size = w.heap.size + 1) := Lib.hid (by simp)
  obtain ⟨w1, hrun, hown1, hturn1⟩ := World.ownsMap.store HM0.out.1 Try.keyInt Try.underlying43 (n := 0) (by unfold maxLen; omega) hkey (plainElem_int (a := 0) Try.underlying3 (WalkArith.wf_i64 (by omega)))
  have HM1 := Lib.hid (HM0.out.put (x := a) (by simp) 0 hown1)
  have HO1 := Lib.hid (only_turned hturn1)
  clear hrow hss hown1 hturn1
  go_enter Try.func36, Try.ntmps36
  go_wp2
  have HB2 := Lib.hid ((below_only HB0.out (by rw [HSZ.out]; omega) HO1.out (fun k hk => by rw [hk]; exact Nat.le_refl _)).trans ((below_alloc (w := w1) (.cells #[.int .i64 a] 3)).mono (by have := HO1.out.size; rw [HSZ.out] at this; omega)))
  have HQ := Lib.hid (Que.one w1 a)
  have HM2 := Lib.hid (HM1.out.below (below_alloc (w := w1) (.cells #[.int .i64 a] 3)))
  have hz1 : w.heap.size ≤ w1.heap.size := by have := HO1.out.size; rw [HSZ.out] at this; omega
  have HBF := Lib.hid (Bfs.start (R := StepR N ss) (adj := adjOf N ss) (fun _ _ => Iff.rfl) a)
  clear HO1 HM1 HM0 HB0 HSZ hrun hmm
  go_loopw [6] (fun l wr => ∃ D ts ds hd, Hid (Mp wr w.heap.size D ts ds) ∧ Hid (Bfs (StepR N ss) (adjOf N ss) a ts ds hd 0) ∧ Hid (Que wr w.heap.size l (ts.drop hd)) ∧ Hid (Below w.heap.size w wr)) (fun l wr => 2 * (N + 1 - mapLen wr w.heap.size) + lenOf l)
  case atStart => exact ⟨_, _, _, 0, HM2, HBF, Lib.hid (by
    obtain ⟨A', c', e, h1, h2, h3⟩ := HQ.out
    refine ⟨A', c', e, h1, h2, fun hp => ?_⟩
    obtain ⟨b, off, r0, r1, r2⟩ := h3 hp
    exact ⟨b, off, r0, by omega, r2⟩), HB2⟩
  case round =>
    obtain ⟨D, ts, ds, hd, hM, hF, hQ, hB⟩ := hrel
    obtain ⟨wq, hwq⟩ : ∃ z, z = wr := ⟨_, rfl⟩
    subst hwq
    have hlen := hF.out.lenN ha (fun j hj => (HSS.out j hj).2)
    obtain ⟨A0, n0, c0, hv0, hn0⟩ := hQ.out.form'
    subst hv0
    rw [List.length_drop] at hn0
    by_cases hlt : hd < ts.length
    · have hp : 0 < n0 := by omega
      obtain ⟨b, off, A', rfl, hc1, hc2, hcell, hif, hQ2⟩ := hQ.out.behind hp
      obtain ⟨k, hk⟩ : ∃ k : Nat, getI ts hd = k := ⟨(getI ts hd).toNat, by have := hlen.2 _ ((mem_getI _ _).2 ⟨hd, hlt, rfl⟩); omega⟩
      have hkN : k < N := by have := hlen.2 _ ((mem_getI _ _).2 ⟨hd, hlt, rfl⟩); omega
      rw [getI_drop, Nat.add_zero, hk] at hcell
      obtain ⟨gb, u, rfl, hgb, hrow, hE⟩ := HRO.out k hkN
      have hrow2 := (hB.out.cell (p := ⟨gb, k, none⟩) hgb).trans hrow
      have HE := Lib.hid hE
      obtain ⟨A2, c2, rfl⟩ := HE.out.form
      have hk0 : (0 : Int) ≤ (k : Int) := by omega
      have hk1 : (k : Int) < (N : Int) := by omega
      have hml := (HSS.out k hkN).1
      have HMZ := Lib.hid (show mapLen wq w.heap.size = ts.length from hM.out.size)
      have HK := Lib.hid hk
      have hp1 : 1 ≤ n0 := hp
      have HN0 := Lib.hid hn0
      rw [List.drop_drop] at hQ2
      have HF := Lib.hid hF.out
      have HQ2 := Lib.hid hQ2
      have HM := Lib.hid hM.out
      have HB := Lib.hid hB.out
      clear hQ hQ2 hE hrow hk hF hM hB hlen hn0
      go_wp2
      go_loopw [6, 30] (fun l i wr => ∃ D2 ts2 ds2, ∃ q : Nat, q ≤ (ss k).length ∧ i = .int .i64 q ∧ Hid (Mp wr w.heap.size D2 ts2 ds2) ∧ Hid (Bfs (StepR N ss) (adjOf N ss) a ts2 ds2 hd q) ∧ Hid (Que wr w.heap.size l (ts2.drop (hd + 1))) ∧ Hid (Below w.heap.size w wr) ∧ Hid (hd < ts2.length ∧ getI ts2 hd = k ∧ ts.length ≤ ts2.length)) (fun _ i _ => (ss k).length - (Go.RowKit.intOf i).toNat)
      case atStart => exact ⟨D, ts, ds, 0, Nat.zero_le _, rfl, HM, HF, HQ2, HB, Lib.hid ⟨hlt, HK.out, Nat.le_refl _⟩⟩
      case round =>
        obtain ⟨D2, ts2, ds2, q, hq, rfl, hM, hF, hQ, hB, hA⟩ := hrel
        obtain ⟨wi, hwi⟩ : ∃ z, z = wr := ⟨_, rfl⟩
        subst hwi
        have hlen := hF.out.lenN ha (fun j hj => (HSS.out j hj).2)
        obtain ⟨A3, n3, c3, hv3, hn3⟩ := hQ.out.form'
        subst hv3
        have HN3 := Lib.hid hn3
        clear hn3
        have HX := Lib.hid (show adjOf N ss (getI ts2 hd) = (ss k).map Ed.b by rw [hA.out.2.1]; exact adjOf_in hkN)
        have HD1 := Lib.hid hA.out.1
        by_cases hql : q < (ss k).length
        · obtain ⟨eb, eo, rfl, heb, he1, he2⟩ := edges_at HE.out hql
          have g1 := (hB.out.cell (p := ⟨eb, eo + q * 2, none⟩) heb).trans he1
          have g2 := (hB.out.cell (p := ⟨eb, eo + q * 2 + 1, none⟩) heb).trans he2
          have hyb := (HSS.out k hkN).2 _ (mem_getE (ss k) q hql)
          have hwy : (Lit.int .i64 (getE (ss k) q).b).wf = true := WalkArith.wf_i64 (by omega)
          have hkey2 := keyOf_int_mk Try.underlying3 hwy
          have HY := Lib.hid (show getI (adjOf N ss (getI ts2 hd)) q = (getE (ss k) q).b by rw [HX.out]; exact getI_mapB _ _ hql)
          generalize (getE (ss k) q).b = y at *
          generalize (getE (ss k) q).a = dd at *
          have hbb := below_alloc (w := wi) (.cells #[.int .i64 dd, .int .i64 y] 65)
          have HMA := Lib.hid (hM.out.below hbb)
          have HQA := Lib.hid (hQ.out.below hbb)
          have HBA := Lib.hid (hB.out.trans (hbb.mono hB.out.size))
          by_cases hin : y ∈ ts2
          · have hh := hM.out.has_yes hin
            have HF3 := Lib.hid (hF.out.pass (by rw [HY.out]; exact hin))
            clear hM hQ hF hB hin he1 he2 hyb hkey hlen hbb
            go_wp2_with (at_lookup; refine wpList_lookup_own_ok_int _ rfl _ _ 43 rfl 3 3 .i64 Try.keyInt Try.underlying43 Try.underlying3 (Try.zeroInt _) w.heap.size ts2.length D2 rfl HMA.out.1 _ _ rfl hkey2 ?_; intro c hat hwc; rw [hh])
            go_roundw
            case rel => exact ⟨D2, ts2, ds2, q + 1, by omega, by go_num, HMA, HF3, HQA, HBA, hA⟩
            case measure => simp [Go.RowKit.intOf]; omega
          · have hh := hM.out.has_no hin
            have hwk : (Lit.int .i64 (k : Int)).wf = true := WalkArith.wf_i64 (by omega)
            have hkeyk := keyOf_int_mk Try.underlying3 hwk
            have hdk := hF.out.few hd HD1.out
            have HAT := Lib.hid (fun c (hc : D2.atKey (.int .i64 (k : Int)) (.lit (.int .i64 0)) = .lit (.int .i64 c)) => hM.out.at_ HD1.out (c := c) (by rw [hA.out.2.1]; exact hc))
            have HF3 := Lib.hid (hF.out.meet HD1.out (by rw [HX.out]; simpa using hql) (by rw [HY.out]; exact hin))
            rw [HY.out] at HF3
            have hdN : hd < N := by have := HD1.out; have := hlen.1; omega
            generalize hdd : ds2.getD hd 0 = dk at *
            have HNI := Lib.hid hin
            have hnb : w.heap.size ≠ wi.heap.size := by have := hM.out.lt; omega
            have hcb : (wi.alloc (.cells #[.int .i64 dd, .int .i64 y] 65)).cell? ⟨wi.heap.size, 1, none⟩ = some (.int .i64 y) := cell_two1 wi _ _ _
            have hl1 := hlen.1
            have hszi := hB.out.size
            have hwd : (Lit.int .i64 ((dk : Int) + 1)).wf = true := WalkArith.wf_i64 (by omega)
            have HDK := Lib.hid hdd
            clear hM hQ hF hB hin he1 he2 hyb hkey hlen hdd
            go_wp2_with (first
              | (at_lookup; refine wpList_lookup_own_ok_int _ rfl _ _ 43 rfl 3 3 .i64 Try.keyInt Try.underlying43 Try.underlying3 (Try.zeroInt _) w.heap.size ts2.length D2 rfl HMA.out.1 _ _ rfl hkey2 ?_; intro c hat hwc; rw [hh]; clear hat hwc)
              | (at_lookup; refine wpList_lookup_own_int _ rfl _ _ 43 rfl 3 3 .i64 Try.keyInt Try.underlying43 Try.underlying3 (Try.zeroInt _) w.heap.size ts2.length D2 rfl HMA.out.1 _ _ rfl hkeyk ?_; intro c2 hat2 hwc2; obtain rfl := HAT.out c2 hat2; clear hat2 hwc2)
              | (at_mapUpdate; refine wpList_mapUpdate_in _ rfl _ _ _ 43 rfl 3 3 Try.keyInt Try.underlying43 _ w.heap.size ts2.length D2 rfl HMA.out.1 (by unfold maxLen; omega) _ _ _ rfl rfl hkey2 _ [] (plainElem_int Try.underlying3 hwd) ?_))
            intro w3 hown3 hturn3
            have hO3 := only_turned hturn3
            have HM3 := Lib.hid (HMA.out.put HNI.out (dk + 1) hown3)
            have HQ3 := Lib.hid (HQA.out.only hO3 (fun k hk => HQA.out.not_map HMA.out hk))
            have HB3 := Lib.hid (below_only HBA.out HBA.out.size hO3 (fun k hk => by rw [hk]; exact Nat.le_refl _))
            have hc3 := hO3.cell hcb (fun e => hnb e.symm)
            have hb3 := below_alloc (w := w3) (.cells #[.int .i64 y] 3)
            have HQ4 := Lib.hid (HQ3.out.below hb3)
            have HM4 := Lib.hid (HM3.out.below hb3)
            have HB4 := Lib.hid (HB3.out.trans (hb3.mono HB3.out.size))
            have hn4 : (w3.alloc (.cells #[.int .i64 y] 3)).cell? ⟨w3.heap.size, 0, none⟩ = some (.int .i64 y) := new_cell w3 _ _
            have HSZ4 := Lib.hid HB4.out.size
            have HLN4 := Lib.hid (show (ts2.drop (hd + 1)).length ≤ 1000000 by rw [List.length_drop]; omega)
            clear hown3 hturn3 hO3 hcb hb3 HMA HQA HBA HM3 HQ3 HB3
            go_wp2_with (at_builtin; refine wpList_append_que rfl _ _ rfl w.heap.size _ _ y rfl HQ4.out _ _ rfl hn4 HSZ4.out HLN4.out ?_)
            intro v5 w5 hQ5 hO5
            have HM5 := Lib.hid (HM4.out.only hO5 (fun hk => HQ4.out.not_map HM4.out hk rfl))
            have HB5 := Lib.hid (below_only HB4.out HB4.out.size hO5 (fun k hk => (HQ4.out.lies hk).1))
            have HQ5 := Lib.hid hQ5
            obtain ⟨A5, n5, c5, rfl, hn5⟩ := hQ5.form'
            clear hQ5 hO5 hn4 hn5 HQ4 HM4 HB4 hc3
            go_wp2
            go_roundw
            case rel =>
              refine ⟨_, ts2 ++ [y], _, q + 1, by omega, by go_num, HM5, HF3, ?_, HB5, Lib.hid ⟨?_, ?_, ?_⟩⟩
              · rw [List.drop_append_of_le_length HD1.out]
                exact HQ5
              · rw [List.length_append]; exact Nat.lt_of_lt_of_le HD1.out (Nat.le_add_right _ _)
              · rw [getI_app_left _ _ _ HD1.out]; exact hA.out.2.1
              · rw [List.length_append]; exact Nat.le_trans hA.out.2.2 (Nat.le_add_right _ _)
            case measure => simp [Go.RowKit.intOf]; omega
        · obtain rfl : q = (ss k).length := by omega
          have HM3 := Lib.hid hM.out
          have HQ3 := Lib.hid hQ.out
          have HB3 := Lib.hid hB.out
          have HF3 := Lib.hid (hF.out.next HD1.out (by rw [HX.out]; simp))
          have HL3 := Lib.hid hlen
          have HA3 := Lib.hid hA.out.2.2
          clear hM hQ hB hF hA hlen
          go_wp2
          go_roundw
          case rel => exact ⟨D2, ts2, ds2, hd + 1, HM3, HF3, HQ3, HB3⟩
          case measure =>
            have h1 := HM3.out.size
            have h2 := HMZ.out
            have h3 := HL3.out.1
            have h4 := HA3.out
            have h5 := HN0.out
            have h6 := HN3.out
            rw [List.length_drop] at h6
            rw [h1, h2]
            simp only [lenOf]
            omega
    · have HM := Lib.hid hM.out
      have HB := Lib.hid hB.out
      have hn1 : n0 = 0 := by omega
      subst hn1
      have hlE := hF.out.hd_le
      obtain rfl : hd = ts.length := by omega
      have HF := Lib.hid hF.out
      clear hM hB hQ hF hn0 hlt hlE hlen
      go_wp2
      go_ret
      exact ⟨D, ts, ds, rfl, HM.out, HF.out, HB.out⟩
end Go.Proofs.Ytjnohnbppkhbaaa
