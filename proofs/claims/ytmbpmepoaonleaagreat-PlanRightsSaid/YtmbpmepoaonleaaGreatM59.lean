/-
  PlW, PlX, PlY, PlZ, in one text.
-/
import Derived.Test.YtmbpmepoaonleaaGreatM51
import Derived.Test.YtmbpmepoaonleaaGreatM22
import Derived.Test.YtmbpmepoaonleaaGreatPlan
import Derived.Test.YtmbpmepoaonleaaGreatM50
import Derived.Test.YtmbpmepoaonleaaGreatM54
import Derived.Test.YtmbpmepoaonleaaGreatM55
import Derived.Test.YtmbpmepoaonleaaGreatM57
import Derived.Test.YtmbpmepoaonleaaGreatM25
/-! The program's keysThere: a map of the walks' keys to those in the mirror. -/
namespace Go.Proofs.YtmbpmepoaonleaaGreat.Pl
open Go.Proofs.YtmbpmepoaonleaaGreat Go.Proofs.YtmbpmepoaonleaaGreat.Fc Go.Proofs.YtmbpmepoaonleaaGreat.Rt Go.RowKit Go.Maps

variable {w w' w1 : World} {mb n m : Nat} {Q Q' : Int → Prop} {f f' : Int → Int} {k : Int} {L : List Wlk}
theorem min_get {l : List Int} (h : 0 < l.length) : Lib.minOf l = getI l (minAt l l.length) := by
  have h1 := minOf_take l (l.length - 1) (by omega)
  rwa [show l.length - 1 + 1 = l.length by omega, List.take_length] at h1
theorem min_in {l : List Int} (h : 0 < l.length) : Lib.minOf l ∈ l := by
  rw [min_get h]
  exact Rt.getI_in _ _ (minAt_lt l _ h)
theorem Hd.over {D : DataW Unit} {F F' : Int → DataW Unit} (h : Hd D Q F) (x : Int) (hf : ∀ y, Q y → y ≠ x → F' y = F y) : Hd (D.put (dk x) (F' x)) (fun y => Q y ∨ y = x) F' := by
  refine ⟨isMap_put h.map _ _, fun y => ?_, fun y hy z => ?_⟩
  · by_cases e : y = x
    · subst e
      rw [has_put_same h.map (dk_lit y)]
      simp
    · rw [has_put_other (dk_ne e), h.has y]
      simp [e]
  · by_cases e : y = x
    · subst e
      exact atKey_put_same h.map (dk_lit y) _ _
    · rw [atKey_put_other (dk_ne e), hf y (hy.resolve_right e) e]
      exact h.at_ y (hy.resolve_right e) z

variable {ops : Array Oper} {rest : List Oper} {o : Oper} {a : Act} {G : Exit → Act → World → Prop}
theorem wpList_imap_over (hg : o.guard = none) (x y z : Operand) (hop : o.op = Op.mapUpdate 62 x y z) (mb n : Nat) (h : IMap w mb n Q f) (hn : n ≤ 1000000000) (hk : (Lit.int .i64 k).wf = true) (hx : a.eval x = .map (some mb)) (hy : a.eval y = .int .i64 k) (hz : a.eval z = .int .i64 (f' k)) (hw : (Lit.int .i64 (f' k)).wf = true)
    (hf : ∀ t, Q t → t ≠ k → f' t = f t) (hK : ∀ w', IMap w' mb (n + 1) (fun t => Q t ∨ t = k) f' → w.mapTurned w' mb → wpList Tryz.prog ops G rest (a.put o.dst undef) w') : wpList Tryz.prog ops G (o :: rest) a w := by
  obtain ⟨D, h1, h2⟩ := h
  exact wpList_mapUpdate_in w hg x y z 62 hop 3 3 Tryz.keyInt Tryz.underlying62 _ mb n D hx h1 (by unfold maxLen; omega) _ _ _ hy hz (keyOf_int_mk Tryz.underlying3 hk) _ [] (plainElem_int Tryz.underlying3 hw) (fun w' ho ht => hK w' ⟨_, ho, Hd.over (F' := fun x => .lit (.int .i64 (f' x))) h2 k (fun t ht hne => by show DataW.lit _ = DataW.lit _; rw [hf t ht hne])⟩ ht)

/-- A walk's key in the mirror. -/
def thr (x : Wlk) : Int := if x.2 = [] then x.1 else Lib.minOf (x.2.map twi)
def twTo (ds : List Int) (j : Nat) : List Int := (ds.take j).map twi
theorem twTo_zero (ds : List Int) : twTo ds 0 = [] := by simp [twTo]
theorem twTo_succ {ds : List Int} {j : Nat} (h : j < ds.length) : twTo ds (j + 1) = twTo ds j ++ [twi (getI ds j)] := by
  unfold twTo
  rw [take_succ_getI _ j h, List.map_append]
  rfl
theorem twTo_len {ds : List Int} {j : Nat} (h : j ≤ ds.length) : (twTo ds j).length = j := by unfold twTo; rw [List.length_map, List.length_take]; omega
theorem twTo_all (ds : List Int) : twTo ds ds.length = ds.map twi := by unfold twTo; rw [List.take_length]
theorem Box.turned {b : Nat} {u v : Value} (h : Box w b u v) (ht : w.mapTurned w1 mb) (hne : b ≠ mb) : Box w1 b u v := by
  have ho := only_turned ht
  have hb := ho.block b h.lt hne
  refine ⟨cell_turned h.c0 ht, cell_turned h.c1 ht, Nat.lt_of_lt_of_le h.lt ho.size, fun i => ?_⟩
  have := h.thaw i
  unfold World.frozen? at this ⊢
  rw [hb]
  exact this
/-- For now, the key itself. -/
def self (f : Int → Int) (k : Int) : Int → Int := fun t => if t = k then k else f t
theorem self_at (f : Int → Int) (k : Int) : self f k k = k := if_pos rfl
theorem self_ne (f : Int → Int) {k t : Int} (h : t ≠ k) : self f k t = f t := if_neg h

set_option maxRecDepth 100000 in
set_option maxHeartbeats 8000000 in
theorem keysThere_any (v2 : Value) (w : World) (hL : TwoL w v2 (L.map cmp)) (hLl : L.length ≤ 1000000) (hf : ∀ x ∈ L, f x.1 = thr x)
    (hwf : ∀ x ∈ L, (Lit.int .i64 x.1).wf = true ∧ (Lit.int .i64 (f x.1)).wf = true ∧ x.2.length ≤ 1000000 ∧ ∀ d ∈ x.2, -9223372036854775808 ≤ d ∧ d ≤ 9223372036854775807) :
    Calls Tryz.prog 34 #[v2] w fun e w' => ∃ mb nn, e = .returned (.map (some mb)) ∧ w.heap.size ≤ mb ∧ IMap w' mb nn (fun x => x ∈ L.map (·.1)) f ∧ Below w.heap.size w w' := by
  obtain ⟨A2, c2, rfl, -⟩ := id hL
  rw [List.length_map] at hL ⊢
  have HL := Lib.hid hL
  have HFT := Lib.hid hf
  have HWF := Lib.hid hwf
  have hmm := @run_makeMap Tryz.prog
  have HM0 := Lib.hid (IMap.start w f)
  have HB0 := Lib.hid (below_alloc (w := w) (.map #[] 0))
  clear hL hf hwf
  go_enter Tryz.func34, Tryz.ntmps34
  go_wp2
  generalize w.alloc (.map #[] 0) = w1 at *
  go_loopw [12] (fun i wr => ∃ h nx, h ≤ L.length ∧ nx ≤ 2 * h ∧ i = .int .i64 (h : Nat) ∧ Hid (IMap wr w.heap.size nx (fun x => x ∈ keysTo L h) f) ∧ Hid (Below w.heap.size w wr)) (fun i _ => L.length - (Go.RowKit.intOf i).toNat)
  case atStart => exact ⟨0, 0, Nat.zero_le _, Nat.zero_le _, rfl, Lib.hid (HM0.out.cong (fun x => by simp [keysTo])), HB0⟩
  case round =>
    clear HM0 HB0
    obtain ⟨h, nx, hh, hnx, rfl, hM, hB⟩ := hrel
    obtain ⟨wq, hwq⟩ : ∃ z, z = wr := ⟨_, rfl⟩
    subst hwq
    by_cases hlt2 : h < L.length
    · obtain ⟨bL, rfl, hbL, hcL1, A', c', hcL2, hIn⟩ := (HL.out.below hB.out).walk hlt2
      have hMl := hM.out.lt
      have HTK := Lib.hid (fun x => show x ∈ keysTo L (h + 1) ↔ (x ∈ keysTo L h ∨ x = (L[h]).1) by
        unfold keysTo
        rw [List.take_succ_eq_append_getElem hlt2, List.map_append, List.mem_append, List.map_cons, List.map_nil, List.mem_singleton])
      obtain ⟨hwk, hwv, hdl, hdw⟩ := HWF.out _ (List.getElem_mem hlt2)
      have HWV := Lib.hid hwv
      have HFK := Lib.hid (HFT.out _ (List.getElem_mem hlt2))
      have HDW := Lib.hid hdw
      obtain ⟨bx, hmx⟩ := one_box wq (.int .i64 (L[h]).1) (.slice A' (L[h]).2.length c') 78
      have z1 := bx.c1
      have HX := Lib.hid bx
      have HI := Lib.hid (hIn.below hmx)
      have HMX := Lib.hid (hM.out.below hmx)
      have HBX := Lib.hid (hB.out.trans (hmx.mono hB.out.size))
      unfold thr at HFK
      clear bx hmx hM hB hwv hbL hIn hdw
      generalize (L[h]).2 = ds at *
      generalize (L[h]).1 = key at *
      go_wp2
      clear z1 hcL1 hcL2
      have HXN := Lib.hid (show wq.heap.size ≠ w.heap.size from fun e => by have := hMl; omega)
      generalize wq.heap.size = xb at *
      generalize wq.alloc (.cells #[.int .i64 key, .slice A' ds.length c'] 78) = wx at *
      have HXS := Lib.hid HBX.out.size
      go_loopw [6, 19] (fun o i wr => ∃ j, j ≤ ds.length ∧ i = .int .i64 (j : Nat) ∧ Hid (Row wr wx.heap.size o (twTo ds j)) ∧ Hid (Below wx.heap.size wx wr)) (fun _ i _ => ds.length - (Go.RowKit.intOf i).toNat)
      case atStart => exact ⟨0, Nat.zero_le _, rfl, Lib.hid (by rw [twTo_zero]; exact Row.nil _ _), Lib.hid (Below.refl _ _)⟩
      case round =>
        obtain ⟨j, hj, rfl, hR, hB⟩ := hrel
        rename_i o wr
        by_cases hjl : j < ds.length
        · obtain ⟨ub, uo, rfl, hub, huc⟩ := ints_at (HI.out.below hB.out) hjl
          obtain ⟨hd0, hd1⟩ := HDW.out _ (Rt.getI_in _ _ hjl)
          have hx := xor_one hd0 hd1
          have HTS := Lib.hid (twTo_succ hjl)
          have HLE := Lib.hid (show (twTo ds j).length ≤ 4000000 by rw [twTo_len hj]; omega)
          have HSZ := Lib.hid hB.out.size
          obtain ⟨Ao, co, rfl⟩ := ints_form hR.out.ints
          have hlj : (twTo ds j).length = j := twTo_len hj
          rw [hlj] at hR ⊢
          clear hub hd0 hd1 hlj
          generalize twTo ds j = tl at *
          generalize getI ds j = x at *
          go_wp2_with (at_builtin; refine wpList_append1 rfl _ _ rfl rfl rfl hR.out HSZ.out HLE.out ?_)
          intro v7 w7 hR7 hB7
          rw [← HTS.out] at hR7
          have HR7 := Lib.hid hR7
          have HB7 := Lib.hid (hB.out.trans hB7)
          obtain ⟨A7, c7, hv7⟩ := ints_form hR7.ints
          subst hv7
          clear hR7 hB7 hR hB HLE HSZ HTS hx huc
          go_wp2
          go_roundw
          case rel => exact ⟨j + 1, by omega, by go_num, HR7, HB7⟩
          case measure => simp [Go.RowKit.intOf]; omega
        · obtain rfl : j = ds.length := by omega
          rw [twTo_all] at hR
          obtain ⟨Av, cv, rfl⟩ := ints_form hR.out.ints
          have HLM := Lib.hid (show (ds.map twi).length = ds.length from List.length_map _)
          have HMR := Lib.hid (HMX.out.below hB.out)
          have HXR := Lib.hid (HX.out.below hB.out)
          have HBR := Lib.hid (hB.out)
          have HBW := Lib.hid (HBX.out.trans (hB.out.mono HXS.out))
          have HTI := Lib.hid hR.out.ints
          have z0 := HXR.out.c0
          rw [HLM.out] at hR ⊢
          clear hR hB
          go_wp2_with (at_mapUpdate; refine wpList_imap_over (f' := self f key) rfl _ _ _ rfl w.heap.size nx HMR.out (by omega) hwk rfl rfl (by rw [self_at]; rfl) (by rw [self_at]; exact hwk) (fun t _ hne => self_ne f hne) ?_)
          intro w8 hM8 ht8
          have HM8 := Lib.hid hM8
          have HB8 := Lib.hid (Rt.below_turned HBW.out ht8 (Nat.le_refl _) HBW.out.size)
          have HI8 := Lib.hid (ints_turned HTI.out ht8)
          have X8 := Lib.hid (show Box w8 xb (.int .i64 key) (.slice A' ds.length c') from Box.turned HXR.out ht8 HXN.out)
          clear hM8 ht8 HMR HXR HBR HBW HTI z0
          by_cases h0 : 0 < ds.length
          · have h0i : (0 : Int) < (ds.length : Nat) := by omega
            have hmn : f key = Lib.minOf (ds.map twi) := by rw [HFK.out, if_neg (fun e => by rw [e] at h0; exact absurd h0 (by decide))]
            generalize hmm2 : Lib.minOf (ds.map twi) = mn at *
            have HMN := Lib.hid hmn
            have HMI := Lib.hid (fun (W : World) (hW : Below w8.heap.size w8 W) => min_any (.slice Av ds.length cv) (ds.map twi) W (by have := HI8.out.below hW; rwa [HLM.out] at this) (by rw [HLM.out]; exact hdl) (by rw [HLM.out]; exact h0))
            rw [hmm2] at HMI
            clear hmn hmm2
            go_wp2_with fail
            -- region 13
            refine wp_region_plan [is (.map (some w.heap.size)), is (.pointer (some ⟨xb, 0, none⟩)), is (.int .i64 key), is (.slice Av ds.length cv), is (.int .i64 mn)] (by kernel_rfl) (by kernel_rfl) ?_ ?_
            · skip
              refine StepsP.cons ?_ ?_
              · refine step_val (fun a wx hB O D => ?_)
                have e3 : a.tmps[3]? = some (.map (some w.heap.size)) := O 3 (by rfl)
                clear O D
                exact ⟨rfl, by unfold execOp; simp only [ev e3]; rfl⟩
              refine StepsP.cons ?_ ?_
              · refine step_val (fun a wx hB O D => ?_)
                have e5 : a.tmps[5]? = some (.pointer (some ⟨xb, 0, none⟩)) := O 5 (by rfl)
                clear O D
                exact ⟨rfl, by go_simp⟩
              refine StepsP.cons ?_ ?_
              · refine step_val (fun a wx hB O D => ?_)
                obtain ⟨_, e38, rfl⟩ := D 1 _ _ _ (by decide) rfl rfl rfl
                obtain ⟨c0, c1, _⟩ := X8.out.below hB
                clear O D
                exact ⟨rfl, by go_simp⟩
              refine StepsP.cons ?_ ?_
              · refine step_val (fun a wx hB O D => ?_)
                have e6 : a.tmps[6]? = some (.slice Av ds.length cv) := O 6 (by rfl)
                clear O D
                exact ⟨rfl, by unfold execOp; simp only [ev e6]; rfl⟩
              refine StepsP.cons ?_ ?_
              · refine step_call (enters_of Tryz.func65 (by kernel_rfl) rfl) rfl rfl (fun a wx hB O D => ?_)
                obtain ⟨_, e40, rfl⟩ := D 3 _ _ _ (by decide) rfl rfl rfl
                refine ⟨rfl, #[.slice Av ds.length cv], by simp only [List.map_toArray, List.map_cons, List.map_nil, ev e40] <;> rfl, ?_⟩
                exact (HMI.out _ hB).mono fun _ _ ⟨he, hb⟩ => ⟨_, he, by rw [← hb]; exact Below.refl _ _, rfl⟩
              exact StepsP.nil
            · intro wz hZ
              refine EndP.is ?_
              refine EndP.is ?_
              refine EndP.is ?_
              refine EndP.is ?_
              refine EndP.is ?_
              refine EndP.nil ?_
            -- behind 13
              have HMZ := Lib.hid (HM8.out.below hZ)
              have HBZ := Lib.hid (HB8.out.trans (hZ.mono HB8.out.size))
              clear hZ HM8 HB8 HI8 X8 HMI
              change wpList _ _ _ [_] _ _
              go_wp2_with (at_mapUpdate; refine wpList_imap_over (f' := f) rfl _ _ _ rfl w.heap.size (nx + 1) HMZ.out (by omega) hwk rfl rfl (by rw [HMN.out]; rfl) HWV.out (fun t _ hne => (self_ne f hne).symm) ?_)
              intro w9 hM9 ht9
              have HM9 := Lib.hid (hM9.cong (Q' := fun x => x ∈ keysTo L (h + 1)) (fun x => by rw [HTK.out x]))
              have HB9 := Lib.hid (Rt.below_turned HBZ.out ht9 (Nat.le_refl _) HBZ.out.size)
              clear hM9 ht9 HMZ HBZ
              go_wp2
              go_roundw
              case rel => exact ⟨h + 1, nx + 2, by omega, by omega, by go_num, HM9, HB9⟩
              case measure => simp [Go.RowKit.intOf]; omega
          · have h0i : ¬ (0 : Int) < (ds.length : Nat) := by omega
            have hds : ds = [] := List.eq_nil_of_length_eq_zero (by omega)
            have HM9 := Lib.hid ((IMap.congF (f' := f) HM8.out (fun t _ => by
              by_cases e : t = key
              · rw [e, self_at, HFK.out, if_pos hds]
              · exact (self_ne f e).symm)).cong (Q' := fun x => x ∈ keysTo L (h + 1)) HTK.out)
            clear hds HM8 HI8 X8
            go_wp2
            go_roundw
            case rel => exact ⟨h + 1, nx + 1, by omega, by omega, by go_num, HM9, HB8⟩
            case measure => simp [Go.RowKit.intOf]; omega
    · obtain rfl : h = L.length := by omega
      go_wp2
      go_ret
      refine ⟨w.heap.size, nx, rfl, Nat.le_refl _, ?_, hB.out⟩
      have := hM.out
      unfold keysTo at this
      rw [List.take_length] at this
      exact this
end Go.Proofs.YtmbpmepoaonleaaGreat.Pl

/-! The mirror of a drawing, as the program makes it: the keys there rise as they do here. -/
namespace Go.Proofs.YtmbpmepoaonleaaGreat.Pl
open Go.Proofs.YtmbpmepoaonleaaGreat Go.Proofs.YtmbpmepoaonleaaGreat.Fc Go.Proofs.YtmbpmepoaonleaaGreat.Rt Go.RowKit Go.Maps

variable {g : Gph} {p : Prt} {T S : List (List Int)} {d x y : Int} {v : Nat}
theorem min_le {l : List Int} (h : 0 < l.length) {y : Int} (hy : y ∈ l) : Lib.minOf l ≤ y := by
  rw [min_get h]
  obtain ⟨j, hj, rfl⟩ := (mem_getI _ _).1 hy
  exact (minAt_least l l.length j hj).1

theorem getI_mp (f : Int → Int) (l : List Int) {j : Nat} (h : j < l.length) : getI (l.map f) j = f (getI l j) := by
  rw [getI_of _ _ (by rw [List.length_map]; exact h), getI_of _ _ h, List.getElem_map]

theorem mk_half (h : Turns g p T) (hd : d ∈ faces (prs p.e) (Rt.nxt g T)) : mk g p T d / 2 = d / 2 := by
  obtain ⟨h1, h2⟩ := mk_face h hd
  have hm := (nxt_perm h.mir).mem_faces.1 h1
  have hd2 := (nxt_perm h).mem_faces.1 hd
  have a := hm.2 (twi d) (prs_twi hd2.1) h2.symm
  have c := twin_conn h h2
  rw [Rt.twi_twi] at c
  have b := hd2.2 (twi (mk g p T d)) (prs_twi hm.1) c
  have e1 := Rt.twi_half d
  have e2 := Rt.twi_half (mk g p T d)
  omega

theorem thr_mk (h : Turns g p T) {x : Wlk} (hx : x ∈ walksOf g p T) : thr x = mk g p T x.1 := by
  rcases mem_walks.1 hx with ⟨v, hv, _, rfl⟩ | ⟨d, hd, rfl⟩
  · have := v_nn h.right hv
    unfold thr
    rw [if_pos rfl, mk_lone (by show -1 - v < 0; omega)]
  · have hP := nxt_perm h
    have hP2 := nxt_perm h.mir
    have hd2 := hP.mem_faces.1 hd
    have ht := prs_twi hd2.1
    have h0 := face_nn h hd
    have hpos : 0 < (orb (Rt.nxt g T) (prs p.e).length d).length := by rw [orb_len]; exact per_pos _ _ _
    have hpm : 0 < ((orb (Rt.nxt g T) (prs p.e).length d).map twi).length := by rw [List.length_map]; exact hpos
    have hne : ¬ orb (Rt.nxt g T) (prs p.e).length d = [] := fun e => by rw [e] at hpos; exact absurd hpos (Nat.lt_irrefl _)
    unfold thr wlk
    rw [if_neg hne]
    unfold mk
    rw [if_neg (by show ¬ d < 0; omega)]
    refine (key_dart h.mir ht ?_ ?_).1.symm
    · obtain ⟨y, hy, e⟩ := List.mem_map.1 (min_in hpm)
      rw [← e]
      have c := twin_conn (g := g) (p := p) h.mir (x := d) (y := y) (by rw [mirmir]; exact (hP.mem_orb hd2.1 (Nat.le_refl _)).1 hy)
      exact (hP2.mem_orb ht (Nat.le_refl _)).2 c
    · intro y hy
      have c := twin_conn h ((hP2.mem_orb ht (Nat.le_refl _)).1 hy)
      rw [Rt.twi_twi] at c
      refine min_le hpm (List.mem_map.2 ⟨twi y, (hP.mem_orb hd2.1 (Nat.le_refl _)).2 c, Rt.twi_twi y⟩)

theorem own_apart (hH : Hung g p T S) (hv : v < S.length) {i j : Nat} (hij : i < j) (hj : j < (getT S v).length) : ownI g p (getI (getT S v) i) ≠ ownI g p (getI (getT S v) j) := by
  have hg : Good1 (keysOf g p T) (ownI g p) S v := lists_good hH.lists hH.forest hv
  intro e
  have hf := hg.forest (j - 1) (by omega)
  rw [show j - 1 + 1 = j by omega, ← e] at hf
  cases i with
  | zero => exact hf (Conn.refl _ _)
  | succ i =>
    refine hf (Conn.arc ?_)
    show _ ∈ upto (ownI g p) S v (j - 1)
    unfold upto
    refine List.mem_append_right _ ?_
    rw [List.mem_take_iff_getElem]
    have hs := starL_get (own := ownI g p) (l := getT S v) (k := i) (by omega)
    obtain ⟨hi, he⟩ := List.getElem?_eq_some_iff.1 hs
    exact ⟨i, by omega, he⟩

theorem own_edge (h : Turns g p T) (hp1 : p.v.length ≤ 1000) (hp2 : p.e.length ≤ 1000) (hl : g.e.length ≤ 100000) (hx : x ∈ keysOf g p T) (h0 : 0 ≤ x) (hxy : x / 2 = y / 2) : ownI g p x = ownI g p y := by
  obtain ⟨a, ha, rfl⟩ := List.mem_map.1 hx
  have hok := plc_ok h hp1 hp2 hl
  rcases key_cov h a ha with ⟨j, hj, z, hz, e⟩ | ⟨j, hj, z, hz, e⟩
  · have := (hok.v j hj z hz).2.1
    omega
  · obtain ⟨e1, e2, _, _⟩ := hok.e j hj z hz
    have hy2 : y = 2 * z ∨ y = 2 * z + 1 := by omega
    rcases e with e | e <;> rcases hy2 with e' | e' <;> rw [e, e'] <;> simp only [e1, e2]

theorem mk_rise (h : Turns g p T) (hp1 : p.v.length ≤ 1000) (hp2 : p.e.length ≤ 1000) (hl : g.e.length ≤ 100000) (hx : x ∈ keysOf g p T) (hy : y ∈ keysOf g p T) (hlt : x < y) (hne : ownI g p x ≠ ownI g p y) : mk g p T x < mk g p T y := by
  by_cases h0 : x < 0
  · rw [mk_lone h0]
    by_cases h1 : y < 0
    · rw [mk_lone h1]; exact hlt
    · rcases mem_keys.1 hy with ⟨v, hv, _, rfl⟩ | hf
      · have := v_nn h.right hv
        omega
      · have := face_nn h.mir (mk_face h hf).1
        omega
  · have hfx : x ∈ faces (prs p.e) (Rt.nxt g T) := by
      rcases mem_keys.1 hx with ⟨v, hv, _, rfl⟩ | hf
      · have := v_nn h.right hv
        omega
      · exact hf
    have hfy : y ∈ faces (prs p.e) (Rt.nxt g T) := by
      rcases mem_keys.1 hy with ⟨v, hv, _, rfl⟩ | hf
      · have := v_nn h.right hv
        omega
      · exact hf
    have e1 := mk_half h hfx
    have e2 := mk_half h hfy
    have hd : x / 2 ≠ y / 2 := fun e => hne (own_edge h hp1 hp2 hl hx (by omega) e)
    omega

theorem mk_list (h : Turns g p T) (hp1 : p.v.length ≤ 1000) (hp2 : p.e.length ≤ 1000) (hl : g.e.length ≤ 100000) (hH : Hung g p T S) (hv : v < S.length) : (getT S v).map (mk g p T) = msort (keysOf g p (Rt.mir T)) (mk g p T) (getT S v) := by
  have hm : getT S v ∈ S := getT_mem hv
  have hr := ren h
  have hk := hH.lists.keys _ hm
  refine up_same ?_ (msort_up hr) (fun y => ?_)
  · refine List.pairwise_map.2 (List.pairwise_iff_getElem.2 fun i j hi hj hij => ?_)
    have hup := List.pairwise_iff_getElem.1 (hH.lists.up _ hm) i j hi hj hij
    have hap := own_apart hH hv hij hj
    rw [getI_of _ _ hi, getI_of _ _ hj] at hap
    exact mk_rise h hp1 hp2 hl (hk _ (List.getElem_mem hi)) (hk _ (List.getElem_mem hj)) hup hap
  · rw [mem_msort hr hk, List.mem_map]

/-- The lists there, in the order of those here. -/
def there (g : Gph) (p : Prt) (T S : List (List Int)) : List (List Int) := S.map fun l => l.map (mk g p T)
theorem there_msort (h : Turns g p T) (hp1 : p.v.length ≤ 1000) (hp2 : p.e.length ≤ 1000) (hl : g.e.length ≤ 100000) (hH : Hung g p T S) : there g p T S = S.map (msort (keysOf g p (Rt.mir T)) (mk g p T)) := by
  refine List.map_congr_left fun l hlS => ?_
  obtain ⟨v, hv, rfl⟩ := List.getElem_of_mem hlS
  have := mk_list h hp1 hp2 hl hH hv
  rwa [getT_of S v hv] at this
theorem there_heads (h : Turns g p T) (hH : Hung g p T S) : ((there g p T S).map fun l => getI l 0).Nodup := by
  unfold there
  rw [List.map_map]
  refine List.pairwise_map.2 ?_
  have hr := ren h
  refine List.Pairwise.imp_of_mem ?_ hH.lists.apart
  intro l m hl hm hap e
  have two1 := hH.lists.two l hl
  have two2 := hH.lists.two m hm
  have i1 : getI l 0 ∈ l := Rt.getI_in _ _ (by omega)
  have i2 : getI m 0 ∈ m := Rt.getI_in _ _ (by omega)
  have e1 : getI (l.map (mk g p T)) 0 = mk g p T (getI l 0) := getI_mp _ _ (by omega)
  have e2 : getI (m.map (mk g p T)) 0 = mk g p T (getI m 0) := getI_mp _ _ (by omega)
  have e' : getI (l.map (mk g p T)) 0 = getI (m.map (mk g p T)) 0 := e
  rw [e1, e2] at e'
  have b1 := hr.back _ (hH.lists.keys l hl _ i1)
  have b2 := hr.back _ (hH.lists.keys m hm _ i2)
  rw [e', b2] at b1
  exact hap _ i1 (b1 ▸ i2)
theorem there_some (hH : Hung g p T S) : ∀ l ∈ there g p T S, 0 < l.length := fun l hl => by
  obtain ⟨m, hm, rfl⟩ := List.mem_map.1 hl
  have := hH.lists.two m hm
  rw [List.length_map]
  omega
theorem there_sorted (h : Turns g p T) (hp1 : p.v.length ≤ 1000) (hp2 : p.e.length ≤ 1000) (hl : g.e.length ≤ 100000) (hH : Hung g p T S) {U : List (List Int)} (hp : U.Perm (there g p T S)) (hu : U.Pairwise fun l m => getI l 0 < getI m 0) : U = mirP g p T S := by
  have hr := ren h
  refine sorted_ext (fun a b (h1 : getI a 0 < getI b 0) (h2 : getI b 0 < getI a 0) => by omega) hu (mirS_heads hr hH.lists) (fun l => ?_)
  rw [hp.mem_iff, there_msort h hp1 hp2 hl hH, List.mem_map]
  exact (mem_mirS hr hH.lists).symm
end Go.Proofs.YtmbpmepoaonleaaGreat.Pl

/-! The program's Mirror. -/
namespace Go.Proofs.YtmbpmepoaonleaaGreat.Pl
open Go.Proofs.YtmbpmepoaonleaaGreat Go.Proofs.YtmbpmepoaonleaaGreat.Fc Go.Proofs.YtmbpmepoaonleaaGreat.Rt Go.RowKit Go.Maps

variable {g : Gph} {p : Prt} {T S : List (List Int)} {w w' : World}
def mpTo (f : Int → Int) (l : List Int) (j : Nat) : List Int := (l.take j).map f
theorem mpTo_zero (f : Int → Int) (l : List Int) : mpTo f l 0 = [] := by simp [mpTo]
theorem mpTo_succ (f : Int → Int) {l : List Int} {j : Nat} (h : j < l.length) : mpTo f l (j + 1) = mpTo f l j ++ [f (getI l j)] := by
  unfold mpTo
  rw [take_succ_getI _ j h, List.map_append]
  rfl
theorem mpTo_len (f : Int → Int) {l : List Int} {j : Nat} (h : j ≤ l.length) : (mpTo f l j).length = j := by unfold mpTo; rw [List.length_map, List.length_take]; omega
theorem mpTo_all (f : Int → Int) (l : List Int) : mpTo f l l.length = l.map f := by unfold mpTo; rw [List.take_length]
def thTo (f : Int → Int) (S : List (List Int)) (k : Nat) : List (List Int) := (S.take k).map fun l => l.map f
theorem thTo_zero (f : Int → Int) (S : List (List Int)) : thTo f S 0 = [] := by simp [thTo]
theorem thTo_succ (f : Int → Int) {S : List (List Int)} {k : Nat} (h : k < S.length) : thTo f S (k + 1) = thTo f S k ++ [(getT S k).map f] := by
  unfold thTo
  rw [take_getT S k h, List.map_append]
  rfl
theorem thTo_len (f : Int → Int) {S : List (List Int)} {k : Nat} (h : k ≤ S.length) : (thTo f S k).length = k := by unfold thTo; rw [List.length_map, List.length_take]; omega
theorem thTo_all (g : Gph) (p : Prt) (T S : List (List Int)) : thTo (mk g p T) S S.length = there g p T S := by unfold thTo there; rw [List.take_length]

/-- What a walk's key, and its darts, are, as numbers. -/
theorem key_facts (h : Turns g p T) (hl : g.e.length ≤ 100000) (hn : g.n ≤ 100000) : ∀ x ∈ walksOf g p T, (Lit.int .i64 x.1).wf = true ∧ (Lit.int .i64 (mk g p T x.1)).wf = true ∧ (p.e.length ≤ 1000 → x.2.length ≤ 1000000) ∧ ∀ d ∈ x.2, -9223372036854775808 ≤ d ∧ d ≤ 9223372036854775807 := fun x hx => by
  have hk : x.1 ∈ keysOf g p T := List.mem_map.2 ⟨x, hx, rfl⟩
  have b : ∀ {U : List (List Int)} (_ : Turns g p U) {d : Int}, d ∈ prs p.e → 0 ≤ d ∧ d ≤ 200000 := fun hU d hd => by
    have h1 := (mem_dart hU.right).1 hd
    have h2 := (ints g p hU.right h1.2).2.1
    have := h1.1
    omega
  have key : ∀ {U : List (List Int)} (hU : Turns g p U) {κ : Int}, κ ∈ keysOf g p U → -100000 ≤ κ ∧ κ ≤ 200000 := fun hU κ hκ => by
    rcases mem_keys.1 hκ with ⟨v, hv, _, rfl⟩ | hf
    · have := v_nn hU.right hv
      omega
    · have := b hU ((nxt_perm hU).mem_faces.1 hf).1
      omega
  have k1 := key h hk
  have k2 := key h.mir ((ren h).to _ hk)
  refine ⟨wf64 (by omega) (by omega), wf64 (by omega) (by omega), fun hp => ?_, fun d hd => ?_⟩
  · rcases walk_facts h hx with ⟨e, _⟩ | ⟨_, _, _, _, _, h5⟩
    · rw [e]; exact Nat.zero_le _
    · omega
  · rcases mem_walks.1 hx with ⟨v, hv, _, rfl⟩ | ⟨a, ha, rfl⟩
    · exact absurd hd List.not_mem_nil
    · have := b h ((nxt_perm h).orb_in ((nxt_perm h).mem_faces.1 ha).1 hd)
      omega

set_option maxRecDepth 100000 in
set_option maxHeartbeats 2000000 in
theorem mirror_plan (v u x : Value) (w : World) (h : Gr w v g) (h' : Pt w u p) (hx : Pn w x T S) (hf : Fits g p T S) {er : Int} (hE : PErr g p T S er) :
    Calls Tryz.prog 12 #[v, u, x] w fun e w' => Below w.heap.size w w' ∧ ((er ≠ 0 ∧ e = .returned (.tuple #[.agg #[.slice none 0 0, .slice none 0 0], .int .i64 er])) ∨ (er = 0 ∧ ∃ r, e = .returned (.tuple #[r, .int .i64 0]) ∧ MadeP w' w.heap.size r ((mir (T.map fst)).map fst) (mirP g p T S))) := by
  have HG := Lib.hid h
  have HP := Lib.hid h'
  have HX := Lib.hid hx
  have HF := Lib.hid hf
  have HE := Lib.hid hE
  obtain ⟨ve, rfl, h1⟩ := h
  obtain ⟨vv, vp, rfl, h2, h3⟩ := h'
  obtain ⟨vT, vS, rfl, h4, h5⟩ := hx
  obtain ⟨Ae, ce, rfl⟩ := h1.form
  obtain ⟨Av, cv, rfl⟩ := ints_form h2
  obtain ⟨Ap, cp, rfl⟩ := ints_form h3
  obtain ⟨AT, cT, rfl, _, _⟩ := h4.form
  obtain ⟨AS, cS, rfl, _, _⟩ := h5.form
  obtain ⟨b1, b2, b3, hm⟩ := three_boxes w (.int .i64 g.n) (.slice Ae g.e.length ce) (.slice Av p.v.length cv) (.slice Ap p.e.length cp) (.slice AT T.length cT) (.slice AS S.length cS) 24 27 30
  have HB1 := Lib.hid b1
  have HB2 := Lib.hid b2
  have HB3 := Lib.hid b3
  have HM := Lib.hid hm
  have HG1 := Lib.hid (HG.out.below hm)
  have HP1 := Lib.hid (HP.out.below hm)
  have HX1 := Lib.hid (HX.out.below hm)
  clear b1 b2 b3 hm h1 h2 h3 h4 h5 HG HP HX hf hE
  go_enter Tryz.func12, Tryz.ntmps12
  go_wp2_with fail
  generalize hw0 : ((w.alloc (.cells #[.int .i64 g.n, .slice Ae g.e.length ce] 24)).alloc (.cells #[.slice Av p.v.length cv, .slice Ap p.e.length cp] 27)).alloc (.cells #[.slice AT T.length cT, .slice AS S.length cS] 30) = w0 at *
  have hs0 : w0.heap.size = w.heap.size + 1 + 1 + 1 := by rw [← hw0]; simp
  have HS0 := Lib.hid hs0
  obtain ⟨b4, hm4⟩ := one_box w0 (.slice none 0 0) (.slice none 0 0) 30
  rw [hs0] at b4
  have hsz : (w0.alloc (.cells #[.slice none 0 0, .slice none 0 0] 30)).heap.size = w.heap.size + 1 + 1 + 1 + 1 := by rw [World.size_alloc, hs0]
  have HB4 := Lib.hid b4
  have HB1 := Lib.hid (HB1.out.below hm4)
  have HB2 := Lib.hid (HB2.out.below hm4)
  have HB3 := Lib.hid (HB3.out.below hm4)
  have HM := Lib.hid (trans2 HM.out hm4)
  have HG1 := Lib.hid (HG1.out.below hm4)
  have HP1 := Lib.hid (HP1.out.below hm4)
  have HX1 := Lib.hid (HX1.out.below hm4)
  clear b4 hm4 hw0 hs0 HS0
  generalize w0.alloc (.cells #[.slice none 0 0, .slice none 0 0] 30) = w1 at *
  have HSZ := Lib.hid hsz
  clear hsz
  have HCB := Lib.hid (fun (W : World) (hW : Below w1.heap.size w1 W) => (⟨(HB1.out.below hW).c0, (HB1.out.below hW).c1, (HB2.out.below hW).c0, (HB2.out.below hW).c1, (HB3.out.below hW).c0, (HB3.out.below hW).c1⟩ :
    W.cell? ⟨w.heap.size, 0, none⟩ = some (.int .i64 g.n) ∧ W.cell? ⟨w.heap.size, 1, none⟩ = some (.slice Ae g.e.length ce) ∧ W.cell? ⟨w.heap.size + 1, 0, none⟩ = some (.slice Av p.v.length cv) ∧ W.cell? ⟨w.heap.size + 1, 1, none⟩ = some (.slice Ap p.e.length cp) ∧ W.cell? ⟨w.heap.size + 1 + 1, 0, none⟩ = some (.slice AT T.length cT) ∧ W.cell? ⟨w.heap.size + 1 + 1, 1, none⟩ = some (.slice AS S.length cS)))
  refine (right_any _ _ _ w1 HG1.out HP1.out HX1.out HF.out HE.out).mono ?_
  rintro e w2 ⟨rfl, hB2⟩
  have HBB2 := Lib.hid hB2
  clear hB2
  by_cases hs : er = 0
  case neg =>
    have t0 : (er != 0) = true := by simpa using hs
    have HNE := Lib.hid hs
    have HZ := Lib.hid (HB4.out.below HBB2.out)
    have z0 := HZ.out.c0
    have z1 := HZ.out.c1
    have z2 := HZ.out.thaw 0
    have z3 := HZ.out.thaw 1
    have HZ3 := Lib.hid (HZ.out.stored (.slice none 0 0) (.slice none 0 0))
    have HZC := Lib.hid (below_stored (b := w.heap.size + 1 + 1 + 1) (u' := .slice none 0 0) (v' := .slice none 0 0) (trans2 HM.out HBB2.out) (Nat.le_add_right _ 3))
    clear hs
    go_wp2
    refine bodyPost_ret (v := .tuple #[.agg #[.slice none 0 0, .slice none 0 0], .int .i64 er]) ?_ rfl ⟨HZC.out, .inl ⟨HNE.out, rfl⟩⟩
    simp [results, Tryz.results12, go_sem, HZ3.out.c0, HZ3.out.c1]
  subst hs
  obtain ⟨hsp, hHu⟩ := HE.out.zero.1 rfl
  have HTU := Lib.hid (sphE_iff.1 hsp).1
  have HHU := Lib.hid hHu
  have hn : g.n ≤ 100000 := by have := HTU.out.len; have := HF.out.hlT; omega
  have HKF := Lib.hid (key_facts HTU.out HF.out.hl hn)
  clear hsp hHu
  obtain ⟨c0, c1, d0, d1, e0, e1⟩ := HCB.out w2 HBB2.out
  have HWK := Lib.hid (walks_any _ _ _ g p T w2 (HG1.out.below HBB2.out) (HP1.out.below HBB2.out) (show LL w2 (.slice AT T.length cT) T from by obtain ⟨_, _, e, h1, _⟩ := HX1.out.below HBB2.out; cases e; exact h1) (Nat.le_trans HF.out.hl (by decide)) (Nat.le_trans HF.out.hp1 (by decide)) (Nat.le_trans HF.out.hp2 (by decide)) HF.out.hlT HF.out.hr HF.out.hw)
  go_wp2_with fail
  clear c0 c1 d0 d1 e0 e1
  refine HWK.out.mono ?_
  clear HWK
  rintro e w3 ⟨hB3, ⟨hne, _⟩ | ⟨_, mw, usw, rfl, hTw⟩⟩
  · exact absurd (terr_iff.2 HTU.out) hne
  have hTr := hTw.reads
  obtain ⟨Am, cm, rfl⟩ := hTw.shape
  rw [List.length_map] at hTr ⊢
  have HBB3 := Lib.hid (trans2 HBB2.out hB3)
  have hlW := walksOf_len g p T
  have hp1 := HF.out.hp1
  have hp2 := HF.out.hp2
  have HKT := Lib.hid (keysThere_any (f := mk g p T) _ w3 hTr (by omega) (fun x hx => (thr_mk HTU.out hx).symm) (fun x hx => ⟨(HKF.out x hx).1, (HKF.out x hx).2.1, (HKF.out x hx).2.2.1 hp2, (HKF.out x hx).2.2.2⟩))
  clear hTw hTr hB3
  go_wp2_with fail
  refine HKT.out.mono ?_
  clear HKT
  rintro e w4 ⟨mb, nn, rfl, hmb, hIM, hB4⟩
  have HIM := Lib.hid (show IMap w4 mb nn (fun x => x ∈ keysOf g p T) (mk g p T) from hIM)
  have HBB4 := Lib.hid (trans2 HBB3.out hB4)
  obtain ⟨c0, c1, d0, d1, e0, e1⟩ := HCB.out w4 HBB4.out
  have HWM := Lib.hid (fun (x : Int) (hx : x ∈ keysOf g p T) => (show (Lit.int .i64 x).wf = true ∧ (Lit.int .i64 (mk g p T x)).wf = true from by
    obtain ⟨a, ha, rfl⟩ := List.mem_map.1 hx
    exact ⟨(HKF.out a ha).1, (HKF.out a ha).2.1⟩))
  have HSL := Lib.hid (show LL w4 (.slice AS S.length cS) S from by obtain ⟨_, _, e, _, h1⟩ := HX1.out.below HBB4.out; cases e; exact h1)
  have hlS := HF.out.hlS
  clear hIM hB4 hmb HKF
  go_wp2
  clear c0 c1 d0 d1 e0 e1
  go_loopw [12, 41] (fun o i wr => ∃ k us, k ≤ S.length ∧ i = .int .i64 (k : Nat) ∧ Hid (Below w4.heap.size w4 wr) ∧ Hid (Made wr w4.heap.size o us (thTo (mk g p T) S k))) (fun _ i _ => S.length - (Go.RowKit.intOf i).toNat)
  case atStart => exact ⟨0, [], Nat.zero_le _, rfl, Lib.hid (Below.refl _ _), Lib.hid (by rw [thTo_zero]; exact Made.start _ _)⟩
  case round =>
    obtain ⟨k, us, hk, rfl, hB, hM⟩ := hrel
    rename_i o wr
    obtain ⟨wo, hwo⟩ : ∃ z, z = wr := ⟨_, rfl⟩
    subst hwo
    by_cases hlt : k < S.length
    · obtain ⟨b, off, rfl, hb, A1, c1, hck, hi⟩ := (HSL.out.below hB.out).get hlt
      obtain ⟨Ao, co, hso⟩ := hM.out.shape
      rw [thTo_len _ hk] at hso
      subst hso
      have HI := Lib.hid hi
      have HTS := Lib.hid (thTo_succ (mk g p T) hlt)
      have HN := Lib.hid (show (thTo (mk g p T) S k).length ≤ 1000000 by rw [thTo_len _ hk]; omega)
      have HKY := Lib.hid (HHU.out.lists.keys _ (getT_mem hlt))
      have hll := HF.out.hrS k
      clear hi
      generalize getT S k = l at *
      go_wp2
      clear hck
      go_loopw [15, 47] (fun o2 i wr => ∃ j, j ≤ l.length ∧ i = .int .i64 (j : Nat) ∧ Hid (Row wr wo.heap.size o2 (mpTo (mk g p T) l j)) ∧ Hid (Below wo.heap.size wo wr)) (fun _ i _ => l.length - (Go.RowKit.intOf i).toNat)
      case atStart => exact ⟨0, Nat.zero_le _, rfl, Lib.hid (by rw [mpTo_zero]; exact Row.nil _ _), Lib.hid (Below.refl _ _)⟩
      case round =>
        obtain ⟨j, hj, rfl, hR, hB2⟩ := hrel
        rename_i o2 wr
        by_cases hjl : j < l.length
        · obtain ⟨ub, uo, rfl, hub, huc⟩ := ints_at (HI.out.below hB2.out) hjl
          have hkin := HKY.out _ (Rt.getI_in _ _ hjl)
          have HKI := Lib.hid hkin
          have hwk := (HWM.out _ hkin).1
          have HMS := Lib.hid (mpTo_succ (mk g p T) hjl)
          have HLE := Lib.hid (show (mpTo (mk g p T) l j).length ≤ 4000000 by rw [mpTo_len _ hj]; omega)
          have HSZ2 := Lib.hid hB2.out.size
          have HIW := Lib.hid ((HIM.out.below hB.out).below hB2.out)
          obtain ⟨Aq, cq, rfl⟩ := ints_form hR.out.ints
          rw [mpTo_len _ hj] at hR ⊢
          clear hub hkin
          generalize getI l j = x at *
          go_wp2_with (first
            | (at_lookup; refine wpList_imap_get rfl _ _ rfl mb nn HIW.out hwk rfl rfl ?_; intro c hc; obtain rfl := hc HKI.out; clear hc)
            | (at_builtin; refine wpList_append1 rfl _ _ rfl rfl rfl hR.out HSZ2.out HLE.out ?_))
          intro v7 w7 hR7 hB7
          rw [← HMS.out] at hR7
          have HR7 := Lib.hid hR7
          have HB7 := Lib.hid (hB2.out.trans hB7)
          obtain ⟨A7, c7, hv7⟩ := ints_form hR7.ints
          subst hv7
          clear hR7 hB7 hR hB2 HLE HSZ2 HMS huc HIW
          go_wp2
          go_roundw
          case rel => exact ⟨j + 1, by omega, by go_num, HR7, HB7⟩
          case measure => simp [Go.RowKit.intOf]; omega
        · obtain rfl : j = l.length := by omega
          rw [mpTo_all] at hR
          have HU := Lib.hid (Row.le hR.out hB.out.size)
          have HB1' := Lib.hid (hB.out.trans (hB2.out.mono hB.out.size))
          have HM1 := Lib.hid (hM.out.below hB2.out)
          obtain ⟨Au, cu, rfl⟩ := ints_form hR.out.ints
          clear hR hB2
          generalize l.map (mk g p T) = fl at *
          go_wp2_with (at_builtin; refine wpList_append_list rfl _ _ rfl (v := .slice Ao k co) rfl rfl HM1.out HU.out HB1'.out.size HN.out ?_; intro v' us' w2 hM2 hG2 hB2)
          have HM2 := Lib.hid hM2
          have HB2' := Lib.hid (HB1'.out.trans hB2)
          obtain ⟨Av', cv', hsv⟩ := hM2.shape
          subst hsv
          clear hM2 hG2 hB2
          go_wp2
          go_roundw
          case rel => exact ⟨k + 1, _, by omega, by go_num, HB2', Lib.hid (by rw [HTS.out]; exact HM2.out)⟩
          case measure => simp [Go.RowKit.intOf]; omega
    · obtain rfl : k = S.length := by omega
      rw [thTo_all] at hM
      obtain ⟨Ao, co, rfl⟩ := hM.out.shape
      have hlt : (there g p T S).length = S.length := by unfold there; exact List.length_map _
      have hrt : ∀ j, (getT (there g p T S) j).length ≤ 1000000 := getT_few (fun l hl => by
        obtain ⟨m, hm, rfl⟩ := List.mem_map.1 hl
        rw [List.length_map]
        exact Nat.le_trans (few_getT HF.out.hrS hm) (by decide))
      have HSO := Lib.hid (sortByFirst_any hM.out hrt (by omega) (there_heads HTU.out HHU.out) (there_some HHU.out))
      rw [hlt] at HSO ⊢
      have hML := hM.out.own
      rw [hlt] at hML
      clear hM hrt
      go_wp2_with fail
      refine HSO.out.mono ?_
      clear HSO
      rintro e w6 ⟨rfl, us', T', hp, hup, hMd, hO6⟩
      have hB6 : Below w4.heap.size w4 w6 := hB.out.trans (hO6.below hB.out.size (fun i e => (hML.lt i e).1))
      have hTe := there_sorted HTU.out hp1 hp2 HF.out.hl HHU.out hp hup
      have hlT' : T'.length = S.length := by rw [hp.length_eq, hlt]
      subst hTe
      have HMD := Lib.hid hMd
      have HBB6 := Lib.hid (trans2 HBB4.out hB6)
      have HW4 := Lib.hid (trans2 HM.out HBB4.out).size
      have HLM := Lib.hid hlT'
      clear hML hp hup hMd hO6 hlt hlT' hB6 hB
      obtain ⟨c0, c1, d0, d1, e0, e1⟩ := HCB.out w6 HBB6.out
      have HNW := Lib.hid (Rt.new_any _ _ _ g p T w6 (HG1.out.below HBB6.out) (HP1.out.below HBB6.out) (show LL w6 (.slice AT T.length cT) T from by obtain ⟨_, _, e, h1, _⟩ := HX1.out.below HBB6.out; cases e; exact h1) (Nat.le_trans HF.out.hl (by decide)) (by omega) (by omega) HF.out.hlT HF.out.hr HF.out.hw)
      go_wp2_with fail
      clear c0 c1 d0 d1 e0 e1
      refine HNW.out.mono ?_
      clear HNW
      rintro e w7 ⟨hB7, ⟨hne, _⟩ | ⟨_, rb, rfl, hRo⟩⟩
      · exact absurd (terr_iff.2 HTU.out) hne
      have hU := HTU.out.alike (alike_fst T)
      have hlU : (T.map fst).length ≤ 1000 := by rw [List.length_map]; exact HF.out.hlT
      have hrU : ∀ j, (getT (T.map fst) j).length ≤ 500 := fun j => by rw [getT_map fst fst_nil, fst_len]; exact HF.out.hr j
      have hwU : ∀ j, ∀ y ∈ getT (T.map fst) j, (Lit.int .i64 y).wf = true := fun j y hy => by
        rw [getT_map fst fst_nil] at hy
        exact HF.out.hw j y ((fst_in _ _).1 hy)
      have hlV : ((mir (T.map fst)).map fst).length = T.length := by rw [List.length_map, mir, List.length_map, List.length_map]
      have hrV : ∀ j, (getT ((mir (T.map fst)).map fst) j).length ≤ 1000000 := fun j => by
        rw [getT_map fst fst_nil, fst_len, getT_mir, List.length_reverse]
        have := hrU j
        omega
      have HMI := Lib.hid (Rt.mirror_any rb g p (T.map fst) w7 hRo hU hlU hrU hwU)
      have HBB7 := Lib.hid (trans2 HBB6.out hB7)
      have HMD7 := Lib.hid (HMD.out.below hB7)
      have HLV := Lib.hid hlV
      have hlT := HF.out.hlT
      have hlV2 : ((mir (T.map fst)).map fst).length ≤ 1000000 := by omega
      clear hU hlU hrU hwU hRo hB7 HMD hlV
      generalize hV : (mir (T.map fst)).map fst = V at *
      have HV := Lib.hid hV
      clear hV
      go_wp2_with fail
      refine HMI.out.mono ?_
      clear HMI
      rintro e w8 ⟨m, rfl, hRm, hB8⟩
      have HTN := Lib.hid (Rt.turn_any m g p V w8 hRm hlV2 hrV)
      have HBB8 := Lib.hid (trans2 HBB7.out hB8)
      have HMD8 := Lib.hid (HMD7.out.below hB8)
      clear hRm hB8 HMD7
      go_wp2_with fail
      refine HTN.out.mono ?_
      clear HTN
      rintro e w9 ⟨vt, ut, rfl, hMt, hB9⟩
      obtain ⟨At, ct, rfl⟩ := hMt.shape
      have hlV3 := HLV.out
      rw [hlV3] at hMt ⊢
      have HBB9 := Lib.hid (trans2 HBB8.out hB9)
      have HMD9 := Lib.hid (HMD8.out.below hB9)
      have HZ := Lib.hid (HB4.out.below HBB9.out)
      have z0 := HZ.out.c0
      have z1 := HZ.out.c1
      have z2 := HZ.out.thaw 0
      have z3 := HZ.out.thaw 1
      have h84 : w.heap.size + 1 + 1 + 1 < w8.heap.size := by have := HBB8.out.size; rw [HSZ.out] at this; omega
      have h44 : w.heap.size + 1 + 1 + 1 < w4.heap.size := by have := HBB4.out.size; rw [HSZ.out] at this; omega
      have HZ3 := Lib.hid (HZ.out.stored (.slice At T.length ct) (.slice Ao S.length co))
      have HZC := Lib.hid (below_stored (b := w.heap.size + 1 + 1 + 1) (u' := .slice At T.length ct) (v' := .slice Ao S.length co) (trans2 HM.out HBB9.out) (Nat.le_add_right _ 3))
      have HR1 := Lib.hid (Made.le (Made.set (Made.set hMt h84 0 (.slice At T.length ct)) h84 1 (.slice Ao S.length co)) (show w.heap.size ≤ w8.heap.size by omega))
      have HR2 := Lib.hid (Made.le (Made.set (Made.set HMD9.out h44 0 (.slice At T.length ct)) h44 1 (.slice Ao S.length co)) (show w.heap.size ≤ w4.heap.size by omega))
      clear hMt hB9 HMD8 HMD9
      go_wp2
      refine bodyPost_ret (v := .tuple #[.agg #[.slice At T.length ct, .slice Ao S.length co], .int .i64 0]) ?_ rfl ⟨HZC.out, ⟨_, rfl, _, _, _, _, rfl, by rw [HV.out]; exact HR1.out, HR2.out⟩⟩
      simp [results, Tryz.results12, go_sem, HZ3.out.c0, HZ3.out.c1]
end Go.Proofs.YtmbpmepoaonleaaGreat.Pl

/-! A drawing's mirror is a drawing, and its mirror is the drawing again. -/
namespace Go.Proofs.YtmbpmepoaonleaaGreat.Pl
open Go.Proofs.YtmbpmepoaonleaaGreat Go.Proofs.YtmbpmepoaonleaaGreat.Fc Go.Proofs.YtmbpmepoaonleaaGreat.Rt Go.RowKit Go.Maps

variable {g : Gph} {p : Prt} {T U S : List (List Int)}
theorem mir_fst (h : Turns g p T) : (mir (T.map fst)).map fst = (mir T).map fst :=
  h.mir.fst_alike ⟨by simp [mir], fun v => by rw [getT_mir, getT_mir]; exact Ring1.reverse ((alike_fst T).2 v)⟩
/-- Turned about, and begun with the least. -/
def mirF (T : List (List Int)) : List (List Int) := (mir T).map fst
theorem mirF_fits (hf : Fits g p T S) (hs : sphE g p T = 0) (hH : Hung g p T S) : Fits g p (mirF T) (mirP g p T S) := by
  obtain ⟨h, _⟩ := sphE_iff.1 hs
  have hM := (hH.mir h).lists
  have hr := ren h
  have hlk : (keysOf g p (mir T)).length ≤ 3000 := by
    have := walksOf_len g p (mir T)
    have := hf.hp1
    have := hf.hp2
    unfold keysOf
    rw [List.length_map]
    omega
  have hn : g.n ≤ 100000 := by have := h.len; have := hf.hlT; omega
  have hm : ∀ l ∈ mirP g p T S, l.length ≤ 3000 := fun l hl => by
    obtain ⟨m, _, rfl⟩ := (mem_mirS hr hH.lists).1 hl
    exact Nat.le_trans (List.length_filter_le _ _) hlk
  refine ⟨hf.hl, hf.hp1, hf.hp2, by unfold mirF; rw [List.length_map, mir, List.length_map]; exact hf.hlT, fun j => ?_, fun j x hx => ?_, ?_, fun j => ?_, fun j x hx => ?_⟩
  · unfold mirF
    rw [getT_map fst fst_nil, fst_len, getT_mir, List.length_reverse]
    exact hf.hr j
  · unfold mirF at hx
    rw [getT_map fst fst_nil] at hx
    have := (fst_in _ _).1 hx
    rw [getT_mir, List.mem_reverse] at this
    exact hf.hw j x this
  · have h1 := hM.heads_count (up_nodup (keys_up h.mir))
    have h2 : ((keysOf g p (mir T)).filter fun κ => inB (mirP g p T S) κ && fstB (mirP g p T S) κ).length ≤ (keysOf g p (mir T)).length := List.length_filter_le _ _
    rw [h1] at h2
    omega
  · exact Nat.le_trans (getT_few hm j) (by decide)
  · by_cases hj : j < (mirP g p T S).length
    · have hk := hM.keys _ (getT_mem hj) x hx
      obtain ⟨a, ha, rfl⟩ := List.mem_map.1 hk
      exact (key_facts h.mir hf.hl hn a ha).1
    · rw [getT_out _ _ hj] at hx
      exact absurd hx List.not_mem_nil
end Go.Proofs.YtmbpmepoaonleaaGreat.Pl
