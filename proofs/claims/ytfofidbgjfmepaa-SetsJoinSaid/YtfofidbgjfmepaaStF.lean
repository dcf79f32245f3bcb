/-
  The program's Same, Head, Join.
-/
import Derived.Test.YtfofidbgjfmepaaStE
import Derived.Deep.RegionWith
namespace Go.Proofs.Ytfofidbgjfmepaa
open Go.RowKit Go.Maps

set_option maxRecDepth 100000 in
set_option maxHeartbeats 1000000 in
theorem same_any (w : World) (F : Nat → Prop) (sb : Nat) (s : St) (x y : Int) (h : Holds w F sb s) (hx : (Lit.int .i64 x).wf = true) (hy : (Lit.int .i64 y).wf = true) :
    Calls Try.prog 12 #[.pointer (some ⟨sb, 0, none⟩), .int .i64 x, .int .i64 y] w fun e w' => e = .returned (.bool (s.same x y)) ∧ Keeps F w sb s w' := by
  have HF := Lib.hid (find_any w F sb s x h hx)
  have HFy := Lib.hid (fun w (h : Holds w F sb s) => find_any w F sb s y h hy)
  by_cases hm : x ∈ s.ts
  · have e1 := (St.find_in hm).1
    have HI := Lib.hid (St.find_in hm).2.1
    rw [e1] at HF
    by_cases hm2 : y ∈ s.ts
    · have e2 := (St.find_in hm2).1
      have HI2 := Lib.hid (St.find_in hm2).2.1
      rw [e2] at HFy
      have HN : Hid (((getN s.gr (s.place x) : Int) == (getN s.gr (s.place y) : Int)) = s.same x y) := by
        show _ = decide _
        by_cases e : getN s.gr (s.place x) = getN s.gr (s.place y)
        · rw [decide_eq_true ⟨hm, hm2, e⟩, e]; simp
        · rw [decide_eq_false (fun h => e h.2.2)]
          exact beq_eq_false_iff_ne.2 (fun h => e (by exact_mod_cast h))
      clear e1 e2 hm hm2
      generalize hpx : s.place x = px at *
      generalize hpy : s.place y = py at *
      go_enter Try.func12, Try.ntmps12
      go_wp2_with fail
      refine HF.out.mono ?_
      rintro e w1 ⟨rfl, hB1⟩
      go_wp2_with fail
      refine (HFy.out w1 (h.below hB1)).mono ?_
      rintro e w2 ⟨rfl, hB2⟩
      have H2 := h.below (trans2 hB1 hB2)
      go_wp2_with fail
      refine (first_any' w2 F sb s H2 px HI.out).mono ?_
      rintro e w3 ⟨rfl, hK3⟩
      go_wp2_with fail
      refine (first_any' w3 F sb s hK3.1 py HI2.out).mono ?_
      rintro e w4 ⟨rfl, hK4⟩
      go_wp2
      all_goals (go_ret; exact ⟨ret_bool HN.out, (Keeps.below h (trans2 hB1 hB2)).trans (hK3.trans hK4)⟩)
    · have e2 := St.find_out hm2
      rw [e2] at HFy
      have HN : Hid (s.same x y = false) := decide_eq_false (fun h => hm2 h.2.1)
      clear e1 e2 hm hm2
      generalize hpx : s.place x = px at *
      go_enter Try.func12, Try.ntmps12
      go_wp2_with fail
      refine HF.out.mono ?_
      rintro e w1 ⟨rfl, hB1⟩
      go_wp2_with fail
      refine (HFy.out w1 (h.below hB1)).mono ?_
      rintro e w2 ⟨rfl, hB2⟩
      go_wp2
      go_ret
      exact ⟨ret_bool HN.out.symm, Keeps.below h (trans2 hB1 hB2)⟩
  · have e1 := St.find_out hm
    rw [e1] at HF
    have HN : Hid (s.same x y = false) := decide_eq_false (fun h => hm h.1)
    clear e1 hm
    go_enter Try.func12, Try.ntmps12
    go_wp2_with fail
    refine HF.out.mono ?_
    rintro e w1 ⟨rfl, hB1⟩
    go_wp2_with fail
    refine (HFy.out w1 (h.below hB1)).mono ?_
    rintro e w2 ⟨rfl, hB2⟩
    go_wp2
    go_ret
    exact ⟨ret_bool HN.out.symm, Keeps.below h (trans2 hB1 hB2)⟩

theorem Rep.thing {w : World} {F : Nat → Prop} {sb bm : Nat} {s : St} {tv av : Value} {D : DataW Unit} {ah : List Nat} (h : Rep w F sb s tv av bm D ah) {tb n cap : Nat} (hv : tv = .slice (some ⟨tb, 0, none⟩) n cap) {j : Nat} (hj : j < s.ts.length) :
    w.cell? ⟨tb, j, none⟩ = some (.int .i64 (getI s.ts j)) := by
  obtain ⟨tb', cap', hv', _, hc⟩ := h.tv_at (by omega)
  rw [hv] at hv'
  simp only [Value.slice.injEq, Option.some.injEq, Addr.mk.injEq] at hv'
  rw [hv'.1.1]
  exact hc j hj

/-- The thing of a thing's group that came first. -/
def St.head (s : St) (x : Int) : Int := getI s.ts (s.root x)

set_option maxRecDepth 100000 in
set_option maxHeartbeats 1000000 in
theorem head_any (w : World) (F : Nat → Prop) (sb : Nat) (s : St) (x : Int) (h : Holds w F sb s) (hx : (Lit.int .i64 x).wf = true) :
    Calls Try.prog 19 #[.pointer (some ⟨sb, 0, none⟩), .int .i64 x] w fun e w' => e = .returned (if x ∈ s.ts then .tuple #[.int .i64 (s.head x), .bool true] else .tuple #[.int .i64 0, .bool false]) ∧ Keeps F w sb s w' := by
  have HF := Lib.hid (find_any w F sb s x h hx)
  by_cases hm : x ∈ s.ts
  · have e1 := (St.find_in hm).1
    have hI := (St.find_in hm).2.1
    have hR := St.root_lt h.ok hm
    rw [e1] at HF
    rw [if_pos hm]
    have HH := Lib.hid (show s.head x = getI s.ts (getN s.gr (s.place x)) from rfl)
    change getN s.gr (s.place x) < _ ∧ _ at hR
    have hrl := hR.1
    clear e1 hm hR
    generalize hpx : s.place x = px at *
    generalize hr : getN s.gr px = r at *
    go_enter Try.func19, Try.ntmps19
    go_wp2_with fail
    refine HF.out.mono ?_
    rintro e w1 ⟨rfl, hB1⟩
    obtain ⟨tv, av, bm, D, ah, R⟩ := h.below hB1
    obtain ⟨tb, cap, rfl, hFt, hct⟩ := R.tv_at (by omega)
    have c0 := R.c0
    have hcr := hct r hrl
    have HC := Lib.hid (first_any w1.drew F sb bm s _ av D ah (R.drewN 1) px hI)
    rw [hr] at HC
    have HO0 := Lib.hid (Only.of_below (F := F) hB1)
    have hsz := R.lt
    clear R hct HF
    go_wp2
    go_region_with (first | (go_at_call 22; refine HC.out.mono ?_; rintro e w2 ⟨rfl, ah', R', hO⟩; have c0' := R'.c0; have hcr' := R'.thing rfl hrl))
    all_goals (go_wp2; go_ret2; exact ⟨by rw [HH.out]; rfl, ⟨⟨_, _, _, _, _, R'⟩, HO0.out.trans' ((Only.of_below (below_drewN' w1 1)).trans' hO)⟩⟩)
  · have e1 := St.find_out hm
    rw [e1] at HF
    rw [if_neg hm]
    clear e1 hm
    go_enter Try.func19, Try.ntmps19
    go_wp2_with fail
    refine HF.out.mono ?_
    rintro e w1 ⟨rfl, hB1⟩
    go_wp2
    go_ret2
    exact ⟨rfl, Keeps.below h hB1⟩

/-- A way ahead is laid from one group's first place to the other's, and the count is one less. -/
theorem Rep.join {w : World} {F : Nat → Prop} {sb bm : Nat} {s : St} {tv av : Value} {D : DataW Unit} {ah : List Nat} (h : Rep w F sb s tv av bm D ah) {ab n cap a b : Nat} (hav : av = .slice (some ⟨ab, 0, none⟩) n cap)
    (ha : a < s.gr.length) (hb : b < s.gr.length) (ra : getN s.gr a = a) (rb : getN s.gr b = b) (hne : a ≠ b) (ok : St.Ok ⟨s.ts, joinG s.gr a b⟩) {v : Int} (hv : v = (heads (joinG s.gr a b) : Int)) :
    Keeps F w sb ⟨s.ts, joinG s.gr a b⟩ ((w.setCell ⟨ab, max a b, none⟩ (.int .i64 ((min a b : Nat) : Int))).setCell ⟨sb, 3, none⟩ (.int .i64 v)) := by
  have hF : F ab := h.fav ab (by rw [hav]; rfl)
  have hoth : ∀ k, k ≠ ab → (w.setCell ⟨ab, max a b, none⟩ (.int .i64 ((min a b : Nat) : Int))).heap[k]? = w.heap[k]? := fun k hk => Below.heap_setCell _ _ _ _ hk
  have hz : (w.setCell ⟨ab, max a b, none⟩ (.int .i64 ((min a b : Nat) : Int))).heap.size = w.heap.size := by simp [World.setCell]
  have hsb : sb ≠ ab := fun e => h.av_sb (by rw [hav, e]; rfl)
  have M : Mid (w.setCell ⟨ab, max a b, none⟩ (.int .i64 ((min a b : Nat) : Int))) F sb tv s.ts av (natsI (ah.set (max a b) (min a b))) bm s.ts.length D (.int .i64 (heads s.gr : Int)) := by
    refine ⟨(hoth sb hsb).trans h.box, own_block h.things (fun g hg => hoth g (fun e => ?_)), ?_, map_same h.places (hoth bm (fun e => h.av_bm (by rw [hav, e]; rfl))), h.apart, h.fsb, h.fbm, h.ftv, h.fav⟩
    · rcases h.apart with e1 | e1
      · rw [e1] at hg; cases hg
      · exact e1 (by rw [hg, hav, e]; rfl)
    · have ho := h.ahead
      subst hav
      have hn : n = (natsI ah).length := by
        rcases ho.2 with ⟨e, _⟩ | ⟨g, c, cur, e, _⟩
        · cases e
        · simp only [Value.slice.injEq] at e; omega
      subst hn
      have h1 := (ho.stored (max a b) (.int .i64 ((min a b : Nat) : Int))).1
      rw [natsI_set, List.length_set, List.map_set]
      exact h1
  obtain ⟨M2, O2⟩ := M.count (.int .i64 v)
  subst hv
  refine ⟨⟨tv, av, bm, D, ah.set (max a b) (min a b), ⟨M2.box, M2.things, M2.ahead, M2.apart, M2.places, h.tells, h.leads.join ha hb ra rb hne, ok, h.fsb, h.fbm, h.ftv, h.fav, fun k hk => ?_⟩⟩, (Only.setCell w hF _).trans' O2⟩
  have := h.flt k hk
  simp only [World.setCell, Array.size_modify] at *
  exact this

set_option maxRecDepth 100000 in
set_option maxHeartbeats 2000000 in
theorem join_any (w : World) (F : Nat → Prop) (sb : Nat) (s : St) (x y : Int) (h : Holds w F sb s) (hx : (Lit.int .i64 x).wf = true) (hy : (Lit.int .i64 y).wf = true) (hl : s.ts.length ≤ 900000) :
    Calls Try.prog 11 #[.pointer (some ⟨sb, 0, none⟩), .int .i64 x, .int .i64 y] w fun e w' => e = .returned (.bool (s.joins x y)) ∧ After F w sb (s.join x y) w' := by
  have HF := Lib.hid (find_any w F sb s x h hx)
  have HFy := Lib.hid (fun w (h : Holds w F sb s) => find_any w F sb s y h hy)
  have h1 : (Lib.idxOf s.ts x == (-2)) = false := by
    refine beq_eq_false_iff_ne.2 fun e => ?_
    rcases idx_cases s.ts x with ⟨k, _, h2, _⟩ | ⟨h2, _⟩ <;> rw [h2] at e <;> omega
  have h2 : (Lib.idxOf s.ts y == (-2)) = false := by
    refine beq_eq_false_iff_ne.2 fun e => ?_
    rcases idx_cases s.ts y with ⟨k, _, h2, _⟩ | ⟨h2, _⟩ <;> rw [h2] at e <;> omega
  have hGx := Lib.hid (fun w (h : Holds w F sb s) => get_any w F sb s x h hx (by omega))
  have hl1 := St.len_add s x
  have hGy := Lib.hid (fun w F (h : Holds w F sb (s.add x)) => get_any w F sb (s.add x) y h hy (by omega))
  have okx := St.ok_add h.ok hx
  have okb := St.ok_both h.ok hx hy
  have hmx : x ∈ (s.add x).ts := St.mem_add_self s x
  have hmxb : x ∈ (s.both x y).ts := St.mem_add_of y hmx
  have hmyb : y ∈ (s.both x y).ts := St.mem_add_self (s.add x) y
  have hPx := Lib.hid (St.find_in hmx).2.1
  have hPy := Lib.hid (St.find_in hmyb).2.1
  have hRx : Hid (getN (s.add x).gr ((s.add x).place x) = (s.both x y).root x) := Lib.hid (St.root_add okx y hmx).symm
  have hRy : Hid (getN (s.both x y).gr ((s.both x y).place y) = (s.both x y).root y) := Lib.hid rfl
  have rx := St.root_lt okb hmxb
  have ry := St.root_lt okb hmyb
  have HB : Hid ((s.add x).add y = s.both x y) := Lib.hid rfl
  by_cases he : (s.both x y).root x = (s.both x y).root y
  · obtain ⟨j1, j2⟩ := St.joins_false he
    have HJ1 := Lib.hid j1
    have HJ2 := Lib.hid j2
    rw [he] at hRx
    clear j1 j2 he okx okb hmx hmxb hmyb rx ry
    generalize hr : (s.both x y).root y = r at *
    go_enter Try.func11, Try.ntmps11
    go_wp2_with fail
    refine HF.out.mono ?_
    rintro e w1 ⟨rfl, hB1⟩
    go_wp2_with fail
    refine (HFy.out w1 (h.below hB1)).mono ?_
    rintro e w2 ⟨rfl, hB2⟩
    have hK2 := Keeps.below h (trans2 hB1 hB2)
    go_wp2_with fail
    refine (hGx.out w2 hK2.1).mono ?_
    rintro e w3 ⟨rfl, F3, hH3, hO3, hF3⟩
    go_wp2_with fail
    refine (first_any' w3 F3 sb _ hH3 _ hPx.out).mono ?_
    rintro e w4 ⟨rfl, hK4⟩
    rw [hRx.out]
    go_wp2_with fail
    refine (hGy.out w4 F3 hK4.1).mono ?_
    rintro e w5 ⟨rfl, F5, hH5, hO5, hF5⟩
    rw [HB.out] at hH5 ⊢
    go_wp2_with fail
    refine (first_any' w5 F5 sb _ hH5 _ hPy.out).mono ?_
    rintro e w6 ⟨rfl, hK6⟩
    rw [hRy.out]
    have hA : After F w sb (s.join x y) w6 := by
      rw [HJ2.out]
      have a1 : After F5 w5 sb (s.both x y) w6 := hK6.after
      have a2 : After F3 w4 sb (s.both x y) w6 := After.trans hO5 hF5 a1
      have a3 : After F w2 sb (s.both x y) w6 := After.trans hO3 hF3 (hK4.then a2)
      exact hK2.then a3
    go_wp2
    go_ret
    exact ⟨ret_bool HJ1.out.symm, hA⟩
  · obtain ⟨j1, j2⟩ := St.joins_true he
    have HJ1 := Lib.hid j1
    have HJ2 := Lib.hid j2
    have okj := Lib.hid (j2 ▸ St.ok_join h.ok hx hy)
    have hla : (s.both x y).root x < (s.both x y).gr.length := by rw [okb.len]; exact rx.1
    have hlb : (s.both x y).root y < (s.both x y).gr.length := by rw [okb.len]; exact ry.1
    have HC := Lib.hid (heads_join hla hlb rx.2 ry.2 he)
    have hcnt : heads (s.both x y).gr ≤ 1000000 := Nat.le_trans (heads_le _) (by rw [okb.len]; have := St.len_both s x y; omega)
    have HLa := Lib.hid rx.2
    have HLb := Lib.hid ry.2
    have HGL := Lib.hid okb.len
    clear j1 j2 okx okb hmx hmxb hmyb rx ry
    generalize hra : (s.both x y).root x = a at *
    generalize hrb : (s.both x y).root y = b at *
    have hne : ((a : Int) == (b : Int)) = false := beq_eq_false_iff_ne.2 (by omega)
    have HNE := Lib.hid he
    clear he
    go_enter Try.func11, Try.ntmps11
    go_wp2_with fail
    refine HF.out.mono ?_
    rintro e w1 ⟨rfl, hB1⟩
    go_wp2_with fail
    refine (HFy.out w1 (h.below hB1)).mono ?_
    rintro e w2 ⟨rfl, hB2⟩
    have hK2 := Keeps.below h (trans2 hB1 hB2)
    go_wp2_with fail
    refine (hGx.out w2 hK2.1).mono ?_
    rintro e w3 ⟨rfl, F3, hH3, hO3, hF3⟩
    go_wp2_with fail
    refine (first_any' w3 F3 sb _ hH3 _ hPx.out).mono ?_
    rintro e w4 ⟨rfl, hK4⟩
    rw [hRx.out]
    go_wp2_with fail
    refine (hGy.out w4 F3 hK4.1).mono ?_
    rintro e w5 ⟨rfl, F5, hH5, hO5, hF5⟩
    rw [HB.out] at hH5 ⊢
    go_wp2_with fail
    refine (first_any' w5 F5 sb _ hH5 _ hPy.out).mono ?_
    rintro e w6 ⟨rfl, hK6⟩
    rw [hRy.out]
    have hA : ∀ s' w7, Keeps F5 w6 sb s' w7 → After F w sb s' w7 := fun s' w7 h7 => by
      have a1 : After F5 w5 sb s' w7 := hK6.then h7.after
      have a2 : After F3 w4 sb s' w7 := After.trans hO5 hF5 a1
      have a3 : After F w2 sb s' w7 := After.trans hO3 hF3 (hK4.then a2)
      exact hK2.then a3
    obtain ⟨tv, av, bm, D, ah, R⟩ := hK6.1
    obtain ⟨ab, cap, hav, hFa, hb1, hb2, hb3, hc, hz⟩ := R.av_at (by rw [R.leads.1]; omega)
    have c2 := R.c2
    have c3 := R.c3
    rw [hav] at c2
    have hlen := R.leads.1
    rw [hlen] at c2
    have hcm := hc (max a b) (by omega)
    have hzm := hz (max a b)
    have hz3 := R.fz 3
    have hmx : max a b < (s.both x y).gr.length := by omega
    have HJ := Lib.hid (R.join (v := (heads (s.both x y).gr : Int) - 1) hav hla hlb HLa.out HLb.out HNE.out okj.out (by rw [HC.out]; omega))
    clear R hc hz hav
    rcases Nat.lt_or_ge a b with hab | hab
    · rw [Nat.max_eq_right (Nat.le_of_lt hab), Nat.min_eq_left (Nat.le_of_lt hab)] at HJ
      rw [Nat.max_eq_right (Nat.le_of_lt hab)] at hcm hzm
      have hba : ¬ b < a := by omega
      clear hmx
      go_wp2
      go_ret
      exact ⟨ret_bool HJ1.out.symm, by rw [HJ2.out]; exact hA _ _ HJ.out⟩
    · have hba : b < a := by have := HNE.out; omega
      have hab' : ¬ a < b := by omega
      rw [Nat.max_eq_left hab, Nat.min_eq_right hab] at HJ
      rw [Nat.max_eq_left hab] at hcm hzm
      clear hmx hab
      go_wp2
      go_ret
      exact ⟨ret_bool HJ1.out.symm, by rw [HJ2.out]; exact hA _ _ HJ.out⟩

end Go.Proofs.Ytfofidbgjfmepaa
