/-
  StF, StG, StH, StI, StJ, StK, in one text.
-/
import Derived.Test.YtmbpmepoaonleaaGreatM15
import Derived.Deep.RegionWith
import Derived.Deep.OwnRows
/-! The program's Same, Head, Join. -/
namespace Go.Proofs.YtmbpmepoaonleaaGreat
open Go.RowKit Go.Maps

theorem Rep.thing {w : World} {F : Nat → Prop} {sb bm : Nat} {s : St} {tv av : Value} {D : DataW Unit} {ah : List Nat} (h : Rep w F sb s tv av bm D ah) {tb n cap : Nat} (hv : tv = .slice (some ⟨tb, 0, none⟩) n cap) {j : Nat} (hj : j < s.ts.length) :
    w.cell? ⟨tb, j, none⟩ = some (.int .i64 (getI s.ts j)) := by
  obtain ⟨tb', cap', hv', _, hc⟩ := h.tv_at (by omega)
  rw [hv] at hv'
  simp only [Value.slice.injEq, Option.some.injEq, Addr.mk.injEq] at hv'
  rw [hv'.1.1]
  exact hc j hj

/-- The thing of a thing's group that came first. -/
def St.head (s : St) (x : Int) : Int := getI s.ts (s.root x)

/-- A way ahead is laid from one group's first place to the other's, and the count is one less. -/
theorem Rep.join {w : World} {F : Nat → Prop} {sb bm : Nat} {s : St} {tv av : Value} {D : DataW Unit} {ah : List Nat} (h : Rep w F sb s tv av bm D ah) {ab n cap a b : Nat} (hav : av = .slice (some ⟨ab, 0, none⟩) n cap)
    (ha : a < s.gr.length) (hb : b < s.gr.length) (ra : getN s.gr a = a) (rb : getN s.gr b = b) (hne : a ≠ b) (ok : St.Ok ⟨s.ts, joinG s.gr a b⟩) {v : Int} (hv : v = (heads (joinG s.gr a b) : Int)) :
    Keeps F w sb ⟨s.ts, joinG s.gr a b⟩ ((w.setCell ⟨ab, max a b, none⟩ (.int .i64 ((min a b : Nat) : Int))).setCell ⟨sb, 3, none⟩ (.int .i64 v)) := by
  have hF : F ab := h.fav ab (by rw [hav]; rfl)
  have hoth : ∀ k, k ≠ ab → (w.setCell ⟨ab, max a b, none⟩ (.int .i64 ((min a b : Nat) : Int))).heap[k]? = w.heap[k]? := fun k hk => Below.heap_setCell _ _ _ _ hk
  have hz : (w.setCell ⟨ab, max a b, none⟩ (.int .i64 ((min a b : Nat) : Int))).heap.size = w.heap.size := by simp [World.setCell]
  have hsb : sb ≠ ab := fun e => h.av_sb (by rw [hav, e]; rfl)
  have M : Mid (w.setCell ⟨ab, max a b, none⟩ (.int .i64 ((min a b : Nat) : Int))) F sb tv s.ts av (natsI (ah.set (max a b) (min a b))) bm s.ts.length D (.int .i64 (heads s.gr : Int)) := by
    refine ⟨(hoth sb hsb).trans h.box, own_block h.things (fun g hg => hoth g (fun e => ?_)), ?_, map_same h.places (hoth bm (fun e => h.av_bm (by rw [hav, e]; rfl))), h.apart, h.fsb, h.fbm, h.ftv, h.fav⟩
    · rcases h.apart with e1 | e1
      · rw [e1] at hg; cases hg
      · exact e1 (by rw [hg, hav, e]; rfl)
    · have ho := h.ahead
      subst hav
      have hn : n = (natsI ah).length := by
        rcases ho.2 with ⟨e, _⟩ | ⟨g, c, cur, e, _⟩
        · cases e
        · simp only [Value.slice.injEq] at e; omega
      subst hn
      have h1 := (ho.stored (max a b) (.int .i64 ((min a b : Nat) : Int))).1
      rw [natsI_set, List.length_set, List.map_set]
      exact h1
  obtain ⟨M2, O2⟩ := M.count (.int .i64 v)
  subst hv
  refine ⟨⟨tv, av, bm, D, ah.set (max a b) (min a b), ⟨M2.box, M2.things, M2.ahead, M2.apart, M2.places, h.tells, h.leads.join ha hb ra rb hne, ok, h.fsb, h.fbm, h.ftv, h.fav, fun k hk => ?_⟩⟩, (Only.setCell w hF _).trans' O2⟩
  have := h.flt k hk
  simp only [World.setCell, Array.size_modify] at *
  exact this

set_option maxRecDepth 100000 in
set_option maxHeartbeats 2000000 in
theorem join_any (w : World) (F : Nat → Prop) (sb : Nat) (s : St) (x y : Int) (h : Holds w F sb s) (hx : (Lit.int .i64 x).wf = true) (hy : (Lit.int .i64 y).wf = true) (hl : s.ts.length ≤ 900000) :
    Calls Tryz.prog 104 #[.pointer (some ⟨sb, 0, none⟩), .int .i64 x, .int .i64 y] w fun e w' => e = .returned (.bool (s.joins x y)) ∧ After F w sb (s.join x y) w' := by
  have HF := Lib.hid (find_any w F sb s x h hx)
  have HFy := Lib.hid (fun w (h : Holds w F sb s) => find_any w F sb s y h hy)
  have h1 : (Lib.idxOf s.ts x == (-2)) = false := by
    refine beq_eq_false_iff_ne.2 fun e => ?_
    rcases idx_cases s.ts x with ⟨k, _, h2, _⟩ | ⟨h2, _⟩ <;> rw [h2] at e <;> omega
  have h2 : (Lib.idxOf s.ts y == (-2)) = false := by
    refine beq_eq_false_iff_ne.2 fun e => ?_
    rcases idx_cases s.ts y with ⟨k, _, h2, _⟩ | ⟨h2, _⟩ <;> rw [h2] at e <;> omega
  have hGx := Lib.hid (fun w (h : Holds w F sb s) => get_any w F sb s x h hx (by omega))
  have hl1 := St.len_add s x
  have hGy := Lib.hid (fun w F (h : Holds w F sb (s.add x)) => get_any w F sb (s.add x) y h hy (by omega))
  have okx := St.ok_add h.ok hx
  have okb := St.ok_both h.ok hx hy
  have hmx : x ∈ (s.add x).ts := St.mem_add_self s x
  have hmxb : x ∈ (s.both x y).ts := St.mem_add_of y hmx
  have hmyb : y ∈ (s.both x y).ts := St.mem_add_self (s.add x) y
  have hPx := Lib.hid (St.find_in hmx).2.1
  have hPy := Lib.hid (St.find_in hmyb).2.1
  have hRx : Hid (getN (s.add x).gr ((s.add x).place x) = (s.both x y).root x) := Lib.hid (St.root_add okx y hmx).symm
  have hRy : Hid (getN (s.both x y).gr ((s.both x y).place y) = (s.both x y).root y) := Lib.hid rfl
  have rx := St.root_lt okb hmxb
  have ry := St.root_lt okb hmyb
  have HB : Hid ((s.add x).add y = s.both x y) := Lib.hid rfl
  by_cases he : (s.both x y).root x = (s.both x y).root y
  · obtain ⟨j1, j2⟩ := St.joins_false he
    have HJ1 := Lib.hid j1
    have HJ2 := Lib.hid j2
    rw [he] at hRx
    clear j1 j2 he okx okb hmx hmxb hmyb rx ry
    generalize hr : (s.both x y).root y = r at *
    go_enter Tryz.func104, Tryz.ntmps104
    go_wp2_with fail
    refine HF.out.mono ?_
    rintro e w1 ⟨rfl, hB1⟩
    go_wp2_with fail
    refine (HFy.out w1 (h.below hB1)).mono ?_
    rintro e w2 ⟨rfl, hB2⟩
    have hK2 := Keeps.below h (trans2 hB1 hB2)
    go_wp2_with fail
    refine (hGx.out w2 hK2.1).mono ?_
    rintro e w3 ⟨rfl, F3, hH3, hO3, hF3⟩
    go_wp2_with fail
    refine (first_any' w3 F3 sb _ hH3 _ hPx.out).mono ?_
    rintro e w4 ⟨rfl, hK4⟩
    rw [hRx.out]
    go_wp2_with fail
    refine (hGy.out w4 F3 hK4.1).mono ?_
    rintro e w5 ⟨rfl, F5, hH5, hO5, hF5⟩
    rw [HB.out] at hH5 ⊢
    go_wp2_with fail
    refine (first_any' w5 F5 sb _ hH5 _ hPy.out).mono ?_
    rintro e w6 ⟨rfl, hK6⟩
    rw [hRy.out]
    have hA : After F w sb (s.join x y) w6 := by
      rw [HJ2.out]
      have a1 : After F5 w5 sb (s.both x y) w6 := hK6.after
      have a2 : After F3 w4 sb (s.both x y) w6 := After.trans hO5 hF5 a1
      have a3 : After F w2 sb (s.both x y) w6 := After.trans hO3 hF3 (hK4.then a2)
      exact hK2.then a3
    go_wp2
    go_ret
    exact ⟨ret_bool HJ1.out.symm, hA⟩
  · obtain ⟨j1, j2⟩ := St.joins_true he
    have HJ1 := Lib.hid j1
    have HJ2 := Lib.hid j2
    have okj := Lib.hid (j2 ▸ St.ok_join h.ok hx hy)
    have hla : (s.both x y).root x < (s.both x y).gr.length := by rw [okb.len]; exact rx.1
    have hlb : (s.both x y).root y < (s.both x y).gr.length := by rw [okb.len]; exact ry.1
    have HC := Lib.hid (heads_join hla hlb rx.2 ry.2 he)
    have hcnt : heads (s.both x y).gr ≤ 1000000 := Nat.le_trans (heads_le _) (by rw [okb.len]; have := St.len_both s x y; omega)
    have HLa := Lib.hid rx.2
    have HLb := Lib.hid ry.2
    have HGL := Lib.hid okb.len
    clear j1 j2 okx okb hmx hmxb hmyb rx ry
    generalize hra : (s.both x y).root x = a at *
    generalize hrb : (s.both x y).root y = b at *
    have hne : ((a : Int) == (b : Int)) = false := beq_eq_false_iff_ne.2 (by omega)
    have HNE := Lib.hid he
    clear he
    go_enter Tryz.func104, Tryz.ntmps104
    go_wp2_with fail
    refine HF.out.mono ?_
    rintro e w1 ⟨rfl, hB1⟩
    go_wp2_with fail
    refine (HFy.out w1 (h.below hB1)).mono ?_
    rintro e w2 ⟨rfl, hB2⟩
    have hK2 := Keeps.below h (trans2 hB1 hB2)
    go_wp2_with fail
    refine (hGx.out w2 hK2.1).mono ?_
    rintro e w3 ⟨rfl, F3, hH3, hO3, hF3⟩
    go_wp2_with fail
    refine (first_any' w3 F3 sb _ hH3 _ hPx.out).mono ?_
    rintro e w4 ⟨rfl, hK4⟩
    rw [hRx.out]
    go_wp2_with fail
    refine (hGy.out w4 F3 hK4.1).mono ?_
    rintro e w5 ⟨rfl, F5, hH5, hO5, hF5⟩
    rw [HB.out] at hH5 ⊢
    go_wp2_with fail
    refine (first_any' w5 F5 sb _ hH5 _ hPy.out).mono ?_
    rintro e w6 ⟨rfl, hK6⟩
    rw [hRy.out]
    have hA : ∀ s' w7, Keeps F5 w6 sb s' w7 → After F w sb s' w7 := fun s' w7 h7 => by
      have a1 : After F5 w5 sb s' w7 := hK6.then h7.after
      have a2 : After F3 w4 sb s' w7 := After.trans hO5 hF5 a1
      have a3 : After F w2 sb s' w7 := After.trans hO3 hF3 (hK4.then a2)
      exact hK2.then a3
    obtain ⟨tv, av, bm, D, ah, R⟩ := hK6.1
    obtain ⟨ab, cap, hav, hFa, hb1, hb2, hb3, hc, hz⟩ := R.av_at (by rw [R.leads.1]; omega)
    have c2 := R.c2
    have c3 := R.c3
    rw [hav] at c2
    have hlen := R.leads.1
    rw [hlen] at c2
    have hcm := hc (max a b) (by omega)
    have hzm := hz (max a b)
    have hz3 := R.fz 3
    have hmx : max a b < (s.both x y).gr.length := by omega
    have HJ := Lib.hid (R.join (v := (heads (s.both x y).gr : Int) - 1) hav hla hlb HLa.out HLb.out HNE.out okj.out (by rw [HC.out]; omega))
    clear R hc hz hav
    rcases Nat.lt_or_ge a b with hab | hab
    · rw [Nat.max_eq_right (Nat.le_of_lt hab), Nat.min_eq_left (Nat.le_of_lt hab)] at HJ
      rw [Nat.max_eq_right (Nat.le_of_lt hab)] at hcm hzm
      have hba : ¬ b < a := by omega
      clear hmx
      go_wp2
      go_ret
      exact ⟨ret_bool HJ1.out.symm, by rw [HJ2.out]; exact hA _ _ HJ.out⟩
    · have hba : b < a := by have := HNE.out; omega
      have hab' : ¬ a < b := by omega
      rw [Nat.max_eq_left hab, Nat.min_eq_right hab] at HJ
      rw [Nat.max_eq_left hab] at hcm hzm
      clear hmx hab
      go_wp2
      go_ret
      exact ⟨ret_bool HJ1.out.symm, by rw [HJ2.out]; exact hA _ _ HJ.out⟩

end Go.Proofs.YtmbpmepoaonleaaGreat

/-! The program's New. -/
namespace Go.Proofs.YtmbpmepoaonleaaGreat
open Go.RowKit Go.Maps

/-- Things put in, one behind the other. -/
def St.news (l : List Int) : St := l.foldl St.add St.empty
theorem St.news_succ (l : List Int) (k : Nat) (h : k < l.length) : St.news (l.take (k + 1)) = (St.news (l.take k)).add (getI l k) := by
  unfold St.news; rw [take_succ_getI l k h, List.foldl_append]; rfl
theorem St.len_news_aux : ∀ (l : List Int) (s : St), (l.foldl St.add s).ts.length ≤ s.ts.length + l.length
  | [], s => by simp
  | x :: l, s => by
    have h := St.len_news_aux l (s.add x)
    have h2 := St.len_add s x
    simp only [List.foldl_cons, List.length_cons]
    omega
theorem St.len_news (l : List Int) : (St.news l).ts.length ≤ l.length := by
  have := St.len_news_aux l St.empty
  simp [St.empty] at this
  exact this

theorem holds_start (w : World) :
    Holds ((w.alloc (.map #[] 0)).alloc (.cells #[.slice none 0 0, .map (some w.heap.size), .slice none 0 0, .int .i64 0] 143)) (fun k => k = w.heap.size ∨ k = w.heap.size + 1) (w.heap.size + 1) St.empty := by
  have hm := (World.ownsMap_made w Tryz.prog 3 (plainElem (H := Unit) Tryz.prog 3)).alloc (.cells #[.slice none 0 0, .map (some w.heap.size), .slice none 0 0, .int .i64 0] 143)
  refine ⟨.slice none 0 0, .slice none 0 0, w.heap.size, .map [], [], ⟨?_, World.ownsRow_nil _ _ _ _, World.ownsRow_nil _ _ _ _, .inl rfl, hm, Tells.start, ⟨rfl, fun i h => absurd h (Nat.not_lt_zero _)⟩, St.ok_empty, .inr rfl, .inl rfl, fun k hk => (by cases hk), fun k hk => (by cases hk), ?_⟩⟩
  · have := heap_alloc_new (w.alloc (.map #[] 0)) (.cells #[.slice none 0 0, .map (some w.heap.size), .slice none 0 0, .int .i64 0] 143)
    rw [show (w.alloc (.map #[] 0)).heap.size = w.heap.size + 1 by simp] at this
    exact this
  · rintro k (rfl | rfl) <;> simp <;> omega

set_option maxRecDepth 100000 in
set_option maxHeartbeats 1000000 in
theorem new_any (w : World) (v : Value) (l : List Int) (h : Ints w v l) (hwf : ∀ x ∈ l, (Lit.int .i64 x).wf = true) (hl : l.length ≤ 100000) :
    Calls Tryz.prog 78 #[v] w fun e w' => ∃ sb F', e = .returned (.pointer (some ⟨sb, 0, none⟩)) ∧ Holds w' F' sb (St.news l) ∧ Below w.heap.size w w' ∧ ∀ k, F' k → w.heap.size ≤ k := by
  obtain ⟨A, cap, rfl, hcap, hm, hcell⟩ := h
  have hmm := @run_makeMap Tryz.prog
  have HS := Lib.hid (holds_start w)
  have HB0 : Below w.heap.size w ((w.alloc (.map #[] 0)).alloc (.cells #[.slice none 0 0, .map (some w.heap.size), .slice none 0 0, .int .i64 0] 143)) :=
    ((Below.refl _ w).alloc (Nat.le_refl _) _).alloc (by simp) _
  go_enter Tryz.func78, Tryz.ntmps78
  go_wp2
  go_loopw [11] (fun i wr => ∃ k : Nat, k ≤ l.length ∧ i = .int .i64 (k : Int) ∧ ∃ F, Holds wr F (w.heap.size + 1) (St.news (l.take k)) ∧ Below w.heap.size w wr ∧ ∀ k, F k → w.heap.size ≤ k) (fun i _ => l.length - (intOf i).toNat)
  case atStart => exact ⟨0, Nat.zero_le _, rfl, _, HS.out, HB0, by rintro k (rfl | rfl) <;> omega⟩
  case round =>
    obtain ⟨k, hk, rfl, F, hH, hB, hF⟩ := hrel
    rename_i wr
    by_cases hlt : k < l.length
    · obtain ⟨b, off, rfl, hb, hc⟩ := hcell (by omega)
      have hck := (hB.cell (p := ⟨b, off + k, none⟩) hb).trans (hc k hlt)
      have HW := hwf (getI l k) ((mem_getI _ _).2 ⟨k, hlt, rfl⟩)
      have HN := Lib.hid (St.news_succ l k hlt)
      have hln := St.len_news (l.take k)
      rw [List.length_take] at hln
      have HC := Lib.hid (add_any wr F (w.heap.size + 1) _ (getI l k) hH HW (by omega))
      have hFl := Lib.hid (fun k hk => hF k hk)
      clear hc hcell hH HS HB0 hF hwf hln
      go_wp2_with fail
      refine HC.out.mono ?_
      rintro e w1 ⟨rfl, F1, hH1, hO1, hF1⟩
      have HB1 := hB.trans (hO1.below hB.size hFl.out)
      have hz := hB.size
      go_wp2
      go_roundw
      case rel => exact ⟨k + 1, by omega, by go_num, F1, by rw [HN.out]; exact hH1, HB1, fun j hj => (hF1 j hj).elim (hFl.out j) (fun h => by omega)⟩
      case measure => simp [intOf]; omega
    · obtain rfl : k = l.length := by omega
      have HT := Lib.hid (List.take_length (l := l))
      rw [HT.out] at hH
      clear hcell
      go_wp2
      go_ret
      exact ⟨_, F, rfl, hH, hB, hF⟩

end Go.Proofs.YtmbpmepoaonleaaGreat

/-! All groups, as plain mathematics: by their first things; and how one thing more turns them. -/
namespace Go.Proofs.YtmbpmepoaonleaaGreat
open Go.RowKit

namespace St

/-- The things below place k of one group, in order. -/
def memb (s : St) (k g : Nat) : List Int := ((List.range k).filter fun i => decide (getN s.gr i = g)).map (getI s.ts)
/-- The groups of the things below place k. -/
def groupsTo (s : St) (k : Nat) : List (List Int) := (headsTo s.gr k).map (memb s k)
def groups (s : St) : List (List Int) := groupsTo s s.ts.length
/-- How many groups begin below a place. -/
def rank (s : St) (r : Nat) : Nat := (headsTo s.gr r).length

theorem memb_succ (s : St) (k g : Nat) : memb s (k + 1) g = if getN s.gr k = g then memb s k g ++ [getI s.ts k] else memb s k g := by
  unfold memb
  rw [List.range_succ, List.filter_append]
  by_cases e : getN s.gr k = g <;> simp [e]
theorem memb_none {s : St} (ok : Ok s) (k : Nat) (hk : k ≤ s.ts.length) : memb s k k = [] := by
  unfold memb
  rw [List.filter_eq_nil_iff.2]
  · rfl
  · intro i hi
    rw [List.mem_range] at hi
    have := (ok.roots i (by rw [ok.len]; omega)).1
    simp; omega
theorem groupsTo_length (s : St) (k : Nat) : (groupsTo s k).length = s.rank k := by simp [groupsTo, rank]
theorem rank_le (s : St) (k : Nat) : s.rank k ≤ k := headsTo_le _ _

theorem headsTo_mem (gr : List Nat) (k g : Nat) (h : g ∈ headsTo gr k) : g < k ∧ getN gr g = g := by
  unfold headsTo headB at h
  simpa using h

/-- A group's first place among all. -/
theorem headsTo_at (gr : List Nat) (r : Nat) (hr : getN gr r = r) : ∀ k, r < k → ∃ B, headsTo gr k = headsTo gr r ++ r :: B ∧ ∀ g ∈ B, g ≠ r := by
  intro k hk
  obtain ⟨d, rfl⟩ : ∃ d, k = r + 1 + d := ⟨k - (r + 1), by omega⟩
  clear hk
  induction d with
  | zero => exact ⟨[], by rw [Nat.add_zero, headsTo_succ, if_pos hr], fun g h => by simp at h⟩
  | succ d ih =>
    obtain ⟨B, h1, h2⟩ := ih
    rw [show r + 1 + (d + 1) = r + 1 + d + 1 from rfl, headsTo_succ]
    by_cases e : getN gr (r + 1 + d) = r + 1 + d
    · rw [if_pos e, h1]
      refine ⟨B ++ [r + 1 + d], by simp, fun g hg => ?_⟩
      rcases List.mem_append.1 hg with hg | hg
      · exact h2 g hg
      · simp at hg; omega
    · rw [if_neg e]
      exact ⟨B, h1, h2⟩

/-- The groups, where a new one's place is laid if the next thing begins one. -/
def laid (s : St) (k : Nat) : List (List Int) := if getN s.gr k = k then groupsTo s k ++ [[]] else groupsTo s k

theorem groupsTo_succ {s : St} (ok : Ok s) (k : Nat) (hk : k < s.ts.length) :
    s.rank (getN s.gr k) < (laid s k).length ∧ groupsTo s (k + 1) = (laid s k).set (s.rank (getN s.gr k)) ((laid s k).getD (s.rank (getN s.gr k)) [] ++ [getI s.ts k]) := by
  obtain ⟨r1, r2⟩ := ok.roots k (by rw [ok.len]; exact hk)
  by_cases e : getN s.gr k = k
  · have hl : laid s k = groupsTo s k ++ [[]] := by unfold laid; rw [if_pos e]
    rw [hl, e]
    have hlen : (groupsTo s k).length = s.rank k := groupsTo_length s k
    refine ⟨by simp [hlen], ?_⟩
    rw [← hlen]
    unfold groupsTo
    rw [headsTo_succ, if_pos e, List.map_append]
    have h1 : (headsTo s.gr k).map (memb s (k + 1)) = (headsTo s.gr k).map (memb s k) := by
      refine List.map_congr_left fun g hg => ?_
      have := (headsTo_mem _ _ _ hg).1
      rw [memb_succ, if_neg (by omega)]
    have h2 : memb s (k + 1) k = [getI s.ts k] := by rw [memb_succ, if_pos e, memb_none ok k (by omega)]; rfl
    rw [h1]
    simp [h2]
  · have hl : laid s k = groupsTo s k := by unfold laid; rw [if_neg e]
    rw [hl]
    obtain ⟨B, h1, h2⟩ := headsTo_at s.gr (getN s.gr k) r2 k (by omega)
    have hA : ∀ g ∈ headsTo s.gr (getN s.gr k), memb s (k + 1) g = memb s k g := fun g hg => by
      have := (headsTo_mem _ _ _ hg).1
      rw [memb_succ, if_neg (by omega)]
    have hB : ∀ g ∈ B, memb s (k + 1) g = memb s k g := fun g hg => by rw [memb_succ, if_neg (fun e => h2 g hg e.symm)]
    have hr : memb s (k + 1) (getN s.gr k) = memb s k (getN s.gr k) ++ [getI s.ts k] := by rw [memb_succ, if_pos rfl]
    unfold groupsTo rank
    rw [headsTo_succ, if_neg e, h1]
    generalize headsTo s.gr (getN s.gr k) = H at *
    refine ⟨by simp, ?_⟩
    rw [List.map_append, List.map_cons, List.map_append, List.map_cons, List.map_congr_left hA, List.map_congr_left hB, hr]
    have hlen : H.length = (H.map (memb s k)).length := by simp
    rw [hlen]
    simp

end St

end Go.Proofs.YtmbpmepoaonleaaGreat

/-! A list of lists that a call makes: the outer slice, and a row for each list. -/
namespace Go.Proofs.YtmbpmepoaonleaaGreat
open Go.RowKit

theorem Tryz.infoInts : (Tryz.prog.info? 25).map (fun i => (i.zero, i.size, i.bytes)) = some (some (.slice none 0 0), 1, 24) := by kernel_rfl

/-- Grid of two types of cells lie in two blocks. -/
theorem own_types {w : World} {b b' : Nat} {e e' : TypeId} {size size' : Nat} {v v' : Value} {n n' : Nat} {xs xs' : List Value} (h : w.ownsRow b e size v n xs) (h' : w.ownsRow b' e' size' v' n' xs') (hne : e ≠ e') : v.ownBlock = none ∨ v.ownBlock ≠ v'.ownBlock := by
  rcases h'.2 with ⟨rfl, _⟩ | ⟨g, cap, cur, rfl, _, hg, _⟩
  · by_cases h0 : v.ownBlock = none
    · exact .inl h0
    · exact .inr h0
  · exact .inr (own_apart h hg hne)

/-- The value at a place of a list of values. -/
def getV (us : List Value) (j : Nat) : Value := us.getD j undef
/-- The list at a place of a list of lists. -/
def getL (ls : List (List Int)) (j : Nat) : List Int := ls.getD j []

theorem getV_set_same (us : List Value) (i : Nat) (u : Value) (h : i < us.length) : getV (us.set i u) i = u := by unfold getV; simp [h]
theorem getV_set_other (us : List Value) (i j : Nat) (u : Value) (h : i ≠ j) : getV (us.set i u) j = getV us j := by unfold getV; simp [h]
theorem getL_set_same (us : List (List Int)) (i : Nat) (u : List Int) (h : i < us.length) : getL (us.set i u) i = u := by unfold getL; simp [h]
theorem getL_set_other (us : List (List Int)) (i j : Nat) (u : List Int) (h : i ≠ j) : getL (us.set i u) j = getL us j := by unfold getL; simp [h]
theorem getV_app_left (us : List Value) (u : Value) (j : Nat) (h : j < us.length) : getV (us ++ [u]) j = getV us j := by unfold getV; simp [List.getElem?_append_left h]
theorem getV_app_right (us : List Value) (u : Value) : getV (us ++ [u]) us.length = u := by unfold getV; simp
theorem getL_app_left (us : List (List Int)) (u : List Int) (j : Nat) (h : j < us.length) : getL (us ++ [u]) j = getL us j := by unfold getL; simp [List.getElem?_append_left h]
theorem getL_app_right (us : List (List Int)) (u : List Int) : getL (us ++ [u]) us.length = u := by unfold getL; simp

/-- v is a slice of the call's own of the slices us, of which each owns its row; none lies in block nb. -/
structure Grid (w : World) (base : Nat) (nb : Option Nat) (v : Value) (us : List Value) (ls : List (List Int)) : Prop where
  own : w.ownsRow base 25 1 v us.length us
  len : us.length = ls.length
  each : ∀ j, j < ls.length → w.ownsRow base 3 1 (getV us j) (getL ls j).length ((getL ls j).map (Value.int .i64))
  apart : ∀ i j, i < ls.length → j < ls.length → i ≠ j → (getV us i).ownBlock = none ∨ (getV us i).ownBlock ≠ (getV us j).ownBlock
  shun : ∀ j, j < ls.length → (getV us j).ownBlock = none ∨ (getV us j).ownBlock ≠ nb

variable {w w1 : World} {base : Nat} {nb : Option Nat} {v : Value} {us : List Value} {ls : List (List Int)}

theorem Grid.start (w : World) (base : Nat) (nb : Option Nat) : Grid w base nb (.slice none 0 0) [] [] :=
  ⟨World.ownsRow_nil _ _ _ _, rfl, fun _ h => absurd h (Nat.not_lt_zero _), fun _ _ h => absurd h (Nat.not_lt_zero _), fun _ h => absurd h (Nat.not_lt_zero _)⟩

theorem Grid.same (h : Grid w base nb v us ls) (hs : ∀ g, base ≤ g → g < w.heap.size → w1.heap[g]? = w.heap[g]?) : Grid w1 base nb v us ls :=
  ⟨own_block h.own (fun g hg => hs g (h.own.lt g hg).1 (h.own.lt g hg).2), h.len, fun j hj => own_block (h.each j hj) (fun g hg => hs g ((h.each j hj).lt g hg).1 ((h.each j hj).lt g hg).2), h.apart, h.shun⟩

theorem Grid.below (h : Grid w base nb v us ls) (hb : Below w.heap.size w w1) : Grid w1 base nb v us ls := h.same (fun g _ hg => hb.block g hg)

/-- A cell of another row of numbers has been written. -/
theorem Grid.other (h : Grid w base nb v us ls) {b i : Nat} (hnb : nb = some b) (hv : v.ownBlock ≠ some b) (x : Value) : Grid (w.setCell ⟨b, i, none⟩ x) base nb v us ls :=
  ⟨own_block h.own (fun g hg => Below.heap_setCell _ _ _ _ (fun e => hv (by rw [hg, e]))), h.len, fun j hj => own_block (h.each j hj) (fun g hg => Below.heap_setCell _ _ _ _ (fun e => by
    rcases h.shun j hj with e1 | e1
    · rw [e1] at hg; cases hg
    · exact e1 (by rw [hg, e, hnb]))), h.apart, h.shun⟩

/-- A nil slice has been appended. -/
theorem Grid.push (h : Grid w base nb v us ls) {v' : Value} (hg : w.grownBy w1 v.ownBlock) (ho : w1.ownsRow base 25 1 v' (us.length + 1) (us ++ [.slice none 0 0])) :
    Grid w1 base nb v' (us ++ [.slice none 0 0]) (ls ++ [[]]) := by
  have hl := h.len
  have hr : ∀ j, j < ls.length → w1.ownsRow base 3 1 (getV us j) (getL ls j).length ((getL ls j).map (Value.int .i64)) := fun j hj => by
    refine (h.each j hj).kept hg ?_
    rcases own_types (h.each j hj) h.own (by decide) with e | e
    · exact .inl e
    · exact .inr e
  refine ⟨by rw [List.length_append]; exact ho, by simp [hl], fun j hj => ?_, fun i j hi hj hne => ?_, fun j hj => ?_⟩
  · simp at hj
    by_cases e : j = ls.length
    · subst e
      rw [getL_app_right, ← hl, getV_app_right]
      exact World.ownsRow_nil _ _ _ _
    · rw [getL_app_left _ _ _ (by omega), getV_app_left _ _ _ (by omega)]
      exact hr j (by omega)
  · simp at hi hj
    by_cases e : i = ls.length
    · subst e
      rw [← hl, getV_app_right]; exact .inl rfl
    · rw [getV_app_left _ _ _ (by omega)]
      by_cases e2 : j = ls.length
      · subst e2
        rw [← hl, getV_app_right]
        by_cases h0 : (getV us i).ownBlock = none
        · exact .inl h0
        · exact .inr h0
      · rw [getV_app_left _ _ _ (by omega)]
        exact h.apart i j (by omega) (by omega) hne
  · simp at hj
    by_cases e : j = ls.length
    · subst e
      rw [← hl, getV_app_right]; exact .inl rfl
    · rw [getV_app_left _ _ _ (by omega)]
      exact h.shun j (by omega)

/-- One of the lists has got one number more, and its slice has been stored. -/
theorem Grid.put (h : Grid w base nb v us ls) {gb n cap j : Nat} (hv : v = .slice (some ⟨gb, 0, none⟩) n cap) (hj : j < ls.length) {u' : Value} {x : Int} (hg : w.grownBy w1 (getV us j).ownBlock)
    (ho : w1.ownsRow base 3 1 u' ((getL ls j).length + 1) ((getL ls j).map (Value.int .i64) ++ [.int .i64 x])) (hat : u'.ownBlock = (getV us j).ownBlock ∨ u'.ownBlock = some w.heap.size) (hnb : ∀ b, nb = some b → b < w.heap.size) :
    Grid (w1.setCell ⟨gb, j, none⟩ u') base nb v (us.set j u') (ls.set j (getL ls j ++ [x])) := by
  have hl := h.len
  subst hv
  have hn : n = us.length := by
    rcases h.own.2 with ⟨e, _⟩ | ⟨g, c, cur, e, _⟩
    · cases e
    · simp only [Value.slice.injEq] at e; omega
  subst hn
  have hown1 : w1.ownsRow base 25 1 (.slice (some ⟨gb, 0, none⟩) us.length cap) us.length us := by
    refine h.own.kept hg (.inr ?_)
    rcases own_types h.own (h.each j hj) (by decide) with e | e
    · cases e
    · exact e
  have hst := hown1.stored j u'
  have hoth : ∀ k, k ≠ gb → (w1.setCell ⟨gb, j, none⟩ u').heap[k]? = w1.heap[k]? := fun k hk => Below.heap_setCell _ _ _ _ hk
  have hgb : ∀ {u : Value} {m : Nat} {zs : List Value}, w1.ownsRow base 3 1 u m zs → (w1.setCell ⟨gb, j, none⟩ u').ownsRow base 3 1 u m zs := fun {u m zs} hu => by
    refine own_block hu (fun g hgk => hoth g (fun e => ?_))
    rcases own_types hu hown1 (by decide) with e1 | e1
    · rw [e1] at hgk; cases hgk
    · exact e1 (by rw [hgk, e]; rfl)
  have hold : ∀ i, i < ls.length → i ≠ j → u'.ownBlock = none ∨ u'.ownBlock ≠ (getV us i).ownBlock := fun i hi hne => by
    rcases hat with e | e
    · rcases h.apart j i hj hi (Ne.symm hne) with e1 | e1
      · exact .inl (e.trans e1)
      · exact .inr (by rw [e]; exact e1)
    · right; rw [e]; intro e1
      have := ((h.each i hi).lt _ e1.symm).2
      omega
  refine ⟨by rw [List.length_set]; exact hst.1, by simp [hl], fun i hi => ?_, fun i i2 hi hi2 hne => ?_, fun i hi => ?_⟩
  · rw [List.length_set] at hi
    by_cases e : j = i
    · subst e
      rw [getL_set_same _ _ _ hj, getV_set_same _ _ _ (by omega)]
      refine hgb ?_
      rw [List.length_append, List.map_append]
      exact ho
    · rw [getL_set_other _ _ _ _ e, getV_set_other _ _ _ _ e]
      refine hgb ((h.each i hi).kept hg ?_)
      exact h.apart i j hi hj (Ne.symm e)
  · rw [List.length_set] at hi hi2
    by_cases e : j = i
    · subst e
      rw [getV_set_same _ _ _ (by omega), getV_set_other _ _ _ _ hne]
      exact hold i2 hi2 (Ne.symm hne)
    · rw [getV_set_other _ _ _ _ e]
      by_cases e2 : j = i2
      · subst e2
        rw [getV_set_same _ _ _ (by omega)]
        rcases hold i hi hne with e3 | e3
        · by_cases h0 : (getV us i).ownBlock = none
          · exact .inl h0
          · exact .inr (by rw [e3]; exact h0)
        · exact .inr (Ne.symm e3)
      · rw [getV_set_other _ _ _ _ e2]
        exact h.apart i i2 hi hi2 hne
  · rw [List.length_set] at hi
    by_cases e : j = i
    · subst e
      rw [getV_set_same _ _ _ (by omega)]
      rcases hat with e1 | e1
      · rcases h.shun j hj with e2 | e2
        · exact .inl (e1.trans e2)
        · exact .inr (by rw [e1]; exact e2)
      · right; rw [e1]; intro e2
        have := hnb _ e2.symm
        omega
    · rw [getV_set_other _ _ _ _ e]
      exact h.shun i hi

/-- The slice value reads as a list of lists; none of its blocks is one of F's. -/
def Lists (w : World) (F : Nat → Prop) (v : Value) (ls : List (List Int)) : Prop :=
  ∃ A cap, v = .slice A ls.length cap ∧ ls.length ≤ cap ∧ cap ≤ maxLen ∧
    (0 < ls.length → ∃ b, A = some ⟨b, 0, none⟩ ∧ ¬ F b ∧ b < w.heap.size ∧ ∀ j, j < ls.length → ∃ u, w.cell? ⟨b, j, none⟩ = some u ∧ Ints w u (getL ls j) ∧ Off F u)

theorem Lists.only {F : Nat → Prop} (h : Lists w F v ls) (ho : Only F w w1) : Lists w1 F v ls := by
  obtain ⟨A, cap, hv, hc, hm, hr⟩ := h
  refine ⟨A, cap, hv, hc, hm, fun h0 => ?_⟩
  obtain ⟨b, hA, hF, hb, hg⟩ := hr h0
  refine ⟨b, hA, hF, Nat.lt_of_lt_of_le hb ho.size, fun j hj => ?_⟩
  obtain ⟨u, h1, h2, h3⟩ := hg j hj
  exact ⟨u, ho.cell h1 hF, h2.only h3 ho, h3⟩

theorem Lists.nil (w : World) (F : Nat → Prop) : Lists w F (.slice none 0 0) [] := ⟨none, 0, rfl, Nat.le_refl _, by unfold maxLen; omega, fun h => absurd h (by simp)⟩

theorem Grid.lists {F : Nat → Prop} (h : Grid w base nb v us ls) (hF : ∀ k, F k → k < base) : Lists w F v ls := by
  have hl := h.len
  have ho := h.own
  rcases ho.2 with ⟨rfl, h0⟩ | ⟨g, cap, cur, rfl, hb, hg, hnc, hcm, _⟩
  · have e : ls = [] := List.length_eq_zero_iff.1 (by omega)
    subst e
    exact Lists.nil w F
  · refine ⟨some ⟨g, 0, none⟩, cap, by rw [hl], by omega, hcm, fun _ => ⟨g, rfl, fun f => absurd (hF g f) (by omega), (Array.getElem?_eq_some_iff.1 hg).1, fun j hj => ⟨getV us j, ?_, Ints.of_own (h.each j hj), fun b hb' f => ?_⟩⟩⟩
    · rw [ho.cellAt j (by omega)]
      unfold getV
      rw [List.getD_eq_getElem?_getD, List.getElem?_eq_getElem (by omega)]
      rfl
    · have := ((h.each j hj).lt b hb').1
      have := hF b f
      omega

end Go.Proofs.YtmbpmepoaonleaaGreat

/-! What the program's Groups holds while it goes over the things. -/
namespace Go.Proofs.YtmbpmepoaonleaaGreat
open Go.RowKit

structure Grd (w0 : World) (F : Nat → Prop) (sb : Nat) (s : St) (tv av : Value) (bm : Nat) (D : DataW Unit) (w : World) (gv : Value) (us : List Value) (ls : List (List Int)) (nums ah : List Nat) : Prop where
  rep : Rep w F sb s tv av bm D ah
  only : Only F w0 w
  num : w.ownsRow w0.heap.size 3 1 (.slice (some ⟨w0.heap.size, 0, none⟩) s.ts.length s.ts.length) s.ts.length ((natsI nums).map (Value.int .i64))
  nlen : nums.length = s.ts.length
  grid : Grid w w0.heap.size (some w0.heap.size) gv us ls
  flt : ∀ k, F k → k < w0.heap.size

theorem Grid.at_ {w : World} {base : Nat} {nb : Option Nat} {v : Value} {us : List Value} {ls : List (List Int)} (h : Grid w base nb v us ls) {j : Nat} (hj : j < ls.length) :
    ∃ gb cap, v = .slice (some ⟨gb, 0, none⟩) ls.length cap ∧ base ≤ gb ∧ gb < w.heap.size ∧ (∀ j, j < ls.length → w.cell? ⟨gb, j, none⟩ = some (getV us j)) ∧ ∀ j, w.frozen? ⟨gb, j, none⟩ = false := by
  have hl := h.len
  have ho := h.own
  rcases ho.2 with ⟨_, h0⟩ | ⟨g, cap, cur, rfl, hb, hg, _, _, _⟩
  · omega
  · refine ⟨g, cap, by rw [hl], hb, (Array.getElem?_eq_some_iff.1 hg).1, fun j hj => ?_, fun j => ho.frozenAt j⟩
    rw [ho.cellAt j (by omega)]
    unfold getV
    rw [List.getD_eq_getElem?_getD, List.getElem?_eq_getElem (by omega)]
    rfl

theorem Grid.at_' {w : World} {base : Nat} {nb : Option Nat} {us : List Value} {ls : List (List Int)} {A : Option Addr} {n cap : Nat} (h : Grid w base nb (.slice A n cap) us ls) {j : Nat} (hj : j < ls.length) :
    ∃ gb, A = some ⟨gb, 0, none⟩ ∧ n = ls.length ∧ w.cell? ⟨gb, j, none⟩ = some (getV us j) ∧ w.frozen? ⟨gb, j, none⟩ = false := by
  obtain ⟨gb, cap', hv, _, _, hc, hz⟩ := h.at_ hj
  simp only [Value.slice.injEq] at hv
  exact ⟨gb, hv.1, hv.2.1, hc j hj, hz j⟩

variable {w0 w w1 : World} {F : Nat → Prop} {sb bm : Nat} {s : St} {tv av gv : Value} {D : DataW Unit} {us : List Value} {ls : List (List Int)} {nums ah : List Nat}

theorem Only.of_base {B : Nat} (hb : Below B w w1) : Only (fun k => B ≤ k) w w1 := ⟨hb.os, hb.tape, hb.output, hb.size, fun k _ hf => hb.block k (by omega)⟩

/-- What lies from the call's first block on has been written. -/
theorem Grd.rest (G : Grd w0 F sb s tv av bm D w gv us ls nums ah) (hb : Below w0.heap.size w w1) : Rep w1 F sb s tv av bm D ah ∧ Only F w0 w1 :=
  ⟨G.rep.same (fun k hk => hb.block k (G.flt k hk)) hb.size, G.only.trans (Only.of_base hb) (fun i hi h => absurd h (by omega))⟩

theorem Grd.first (G : Grd w0 F sb s tv av bm D w gv us ls nums ah) {ah' : List Nat} (R : Rep w1 F sb s tv av bm D ah') (hO : Only F w w1) : Grd w0 F sb s tv av bm D w1 gv us ls nums ah' :=
  ⟨R, G.only.trans' hO, own_block G.num (fun g hg => hO.block g (G.num.lt g hg).2 (fun f => by have := G.flt g f; have := (G.num.lt g hg).1; omega)), G.nlen,
    G.grid.same (fun g h1 h2 => hO.block g h2 (fun f => by have := G.flt g f; omega)), G.flt⟩

theorem Grd.below (G : Grd w0 F sb s tv av bm D w gv us ls nums ah) (hb : Below w.heap.size w w1) : Grd w0 F sb s tv av bm D w1 gv us ls nums ah :=
  G.first (G.rep.below hb) (Only.of_below hb)

theorem Grd.size (G : Grd w0 F sb s tv av bm D w gv us ls nums ah) : w0.heap.size ≤ w.heap.size := G.only.size

theorem Grd.number (G : Grd w0 F sb s tv av bm D w gv us ls nums ah) (k m : Nat) :
    Grd w0 F sb s tv av bm D (w.setCell ⟨w0.heap.size, k, none⟩ (.int .i64 (m : Int))) gv us ls (nums.set k m) ah := by
  have hst := (G.num.stored k (.int .i64 (m : Int))).1
  have hb : Below w0.heap.size w (w.setCell ⟨w0.heap.size, k, none⟩ (.int .i64 (m : Int))) := (Below.refl _ w).setCell (p := ⟨w0.heap.size, k, none⟩) (Nat.le_refl _) _
  obtain ⟨r1, r2⟩ := G.rest hb
  refine ⟨r1, r2, ?_, by rw [List.length_set]; exact G.nlen, G.grid.other rfl (fun e => ?_) _, G.flt⟩
  · rw [natsI_set, List.map_set]; exact hst
  · rcases own_types G.grid.own G.num (by decide) with e1 | e1
    · rw [e1] at e; cases e
    · exact e1 e

theorem Grd.push (G : Grd w0 F sb s tv av bm D w gv us ls nums ah) {gv' : Value} (hg : w.grownBy w1 gv.ownBlock) (ho : w1.ownsRow w0.heap.size 25 1 gv' (us.length + 1) (us ++ [.slice none 0 0])) :
    Grd w0 F sb s tv av bm D w1 gv' (us ++ [.slice none 0 0]) (ls ++ [[]]) nums ah := by
  have hb : Below w0.heap.size w w1 := (Below.refl _ w).grown hg G.size (fun k hk => (G.grid.own.lt k hk).1)
  obtain ⟨r1, r2⟩ := G.rest hb
  refine ⟨r1, r2, G.num.kept hg ?_, G.nlen, G.grid.push hg ho, G.flt⟩
  exact own_types G.num G.grid.own (by decide)

theorem Grd.put (G : Grd w0 F sb s tv av bm D w gv us ls nums ah) {gb n cap j : Nat} (hv : gv = .slice (some ⟨gb, 0, none⟩) n cap) (hj : j < ls.length) {u' : Value} {x : Int} (hg : w.grownBy w1 (getV us j).ownBlock)
    (ho : w1.ownsRow w0.heap.size 3 1 u' ((getL ls j).length + 1) ((getL ls j).map (Value.int .i64) ++ [.int .i64 x])) (hat : u'.ownBlock = (getV us j).ownBlock ∨ u'.ownBlock = some w.heap.size) :
    Grd w0 F sb s tv av bm D (w1.setCell ⟨gb, j, none⟩ u') gv (us.set j u') (ls.set j (getL ls j ++ [x])) nums ah ∧ w1.cell? ⟨gb, j, none⟩ = some (getV us j) ∧ w1.frozen? ⟨gb, j, none⟩ = false := by
  have hsz := G.size
  have hgr := G.grid.put hv hj hg ho hat (fun b hb => by cases hb; exact (G.num.lt _ rfl).2)
  obtain ⟨gb', cap', hv', hgb, hlt, hc, hz⟩ := G.grid.at_ hj
  rw [hv] at hv'
  simp only [Value.slice.injEq, Option.some.injEq, Addr.mk.injEq] at hv'
  obtain ⟨⟨rfl, _⟩, _⟩ := hv'
  have hb1 : Below w0.heap.size w w1 := (Below.refl _ w).grown hg hsz (fun k hk => ((G.grid.each j hj).lt k hk).1)
  have hb : Below w0.heap.size w (w1.setCell ⟨gb, j, none⟩ u') := hb1.setCell hgb _
  obtain ⟨r1, r2⟩ := G.rest hb
  have hgbne : (getV us j).ownBlock ≠ some gb := by
    rcases own_types (G.grid.each j hj) G.grid.own (by decide) with e | e
    · rw [e]; simp
    · intro e1; exact e (by rw [e1, hv]; rfl)
  have hblk : w1.heap[gb]? = w.heap[gb]? := hg.block gb hlt (fun e => hgbne e.symm)
  refine ⟨⟨r1, r2, own_block (G.num.kept hg ?_) (fun g hgk => Below.heap_setCell _ _ _ _ (fun e => ?_)), G.nlen, hgr, G.flt⟩, (World.cell?_of_block (a := ⟨gb, j, none⟩) hblk).trans (hc j hj), (World.frozen?_of_block (a := ⟨gb, j, none⟩) hblk).trans (hz j)⟩
  · right
    intro e
    rcases G.grid.shun j hj with e1 | e1
    · rw [e1] at e; cases e
    · exact e1 e.symm
  · rcases own_types G.num G.grid.own (by decide) with e1 | e1
    · rw [e1] at hgk; cases hgk
    · exact e1 (by rw [hgk, hv, e]; rfl)

theorem Grd.start {tv av : Value} {bm : Nat} {D : DataW Unit} {ah : List Nat} (R : Rep w F sb s tv av bm D ah) (hl : s.ts.length ≤ 1000000) :
    Grd w F sb s tv av bm D (w.alloc (.cells (madeCells #[.int .i64 0] s.ts.length) 3)) (.slice none 0 0) [] [] (List.replicate s.ts.length 0) ah := by
  have hb : Below w.heap.size w (w.alloc (.cells (madeCells #[.int .i64 0] s.ts.length) 3)) := below_alloc _
  refine ⟨R.below hb, Only.of_below hb, ?_, by simp, Grid.start _ _ _, R.flt⟩
  have := World.ownsRow_lit (base := w.heap.size) (e := 3) (size := 1) w (madeCells #[.int .i64 0] s.ts.length) s.ts.length (Nat.le_refl _) (by unfold maxLen; omega) (by simp [madeCells])
  rw [toList_madeCells_one] at this
  simpa [natsI] using this

theorem Grd.num_cell (G : Grd w0 F sb s tv av bm D w gv us ls nums ah) {j : Nat} (hj : j < s.ts.length) : w.cell? ⟨w0.heap.size, j, none⟩ = some (.int .i64 (getN nums j : Int)) ∧ w.frozen? ⟨w0.heap.size, j, none⟩ = false := by
  refine ⟨?_, G.num.frozenAt j⟩
  rw [G.num.cellAt j (by omega), ints_get .i64 (natsI nums) j (by rw [natsI_length, G.nlen]; exact hj), natsI_get nums j (by rw [G.nlen]; exact hj)]

theorem St.laid_len (s : St) (k j : Nat) : (getL (s.laid k) j).length ≤ k := by
  have hm : ∀ g, (s.memb k g).length ≤ k := fun g => by
    unfold St.memb
    rw [List.length_map]
    exact Nat.le_trans (List.length_filter_le _ _) (by simp)
  have hL : ∀ l ∈ s.laid k, l.length ≤ k := by
    intro l hl
    unfold St.laid St.groupsTo at hl
    split at hl
    · rcases List.mem_append.1 hl with h | h
      · obtain ⟨g, _, rfl⟩ := List.mem_map.1 h
        exact hm g
      · simp at h; subst h; simp
    · obtain ⟨g, _, rfl⟩ := List.mem_map.1 hl
      exact hm g
  unfold getL
  by_cases hj : j < (s.laid k).length
  · rw [List.getD_eq_getElem?_getD, List.getElem?_eq_getElem hj]
    exact hL _ (List.getElem_mem _)
  · rw [List.getD_eq_getElem?_getD, List.getElem?_eq_none (by omega)]
    simp

end Go.Proofs.YtmbpmepoaonleaaGreat

/-! The program's Groups. -/
namespace Go.Proofs.YtmbpmepoaonleaaGreat
open Go.RowKit Go.Maps

set_option maxRecDepth 100000 in
set_option maxHeartbeats 4000000 in
theorem groups_any (w : World) (F : Nat → Prop) (sb : Nat) (s : St) (h : Holds w F sb s) (hl : s.ts.length ≤ 1000000) :
    Calls Tryz.prog 77 #[.pointer (some ⟨sb, 0, none⟩)] w fun e w' => ∃ u, e = .returned u ∧ Lists w' F u s.groups ∧ Keeps F w sb s w' := by
  obtain ⟨tv, av, bm, D, ah, R⟩ := h
  obtain ⟨A, cap, rfl⟩ := own_shape R.things
  obtain ⟨i0, hi, hz0, hz1, hz2⟩ := info_parts Tryz.infoInt
  obtain ⟨j0, hj, hy0, hy1, hy2⟩ := info_parts Tryz.infoInts
  have c0 := R.c0
  have hmk := run_make_row' (P := Tryz.prog) 25 3 (.int .i64 0) 8 Tryz.underlying25 Tryz.infoInt rfl .i64 .i64 s.ts.length (by omega) (by omega)
  have HS := Lib.hid (Grd.start R hl)
  have HOK := Lib.hid R.ok
  have c0' := HS.out.rep.c0
  clear R
  go_enter Tryz.func77, Tryz.ntmps77
  go_wp2
  go_loopw [3, 22] (fun gv i wr => ∃ (k : Nat) (us : List Value) (nums ah : List Nat), k ≤ s.ts.length ∧ i = .int .i64 (k : Int) ∧ Grd w F sb s (.slice A s.ts.length cap) av bm D wr gv us (s.groupsTo k) nums ah ∧ Hid (∀ r, r < k → getN s.gr r = r → getN nums r = s.rank r)) (fun _ i _ => s.ts.length - (intOf i).toNat)
  case atStart => exact ⟨0, [], _, _, Nat.zero_le _, rfl, HS.out, fun r h => absurd h (Nat.not_lt_zero _)⟩
  case round =>
    obtain ⟨k, us, nums, ah', hk, rfl, G, hnum⟩ := hrel
    rename_i wr
    by_cases hlt : k < s.ts.length
    · obtain ⟨tb, cap', hv, _, _⟩ := G.rep.tv_at (by omega)
      have hck := G.rep.thing hv hlt
      simp only [Value.slice.injEq] at hv
      have hA := hv.1
      clear hv
      subst hA
      have HF := Lib.hid (first_any wr F sb bm s _ av D ah' G.rep k hlt)
      obtain ⟨r1, r2⟩ := HOK.out.roots k (by rw [HOK.out.len]; exact hlt)
      have HG0 := Lib.hid G
      have hoG := G.grid.own
      have hlen0 := G.grid.len
      rw [St.groupsTo_length] at hlen0
      rw [hlen0] at hoG
      obtain ⟨B, gcap0, hgv0⟩ := own_shape hoG
      have HLEN := Lib.hid hlen0
      clear G HS hmk c0 c0' hlen0 hoG
      generalize hrk : getN s.gr k = r at *
      have hr : r < s.ts.length := by omega
      have hrle := St.rank_le s k
      subst hgv0
      go_wp2_with fail
      refine HF.out.mono ?_
      rintro e w1 ⟨rfl, ah1, R1, O1⟩
      have HG1 := Lib.hid (HG0.out.first R1 O1)
      clear R1 HG0 HF hck
      by_cases he : r = k
      · have HLD : Hid (s.groupsTo k ++ [[]] = s.laid k) := Lib.hid (by unfold St.laid; rw [if_pos (hrk.trans he)])
        have hek : ((r : Int) == (k : Int)) = true := beq_iff_eq.2 (by omega)
        have hG2 := HG1.out.number k (s.rank k)
        obtain ⟨nk1, nk2⟩ := HG1.out.num_cell hlt
        have HNX : Hid (∀ r', r' < k + 1 → getN s.gr r' = r' → getN (nums.set k (s.rank k)) r' = s.rank r') := Lib.hid (fun r' h1 h2 => by
          by_cases e : k = r'
          · subst e
            rw [getN_set_same _ _ _ (by rw [HG1.out.nlen]; exact hlt)]
          · rw [getN_set_other _ _ _ _ e]
            exact hnum.out r' (by omega) h2)
        have HNU : Hid (getN (nums.set k (s.rank k)) r = s.rank r) := Lib.hid (HNX.out r (by omega) r2)
        have hsz2 := HG1.out.size
        have hog := hG2.grid.own
        rw [HLEN.out] at hog
        have HG2 := Lib.hid hG2
        have HE := Lib.hid he
        clear hG2 he hnum
        go_wp2_with (at_builtin; refine wpList_append_own_at _ rfl _ _ 28 rfl w.heap.size 25 j0 (.slice none 0 0) 1 24 Tryz.underlying28 hj hy0 hy1 hy2 rfl (by decide) _ _ _ rfl (hog.alloc _) ⟨w1.heap.size, 0, none⟩ 1 1 [.slice none 0 0] rfl rfl (by have h := cell_one_new (w1.setCell ⟨w.heap.size, k, none⟩ (.int .i64 (s.rank k : Int))) (.slice none 0 0) 25; rw [Deep.nblk_setCell] at h; exact h) (by simp [Value.oneCell']) (by unfold maxLen; omega) (by omega) (by simp; omega) ?_)
        intro v4 w4 hown4 hgrow4 hnil4 hat4
        obtain ⟨B4, gcap4, rfl⟩ := own_shape hown4
        have G4 := (HG2.out.below (below_alloc (.cells #[.slice none 0 0] 25))).push hgrow4 (by rw [HLEN.out]; exact hown4)
        rw [HLD.out] at G4
        have HG := Lib.hid G4
        clear G4 hown4 hgrow4 hnil4 hat4 HG2 HG1 nk1 nk2 hog
        -- the thing goes to its group
        have hsucc := St.groupsTo_succ (s := s) HOK.out k hlt
        rw [hrk] at hsucc
        obtain ⟨gb, hgv, hnl, hcj, hzj⟩ := HG.out.grid.at_' hsucc.1
        have hoJ := HG.out.grid.each _ hsucc.1
        obtain ⟨nc1, nc2⟩ := HG.out.num_cell hr
        rw [HNU.out] at nc1
        have hbl : (getL (s.laid k) (s.rank r)).length ≤ k := St.laid_len s k _
        have hrl : s.rank r < s.rank k + 1 := by rw [hnl]; exact hsucc.1
        have HRL := Lib.hid hsucc.1
        obtain ⟨AJ, cJ, hsh⟩ := own_shape hoJ
        rw [hsh] at hcj hoJ
        have HSU := Lib.hid (show s.groupsTo (k + 1) = (s.laid k).set (s.rank r) (getL (s.laid k) (s.rank r) ++ [getI s.ts k]) from hsucc.2)
        have HSH := Lib.hid hsh
        have hszt := HG.out.size
        subst hgv
        clear hsucc hsh hnl nc2
        generalize hLJ : getL (s.laid k) (s.rank r) = lj at *
        generalize hRR : s.rank r = rk at *
        go_wp2_with (at_builtin; refine wpList_append_own_at _ rfl _ _ 25 rfl w.heap.size 3 i0 (.int .i64 0) 1 8 Tryz.underlying25 hi hz0 hz1 hz2 rfl (by decide) _ _ _ rfl (hoJ.alloc _) ⟨w4.heap.size, 0, none⟩ 1 1 [.int .i64 (getI s.ts k)] rfl rfl (cell_one_new _ _ _) (ints_oneCell .i64 [getI s.ts k]) (by unfold maxLen; omega) (by omega) (by simp; omega) ?_)
        intro v5 w5 hown5 hgrow5 hnil5 hat5
        obtain ⟨A5, cap5, rfl⟩ := own_shape hown5
        rw [← HSH.out] at hgrow5 hat5
        obtain ⟨G6, d1, d2⟩ := (HG.out.below (below_alloc (.cells #[.int .i64 (getI s.ts k)] 3))).put (j := rk) rfl HRL.out hgrow5 (by rw [hLJ]; exact hown5) (hat5.imp id (fun h => by rw [h]; simp))
        rw [HSH.out] at d1
        have HG6 := Lib.hid G6
        clear hown5 hgrow5 hnil5 hat5 G6 hcj hzj hoJ nc1
        go_wp2
        go_roundw
        case rel =>
          have G7 := HG6.out
          rw [hLJ, ← HSU.out] at G7
          exact ⟨k + 1, _, _, _, by omega, by go_num, G7, HNX.out⟩
        case measure => simp [intOf]; omega
      · have HLD : Hid (s.groupsTo k = s.laid k) := Lib.hid (by unfold St.laid; rw [if_neg (fun e => he (hrk.symm.trans e))])
        have hek : ((r : Int) == (k : Int)) = false := beq_eq_false_iff_ne.2 (by omega)
        have HNX : Hid (∀ r', r' < k + 1 → getN s.gr r' = r' → getN nums r' = s.rank r') := Lib.hid (fun r' h1 h2 => by
          by_cases e : k = r'
          · subst e
            exact absurd (hrk.symm.trans h2) he
          · exact hnum.out r' (by omega) h2)
        have HNU : Hid (getN nums r = s.rank r) := Lib.hid (HNX.out r (by omega) r2)
        have hsz2 := HG1.out.size
        have G4 := HG1.out
        rw [HLD.out] at G4
        have HG := Lib.hid G4
        have HE := Lib.hid he
        clear G4 he hnum HG1
        -- the thing goes to its group
        have hsucc := St.groupsTo_succ (s := s) HOK.out k hlt
        rw [hrk] at hsucc
        obtain ⟨gb, hgv, hnl, hcj, hzj⟩ := HG.out.grid.at_' hsucc.1
        have hoJ := HG.out.grid.each _ hsucc.1
        obtain ⟨nc1, nc2⟩ := HG.out.num_cell hr
        rw [HNU.out] at nc1
        have hbl : (getL (s.laid k) (s.rank r)).length ≤ k := St.laid_len s k _
        have hrl : s.rank r < s.rank k := by rw [hnl]; exact hsucc.1
        have HRL := Lib.hid hsucc.1
        obtain ⟨AJ, cJ, hsh⟩ := own_shape hoJ
        rw [hsh] at hcj hoJ
        have HSU := Lib.hid (show s.groupsTo (k + 1) = (s.laid k).set (s.rank r) (getL (s.laid k) (s.rank r) ++ [getI s.ts k]) from hsucc.2)
        have HSH := Lib.hid hsh
        have hszt := HG.out.size
        subst hgv
        clear hsucc hsh hnl nc2
        generalize hLJ : getL (s.laid k) (s.rank r) = lj at *
        generalize hRR : s.rank r = rk at *
        go_wp2_with (at_builtin; refine wpList_append_own_at _ rfl _ _ 25 rfl w.heap.size 3 i0 (.int .i64 0) 1 8 Tryz.underlying25 hi hz0 hz1 hz2 rfl (by decide) _ _ _ rfl (hoJ.alloc _) ⟨w1.heap.size, 0, none⟩ 1 1 [.int .i64 (getI s.ts k)] rfl rfl (cell_one_new _ _ _) (ints_oneCell .i64 [getI s.ts k]) (by unfold maxLen; omega) (by omega) (by simp; omega) ?_)
        intro v5 w5 hown5 hgrow5 hnil5 hat5
        obtain ⟨A5, cap5, rfl⟩ := own_shape hown5
        rw [← HSH.out] at hgrow5 hat5
        obtain ⟨G6, d1, d2⟩ := (HG.out.below (below_alloc (.cells #[.int .i64 (getI s.ts k)] 3))).put (j := rk) rfl HRL.out hgrow5 (by rw [hLJ]; exact hown5) (hat5.imp id (fun h => by rw [h]; simp))
        rw [HSH.out] at d1
        have HG6 := Lib.hid G6
        clear hown5 hgrow5 hnil5 hat5 G6 hcj hzj hoJ nc1
        go_wp2
        go_roundw
        case rel =>
          have G7 := HG6.out
          rw [hLJ, ← HSU.out] at G7
          exact ⟨k + 1, _, _, _, by omega, by go_num, G7, HNX.out⟩
        case measure => simp [intOf]; omega
    · obtain rfl : k = s.ts.length := by omega
      have HG := Lib.hid G
      clear G
      go_wp2
      go_ret
      exact ⟨_, rfl, HG.out.grid.lists HG.out.flt, ⟨_, _, _, _, _, HG.out.rep⟩, HG.out.only⟩

end Go.Proofs.YtmbpmepoaonleaaGreat
