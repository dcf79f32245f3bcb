/-
  StA, StB, StC, StD, StE, in one text.
-/
import Derived.Test.YtmbpmepoaonleaaGreatM14
import Derived.Defers
import Derived.Recover
import Derived.Laws.Pointers
import Derived.WalkKit
import Derived.WalkSmall
import Derived.BigRegion
import Derived.Deep.QuietTactic
import Derived.BigQuiet
/-! The program's find: where a thing stands; of nil sets it can't be put in. -/
namespace Go.Proofs.YtmbpmepoaonleaaGreat
open Go.RowKit Go.Maps

theorem below_alloc {w : World} (o : Obj) : Below w.heap.size w (w.alloc o) := (Below.refl _ w).alloc (Nat.le_refl _) _

theorem catch_idle (p : Addr) (w : World) :
    CallsD Tryz.prog 129 #[.pointer (some p)] .returning w fun e u' w' => e = .returned (.tuple #[]) ∧ u' = .returning ∧ w' = w := by
  refine callsD_of_wpS Tryz.func129 rfl fun c₀ cs hu => ?_
  apply wpS_seq
  apply wpS_region
  simp [wpOpsS, go_sem, recoverD, hu, Tryz.ntmps129, Exit.thenS]
  refine wpS_cond (t := false) (by simp [Act.eval, Array.replicate]) ?_
  simp only [Bool.false_eq_true, if_false]
  refine wpS_of_wp (wp_skip ?_)
  cases c₀
  simp_all [bodyPostS, results, Tryz.results129]

set_option maxRecDepth 100000 in
set_option maxHeartbeats 1000000 in
/-- Where a thing stands in sets that are there. -/
theorem find_any (w : World) (F : Nat → Prop) (sb : Nat) (s : St) (x : Int) (h : Holds w F sb s) (hx : (Lit.int .i64 x).wf = true) :
    Calls Tryz.prog 106 #[.pointer (some ⟨sb, 0, none⟩), .int .i64 x] w fun e w' => e = .returned (.int .i64 (Lib.idxOf s.ts x)) ∧ Below w.heap.size w w' := by
  obtain ⟨tv, av, bm, D, ah, R⟩ := h
  have c1 := R.c1
  have hkey := keyOf_int_mk Tryz.underlying3 hx
  have hT := R.tells.2 x
  have hown := R.places
  have hlt := R.lt
  have hmf : ∀ (fn : Fn) (first cap : Array Value) (w : World), (Instr.makeFunc fn first cap).run Tryz.prog w = .ok (.func fn first cap) w := fun _ _ _ _ => rfl
  clear R
  by_cases hm : x ∈ s.ts
  · have hh : Maps.has D (.int .i64 x) = true := by rw [hT.1]; exact decide_eq_true hm
    have hd := Lib.hid (hT.2 hm)
    clear hT hm
    go_enter_defers Tryz.func106, Tryz.ntmps106
    go_wp2_with (first
      | (at_lookup; refine wpList_lookup_own_ok_int _ rfl _ _ 62 rfl 3 3 .i64 Tryz.keyInt Tryz.underlying62 Tryz.underlying3 (Tryz.zeroInt _) bm s.ts.length D rfl (hown.alloc _) _ _ rfl hkey ?_; intro c hat hwc; rw [hh])
      | go_in)
    refine leaves_cons (f := 129) (args := #[.pointer (some ⟨w.heap.size, 0, none⟩)]) (by simp) (by simp [go_sem]) ?_
    refine (catch_idle ⟨w.heap.size, 0, none⟩ _).mono ?_
    rintro e u' w'' ⟨rfl, rfl, rfl⟩
    have e1 : c = Lib.idxOf s.ts x := by
      have := hat.symm.trans hd.out
      simpa using this
    simp [Leaves, settle, results, Tryz.results106, go_sem]
    exact ⟨e1, below_alloc _⟩
  · have hh : Maps.has D (.int .i64 x) = false := by rw [hT.1]; exact decide_eq_false hm
    have hd := Lib.hid (St.find_out hm)
    clear hT hm
    go_enter_defers Tryz.func106, Tryz.ntmps106
    go_wp2_with (first
      | (at_lookup; refine wpList_lookup_own_ok_int _ rfl _ _ 62 rfl 3 3 .i64 Tryz.keyInt Tryz.underlying62 Tryz.underlying3 (Tryz.zeroInt _) bm s.ts.length D rfl (hown.alloc _) _ _ rfl hkey ?_; intro c hat hwc; rw [hh])
      | go_in)
    refine leaves_cons (f := 129) (args := #[.pointer (some ⟨w.heap.size, 0, none⟩)]) (by simp) (by simp [go_sem]) ?_
    refine (catch_idle ⟨w.heap.size, 0, none⟩ _).mono ?_
    rintro e u' w'' ⟨rfl, rfl, rfl⟩
    simp [Leaves, settle, results, Tryz.results106, go_sem]
    exact ⟨hd.out.symm, below_alloc _⟩

end Go.Proofs.YtmbpmepoaonleaaGreat

/-! The program's first: a group's first place; each way that is gone is halved. -/
namespace Go.Proofs.YtmbpmepoaonleaaGreat
open Go.RowKit Go.Maps

theorem Rep.drewN {w : World} {F : Nat → Prop} {sb bm : Nat} {s : St} {tv av : Value} {D : DataW Unit} {ah : List Nat} (h : Rep w F sb s tv av bm D ah) (n : Nat) : Rep (w.drewN n) F sb s tv av bm D ah :=
  h.below (below_drewN' w n)
theorem Only.drewN {F : Nat → Prop} {w w' : World} (h : Only F w w') (n : Nat) : Only F w (w'.drewN n) := h.trans' (Only.of_below (below_drewN' w' n))

set_option maxRecDepth 100000 in
set_option maxHeartbeats 2000000 in
theorem first_any (w : World) (F : Nat → Prop) (sb bm : Nat) (s : St) (tv av : Value) (D : DataW Unit) (ah : List Nat) (R : Rep w F sb s tv av bm D ah) (i : Nat) (hi : i < s.ts.length) :
    Calls Tryz.prog 105 #[.pointer (some ⟨sb, 0, none⟩), .int .i64 (i : Int)] w fun e w' => e = .returned (.int .i64 (getN s.gr i : Int)) ∧ ∃ ah', Rep w' F sb s tv av bm D ah' ∧ Only F w w' := by
  go_enter Tryz.func105, Tryz.ntmps105
  go_wp2
  go_loopw [1] (fun a wr => ∃ k : Nat, k < s.ts.length ∧ a = .int .i64 (k : Int) ∧ getN s.gr k = getN s.gr i ∧ ∃ ah', Rep wr F sb s tv av bm D ah' ∧ Only F w wr) (fun a _ => (intOf a).toNat)
  case atStart => exact ⟨i, hi, rfl, rfl, ah, R, Only.refl F w⟩
  case round =>
    obtain ⟨k, hk, rfl, hg, ah', R', hO⟩ := hrel
    rename_i wr
    have hlen := R'.len
    obtain ⟨ab, cap, hav, hF, h1, h2, h3, hc, hz⟩ := R'.av_at (by omega)
    have hl := R'.leads.2 k (by rw [R'.ok.len]; exact hk)
    have c2 := R'.c2
    rw [hav, hlen] at c2
    have hck := hc k (by omega)
    have hR := Lib.hid R'
    have hG := Lib.hid hg
    have hAV := Lib.hid hav
    by_cases he : getN ah' k = k
    · have hn := Lib.hid (hl.2.2.1 he)
      rw [he] at hck
      clear R R' hc hl hg hav he
      go_wp2
      go_ret
      exact ⟨ret_int (by rw [← hG.out, hn.out]), ah', hR.out, hO⟩
    · have hlt : getN ah' k < k := by omega
      have hck2 := hc (getN ah' k) (by omega)
      have hfk := hz k
      have hset := Lib.hid (R'.set hav (R'.leads.halve (by rw [R'.ok.len]; exact hk) he))
      have hne : ((getN ah' k : Int) != (k : Int)) = true := bne_iff_ne.2 (by omega)
      have hgn := Lib.hid hl.2.1
      have hl2 := R'.leads.2 (getN ah' k) (by rw [R'.ok.len]; omega)
      have hgn2 := Lib.hid hl2.2.1
      have hle2 := hl2.1
      clear R R' hc hl hl2 hg hav hz
      generalize hp : getN ah' k = p at *
      generalize hq : getN ah' p = q at *
      go_wp2
      go_region
      have c2' := hset.out.1.c2
      have hck' : (wr.setCell ⟨ab, k, none⟩ (.int .i64 (q : Int))).cell? ⟨ab, k, none⟩ = some (.int .i64 (q : Int)) := World.cell?_setCell_same _ _ _ hck
      rw [hAV.out, hlen] at c2'
      generalize wr.setCell ⟨ab, k, none⟩ (.int .i64 (q : Int)) = w1 at *
      clear c2 hck hck2 hfk
      go_wp2
      go_roundw
      case rel =>
        exact ⟨q, by omega, rfl, by rw [hgn2.out, hgn.out, hG.out], _, hset.out.1.drewN 1, (hO.trans' hset.out.2).drewN 1⟩
      case measure => simp [intOf]; omega
end Go.Proofs.YtmbpmepoaonleaaGreat

/-! The program's put: a new thing, by itself. -/
namespace Go.Proofs.YtmbpmepoaonleaaGreat
open Go.RowKit Go.Maps

/-- The structure's parts, between two steps of a call. -/
structure Mid (w : World) (G : Nat → Prop) (sb : Nat) (tv : Value) (ts : List Int) (av : Value) (ws : List Int) (bm n : Nat) (D : DataW Unit) (c : Value) : Prop where
  box : w.heap[sb]? = some (.cells #[tv, .map (some bm), av, c] 143 (0, 0))
  things : w.ownsRow 0 3 1 tv ts.length (ts.map (Value.int .i64))
  ahead : w.ownsRow 0 3 1 av ws.length (ws.map (Value.int .i64))
  places : w.ownsMap Tryz.prog 3 (plainElem Tryz.prog 3) bm n D
  apart : tv.ownBlock = none ∨ tv.ownBlock ≠ av.ownBlock
  gsb : G sb
  gbm : G bm
  gtv : ∀ k, tv.ownBlock = some k → G k
  gav : ∀ k, av.ownBlock = some k → G k

theorem box_cell {w : World} {sb : Nat} {a b c d : Value} {T : TypeId} (h : w.heap[sb]? = some (.cells #[a, b, c, d] T (0, 0))) :
    w.cell? ⟨sb, 0, none⟩ = some a ∧ w.cell? ⟨sb, 1, none⟩ = some b ∧ w.cell? ⟨sb, 2, none⟩ = some c ∧ w.cell? ⟨sb, 3, none⟩ = some d ∧ ∀ j, w.frozen? ⟨sb, j, none⟩ = false := by
  refine ⟨by simp [World.cell?, h], by simp [World.cell?, h], by simp [World.cell?, h], by simp [World.cell?, h], fun j => by simp [World.frozen?, h]⟩

variable {w w1 : World} {G : Nat → Prop} {sb : Nat} {tv av : Value} {ts ws : List Int} {bm n : Nat} {D : DataW Unit} {c : Value}

theorem map_same {b : Nat} (h : w.ownsMap Tryz.prog 3 (plainElem Tryz.prog 3) b n D) (hs : w1.heap[b]? = w.heap[b]?) : w1.ownsMap Tryz.prog 3 (plainElem Tryz.prog 3) b n D := by
  obtain ⟨es, clock, hb, r⟩ := h
  exact ⟨es, clock, hs.trans hb, r⟩

theorem Mid.tv_sb (M : Mid w G sb tv ts av ws bm n D c) : tv.ownBlock ≠ some sb := own_apart M.things M.box (by decide)
theorem Mid.av_sb (M : Mid w G sb tv ts av ws bm n D c) : av.ownBlock ≠ some sb := own_apart M.ahead M.box (by decide)
theorem Mid.tv_bm (M : Mid w G sb tv ts av ws bm n D c) : tv.ownBlock ≠ some bm := by obtain ⟨es, clock, hb, _⟩ := M.places; exact own_apart_map M.things hb
theorem Mid.av_bm (M : Mid w G sb tv ts av ws bm n D c) : av.ownBlock ≠ some bm := by obtain ⟨es, clock, hb, _⟩ := M.places; exact own_apart_map M.ahead hb
theorem Mid.bm_sb (M : Mid w G sb tv ts av ws bm n D c) : bm ≠ sb := by
  obtain ⟨es, clock, hb, _⟩ := M.places
  intro e; subst e
  rw [M.box] at hb; cases hb
theorem Mid.sb_lt (M : Mid w G sb tv ts av ws bm n D c) : sb < w.heap.size := (Array.getElem?_eq_some_iff.1 M.box).1
theorem Mid.bm_lt (M : Mid w G sb tv ts av ws bm n D c) : bm < w.heap.size := M.places.lt

theorem Mid.same (M : Mid w G sb tv ts av ws bm n D c) (hb : Below w.heap.size w w1) : Mid w1 G sb tv ts av ws bm n D c :=
  ⟨(hb.block sb M.sb_lt).trans M.box, own_block M.things (fun g hg => hb.block g (M.things.lt g hg).2), own_block M.ahead (fun g hg => hb.block g (M.ahead.lt g hg).2), map_same M.places (hb.block bm M.bm_lt), M.apart, M.gsb, M.gbm, M.gtv, M.gav⟩

theorem box_set {w : World} {sb : Nat} {cs : Array Value} {T : TypeId} (h : w.heap[sb]? = some (.cells cs T (0, 0))) (j : Nat) (v : Value) : (w.setCell ⟨sb, j, none⟩ v).heap[sb]? = some (.cells (cs.setIfInBounds j v) T (0, 0)) := by
  simp [World.setCell, Array.getElem?_modify, h]

/-- A thing has been appended to the things, and the slice stored. -/
theorem Mid.app0 (M : Mid w G sb tv ts av ws bm n D c) {v' : Value} {ts' : List Int} (hg : w.grownBy w1 tv.ownBlock) (ho : w1.ownsRow 0 3 1 v' ts'.length (ts'.map (Value.int .i64)))
    (hat : v'.ownBlock = tv.ownBlock ∨ v'.ownBlock = some w.heap.size) (hG : ∀ k, w.heap.size ≤ k → G k) :
    Mid (w1.setCell ⟨sb, 0, none⟩ v') G sb v' ts' av ws bm n D c ∧ Only G w (w1.setCell ⟨sb, 0, none⟩ v') ∧ w1.heap[sb]? = some (.cells #[tv, .map (some bm), av, c] 143 (0, 0)) := by
  have hsb : w1.heap[sb]? = w.heap[sb]? := hg.block sb M.sb_lt (fun e => M.tv_sb e.symm)
  have hbm : w1.heap[bm]? = w.heap[bm]? := hg.block bm M.bm_lt (fun e => M.tv_bm e.symm)
  have hav : ∀ g, av.ownBlock = some g → w1.heap[g]? = w.heap[g]? := fun g hk => hg.block g (M.ahead.lt g hk).2 (fun e => by
    rcases M.apart with h | h
    · rw [h] at e; cases e
    · exact h (by rw [hk]; exact e.symm))
  have box1 := hsb.trans M.box
  have hoth : ∀ k, k ≠ sb → (w1.setCell ⟨sb, 0, none⟩ v').heap[k]? = w1.heap[k]? := fun k hk => Below.heap_setCell _ _ _ _ hk
  have hv' : v'.ownBlock ≠ some sb := own_apart ho box1 (by decide)
  refine ⟨⟨?_, own_block ho (fun g hk => hoth g (fun e => hv' (by rw [hk, e]))), own_block M.ahead (fun g hk => (hoth g (fun e => M.av_sb (by rw [hk, e]))).trans (hav g hk)), map_same M.places ((hoth bm M.bm_sb).trans hbm), ?_, M.gsb, M.gbm, ?_, M.gav⟩, ?_, box1⟩
  · rw [box_set box1]; rfl
  · rcases hat with e | e
    · rw [e]; exact M.apart
    · right; rw [e]; intro e1
      have := (M.ahead.lt _ e1.symm).2
      omega
  · intro k hk
    rcases hat with e | e
    · exact M.gtv k (e ▸ hk)
    · rw [e] at hk; cases hk; exact hG _ (Nat.le_refl _)
  · exact (Only.of_grown hg M.gtv).trans' (Only.setCell w1 M.gsb _)

/-- A way ahead has been appended, and the slice stored. -/
theorem Mid.app2 (M : Mid w G sb tv ts av ws bm n D c) {v' : Value} {ws' : List Int} (hg : w.grownBy w1 av.ownBlock) (ho : w1.ownsRow 0 3 1 v' ws'.length (ws'.map (Value.int .i64)))
    (hat : v'.ownBlock = av.ownBlock ∨ v'.ownBlock = some w.heap.size) (hG : ∀ k, w.heap.size ≤ k → G k) :
    Mid (w1.setCell ⟨sb, 2, none⟩ v') G sb tv ts v' ws' bm n D c ∧ Only G w (w1.setCell ⟨sb, 2, none⟩ v') ∧ w1.heap[sb]? = some (.cells #[tv, .map (some bm), av, c] 143 (0, 0)) := by
  have hsb : w1.heap[sb]? = w.heap[sb]? := hg.block sb M.sb_lt (fun e => M.av_sb e.symm)
  have hbm : w1.heap[bm]? = w.heap[bm]? := hg.block bm M.bm_lt (fun e => M.av_bm e.symm)
  have htv : ∀ g, tv.ownBlock = some g → w1.heap[g]? = w.heap[g]? := fun g hk => hg.block g (M.things.lt g hk).2 (fun e => by
    rcases M.apart with h | h
    · rw [h] at hk; cases hk
    · exact h (by rw [hk]; exact e))
  have box1 := hsb.trans M.box
  have hoth : ∀ k, k ≠ sb → (w1.setCell ⟨sb, 2, none⟩ v').heap[k]? = w1.heap[k]? := fun k hk => Below.heap_setCell _ _ _ _ hk
  have hv' : v'.ownBlock ≠ some sb := own_apart ho box1 (by decide)
  refine ⟨⟨?_, own_block M.things (fun g hk => (hoth g (fun e => M.tv_sb (by rw [hk, e]))).trans (htv g hk)), own_block ho (fun g hk => hoth g (fun e => hv' (by rw [hk, e]))), map_same M.places ((hoth bm M.bm_sb).trans hbm), ?_, M.gsb, M.gbm, M.gtv, ?_⟩, ?_, box1⟩
  · rw [box_set box1]; rfl
  · rcases hat with e | e
    · rw [e]; exact M.apart
    · by_cases h0 : tv.ownBlock = none
      · exact .inl h0
      · right; rw [e]; intro e1
        have := (M.things.lt _ e1).2
        omega
  · intro k hk
    rcases hat with e | e
    · exact M.gav k (e ▸ hk)
    · rw [e] at hk; cases hk; exact hG _ (Nat.le_refl _)
  · exact (Only.of_grown hg M.gav).trans' (Only.setCell w1 M.gsb _)

/-- An entry of the map has been written. -/
theorem Mid.mapd (M : Mid w G sb tv ts av ws bm n D c) {n' : Nat} {D' : DataW Unit} (hown : w1.ownsMap Tryz.prog 3 (plainElem Tryz.prog 3) bm n' D') (ht : w.mapTurned w1 bm) :
    Mid w1 G sb tv ts av ws bm n' D' c ∧ Only G w w1 := by
  have hg := ht.grown
  refine ⟨⟨(hg.block sb M.sb_lt (fun e => M.bm_sb (by simpa using e.symm))).trans M.box, own_block M.things (fun g hk => hg.block g (M.things.lt g hk).2 (fun e => M.tv_bm (by rw [hk]; exact e))),
    own_block M.ahead (fun g hk => hg.block g (M.ahead.lt g hk).2 (fun e => M.av_bm (by rw [hk]; exact e))), hown, M.apart, M.gsb, M.gbm, M.gtv, M.gav⟩, Only.of_grown hg (fun k hk => by cases hk; exact M.gbm)⟩

/-- The count has been stored. -/
theorem Mid.count (M : Mid w G sb tv ts av ws bm n D c) (v : Value) : Mid (w.setCell ⟨sb, 3, none⟩ v) G sb tv ts av ws bm n D v ∧ Only G w (w.setCell ⟨sb, 3, none⟩ v) := by
  have hoth : ∀ k, k ≠ sb → (w.setCell ⟨sb, 3, none⟩ v).heap[k]? = w.heap[k]? := fun k hk => Below.heap_setCell _ _ _ _ hk
  refine ⟨⟨?_, own_block M.things (fun g hk => hoth g (fun e => M.tv_sb (by rw [hk, e]))), own_block M.ahead (fun g hk => hoth g (fun e => M.av_sb (by rw [hk, e]))), map_same M.places (hoth bm M.bm_sb), M.apart, M.gsb, M.gbm, M.gtv, M.gav⟩, Only.setCell w M.gsb _⟩
  rw [box_set M.box]; rfl

theorem own_shape {e : TypeId} {v : Value} {m : Nat} {xs : List Value} {base size : Nat} (h : w.ownsRow base e size v m xs) : ∃ A cap, v = .slice A m cap := by
  rcases h.2 with ⟨rfl, h0⟩ | ⟨g, cap, cur, rfl, _⟩
  · exact ⟨none, 0, by rw [h0]⟩
  · exact ⟨_, _, rfl⟩

theorem Rep.mid {F : Nat → Prop} {s : St} {ah : List Nat} (R : Rep w F sb s tv av bm D ah) (hF : ∀ k, F k → G k) : Mid w G sb tv s.ts av (natsI ah) bm s.ts.length D (.int .i64 (heads s.gr : Int)) :=
  ⟨R.box, R.things, R.ahead, R.places, R.apart, hF _ R.fsb, hF _ R.fbm, fun k hk => hF k (R.ftv k hk), fun k hk => hF k (R.fav k hk)⟩

/-- What a call may have changed of sets, and what it has made. -/
def After (F : Nat → Prop) (w : World) (sb : Nat) (s : St) (w' : World) : Prop :=
  ∃ F', Holds w' F' sb s ∧ Only F w w' ∧ ∀ k, F' k → F k ∨ w.heap.size ≤ k

theorem After.trans {F F' : Nat → Prop} {s : St} {w w1 w2 : World} (h1 : Only F w w1) (hs : ∀ k, F' k → F k ∨ w.heap.size ≤ k) (h2 : After F' w1 sb s w2) : After F w sb s w2 := by
  obtain ⟨F2, a, b, c⟩ := h2
  refine ⟨F2, a, h1.trans b (fun i hi hF => (hs i hF).elim id (fun h => absurd h (by omega))), fun k hk => ?_⟩
  rcases c k hk with h | h
  · exact hs k h
  · exact .inr (Nat.le_trans h1.size h)

theorem Mid.after {F : Nat → Prop} {s : St} {ah : List Nat} {w0 w : World} (M : Mid w (fun k => F k ∨ w0.heap.size ≤ k) sb tv s.ts av (natsI ah) bm s.ts.length D (.int .i64 (heads s.gr : Int))) (ht : Tells D s.ts) (hl : Leads ah s.gr) (ok : St.Ok s)
    (hO : Only (fun k => F k ∨ w0.heap.size ≤ k) w0 w) (hF : ∀ k, F k → k < w.heap.size) : After F w0 sb s w := by
  refine ⟨fun k => F k ∨ (w0.heap.size ≤ k ∧ k < w.heap.size), ⟨tv, av, bm, D, ah, ⟨M.box, M.things, M.ahead, M.apart, M.places, ht, hl, ok, ?_, ?_, ?_, ?_, ?_⟩⟩, hO.more (fun k hk h => h.elim id (fun h => absurd h (by omega))), fun k hk => hk.imp id And.left⟩
  · exact M.gsb.imp id (fun h => ⟨h, M.sb_lt⟩)
  · exact M.gbm.imp id (fun h => ⟨h, M.bm_lt⟩)
  · exact fun k hk => (M.gtv k hk).imp id (fun h => ⟨h, (M.things.lt k hk).2⟩)
  · exact fun k hk => (M.gav k hk).imp id (fun h => ⟨h, (M.ahead.lt k hk).2⟩)
  · rintro k (h | h)
    · exact hF k h
    · exact h.2

end Go.Proofs.YtmbpmepoaonleaaGreat

/-! The program's put: a new thing, by itself. -/
namespace Go.Proofs.YtmbpmepoaonleaaGreat
open Go.RowKit Go.Maps

set_option maxRecDepth 100000 in
set_option maxHeartbeats 2000000 in
theorem put_any (w : World) (F : Nat → Prop) (sb : Nat) (s : St) (x : Int) (h : Holds w F sb s) (hx : (Lit.int .i64 x).wf = true) (hno : x ∉ s.ts) (hl : s.ts.length ≤ 1000000) :
    Calls Tryz.prog 107 #[.pointer (some ⟨sb, 0, none⟩), .int .i64 x] w fun e w' => e = .returned (.int .i64 (s.ts.length : Int)) ∧ After F w sb (s.add x) w' := by
  obtain ⟨tv, av, bm, D, ah, R⟩ := h
  obtain ⟨i0, hi, hz0, hz1, hz2⟩ := info_parts Tryz.infoInt
  have hkey := keyOf_int_mk Tryz.underlying3 hx
  have M0 := R.mid (G := fun k => F k ∨ w.heap.size ≤ k) (fun k => .inl)
  have HNL := Lib.hid (show (natsI ah).length = s.ts.length by rw [natsI_length]; exact R.len)
  obtain ⟨A, cap, rfl⟩ := own_shape R.things
  obtain ⟨A2, cap2, hav⟩ := own_shape (HNL.out ▸ R.ahead)
  obtain ⟨c0, c1, c2, c3, fz⟩ := box_cell R.box
  have hcnt : heads s.gr ≤ 1000000 := Nat.le_trans (heads_le _) (by rw [R.ok.len]; exact hl)
  have fz0 := fz 0
  have HT := Lib.hid (R.tells.put hno)
  have HA := Lib.hid (St.add_out hno)
  have HOK := Lib.hid (St.ok_add R.ok hx)
  have HL := Lib.hid R.leads.snoc
  have HN := Lib.hid (heads_snoc s.gr)
  have HG := Lib.hid R.ok.len
  have HFL := Lib.hid R.flt
  have hsz := R.lt
  have HM0 := Lib.hid M0
  have hoA := R.things
  clear R M0 fz hno
  go_enter Tryz.func107, Tryz.ntmps107
  go_wp2_with (at_builtin; refine wpList_append_own_at _ rfl _ _ 25 rfl 0 3 i0 (.int .i64 0) 1 8 Tryz.underlying25 hi hz0 hz1 hz2 rfl (by decide) _ _ _ rfl (hoA.alloc _) ⟨w.heap.size, 0, none⟩ 1 1 [.int .i64 x] rfl rfl (cell_one_new _ _ _) (ints_oneCell .i64 [x]) (by unfold maxLen; omega) (by omega) (by omega) ?_)
  intro v' w1 hown' hgrow hnil hat
  obtain ⟨A1, cap1, rfl⟩ := own_shape hown'
  have hown1 : w1.ownsRow 0 3 1 (.slice A1 (s.ts.length + 1) cap1) (s.ts ++ [x]).length ((s.ts ++ [x]).map (Value.int .i64)) := by rw [List.length_append, List.map_append]; exact hown'
  obtain ⟨M1, O1, box1⟩ := (HM0.out.same (below_alloc (.cells #[.int .i64 x] 3))).app0 hgrow hown1 (hat.imp id (fun h => by rw [h]; simp)) (fun k hk => .inr (by simp at hk; omega))
  obtain ⟨d0, d1, d2, d3, fz'⟩ := box_cell box1
  have g0 := fz' 0
  have HM1 := Lib.hid M1
  have HO1 := Lib.hid ((Only.of_below (F := fun k => F k ∨ w.heap.size ≤ k) (below_alloc (.cells #[.int .i64 x] 3))).trans' O1)
  have hs1 := hgrow.size
  clear hown' hgrow hnil hat hown1 M1 O1 box1 fz' HM0 hoA c0 c1 c2 c3 fz0
  go_wp2_with (at_mapUpdate; refine wpList_mapUpdate_in _ rfl _ _ _ 62 rfl 3 3 Tryz.keyInt Tryz.underlying62 _ bm s.ts.length D rfl HM1.out.places (by unfold maxLen; omega) _ _ _ rfl rfl hkey _ [] (plainElem_int Tryz.underlying3 (WalkArith.wf_i64 (by omega))) ?_)
  intro w3 hown3 hturn3
  obtain ⟨M3, O3⟩ := HM1.out.mapd hown3 hturn3
  have HM3 := Lib.hid M3
  have HO3 := Lib.hid (HO1.out.trans' O3)
  have hs3 : w.heap.size ≤ w3.heap.size := HO3.out.size
  obtain ⟨d0', d1', d2', d3', fz3⟩ := box_cell M3.box
  have hoB := M3.ahead
  rw [HNL.out] at hoB
  subst hav
  clear M3 O3 HM1 HO1 hown3 hturn3 d0 d1 d2 d3 g0 fz3
  go_wp2_with (at_builtin; refine wpList_append_own_at _ rfl _ _ 25 rfl 0 3 i0 (.int .i64 0) 1 8 Tryz.underlying25 hi hz0 hz1 hz2 rfl (by decide) _ _ _ rfl (hoB.alloc _) ⟨w3.heap.size, 0, none⟩ 1 1 [.int .i64 (s.ts.length : Int)] rfl rfl (cell_one_new _ _ _) (ints_oneCell .i64 [(s.ts.length : Int)]) (by unfold maxLen; omega) (by omega) (by omega) ?_)
  intro v5 w5 hown5 hgrow5 hnil5 hat5
  obtain ⟨A5, cap5, rfl⟩ := own_shape hown5
  have hown6 : w5.ownsRow 0 3 1 (.slice A5 (s.ts.length + 1) cap5) (natsI (ah ++ [s.ts.length])).length ((natsI (ah ++ [s.ts.length])).map (Value.int .i64)) := by rw [natsI_snoc, List.length_append, List.map_append, HNL.out]; exact hown5
  obtain ⟨M5, O5, box5⟩ := (HM3.out.same (below_alloc (.cells #[.int .i64 (s.ts.length : Int)] 3))).app2 hgrow5 hown6 (hat5.imp id (fun h => by rw [h]; simp)) (fun k hk => .inr (by simp at hk; omega))
  obtain ⟨e0, e1, e2, e3, fz5⟩ := box_cell box5
  have k2 := fz5 2
  have k3 := fz5 3
  have HM5 := Lib.hid M5
  have HO5 := Lib.hid (HO3.out.trans' ((Only.of_below (F := fun k => F k ∨ w.heap.size ≤ k) (below_alloc (.cells #[.int .i64 (s.ts.length : Int)] 3))).trans' O5))
  clear hown5 hgrow5 hnil5 hat5 hown6 M5 O5 box5 fz5 HM3 HO3 hoB d0' d1' d2' d3'
  go_wp2
  go_ret
  obtain ⟨M6, O6⟩ := HM5.out.count (.int .i64 ((heads s.gr : Int) + 1))
  refine ⟨rfl, ?_⟩
  have HO6 := HO5.out.trans' O6
  generalize ((w5.setCell ⟨sb, 2, none⟩ (.slice A5 (s.ts.length + 1) cap5)).setCell ⟨sb, 3, none⟩ (.int .i64 ((heads s.gr : Int) + 1))) = w6 at *
  have HTT := HT.out
  have HOO := HOK.out
  have HLL := HL.out
  rw [HG.out] at HLL
  have HC : ((heads s.gr : Int) + 1) = ((heads (s.gr ++ [s.ts.length]) : Nat) : Int) := by rw [← HG.out, HN.out]; simp
  rw [HC] at M6
  rw [HA.out] at HTT HOO ⊢
  have hl1 : s.ts.length + 1 = (s.ts ++ [x]).length := by simp
  rw [hl1] at M6
  exact Mid.after (s := ⟨s.ts ++ [x], s.gr ++ [s.ts.length]⟩) M6 HTT HLL HOO HO6 (fun k hk => Nat.lt_of_lt_of_le (HFL.out k hk) HO6.size)
end Go.Proofs.YtmbpmepoaonleaaGreat

/-! The program's get, Add, Count, Len, Same. -/
namespace Go.Proofs.YtmbpmepoaonleaaGreat
open Go.RowKit Go.Maps

/-- The sets are as they were; of the rest only what is theirs may have changed. -/
def Keeps (F : Nat → Prop) (w : World) (sb : Nat) (s : St) (w' : World) : Prop := Holds w' F sb s ∧ Only F w w'

theorem Keeps.below {F : Nat → Prop} {w w' : World} {sb : Nat} {s : St} (h : Holds w F sb s) (hb : Below w.heap.size w w') : Keeps F w sb s w' := ⟨h.below hb, Only.of_below hb⟩
theorem Keeps.trans {F : Nat → Prop} {w w1 w2 : World} {sb : Nat} {s : St} (h1 : Keeps F w sb s w1) (h2 : Keeps F w1 sb s w2) : Keeps F w sb s w2 := ⟨h2.1, h1.2.trans' h2.2⟩
theorem Keeps.after {F : Nat → Prop} {w w' : World} {sb : Nat} {s : St} (h : Keeps F w sb s w') : After F w sb s w' := ⟨F, h.1, h.2, fun _ => .inl⟩
theorem Keeps.then {F : Nat → Prop} {w w1 w2 : World} {sb : Nat} {s s' : St} (h1 : Keeps F w sb s w1) (h2 : After F w1 sb s' w2) : After F w sb s' w2 := After.trans h1.2 (fun _ => .inl) h2
theorem After.then {F : Nat → Prop} {w w1 w2 : World} {sb : Nat} {s s' : St} (h1 : After F w sb s w1) (h2 : ∀ F', Holds w1 F' sb s → After F' w1 sb s' w2) : After F w sb s' w2 := by
  obtain ⟨F', a, b, c⟩ := h1
  exact After.trans b c (h2 F' a)

/-- first, of any of the structure's lists. -/
theorem first_any' (w : World) (F : Nat → Prop) (sb : Nat) (s : St) (h : Holds w F sb s) (i : Nat) (hi : i < s.ts.length) :
    Calls Tryz.prog 105 #[.pointer (some ⟨sb, 0, none⟩), .int .i64 (i : Int)] w fun e w' => e = .returned (.int .i64 (getN s.gr i : Int)) ∧ Keeps F w sb s w' := by
  obtain ⟨tv, av, bm, D, ah, R⟩ := h
  refine (first_any w F sb bm s tv av D ah R i hi).mono ?_
  rintro e w' ⟨rfl, ah', R', hO⟩
  exact ⟨rfl, ⟨_, _, _, _, _, R'⟩, hO⟩

set_option maxRecDepth 100000 in
set_option maxHeartbeats 1000000 in
theorem get_any (w : World) (F : Nat → Prop) (sb : Nat) (s : St) (x : Int) (h : Holds w F sb s) (hx : (Lit.int .i64 x).wf = true) (hl : s.ts.length ≤ 1000000) :
    Calls Tryz.prog 128 #[.pointer (some ⟨sb, 0, none⟩), .int .i64 x] w fun e w' => e = .returned (.int .i64 ((s.add x).place x : Int)) ∧ After F w sb (s.add x) w' := by
  have HF := Lib.hid (find_any w F sb s x h hx)
  by_cases hm : x ∈ s.ts
  · have e1 := (St.find_in hm).1
    have HA := Lib.hid (St.add_in hm)
    rw [e1] at HF
    have hne : ((s.place x : Int) == -1) = false := beq_eq_false_iff_ne.2 (by omega)
    go_enter Tryz.func128, Tryz.ntmps128
    clear e1 hm
    go_wp2_with fail
    refine HF.out.mono ?_
    rintro e w1 ⟨rfl, hB⟩
    go_wp2
    go_ret
    exact ⟨ret_int (by rw [HA.out]), by rw [HA.out]; exact (Keeps.below h hB).after⟩
  · have e1 := St.find_out hm
    have HA := Lib.hid (St.place_new hm)
    rw [e1] at HF
    have HM := Lib.hid hm
    clear hm e1
    go_enter Tryz.func128, Tryz.ntmps128
    go_wp2_with fail
    refine HF.out.mono ?_
    rintro e w1 ⟨rfl, hB⟩
    go_wp2_with fail
    refine (put_any w1 F sb s x (h.below hB) hx HM.out hl).mono ?_
    rintro e w2 ⟨rfl, hA⟩
    go_wp2
    go_ret
    exact ⟨ret_int (by rw [HA.out]), (Keeps.below h hB).then hA⟩

set_option maxRecDepth 100000 in
set_option maxHeartbeats 1000000 in
theorem add_any (w : World) (F : Nat → Prop) (sb : Nat) (s : St) (x : Int) (h : Holds w F sb s) (hx : (Lit.int .i64 x).wf = true) (hl : s.ts.length ≤ 1000000) :
    Calls Tryz.prog 79 #[.pointer (some ⟨sb, 0, none⟩), .int .i64 x] w fun e w' => e = .returned (.bool (decide (x ∉ s.ts))) ∧ After F w sb (s.add x) w' := by
  have HF := Lib.hid (find_any w F sb s x h hx)
  by_cases hm : x ∈ s.ts
  · have e1 := (St.find_in hm).1
    have HA := Lib.hid (St.add_in hm)
    have HM := Lib.hid (show decide (x ∉ s.ts) = false by simpa using hm)
    rw [e1] at HF
    have hne : ((s.place x : Int) != -1) = true := bne_iff_ne.2 (by omega)
    go_enter Tryz.func79, Tryz.ntmps79
    clear e1 hm
    go_wp2_with fail
    refine HF.out.mono ?_
    rintro e w1 ⟨rfl, hB⟩
    go_wp2
    go_ret
    exact ⟨ret_bool HM.out.symm, by rw [HA.out]; exact (Keeps.below h hB).after⟩
  · have e1 := St.find_out hm
    have HD := Lib.hid (show decide (x ∉ s.ts) = true by simpa using hm)
    rw [e1] at HF
    have HM := Lib.hid hm
    clear hm e1
    go_enter Tryz.func79, Tryz.ntmps79
    go_wp2_with fail
    refine HF.out.mono ?_
    rintro e w1 ⟨rfl, hB⟩
    go_wp2_with fail
    refine (put_any w1 F sb s x (h.below hB) hx HM.out hl).mono ?_
    rintro e w2 ⟨rfl, hA⟩
    go_wp2
    go_ret
    exact ⟨ret_bool HD.out.symm, (Keeps.below h hB).then hA⟩

set_option maxRecDepth 100000 in
theorem count_any (w : World) (F : Nat → Prop) (sb : Nat) (s : St) (h : Holds w F sb s) :
    Calls Tryz.prog 82 #[.pointer (some ⟨sb, 0, none⟩)] w fun e w' => e = .returned (.int .i64 (heads s.gr : Int)) ∧ w = w' := by
  obtain ⟨tv, av, bm, D, ah, R⟩ := h
  have c3 := R.c3
  clear R
  go_enter Tryz.func82, Tryz.ntmps82
  go_wp2
  go_ret
  exact ⟨rfl, rfl⟩

end Go.Proofs.YtmbpmepoaonleaaGreat
