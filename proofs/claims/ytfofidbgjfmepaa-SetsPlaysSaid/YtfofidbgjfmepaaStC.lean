/-
  The program's put: a new thing, by itself.
-/
import Derived.Test.YtfofidbgjfmepaaStB
namespace Go.Proofs.Ytfofidbgjfmepaa
open Go.RowKit Go.Maps

/-- The structure's parts, between two steps of a call. -/
structure Mid (w : World) (G : Nat → Prop) (sb : Nat) (tv : Value) (ts : List Int) (av : Value) (ws : List Int) (bm n : Nat) (D : DataW Unit) (c : Value) : Prop where
  box : w.heap[sb]? = some (.cells #[tv, .map (some bm), av, c] 47 (0, 0))
  things : w.ownsRow 0 3 1 tv ts.length (ts.map (Value.int .i64))
  ahead : w.ownsRow 0 3 1 av ws.length (ws.map (Value.int .i64))
  places : w.ownsMap Try.prog 3 (plainElem Try.prog 3) bm n D
  apart : tv.ownBlock = none ∨ tv.ownBlock ≠ av.ownBlock
  gsb : G sb
  gbm : G bm
  gtv : ∀ k, tv.ownBlock = some k → G k
  gav : ∀ k, av.ownBlock = some k → G k

theorem box_cell {w : World} {sb : Nat} {a b c d : Value} {T : TypeId} (h : w.heap[sb]? = some (.cells #[a, b, c, d] T (0, 0))) :
    w.cell? ⟨sb, 0, none⟩ = some a ∧ w.cell? ⟨sb, 1, none⟩ = some b ∧ w.cell? ⟨sb, 2, none⟩ = some c ∧ w.cell? ⟨sb, 3, none⟩ = some d ∧ ∀ j, w.frozen? ⟨sb, j, none⟩ = false := by
  refine ⟨by simp [World.cell?, h], by simp [World.cell?, h], by simp [World.cell?, h], by simp [World.cell?, h], fun j => by simp [World.frozen?, h]⟩

variable {w w1 : World} {G : Nat → Prop} {sb : Nat} {tv av : Value} {ts ws : List Int} {bm n : Nat} {D : DataW Unit} {c : Value}

theorem map_same {b : Nat} (h : w.ownsMap Try.prog 3 (plainElem Try.prog 3) b n D) (hs : w1.heap[b]? = w.heap[b]?) : w1.ownsMap Try.prog 3 (plainElem Try.prog 3) b n D := by
  obtain ⟨es, clock, hb, r⟩ := h
  exact ⟨es, clock, hs.trans hb, r⟩

theorem Mid.tv_sb (M : Mid w G sb tv ts av ws bm n D c) : tv.ownBlock ≠ some sb := own_apart M.things M.box (by decide)
theorem Mid.av_sb (M : Mid w G sb tv ts av ws bm n D c) : av.ownBlock ≠ some sb := own_apart M.ahead M.box (by decide)
theorem Mid.tv_bm (M : Mid w G sb tv ts av ws bm n D c) : tv.ownBlock ≠ some bm := by obtain ⟨es, clock, hb, _⟩ := M.places; exact own_apart_map M.things hb
theorem Mid.av_bm (M : Mid w G sb tv ts av ws bm n D c) : av.ownBlock ≠ some bm := by obtain ⟨es, clock, hb, _⟩ := M.places; exact own_apart_map M.ahead hb
theorem Mid.bm_sb (M : Mid w G sb tv ts av ws bm n D c) : bm ≠ sb := by
  obtain ⟨es, clock, hb, _⟩ := M.places
  intro e; subst e
  rw [M.box] at hb; cases hb
theorem Mid.sb_lt (M : Mid w G sb tv ts av ws bm n D c) : sb < w.heap.size := (Array.getElem?_eq_some_iff.1 M.box).1
theorem Mid.bm_lt (M : Mid w G sb tv ts av ws bm n D c) : bm < w.heap.size := M.places.lt

theorem Mid.same (M : Mid w G sb tv ts av ws bm n D c) (hb : Below w.heap.size w w1) : Mid w1 G sb tv ts av ws bm n D c :=
  ⟨(hb.block sb M.sb_lt).trans M.box, own_block M.things (fun g hg => hb.block g (M.things.lt g hg).2), own_block M.ahead (fun g hg => hb.block g (M.ahead.lt g hg).2), map_same M.places (hb.block bm M.bm_lt), M.apart, M.gsb, M.gbm, M.gtv, M.gav⟩

theorem box_set {w : World} {sb : Nat} {cs : Array Value} {T : TypeId} (h : w.heap[sb]? = some (.cells cs T (0, 0))) (j : Nat) (v : Value) : (w.setCell ⟨sb, j, none⟩ v).heap[sb]? = some (.cells (cs.setIfInBounds j v) T (0, 0)) := by
  simp [World.setCell, Array.getElem?_modify, h]

/-- A thing has been appended to the things, and the slice stored. -/
theorem Mid.app0 (M : Mid w G sb tv ts av ws bm n D c) {v' : Value} {ts' : List Int} (hg : w.grownBy w1 tv.ownBlock) (ho : w1.ownsRow 0 3 1 v' ts'.length (ts'.map (Value.int .i64)))
    (hat : v'.ownBlock = tv.ownBlock ∨ v'.ownBlock = some w.heap.size) (hG : ∀ k, w.heap.size ≤ k → G k) :
    Mid (w1.setCell ⟨sb, 0, none⟩ v') G sb v' ts' av ws bm n D c ∧ Only G w (w1.setCell ⟨sb, 0, none⟩ v') ∧ w1.heap[sb]? = some (.cells #[tv, .map (some bm), av, c] 47 (0, 0)) := by
  have hsb : w1.heap[sb]? = w.heap[sb]? := hg.block sb M.sb_lt (fun e => M.tv_sb e.symm)
  have hbm : w1.heap[bm]? = w.heap[bm]? := hg.block bm M.bm_lt (fun e => M.tv_bm e.symm)
  have hav : ∀ g, av.ownBlock = some g → w1.heap[g]? = w.heap[g]? := fun g hk => hg.block g (M.ahead.lt g hk).2 (fun e => by
    rcases M.apart with h | h
    · rw [h] at e; cases e
    · exact h (by rw [hk]; exact e.symm))
  have box1 := hsb.trans M.box
  have hoth : ∀ k, k ≠ sb → (w1.setCell ⟨sb, 0, none⟩ v').heap[k]? = w1.heap[k]? := fun k hk => Below.heap_setCell _ _ _ _ hk
  have hv' : v'.ownBlock ≠ some sb := own_apart ho box1 (by decide)
  refine ⟨⟨?_, own_block ho (fun g hk => hoth g (fun e => hv' (by rw [hk, e]))), own_block M.ahead (fun g hk => (hoth g (fun e => M.av_sb (by rw [hk, e]))).trans (hav g hk)), map_same M.places ((hoth bm M.bm_sb).trans hbm), ?_, M.gsb, M.gbm, ?_, M.gav⟩, ?_, box1⟩
  · rw [box_set box1]; rfl
  · rcases hat with e | e
    · rw [e]; exact M.apart
    · right; rw [e]; intro e1
      have := (M.ahead.lt _ e1.symm).2
      omega
  · intro k hk
    rcases hat with e | e
    · exact M.gtv k (e ▸ hk)
    · rw [e] at hk; cases hk; exact hG _ (Nat.le_refl _)
  · exact (Only.of_grown hg M.gtv).trans' (Only.setCell w1 M.gsb _)

/-- A way ahead has been appended, and the slice stored. -/
theorem Mid.app2 (M : Mid w G sb tv ts av ws bm n D c) {v' : Value} {ws' : List Int} (hg : w.grownBy w1 av.ownBlock) (ho : w1.ownsRow 0 3 1 v' ws'.length (ws'.map (Value.int .i64)))
    (hat : v'.ownBlock = av.ownBlock ∨ v'.ownBlock = some w.heap.size) (hG : ∀ k, w.heap.size ≤ k → G k) :
    Mid (w1.setCell ⟨sb, 2, none⟩ v') G sb tv ts v' ws' bm n D c ∧ Only G w (w1.setCell ⟨sb, 2, none⟩ v') ∧ w1.heap[sb]? = some (.cells #[tv, .map (some bm), av, c] 47 (0, 0)) := by
  have hsb : w1.heap[sb]? = w.heap[sb]? := hg.block sb M.sb_lt (fun e => M.av_sb e.symm)
  have hbm : w1.heap[bm]? = w.heap[bm]? := hg.block bm M.bm_lt (fun e => M.av_bm e.symm)
  have htv : ∀ g, tv.ownBlock = some g → w1.heap[g]? = w.heap[g]? := fun g hk => hg.block g (M.things.lt g hk).2 (fun e => by
    rcases M.apart with h | h
    · rw [h] at hk; cases hk
    · exact h (by rw [hk]; exact e))
  have box1 := hsb.trans M.box
  have hoth : ∀ k, k ≠ sb → (w1.setCell ⟨sb, 2, none⟩ v').heap[k]? = w1.heap[k]? := fun k hk => Below.heap_setCell _ _ _ _ hk
  have hv' : v'.ownBlock ≠ some sb := own_apart ho box1 (by decide)
  refine ⟨⟨?_, own_block M.things (fun g hk => (hoth g (fun e => M.tv_sb (by rw [hk, e]))).trans (htv g hk)), own_block ho (fun g hk => hoth g (fun e => hv' (by rw [hk, e]))), map_same M.places ((hoth bm M.bm_sb).trans hbm), ?_, M.gsb, M.gbm, M.gtv, ?_⟩, ?_, box1⟩
  · rw [box_set box1]; rfl
  · rcases hat with e | e
    · rw [e]; exact M.apart
    · by_cases h0 : tv.ownBlock = none
      · exact .inl h0
      · right; rw [e]; intro e1
        have := (M.things.lt _ e1).2
        omega
  · intro k hk
    rcases hat with e | e
    · exact M.gav k (e ▸ hk)
    · rw [e] at hk; cases hk; exact hG _ (Nat.le_refl _)
  · exact (Only.of_grown hg M.gav).trans' (Only.setCell w1 M.gsb _)

/-- An entry of the map has been written. -/
theorem Mid.mapd (M : Mid w G sb tv ts av ws bm n D c) {n' : Nat} {D' : DataW Unit} (hown : w1.ownsMap Try.prog 3 (plainElem Try.prog 3) bm n' D') (ht : w.mapTurned w1 bm) :
    Mid w1 G sb tv ts av ws bm n' D' c ∧ Only G w w1 := by
  have hg := ht.grown
  refine ⟨⟨(hg.block sb M.sb_lt (fun e => M.bm_sb (by simpa using e.symm))).trans M.box, own_block M.things (fun g hk => hg.block g (M.things.lt g hk).2 (fun e => M.tv_bm (by rw [hk]; exact e))),
    own_block M.ahead (fun g hk => hg.block g (M.ahead.lt g hk).2 (fun e => M.av_bm (by rw [hk]; exact e))), hown, M.apart, M.gsb, M.gbm, M.gtv, M.gav⟩, Only.of_grown hg (fun k hk => by cases hk; exact M.gbm)⟩

/-- The count has been stored. -/
theorem Mid.count (M : Mid w G sb tv ts av ws bm n D c) (v : Value) : Mid (w.setCell ⟨sb, 3, none⟩ v) G sb tv ts av ws bm n D v ∧ Only G w (w.setCell ⟨sb, 3, none⟩ v) := by
  have hoth : ∀ k, k ≠ sb → (w.setCell ⟨sb, 3, none⟩ v).heap[k]? = w.heap[k]? := fun k hk => Below.heap_setCell _ _ _ _ hk
  refine ⟨⟨?_, own_block M.things (fun g hk => hoth g (fun e => M.tv_sb (by rw [hk, e]))), own_block M.ahead (fun g hk => hoth g (fun e => M.av_sb (by rw [hk, e]))), map_same M.places (hoth bm M.bm_sb), M.apart, M.gsb, M.gbm, M.gtv, M.gav⟩, Only.setCell w M.gsb _⟩
  rw [box_set M.box]; rfl

theorem own_shape {e : TypeId} {v : Value} {m : Nat} {xs : List Value} {base size : Nat} (h : w.ownsRow base e size v m xs) : ∃ A cap, v = .slice A m cap := by
  rcases h.2 with ⟨rfl, h0⟩ | ⟨g, cap, cur, rfl, _⟩
  · exact ⟨none, 0, by rw [h0]⟩
  · exact ⟨_, _, rfl⟩

theorem Rep.mid {F : Nat → Prop} {s : St} {ah : List Nat} (R : Rep w F sb s tv av bm D ah) (hF : ∀ k, F k → G k) : Mid w G sb tv s.ts av (natsI ah) bm s.ts.length D (.int .i64 (heads s.gr : Int)) :=
  ⟨R.box, R.things, R.ahead, R.places, R.apart, hF _ R.fsb, hF _ R.fbm, fun k hk => hF k (R.ftv k hk), fun k hk => hF k (R.fav k hk)⟩

/-- What a call may have changed of sets, and what it has made. -/
def After (F : Nat → Prop) (w : World) (sb : Nat) (s : St) (w' : World) : Prop :=
  ∃ F', Holds w' F' sb s ∧ Only F w w' ∧ ∀ k, F' k → F k ∨ w.heap.size ≤ k

theorem After.of_rep {F : Nat → Prop} {s : St} {ah : List Nat} {w w' : World} (R : Rep w' F sb s tv av bm D ah) (h : Only F w w') : After F w sb s w' := ⟨F, ⟨_, _, _, _, _, R⟩, h, fun _ => .inl⟩
theorem After.trans {F F' : Nat → Prop} {s : St} {w w1 w2 : World} (h1 : Only F w w1) (hs : ∀ k, F' k → F k ∨ w.heap.size ≤ k) (h2 : After F' w1 sb s w2) : After F w sb s w2 := by
  obtain ⟨F2, a, b, c⟩ := h2
  refine ⟨F2, a, h1.trans b (fun i hi hF => (hs i hF).elim id (fun h => absurd h (by omega))), fun k hk => ?_⟩
  rcases c k hk with h | h
  · exact hs k h
  · exact .inr (Nat.le_trans h1.size h)

theorem Mid.after {F : Nat → Prop} {s : St} {ah : List Nat} {w0 w : World} (M : Mid w (fun k => F k ∨ w0.heap.size ≤ k) sb tv s.ts av (natsI ah) bm s.ts.length D (.int .i64 (heads s.gr : Int))) (ht : Tells D s.ts) (hl : Leads ah s.gr) (ok : St.Ok s)
    (hO : Only (fun k => F k ∨ w0.heap.size ≤ k) w0 w) (hF : ∀ k, F k → k < w.heap.size) : After F w0 sb s w := by
  refine ⟨fun k => F k ∨ (w0.heap.size ≤ k ∧ k < w.heap.size), ⟨tv, av, bm, D, ah, ⟨M.box, M.things, M.ahead, M.apart, M.places, ht, hl, ok, ?_, ?_, ?_, ?_, ?_⟩⟩, hO.more (fun k hk h => h.elim id (fun h => absurd h (by omega))), fun k hk => hk.imp id And.left⟩
  · exact M.gsb.imp id (fun h => ⟨h, M.sb_lt⟩)
  · exact M.gbm.imp id (fun h => ⟨h, M.bm_lt⟩)
  · exact fun k hk => (M.gtv k hk).imp id (fun h => ⟨h, (M.things.lt k hk).2⟩)
  · exact fun k hk => (M.gav k hk).imp id (fun h => ⟨h, (M.ahead.lt k hk).2⟩)
  · rintro k (h | h)
    · exact hF k h
    · exact h.2

end Go.Proofs.Ytfofidbgjfmepaa
