/-
  Things in groups as they lie in memory: the structure, its two lists, its map; and which blocks a call of theirs may change.
-/
import Derived.Test.YtjnohnbppkhbaaaStM
import Derived.Test.YtjnohnbppkhbaaaIv
import Derived.Maps.OwnSet
import Derived.Maps.AppendAt
import Derived.Maps.OwnRows
import Derived.Deep.Heap
namespace Go.Proofs.Ytjnohnbppkhbaaa
open Go.RowKit Go.Maps

/-- Only blocks of F, of those that were there, have changed. -/
structure Only (F : Nat → Prop) (w w' : World) : Prop where
  os : w'.os = w.os
  tape : w'.tape = w.tape
  output : w'.output = w.output
  size : w.heap.size ≤ w'.heap.size
  block : ∀ k, k < w.heap.size → ¬ F k → w'.heap[k]? = w.heap[k]?

theorem Only.refl (F : Nat → Prop) (w : World) : Only F w w := ⟨rfl, rfl, rfl, Nat.le_refl _, fun _ _ _ => rfl⟩
theorem Only.of_below {F : Nat → Prop} {w w' : World} (h : Below w.heap.size w w') : Only F w w' := ⟨h.os, h.tape, h.output, h.size, fun k hk _ => h.block k hk⟩
theorem Only.trans {F G : Nat → Prop} {w w1 w2 : World} (h : Only F w w1) (k : Only G w1 w2) (hs : ∀ i, i < w.heap.size → G i → F i) : Only F w w2 :=
  ⟨k.os.trans h.os, k.tape.trans h.tape, k.output.trans h.output, Nat.le_trans h.size k.size, fun i hi hf => (k.block i (Nat.lt_of_lt_of_le hi h.size) (fun g => hf (hs i hi g))).trans (h.block i hi hf)⟩
theorem Only.trans' {F : Nat → Prop} {w w1 w2 : World} (h : Only F w w1) (k : Only F w1 w2) : Only F w w2 := h.trans k (fun _ _ => id)
theorem Only.below {F : Nat → Prop} {w w' : World} (h : Only F w w') {B : Nat} (hB : B ≤ w.heap.size) (hF : ∀ k, F k → B ≤ k) : Below B w w' :=
  ⟨h.os, h.tape, h.output, h.size, fun k hk => h.block k (Nat.lt_of_lt_of_le hk hB) (fun f => absurd (hF k f) (by omega))⟩
theorem Only.of_grown {F : Nat → Prop} {w w' : World} {row : Option Nat} (hg : w.grownBy w' row) (hr : ∀ k, row = some k → F k) : Only F w w' :=
  ⟨hg.os, hg.tape, hg.output, hg.size, fun k hk hf => hg.block k hk (fun e => hf (hr k e.symm))⟩
theorem Only.setCell {F : Nat → Prop} (w : World) {a : Addr} (h : F a.block) (v : Value) : Only F w (w.setCell a v) :=
  ⟨rfl, rfl, rfl, by simp [World.setCell], fun k _ hf => Below.heap_setCell _ _ _ _ (fun e => hf (by rw [e]; exact h))⟩
theorem Only.more {F G : Nat → Prop} {w w' : World} (h : Only F w w') (hs : ∀ k, k < w.heap.size → F k → G k) : Only G w w' :=
  ⟨h.os, h.tape, h.output, h.size, fun k hk hg => h.block k hk (fun f => hg (hs k hk f))⟩
theorem Only.cell {F : Nat → Prop} {w w' : World} (h : Only F w w') {a : Addr} {v : Value} (hc : w.cell? a = some v) (hf : ¬ F a.block) : w'.cell? a = some v :=
  (World.cell?_of_block (h.block a.block (World.block_lt_of_cell? w a hc) hf)).trans hc

/-- The slice value lies in none of F's blocks. -/
def Off (F : Nat → Prop) (v : Value) : Prop := ∀ b, v.ownBlock = some b → ¬ F b

theorem Ints.only {w w' : World} {F : Nat → Prop} {v : Value} {l : List Int} (h : Ints w v l) (hf : Off F v) (ho : Only F w w') : Ints w' v l := by
  obtain ⟨A, cap, rfl, hc, hm, hr⟩ := h
  refine ⟨A, cap, rfl, hc, hm, fun h0 => ?_⟩
  obtain ⟨b, off, rfl, hlt, hg⟩ := hr h0
  exact ⟨b, off, rfl, Nat.lt_of_lt_of_le hlt ho.size, fun j hj => ho.cell (hg j hj) (hf b rfl)⟩

/-- .. or it has no number at all. -/
theorem Ints.onlyN {w w' : World} {F : Nat → Prop} {v : Value} {l : List Int} (h : Ints w v l) (hf : 0 < l.length → Off F v) (ho : Only F w w') : Ints w' v l := by
  obtain ⟨A, cap, rfl, hc, hm, hr⟩ := h
  refine ⟨A, cap, rfl, hc, hm, fun h0 => ?_⟩
  obtain ⟨b, off, rfl, hlt, hg⟩ := hr h0
  exact ⟨b, off, rfl, Nat.lt_of_lt_of_le hlt ho.size, fun j hj => ho.cell (hg j hj) (hf h0 b rfl)⟩

/-- What is owned stays owned where its own block has not changed. -/
theorem own_block {w w' : World} {base : Nat} {e : TypeId} {size : Nat} {v : Value} {n : Nat} {xs : List Value} (h : w.ownsRow base e size v n xs) (hs : ∀ g, v.ownBlock = some g → w'.heap[g]? = w.heap[g]?) : w'.ownsRow base e size v n xs := by
  refine ⟨h.1, ?_⟩
  rcases h.2 with hn | ⟨g, cap, cur, rfl, hbg, hg, rest⟩
  · exact .inl hn
  · exact .inr ⟨g, cap, cur, rfl, hbg, by rw [hs g rfl]; exact hg, rest⟩

theorem own_base {w : World} {base : Nat} {e : TypeId} {size : Nat} {v : Value} {n : Nat} {xs : List Value} (h : w.ownsRow base e size v n xs) {base' : Nat} (hb : ∀ g, v.ownBlock = some g → base' ≤ g) : w.ownsRow base' e size v n xs := by
  refine ⟨h.1, ?_⟩
  rcases h.2 with hn | ⟨g, cap, cur, rfl, hbg, rest⟩
  · exact .inl hn
  · exact .inr ⟨g, cap, cur, rfl, hb g rfl, rest⟩

/-- A row of one type of cells is no block of another one. -/
theorem own_apart {w : World} {base b : Nat} {e e' : TypeId} {size : Nat} {v : Value} {n : Nat} {xs : List Value} {cs : Array Value} {fz : Nat × Nat} (h : w.ownsRow base e size v n xs) (hb : w.heap[b]? = some (.cells cs e' fz)) (hne : e ≠ e') : v.ownBlock ≠ some b := by
  rcases h.2 with ⟨rfl, _⟩ | ⟨g, cap, cur, rfl, _, hg, _⟩
  · simp [Value.ownBlock]
  · intro e1
    simp only [Value.ownBlock, Option.some.injEq] at e1
    subst e1
    rw [hb] at hg
    simp only [Option.some.injEq, Obj.cells.injEq] at hg
    exact hne hg.2.1.symm

theorem own_apart_map {w : World} {base b : Nat} {e : TypeId} {size : Nat} {v : Value} {n : Nat} {xs : List Value} {es : Array MapEntry} {clock : Nat} (h : w.ownsRow base e size v n xs) (hb : w.heap[b]? = some (.map es clock)) : v.ownBlock ≠ some b := by
  rcases h.2 with ⟨rfl, _⟩ | ⟨g, cap, cur, rfl, _, hg, _⟩
  · simp [Value.ownBlock]
  · intro e1
    simp only [Value.ownBlock, Option.some.injEq] at e1
    subst e1
    rw [hb] at hg
    cases hg

/-! ### The map -/

/-- The map tells where each thing stands. -/
def Tells (D : DataW Unit) (ts : List Int) : Prop :=
  IsMap D ∧ ∀ x : Int, Maps.has D (.int .i64 x) = decide (x ∈ ts) ∧ (x ∈ ts → D.atKey (.int .i64 x) (.lit (.int .i64 0)) = .lit (.int .i64 (Lib.idxOf ts x)))

theorem isKey (x : Int) : WideAt.IsKeyLit (.int .i64 x) := by trivial

theorem Tells.start : Tells (.map []) [] := ⟨isMap_empty, fun x => ⟨by simp [Maps.has], fun h => by simp at h⟩⟩

theorem Tells.put {D : DataW Unit} {s : St} (h : Tells D s.ts) {x : Int} (hx : x ∉ s.ts) : Tells (D.put (.int .i64 x) (.lit (.int .i64 (s.ts.length : Int)))) (s.add x).ts := by
  refine ⟨h.1.put _ _, fun y => ?_⟩
  by_cases e : y = x
  · subst e
    refine ⟨?_, fun _ => ?_⟩
    · rw [has_put_same h.1 (isKey y)]
      exact (decide_eq_true (St.mem_add_self s y)).symm
    · rw [atKey_put_same h.1 (isKey y)]
      have h1 := St.find_in (St.mem_add_self s y)
      rw [St.place_new hx] at h1
      rw [h1.1]
  · have hne : (Lit.int .i64 y) ≠ .int .i64 x := by simpa using e
    have hm : y ∈ (s.add x).ts ↔ y ∈ s.ts := by rw [St.mem_add]; exact ⟨fun h => h.elim id (fun h => absurd h e), .inl⟩
    refine ⟨?_, fun hy => ?_⟩
    · rw [has_put_other hne, (h.2 y).1]
      exact decide_eq_decide.2 hm.symm
    · rw [atKey_put_other hne, (h.2 y).2 (hm.1 hy)]
      have h1 := St.find_in hy
      have h2 := St.find_in (hm.1 hy)
      rw [h1.1, h2.1, St.place_add x (hm.1 hy)]

/-! ### The whole structure -/

theorem Try.keyInt : Keyed Try.prog 3 := int_keyed Try.underlying3
theorem Try.zeroInt (w : World) : (zeroValue 3).run Try.prog w = .ok (.int .i64 0) w := by kernel_rfl

/-- Block sb holds the structure of s, whose parts lie in blocks of F. -/
structure Rep (w : World) (F : Nat → Prop) (sb : Nat) (s : St) (tv av : Value) (bm : Nat) (D : DataW Unit) (ah : List Nat) : Prop where
  box : w.heap[sb]? = some (.cells #[tv, .map (some bm), av, .int .i64 (heads s.gr : Int)] 79 (0, 0))
  things : w.ownsRow 0 3 1 tv s.ts.length (s.ts.map (Value.int .i64))
  ahead : w.ownsRow 0 3 1 av (natsI ah).length ((natsI ah).map (Value.int .i64))
  apart : tv.ownBlock = none ∨ tv.ownBlock ≠ av.ownBlock
  places : w.ownsMap Try.prog 3 (plainElem Try.prog 3) bm s.ts.length D
  tells : Tells D s.ts
  leads : Leads ah s.gr
  ok : St.Ok s
  fsb : F sb
  fbm : F bm
  ftv : ∀ k, tv.ownBlock = some k → F k
  fav : ∀ k, av.ownBlock = some k → F k
  flt : ∀ k, F k → k < w.heap.size

/-- .. wherever its parts lie. -/
def Holds (w : World) (F : Nat → Prop) (sb : Nat) (s : St) : Prop := ∃ tv av bm D ah, Rep w F sb s tv av bm D ah

variable {w w' : World} {F : Nat → Prop} {sb bm : Nat} {s : St} {tv av : Value} {D : DataW Unit} {ah : List Nat}

theorem Rep.same (h : Rep w F sb s tv av bm D ah) (hs : ∀ k, F k → w'.heap[k]? = w.heap[k]?) (hz : w.heap.size ≤ w'.heap.size) : Rep w' F sb s tv av bm D ah := by
  refine ⟨(hs sb h.fsb).trans h.box, own_block h.things (fun g hg => hs g (h.ftv g hg)), own_block h.ahead (fun g hg => hs g (h.fav g hg)), h.apart, ?_, h.tells, h.leads, h.ok, h.fsb, h.fbm, h.ftv, h.fav, fun k hk => Nat.lt_of_lt_of_le (h.flt k hk) hz⟩
  obtain ⟨es, clock, hb, r⟩ := h.places
  exact ⟨es, clock, (hs bm h.fbm).trans hb, r⟩
theorem Rep.below (h : Rep w F sb s tv av bm D ah) (hb : Below w.heap.size w w') : Rep w' F sb s tv av bm D ah := h.same (fun k hk => hb.block k (h.flt k hk)) hb.size
theorem Holds.below (h : Holds w F sb s) (hb : Below w.heap.size w w') : Holds w' F sb s := by
  obtain ⟨tv, av, bm, D, ah, r⟩ := h
  exact ⟨tv, av, bm, D, ah, r.below hb⟩
theorem Holds.lt (h : Holds w F sb s) : ∀ k, F k → k < w.heap.size := by obtain ⟨_, _, _, _, _, r⟩ := h; exact r.flt
theorem Holds.ok (h : Holds w F sb s) : St.Ok s := by obtain ⟨_, _, _, _, _, r⟩ := h; exact r.ok
theorem Holds.inF (h : Holds w F sb s) : F sb := by obtain ⟨_, _, _, _, _, r⟩ := h; exact r.fsb

theorem Rep.c0 (h : Rep w F sb s tv av bm D ah) : w.cell? ⟨sb, 0, none⟩ = some tv := by simp [World.cell?, h.box]
theorem Rep.c1 (h : Rep w F sb s tv av bm D ah) : w.cell? ⟨sb, 1, none⟩ = some (.map (some bm)) := by simp [World.cell?, h.box]
theorem Rep.c2 (h : Rep w F sb s tv av bm D ah) : w.cell? ⟨sb, 2, none⟩ = some av := by simp [World.cell?, h.box]
theorem Rep.c3 (h : Rep w F sb s tv av bm D ah) : w.cell? ⟨sb, 3, none⟩ = some (.int .i64 (heads s.gr : Int)) := by simp [World.cell?, h.box]
theorem Rep.fz (h : Rep w F sb s tv av bm D ah) (j : Nat) : w.frozen? ⟨sb, j, none⟩ = false := by simp [World.frozen?, h.box]
theorem Rep.lt (h : Rep w F sb s tv av bm D ah) : sb < w.heap.size := h.flt sb h.fsb
theorem Rep.tv_sb (h : Rep w F sb s tv av bm D ah) : tv.ownBlock ≠ some sb := own_apart h.things h.box (by decide)
theorem Rep.av_sb (h : Rep w F sb s tv av bm D ah) : av.ownBlock ≠ some sb := own_apart h.ahead h.box (by decide)
theorem Rep.tv_bm (h : Rep w F sb s tv av bm D ah) : tv.ownBlock ≠ some bm := by obtain ⟨es, clock, hb, _⟩ := h.places; exact own_apart_map h.things hb
theorem Rep.av_bm (h : Rep w F sb s tv av bm D ah) : av.ownBlock ≠ some bm := by obtain ⟨es, clock, hb, _⟩ := h.places; exact own_apart_map h.ahead hb
theorem Rep.bm_sb (h : Rep w F sb s tv av bm D ah) : bm ≠ sb := by
  obtain ⟨es, clock, hb, _⟩ := h.places
  intro e; subst e
  rw [h.box] at hb; cases hb
theorem Rep.len (h : Rep w F sb s tv av bm D ah) : ah.length = s.ts.length := h.leads.1.trans h.ok.len

/-- A place's number among the ways ahead: the list is a slice of the call's own; its row's block is none of the others. -/
theorem Rep.av_at (h : Rep w F sb s tv av bm D ah) (h0 : 0 < ah.length) : ∃ ab cap, av = .slice (some ⟨ab, 0, none⟩) ah.length cap ∧ F ab ∧ ab ≠ sb ∧ ab ≠ bm ∧ tv.ownBlock ≠ some ab ∧
    (∀ j, j < ah.length → w.cell? ⟨ab, j, none⟩ = some (.int .i64 (getN ah j : Int))) ∧ (∀ j, w.frozen? ⟨ab, j, none⟩ = false) := by
  have hc := h.ahead
  rw [natsI_length] at hc
  rcases hc.2 with ⟨_, h1⟩ | ⟨ab, cap, cur, rfl, _, _, _, _, _⟩
  · omega
  · refine ⟨ab, cap, rfl, h.fav ab rfl, fun e => h.av_sb (by rw [e]; rfl), fun e => h.av_bm (by rw [e]; rfl), ?_, fun j hj => ?_, fun j => hc.frozenAt j⟩
    · rcases h.apart with e | e
      · rw [e]; simp
      · exact e
    · rw [hc.cellAt j (by omega), ints_get .i64 (natsI ah) j (by rw [natsI_length]; exact hj), natsI_get ah j hj]

theorem Rep.tv_at (h : Rep w F sb s tv av bm D ah) (h0 : 0 < s.ts.length) : ∃ tb cap, tv = .slice (some ⟨tb, 0, none⟩) s.ts.length cap ∧ F tb ∧ (∀ j, j < s.ts.length → w.cell? ⟨tb, j, none⟩ = some (.int .i64 (getI s.ts j))) := by
  have hc := h.things
  rcases hc.2 with ⟨_, h1⟩ | ⟨tb, cap, cur, rfl, _, _, _, _, _⟩
  · omega
  · refine ⟨tb, cap, rfl, h.ftv tb rfl, fun j hj => ?_⟩
    rw [hc.cellAt j (by omega), ints_get .i64 s.ts j hj]

/-- A way ahead is made another one, to the same first places. -/
theorem Rep.set (h : Rep w F sb s tv av bm D ah) {ab cap n : Nat} (hav : av = .slice (some ⟨ab, 0, none⟩) n cap) {i x : Nat} (hl : Leads (ah.set i x) s.gr) :
    Rep (w.setCell ⟨ab, i, none⟩ (.int .i64 (x : Int))) F sb s tv av bm D (ah.set i x) ∧ Only F w (w.setCell ⟨ab, i, none⟩ (.int .i64 (x : Int))) := by
  have hF : F ab := h.fav ab (by rw [hav]; rfl)
  have hoth : ∀ k, k ≠ ab → (w.setCell ⟨ab, i, none⟩ (.int .i64 (x : Int))).heap[k]? = w.heap[k]? := fun k hk => Below.heap_setCell _ _ _ _ hk
  have hz : (w.setCell ⟨ab, i, none⟩ (.int .i64 (x : Int))).heap.size = w.heap.size := by simp [World.setCell]
  refine ⟨⟨(hoth sb (fun e => h.av_sb (by rw [hav, e]; rfl))).trans h.box, own_block h.things (fun g hg => hoth g (fun e => ?_)), ?_, h.apart, ?_, h.tells, hl, h.ok, h.fsb, h.fbm, h.ftv, h.fav, fun k hk => by rw [hz]; exact h.flt k hk⟩, Only.setCell w hF _⟩
  · rcases h.apart with e1 | e1
    · rw [e1] at hg; cases hg
    · exact e1 (by rw [hg, hav, e]; rfl)
  · have ho := h.ahead
    subst hav
    have hn : n = (natsI ah).length := by
      rcases ho.2 with ⟨e, _⟩ | ⟨g, c, cur, e, _⟩
      · cases e
      · simp only [Value.slice.injEq] at e; omega
    subst hn
    have h1 := (ho.stored i (.int .i64 (x : Int))).1
    rw [natsI_set, List.length_set, List.map_set]
    exact h1
  · obtain ⟨es, clock, hb, r⟩ := h.places
    exact ⟨es, clock, (hoth bm (fun e => h.av_bm (by rw [hav, e]; rfl))).trans hb, r⟩

end Go.Proofs.Ytjnohnbppkhbaaa
