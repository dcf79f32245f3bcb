/-
  WkG, FcS, FcT, in one text.
-/
import Derived.Test.YtmbpmepoaonleaaGreatM11
import Derived.Test.YtmbpmepoaonleaaGreatM14
import Derived.Test.YtmbpmepoaonleaaGreatM07
import Derived.Lib.SmallJoins
/-! The document's Far. -/
namespace Go.Proofs.YtmbpmepoaonleaaGreat
open Go.RowKit

variable {g : Gph} {p : Prt}

theorem zeroEdge (w : World) : (zeroValue 109).run Tryz.prog w = .ok (.agg #[.int .i64 0, .int .i64 0]) w := by kernel_rfl

/-- A block that holds an edge. -/
def EBox (w : World) (g : Nat) (u v : Value) : Prop := w.heap[g]? = some (.cells #[u, v] 109 (0, 0))
section
variable {w w' : World} {b : Nat} {u v : Value}
theorem EBox.lt (hb : EBox w b u v) : b < w.heap.size := (Array.getElem?_eq_some_iff.1 hb).1
theorem EBox.below (hb : EBox w b u v) (hB : Below w.heap.size w w') : EBox w' b u v := (hB.block b hb.lt).trans hb
theorem EBox.box (hb : EBox w b u v) : Box w b u v :=
  ⟨(cell_of_row w b 0 _ _ (0, 0) hb), (cell_of_row w b 1 _ _ (0, 0) hb), hb.lt, fun i => by simp [World.frozen?, show w.heap[b]? = some (.cells #[u, v] 109 (0, 0)) from hb]⟩
theorem EBox.put (hb : EBox w b u v) (x y : Value) : EBox ((w.setCell ⟨b, 0, none⟩ x).setCell ⟨b, 1, none⟩ y) b x y := by
  have h1 := Go.Joins.block_setCell (i := 0) hb x
  have h2 := Go.Joins.block_setCell (i := 1) h1 y
  exact h2
end
/-- A new variable that holds an edge. -/
def spVar (u v : Value) : Sp := ⟨fun w x => ∃ b, x = .pointer (some ⟨b, 0, none⟩) ∧ EBox w b u v, true, fun _ _ _ hb ⟨b, e, h⟩ => ⟨b, e, h.below hb⟩⟩
theorem spVar_new (w : World) : (spVar (.int .i64 0) (.int .i64 0)).p (w.alloc (.cells #[.int .i64 0, .int .i64 0] 109)) (.pointer (some ⟨w.heap.size, 0, none⟩)) := ⟨_, rfl, heap_alloc_new w _⟩
theorem spVar_at {w : World} {b : Nat} {u v : Value} (h : (spVar u v).p w (.pointer (some ⟨b, 0, none⟩))) : EBox w b u v := by
  obtain ⟨b', e, hb⟩ := h
  cases e
  exact hb

/-- append(l, x): what holds an edge holds it still. -/
theorem wpList_append_keep {wr : World} {ops : Array Oper} {rest : List Oper} {o : Oper} {a : Act} {Q : Exit → Act → World → Prop} (hgd : o.guard = none) (s x : Operand)
    (ho : o.op = .call { callee := .builtin .append, args := #[s, x], argTypes := #[25, 25] })
    {base : Nat} {v : Value} {L : List Int} {z : Int} (hs : a.eval s = v) (hx : a.eval x = .slice (some ⟨wr.heap.size, 0, none⟩) 1 1) (hown : Row wr base v L) (hbase : base ≤ wr.heap.size) (hL : L.length ≤ 4000000)
    (h : ∀ v' w', Row w' base v' (L ++ [z]) → Below base wr w' → (∀ b u1 u2, EBox wr b u1 u2 → EBox w' b u1 u2) → wpList Tryz.prog ops Q rest (a.put o.dst v') w') : wpList Tryz.prog ops Q (o :: rest) a (wr.alloc (.cells #[.int .i64 z] 3)) := by
  obtain ⟨i0, hi, hz0, hz1, hz2⟩ := info_parts Tryz.infoInt
  refine wpList_append_own _ hgd s x 25 ho base 3 i0 _ 1 8 Tryz.underlying25 hi hz0 hz1 hz2 rfl (by decide) v L.length (L.map (Value.int .i64)) hs (World.ownsRow.alloc hown _) ⟨wr.heap.size, 0, none⟩ 1 1 [.int .i64 z] hx rfl (cell_one_new _ _ _) (by simp [Value.oneCell']) (by unfold maxLen; omega) (by omega) (by simp; omega) ?_
  intro v' w1 h1 h2 _
  refine h v' w1 ?_ (((Below.refl base wr).alloc hbase _).grown h2 (by simp; omega) (fun k hk => (World.ownsRow.lt hown k hk).1)) (fun b u1 u2 hb => ?_)
  · show w1.ownsRow _ _ _ _ _ _
    rw [List.length_append, List.map_append]
    exact h1
  · have hb1 := hb.below (below_alloc (w := wr) (.cells #[.int .i64 z] 3))
    refine (h2.block b hb1.lt (fun e => ?_)).trans hb1
    exact own_apart (World.ownsRow.alloc hown _) hb1 (by decide) e.symm

end Go.Proofs.YtmbpmepoaonleaaGreat

/-! The document's spreading out: what is met, edge by edge and vertex by vertex (plain mathematics). -/
namespace Go.Proofs.YtmbpmepoaonleaaGreat

variable {g : Gph} {p : Prt} {M from_ : List Int} {but x y a b : Int}

/-- One side of an edge. -/
def hop (but x : Int) (M : List Int) (a b : Int) : List Int := if a = x ∧ b ≠ but ∧ b ∉ M then M ++ [b] else M
theorem mem_hop : y ∈ hop but x M a b ↔ y ∈ M ∨ (a = x ∧ b = y ∧ y ≠ but) := by
  unfold hop
  by_cases h : a = x ∧ b ≠ but ∧ b ∉ M
  · rw [if_pos h, List.mem_append, List.mem_singleton]
    constructor
    · rintro (h1 | rfl)
      · exact .inl h1
      · exact .inr ⟨h.1, rfl, h.2.1⟩
    · rintro (h1 | ⟨_, rfl, _⟩)
      · exact .inl h1
      · exact .inr rfl
  · rw [if_neg h]
    constructor
    · exact .inl
    · rintro (h1 | ⟨h1, rfl, h2⟩)
      · exact h1
      · exact Classical.byContradiction fun hn => h ⟨h1, h2, hn⟩
theorem hop_front (but x : Int) (a b : Int) {j : Nat} (h : j < M.length) : getI (hop but x M a b) j = getI M j := by
  unfold hop
  split
  · exact getI_app_left _ _ _ h
  · rfl
theorem hop_len (but x : Int) (M : List Int) (a b : Int) : M.length ≤ (hop but x M a b).length ∧ (hop but x M a b).length ≤ M.length + 1 := by
  unfold hop
  split
  · rw [List.length_append, List.length_singleton]; omega
  · omega
theorem hop_nodup (h : M.Nodup) : (hop but x M a b).Nodup := by
  unfold hop
  split
  · next h2 =>
    rw [List.nodup_append]
    exact ⟨h, List.nodup_cons.2 ⟨List.not_mem_nil, List.Pairwise.nil⟩, fun u hu v hv e => by
      rw [List.mem_singleton] at hv
      subst hv
      subst e
      exact h2.2.2 hu⟩
  · exact h
/-- One edge, looked at from a vertex. -/
def hopE (g : Gph) (but x : Int) (M : List Int) (e : Int) : List Int := hop but x (hop but x M (getE g.e e.toNat).a (getE g.e e.toNat).b) (getE g.e e.toNat).b (getE g.e e.toNat).a
theorem mem_hopE {e : Int} : y ∈ hopE g but x M e ↔ y ∈ M ∨ (Joins g e x y ∧ y ≠ but) := by
  unfold hopE
  rw [mem_hop, mem_hop]
  constructor
  · rintro ((h | ⟨h1, h2, h3⟩) | ⟨h1, h2, h3⟩)
    · exact .inl h
    · exact .inr ⟨.inl ⟨h1, h2⟩, h3⟩
    · exact .inr ⟨.inr ⟨h1, h2⟩, h3⟩
  · rintro (h | ⟨⟨h1, h2⟩ | ⟨h1, h2⟩, h3⟩)
    · exact .inl (.inl h)
    · exact .inl (.inr ⟨h1, h2, h3⟩)
    · exact .inr ⟨h1, h2, h3⟩
theorem hopE_front (e : Int) {j : Nat} (h : j < M.length) : getI (hopE g but x M e) j = getI M j := by
  unfold hopE
  rw [hop_front _ _ _ _ (Nat.lt_of_lt_of_le h (hop_len ..).1), hop_front _ _ _ _ h]
/-- Behind k edges. -/
def hops (g : Gph) (but x : Int) (M : List Int) (l : List Int) (k : Nat) : List Int := (l.take k).foldl (hopE g but x) M
theorem hops_succ (g : Gph) (but x : Int) (M l : List Int) (k : Nat) (h : k < l.length) : hops g but x M l (k + 1) = hopE g but x (hops g but x M l k) (getI l k) := by
  unfold hops
  rw [take_succ_getI l k h, List.foldl_append]
  rfl
theorem hops_facts (g : Gph) (but x : Int) (M l : List Int) : ∀ k, k ≤ l.length →
    (M.Nodup → (hops g but x M l k).Nodup) ∧ M.length ≤ (hops g but x M l k).length ∧ (hops g but x M l k).length ≤ M.length + 2 * k ∧ (∀ j, j < M.length → getI (hops g but x M l k) j = getI M j) ∧
    ∀ y, y ∈ hops g but x M l k ↔ y ∈ M ∨ ∃ j, j < k ∧ Joins g (getI l j) x y ∧ y ≠ but
  | 0, _ => ⟨id, Nat.le_refl _, Nat.le_refl _, fun _ _ => rfl, fun y => ⟨.inl, fun h => h.elim id fun ⟨j, hj, _⟩ => absurd hj (Nat.not_lt_zero _)⟩⟩
  | k + 1, hk => by
    obtain ⟨h1, h2, h3, h4, h5⟩ := hops_facts g but x M l k (by omega)
    rw [hops_succ _ _ _ _ _ _ (by omega)]
    have l1 := hop_len but x (hops g but x M l k) (getE g.e (getI l k).toNat).a (getE g.e (getI l k).toNat).b
    have l2 := hop_len but x (hop but x (hops g but x M l k) (getE g.e (getI l k).toNat).a (getE g.e (getI l k).toNat).b) (getE g.e (getI l k).toNat).b (getE g.e (getI l k).toNat).a
    refine ⟨fun h => hop_nodup (hop_nodup (h1 h)), ?_, ?_, fun j hj => ?_, fun y => ?_⟩
    · show M.length ≤ (hop _ _ _ _ _).length
      omega
    · show (hop _ _ _ _ _).length ≤ _
      omega
    · rw [hopE_front _ (by omega), h4 j hj]
    · rw [mem_hopE, h5]
      constructor
      · rintro ((h | ⟨j, hj, h⟩) | h)
        · exact .inl h
        · exact .inr ⟨j, by omega, h⟩
        · exact .inr ⟨k, by omega, h⟩
      · rintro (h | ⟨j, hj, h⟩)
        · exact .inl (.inl h)
        · rcases Nat.lt_or_eq_of_le (Nat.le_of_lt_succ hj) with hj | rfl
          · exact .inl (.inr ⟨j, hj, h⟩)
          · exact .inr h

/-- A step that isn't barred. -/
def Hop (g : Gph) (p : Prt) (but x y : Int) : Prop := Nbr g p x y ∧ y ≠ but
theorem hop_free (hp : perr g p = 0) (x y : Int) : Hop g p (-1) x y ↔ Nbr g p x y := by
  refine ⟨fun h => h.1, fun h => ⟨h, fun e => ?_⟩⟩
  have := (perr_rises hp).2.1.mem (h.ins hp).2
  omega
theorem hops_all : y ∈ hops g but x M p.e p.e.length ↔ y ∈ M ∨ Hop g p but x y := by
  rw [(hops_facts g but x M p.e _ (Nat.le_refl _)).2.2.2.2]
  constructor
  · rintro (h | ⟨j, hj, h1, h2⟩)
    · exact .inl h
    · exact .inr ⟨⟨_, (mem_getI _ _).2 ⟨j, hj, rfl⟩, h1⟩, h2⟩
  · rintro (h | ⟨⟨e, he, h1⟩, h2⟩)
    · exact .inl h
    · obtain ⟨j, hj, rfl⟩ := (mem_getI _ _).1 he
      exact .inr ⟨j, hj, h1, h2⟩

/-- How far it has come: all from which the first i lead on. -/
structure Sprd (g : Gph) (p : Prt) (but : Int) (from_ M : List Int) (i : Nat) : Prop where
  once : M.Nodup
  le : i ≤ M.length
  starts : ∀ f ∈ from_, f ∈ M
  good : ∀ y ∈ M, ∃ f ∈ from_, Reach (Hop g p but) f y
  done : ∀ j, j < i → ∀ y, Hop g p but (getI M j) y → y ∈ M
theorem Sprd.start (h : from_.Nodup) : Sprd g p but from_ from_ 0 :=
  ⟨h, Nat.zero_le _, fun _ h => h, fun y hy => ⟨y, hy, Reach.refl _ y⟩, fun _ hj => absurd hj (Nat.not_lt_zero _)⟩
theorem Sprd.step {i : Nat} (h : Sprd g p but from_ M i) (hi : i < M.length) : Sprd g p but from_ (hops g but (getI M i) M p.e p.e.length) (i + 1) := by
  obtain ⟨h1, h2, _, h4, _⟩ := hops_facts g but (getI M i) M p.e p.e.length (Nat.le_refl _)
  refine ⟨h1 h.once, by omega, fun f hf => hops_all.2 (.inl (h.starts f hf)), fun y hy => ?_, fun j hj y hy => ?_⟩
  · rcases hops_all.1 hy with hy | hy
    · exact h.good y hy
    · obtain ⟨f, hf, hr⟩ := h.good (getI M i) ((mem_getI _ _).2 ⟨i, hi, rfl⟩)
      exact ⟨f, hf, hr.step hy⟩
  · rw [h4 j (by omega)] at hy
    rcases Nat.lt_or_eq_of_le (Nat.le_of_lt_succ hj) with hj | rfl
    · exact hops_all.2 (.inl (h.done j hj y hy))
    · exact hops_all.2 (.inr hy)
theorem Sprd.stop (h : Sprd g p but from_ M M.length) (y : Int) : y ∈ M ↔ ∃ f ∈ from_, Reach (Hop g p but) f y := by
  refine ⟨h.good y, ?_⟩
  rintro ⟨f, hf, hr⟩
  refine Reach.ins (P := fun y => y ∈ M) (fun u v hu huv => ?_) (h.starts f hf) hr
  obtain ⟨j, hj, rfl⟩ := (mem_getI _ _).1 hu
  exact h.done j hj v huv
theorem Sprd.inside {i : Nat} (h : Sprd g p but from_ M i) (hp : perr g p = 0) (hf : ∀ f ∈ from_, f ∈ p.v) : (∀ y ∈ M, y ∈ p.v) ∧ M.length ≤ p.v.length := by
  have h1 : ∀ y ∈ M, y ∈ p.v := fun y hy => by
    obtain ⟨f, h1, h2⟩ := h.good y hy
    exact Reach.ins (P := fun y => y ∈ p.v) (fun u v _ huv => (huv.1.ins hp).2) (hf f h1) h2
  exact ⟨h1, once_len h.once h1⟩
end Go.Proofs.YtmbpmepoaonleaaGreat

/-! The document's Spread: all that hangs together with some vertices, without another one. -/
namespace Go.Proofs.YtmbpmepoaonleaaGreat
open Go.RowKit

variable {g : Gph} {p : Prt}

set_option maxRecDepth 100000 in
set_option maxHeartbeats 8000000 in
theorem spread_any (v u fv : Value) (g : Gph) (p : Prt) (from_ : List Int) (but : Int) (w : World) (h : Gr w v g) (h' : Pt w u p) (hI : Ints w fv from_) (hp : perr g p = 0) (hn : from_.Nodup) (hf : ∀ f ∈ from_, f ∈ p.v) (hp1 : p.v.length ≤ 400) (hp2 : p.e.length ≤ 1000) :
    Calls Tryz.prog 47 #[v, u, fv, .int .i64 but] w fun e w' => ∃ m M, e = .returned m ∧ Row w' w.heap.size m M ∧ Below w.heap.size w w' ∧ Sprd g p but from_ M M.length := by
  obtain ⟨he, hr1, hr2, hends⟩ := perr_rises hp
  obtain ⟨ve, rfl, h1⟩ := h
  obtain ⟨vv, vp, rfl, h2, h3⟩ := h'
  obtain ⟨Ae, ce, rfl⟩ := h1.form
  obtain ⟨Av, cv, rfl⟩ := ints_form h2
  obtain ⟨Ap, cp, rfl⟩ := ints_form h3
  obtain ⟨Af, cf, rfl⟩ := ints_form hI
  obtain ⟨b1, b2, hm⟩ := two_boxes w (.int .i64 g.n) (.slice Ae g.e.length ce) (.slice Av p.v.length cv) (.slice Ap p.e.length cp) 24 27
  have HB1 := Lib.hid b1
  have HB2 := Lib.hid b2
  have HM := Lib.hid hm
  have HE1 := Lib.hid (h1.below hm)
  have HE3 := Lib.hid (h3.below hm)
  have HF := Lib.hid (hI.below hm)
  have hfl : from_.length ≤ p.v.length := once_len hn hf
  have HS0 := Lib.hid (Sprd.start (g := g) (p := p) (but := but) hn)
  clear b1 b2 hm h1 h2 h3 hI
  go_enter Tryz.func47, Tryz.ntmps47
  go_wp2_with (at_builtin; refine wpList_append_all rfl _ _ rfl rfl (Row.nil _ _) rfl HF.out (by simp; omega) (Nat.le_refl _) ?_)
  intro v5 w5 hO5 hb5
  have hsz : ((w.alloc (.cells #[.int .i64 g.n, .slice Ae g.e.length ce] 24)).alloc (.cells #[.slice Av p.v.length cv, .slice Ap p.e.length cp] 27)).heap.size = w.heap.size + 1 + 1 := by simp only [World.alloc, Array.size_push]
  rw [← hsz] at hO5 hb5
  clear hsz
  generalize (w.alloc (.cells #[.int .i64 g.n, .slice Ae g.e.length ce] 24)).alloc (.cells #[.slice Av p.v.length cv, .slice Ap p.e.length cp] 27) = w1 at *
  have HO5 := Lib.hid hO5
  have HW5 := Lib.hid hb5
  clear hO5 hb5
  go_wp2
  go_loopw [9, 10] (fun mv iv wr => ∃ (M : List Int) (i : Nat), iv = .int .i64 i ∧ Hid (Row wr w1.heap.size mv M) ∧ Hid (Below w1.heap.size w1 wr) ∧ Hid (Sprd g p but from_ M i)) (fun _ iv _ => p.v.length - (Go.RowKit.intOf iv).toNat)
  case atStart => exact ⟨from_, 0, rfl, HO5, HW5, HS0⟩
  case round =>
    obtain ⟨M, i, rfl, hR, hB, hS⟩ := hrel
    obtain ⟨wo, hwo⟩ : ∃ z, z = wr := ⟨_, rfl⟩
    subst hwo
    have hML := (hS.out.inside hp hf).2
    have hiM := hS.out.le
    obtain ⟨Am, cm, rfl⟩ := ints_form hR.out.ints
    by_cases hlt : i < M.length
    · have hltI : (i : Int) < (M.length : Int) := by omega
      obtain ⟨x, hx⟩ : ∃ z, z = getI M i := ⟨_, rfl⟩
      have HSS := Lib.hid (hS.out.step hlt)
      rw [← hx] at HSS
      have HX0 := Lib.hid (fun k (hk : k ≤ p.e.length) => show i < (hops g but x M p.e k).length ∧ getI (hops g but x M p.e k) i = x from ⟨Nat.lt_of_lt_of_le hlt (hops_facts g but x M p.e k hk).2.1, ((hops_facts g but x M p.e k hk).2.2.2.1 i hlt).trans hx.symm⟩)
      have HHL := Lib.hid (fun k (hk : k ≤ p.e.length) => (hops_facts g but x M p.e k hk).2.2.1)
      clear hx
      go_wp2
      go_loopw [9, 11] (fun mv kv wr => ∃ k : Nat, k ≤ p.e.length ∧ kv = .int .i64 k ∧ Hid (Row wr w1.heap.size mv (hops g but x M p.e k)) ∧ Hid (Below w1.heap.size w1 wr)) (fun _ kv _ => p.e.length - (Go.RowKit.intOf kv).toNat)
      case atStart => exact ⟨0, Nat.zero_le _, rfl, hR, hB⟩
      case round =>
        obtain ⟨k, hk, rfl, hN, hB3⟩ := hrel
        obtain ⟨wq, hwq⟩ : ∃ z, z = wr := ⟨_, rfl⟩
        subst hwq
        have HX := Lib.hid (HX0.out k hk)
        have hlen := HHL.out k hk
        obtain ⟨Bm, dm, hBm⟩ := ints_form hN.out.ints
        subst hBm
        have dq1 := (HB2.out.below hB3.out).c1
        by_cases hk2 : k < p.e.length
        · obtain ⟨pb, po, rfl, hpb, hpc⟩ := ints_at HE3.out hk2
          have hrk := hr2 k hk2
          obtain ⟨en, hen⟩ : ∃ en : Nat, getI p.e k = en := ⟨(getI p.e k).toNat, by omega⟩
          have hel : en < g.e.length := by omega
          obtain ⟨eb, eo, rfl, heb, he1, he2⟩ := edges_at HE1.out hel
          have hck := (hB3.out.cell (p := ⟨pb, po + k, none⟩) hpb).trans hpc
          have g1 := (hB3.out.cell (p := ⟨eb, eo + en * 2, none⟩) heb).trans he1
          have g2 := (hB3.out.cell (p := ⟨eb, eo + en * 2 + 1, none⟩) heb).trans he2
          have HS := Lib.hid (hops_succ g but x M p.e k hk2)
          rw [hen] at HS hck
          have HS2 := Lib.hid (HS.out.trans (show hopE g but x (hops g but x M p.e k) (en : Int) = hop but x (hop but x (hops g but x M p.e k) (getE g.e en).a (getE g.e en).b) (getE g.e en).b (getE g.e en).a by unfold hopE; rw [Int.toNat_natCast]))
          have hn0 : (0 : Int) ≤ (en : Int) := by omega
          have hn1 : (en : Int) < (g.e.length : Int) := by omega
          generalize (getE g.e en).a = xa at *
          generalize (getE g.e en).b = xb at *
          clear hrk hen hpc he1 he2 HS
          have X0 := Lib.hid (HB1.out.below hB3.out)
          have X1 := Lib.hid (HB2.out.below hB3.out)
          have hpz : pb < wq.heap.size := Nat.lt_of_lt_of_le hpb hB3.out.size
          have hez : eb < wq.heap.size := Nat.lt_of_lt_of_le heb hB3.out.size
          go_wp2_with fail
          -- the region
          refine wp_region_plan [is (.pointer (some ⟨w.heap.size, 1, none⟩)), is (.slice (some ⟨eb, eo, none⟩) g.e.length ce), is (.pointer (some ⟨w.heap.size + 1, 1, none⟩)), is (.slice (some ⟨pb, po, none⟩) p.e.length cp), is (.int .i64 (k : Int)), is (.pointer (some ⟨pb, po + k, none⟩)), is (.int .i64 (en : Int)), is (.pointer (some ⟨eb, eo + en * 2, none⟩)), is (.agg #[.int .i64 xa, .int .i64 xb]), spVar (.int .i64 0) (.int .i64 0)] (by kernel_rfl) (by kernel_rfl) ?_ ?_
          · skip
            refine StepsP.cons ?_ ?_
            · refine step_val (fun a wx hB O D => ?_)
              have e4 : a.tmps[4]? = some (.pointer (some ⟨w.heap.size, 0, none⟩)) := O 4 (by rfl)
              clear O D
              exact ⟨rfl, by go_simp⟩
            refine StepsP.cons ?_ ?_
            · refine step_val (fun a wx hB O D => ?_)
              obtain ⟨_, e29, rfl⟩ := D 0 _ _ _ (by decide) rfl rfl rfl
              obtain ⟨c0, c1, _⟩ := X0.out.below hB
              clear O D
              exact ⟨rfl, by go_simp⟩
            refine StepsP.cons ?_ ?_
            · refine step_val (fun a wx hB O D => ?_)
              have e5 : a.tmps[5]? = some (.pointer (some ⟨w.heap.size + 1, 0, none⟩)) := O 5 (by rfl)
              clear O D
              exact ⟨rfl, by go_simp⟩
            refine StepsP.cons ?_ ?_
            · refine step_val (fun a wx hB O D => ?_)
              obtain ⟨_, e31, rfl⟩ := D 2 _ _ _ (by decide) rfl rfl rfl
              obtain ⟨c0, c1, _⟩ := X1.out.below hB
              clear O D
              exact ⟨rfl, by go_simp⟩
            refine StepsP.cons ?_ ?_
            · refine step_val (fun a wx hB O D => ?_)
              have e11 : a.tmps[11]? = some (.int .i64 (k : Int)) := O 11 (by rfl)
              clear O D
              exact ⟨rfl, by unfold execOp; simp only [ev e11]; rfl⟩
            refine StepsP.cons ?_ ?_
            · refine step_val (fun a wx hB O D => ?_)
              obtain ⟨_, e32, rfl⟩ := D 3 _ _ _ (by decide) rfl rfl rfl
              obtain ⟨_, e33, rfl⟩ := D 4 _ _ _ (by decide) rfl rfl rfl
              clear O D
              exact ⟨rfl, by go_simp⟩
            refine StepsP.cons ?_ ?_
            · refine step_val (fun a wx hB O D => ?_)
              obtain ⟨_, e34, rfl⟩ := D 5 _ _ _ (by decide) rfl rfl rfl
              have q0 := (hB.cell (p := ⟨pb, po + k, none⟩) hpz).trans hck
              clear O D
              exact ⟨rfl, by go_simp⟩
            refine StepsP.cons ?_ ?_
            · refine step_val (fun a wx hB O D => ?_)
              obtain ⟨_, e30, rfl⟩ := D 1 _ _ _ (by decide) rfl rfl rfl
              obtain ⟨_, e35, rfl⟩ := D 6 _ _ _ (by decide) rfl rfl rfl
              clear O D
              exact ⟨rfl, by go_simp⟩
            refine StepsP.cons ?_ ?_
            · refine step_val (fun a wx hB O D => ?_)
              obtain ⟨_, e36, rfl⟩ := D 7 _ _ _ (by decide) rfl rfl rfl
              have q1 := (hB.cell (p := ⟨eb, eo + en * 2, none⟩) hez).trans g1
              have q2 := (hB.cell (p := ⟨eb, eo + en * 2 + 1, none⟩) hez).trans g2
              clear O D
              exact ⟨rfl, by go_simp⟩
            refine StepsP.cons ?_ ?_
            · exact step_alloc rfl rfl zeroEdge spVar_new
            exact StepsP.nil
          · intro wz hZ
            refine EndP.is ?_
            refine EndP.is ?_
            refine EndP.is ?_
            refine EndP.is ?_
            refine EndP.is ?_
            refine EndP.is ?_
            refine EndP.is ?_
            refine EndP.is ?_
            refine EndP.is ?_
            refine EndP.new rfl (fun g12 s12 l12 n12 => ?_)
            refine EndP.nil ?_
          -- behind the region
            have hbx := spVar_at s12
            have HEb := Lib.hid (hbx.put (.int .i64 xa) (.int .i64 xb))
            have z0 := hbx.box.c0
            have z1 := hbx.box.c1
            have t0 := hbx.box.thaw 0
            have t1 := hbx.box.thaw 1
            have hsw := hB3.out.size
            have HBa := Lib.hid (below_stored (b := g12) (u' := .int .i64 xa) (v' := .int .i64 xb) (hB3.out.trans (hZ.mono hsw)) (Nat.le_trans hsw l12.1))
            have HN : Hid (Row ((wz.setCell ⟨g12, 0, none⟩ (.int .i64 xa)).setCell ⟨g12, 1, none⟩ (.int .i64 xb)) w1.heap.size _ (hops g but x M p.e k)) := Lib.hid (own_block (hN.out.below hZ) (fun gg hgg => by
              have hne : gg ≠ g12 := by have := (World.ownsRow.lt hN.out gg hgg).2; omega
              exact (Below.heap_setCell _ _ _ _ hne).trans (Below.heap_setCell _ _ _ _ hne)))
            clear hbx s12 l12 n12 hZ hN hB3 hck g1 g2 dq1 X0 X1
            obtain ⟨wa, hwa⟩ : ∃ z, (wz.setCell ⟨g12, 0, none⟩ (.int .i64 xa)).setCell ⟨g12, 1, none⟩ (.int .i64 xb) = z := ⟨_, rfl⟩
            rw [hwa] at HEb HBa HN
            clear HX0 HHL HSS
            generalize hops g but x M p.e k = NN at *
            replace hlen : NN.length ≤ p.v.length + 2 * k := by omega
            obtain ⟨mb, mo, e2, hmb, hmc⟩ := ints_at HN.out.ints HX.out.1
            subst e2
            rw [HX.out.2] at hmc
            have HJ := Lib.hid (fun n => same_of (in_any _ NN xb (wa.drewN n) (HN.out.ints.drewN n) (by omega)))
            have b0 := HEb.out.box.c0
            have b1 := HEb.out.box.c1
            have hiN : (i : Int) < (NN.length : Int) := by have := HX.out.1; omega
            have hi0 : (0 : Int) ≤ (i : Int) := by omega
            by_cases m1 : xa = x
            · by_cases m2 : xb = but
              · have HH := Lib.hid (show NN = hop but x NN xa xb from (if_neg (fun h => h.2.1 m2)).symm)
                have t1 : (xa == x) = true := beq_iff_eq.2 m1
                have t2 : (xb != but) = false := by rw [m2]; simp
                clear m1 m2
                go_wp2_with fail
                go_quiet ((go_at_call 22; exact Calls.quiet_of_same (HJ.out _)))
                clear t1 t2
                clear HJ b0 b1 hmb hmc
                replace HN : Hid (Row (wa.drewN nq) w1.heap.size _ (hop but x NN xa xb)) := Lib.hid (by rw [← HH.out]; exact HN.out.below (below_drewN' wa nq))
                replace HX : Hid (i < (hop but x NN xa xb).length ∧ getI (hop but x NN xa xb) i = x) := Lib.hid (by rw [← HH.out]; exact HX.out)
                replace HEb := Lib.hid (HEb.out.below (below_drewN' wa nq))
                replace HBa := Lib.hid (below_drewN HBa.out nq)
                have hl1 := (hop_len but x NN xa xb).2
                clear HH
                clear hwa
                generalize wa.drewN nq = wa at *
                have hlen2 : (hop but x NN xa xb).length ≤ p.v.length + 2 * k + 1 := by omega
                generalize hop but x NN xa xb = NM at *
                obtain ⟨mb, mo, e2, hmb, hmc⟩ := ints_at HN.out.ints HX.out.1
                first | subst e2 | cases e2
                rw [HX.out.2] at hmc
                have HJ := Lib.hid (fun n => same_of (in_any _ NM xa (wa.drewN n) (HN.out.ints.drewN n) (by omega)))
                have b0 := HEb.out.box.c0
                have b1 := HEb.out.box.c1
                have hiN : (i : Int) < (NM.length : Int) := by have := HX.out.1; omega
                have hi0 : (0 : Int) ≤ (i : Int) := by omega
                by_cases m1 : xb = x
                · by_cases m2 : xa = but
                  · have HH := Lib.hid (show NM = hop but x NM xb xa from (if_neg (fun h => h.2.1 m2)).symm)
                    have t1 : (xb == x) = true := beq_iff_eq.2 m1
                    have t2 : (xa != but) = false := by rw [m2]; simp
                    clear m1 m2
                    go_wp2_with fail
                    go_quiet ((go_at_call 22; exact Calls.quiet_of_same (HJ.out _)))
                    clear t1 t2
                    clear HJ b0 b1 hmb hmc
                    replace HN : Hid (Row (wa.drewN nq) w1.heap.size _ (hop but x NM xb xa)) := Lib.hid (by rw [← HH.out]; exact HN.out.below (below_drewN' wa nq))
                    replace HX : Hid (i < (hop but x NM xb xa).length ∧ getI (hop but x NM xb xa) i = x) := Lib.hid (by rw [← HH.out]; exact HX.out)
                    replace HEb := Lib.hid (HEb.out.below (below_drewN' wa nq))
                    replace HBa := Lib.hid (below_drewN HBa.out nq)
                    have hl1 := (hop_len but x NM xb xa).2
                    clear HH
                    generalize wa.drewN nq = wa at *
                    go_wp2
                    go_roundw
                    case rel => exact ⟨k + 1, by omega, by go_num, Lib.hid (by rw [HS2.out]; exact HN.out), HBa⟩
                    case measure => simp [Go.RowKit.intOf]; omega
                  · by_cases m3 : xa ∈ NM
                    · have HH := Lib.hid (show NM = hop but x NM xb xa from (if_neg (fun h => h.2.2 m3)).symm)
                      have t1 : (xb == x) = true := beq_iff_eq.2 m1
                      have t2 : (xa != but) = true := bne_iff_ne.2 m2
                      rw [decide_eq_true m3] at HJ
                      clear m1 m2 m3
                      go_wp2_with fail
                      go_quiet ((go_at_call 22; exact Calls.quiet_of_same (HJ.out _)))
                      clear t1 t2
                      clear HJ b0 b1 hmb hmc
                      replace HN : Hid (Row (wa.drewN nq) w1.heap.size _ (hop but x NM xb xa)) := Lib.hid (by rw [← HH.out]; exact HN.out.below (below_drewN' wa nq))
                      replace HX : Hid (i < (hop but x NM xb xa).length ∧ getI (hop but x NM xb xa) i = x) := Lib.hid (by rw [← HH.out]; exact HX.out)
                      replace HEb := Lib.hid (HEb.out.below (below_drewN' wa nq))
                      replace HBa := Lib.hid (below_drewN HBa.out nq)
                      have hl1 := (hop_len but x NM xb xa).2
                      clear HH
                      generalize wa.drewN nq = wa at *
                      go_wp2
                      go_roundw
                      case rel => exact ⟨k + 1, by omega, by go_num, Lib.hid (by rw [HS2.out]; exact HN.out), HBa⟩
                      case measure => simp [Go.RowKit.intOf]; omega
                    · have HH := Lib.hid (show NM ++ [xa] = hop but x NM xb xa from (if_pos ⟨m1, m2, m3⟩).symm)
                      have t1 : (xb == x) = true := beq_iff_eq.2 m1
                      have t2 : (xa != but) = true := bne_iff_ne.2 m2
                      rw [decide_eq_false m3] at HJ
                      clear m1 m2 m3
                      go_wp2_with fail
                      go_quiet ((go_at_call 22; exact Calls.quiet_of_same (HJ.out _)))
                      clear t1 t2
                      clear hmb hmc HJ b0 b1
                      replace HN := Lib.hid (HN.out.below (below_drewN' wa nq))
                      replace HEb := Lib.hid (HEb.out.below (below_drewN' wa nq))
                      replace HBa := Lib.hid (below_drewN HBa.out nq)
                      have HSa := Lib.hid HBa.out.size
                      have HLN := Lib.hid (show NM.length ≤ 4000000 by omega)
                      generalize wa.drewN nq = wa at *
                      have b0 := HEb.out.box.c0
                      have b1 := HEb.out.box.c1
                      go_wp2_with (at_builtin; refine wpList_append_keep rfl _ _ rfl rfl rfl HN.out HSa.out HLN.out ?_)
                      intro v7 w7 hR7 hB7 hE7
                      rw [HH.out] at hR7
                      replace HN := Lib.hid hR7
                      replace HX : Hid (i < (hop but x NM xb xa).length ∧ getI (hop but x NM xb xa) i = x) := Lib.hid ⟨Nat.lt_of_lt_of_le HX.out.1 (hop_len ..).1, (hop_front _ _ _ _ HX.out.1).trans HX.out.2⟩
                      replace HEb := Lib.hid (hE7 _ _ _ HEb.out)
                      replace HBa := Lib.hid (HBa.out.trans hB7)
                      have hl1 := (hop_len but x NM xb xa).2
                      clear HH hR7 hB7 hE7 b0 b1 HSa HLN
                      obtain ⟨Am, cm, rfl⟩ := ints_form HN.out.ints
                      generalize w7 = wa at *
                      go_wp2
                      go_roundw
                      case rel => exact ⟨k + 1, by omega, by go_num, Lib.hid (by rw [HS2.out]; exact HN.out), HBa⟩
                      case measure => simp [Go.RowKit.intOf]; omega
                · have HH := Lib.hid (show NM = hop but x NM xb xa from (if_neg (fun h => m1 h.1)).symm)
                  have t1 : (xb == x) = false := beq_eq_false_iff_ne.2 m1
                  clear m1
                  go_wp2_with fail
                  go_quiet ((go_at_call 22; exact Calls.quiet_of_same (HJ.out _)))
                  clear t1
                  clear HJ b0 b1 hmb hmc
                  replace HN : Hid (Row (wa.drewN nq) w1.heap.size _ (hop but x NM xb xa)) := Lib.hid (by rw [← HH.out]; exact HN.out.below (below_drewN' wa nq))
                  replace HX : Hid (i < (hop but x NM xb xa).length ∧ getI (hop but x NM xb xa) i = x) := Lib.hid (by rw [← HH.out]; exact HX.out)
                  replace HEb := Lib.hid (HEb.out.below (below_drewN' wa nq))
                  replace HBa := Lib.hid (below_drewN HBa.out nq)
                  have hl1 := (hop_len but x NM xb xa).2
                  clear HH
                  generalize wa.drewN nq = wa at *
                  go_wp2
                  go_roundw
                  case rel => exact ⟨k + 1, by omega, by go_num, Lib.hid (by rw [HS2.out]; exact HN.out), HBa⟩
                  case measure => simp [Go.RowKit.intOf]; omega
              · by_cases m3 : xb ∈ NN
                · have HH := Lib.hid (show NN = hop but x NN xa xb from (if_neg (fun h => h.2.2 m3)).symm)
                  have t1 : (xa == x) = true := beq_iff_eq.2 m1
                  have t2 : (xb != but) = true := bne_iff_ne.2 m2
                  rw [decide_eq_true m3] at HJ
                  clear m1 m2 m3
                  go_wp2_with fail
                  go_quiet ((go_at_call 22; exact Calls.quiet_of_same (HJ.out _)))
                  clear t1 t2
                  clear HJ b0 b1 hmb hmc
                  replace HN : Hid (Row (wa.drewN nq) w1.heap.size _ (hop but x NN xa xb)) := Lib.hid (by rw [← HH.out]; exact HN.out.below (below_drewN' wa nq))
                  replace HX : Hid (i < (hop but x NN xa xb).length ∧ getI (hop but x NN xa xb) i = x) := Lib.hid (by rw [← HH.out]; exact HX.out)
                  replace HEb := Lib.hid (HEb.out.below (below_drewN' wa nq))
                  replace HBa := Lib.hid (below_drewN HBa.out nq)
                  have hl1 := (hop_len but x NN xa xb).2
                  clear HH
                  clear hwa
                  generalize wa.drewN nq = wa at *
                  have hlen2 : (hop but x NN xa xb).length ≤ p.v.length + 2 * k + 1 := by omega
                  generalize hop but x NN xa xb = NM at *
                  obtain ⟨mb, mo, e2, hmb, hmc⟩ := ints_at HN.out.ints HX.out.1
                  first | subst e2 | cases e2
                  rw [HX.out.2] at hmc
                  have HJ := Lib.hid (fun n => same_of (in_any _ NM xa (wa.drewN n) (HN.out.ints.drewN n) (by omega)))
                  have b0 := HEb.out.box.c0
                  have b1 := HEb.out.box.c1
                  have hiN : (i : Int) < (NM.length : Int) := by have := HX.out.1; omega
                  have hi0 : (0 : Int) ≤ (i : Int) := by omega
                  by_cases m1 : xb = x
                  · by_cases m2 : xa = but
                    · have HH := Lib.hid (show NM = hop but x NM xb xa from (if_neg (fun h => h.2.1 m2)).symm)
                      have t1 : (xb == x) = true := beq_iff_eq.2 m1
                      have t2 : (xa != but) = false := by rw [m2]; simp
                      clear m1 m2
                      go_wp2_with fail
                      go_quiet ((go_at_call 22; exact Calls.quiet_of_same (HJ.out _)))
                      clear t1 t2
                      clear HJ b0 b1 hmb hmc
                      replace HN : Hid (Row (wa.drewN nq) w1.heap.size _ (hop but x NM xb xa)) := Lib.hid (by rw [← HH.out]; exact HN.out.below (below_drewN' wa nq))
                      replace HX : Hid (i < (hop but x NM xb xa).length ∧ getI (hop but x NM xb xa) i = x) := Lib.hid (by rw [← HH.out]; exact HX.out)
                      replace HEb := Lib.hid (HEb.out.below (below_drewN' wa nq))
                      replace HBa := Lib.hid (below_drewN HBa.out nq)
                      have hl1 := (hop_len but x NM xb xa).2
                      clear HH
                      generalize wa.drewN nq = wa at *
                      go_wp2
                      go_roundw
                      case rel => exact ⟨k + 1, by omega, by go_num, Lib.hid (by rw [HS2.out]; exact HN.out), HBa⟩
                      case measure => simp [Go.RowKit.intOf]; omega
                    · by_cases m3 : xa ∈ NM
                      · have HH := Lib.hid (show NM = hop but x NM xb xa from (if_neg (fun h => h.2.2 m3)).symm)
                        have t1 : (xb == x) = true := beq_iff_eq.2 m1
                        have t2 : (xa != but) = true := bne_iff_ne.2 m2
                        rw [decide_eq_true m3] at HJ
                        clear m1 m2 m3
                        go_wp2_with fail
                        go_quiet ((go_at_call 22; exact Calls.quiet_of_same (HJ.out _)))
                        clear t1 t2
                        clear HJ b0 b1 hmb hmc
                        replace HN : Hid (Row (wa.drewN nq) w1.heap.size _ (hop but x NM xb xa)) := Lib.hid (by rw [← HH.out]; exact HN.out.below (below_drewN' wa nq))
                        replace HX : Hid (i < (hop but x NM xb xa).length ∧ getI (hop but x NM xb xa) i = x) := Lib.hid (by rw [← HH.out]; exact HX.out)
                        replace HEb := Lib.hid (HEb.out.below (below_drewN' wa nq))
                        replace HBa := Lib.hid (below_drewN HBa.out nq)
                        have hl1 := (hop_len but x NM xb xa).2
                        clear HH
                        generalize wa.drewN nq = wa at *
                        go_wp2
                        go_roundw
                        case rel => exact ⟨k + 1, by omega, by go_num, Lib.hid (by rw [HS2.out]; exact HN.out), HBa⟩
                        case measure => simp [Go.RowKit.intOf]; omega
                      · have HH := Lib.hid (show NM ++ [xa] = hop but x NM xb xa from (if_pos ⟨m1, m2, m3⟩).symm)
                        have t1 : (xb == x) = true := beq_iff_eq.2 m1
                        have t2 : (xa != but) = true := bne_iff_ne.2 m2
                        rw [decide_eq_false m3] at HJ
                        clear m1 m2 m3
                        go_wp2_with fail
                        go_quiet ((go_at_call 22; exact Calls.quiet_of_same (HJ.out _)))
                        clear t1 t2
                        clear hmb hmc HJ b0 b1
                        replace HN := Lib.hid (HN.out.below (below_drewN' wa nq))
                        replace HEb := Lib.hid (HEb.out.below (below_drewN' wa nq))
                        replace HBa := Lib.hid (below_drewN HBa.out nq)
                        have HSa := Lib.hid HBa.out.size
                        have HLN := Lib.hid (show NM.length ≤ 4000000 by omega)
                        generalize wa.drewN nq = wa at *
                        have b0 := HEb.out.box.c0
                        have b1 := HEb.out.box.c1
                        go_wp2_with (at_builtin; refine wpList_append_keep rfl _ _ rfl rfl rfl HN.out HSa.out HLN.out ?_)
                        intro v7 w7 hR7 hB7 hE7
                        rw [HH.out] at hR7
                        replace HN := Lib.hid hR7
                        replace HX : Hid (i < (hop but x NM xb xa).length ∧ getI (hop but x NM xb xa) i = x) := Lib.hid ⟨Nat.lt_of_lt_of_le HX.out.1 (hop_len ..).1, (hop_front _ _ _ _ HX.out.1).trans HX.out.2⟩
                        replace HEb := Lib.hid (hE7 _ _ _ HEb.out)
                        replace HBa := Lib.hid (HBa.out.trans hB7)
                        have hl1 := (hop_len but x NM xb xa).2
                        clear HH hR7 hB7 hE7 b0 b1 HSa HLN
                        obtain ⟨Am, cm, rfl⟩ := ints_form HN.out.ints
                        generalize w7 = wa at *
                        go_wp2
                        go_roundw
                        case rel => exact ⟨k + 1, by omega, by go_num, Lib.hid (by rw [HS2.out]; exact HN.out), HBa⟩
                        case measure => simp [Go.RowKit.intOf]; omega
                  · have HH := Lib.hid (show NM = hop but x NM xb xa from (if_neg (fun h => m1 h.1)).symm)
                    have t1 : (xb == x) = false := beq_eq_false_iff_ne.2 m1
                    clear m1
                    go_wp2_with fail
                    go_quiet ((go_at_call 22; exact Calls.quiet_of_same (HJ.out _)))
                    clear t1
                    clear HJ b0 b1 hmb hmc
                    replace HN : Hid (Row (wa.drewN nq) w1.heap.size _ (hop but x NM xb xa)) := Lib.hid (by rw [← HH.out]; exact HN.out.below (below_drewN' wa nq))
                    replace HX : Hid (i < (hop but x NM xb xa).length ∧ getI (hop but x NM xb xa) i = x) := Lib.hid (by rw [← HH.out]; exact HX.out)
                    replace HEb := Lib.hid (HEb.out.below (below_drewN' wa nq))
                    replace HBa := Lib.hid (below_drewN HBa.out nq)
                    have hl1 := (hop_len but x NM xb xa).2
                    clear HH
                    generalize wa.drewN nq = wa at *
                    go_wp2
                    go_roundw
                    case rel => exact ⟨k + 1, by omega, by go_num, Lib.hid (by rw [HS2.out]; exact HN.out), HBa⟩
                    case measure => simp [Go.RowKit.intOf]; omega
                · have HH := Lib.hid (show NN ++ [xb] = hop but x NN xa xb from (if_pos ⟨m1, m2, m3⟩).symm)
                  have t1 : (xa == x) = true := beq_iff_eq.2 m1
                  have t2 : (xb != but) = true := bne_iff_ne.2 m2
                  rw [decide_eq_false m3] at HJ
                  clear m1 m2 m3
                  go_wp2_with fail
                  go_quiet ((go_at_call 22; exact Calls.quiet_of_same (HJ.out _)))
                  clear t1 t2
                  clear hmb hmc HJ b0 b1
                  replace HN := Lib.hid (HN.out.below (below_drewN' wa nq))
                  replace HEb := Lib.hid (HEb.out.below (below_drewN' wa nq))
                  replace HBa := Lib.hid (below_drewN HBa.out nq)
                  have HSa := Lib.hid HBa.out.size
                  have HLN := Lib.hid (show NN.length ≤ 4000000 by omega)
                  clear hwa
                  generalize wa.drewN nq = wa at *
                  have b0 := HEb.out.box.c0
                  have b1 := HEb.out.box.c1
                  go_wp2_with (at_builtin; refine wpList_append_keep rfl _ _ rfl rfl rfl HN.out HSa.out HLN.out ?_)
                  intro v7 w7 hR7 hB7 hE7
                  rw [HH.out] at hR7
                  replace HN := Lib.hid hR7
                  replace HX : Hid (i < (hop but x NN xa xb).length ∧ getI (hop but x NN xa xb) i = x) := Lib.hid ⟨Nat.lt_of_lt_of_le HX.out.1 (hop_len ..).1, (hop_front _ _ _ _ HX.out.1).trans HX.out.2⟩
                  replace HEb := Lib.hid (hE7 _ _ _ HEb.out)
                  replace HBa := Lib.hid (HBa.out.trans hB7)
                  have hl1 := (hop_len but x NN xa xb).2
                  clear HH hR7 hB7 hE7 b0 b1 HSa HLN
                  obtain ⟨Am, cm, rfl⟩ := ints_form HN.out.ints
                  generalize w7 = wa at *
                  have hlen2 : (hop but x NN xa xb).length ≤ p.v.length + 2 * k + 1 := by omega
                  generalize hop but x NN xa xb = NM at *
                  obtain ⟨mb, mo, e2, hmb, hmc⟩ := ints_at HN.out.ints HX.out.1
                  first | subst e2 | cases e2
                  rw [HX.out.2] at hmc
                  have HJ := Lib.hid (fun n => same_of (in_any _ NM xa (wa.drewN n) (HN.out.ints.drewN n) (by omega)))
                  have b0 := HEb.out.box.c0
                  have b1 := HEb.out.box.c1
                  have hiN : (i : Int) < (NM.length : Int) := by have := HX.out.1; omega
                  have hi0 : (0 : Int) ≤ (i : Int) := by omega
                  by_cases m1 : xb = x
                  · by_cases m2 : xa = but
                    · have HH := Lib.hid (show NM = hop but x NM xb xa from (if_neg (fun h => h.2.1 m2)).symm)
                      have t1 : (xb == x) = true := beq_iff_eq.2 m1
                      have t2 : (xa != but) = false := by rw [m2]; simp
                      clear m1 m2
                      go_wp2_with fail
                      go_quiet ((go_at_call 22; exact Calls.quiet_of_same (HJ.out _)))
                      clear t1 t2
                      clear HJ b0 b1 hmb hmc
                      replace HN : Hid (Row (wa.drewN nq) w1.heap.size _ (hop but x NM xb xa)) := Lib.hid (by rw [← HH.out]; exact HN.out.below (below_drewN' wa nq))
                      replace HX : Hid (i < (hop but x NM xb xa).length ∧ getI (hop but x NM xb xa) i = x) := Lib.hid (by rw [← HH.out]; exact HX.out)
                      replace HEb := Lib.hid (HEb.out.below (below_drewN' wa nq))
                      replace HBa := Lib.hid (below_drewN HBa.out nq)
                      have hl1 := (hop_len but x NM xb xa).2
                      clear HH
                      generalize wa.drewN nq = wa at *
                      go_wp2
                      go_roundw
                      case rel => exact ⟨k + 1, by omega, by go_num, Lib.hid (by rw [HS2.out]; exact HN.out), HBa⟩
                      case measure => simp [Go.RowKit.intOf]; omega
                    · by_cases m3 : xa ∈ NM
                      · have HH := Lib.hid (show NM = hop but x NM xb xa from (if_neg (fun h => h.2.2 m3)).symm)
                        have t1 : (xb == x) = true := beq_iff_eq.2 m1
                        have t2 : (xa != but) = true := bne_iff_ne.2 m2
                        rw [decide_eq_true m3] at HJ
                        clear m1 m2 m3
                        go_wp2_with fail
                        go_quiet ((go_at_call 22; exact Calls.quiet_of_same (HJ.out _)))
                        clear t1 t2
                        clear HJ b0 b1 hmb hmc
                        replace HN : Hid (Row (wa.drewN nq) w1.heap.size _ (hop but x NM xb xa)) := Lib.hid (by rw [← HH.out]; exact HN.out.below (below_drewN' wa nq))
                        replace HX : Hid (i < (hop but x NM xb xa).length ∧ getI (hop but x NM xb xa) i = x) := Lib.hid (by rw [← HH.out]; exact HX.out)
                        replace HEb := Lib.hid (HEb.out.below (below_drewN' wa nq))
                        replace HBa := Lib.hid (below_drewN HBa.out nq)
                        have hl1 := (hop_len but x NM xb xa).2
                        clear HH
                        generalize wa.drewN nq = wa at *
                        go_wp2
                        go_roundw
                        case rel => exact ⟨k + 1, by omega, by go_num, Lib.hid (by rw [HS2.out]; exact HN.out), HBa⟩
                        case measure => simp [Go.RowKit.intOf]; omega
                      · have HH := Lib.hid (show NM ++ [xa] = hop but x NM xb xa from (if_pos ⟨m1, m2, m3⟩).symm)
                        have t1 : (xb == x) = true := beq_iff_eq.2 m1
                        have t2 : (xa != but) = true := bne_iff_ne.2 m2
                        rw [decide_eq_false m3] at HJ
                        clear m1 m2 m3
                        go_wp2_with fail
                        go_quiet ((go_at_call 22; exact Calls.quiet_of_same (HJ.out _)))
                        clear t1 t2
                        clear hmb hmc HJ b0 b1
                        replace HN := Lib.hid (HN.out.below (below_drewN' wa nq))
                        replace HEb := Lib.hid (HEb.out.below (below_drewN' wa nq))
                        replace HBa := Lib.hid (below_drewN HBa.out nq)
                        have HSa := Lib.hid HBa.out.size
                        have HLN := Lib.hid (show NM.length ≤ 4000000 by omega)
                        generalize wa.drewN nq = wa at *
                        have b0 := HEb.out.box.c0
                        have b1 := HEb.out.box.c1
                        go_wp2_with (at_builtin; refine wpList_append_keep rfl _ _ rfl rfl rfl HN.out HSa.out HLN.out ?_)
                        intro v7 w7 hR7 hB7 hE7
                        rw [HH.out] at hR7
                        replace HN := Lib.hid hR7
                        replace HX : Hid (i < (hop but x NM xb xa).length ∧ getI (hop but x NM xb xa) i = x) := Lib.hid ⟨Nat.lt_of_lt_of_le HX.out.1 (hop_len ..).1, (hop_front _ _ _ _ HX.out.1).trans HX.out.2⟩
                        replace HEb := Lib.hid (hE7 _ _ _ HEb.out)
                        replace HBa := Lib.hid (HBa.out.trans hB7)
                        have hl1 := (hop_len but x NM xb xa).2
                        clear HH hR7 hB7 hE7 b0 b1 HSa HLN
                        obtain ⟨Am, cm, rfl⟩ := ints_form HN.out.ints
                        generalize w7 = wa at *
                        go_wp2
                        go_roundw
                        case rel => exact ⟨k + 1, by omega, by go_num, Lib.hid (by rw [HS2.out]; exact HN.out), HBa⟩
                        case measure => simp [Go.RowKit.intOf]; omega
                  · have HH := Lib.hid (show NM = hop but x NM xb xa from (if_neg (fun h => m1 h.1)).symm)
                    have t1 : (xb == x) = false := beq_eq_false_iff_ne.2 m1
                    clear m1
                    go_wp2_with fail
                    go_quiet ((go_at_call 22; exact Calls.quiet_of_same (HJ.out _)))
                    clear t1
                    clear HJ b0 b1 hmb hmc
                    replace HN : Hid (Row (wa.drewN nq) w1.heap.size _ (hop but x NM xb xa)) := Lib.hid (by rw [← HH.out]; exact HN.out.below (below_drewN' wa nq))
                    replace HX : Hid (i < (hop but x NM xb xa).length ∧ getI (hop but x NM xb xa) i = x) := Lib.hid (by rw [← HH.out]; exact HX.out)
                    replace HEb := Lib.hid (HEb.out.below (below_drewN' wa nq))
                    replace HBa := Lib.hid (below_drewN HBa.out nq)
                    have hl1 := (hop_len but x NM xb xa).2
                    clear HH
                    generalize wa.drewN nq = wa at *
                    go_wp2
                    go_roundw
                    case rel => exact ⟨k + 1, by omega, by go_num, Lib.hid (by rw [HS2.out]; exact HN.out), HBa⟩
                    case measure => simp [Go.RowKit.intOf]; omega
            · have HH := Lib.hid (show NN = hop but x NN xa xb from (if_neg (fun h => m1 h.1)).symm)
              have t1 : (xa == x) = false := beq_eq_false_iff_ne.2 m1
              clear m1
              go_wp2_with fail
              go_quiet ((go_at_call 22; exact Calls.quiet_of_same (HJ.out _)))
              clear t1
              clear HJ b0 b1 hmb hmc
              replace HN : Hid (Row (wa.drewN nq) w1.heap.size _ (hop but x NN xa xb)) := Lib.hid (by rw [← HH.out]; exact HN.out.below (below_drewN' wa nq))
              replace HX : Hid (i < (hop but x NN xa xb).length ∧ getI (hop but x NN xa xb) i = x) := Lib.hid (by rw [← HH.out]; exact HX.out)
              replace HEb := Lib.hid (HEb.out.below (below_drewN' wa nq))
              replace HBa := Lib.hid (below_drewN HBa.out nq)
              have hl1 := (hop_len but x NN xa xb).2
              clear HH
              clear hwa
              generalize wa.drewN nq = wa at *
              have hlen2 : (hop but x NN xa xb).length ≤ p.v.length + 2 * k + 1 := by omega
              generalize hop but x NN xa xb = NM at *
              obtain ⟨mb, mo, e2, hmb, hmc⟩ := ints_at HN.out.ints HX.out.1
              first | subst e2 | cases e2
              rw [HX.out.2] at hmc
              have HJ := Lib.hid (fun n => same_of (in_any _ NM xa (wa.drewN n) (HN.out.ints.drewN n) (by omega)))
              have b0 := HEb.out.box.c0
              have b1 := HEb.out.box.c1
              have hiN : (i : Int) < (NM.length : Int) := by have := HX.out.1; omega
              have hi0 : (0 : Int) ≤ (i : Int) := by omega
              by_cases m1 : xb = x
              · by_cases m2 : xa = but
                · have HH := Lib.hid (show NM = hop but x NM xb xa from (if_neg (fun h => h.2.1 m2)).symm)
                  have t1 : (xb == x) = true := beq_iff_eq.2 m1
                  have t2 : (xa != but) = false := by rw [m2]; simp
                  clear m1 m2
                  go_wp2_with fail
                  go_quiet ((go_at_call 22; exact Calls.quiet_of_same (HJ.out _)))
                  clear t1 t2
                  clear HJ b0 b1 hmb hmc
                  replace HN : Hid (Row (wa.drewN nq) w1.heap.size _ (hop but x NM xb xa)) := Lib.hid (by rw [← HH.out]; exact HN.out.below (below_drewN' wa nq))
                  replace HX : Hid (i < (hop but x NM xb xa).length ∧ getI (hop but x NM xb xa) i = x) := Lib.hid (by rw [← HH.out]; exact HX.out)
                  replace HEb := Lib.hid (HEb.out.below (below_drewN' wa nq))
                  replace HBa := Lib.hid (below_drewN HBa.out nq)
                  have hl1 := (hop_len but x NM xb xa).2
                  clear HH
                  generalize wa.drewN nq = wa at *
                  go_wp2
                  go_roundw
                  case rel => exact ⟨k + 1, by omega, by go_num, Lib.hid (by rw [HS2.out]; exact HN.out), HBa⟩
                  case measure => simp [Go.RowKit.intOf]; omega
                · by_cases m3 : xa ∈ NM
                  · have HH := Lib.hid (show NM = hop but x NM xb xa from (if_neg (fun h => h.2.2 m3)).symm)
                    have t1 : (xb == x) = true := beq_iff_eq.2 m1
                    have t2 : (xa != but) = true := bne_iff_ne.2 m2
                    rw [decide_eq_true m3] at HJ
                    clear m1 m2 m3
                    go_wp2_with fail
                    go_quiet ((go_at_call 22; exact Calls.quiet_of_same (HJ.out _)))
                    clear t1 t2
                    clear HJ b0 b1 hmb hmc
                    replace HN : Hid (Row (wa.drewN nq) w1.heap.size _ (hop but x NM xb xa)) := Lib.hid (by rw [← HH.out]; exact HN.out.below (below_drewN' wa nq))
                    replace HX : Hid (i < (hop but x NM xb xa).length ∧ getI (hop but x NM xb xa) i = x) := Lib.hid (by rw [← HH.out]; exact HX.out)
                    replace HEb := Lib.hid (HEb.out.below (below_drewN' wa nq))
                    replace HBa := Lib.hid (below_drewN HBa.out nq)
                    have hl1 := (hop_len but x NM xb xa).2
                    clear HH
                    generalize wa.drewN nq = wa at *
                    go_wp2
                    go_roundw
                    case rel => exact ⟨k + 1, by omega, by go_num, Lib.hid (by rw [HS2.out]; exact HN.out), HBa⟩
                    case measure => simp [Go.RowKit.intOf]; omega
                  · have HH := Lib.hid (show NM ++ [xa] = hop but x NM xb xa from (if_pos ⟨m1, m2, m3⟩).symm)
                    have t1 : (xb == x) = true := beq_iff_eq.2 m1
                    have t2 : (xa != but) = true := bne_iff_ne.2 m2
                    rw [decide_eq_false m3] at HJ
                    clear m1 m2 m3
                    go_wp2_with fail
                    go_quiet ((go_at_call 22; exact Calls.quiet_of_same (HJ.out _)))
                    clear t1 t2
                    clear hmb hmc HJ b0 b1
                    replace HN := Lib.hid (HN.out.below (below_drewN' wa nq))
                    replace HEb := Lib.hid (HEb.out.below (below_drewN' wa nq))
                    replace HBa := Lib.hid (below_drewN HBa.out nq)
                    have HSa := Lib.hid HBa.out.size
                    have HLN := Lib.hid (show NM.length ≤ 4000000 by omega)
                    generalize wa.drewN nq = wa at *
                    have b0 := HEb.out.box.c0
                    have b1 := HEb.out.box.c1
                    go_wp2_with (at_builtin; refine wpList_append_keep rfl _ _ rfl rfl rfl HN.out HSa.out HLN.out ?_)
                    intro v7 w7 hR7 hB7 hE7
                    rw [HH.out] at hR7
                    replace HN := Lib.hid hR7
                    replace HX : Hid (i < (hop but x NM xb xa).length ∧ getI (hop but x NM xb xa) i = x) := Lib.hid ⟨Nat.lt_of_lt_of_le HX.out.1 (hop_len ..).1, (hop_front _ _ _ _ HX.out.1).trans HX.out.2⟩
                    replace HEb := Lib.hid (hE7 _ _ _ HEb.out)
                    replace HBa := Lib.hid (HBa.out.trans hB7)
                    have hl1 := (hop_len but x NM xb xa).2
                    clear HH hR7 hB7 hE7 b0 b1 HSa HLN
                    obtain ⟨Am, cm, rfl⟩ := ints_form HN.out.ints
                    generalize w7 = wa at *
                    go_wp2
                    go_roundw
                    case rel => exact ⟨k + 1, by omega, by go_num, Lib.hid (by rw [HS2.out]; exact HN.out), HBa⟩
                    case measure => simp [Go.RowKit.intOf]; omega
              · have HH := Lib.hid (show NM = hop but x NM xb xa from (if_neg (fun h => m1 h.1)).symm)
                have t1 : (xb == x) = false := beq_eq_false_iff_ne.2 m1
                clear m1
                go_wp2_with fail
                go_quiet ((go_at_call 22; exact Calls.quiet_of_same (HJ.out _)))
                clear t1
                clear HJ b0 b1 hmb hmc
                replace HN : Hid (Row (wa.drewN nq) w1.heap.size _ (hop but x NM xb xa)) := Lib.hid (by rw [← HH.out]; exact HN.out.below (below_drewN' wa nq))
                replace HX : Hid (i < (hop but x NM xb xa).length ∧ getI (hop but x NM xb xa) i = x) := Lib.hid (by rw [← HH.out]; exact HX.out)
                replace HEb := Lib.hid (HEb.out.below (below_drewN' wa nq))
                replace HBa := Lib.hid (below_drewN HBa.out nq)
                have hl1 := (hop_len but x NM xb xa).2
                clear HH
                generalize wa.drewN nq = wa at *
                go_wp2
                go_roundw
                case rel => exact ⟨k + 1, by omega, by go_num, Lib.hid (by rw [HS2.out]; exact HN.out), HBa⟩
                case measure => simp [Go.RowKit.intOf]; omega
        · obtain rfl : k = p.e.length := by omega
          have hN1 := hN
          clear hN
          go_wp2
          go_roundw
          case rel => exact ⟨hops g but x M p.e p.e.length, i + 1, by go_num, hN1, hB3, HSS⟩
          case measure => simp [Go.RowKit.intOf]; omega
    · obtain rfl : i = M.length := by omega
      have HZ := Lib.hid (trans2 HM.out hB.out)
      have HR := Lib.hid (hR.out.le (Nat.le_trans HM.out.size (Nat.le_refl _)))
      clear hR hB
      go_wp2
      go_ret
      exact ⟨_, _, rfl, HR.out, HZ.out, hS.out⟩
end Go.Proofs.YtmbpmepoaonleaaGreat
