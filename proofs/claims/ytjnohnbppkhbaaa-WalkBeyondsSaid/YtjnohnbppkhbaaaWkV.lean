/-
  The program's stepsOf: rows of steps, as they are filled.
-/
import Derived.Test.YtjnohnbppkhbaaaWkU
import Derived.Maps.AppendAt
import Derived.Deep.OwnRows
namespace Go.Proofs.Ytjnohnbppkhbaaa
open Go.RowKit Go.Maps

theorem own_shape {w : World} {e : TypeId} {v : Value} {m : Nat} {xs : List Value} {base size : Nat} (h : w.ownsRow base e size v m xs) : ∃ A cap, v = .slice A m cap := by
  rcases h.2 with ⟨rfl, h0⟩ | ⟨g, cap, cur, rfl, _⟩
  · exact ⟨none, 0, by rw [h0]⟩
  · exact ⟨_, _, rfl⟩

/-- The steps of an edge that leave x. -/
def sOf (g : Gph) (x : Int) (e : Int) : List Ed := (if (getE g.e e.toNat).a = x then [⟨2 * e, (getE g.e e.toNat).b⟩] else []) ++ (if (getE g.e e.toNat).b = x then [⟨2 * e + 1, (getE g.e e.toNat).a⟩] else [])
def stepL (g : Gph) (x : Int) (l : List Int) : List Ed := l.flatMap (sOf g x)
theorem stepL_succ (g : Gph) (v : Int) (l : List Int) (k : Nat) (h : k < l.length) : stepL g v (l.take (k + 1)) = stepL g v (l.take k) ++ sOf g v (getI l k) := by
  rw [take_succ_getI l k h]
  simp [stepL]
theorem sOf_len (g : Gph) (v e : Int) : (sOf g v e).length ≤ 2 := by unfold sOf; split <;> split <;> simp
theorem stepL_len (g : Gph) (v : Int) : ∀ l, (stepL g v l).length ≤ 2 * l.length
  | [] => Nat.le_refl _
  | e :: l => by
    have h1 := stepL_len g v l
    have h2 := sOf_len g v e
    simp only [stepL, List.flatMap_cons, List.length_append, List.length_cons] at h1 ⊢
    omega

def flatE (l : List Ed) : List Value := l.flatMap fun e => [.int .i64 e.a, .int .i64 e.b]
theorem flatE_len : ∀ l : List Ed, (flatE l).length = l.length * 2
  | [] => rfl
  | e :: l => by
    have := flatE_len l
    simp only [flatE, List.flatMap_cons, List.length_append, List.length_cons, List.length_nil] at this ⊢
    omega
theorem flatE_app (l m : List Ed) : flatE (l ++ m) = flatE l ++ flatE m := by simp [flatE]
theorem flatE_get : ∀ (l : List Ed) (j : Nat), j < l.length → (flatE l)[j * 2]? = some (.int .i64 (getE l j).a) ∧ (flatE l)[j * 2 + 1]? = some (.int .i64 (getE l j).b)
  | [], j, h => absurd h (Nat.not_lt_zero _)
  | e :: l, 0, _ => ⟨rfl, rfl⟩
  | e :: l, j + 1, h => by
    have := flatE_get l j (by simpa using h)
    have e1 : (j + 1) * 2 = j * 2 + 1 + 1 := by omega
    have e2 : getE (e :: l) (j + 1) = getE l j := rfl
    rw [e1, e2]
    exact this

theorem edges_own {w : World} {base : Nat} {t : TypeId} {v : Value} {n : Nat} {l : List Ed} (h : w.ownsRow base t 2 v n (flatE l)) (hn : n = l.length) : Edges w v l := by
  subst hn
  obtain ⟨h0, h⟩ := h
  rcases h with ⟨rfl, hl⟩ | ⟨g, cap, cur, rfl, hb, hg, r1, r2, r3, r4⟩
  · have e : l = [] := List.eq_nil_of_length_eq_zero hl
    subst e
    exact Edges.nil
  · have hlt : g < w.heap.size := by
      rcases Nat.lt_or_ge g w.heap.size with h | h
      · exact h
      · rw [Array.getElem?_eq_none h] at hg; cases hg
    have hcell : ∀ i, i < l.length * 2 → w.cell? ⟨g, i, none⟩ = (flatE l)[i]? := fun i hi => by
      rw [cell_of_row w g i cur t (0, 0) hg, ← r4, List.getElem?_take, if_pos hi, Array.getElem?_toList]
    refine ⟨_, cap, rfl, r1, r2, fun _ => ⟨g, 0, rfl, hlt, fun j hj => ?_⟩⟩
    rw [Nat.zero_add, hcell _ (by omega), hcell _ (by omega)]
    exact flatE_get l j hj

/-- Rows of steps, as they are filled. -/
structure Mesh (w : World) (base gb N : Nat) (us : Nat → Value) (ls : Nat → List Ed) : Prop where
  cell : ∀ j, j < N → w.cell? ⟨gb, j, none⟩ = some (us j)
  thaw : ∀ j, w.frozen? ⟨gb, j, none⟩ = false
  at_ : base ≤ gb
  lt : gb < w.heap.size
  row : ∀ j, j < N → w.ownsRow base 65 2 (us j) (ls j).length (flatE (ls j))
  apart : ∀ i j, i < N → j < N → i ≠ j → (us i).ownBlock = none ∨ (us i).ownBlock ≠ (us j).ownBlock
  shun : ∀ j, j < N → (us j).ownBlock ≠ some gb

variable {w w1 : World} {base gb N : Nat} {us : Nat → Value} {ls : Nat → List Ed}

theorem Mesh.steps (M : Mesh w base gb N us ls) (cap : Nat) : Steps w (.slice (some ⟨gb, 0, none⟩) N cap) N ls :=
  ⟨_, cap, rfl, fun j hj => ⟨gb, us j, rfl, M.lt, M.cell j hj, edges_own (M.row j hj) rfl⟩⟩
theorem Mesh.below (M : Mesh w base gb N us ls) (hb : Below w.heap.size w w1) : Mesh w1 base gb N us ls :=
  ⟨fun j hj => (hb.cell (p := ⟨gb, j, none⟩) M.lt).trans (M.cell j hj), fun j => (hb.frozen (p := ⟨gb, j, none⟩) M.lt).trans (M.thaw j), M.at_, Nat.lt_of_lt_of_le M.lt hb.size,
    fun j hj => own_below (M.row j hj) hb, M.apart, M.shun⟩
theorem Mesh.start (w : World) (N : Nat) : Mesh (w.alloc (.cells (madeCells #[.slice none 0 0] N) 63)) w.heap.size w.heap.size N (fun _ => .slice none 0 0) (fun _ => []) where
  cell j hj := by
    rw [cell_of_row _ _ j _ 63 (0, 0) (heap_alloc_new w _), ← Array.getElem?_toList, toList_madeCells_one, List.getElem?_replicate, if_pos hj]
  thaw j := new_thaw _ _ _ _
  at_ := Nat.le_refl _
  lt := by simp
  row j hj := World.ownsRow_nil _ _ _ _
  apart i j _ _ _ := .inl rfl
  shun j hj h := by cases h
/-- A step more in one row. -/
def more (ls : Nat → List Ed) (j : Nat) (x : Ed) (i : Nat) : List Ed := if i = j then ls i ++ [x] else ls i
theorem more_len (ls : Nat → List Ed) (j : Nat) (x : Ed) (i : Nat) : (more ls j x i).length ≤ (ls i).length + 1 := by
  unfold more
  split
  · simp
  · omega
def setF (us : Nat → Value) (j : Nat) (u : Value) (i : Nat) : Value := if i = j then u else us i
theorem Mesh.put (M : Mesh w base gb N us ls) {j : Nat} (hj : j < N) {u' : Value} {x : Ed} (hg : w.grownBy w1 (us j).ownBlock)
    (ho : w1.ownsRow base 65 2 u' ((ls j).length + 1) (flatE (ls j) ++ [.int .i64 x.a, .int .i64 x.b])) (hat : u'.ownBlock = (us j).ownBlock ∨ u'.ownBlock = some w.heap.size) :
    Mesh (w1.setCell ⟨gb, j, none⟩ u') base gb N (setF us j u') (more ls j x) ∧ w1.cell? ⟨gb, j, none⟩ = some (us j) ∧ w1.frozen? ⟨gb, j, none⟩ = false ∧ Below base w1 (w1.setCell ⟨gb, j, none⟩ u') := by
  have hgb : w1.heap[gb]? = w.heap[gb]? := hg.block gb M.lt (fun e => M.shun j hj e.symm)
  have hc1 : ∀ i, i < N → w1.cell? ⟨gb, i, none⟩ = some (us i) := fun i hi => (World.cell?_of_block (a := ⟨gb, i, none⟩) hgb).trans (M.cell i hi)
  have hf1 : ∀ i, w1.frozen? ⟨gb, i, none⟩ = false := fun i => (World.frozen?_of_block (a := ⟨gb, i, none⟩) hgb).trans (M.thaw i)
  have hoth : ∀ k, k ≠ gb → (w1.setCell ⟨gb, j, none⟩ u').heap[k]? = w1.heap[k]? := fun k hk => Below.heap_setCell _ _ _ _ hk
  have hs' : u'.ownBlock ≠ some gb := by
    rcases hat with e | e
    · rw [e]; exact M.shun j hj
    · rw [e]; intro h; have := M.lt; cases h; omega
  have hold : ∀ i, i < N → i ≠ j → (us i).ownBlock = none ∨ (us i).ownBlock ≠ u'.ownBlock := fun i hi hne => by
    rcases hat with e | e
    · rw [e]; exact M.apart i j hi hj hne
    · right; rw [e]; intro h
      have := (World.ownsRow.lt (M.row i hi) _ h).2
      omega
  refine ⟨⟨fun i hi => ?_, fun i => ?_, M.at_, ?_, fun i hi => ?_, fun i k hi hk hne => ?_, fun i hi => ?_⟩, hc1 j hj, hf1 j, (Below.refl base w1).setCell (p := ⟨gb, j, none⟩) M.at_ _⟩
  · unfold setF
    by_cases e : i = j
    · subst e
      rw [if_pos rfl]
      exact World.cell?_setCell_same _ _ _ (hc1 i hi)
    · rw [if_neg e, World.cell?_setCell_other _ _ _ _ (fun h => by simp only [Addr.mk.injEq] at h; omega)]
      exact hc1 i hi
  · rw [World.frozen?_setCell]
    exact hf1 i
  · have := M.lt
    have := hg.size
    simp [World.setCell]
    omega
  · unfold setF more
    by_cases e : i = j
    · subst e
      rw [if_pos rfl, if_pos rfl, flatE_app, List.length_append]
      exact own_block ho (fun g hg' => hoth g (fun e => hs' (by rw [hg', e])))
    · rw [if_neg e, if_neg e]
      refine own_block (M.row i hi) (fun g hg' => (hoth g (fun e2 => M.shun i hi (by rw [hg', e2]))).trans (hg.block g (World.ownsRow.lt (M.row i hi) g hg').2 (fun e2 => ?_)))
      rcases M.apart i j hi hj e with h | h
      · rw [h] at hg'; cases hg'
      · exact h (by rw [hg', e2])
  · unfold setF
    by_cases e1 : i = j
    · rw [if_pos e1, if_neg (by omega)]
      rcases hold k hk (by omega) with h | h
      · by_cases hz : u'.ownBlock = none
        · exact .inl hz
        · exact .inr (fun h2 => hz (h2.trans h))
      · exact .inr (fun h2 => h h2.symm)
    · by_cases e2 : k = j
      · rw [if_neg e1, if_pos e2]
        exact hold i hi e1
      · rw [if_neg e1, if_neg e2]
        exact M.apart i k hi hk hne
  · unfold setF
    by_cases e1 : i = j
    · rw [if_pos e1]; exact hs'
    · rw [if_neg e1]; exact M.shun i hi

theorem Try.infoSteps : (Try.prog.info? 63).map (fun i => (i.zero, i.size, i.bytes)) = some (some (.slice none 0 0), 1, 24) := by kernel_rfl
theorem Try.infoStep : (Try.prog.info? 65).map (fun i => (i.zero, i.size, i.bytes)) = some (some (.agg #[.int .i64 0, .int .i64 0]), 2, 16) := by kernel_rfl

theorem cell_two_new (w : World) (x y : Value) (t : TypeId) : ∀ j u, [x, y][j]? = some u → (w.alloc (.cells #[x, y] t)).cell? ((⟨w.heap.size, 0, none⟩ : Addr).add j) = some u := by
  intro j u hj
  match j, hj with
  | 0, hj =>
    simp at hj
    subst hj
    exact cell_two0 w x y t
  | 1, hj =>
    simp at hj
    subst hj
    exact cell_two1 w x y t
  | j + 2, hj => simp at hj

/-- Behind k edges. -/
theorem rows_succ (g : Gph) (l : List Int) (k : Nat) (h : k < l.length) {a b : Nat} (ha : (getE g.e (getI l k).toNat).a = a) (hb : (getE g.e (getI l k).toNat).b = b) :
    more (more (fun (j : Nat) => stepL g (j : Int) (l.take k)) a ⟨2 * getI l k, b⟩) b ⟨2 * getI l k + 1, a⟩ = fun (j : Nat) => stepL g (j : Int) (l.take (k + 1)) := by
  funext j
  rw [stepL_succ g _ l k h]
  unfold more sOf
  rw [ha, hb]
  by_cases h1 : j = a
  · subst h1
    by_cases h2 : j = b
    · subst h2
      simp
    · rw [if_pos rfl, if_neg h2, if_pos rfl, if_neg (by omega)]
      simp
  · rw [if_neg h1, if_neg (show ¬ (a : Int) = (j : Int) by omega)]
    by_cases h2 : j = b
    · subst h2
      simp
    · rw [if_neg h2, if_neg (by omega)]
      simp

set_option maxRecDepth 100000 in
set_option maxHeartbeats 4000000 in
theorem stepsOf_any (v u : Value) (g : Gph) (p : Prt) (N : Nat) (w : World) (h : Gr w v g) (h' : Pt w u p) (hp : perr g p = 0) (hn : g.n = (N : Int)) (hl : g.e.length ≤ 1000000) (hl2 : p.e.length ≤ 1000000) :
    Calls Try.prog 29 #[v, u] w fun e w' => ∃ base gb us, e = .returned (.slice (some ⟨gb, 0, none⟩) N N) ∧ w.heap.size ≤ base ∧ Mesh w' base gb N us (fun (j : Nat) => stepL g (j : Int) p.e) ∧ Below w.heap.size w w' := by
  obtain ⟨he, hr1, hr2, hends⟩ := perr_rises hp
  have hN : N ≤ 1024 := by have := err_n he; omega
  have HG := Lib.hid h
  have HP := Lib.hid h'
  obtain ⟨ve, rfl, h1⟩ := h
  obtain ⟨vv, vp, rfl, h2, h3⟩ := h'
  obtain ⟨Ae, ce, rfl⟩ := h1.form
  obtain ⟨Av, cv, rfl⟩ := ints_form h2
  obtain ⟨Ap, cp, rfl⟩ := ints_form h3
  rw [hn]
  obtain ⟨b1, b2, hm⟩ := two_boxes w (.int .i64 (N : Int)) (.slice Ae g.e.length ce) (.slice Av p.v.length cv) (.slice Ap p.e.length cp) 24 27
  have HB1 := Lib.hid b1
  have HB2 := Lib.hid b2
  have HM := Lib.hid hm
  have HE1 := Lib.hid h1
  have HE3 := Lib.hid h3
  have c0 := b1.c0
  have c1 := b1.c1
  have d1 := b2.c1
  have HZ0 := Lib.hid (show ((w.alloc (.cells #[.int .i64 (N : Int), .slice Ae g.e.length ce] 24)).alloc (.cells #[.slice Av p.v.length cv, .slice Ap p.e.length cp] 27)).heap.size = w.heap.size + 1 + 1 by simp)
  have hmk := run_make_row' (P := Try.prog) 60 63 (.slice none 0 0) 24 Try.underlying60 Try.infoSteps rfl .i64 .i64 N (by omega) (by omega)
  obtain ⟨i0, hi, hz0, hz1, hz2⟩ := info_parts Try.infoStep
  clear b1 b2 hm h1 h2 h3
  go_enter Try.func29, Try.ntmps29
  go_wp2
  generalize (w.alloc (.cells #[.int .i64 (N : Int), .slice Ae g.e.length ce] 24)).alloc (.cells #[.slice Av p.v.length cv, .slice Ap p.e.length cp] 27) = w2 at *
  have HMS := Lib.hid (Mesh.start w2 N)
  rw [HZ0.out] at HMS
  have HZ := Lib.hid (below_alloc (w := w2) (.cells (madeCells #[.slice none 0 0] N) 63))
  go_loopw [16] (fun i wr => ∃ (k : Nat) (us : Nat → Value), k ≤ p.e.length ∧ i = .int .i64 k ∧ Hid (Mesh wr (w.heap.size + 1 + 1) (w.heap.size + 1 + 1) N us (fun (j : Nat) => stepL g (j : Int) (p.e.take k))) ∧ Hid (Below w2.heap.size w2 wr)) (fun i _ => p.e.length - (Go.RowKit.intOf i).toNat)
  case atStart => exact ⟨0, _, Nat.zero_le _, rfl, HMS, HZ⟩
  case round =>
    obtain ⟨k, us, hk, rfl, hS, hB⟩ := hrel
    obtain ⟨wq, hwq⟩ : ∃ z, z = wr := ⟨_, rfl⟩
    subst hwq
    by_cases hlt : k < p.e.length
    · obtain ⟨b, off, rfl, hb, hc⟩ := ints_at HE3.out hlt
      have hmem : getI p.e k ∈ p.e := (mem_getI _ _).2 ⟨k, hlt, rfl⟩
      have hrk := hr2 k hlt
      obtain ⟨en, hen⟩ : ∃ en : Nat, getI p.e k = en := ⟨(getI p.e k).toNat, by omega⟩
      have hel : en < g.e.length := by omega
      obtain ⟨eb, eo, rfl, heb, he1, he2⟩ := edges_at HE1.out hel
      have hee := err_ends he en hel
      have hbw := HM.out.trans (hB.out.mono HM.out.size)
      have hck := (hbw.cell (p := ⟨b, off + k, none⟩) hb).trans hc
      have g1 := (hbw.cell (p := ⟨eb, eo + en * 2, none⟩) heb).trans he1
      have g2 := (hbw.cell (p := ⟨eb, eo + en * 2 + 1, none⟩) heb).trans he2
      have g0 := (HB1.out.below hB.out).c1
      have HRS := Lib.hid (fun (a b : Nat) h1 h2 => rows_succ g p.e k hlt (a := a) (b := b) h1 h2)
      rw [hen] at HRS hck
      obtain ⟨an, han⟩ : ∃ an : Nat, (getE g.e en).a = an := ⟨(getE g.e en).a.toNat, by omega⟩
      obtain ⟨bn, hbn⟩ : ∃ bn : Nat, (getE g.e en).b = bn := ⟨(getE g.e en).b.toNat, by omega⟩
      have HR := Lib.hid (HRS.out an bn (by rw [Int.toNat_natCast]; exact han) (by rw [Int.toNat_natCast]; exact hbn))
      rw [han] at g1
      rw [hbn] at g2
      have haN : an < N := by omega
      have hbN : bn < N := by omega
      have ha0 : (0 : Int) ≤ (an : Int) := by omega
      have ha1 : (an : Int) < (N : Int) := by omega
      have hb0 : (0 : Int) ≤ (bn : Int) := by omega
      have hb1 : (bn : Int) < (N : Int) := by omega
      have hn0 : (0 : Int) ≤ (en : Int) := by omega
      have hn1 : (en : Int) < (g.e.length : Int) := by omega
      have hs1 := stepL_len g (an : Int) (p.e.take k)
      have hs2 := stepL_len g (bn : Int) (p.e.take k)
      rw [List.length_take] at hs1 hs2
      have HMM := Lib.hid hS.out
      have HBB := Lib.hid hB.out
      have cA := hS.out.cell an haN
      have roA := hS.out.row an haN
      clear hS hB hc he1 he2 hbw hmk HRS hee hrk hmem c0 c1 d1 hends hr1 hr2 han hbn hen
      go_wp2_with fail
      go_quiet (fail)
      have hbd := below_drewN' wq nq
      have HM1 := Lib.hid (HMM.out.below hbd)
      have HB1' := Lib.hid (HBB.out.trans (hbd.mono HBB.out.size))
      have cA1 := HM1.out.cell an haN
      have roA1 := HM1.out.row an haN
      have HSZ1 := Lib.hid HM1.out.lt
      clear HMM HBB cA roA hbd g0 g1 g2 hck
      generalize wq.drewN nq = wx at *
      go_wp2_with (at_builtin; refine wpList_append_own_at _ rfl _ _ 63 rfl (w.heap.size + 1 + 1) 65 i0 (.agg #[.int .i64 0, .int .i64 0]) 2 16 Try.underlying63 hi hz0 hz1 hz2 rfl (by decide) _ _ _ rfl (roA1.alloc _) ⟨wx.heap.size, 0, none⟩ 1 1 [.int .i64 (2 * en), .int .i64 bn] rfl rfl (cell_two_new _ _ _ _) (by simp [Value.oneCell']) (by unfold maxLen; omega) (by omega) (by have := HSZ1.out; simp; omega) ?_)
      intro v4 w4 hown4 hgrow4 _ hat4
      obtain ⟨A4, cap4, hv4⟩ := own_shape hown4
      have HV4 := Lib.hid hv4
      have hba := below_alloc (w := wx) (.cells #[.int .i64 (2 * (en : Int)), .int .i64 (bn : Int)] 65)
      obtain ⟨M4, c4, f4, B4⟩ := (HM1.out.below hba).put (x := ⟨2 * (en : Int), bn⟩) haN hgrow4 hown4 (hat4.imp id (fun h => by rw [h]; simp))
      have B3 : Below (w.heap.size + 1 + 1) wx w4 := (hba.mono (by have := HM1.out.lt; omega)).grown hgrow4 (by have := HM1.out.lt; simp; omega) (fun j hj => (World.ownsRow.lt (HM1.out.row an haN) j hj).1)
      have HM4 := Lib.hid M4
      have HB4 := Lib.hid (HB1'.out.trans ((B3.trans (B4.mono (Nat.le_refl _))).mono (Nat.le_of_eq HZ0.out)))
      have hs4 := more_len (fun (j : Nat) => stepL g (j : Int) (p.e.take k)) an ⟨2 * (en : Int), bn⟩ bn
      clear hown4 hgrow4 hat4 hba M4 B3 B4 cA1 roA1 HM1 HB1' hv4
      rw [HV4.out] at HM4 HB4 ⊢
      clear HV4
      generalize (stepL g (an : Int) (p.e.take k)).length + 1 = ln4 at *
      have HS4 := Lib.hid hs4
      clear hs4
      obtain ⟨wy, hwy⟩ : ∃ z, w4.setCell ⟨w.heap.size + 1 + 1, an, none⟩ (.slice A4 ln4 cap4) = z := ⟨_, rfl⟩
      rw [hwy] at HM4 HB4
      have cB := HM4.out.cell bn hbN
      have roB := HM4.out.row bn hbN
      have HSZ4 := Lib.hid HM4.out.lt
      have hs5 : (more (fun (j : Nat) => stepL g (j : Int) (p.e.take k)) an ⟨2 * (en : Int), bn⟩ bn).length ≤ 2000001 := Nat.le_trans HS4.out (by omega)
      generalize setF us an (.slice A4 ln4 cap4) = us4 at *
      generalize more (fun (j : Nat) => stepL g (j : Int) (p.e.take k)) an ⟨2 * (en : Int), (bn : Int)⟩ = ls4 at *
      go_wp2_with (at_builtin; refine wpList_append_own_at _ rfl _ _ 63 rfl (w.heap.size + 1 + 1) 65 i0 (.agg #[.int .i64 0, .int .i64 0]) 2 16 Try.underlying63 hi hz0 hz1 hz2 rfl (by decide) _ _ _ rfl (roB.alloc _) ⟨wy.heap.size, 0, none⟩ 1 1 [.int .i64 (2 * en + 1), .int .i64 an] rfl rfl (cell_two_new _ _ _ _) (by simp [Value.oneCell']) (by unfold maxLen; omega) (by omega) (by have := HSZ4.out; simp; omega) ?_)
      intro v5 w5 hown5 hgrow5 _ hat5
      obtain ⟨A5, cap5, hv5⟩ := own_shape hown5
      have HV5 := Lib.hid hv5
      have hba := below_alloc (w := wy) (.cells #[.int .i64 (2 * (en : Int) + 1), .int .i64 (an : Int)] 65)
      obtain ⟨M5, c5, f5, B5⟩ := (HM4.out.below hba).put (x := ⟨2 * (en : Int) + 1, an⟩) hbN hgrow5 hown5 (hat5.imp id (fun h => by rw [h]; simp))
      have B6 : Below (w.heap.size + 1 + 1) wy w5 := (hba.mono (by have := HM4.out.lt; omega)).grown hgrow5 (by have := HM4.out.lt; simp; omega) (fun j hj => (World.ownsRow.lt (HM4.out.row bn hbN) j hj).1)
      have HM5 := Lib.hid M5
      have HB5 := Lib.hid (HB4.out.trans ((B6.trans (B5.mono (Nat.le_refl _))).mono (Nat.le_of_eq HZ0.out)))
      clear hown5 hgrow5 hat5 hba M5 B5 B6 cB roB HM4 HB4 hv5 c4 f4 hwy
      rw [HV5.out] at HM5 HB5 ⊢
      clear HV5
      rw [HR.out] at HM5
      generalize (ls4 bn).length + 1 = ln5 at *
      go_wp2
      go_roundw
      case rel => exact ⟨k + 1, _, by omega, by go_num, HM5, HB5⟩
      case measure => simp [Go.RowKit.intOf]; omega
    · obtain rfl : k = p.e.length := by omega
      have HT := Lib.hid (List.take_length (l := p.e))
      rw [HT.out] at hS
      clear hmk
      go_wp2
      go_ret
      exact ⟨_, _, us, rfl, by omega, hS.out, HM.out.trans (hB.out.mono HM.out.size)⟩
end Go.Proofs.Ytjnohnbppkhbaaa
