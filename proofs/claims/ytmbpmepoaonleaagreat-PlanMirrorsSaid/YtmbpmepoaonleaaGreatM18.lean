/-
  WkT, WkU, WkV, in one text.
-/
import Derived.Test.YtmbpmepoaonleaaGreatM14
import Derived.Test.YtmbpmepoaonleaaGreatM11
import Derived.ArgAppend
import Derived.Maps.AppendAt
import Derived.Deep.OwnRows
/-! A map of what was met, a line of those that wait, rows of steps, as they lie in memory. -/
namespace Go.Proofs.YtmbpmepoaonleaaGreat
open Go.RowKit Go.Maps

/-! ### a map from numbers to numbers -/

/-- The datum tells of each number of a list the number beside it, and of no other. -/
def MapOf (D : DataW Unit) (ts : List Int) (ds : List Nat) : Prop :=
  Tidy D ∧ Maps.size D = ts.length ∧ (∀ x : Int, Maps.has D (.int .i64 x) = decide (x ∈ ts)) ∧ ∀ i, i < ts.length → D.atKey (.int .i64 (getI ts i)) (.lit (.int .i64 0)) = .lit (.int .i64 (ds.getD i 0 : Nat))

theorem MapOf.start : MapOf (.map []) [] [] := ⟨tidy_empty, rfl, fun x => by simp [Maps.has], fun i h => absurd h (Nat.not_lt_zero _)⟩
theorem MapOf.put {D : DataW Unit} {ts : List Int} {ds : List Nat} (h : MapOf D ts ds) (hl : ds.length = ts.length) {x : Int} (hx : x ∉ ts) (d : Nat) :
    MapOf (D.put (.int .i64 x) (.lit (.int .i64 (d : Int)))) (ts ++ [x]) (ds ++ [d]) := by
  obtain ⟨h1, h2, h3, h4⟩ := h
  refine ⟨h1.put (isKey x) _, ?_, fun y => ?_, fun i hi => ?_⟩
  · rw [size_put h1, (h3 x), decide_eq_false hx, h2, List.length_append]
    rfl
  · by_cases e : y = x
    · subst e
      rw [has_put_same h1.isMap (isKey y)]
      simp
    · rw [has_put_other (by simpa using e), h3 y]
      simp [e]
  · rw [List.length_append] at hi
    simp at hi
    rcases Nat.lt_or_ge i ts.length with hlt | hge
    · have hne : getI ts i ≠ x := fun e => hx (e ▸ (mem_getI _ _).2 ⟨i, hlt, rfl⟩)
      rw [getI_app_left _ _ _ hlt, getD_app_left _ _ _ (by rw [hl]; exact hlt), atKey_put_other (by simpa using hne)]
      exact h4 i hlt
    · obtain rfl : i = ts.length := by omega
      rw [show getI (ts ++ [x]) ts.length = x from getI_app_right ts [x] 0, atKey_put_same h1.isMap (isKey x), ← hl, getD_snoc]

/-- The block b is a map that tells so. -/
def Mp (w : World) (b : Nat) (D : DataW Unit) (ts : List Int) (ds : List Nat) : Prop :=
  w.ownsMap Tryz.prog 3 (plainElem Tryz.prog 3) b ts.length D ∧ MapOf D ts ds ∧ ds.length = ts.length

def mapLen (w : World) (b : Nat) : Nat := match w.heap[b]? with | some (.map es _) => es.size | _ => 0

variable {w w' w1 : World} {b : Nat} {D : DataW Unit} {ts : List Int} {ds : List Nat}

theorem Mp.size (h : Mp w b D ts ds) : mapLen w b = ts.length := by
  obtain ⟨es, clock, hb, _, _, hD⟩ := h.1
  have h2 := h.2.1.2.1
  rw [hD] at h2
  unfold mapLen
  rw [hb, ← h2]
  show es.size = ((es.toList.map _).foldr DataW.insert []).length
  exact (length_read es).symm
theorem Mp.same (h : Mp w b D ts ds) (hs : w'.heap[b]? = w.heap[b]?) : Mp w' b D ts ds := by
  obtain ⟨es, clock, hb, r⟩ := h.1
  exact ⟨⟨es, clock, by rw [hs]; exact hb, r⟩, h.2⟩
theorem Mp.lt (h : Mp w b D ts ds) : b < w.heap.size := h.1.lt
theorem Mp.below (h : Mp w b D ts ds) (hb : Below w.heap.size w w') : Mp w' b D ts ds := h.same (hb.block b h.lt)
theorem Mp.belowN {n : Nat} (h : Mp w b D ts ds) (hb : Below n w w') (hn : b < n) : Mp w' b D ts ds := h.same (hb.block b hn)
theorem Mp.only {F : Nat → Prop} (h : Mp w b D ts ds) (hb : Only F w w') (hn : ¬ F b) : Mp w' b D ts ds := h.same (hb.block b h.lt hn)
theorem Mp.start (w : World) : Mp (w.alloc (.map #[] 0)) w.heap.size (.map []) [] [] := ⟨World.ownsMap_made w Tryz.prog 3 (plainElem (H := Unit) Tryz.prog 3), MapOf.start, rfl⟩
theorem Mp.at_ (h : Mp w b D ts ds) {i : Nat} (hi : i < ts.length) {c : Int} (hc : D.atKey (.int .i64 (getI ts i)) (.lit (.int .i64 0)) = .lit (.int .i64 c)) : c = (ds.getD i 0 : Nat) := by
  have := hc.symm.trans (h.2.1.2.2.2 i hi)
  simpa using this
theorem Mp.not_cell (h : Mp w b D ts ds) {i : Nat} {v : Value} (hc : w.cell? ⟨b, i, none⟩ = some v) : False := by
  obtain ⟨es, clock, hb, r⟩ := h.1
  simp [World.cell?, hb] at hc
theorem only_turned (h : w.mapTurned w' b) : Only (fun k => k = b) w w' := Only.of_grown h.grown (fun k hk => by cases hk; rfl)
/-- One more is told. -/
theorem Mp.put (h : Mp w b D ts ds) {x : Int} (hx : x ∉ ts) (d : Nat) (ho : w'.ownsMap Tryz.prog 3 (plainElem Tryz.prog 3) b (ts.length + 1) (D.put (.int .i64 x) (.lit (.int .i64 (d : Int))))) :
    Mp w' b (D.put (.int .i64 x) (.lit (.int .i64 (d : Int)))) (ts ++ [x]) (ds ++ [d]) :=
  ⟨by rw [List.length_append]; exact ho, h.2.1.put h.2.2 hx d, by rw [List.length_append, List.length_append, h.2.2]; rfl⟩

/-! ### a line: a slice that is taken from in front, and put to behind -/

/-- The slice's block. -/
def Lies (v : Value) (k : Nat) : Prop := ∃ p n c, v = .slice (some p) n c ∧ 0 < c ∧ p.block = k

/-- The slice v reads as l; behind it there is room, as far as it goes; its block is new. -/
def Que (w : World) (base : Nat) (v : Value) (l : List Int) : Prop :=
  ∃ A cap, v = .slice A l.length cap ∧ l.length ≤ cap ∧ cap ≤ maxLen ∧
    (0 < cap → ∃ b off, A = some ⟨b, off, none⟩ ∧ base ≤ b ∧ b < w.heap.size ∧ (∀ j, j < l.length → w.cell? ⟨b, off + j, none⟩ = some (.int .i64 (getI l j))) ∧
      ∀ j, j < cap → (w.cell? ⟨b, off + j, none⟩).isSome = true ∧ w.frozen? ⟨b, off + j, none⟩ = false)

variable {base : Nat} {v : Value} {l : List Int}

theorem Que.same (h : Que w base v l) (hs : ∀ k, Lies v k → w'.heap[k]? = w.heap[k]?) (hz : w.heap.size ≤ w'.heap.size) : Que w' base v l := by
  obtain ⟨A, cap, rfl, h1, h2, h3⟩ := h
  refine ⟨A, cap, rfl, h1, h2, fun hp => ?_⟩
  obtain ⟨b, off, rfl, hb, hlt, hc, hf⟩ := h3 hp
  have e := hs b ⟨_, _, _, rfl, hp, rfl⟩
  have e1 : ∀ i, w'.cell? ⟨b, i, none⟩ = w.cell? ⟨b, i, none⟩ := fun i => World.cell?_of_block (a := ⟨b, i, none⟩) e
  refine ⟨b, off, rfl, hb, Nat.lt_of_lt_of_le hlt hz, fun j hj => (e1 _).trans (hc j hj), fun j hj => ?_⟩
  rw [e1]
  refine ⟨(hf j hj).1, ?_⟩
  have := (hf j hj).2
  unfold World.frozen? at this ⊢
  rw [e]
  exact this
theorem Que.below (h : Que w base v l) (hb : Below w.heap.size w w') : Que w' base v l := by
  refine h.same (fun k hk => ?_) hb.size
  obtain ⟨A, cap, rfl, h1, h2, h3⟩ := h
  obtain ⟨p, n, c, e, hc, rfl⟩ := hk
  cases e
  obtain ⟨b, off, e, _, hlt, _⟩ := h3 hc
  cases e
  exact hb.block _ hlt
theorem Que.lies (h : Que w base v l) {k : Nat} (hk : Lies v k) : base ≤ k ∧ k < w.heap.size ∧ ∃ i u, w.cell? ⟨k, i, none⟩ = some u := by
  obtain ⟨A, cap, rfl, h1, h2, h3⟩ := h
  obtain ⟨p, n, c, e, hc, rfl⟩ := hk
  cases e
  obtain ⟨b, off, e, hb, hlt, _, hf⟩ := h3 hc
  cases e
  obtain ⟨u, hu⟩ := Option.isSome_iff_exists.1 (hf 0 hc).1
  exact ⟨hb, hlt, _, u, hu⟩
theorem Que.only {F : Nat → Prop} (h : Que w base v l) (ho : Only F w w') (hF : ∀ k, Lies v k → ¬ F k) : Que w' base v l :=
  h.same (fun k hk => ho.block k (h.lies hk).2.1 (hF k hk)) ho.size
theorem Que.one (w : World) (x : Int) : Que (w.alloc (.cells #[.int .i64 x] 3)) w.heap.size (.slice (some ⟨w.heap.size, 0, none⟩) 1 1) [x] := by
  refine ⟨_, _, rfl, Nat.le_refl _, by unfold maxLen; omega, fun _ => ⟨w.heap.size, 0, rfl, Nat.le_refl _, by simp, fun j hj => ?_, fun j hj => ?_⟩⟩
  · obtain rfl : j = 0 := by simp at hj; exact hj
    exact new_cell w (.int .i64 x) 3
  · obtain rfl : j = 0 := by omega
    exact ⟨by rw [new_cell w (.int .i64 x) 3]; rfl, new_thaw _ _ _ _⟩
/-- Of an own row. -/
theorem Que.of_own {n : Nat} (h : w.ownsRow base 3 1 v n (l.map (Value.int .i64))) (hn : n = l.length) : Que w base v l := by
  subst hn
  obtain ⟨h0, h⟩ := h
  rcases h with ⟨rfl, hl⟩ | ⟨g, cap, cur, rfl, hb, hg, r1, r2, r3, r4⟩
  · have e : l = [] := List.eq_nil_of_length_eq_zero hl
    subst e
    exact ⟨none, 0, rfl, Nat.le_refl _, by unfold maxLen; omega, fun h => absurd h (Nat.lt_irrefl _)⟩
  · rw [Nat.mul_one] at r3 r4
    have hlt : g < w.heap.size := by
      rcases Nat.lt_or_ge g w.heap.size with h | h
      · exact h
      · rw [Array.getElem?_eq_none h] at hg; cases hg
    refine ⟨_, cap, rfl, r1, r2, fun _ => ⟨g, 0, rfl, hb, hlt, fun j hj => ?_, fun j hj => ?_⟩⟩
    · rw [Nat.zero_add, cell_of_row w g j cur 3 (0, 0) hg]
      have h5 := congrArg (fun m : List Value => m[j]?) r4
      simp only [List.getElem?_take, if_pos hj, List.getElem?_map] at h5
      rw [Array.getElem?_toList] at h5
      rw [h5, getI_of l j hj, List.getElem?_eq_getElem hj]
      rfl
    · rw [Nat.zero_add, cell_of_row w g j cur 3 (0, 0) hg]
      exact ⟨by rw [Array.getElem?_eq_getElem (by omega)]; rfl, frozen_of_row w g j cur 3 hg⟩
/-- What is behind the first one. -/
theorem Que.behind {A : Option Addr} {n cap : Nat} (h : Que w base (.slice A n cap) l) (hp : 0 < n) :
    ∃ b off A', A = some ⟨b, off, none⟩ ∧ n ≤ cap ∧ cap ≤ maxLen ∧ w.cell? ⟨b, off, none⟩ = some (.int .i64 (getI l 0)) ∧
      (if cap = 1 then some (⟨b, off, none⟩ : Addr) else some ⟨b, off + 1, none⟩) = A' ∧ Que w base (.slice A' (n - 1) (cap - 1)) (l.drop 1) := by
  obtain ⟨A', cap', e, h1, h2, h3⟩ := h
  cases e
  obtain ⟨b, off, hA, hb, hlt, hc, hf⟩ := h3 (by omega)
  subst hA
  refine ⟨b, off, _, rfl, h1, h2, hc 0 hp, rfl, _, cap - 1, by rw [List.length_drop], by rw [List.length_drop]; omega, by omega, fun h0 => ?_⟩
  refine ⟨b, off + 1, if_neg (by omega), hb, hlt, fun j hj => ?_, fun j hj => ?_⟩
  · rw [List.length_drop] at hj
    rw [getI_drop, Nat.add_assoc]
    exact hc (1 + j) (by omega)
  · rw [Nat.add_assoc]
    exact hf (1 + j) (by omega)
theorem Que.form (h : Que w base v l) : ∃ A c, v = .slice A l.length c := by
  obtain ⟨A, c, e, _⟩ := h
  exact ⟨A, c, e⟩

/-! ### rows of steps -/

/-- The slice v has n rows, which read as these. -/
def Steps (w : World) (v : Value) (n : Nat) (ss : Nat → List Ed) : Prop :=
  ∃ A cap, v = .slice A n cap ∧ ∀ j, j < n → ∃ gb u, A = some ⟨gb, 0, none⟩ ∧ gb < w.heap.size ∧ w.cell? ⟨gb, j, none⟩ = some u ∧ Edges w u (ss j)
theorem Steps.below {n : Nat} {ss : Nat → List Ed} (h : Steps w v n ss) (hb : Below w.heap.size w w') : Steps w' v n ss := by
  obtain ⟨A, cap, e, h1⟩ := h
  refine ⟨A, cap, e, fun j hj => ?_⟩
  obtain ⟨gb, u, hA, hlt, hc, hE⟩ := h1 j hj
  exact ⟨gb, u, hA, Nat.lt_of_lt_of_le hlt hb.size, (hb.cell (p := ⟨gb, j, none⟩) hlt).trans hc, hE.below hb⟩
theorem Steps.at_ {gb n cap : Nat} {ss : Nat → List Ed} (h : Steps w (.slice (some ⟨gb, 0, none⟩) n cap) n ss) {j : Nat} (hj : j < n) : ∃ u, gb < w.heap.size ∧ w.cell? ⟨gb, j, none⟩ = some u ∧ Edges w u (ss j) := by
  obtain ⟨A, c, e, h1⟩ := h
  obtain ⟨gb', u, hA, hlt, hc, hE⟩ := h1 j hj
  subst hA
  cases e
  exact ⟨u, hlt, hc, hE⟩
end Go.Proofs.YtmbpmepoaonleaaGreat

/-! The program's meet: what is come to from a vertex by steps, and how many they are. -/
namespace Go.Proofs.YtmbpmepoaonleaaGreat
open Go.RowKit Go.Maps

/-- The length of a slice value. -/
def lenOf : Value → Nat | .slice _ n _ => n | _ => 0

end Go.Proofs.YtmbpmepoaonleaaGreat

/-! The program's stepsOf: rows of steps, as they are filled. -/
namespace Go.Proofs.YtmbpmepoaonleaaGreat
open Go.RowKit Go.Maps

theorem own_shape {w : World} {e : TypeId} {v : Value} {m : Nat} {xs : List Value} {base size : Nat} (h : w.ownsRow base e size v m xs) : ∃ A cap, v = .slice A m cap := by
  rcases h.2 with ⟨rfl, h0⟩ | ⟨g, cap, cur, rfl, _⟩
  · exact ⟨none, 0, by rw [h0]⟩
  · exact ⟨_, _, rfl⟩

variable {w w1 : World} {base gb N : Nat} {us : Nat → Value} {ls : Nat → List Ed}

/-- A step more in one row. -/
def more (ls : Nat → List Ed) (j : Nat) (x : Ed) (i : Nat) : List Ed := if i = j then ls i ++ [x] else ls i
def setF (us : Nat → Value) (j : Nat) (u : Value) (i : Nat) : Value := if i = j then u else us i
theorem cell_two_new (w : World) (x y : Value) (t : TypeId) : ∀ j u, [x, y][j]? = some u → (w.alloc (.cells #[x, y] t)).cell? ((⟨w.heap.size, 0, none⟩ : Addr).add j) = some u := by
  intro j u hj
  match j, hj with
  | 0, hj =>
    simp at hj
    subst hj
    exact cell_two0 w x y t
  | 1, hj =>
    simp at hj
    subst hj
    exact cell_two1 w x y t
  | j + 2, hj => simp at hj

end Go.Proofs.YtmbpmepoaonleaaGreat
