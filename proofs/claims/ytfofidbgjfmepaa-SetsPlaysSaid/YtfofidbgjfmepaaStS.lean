/-
  The program's sets and the document's side by side: what the law that plays both holds.
-/
import Derived.Test.YtfofidbgjfmepaaStR
namespace Go.Proofs.Ytfofidbgjfmepaa
open Go.RowKit Go.Maps

/-- The program's sets hold sS; block MB holds the document's, which are sM. -/
structure Pl (w0 : World) (F : Nat → Prop) (sb MB : Nat) (sS sM : St) (A1 : Option Addr) (c1 : Nat) (A2 : Option Addr) (c2 : Nat) (w : World) : Prop where
  hold : Holds w F sb sS
  box : w.heap[MB]? = some (.cells #[.slice A1 sM.ts.length c1, .slice A2 sM.ts.length c2] 34 (0, 0))
  ref : RM w (fun k => F k ∨ k = MB) (.agg #[.slice A1 sM.ts.length c1, .slice A2 sM.ts.length c2]) sM
  ok : St.Ok sM
  nF : ¬ F MB
  below : Below w0.heap.size w0 w
  hF : ∀ k, F k → w0.heap.size ≤ k
  hM : w0.heap.size ≤ MB

variable {w0 w w1 : World} {F : Nat → Prop} {sb MB : Nat} {sS sM : St} {A1 A2 : Option Addr} {c1 c2 : Nat}

theorem Pl.lt (h : Pl w0 F sb MB sS sM A1 c1 A2 c2 w) : MB < w.heap.size := (Array.getElem?_eq_some_iff.1 h.box).1
theorem Pl.flt (h : Pl w0 F sb MB sS sM A1 c1 A2 c2 w) : ∀ k, F k ∨ k = MB → k < w.heap.size := fun k hk => hk.elim (h.hold.lt k) (fun e => by rw [e]; exact h.lt)
theorem Pl.size (h : Pl w0 F sb MB sS sM A1 c1 A2 c2 w) : w0.heap.size ≤ w.heap.size := h.below.size
theorem Pl.cells (h : Pl w0 F sb MB sS sM A1 c1 A2 c2 w) : w.cell? ⟨MB, 0, none⟩ = some (.slice A1 sM.ts.length c1) ∧ w.cell? ⟨MB, 1, none⟩ = some (.slice A2 sM.ts.length c2) ∧ w.frozen? ⟨MB, 0, none⟩ = false ∧ w.frozen? ⟨MB, 1, none⟩ = false :=
  ⟨by simp [World.cell?, h.box], by simp [World.cell?, h.box], by simp [World.frozen?, h.box], by simp [World.frozen?, h.box]⟩

/-- Only new blocks, or blocks of the program's sets, have changed; these are as they were. -/
theorem Pl.keeps (h : Pl w0 F sb MB sS sM A1 c1 A2 c2 w) (hk : Keeps F w sb sS w1) : Pl w0 F sb MB sS sM A1 c1 A2 c2 w1 :=
  ⟨hk.1, (hk.2.block MB h.lt h.nF).trans h.box, h.ref.only (hk.2.more (fun _ _ f => .inl f)), h.ok, h.nF, h.below.trans (hk.2.below h.size h.hF), h.hF, h.hM⟩
theorem Pl.fresh (h : Pl w0 F sb MB sS sM A1 c1 A2 c2 w) (hb : Below w.heap.size w w1) : Pl w0 F sb MB sS sM A1 c1 A2 c2 w1 := h.keeps (Keeps.below h.hold hb)
theorem Pl.drew (h : Pl w0 F sb MB sS sM A1 c1 A2 c2 w) : Pl w0 F sb MB sS sM A1 c1 A2 c2 w.drew := h.fresh (below_drewN' w 1)

/-- A call of the program's sets has turned them. -/
theorem Pl.sets (h : Pl w0 F sb MB sS sM A1 c1 A2 c2 w) {sS' : St} (ha : After F w sb sS' w1) : ∃ F', Pl w0 F' sb MB sS' sM A1 c1 A2 c2 w1 := by
  obtain ⟨F', h1, h2, h3⟩ := ha
  have hlt := h.lt
  have hsz := h.size
  have hr : RM w1 (fun k => (F k ∨ k = MB) ∨ w.heap.size ≤ k) (.agg #[.slice A1 sM.ts.length c1, .slice A2 sM.ts.length c2]) sM := (h.ref.more (fun k hk => hk)).only (h2.more (fun _ _ f => .inl (.inl f)))
  refine ⟨F', h1, (h2.block MB hlt h.nF).trans h.box, hr.more (fun k hk => .inl ?_), h.ok, fun hf => ?_, h.below.trans (h2.below hsz h.hF), fun k hk => (h3 k hk).elim (h.hF k) (fun h => by omega), h.hM⟩
  · rcases hk with hk | hk
    · exact (h3 k hk).imp .inl id
    · exact .inl (.inr hk)
  · rcases h3 MB hf with e | e
    · exact h.nF e
    · omega

/-- The document's sets have been made anew, and stored. -/
theorem Pl.store (h : Pl w0 F sb MB sS sM A1 c1 A2 c2 w) (hb : Below w.heap.size w w1) {m' : Value} {sM' : St} (hr : RM w1 (fun k => F k ∨ k = MB) m' sM') (ok : St.Ok sM') :
    ∃ A3 c3 A4 c4, m' = .agg #[.slice A3 sM'.ts.length c3, .slice A4 sM'.ts.length c4] ∧ Pl w0 F sb MB sS sM' A3 c3 A4 c4 ((w1.setCell ⟨MB, 0, none⟩ (.slice A3 sM'.ts.length c3)).setCell ⟨MB, 1, none⟩ (.slice A4 sM'.ts.length c4)) := by
  obtain ⟨A3, c3, A4, c4, rfl, _⟩ := hr.open ok
  refine ⟨A3, c3, A4, c4, rfl, ?_⟩
  have h1 := h.fresh hb
  have hO : Only (fun k => k = MB) w1 ((w1.setCell ⟨MB, 0, none⟩ (.slice A3 sM'.ts.length c3)).setCell ⟨MB, 1, none⟩ (.slice A4 sM'.ts.length c4)) := (Only.setCell (F := fun k => k = MB) w1 (a := ⟨MB, 0, none⟩) rfl _).trans' (Only.setCell (F := fun k => k = MB) _ (a := ⟨MB, 1, none⟩) rfl _)
  obtain ⟨tv, av, bm, D, ah, R⟩ := h1.hold
  refine ⟨⟨tv, av, bm, D, ah, R.same (fun k hk => hO.block k (R.flt k hk) (fun e => h.nF (by rw [← e]; exact hk))) hO.size⟩, ?_, hr.only (hO.more (fun _ _ e => .inr e)), ok, h.nF, h1.below.trans (hO.below h1.size (fun k e => by rw [e]; exact h.hM)), h.hF, h.hM⟩
  have e1 := box_set h1.box 0 (.slice A3 sM'.ts.length c3)
  have e2 := box_set e1 1 (.slice A4 sM'.ts.length c4)
  rw [e2]; rfl

theorem Pl.store' (h : Pl w0 F sb MB sS sM A1 c1 A2 c2 w) {sM' : St} {A3 A4 : Option Addr} {c3 c4 : Nat} (hr : RM w (fun k => F k ∨ k = MB) (.agg #[.slice A3 sM'.ts.length c3, .slice A4 sM'.ts.length c4]) sM') (ok : St.Ok sM') :
    Pl w0 F sb MB sS sM' A3 c3 A4 c4 ((w.setCell ⟨MB, 0, none⟩ (.slice A3 sM'.ts.length c3)).setCell ⟨MB, 1, none⟩ (.slice A4 sM'.ts.length c4)) := by
  obtain ⟨A3', c3', A4', c4', e, P⟩ := h.store (Below.refl _ w) hr ok
  simp only [Value.agg.injEq, Array.mk.injEq, List.cons.injEq, Value.slice.injEq, true_and, and_true] at e
  obtain ⟨⟨rfl, rfl⟩, rfl, rfl⟩ := e
  exact P

theorem Lists.mono {w : World} {F G : Nat → Prop} {v : Value} {ls : List (List Int)} (h : Lists w G v ls) (hf : ∀ k, F k → G k) : Lists w F v ls := by
  obtain ⟨A, cap, hv, hc, hm, hr⟩ := h
  refine ⟨A, cap, hv, hc, hm, fun h0 => ?_⟩
  obtain ⟨b, hA, hF, hb, hg⟩ := hr h0
  refine ⟨b, hA, fun f => hF (hf b f), hb, fun j hj => ?_⟩
  obtain ⟨u, h1, h2, h3⟩ := hg j hj
  exact ⟨u, h1, h2, fun b hb f => h3 b hb (hf b f)⟩

/-- One of the lists, written out. -/
theorem Lists.at_ {w : World} {F : Nat → Prop} {A : Option Addr} {n cap : Nat} {ls : List (List Int)} (h : Lists w F (.slice A n cap) ls) {j : Nat} (hj : j < ls.length) :
    ∃ b A' c', A = some ⟨b, 0, none⟩ ∧ w.cell? ⟨b, j, none⟩ = some (.slice A' (getL ls j).length c') ∧
      (0 < (getL ls j).length → ∃ b' off, A' = some ⟨b', off, none⟩ ∧ ∀ i, i < (getL ls j).length → w.cell? ⟨b', off + i, none⟩ = some (.int .i64 (getI (getL ls j) i))) := by
  obtain ⟨A0, cap0, hv, _, _, hr⟩ := h
  simp only [Value.slice.injEq] at hv
  obtain ⟨rfl, _, rfl⟩ := hv
  obtain ⟨b, hA, _, _, hg⟩ := hr (by omega)
  obtain ⟨u, h1, h2, _⟩ := hg j hj
  obtain ⟨A', c', rfl, _, _, hr'⟩ := h2
  refine ⟨b, A', c', hA, h1, fun h0 => ?_⟩
  obtain ⟨b', off, e, _, hc⟩ := hr' h0
  exact ⟨b', off, e, hc⟩

theorem count_still' {w : World} {F : Nat → Prop} {sb : Nat} {s : St} (h : Holds w F sb s) :
    Calls Try.prog 10 #[.pointer (some ⟨sb, 0, none⟩)] w fun e w' => e = .returned (.int .i64 (heads s.gr : Int)) ∧ w' = w :=
  (count_any w F sb s h).mono fun _ _ ⟨a, b⟩ => ⟨a, b.symm⟩
theorem len_still {w : World} {F : Nat → Prop} {sb : Nat} {s : St} (h : Holds w F sb s) :
    Calls Try.prog 18 #[.pointer (some ⟨sb, 0, none⟩)] w fun e w' => e = .returned (.int .i64 (s.ts.length : Int)) ∧ w' = w :=
  (len_any w F sb s h).mono fun _ _ ⟨a, b⟩ => ⟨a, b.symm⟩
theorem St.groups_count {s : St} (ok : St.Ok s) : heads s.gr = s.groups.length := by
  unfold St.groups St.groupsTo heads
  rw [List.length_map, ok.len]

theorem St.groups_len (s : St) (i : Nat) (hi : i < s.groups.length) : (getL s.groups i).length ≤ s.ts.length := by
  obtain ⟨g, _, _, he⟩ := St.groups_each (s := s) i hi
  change getL s.groups i = _ at he
  rw [he]
  exact St.memb_le s _ _

/-- All acts played. -/
def St.act (s : St) (a : Act1) : St := if a.d.tmod 3 = 0 then s.add a.x else s.join a.x a.y
def St.played (s : St) (l : List Act1) : St := l.foldl St.act s
theorem St.played_succ (s : St) (l : List Act1) (k : Nat) (h : k < l.length) : s.played (l.take (k + 1)) = (s.played (l.take k)).act (getA l k) := by
  unfold St.played; rw [take_succ_getA l k h, List.foldl_append]; rfl
theorem St.len_act (s : St) (a : Act1) : (s.act a).ts.length ≤ s.ts.length + 2 := by
  unfold St.act
  split
  · have := St.len_add s a.x; omega
  · exact St.len_join s a.x a.y
theorem St.len_played : ∀ (l : List Act1) (s : St), (s.played l).ts.length ≤ s.ts.length + 2 * l.length
  | [], s => by simp [St.played]
  | a :: l, s => by
    have h := St.len_played l (s.act a)
    have h2 := St.len_act s a
    show ((s.act a).played l).ts.length ≤ _
    simp only [List.length_cons]
    omega

/-- What a place in the groups holds: a thing, whose head is the group's first one. -/
theorem St.groups_at {s : St} (ok : St.Ok s) (i k : Nat) (hi : i < s.groups.length) (hk : k < (getL s.groups i).length) :
    getI (getL s.groups i) k ∈ s.ts ∧ s.head (getI (getL s.groups i) k) = getI (getL s.groups i) 0 := by
  obtain ⟨g, hg, hr, he⟩ := St.groups_each (s := s) i hi
  change getL s.groups i = _ at he
  rw [he] at hk ⊢
  have key : ∀ k, k < (s.memb s.ts.length g).length → ∃ p, p < s.ts.length ∧ getN s.gr p = g ∧ getI (s.memb s.ts.length g) k = getI s.ts p := by
    intro k hk
    unfold St.memb at hk ⊢
    rw [List.length_map] at hk
    have hm := List.getElem_mem hk
    rw [List.mem_filter, List.mem_range] at hm
    refine ⟨_, hm.1, of_decide_eq_true hm.2, ?_⟩
    rw [getI_of _ k (by rw [List.length_map]; exact hk), List.getElem_map]
  obtain ⟨p, h1, h2, h3⟩ := key k hk
  have h0 : getI (s.memb s.ts.length g) 0 = getI s.ts g := by
    have hpos : 0 < (s.memb s.ts.length g).length := by omega
    -- the first of the filtered places is g itself
    have hfil : ∃ rest, (List.range s.ts.length).filter (fun i => decide (getN s.gr i = g)) = g :: rest := by
      obtain ⟨d, hd⟩ : ∃ d, s.ts.length = g + 1 + d := ⟨s.ts.length - (g + 1), by omega⟩
      rw [hd]
      clear hpos h3 key hk he hd
      induction d with
      | zero =>
        refine ⟨[], ?_⟩
        rw [Nat.add_zero, List.range_succ, List.filter_append]
        have e1 : (List.range g).filter (fun i => decide (getN s.gr i = g)) = [] := by
          rw [List.filter_eq_nil_iff]
          intro i hi
          rw [List.mem_range] at hi
          have := (ok.roots i (by rw [ok.len]; omega)).1
          simp; omega
        rw [e1]; simp [hr]
      | succ d ih =>
        obtain ⟨rest, ih⟩ := ih
        rw [show g + 1 + (d + 1) = g + 1 + d + 1 from rfl, List.range_succ, List.filter_append, ih]
        exact ⟨_, rfl⟩
    obtain ⟨rest, hf⟩ := hfil
    unfold St.memb
    rw [hf]; rfl
  rw [h0, h3]
  refine ⟨(mem_getI _ _).2 ⟨p, h1, rfl⟩, ?_⟩
  unfold St.head St.root
  rw [St.place_at ok h1, h2]

end Go.Proofs.Ytfofidbgjfmepaa
