/-
  Pieces, as they are handed out: what the laws read of them.
-/
import Derived.Test.YtjnohnbppkhbaaaWkO
namespace Go.Proofs.Ytjnohnbppkhbaaa
open Go.RowKit Go.Maps

variable {g : Gph} {p : Prt}

def getP (ps : List Prt) (j : Nat) : Prt := ps.getD j ⟨[], []⟩
theorem getP_of {ps : List Prt} {j : Nat} (h : j < ps.length) : getP ps j = ps[j] := by
  unfold getP
  rw [List.getD_eq_getElem?_getD, List.getElem?_eq_getElem h]
  rfl
theorem getP_mem {ps : List Prt} {j : Nat} (h : j < ps.length) : getP ps j ∈ ps := by rw [getP_of h]; exact List.getElem_mem h

/-- The slice at A reads as these parts. -/
def PList (w : World) (A : Option Addr) (ps : List Prt) : Prop :=
  ∀ j, j < ps.length → ∃ gb A1 c1 A2 c2, A = some ⟨gb, 0, none⟩ ∧ gb < w.heap.size ∧ w.cell? ⟨gb, j * 2, none⟩ = some (.slice A1 (getP ps j).v.length c1) ∧ w.cell? ⟨gb, j * 2 + 1, none⟩ = some (.slice A2 (getP ps j).e.length c2) ∧
    Ints w (.slice A1 (getP ps j).v.length c1) (getP ps j).v ∧ Ints w (.slice A2 (getP ps j).e.length c2) (getP ps j).e
theorem PList.below {w w' : World} {A : Option Addr} {ps : List Prt} (h : PList w A ps) (hb : Below w.heap.size w w') : PList w' A ps := fun j hj => by
  obtain ⟨gb, A1, c1, A2, c2, hA, hlt, h1, h2, i1, i2⟩ := h j hj
  exact ⟨gb, A1, c1, A2, c2, hA, Nat.lt_of_lt_of_le hlt hb.size, (hb.cell (p := ⟨gb, j * 2, none⟩) hlt).trans h1, (hb.cell (p := ⟨gb, j * 2 + 1, none⟩) hlt).trans h2, i1.below hb, i2.below hb⟩
theorem PiecesOf.list {w w' : World} {e : Ending} (h : PiecesOf g p w e w') : ∃ A cap, e = .returned (.tuple #[.slice A (pcs g p).length cap, .int .i64 0]) ∧ Below w.heap.size w w' ∧ PList w' A (pcs g p) := by
  obtain ⟨A, cap, he, hb, hl⟩ := h
  refine ⟨A, cap, he, hb, fun j hj => ?_⟩
  obtain ⟨gb, uv, ue, hA, hlt, h1, h2, i1, i2⟩ := hl j hj
  rw [← getP_of hj] at i1 i2
  obtain ⟨A1, c1, rfl⟩ := ints_form i1
  obtain ⟨A2, c2, rfl⟩ := ints_form i2
  exact ⟨gb, A1, c1, A2, c2, hA, hlt, h1, h2, i1, i2⟩

/-- What is known of the pieces. -/
structure PFacts (g : Gph) (p : Prt) (ps : List Prt) : Prop where
  joined : ∀ j, j < ps.length → joinedB g (getP ps j) = true
  some : ∀ j, j < ps.length → 0 < (getP ps j).v.length
  few : ∀ j, j < ps.length → (getP ps j).v.length ≤ p.v.length ∧ (getP ps j).e.length ≤ p.e.length
  vs : (ps.map Prt.v).flatten.length = p.v.length
  es : (ps.map Prt.e).flatten.length = p.e.length
  av : ∀ i j, i < ps.length → j < ps.length → i ≠ j → ∀ x ∈ (getP ps i).v, x ∉ (getP ps j).v
  ae : ∀ i j, i < ps.length → j < ps.length → i ≠ j → ∀ x ∈ (getP ps i).e, x ∉ (getP ps j).e
  one : joinedB g p = decide (ps.length ≤ 1)
  len : ps.length ≤ p.v.length
  up : ∀ j, j < ps.length → Up (getP ps j).v ∧ Up (getP ps j).e
  reach : ∀ j, j < ps.length → ∀ z ∈ (getP ps j).v, ∀ t, t ∈ (getP ps j).v ↔ t ∈ p.v ∧ Reach (Nbr g p) z t
  edges : ∀ j, j < ps.length → ∀ e, e ∈ (getP ps j).e ↔ e ∈ p.e ∧ (getE g.e e.toNat).a ∈ (getP ps j).v
  covers : ∀ x ∈ p.v, ∃ j, j < ps.length ∧ x ∈ (getP ps j).v

theorem pcs_at {j : Nat} (hj : j < (pcs g p).length) : j < (tog g p).groups.length ∧ getP (pcs g p) j = pieceOf g p (getL (tog g p).groups j) := by
  have hl : j < (tog g p).groups.length := by
    unfold pcs at hj
    rwa [List.length_map] at hj
  refine ⟨hl, ?_⟩
  rw [getP_of hj, getL_of hl]
  simp only [pcs, List.getElem_map]
theorem pcs_facts (hp : perr g p = 0) : PFacts g p (pcs g p) := by
  have hT := tog_all hp
  have hpn : p.v.Nodup := List.Pairwise.imp (fun {a b} (hab : a < b) => (by omega : a ≠ b)) (perr_rises hp).2.1.up
  have hgr : ∀ j, j < (pcs g p).length → Up (getL (tog g p).groups j) ∧ ∃ z ∈ getL (tog g p).groups j, ∀ t, t ∈ getL (tog g p).groups j ↔ t ∈ p.v ∧ Reach (Nbr g p) z t := fun j hj => piece_group hp (getL_mem (pcs_at hj).1)
  refine ⟨fun j hj => ?_, fun j hj => ?_, fun j hj => ?_, pcs_vs hp, pcs_es hp, fun i j hi hj hne x hx => ?_, fun i j hi hj hne x hx => ?_, ?_, ?_, fun j hj => ?_, fun j hj z hz t => ?_, fun j hj e => ?_, fun x hx => ?_⟩
  · rw [(pcs_at hj).2]
    exact piece_joined hp (getL_mem (pcs_at hj).1)
  · rw [(pcs_at hj).2]
    obtain ⟨_, z, hz, _⟩ := hgr j hj
    exact List.length_pos_of_mem hz
  · rw [(pcs_at hj).2]
    obtain ⟨hu, z, _, hz⟩ := hgr j hj
    exact ⟨once_len (List.Pairwise.imp (fun {a b} (hab : a < b) => (by omega : a ≠ b)) hu) (fun x hx => ((hz x).1 hx).1), List.length_filter_le _ _⟩
  · rw [(pcs_at hi).2] at hx
    rw [(pcs_at hj).2]
    exact fun hx2 => hne (apart_at hT.apart (pcs_at hi).1 (pcs_at hj).1 hx hx2)
  · rw [(pcs_at hi).2] at hx
    rw [(pcs_at hj).2]
    exact fun hx2 => hne (apart_at hT.apart (pcs_at hi).1 (pcs_at hj).1 (of_decide_eq_true (List.mem_filter.1 hx).2) (of_decide_eq_true (List.mem_filter.1 hx2).2))
  · unfold joinedB
    rw [decide_eq_true hp, Bool.true_and, pcs_len hp]
  · rw [pcs_len hp]
    have := heads_le (tog g p).gr
    rw [hT.2.1.len, hT.1] at this
    exact this
  · rw [(pcs_at hj).2]
    exact ⟨(hgr j hj).1, List.Pairwise.filter _ (perr_rises hp).2.2.1.up⟩
  · rw [(pcs_at hj).2] at hz ⊢
    obtain ⟨_, y, _, hy⟩ := hgr j hj
    have hyz := ((hy z).1 hz).2
    constructor
    · intro ht
      exact ⟨((hy t).1 ht).1, (hyz.symm nbr_symm).trans ((hy t).1 ht).2⟩
    · rintro ⟨h1, h2⟩
      exact (hy t).2 ⟨h1, hyz.trans h2⟩
  · rw [(pcs_at hj).2]
    show e ∈ p.e.filter _ ↔ _
    rw [List.mem_filter, decide_eq_true_iff]
    rfl
  · obtain ⟨V, hV, hxV⟩ := hT.covers hx
    obtain ⟨j, hj, rfl⟩ := List.mem_iff_getElem.1 hV
    have hj' : j < (pcs g p).length := by unfold pcs; rwa [List.length_map]
    refine ⟨j, hj', ?_⟩
    rw [(pcs_at hj').2, getL_of hj]
    exact hxV

theorem flat_take_le (L : List (List Int)) (i : Nat) : (L.take i).flatten.length ≤ L.flatten.length := by
  have h := congrArg (fun M : List (List Int) => M.flatten.length) (List.take_append_drop i L)
  simp only [List.flatten_append, List.length_append] at h
  omega
theorem flat_succ (f : Prt → List Int) (ps : List Prt) (i : Nat) (h : i < ps.length) : ((ps.map f).take (i + 1)).flatten.length = ((ps.map f).take i).flatten.length + (f (getP ps i)).length := by
  have h' : i < (ps.map f).length := by rwa [List.length_map]
  rw [take_getL _ _ h', List.flatten_append, List.length_append, getL_of h', List.getElem_map, getP_of h]
  simp
end Go.Proofs.Ytjnohnbppkhbaaa
