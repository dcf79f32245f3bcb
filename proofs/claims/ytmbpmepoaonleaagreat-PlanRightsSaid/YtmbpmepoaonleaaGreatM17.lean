/-
  WkH, WkJ, in one text.
-/
import Derived.Test.YtmbpmepoaonleaaGreatM16
import Derived.Test.YtmbpmepoaonleaaGreatM11
import Derived.Test.YtmbpmepoaonleaaGreatM07
import Derived.StillTactics
import Derived.StillTailTactics
/-! What hangs together, as sets tell it: plain mathematics. -/
namespace Go.Proofs.YtmbpmepoaonleaaGreat
open Go.RowKit

/-! ### one edge more -/

theorem reach_more {R S : Int → Int → Prop} {a b : Int} (h : ∀ x y, S x y ↔ R x y ∨ (x = a ∧ y = b) ∨ (x = b ∧ y = a)) (z t : Int) :
    Reach S z t ↔ Reach R z t ∨ (Reach R z a ∧ Reach R b t) ∨ (Reach R z b ∧ Reach R a t) := by
  have hsub : ∀ x y, R x y → S x y := fun x y hr => (h x y).2 (.inl hr)
  have hab : Reach S a b := (Reach.refl S a).step ((h a b).2 (.inr (.inl ⟨rfl, rfl⟩)))
  have hba : Reach S b a := (Reach.refl S b).step ((h b a).2 (.inr (.inr ⟨rfl, rfl⟩)))
  constructor
  · rintro ⟨n, hn⟩
    refine Near.ins (P := fun t => Reach R z t ∨ (Reach R z a ∧ Reach R b t) ∨ (Reach R z b ∧ Reach R a t)) (fun x y hx hr => ?_) (.inl (Reach.refl R z)) hn
    rcases (h x y).1 hr with hr | ⟨rfl, rfl⟩ | ⟨rfl, rfl⟩
    · rcases hx with hx | ⟨h1, h2⟩ | ⟨h1, h2⟩
      · exact .inl (hx.step hr)
      · exact .inr (.inl ⟨h1, h2.step hr⟩)
      · exact .inr (.inr ⟨h1, h2.step hr⟩)
    · rcases hx with hx | ⟨h1, h2⟩ | ⟨h1, h2⟩
      · exact .inr (.inl ⟨hx, Reach.refl R _⟩)
      · exact .inr (.inl ⟨h1, Reach.refl R _⟩)
      · exact .inl h1
    · rcases hx with hx | ⟨h1, h2⟩ | ⟨h1, h2⟩
      · exact .inr (.inr ⟨hx, Reach.refl R _⟩)
      · exact .inl h1
      · exact .inr (.inr ⟨h1, Reach.refl R _⟩)
  · rintro (h1 | ⟨h1, h2⟩ | ⟨h1, h2⟩)
    · exact h1.sub hsub
    · exact ((h1.sub hsub).trans hab).trans (h2.sub hsub)
    · exact ((h1.sub hsub).trans hba).trans (h2.sub hsub)

namespace St

/-- Each thing by itself. -/
def Alone (s : St) : Prop := s.gr.length = s.ts.length ∧ ∀ i, i < s.ts.length → getN s.gr i = i
theorem Alone.add {s : St} (h : Alone s) (x : Int) : Alone (s.add x) := by
  by_cases hx : x ∈ s.ts
  · rw [add_in hx]; exact h
  · rw [add_out hx]
    refine ⟨by simp [h.1], fun i hi => ?_⟩
    rw [List.length_append] at hi
    simp at hi
    rcases Nat.lt_or_ge i s.ts.length with hl | hl
    · rw [getN_app_left _ _ _ (by rw [h.1]; exact hl)]
      exact h.2 i hl
    · obtain rfl : i = s.ts.length := by omega
      rw [← h.1]
      exact getN_snoc _ _
theorem news_go : ∀ (l : List Int) (s : St), s.ts.Nodup → Ok s → Alone s → (∀ x ∈ l, (Lit.int .i64 x).wf = true) → l.Nodup → (∀ x ∈ l, x ∉ s.ts) →
    (l.foldl add s).ts = s.ts ++ l ∧ Ok (l.foldl add s) ∧ Alone (l.foldl add s)
  | [], s, _, h2, h3, _, _, _ => ⟨by simp, h2, h3⟩
  | x :: l, s, h1, h2, h3, h4, h5, h6 => by
    have hx : x ∉ s.ts := h6 x (List.mem_cons_self ..)
    have h5' := List.nodup_cons.1 h5
    have e : (s.add x).ts = s.ts ++ [x] := by rw [add_out hx]
    have hn : (s.add x).ts.Nodup := by
      rw [e, List.nodup_append]
      refine ⟨h1, by simp, fun a ha b hb => ?_⟩
      rw [List.mem_singleton] at hb
      rintro rfl
      exact hx (hb ▸ ha)
    have := news_go l (s.add x) hn (ok_add h2 (h4 x (List.mem_cons_self ..))) (h3.add x) (fun y hy => h4 y (List.mem_cons_of_mem _ hy)) h5'.2 (fun y hy hm => by
      rw [e, List.mem_append, List.mem_singleton] at hm
      rcases hm with hm | rfl
      · exact h6 y (List.mem_cons_of_mem _ hy) hm
      · exact h5'.1 hy)
    rw [List.foldl_cons]
    refine ⟨?_, this.2⟩
    rw [this.1, e]
    simp
theorem news_alone {l : List Int} (h4 : ∀ x ∈ l, (Lit.int .i64 x).wf = true) (h5 : l.Nodup) : (l.foldl add empty).ts = l ∧ Ok (l.foldl add empty) ∧ Alone (l.foldl add empty) := by
  have := news_go l empty (by simp [empty]) ok_empty ⟨rfl, fun i h => absurd h (Nat.not_lt_zero _)⟩ h4 h5 (fun x _ h => by simp [empty] at h)
  refine ⟨?_, this.2⟩
  rw [this.1]
  rfl
theorem both_in {s : St} {x y : Int} (hx : x ∈ s.ts) (hy : y ∈ s.ts) : s.both x y = s := by
  unfold both
  rw [add_in hx, add_in hy]
theorem join_ts_in {s : St} {x y : Int} (hx : x ∈ s.ts) (hy : y ∈ s.ts) : (s.join x y).ts = s.ts := by rw [join_ts, both_in hx hy]
theorem root_join {s : St} (ok : Ok s) {x y z : Int} (hx : x ∈ s.ts) (hy : y ∈ s.ts) (hz : z ∈ s.ts) :
    (s.join x y).root z = if s.root z = max (s.root x) (s.root y) then min (s.root x) (s.root y) else s.root z := by
  unfold join
  rw [both_in hx hy]
  split
  · rename_i e
    rw [e, Nat.max_self, Nat.min_self]
    split
    · rename_i e2; exact e2
    · rfl
  · have hp := (find_in hz).2.1
    exact joinG_get s.gr (s.root x) (s.root y) (s.place z) (by rw [ok.len]; exact hp)

/-- Two belong together just if steps lead from one to the other. -/
def Tells (s : St) (l : List Int) (R : Int → Int → Prop) : Prop := s.ts = l ∧ Ok s ∧ ∀ z ∈ l, ∀ t ∈ l, s.root z = s.root t ↔ Reach R z t

theorem tells_news {l : List Int} (h4 : ∀ x ∈ l, (Lit.int .i64 x).wf = true) (h5 : l.Nodup) {R : Int → Int → Prop} (hR : ∀ x y, ¬ R x y) : Tells (l.foldl add empty) l R := by
  obtain ⟨h1, h2, h3⟩ := news_alone h4 h5
  refine ⟨h1, h2, fun z hz t ht => ?_⟩
  generalize l.foldl add empty = s at *
  rw [← h1] at hz ht
  have hz' := find_in hz
  have ht' := find_in ht
  unfold root
  rw [h3.2 _ hz'.2.1, h3.2 _ ht'.2.1]
  constructor
  · intro e
    rw [← hz'.2.2, ← ht'.2.2, e]
    exact Reach.refl _ _
  · rintro ⟨n, hn⟩
    have : t = z := Near.ins (P := fun y => y = z) (fun x y _ hr => absurd hr (hR x y)) rfl hn
    rw [this]
theorem Tells.join {s : St} {l : List Int} {R S : Int → Int → Prop} (h : Tells s l R) {a b : Int} (ha : a ∈ l) (hb : b ∈ l) (hwa : (Lit.int .i64 a).wf = true) (hwb : (Lit.int .i64 b).wf = true)
    (hS : ∀ x y, S x y ↔ R x y ∨ (x = a ∧ y = b) ∨ (x = b ∧ y = a)) : Tells (s.join a b) l S := by
  obtain ⟨h1, h2, h3⟩ := h
  have ha' : a ∈ s.ts := by rw [h1]; exact ha
  have hb' : b ∈ s.ts := by rw [h1]; exact hb
  refine ⟨(join_ts_in ha' hb').trans h1, ok_join h2 hwa hwb, fun z hz t ht => ?_⟩
  rw [reach_more hS, ← h3 z hz t ht, ← h3 z hz a ha, ← h3 z hz b hb, ← h3 b hb t ht, ← h3 a ha t ht, root_join h2 ha' hb' (by rw [h1]; exact hz), root_join h2 ha' hb' (by rw [h1]; exact ht)]
  generalize s.root z = rz
  generalize s.root t = rt
  generalize s.root a = ra
  generalize s.root b = rb
  split <;> split <;> omega

/-- The groups: each is what belongs together with one. -/
theorem Tells.group {s : St} {l : List Int} {R : Int → Int → Prop} (h : Tells s l R) (hu : l.Pairwise (· < ·)) {V : List Int} (hV : V ∈ s.groups) :
    V.Pairwise (· < ·) ∧ ∃ z ∈ V, ∀ t, t ∈ V ↔ t ∈ l ∧ Reach R z t := by
  obtain ⟨h1, h2, h3⟩ := h
  obtain ⟨gh, hg, rfl⟩ := List.mem_map.1 hV
  obtain ⟨hlt, hroot⟩ := headsTo_mem _ _ _ hg
  have hmem : ∀ t, t ∈ s.memb s.ts.length gh ↔ t ∈ l ∧ s.root t = gh := fun t => by
    unfold memb
    rw [List.mem_map]
    constructor
    · rintro ⟨i, hi, rfl⟩
      obtain ⟨hi1, hi2⟩ := List.mem_filter.1 hi
      have hi1' := List.mem_range.1 hi1
      refine ⟨by rw [← h1]; exact (mem_getI _ _).2 ⟨i, hi1', rfl⟩, ?_⟩
      unfold root
      rw [place_at h2 hi1']
      exact of_decide_eq_true hi2
    · rintro ⟨ht, hr⟩
      rw [← h1] at ht
      have := find_in ht
      exact ⟨s.place t, List.mem_filter.2 ⟨List.mem_range.2 this.2.1, decide_eq_true hr⟩, this.2.2⟩
  refine ⟨?_, getI s.ts gh, ?_, fun t => ?_⟩
  · unfold memb
    rw [List.pairwise_map]
    refine List.Pairwise.filter _ ?_
    rw [List.pairwise_iff_getElem]
    intro i j hi hj hij
    simp only [List.getElem_range]
    rw [List.length_range] at hi hj
    rw [← h1] at hu
    rw [getI_of _ _ hi, getI_of _ _ hj]
    exact List.pairwise_iff_getElem.1 hu i j hi hj hij
  · refine (hmem _).2 ⟨by rw [← h1]; exact (mem_getI _ _).2 ⟨gh, hlt, rfl⟩, ?_⟩
    unfold root
    rw [place_at h2 hlt]
    exact hroot
  · rw [hmem]
    have hz : getI s.ts gh ∈ l := by rw [← h1]; exact (mem_getI _ _).2 ⟨gh, hlt, rfl⟩
    have hrz : s.root (getI s.ts gh) = gh := by
      unfold root
      rw [place_at h2 hlt]
      exact hroot
    constructor
    · rintro ⟨ht, hr⟩
      exact ⟨ht, (h3 _ hz _ ht).1 (hrz.trans hr.symm)⟩
    · rintro ⟨ht, hr⟩
      exact ⟨ht, ((h3 _ hz _ ht).2 hr).symm.trans hrz⟩
/-- Each thing is in a group. -/
theorem Tells.covers {s : St} {l : List Int} {R : Int → Int → Prop} (h : Tells s l R) {t : Int} (ht : t ∈ l) : ∃ V ∈ s.groups, t ∈ V := by
  obtain ⟨h1, h2, h3⟩ := h
  rw [← h1] at ht
  have hp := find_in ht
  have hr := root_lt h2 ht
  refine ⟨s.memb s.ts.length (s.root t), List.mem_map.2 ⟨s.root t, ?_, rfl⟩, ?_⟩
  · unfold headsTo
    exact List.mem_filter.2 ⟨List.mem_range.2 hr.1, decide_eq_true hr.2⟩
  · unfold memb
    exact List.mem_map.2 ⟨s.place t, List.mem_filter.2 ⟨List.mem_range.2 hp.2.1, decide_eq_true rfl⟩, hp.2.2⟩
/-- No thing is in two. -/
theorem Tells.apart {s : St} {l : List Int} {R : Int → Int → Prop} (h : Tells s l R) : s.groups.Pairwise (fun V W => ∀ x ∈ V, x ∉ W) := by
  obtain ⟨h1, h2, h3⟩ := h
  unfold groups groupsTo
  rw [List.pairwise_map]
  have hn : (headsTo s.gr s.ts.length).Nodup := List.Pairwise.filter _ List.nodup_range
  refine List.Pairwise.imp (fun {i j} hij x hx hx2 => ?_) hn
  unfold memb at hx hx2
  obtain ⟨k, hk, rfl⟩ := List.mem_map.1 hx
  obtain ⟨m, hm, e⟩ := List.mem_map.1 hx2
  obtain ⟨hk1, hk2⟩ := List.mem_filter.1 hk
  obtain ⟨hm1, hm2⟩ := List.mem_filter.1 hm
  have := h2.one m k (List.mem_range.1 hm1) (List.mem_range.1 hk1) e
  subst this
  exact hij ((of_decide_eq_true hk2).symm.trans (of_decide_eq_true hm2))
theorem Tells.heads {s : St} {l : List Int} {R : Int → Int → Prop} (h : Tells s l R) : s.groups.length = Go.Proofs.YtmbpmepoaonleaaGreat.heads s.gr := by
  unfold groups Go.Proofs.YtmbpmepoaonleaaGreat.heads
  rw [groupsTo_length, h.2.1.len]
  rfl
/-- Where all belong together there is one group at most. -/
theorem Tells.one {s : St} {l : List Int} {R : Int → Int → Prop} (h : Tells s l R) (ha : ∀ z ∈ l, ∀ t ∈ l, Reach R z t) : s.groups.length ≤ 1 := by
  rcases hgr : s.groups with _ | ⟨V, _ | ⟨W, rest⟩⟩
  · simp
  · simp
  · exfalso
    have hap := h.apart
    rw [hgr] at hap
    have hV : V ∈ s.groups := by rw [hgr]; simp
    have hW : W ∈ s.groups := by rw [hgr]; simp
    have key : ∀ {V : List Int}, V ∈ s.groups → ∃ z ∈ l, z ∈ V ∧ ∀ t, t ∈ V ↔ t ∈ l ∧ s.root t = s.root z := fun {V} hV => by
      obtain ⟨gh, hg, rfl⟩ := List.mem_map.1 hV
      obtain ⟨hlt, hroot⟩ := headsTo_mem _ _ _ hg
      have hz : getI s.ts gh ∈ l := by rw [← h.1]; exact (mem_getI _ _).2 ⟨gh, hlt, rfl⟩
      have hrz : s.root (getI s.ts gh) = gh := by
        unfold root
        rw [place_at h.2.1 hlt]
        exact hroot
      have hmem : ∀ t, t ∈ s.memb s.ts.length gh ↔ t ∈ l ∧ s.root t = gh := fun t => by
        unfold memb
        rw [List.mem_map]
        constructor
        · rintro ⟨i, hi, rfl⟩
          obtain ⟨hi1, hi2⟩ := List.mem_filter.1 hi
          have hi1' := List.mem_range.1 hi1
          refine ⟨by rw [← h.1]; exact (mem_getI _ _).2 ⟨i, hi1', rfl⟩, ?_⟩
          unfold root
          rw [place_at h.2.1 hi1']
          exact of_decide_eq_true hi2
        · rintro ⟨ht, hr⟩
          rw [← h.1] at ht
          have := find_in ht
          exact ⟨s.place t, List.mem_filter.2 ⟨List.mem_range.2 this.2.1, decide_eq_true hr⟩, this.2.2⟩
      exact ⟨_, hz, (hmem _).2 ⟨hz, hrz⟩, fun t => by rw [hmem, hrz]⟩
    obtain ⟨z, hz, hzV, _⟩ := key hV
    obtain ⟨t, ht, htW, hW2⟩ := key hW
    exact (List.pairwise_cons.1 hap).1 W (by simp) z hzV ((hW2 z).2 ⟨hz, (h.2.2 z hz t ht).2 (ha z hz t ht)⟩)
end St

/-! ### the sets of a part -/

variable {g : Gph} {p : Prt}

/-- Behind k edges. -/
def togTo (g : Gph) (p : Prt) (k : Nat) : St := (p.e.take k).foldl (fun s e => s.join (getE g.e e.toNat).a (getE g.e e.toNat).b) (p.v.foldl St.add St.empty)
def tog (g : Gph) (p : Prt) : St := togTo g p p.e.length
theorem togTo_succ (g : Gph) (p : Prt) (k : Nat) (h : k < p.e.length) : togTo g p (k + 1) = (togTo g p k).join (getE g.e (getI p.e k).toNat).a (getE g.e (getI p.e k).toNat).b := by
  unfold togTo
  rw [take_succ_getI p.e k h, List.foldl_append]
  rfl

theorem wf_in (hp : perr g p = 0) {x : Int} (hx : x ∈ p.v) : (Lit.int .i64 x).wf = true := by
  have h1 := (perr_rises hp).2.1.mem hx
  have h2 := err_n (perr_rises hp).1
  exact WalkArith.wf_i64 (by omega)
theorem tog_tells (hp : perr g p = 0) : ∀ k, k ≤ p.e.length → St.Tells (togTo g p k) p.v (Nbr g ⟨p.v, p.e.take k⟩)
  | 0, _ => St.tells_news (fun _ hx => wf_in hp hx) (List.Pairwise.imp (fun {a b} (hab : a < b) => (by omega : a ≠ b)) (perr_rises hp).2.1.up) (fun x y ⟨e, he, _⟩ => by cases he)
  | k + 1, hk => by
    rw [togTo_succ g p k (by omega)]
    have hm : getI p.e k ∈ p.e := (mem_getI _ _).2 ⟨k, by omega, rfl⟩
    obtain ⟨ha, hb⟩ := (perr_rises hp).2.2.2 _ hm
    refine (tog_tells hp k (by omega)).join ha hb (wf_in hp ha) (wf_in hp hb) (fun x y => ?_)
    unfold Nbr Joins
    simp only [take_succ_getI p.e k (show k < p.e.length by omega), List.mem_append, List.mem_singleton]
    constructor
    · rintro ⟨e, he | rfl, hj⟩
      · exact .inl ⟨e, he, hj⟩
      · rcases hj with ⟨h1, h2⟩ | ⟨h1, h2⟩
        · exact .inr (.inl ⟨h1.symm, h2.symm⟩)
        · exact .inr (.inr ⟨h1.symm, h2.symm⟩)
    · rintro (⟨e, he, hj⟩ | ⟨rfl, rfl⟩ | ⟨rfl, rfl⟩)
      · exact ⟨e, .inl he, hj⟩
      · exact ⟨_, .inr rfl, .inl ⟨rfl, rfl⟩⟩
      · exact ⟨_, .inr rfl, .inr ⟨rfl, rfl⟩⟩
theorem tog_all (hp : perr g p = 0) : St.Tells (tog g p) p.v (Nbr g p) := by
  have := tog_tells hp p.e.length (Nat.le_refl _)
  rw [List.take_length] at this
  exact this

/-- A piece: what is in a group, and the edges between. -/
def pieceOf (g : Gph) (p : Prt) (V : List Int) : Prt := ⟨V, p.e.filter fun e => decide ((getE g.e e.toNat).a ∈ V)⟩
def pcs (g : Gph) (p : Prt) : List Prt := (tog g p).groups.map (pieceOf g p)
/-- Has a part one piece at most? -/
def joinedB (g : Gph) (p : Prt) : Bool := decide (perr g p = 0) && decide (heads (tog g p).gr ≤ 1)

theorem pcs_len (hp : perr g p = 0) : (pcs g p).length = heads (tog g p).gr := by
  unfold pcs
  rw [List.length_map]
  exact (tog_all hp).heads
theorem piece_group (hp : perr g p = 0) {V : List Int} (hV : V ∈ (tog g p).groups) : Up V ∧ ∃ z ∈ V, ∀ t, t ∈ V ↔ t ∈ p.v ∧ Reach (Nbr g p) z t :=
  (tog_all hp).group (perr_rises hp).2.1.up hV
theorem group_closed (hp : perr g p = 0) {V : List Int} (hV : V ∈ (tog g p).groups) {x y : Int} (hx : x ∈ V) (hr : Nbr g p x y) : y ∈ V := by
  obtain ⟨_, z, _, hz⟩ := piece_group hp hV
  exact (hz y).2 ⟨(hr.ins hp).2, ((hz x).1 hx).2.step hr⟩
theorem piece_ok (hp : perr g p = 0) {V : List Int} (hV : V ∈ (tog g p).groups) : perr g (pieceOf g p V) = 0 := by
  obtain ⟨hu, z, _, hz⟩ := piece_group hp hV
  have hpu := perr_up hp
  refine ok_sub hp ⟨hu, List.Pairwise.filter _ hpu.2⟩ ⟨fun x hx => ((hz x).1 hx).1, fun x hx => (List.mem_filter.1 hx).1⟩ (fun e he => ?_)
  obtain ⟨h1, h2⟩ := List.mem_filter.1 he
  have ha := of_decide_eq_true h2
  exact ⟨ha, group_closed hp hV ha ⟨e, h1, .inl ⟨rfl, rfl⟩⟩⟩
theorem piece_joined (hp : perr g p = 0) {V : List Int} (hV : V ∈ (tog g p).groups) : joinedB g (pieceOf g p V) = true := by
  have hq := piece_ok hp hV
  obtain ⟨hu, z, hzV, hz⟩ := piece_group hp hV
  unfold joinedB
  rw [decide_eq_true hq, Bool.true_and, decide_eq_true_iff, ← (tog_all hq).heads]
  have hin : ∀ {n : Nat} {t : Int}, Near (Nbr g p) z n t → t ∈ V ∧ Reach (Nbr g (pieceOf g p V)) z t := fun {n t} hn =>
    Near.ins (P := fun t => t ∈ V ∧ Reach (Nbr g (pieceOf g p V)) z t) (fun x y hx hr => by
      have hy := group_closed hp hV hx.1 hr
      refine ⟨hy, hx.2.step ?_⟩
      obtain ⟨e, he, hj⟩ := hr
      refine ⟨e, List.mem_filter.2 ⟨he, decide_eq_true ?_⟩, hj⟩
      rcases hj with ⟨h1, _⟩ | ⟨_, h2⟩
      · rw [h1]; exact hx.1
      · rw [h2]; exact hy) ⟨hzV, Reach.refl _ _⟩ hn
  refine (tog_all hq).one (fun x hx t ht => ?_)
  obtain ⟨n, hn⟩ := ((hz x).1 hx).2
  obtain ⟨m, hm⟩ := ((hz t).1 ht).2
  exact ((hin hn).2.symm nbr_symm).trans (hin hm).2

/-- Lists without anything in common, of whose things all are in another one: as long as that, all together. -/
theorem parts_len {L : List (List Int)} {l : List Int} (h1 : ∀ V ∈ L, V.Nodup) (h2 : L.Pairwise fun V W => ∀ x ∈ V, x ∉ W) (h3 : ∀ x, x ∈ l ↔ ∃ V ∈ L, x ∈ V) (h4 : l.Nodup) : L.flatten.length = l.length := by
  have hn : L.flatten.Nodup := by
    unfold List.Nodup
    rw [List.pairwise_flatten]
    refine ⟨h1, List.Pairwise.imp (S := fun V W : List Int => ∀ x ∈ V, ∀ y ∈ W, x ≠ y) (fun {V W} h x hx y hy e => h x hx (by rw [e]; exact hy)) h2⟩
  refine Nat.le_antisymm (once_len hn (fun x hx => ?_)) (once_len h4 (fun x hx => ?_))
  · exact (h3 x).2 (by simpa [List.mem_flatten] using hx)
  · simpa [List.mem_flatten] using (h3 x).1 hx
theorem pcs_vs (hp : perr g p = 0) : ((pcs g p).map Prt.v).flatten.length = p.v.length := by
  have e : (pcs g p).map Prt.v = (tog g p).groups := by
    unfold pcs
    rw [List.map_map]
    exact List.map_id _
  rw [e]
  refine parts_len (fun V hV => ?_) (tog_all hp).apart (fun x => ⟨fun hx => (tog_all hp).covers hx, fun ⟨V, hV, hx⟩ => ?_⟩) ?_
  · exact List.Pairwise.imp (fun {a b} (hab : a < b) => (by omega : a ≠ b)) (piece_group hp hV).1
  · obtain ⟨_, z, _, hz⟩ := piece_group hp hV
    exact ((hz x).1 hx).1
  · exact List.Pairwise.imp (fun {a b} (hab : a < b) => (by omega : a ≠ b)) (perr_rises hp).2.1.up
theorem pcs_es (hp : perr g p = 0) : ((pcs g p).map Prt.e).flatten.length = p.e.length := by
  have hpn : p.e.Nodup := List.Pairwise.imp (fun {a b} (hab : a < b) => (by omega : a ≠ b)) (perr_rises hp).2.2.1.up
  refine parts_len (fun E hE => ?_) ?_ (fun x => ⟨fun hx => ?_, fun ⟨E, hE, hx⟩ => ?_⟩) hpn
  · obtain ⟨q, hq, rfl⟩ := List.mem_map.1 hE
    obtain ⟨V, hV, rfl⟩ := List.mem_map.1 hq
    exact List.Pairwise.filter _ hpn
  · unfold pcs
    rw [List.map_map, List.pairwise_map]
    refine List.Pairwise.imp (fun {V W} h x hx hx2 => ?_) (tog_all hp).apart
    exact h _ (of_decide_eq_true (List.mem_filter.1 hx).2) (of_decide_eq_true (List.mem_filter.1 hx2).2)
  · obtain ⟨V, hV, hxV⟩ := (tog_all hp).covers ((perr_rises hp).2.2.2 x hx).1
    exact ⟨_, List.mem_map.2 ⟨pieceOf g p V, List.mem_map.2 ⟨V, hV, rfl⟩, rfl⟩, List.mem_filter.2 ⟨hx, decide_eq_true hxV⟩⟩
  · obtain ⟨q, hq, rfl⟩ := List.mem_map.1 hE
    obtain ⟨V, hV, rfl⟩ := List.mem_map.1 hq
    exact (List.mem_filter.1 hx).1
end Go.Proofs.YtmbpmepoaonleaaGreat

/-! The program's together and Joined. -/
namespace Go.Proofs.YtmbpmepoaonleaaGreat
open Go.RowKit Go.Maps

variable {g : Gph} {p : Prt}

theorem tog_len (hp : perr g p = 0) {k : Nat} (hk : k ≤ p.e.length) : (togTo g p k).ts.length = p.v.length := by rw [(tog_tells hp k hk).1]

set_option maxRecDepth 100000 in
set_option maxHeartbeats 2000000 in
theorem together_any (v u : Value) (g : Gph) (p : Prt) (w : World) (h : Gr w v g) (h' : Pt w u p) (hp : perr g p = 0) (hp1 : p.v.length ≤ 100000) (hp2 : p.e.length ≤ 100000) :
    Calls Tryz.prog 76 #[v, u] w fun e w' => ∃ sb F, e = .returned (.pointer (some ⟨sb, 0, none⟩)) ∧ Holds w' F sb (tog g p) ∧ Below w.heap.size w w' ∧ ∀ k, F k → w.heap.size ≤ k := by
  obtain ⟨he, hr1, hr2, hends⟩ := perr_rises hp
  obtain ⟨ve, rfl, h1⟩ := h
  obtain ⟨vv, vp, rfl, h2, h3⟩ := h'
  obtain ⟨Ae, ce, rfl⟩ := h1.form
  obtain ⟨Av, cv, rfl⟩ := ints_form h2
  obtain ⟨Ap, cp, rfl⟩ := ints_form h3
  obtain ⟨b1, b2, hm⟩ := two_boxes w (.int .i64 g.n) (.slice Ae g.e.length ce) (.slice Av p.v.length cv) (.slice Ap p.e.length cp) 24 27
  have HB1 := Lib.hid b1
  have HB2 := Lib.hid b2
  have HM := Lib.hid hm
  have HE1 := Lib.hid h1
  have HE3 := Lib.hid h3
  have d0 := b2.c0
  have HN := Lib.hid (new_any _ _ p.v (h2.below hm) (fun x hx => wf_in hp hx) hp1)
  clear b1 b2 hm h1 h2 h3
  go_enter Tryz.func76, Tryz.ntmps76
  go_wp2_with fail
  generalize (w.alloc (.cells #[.int .i64 g.n, .slice Ae g.e.length ce] 24)).alloc (.cells #[.slice Av p.v.length cv, .slice Ap p.e.length cp] 27) = w0 at *
  refine HN.out.mono ?_
  rintro e w1 ⟨sb, F0, rfl, hH, hb, hF⟩
  have HB := Lib.hid hb
  have HH0 := Lib.hid (show Holds w1 F0 sb (togTo g p 0) from hH)
  have hF0 := Lib.hid hF
  have d1 := (HB2.out.below hb).c1
  clear hb hF hH HN d0
  go_wp2
  go_loopw [14] (fun i wr => ∃ (k : Nat) (F : Nat → Prop), k ≤ p.e.length ∧ i = .int .i64 k ∧ Hid (Holds wr F sb (togTo g p k)) ∧ Hid (∀ j, F j → w0.heap.size ≤ j) ∧ Hid (Below w0.heap.size w0 wr)) (fun i _ => p.e.length - (Go.RowKit.intOf i).toNat)
  case atStart => exact ⟨0, F0, Nat.zero_le _, rfl, HH0, hF0, HB⟩
  case round =>
    obtain ⟨k, F, hk, rfl, hH, hF, hB⟩ := hrel
    obtain ⟨wq, hwq⟩ : ∃ z, z = wr := ⟨_, rfl⟩
    subst hwq
    have HHq := Lib.hid hH.out
    have HFq := Lib.hid hF.out
    have HBq := Lib.hid hB.out
    clear hH hF hB
    by_cases hlt : k < p.e.length
    · obtain ⟨pb, po, rfl, hpb, hpc⟩ := ints_at HE3.out hlt
      have hrk := hr2 k hlt
      have hmem : getI p.e k ∈ p.e := (mem_getI _ _).2 ⟨k, hlt, rfl⟩
      obtain ⟨en, hen⟩ : ∃ en : Nat, getI p.e k = en := ⟨(getI p.e k).toNat, by omega⟩
      have hel : en < g.e.length := by omega
      obtain ⟨eb, eo, rfl, heb, he1, he2⟩ := edges_at HE1.out hel
      have hbw := HM.out.trans (HBq.out.mono HM.out.size)
      have hck := (hbw.cell (p := ⟨pb, po + k, none⟩) hpb).trans hpc
      have g1 := (hbw.cell (p := ⟨eb, eo + en * 2, none⟩) heb).trans he1
      have g2 := (hbw.cell (p := ⟨eb, eo + en * 2 + 1, none⟩) heb).trans he2
      have c1 := (HB1.out.below HBq.out).c1
      obtain ⟨ha, hb⟩ := hends _ hmem
      have HS := Lib.hid (togTo_succ g p k hlt)
      rw [hen] at HS hck ha hb
      rw [Int.toNat_natCast] at ha hb
      have HJ := Lib.hid (join_any wq.drew F sb _ (getE g.e en).a (getE g.e en).b (HHq.out.below (below_drewN' wq 1)) (wf_in hp ha) (wf_in hp hb) (by rw [tog_len hp (by omega)]; omega))
      have HS2 := Lib.hid (show togTo g p (k + 1) = (togTo g p k).join (getE g.e en).a (getE g.e en).b by rw [HS.out, Int.toNat_natCast])
      have hn0 : (0 : Int) ≤ (en : Int) := by omega
      have hn1 : (en : Int) < (g.e.length : Int) := by omega
      generalize (getE g.e en).a = xa at *
      generalize (getE g.e en).b = xb at *
      clear hbw hpc he1 he2 hrk hmem hen HS ha hb
      go_wp2_with fail
      go_still_tail 13, (by kernel_rfl)
      change wpList _ _ _ _ _ wq.drew
      have HBd := Lib.hid (HBq.out.trans ((below_drewN' wq 1).mono HBq.out.size))
      clear hck g1 g2 c1
      go_wp2_with fail
      refine HJ.out.mono ?_
      rintro e w6 ⟨rfl, F6, hH6, hO6, hF6⟩
      have hz : w0.heap.size ≤ wq.heap.size := HBq.out.size
      have HH6 := Lib.hid (show Holds w6 F6 sb (togTo g p (k + 1)) by rw [HS2.out]; exact hH6)
      have HB6 := Lib.hid (show Below w0.heap.size w0 w6 from HBd.out.trans (hO6.below hz HFq.out))
      have HF6 := Lib.hid (show ∀ j, F6 j → w0.heap.size ≤ j from fun j hj => (hF6 j hj).elim (HFq.out j) (fun h => Nat.le_trans hz h))
      clear hH6 hO6 hF6 HJ hz
      go_wp2
      go_roundw
      case rel => exact ⟨k + 1, F6, by omega, by go_num, HH6, HF6, HB6⟩
      case measure => simp [Go.RowKit.intOf]; omega
    · obtain rfl : k = p.e.length := by omega
      go_wp2
      go_ret
      exact ⟨sb, F, rfl, HHq.out, HM.out.trans (HBq.out.mono HM.out.size), fun j hj => Nat.le_trans HM.out.size (HFq.out j hj)⟩

end Go.Proofs.YtmbpmepoaonleaaGreat
