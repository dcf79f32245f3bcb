/-
  What is beyond the darts of a vertex, all together: plain mathematics.
-/
import Derived.Test.YtjnohnbppkhbaaaWkQ
import Derived.Test.YtjnohnbppkhbaaaWkE
import Derived.Test.YtjnohnbppkhbaaaGrY
namespace Go.Proofs.Ytjnohnbppkhbaaa
open Go.RowKit

variable {g : Gph} {p : Prt}

theorem darts_steps (g : Gph) (x : Int) : ∀ l, dartsL g x l = (stepL g x l).map Ed.a
  | [] => rfl
  | e :: l => by
    have h1 := darts_steps g x l
    simp only [dartsL, stepL, List.flatMap_cons, List.map_append] at h1 ⊢
    rw [h1]
    refine congrArg (· ++ _) ?_
    unfold dOf sOf
    split <;> split <;> rfl
/-- A step's dart. -/
theorem dart_of_step (hp : perr g p = 0) {x : Int} {s : Ed} (h : s ∈ stepL g x p.e) : (0 ≤ s.a ∧ s.a < 2 * (g.e.length : Int)) ∧ s.a.tdiv 2 ∈ p.e ∧ tailOf g s.a.toNat = x ∧ headOf g s.a.toNat = s.b := by
  obtain ⟨e, he, hc⟩ := (mem_stepL _ _ _ _).1 h
  have hr := (perr_rises hp).2.2.1.mem he
  obtain ⟨n, rfl⟩ : ∃ n : Nat, e = n := ⟨e.toNat, by omega⟩
  rw [Int.toNat_natCast] at hc
  rcases hc with ⟨h1, rfl⟩ | ⟨h1, rfl⟩
  · have e1 : (2 * (n : Int)).toNat = 2 * n := by omega
    refine ⟨⟨by simp only; omega, by simp only; omega⟩, ?_, ?_, ?_⟩
    · simp only
      rw [Int.tdiv_eq_ediv_of_nonneg (by omega), show (2 * (n : Int)) / 2 = n by omega]
      exact he
    · simp only [e1]
      unfold tailOf
      rw [if_pos (by omega), show 2 * n / 2 = n by omega]
      exact h1
    · simp only [e1]
      unfold headOf
      rw [twin_even (by omega)]
      unfold tailOf
      rw [if_neg (by omega), show (2 * n + 1) / 2 = n by omega]
  · have e1 : (2 * (n : Int) + 1).toNat = 2 * n + 1 := by omega
    refine ⟨⟨by simp only; omega, by simp only; omega⟩, ?_, ?_, ?_⟩
    · simp only
      rw [Int.tdiv_eq_ediv_of_nonneg (by omega), show (2 * (n : Int) + 1) / 2 = n by omega]
      exact he
    · simp only [e1]
      unfold tailOf
      rw [if_neg (by omega), show (2 * n + 1) / 2 = n by omega]
      exact h1
    · simp only [e1]
      unfold headOf
      rw [twin_odd (by omega), show 2 * n + 1 - 1 = 2 * n by omega]
      unfold tailOf
      rw [if_pos (by omega), show 2 * n / 2 = n by omega]
theorem dart_ok (hp : perr g p = 0) {v d : Int} (h : d ∈ dartsL g v p.e) : BeyOk g p v d ∧ Nbr g p v (headOf g d.toNat) := by
  rw [darts_steps] at h
  obtain ⟨s, hs, rfl⟩ := List.mem_map.1 h
  obtain ⟨h1, h2, h3, h4⟩ := dart_of_step hp hs
  exact ⟨⟨hp, h1, h3, h2⟩, by rw [h4]; exact step_in hs⟩

/-- All that is beyond some darts of v, and v. -/
noncomputable def allOf (g : Gph) (p : Prt) (v : Int) (ds : List Int) : Prt := ds.foldl (fun q d => ⟨mrg 1 q.v (beyV g p v d), mrg 1 q.e (beyE g p v d)⟩) ⟨[v], []⟩
theorem allOf_succ (g : Gph) (p : Prt) (v : Int) (ds : List Int) (k : Nat) (h : k < ds.length) : allOf g p v (ds.take (k + 1)) = ⟨mrg 1 (allOf g p v (ds.take k)).v (beyV g p v (getI ds k)), mrg 1 (allOf g p v (ds.take k)).e (beyE g p v (getI ds k))⟩ := by
  unfold allOf
  rw [take_succ_getI ds k h, List.foldl_append]
  rfl
theorem allOf_mem (hp : perr g p = 0) (v : Int) : ∀ (ds : List Int) (q : Prt), Up q.v → Up q.e →
    (let r := ds.foldl (fun q d => (⟨mrg 1 q.v (beyV g p v d), mrg 1 q.e (beyE g p v d)⟩ : Prt)) q
     Up r.v ∧ Up r.e ∧ (∀ x, x ∈ r.v ↔ x ∈ q.v ∨ ∃ d ∈ ds, x ∈ beyV g p v d) ∧ (∀ x, x ∈ r.e ↔ x ∈ q.e ∨ ∃ d ∈ ds, x ∈ beyE g p v d))
  | [], q, h1, h2 => ⟨h1, h2, fun x => by simp, fun x => by simp⟩
  | d :: ds, q, h1, h2 => by
    have hv : Up (beyV g p v d) := List.Pairwise.filter _ (perr_rises hp).2.1.up
    have he : Up (beyE g p v d) := List.Pairwise.filter _ (perr_rises hp).2.2.1.up
    obtain ⟨k1, k2, k3, k4⟩ := allOf_mem hp v ds ⟨mrg 1 q.v (beyV g p v d), mrg 1 q.e (beyE g p v d)⟩ (up_or _ _ h1 hv) (up_or _ _ h2 he)
    refine ⟨k1, k2, fun x => ?_, fun x => ?_⟩
    · rw [List.foldl_cons, k3, mem_or]
      simp only [List.mem_cons, exists_eq_or_imp, or_assoc]
    · rw [List.foldl_cons, k4, mem_or]
      simp only [List.mem_cons, exists_eq_or_imp, or_assoc]

open Classical in
theorem mem_beyV {v d x : Int} : x ∈ beyV g p v d ↔ x ∈ p.v ∧ (x = v ∨ (Reach (StepBut g p v) (headOf g d.toNat) x ∧ x ≠ v)) := by
  unfold beyV beyB
  rw [List.mem_filter, Bool.or_eq_true, decide_eq_true_iff, decide_eq_true_iff]
open Classical in
theorem mem_beyE {v d e : Int} : e ∈ beyE g p v d ↔ e ∈ p.e ∧ (e = d.tdiv 2 ∨ (Reach (StepBut g p v) (headOf g d.toNat) (getE g.e e.toNat).a ∧ (getE g.e e.toNat).a ≠ v) ∨ (Reach (StepBut g p v) (headOf g d.toNat) (getE g.e e.toNat).b ∧ (getE g.e e.toNat).b ≠ v)) := by
  unfold beyE beyB
  rw [List.mem_filter, Bool.or_eq_true, Bool.or_eq_true, decide_eq_true_iff, decide_eq_true_iff, decide_eq_true_iff]

theorem bey_reach (hp : perr g p = 0) {v d x : Int} (hd : d ∈ dartsL g v p.e) (h : Reach (StepBut g p v) (headOf g d.toNat) x) : Reach (Nbr g p) v x :=
  ((Reach.refl _ v).step (dart_ok hp hd).2).trans (h.sub fun _ _ hr => hr.2)
theorem reach_bey (hp : perr g p = 0) {v x : Int} (h : Reach (Nbr g p) v x) : x = v ∨ ∃ d ∈ dartsL g v p.e, Reach (StepBut g p v) (headOf g d.toNat) x := by
  obtain ⟨n, hn⟩ := h
  refine Near.ins (P := fun x => x = v ∨ ∃ d ∈ dartsL g v p.e, Reach (StepBut g p v) (headOf g d.toNat) x) (fun y z hy hr => ?_) (.inl rfl) hn
  by_cases e : y = v
  · subst e
    obtain ⟨s, hs, rfl⟩ := nbr_step hr
    obtain ⟨h1, h2, h3, h4⟩ := dart_of_step hp hs
    refine .inr ⟨s.a, by rw [darts_steps]; exact List.mem_map.2 ⟨s, hs, rfl⟩, ?_⟩
    rw [h4]
    exact Reach.refl _ _
  · rcases hy with hy | ⟨d, hd, hy⟩
    · exact absurd hy e
    · exact .inr ⟨d, hd, hy.step ⟨e, hr⟩⟩

/-- Together they are the piece. -/
theorem all_piece (hp : perr g p = 0) {v : Int} (hv : v ∈ p.v) {ps : List Prt} (F : PFacts g p ps) {j : Nat} (hj : j < ps.length) (hvj : v ∈ (getP ps j).v) : allOf g p v (dartsL g v p.e) = getP ps j := by
  obtain ⟨k1, k2, k3, k4⟩ := allOf_mem hp v (dartsL g v p.e) ⟨[v], []⟩ (List.pairwise_singleton _ _) List.Pairwise.nil
  have hreach := F.reach j hj v hvj
  have e1 : (allOf g p v (dartsL g v p.e)).v = (getP ps j).v := up_ext _ _ k1 (F.up j hj).1 (fun x => by
    refine (k3 x).trans ?_
    rw [hreach]
    constructor
    · rintro (h | ⟨d, hd, h⟩)
      · rw [List.mem_singleton] at h
        subst h
        exact ⟨hv, Reach.refl _ _⟩
      · obtain ⟨hx, rfl | ⟨h2, _⟩⟩ := mem_beyV.1 h
        · exact ⟨hx, Reach.refl _ _⟩
        · exact ⟨hx, bey_reach hp hd h2⟩
    · rintro ⟨hx, hr⟩
      by_cases e : x = v
      · exact .inl (by rw [e]; simp)
      · rcases reach_bey hp hr with h | ⟨d, hd, h⟩
        · exact absurd h e
        · exact .inr ⟨d, hd, mem_beyV.2 ⟨hx, .inr ⟨h, e⟩⟩⟩)
  have e2 : (allOf g p v (dartsL g v p.e)).e = (getP ps j).e := up_ext _ _ k2 (F.up j hj).2 (fun x => by
    refine (k4 x).trans ?_
    rw [F.edges j hj, hreach]
    constructor
    · rintro (h | ⟨d, hd, h⟩)
      · cases h
      · obtain ⟨hx, hc⟩ := mem_beyE.1 h
        have hab := (perr_rises hp).2.2.2 x hx
        refine ⟨hx, hab.1, ?_⟩
        rcases hc with rfl | ⟨h2, _⟩ | ⟨h2, _⟩
        · obtain ⟨⟨_, h3, h4, _⟩, h5⟩ := dart_ok hp hd
          obtain ⟨dn, rfl⟩ : ∃ dn : Nat, d = dn := ⟨d.toNat, by omega⟩
          rw [Int.toNat_natCast] at h4 h5
          have e3 : ((dn : Int).tdiv 2).toNat = dn / 2 := by rw [Int.tdiv_eq_ediv_of_nonneg (by omega)]; omega
          rw [e3]
          by_cases hev : dn % 2 = 0
          · have : tailOf g dn = (getE g.e (dn / 2)).a := by unfold tailOf; rw [if_pos hev]
            rw [← this, h4]
            exact Reach.refl _ _
          · have : headOf g dn = (getE g.e (dn / 2)).a := by
              unfold headOf
              rw [twin_odd hev]
              unfold tailOf
              rw [if_pos (by omega), show (dn - 1) / 2 = dn / 2 by omega]
            rw [← this]
            exact (Reach.refl _ _).step h5
        · exact bey_reach hp hd h2
        · exact (bey_reach hp hd h2).step ⟨x, hx, .inr ⟨rfl, rfl⟩⟩
    · rintro ⟨hx, _, hr⟩
      refine .inr ?_
      by_cases e : (getE g.e x.toNat).a = v
      · have hxr := (perr_rises hp).2.2.1.mem hx
        refine ⟨2 * x, ?_, mem_beyE.2 ⟨hx, .inl ?_⟩⟩
        · rw [darts_steps]
          exact List.mem_map.2 ⟨⟨2 * x, (getE g.e x.toNat).b⟩, (mem_stepL _ _ _ _).2 ⟨x, hx, .inl ⟨e, rfl⟩⟩, rfl⟩
        · rw [Int.tdiv_eq_ediv_of_nonneg (by omega)]
          omega
      · rcases reach_bey hp hr with h | ⟨d, hd, h⟩
        · exact absurd h e
        · exact ⟨d, hd, mem_beyE.2 ⟨hx, .inr (.inl ⟨h, e⟩)⟩⟩)
  cases hq : getP ps j
  rw [hq] at e1 e2
  cases ha : allOf g p v (dartsL g v p.e)
  rw [ha] at e1 e2
  simp only at e1 e2
  rw [e1, e2]
/-- All the while no more than the part. -/
theorem allOf_few (hp : perr g p = 0) {v : Int} (hv : v ∈ p.v) (ds : List Int) : (allOf g p v ds).v.length ≤ p.v.length ∧ (allOf g p v ds).e.length ≤ p.e.length := by
  obtain ⟨k1, k2, k3, k4⟩ := allOf_mem hp v ds ⟨[v], []⟩ (List.pairwise_singleton _ _) List.Pairwise.nil
  refine ⟨once_len (List.Pairwise.imp (fun {a b} (hab : a < b) => (by omega : a ≠ b)) k1) (fun x hx => ?_), once_len (List.Pairwise.imp (fun {a b} (hab : a < b) => (by omega : a ≠ b)) k2) (fun x hx => ?_)⟩
  · rcases (k3 x).1 hx with h | ⟨d, _, h⟩
    · rw [List.mem_singleton] at h
      rw [h]; exact hv
    · exact (mem_beyV.1 h).1
  · rcases (k4 x).1 hx with h | ⟨d, _, h⟩
    · cases h
    · exact (mem_beyE.1 h).1
theorem bey_few (g : Gph) (p : Prt) (v d : Int) : (beyV g p v d).length ≤ p.v.length ∧ (beyE g p v d).length ≤ p.e.length := ⟨List.length_filter_le _ _, List.length_filter_le _ _⟩
end Go.Proofs.Ytjnohnbppkhbaaa
