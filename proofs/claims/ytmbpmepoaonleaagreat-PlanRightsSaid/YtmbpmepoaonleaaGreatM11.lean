/-
  WkM, FcP, FcV, in one text.
-/
import Derived.Test.YtmbpmepoaonleaaGreatM07
import Derived.Test.YtmbpmepoaonleaaGreatM08
import Derived.Test.YtmbpmepoaonleaaGreatM10
/-! Ways through a part of a graph: what is near a vertex, how far things are (plain mathematics), and the document's rings. -/
namespace Go.Proofs.YtmbpmepoaonleaaGreat

/-- An edge leads from x to y. -/
def Joins (g : Gph) (e x y : Int) : Prop := ((getE g.e e.toNat).a = x ∧ (getE g.e e.toNat).b = y) ∨ ((getE g.e e.toNat).b = x ∧ (getE g.e e.toNat).a = y)
/-- An edge of the part leads from x to y. -/
def Nbr (g : Gph) (p : Prt) (x y : Int) : Prop := ∃ e ∈ p.e, Joins g e x y
variable {g : Gph} {p : Prt} {a b x y : Int} {n m k : Nat}

theorem Joins.symm {e : Int} (h : Joins g e x y) : Joins g e y x := by
  rcases h with ⟨h1, h2⟩ | ⟨h1, h2⟩
  · exact .inr ⟨h2, h1⟩
  · exact .inl ⟨h2, h1⟩
theorem Nbr.symm (h : Nbr g p x y) : Nbr g p y x := let ⟨e, he, hj⟩ := h; ⟨e, he, hj.symm⟩
theorem Nbr.ins (h : perr g p = 0) (hn : Nbr g p x y) : x ∈ p.v ∧ y ∈ p.v := by
  obtain ⟨e, he, hj⟩ := hn
  have h3 := (perr_rises h).2.2.2 e he
  rcases hj with ⟨h1, h2⟩ | ⟨h1, h2⟩
  · exact ⟨h1 ▸ h3.1, h2 ▸ h3.2⟩
  · exact ⟨h1 ▸ h3.2, h2 ▸ h3.1⟩

theorem nbr_symm (x y : Int) (h : Nbr g p x y) : Nbr g p y x := h.symm
/-- Nothing more is met in one step. -/
def Still (g : Gph) (p : Prt) (a : Int) (n : Nat) : Prop := ∀ y, Near (Nbr g p) a (n + 1) y → Near (Nbr g p) a n y
theorem Still.all (h : Still g p a n) : ∀ {m : Nat} {y : Int}, Near (Nbr g p) a m y → Near (Nbr g p) a n y
  | 0, y, h1 => Near.mono (Nat.zero_le n) (show Near (Nbr g p) a 0 y from h1)
  | _ + 1, _, h1 => by
    rcases h1 with h1 | ⟨x, h1, h2⟩
    · exact Still.all h h1
    · exact h _ (.inr ⟨x, Still.all h h1, h2⟩)
end Go.Proofs.YtmbpmepoaonleaaGreat

/-! Walks around faces, and a piece's genus: vertices, walks and edges (plain mathematics). -/
namespace Go.Proofs.YtmbpmepoaonleaaGreat.Fc
open Go.Proofs.YtmbpmepoaonleaaGreat

variable {g : Gph} {p q : Prt} {T U : List (List Int)} {x y z v d e : Int}

theorem up_nodup {l : List Int} (h : Up l) : l.Nodup := List.Pairwise.imp (fun {a b} (hab : a < b) => (by omega : a ≠ b)) h
theorem es_nodup (h : perr g p = 0) : p.e.Nodup := up_nodup (perr_rises h).2.2.1.up
theorem mem_dart (h : perr g p = 0) : d ∈ prs p.e ↔ Rt.Dart p d := Rt.mem_allD h d

theorem nxt_perm (h : Rt.Turns g p T) : Perm (prs p.e) (Rt.nxt g T) where
  nodup := prs_nodup (es_nodup h.right)
  into := fun x hx => (mem_dart h.right).2 (h.nxt ((mem_dart h.right).1 hx)).1
  inj := fun x hx y hy e => by
    rw [← (h.nxt ((mem_dart h.right).1 hx)).2, ← (h.nxt ((mem_dart h.right).1 hy)).2, e]
theorem bef_perm (h : Rt.Turns g p T) : Perm (prs p.e) (Rt.befT g T) where
  nodup := prs_nodup (es_nodup h.right)
  into := fun x hx => (mem_dart h.right).2 (h.bef ((mem_dart h.right).1 hx)).1
  inj := fun x hx y hy e => by
    rw [← (h.bef ((mem_dart h.right).1 hx)).2.2, ← (h.bef ((mem_dart h.right).1 hy)).2.2, e]

/-- A piece of the part: all that its vertices lead to. -/
structure Pce (g : Gph) (p q : Prt) : Prop where
  some : 0 < q.v.length
  vup : Up q.v
  eup : Up q.e
  reach : ∀ z ∈ q.v, ∀ t, t ∈ q.v ↔ t ∈ p.v ∧ Reach (Nbr g p) z t
  edges : ∀ e, e ∈ q.e ↔ e ∈ p.e ∧ (getE g.e e.toNat).a ∈ q.v

theorem tl_even (g : Gph) (he : 0 ≤ e) : Rt.tl g (2 * e) = (getE g.e e.toNat).a.toNat := by
  unfold Rt.tl tailOf
  rw [if_pos (by omega), show (2 * e).toNat / 2 = e.toNat by omega]
theorem tl_odd (g : Gph) (he : 0 ≤ e) : Rt.tl g (2 * e + 1) = (getE g.e e.toNat).b.toNat := by
  unfold Rt.tl tailOf
  rw [if_neg (by omega), show (2 * e + 1).toNat / 2 = e.toNat by omega]
/-- A dart leads from where it leaves to where its twin does. -/
theorem dart_nbr (h : perr g p = 0) (hd : Rt.Dart p d) : Nbr g p (Rt.tl g d : Int) (Rt.tl g (Rt.twi d) : Int) := by
  obtain ⟨i1, i2, i3, i4⟩ := Rt.ints g p h hd.2
  refine ⟨d / 2, hd.2, ?_⟩
  rcases (show d = 2 * (d / 2) ∨ d = 2 * (d / 2) + 1 by omega) with e | e
  · have e2 : Rt.twi d = 2 * (d / 2) + 1 := by unfold Rt.twi; rw [if_pos (by omega)]; omega
    rw [e2, tl_odd g i1]
    refine .inl ⟨?_, by omega⟩
    rw [show Rt.tl g d = Rt.tl g (2 * (d / 2)) by rw [← e], tl_even g i1]
    omega
  · have e2 : Rt.twi d = 2 * (d / 2) := by unfold Rt.twi; rw [if_neg (by omega)]; omega
    rw [e2, tl_even g i1]
    refine .inr ⟨?_, by omega⟩
    rw [show Rt.tl g d = Rt.tl g (2 * (d / 2) + 1) by rw [← e], tl_odd g i1]
    omega
/-- .. and where an edge leads, a dart does. -/
theorem nbr_dart (h : perr g p = 0) (hn : Nbr g p x y) : ∃ d, Rt.Dart p d ∧ (Rt.tl g d : Int) = x ∧ (Rt.tl g (Rt.twi d) : Int) = y := by
  obtain ⟨e, he, hj⟩ := hn
  obtain ⟨i1, i2, i3, i4⟩ := Rt.ints g p h he
  have t1 : Rt.twi (2 * e) = 2 * e + 1 := by unfold Rt.twi; rw [if_pos (by omega)]
  have t2 : Rt.twi (2 * e + 1) = 2 * e := by unfold Rt.twi; rw [if_neg (by omega)]; omega
  rcases hj with ⟨h1, h2⟩ | ⟨h1, h2⟩
  · refine ⟨2 * e, ⟨by omega, by rw [show 2 * e / 2 = e by omega]; exact he⟩, ?_, ?_⟩
    · rw [tl_even g i1]; omega
    · rw [t1, tl_odd g i1]; omega
  · refine ⟨2 * e + 1, ⟨by omega, by rw [show (2 * e + 1) / 2 = e by omega]; exact he⟩, ?_, ?_⟩
    · rw [tl_odd g i1]; omega
    · rw [t2, tl_even g i1]; omega

theorem Pce.step (hq : Pce g p q) (h : perr g p = 0) (hx : x ∈ q.v) (hn : Nbr g p x y) : y ∈ q.v :=
  (hq.reach x hx y).2 ⟨(hn.ins h).2, (Reach.refl _ x).step hn⟩
/-- A piece's darts are those that leave its vertices. -/
theorem Pce.dart (hq : Pce g p q) (h : perr g p = 0) : d ∈ prs q.e ↔ d ∈ prs p.e ∧ (Rt.tl g d : Int) ∈ q.v := by
  rw [mem_prs, hq.edges, mem_prs]
  constructor
  · rintro ⟨h1, h2⟩
    refine ⟨h1, ?_⟩
    obtain ⟨i1, i2, i3, i4⟩ := Rt.ints g p h h1
    have hd : Rt.Dart p d := ⟨by omega, h1⟩
    rcases (show d = 2 * (d / 2) ∨ d = 2 * (d / 2) + 1 by omega) with e | e
    · rw [show Rt.tl g d = Rt.tl g (2 * (d / 2)) by rw [← e], tl_even g i1, show ((getE g.e (d / 2).toNat).a.toNat : Int) = (getE g.e (d / 2).toNat).a by omega]
      exact h2
    · refine hq.step h h2 ⟨d / 2, h1, .inl ⟨rfl, ?_⟩⟩
      rw [show Rt.tl g d = Rt.tl g (2 * (d / 2) + 1) by rw [← e], tl_odd g i1]
      omega
  · rintro ⟨h1, h2⟩
    refine ⟨h1, ?_⟩
    obtain ⟨i1, i2, i3, i4⟩ := Rt.ints g p h h1
    rcases (show d = 2 * (d / 2) ∨ d = 2 * (d / 2) + 1 by omega) with e | e
    · rw [show Rt.tl g d = Rt.tl g (2 * (d / 2)) by rw [← e], tl_even g i1, show ((getE g.e (d / 2).toNat).a.toNat : Int) = (getE g.e (d / 2).toNat).a by omega] at h2
      exact h2
    · refine hq.step h h2 ⟨d / 2, h1, .inr ⟨?_, rfl⟩⟩
      rw [show Rt.tl g d = Rt.tl g (2 * (d / 2) + 1) by rw [← e], tl_odd g i1]
      omega
theorem Pce.sub (hq : Pce g p q) (h : perr g p = 0) : ∀ d ∈ prs q.e, d ∈ prs p.e := fun _ hd => ((hq.dart h).1 hd).1
theorem prs_twi (hd : d ∈ prs q.e) : Rt.twi d ∈ prs q.e := by
  rw [mem_prs] at hd ⊢
  rw [Rt.twi_half]
  exact hd
theorem Pce.bef (hq : Pce g p q) (hT : Rt.Turns g p T) : Perm (prs q.e) (Rt.befT g T) :=
  (bef_perm hT).part (prs_nodup (up_nodup hq.eup)) (hq.sub hT.right) (fun d hd => by
    have h1 := (hq.dart hT.right).1 hd
    have h2 := hT.bef ((mem_dart hT.right).1 h1.1)
    refine (hq.dart hT.right).2 ⟨(mem_dart hT.right).2 h2.1, ?_⟩
    rw [h2.2.1]
    exact h1.2)
theorem Pce.nxt (hq : Pce g p q) (hT : Rt.Turns g p T) : Perm (prs q.e) (Rt.nxt g T) :=
  (nxt_perm hT).part (prs_nodup (up_nodup hq.eup)) (hq.sub hT.right) (fun _ hd => (hq.bef hT).into _ (prs_twi hd))

/-- Which darts leave a vertex of the piece. -/
def atB (g : Gph) (q : Prt) (d : Int) : Bool := decide ((Rt.tl g d : Int) ∈ q.v)
theorem Pce.faces (hq : Pce g p q) (hT : Rt.Turns g p T) : (faces (prs p.e) (Rt.nxt g T)).countP (atB g q) = cls (prs q.e) (rel (prs q.e) (Rt.nxt g T)) :=
  (nxt_perm hT).part_faces (hq.nxt hT) (atB g q) (fun _ => by unfold atB; rw [decide_eq_true_iff]; exact hq.dart hT.right)

/-! ### All of a piece hangs together -/

theorem ring_conn (hT : Rt.Turns g p T) (hq : Pce g p q) {v : Nat} (hv : (v : Int) ∈ q.v) (hx : x ∈ Rt.getT T v) (hy : y ∈ Rt.getT T v) : Conn (rel (prs q.e) (Rt.befT g T)) x y := by
  have all : ∀ k, k < (Rt.getT T v).length → Conn (rel (prs q.e) (Rt.befT g T)) (getI (Rt.getT T v) k) (getI (Rt.getT T v) 0) := by
    intro k
    induction k with
    | zero => intro _; exact Conn.refl _ _
    | succ k ih =>
      intro hk
      refine Conn.trans (Conn.arc ⟨?_, fun q => q, ?_⟩) (ih (by omega))
      · have h1 := hT.dart (Rt.getI_in _ _ hk)
        exact (hq.dart hT.right).2 ⟨(mem_dart hT.right).2 h1.2.1, by rw [h1.2.2]; exact hv⟩
      · have h1 := hT.dart (Rt.getI_in _ _ hk)
        unfold Rt.befT
        rw [h1.2.2, Rt.bef_at (hT.once v) hk, show k + 1 + ((Rt.getT T v).length - 1) = k + (Rt.getT T v).length by omega, Nat.add_mod_right, Nat.mod_eq_of_lt (by omega)]
  obtain ⟨i, hi, rfl⟩ := (mem_getI _ _).1 hx
  obtain ⟨j, hj, rfl⟩ := (mem_getI _ _).1 hy
  exact (all i hi).trans (all j hj).symm

theorem piece_conn (hT : Rt.Turns g p T) (hq : Pce g p q) (hx : x ∈ prs q.e) (hy : y ∈ prs q.e) : Conn (both (rel (prs q.e) (Rt.befT g T)) q.e) x y := by
  have hr := hT.right
  obtain ⟨x1, x2⟩ := (hq.dart hr).1 hx
  obtain ⟨y1, y2⟩ := (hq.dart hr).1 hy
  have hreach := ((hq.reach _ x2 _).1 y2).2
  have ring : ∀ (v : Nat), (v : Int) ∈ q.v → ∀ a b, Rt.Dart p a → Rt.Dart p b → Rt.tl g a = v → Rt.tl g b = v → Conn (both (rel (prs q.e) (Rt.befT g T)) q.e) a b := by
    intro v hv a b ha hb ea eb
    refine (ring_conn hT hq hv (x := a) (y := b) ?_ ?_).sub fun u v h => Conn.arc (.inl h)
    · rw [← ea]; exact hT.mem ha
    · rw [← eb]; exact hT.mem hb
  have key := Reach.ins (R := Nbr g p) (P := fun t => t ∈ q.v ∧ ∀ d, Rt.Dart p d → (Rt.tl g d : Int) = t → Conn (both (rel (prs q.e) (Rt.befT g T)) q.e) x d) (fun u v hu huv => by
    obtain ⟨hu1, hu2⟩ := hu
    refine ⟨hq.step hr hu1 huv, fun d hd hdv => ?_⟩
    obtain ⟨c, hc, c1, c2⟩ := nbr_dart hr huv
    have s1 := hu2 c hc c1
    have hcq : c ∈ prs q.e := (hq.dart hr).2 ⟨(mem_dart hr).2 hc, by rw [c1]; exact hu1⟩
    have hce := mem_prs.1 hcq
    have s2 : Conn (both (rel (prs q.e) (Rt.befT g T)) q.e) c (Rt.twi c) := by
      rcases (show c = 2 * (c / 2) ∨ c = 2 * (c / 2) + 1 by omega) with e | e
      · exact Conn.arc (.inr ⟨c / 2, hce, e, by unfold Rt.twi; rw [if_pos (by omega)]; omega⟩)
      · exact (Conn.arc (.inr ⟨c / 2, hce, by unfold Rt.twi; rw [if_neg (by omega)]; omega, e⟩)).symm
    refine (s1.trans s2).trans (ring (Rt.tl g d) (by rw [hdv]; exact hq.step hr hu1 huv) _ _ hc.twi hd (by omega) rfl)) ⟨x2, fun d hd hdx => ring (Rt.tl g x) x2 _ _ ((mem_dart hr).1 x1) hd rfl (by omega)⟩ hreach
  exact key.2 y ((mem_dart hr).1 y1) rfl

/-! ### Its genus -/

/-- A vertex of no darts. -/
def loneB (T : List (List Int)) (v : Int) : Bool := decide (Rt.getT T v.toNat = [])
theorem lone_iff : loneB T v = true ↔ Rt.getT T v.toNat = [] := by unfold loneB; rw [decide_eq_true_iff]

theorem v_nn (h : perr g p = 0) (hv : v ∈ p.v) : 0 ≤ v ∧ v < g.n := (perr_rises h).2.1.mem hv

theorem seen_le (hT : Rt.Turns g p T) (hq : Pce g p q) : q.v.countP (fun v => !loneB T v) ≤ cls (prs q.e) (rel (prs q.e) (Rt.befT g T)) := by
  classical
  have hr := hT.right
  have hc : ∀ v, ∃ d, v ∈ q.v → Rt.getT T v.toNat ≠ [] → d ∈ Rt.getT T v.toNat ∧ ∀ y ∈ Rt.getT T v.toNat, d ≤ y := fun v => by
    match hl : Rt.getT T v.toNat with
    | [] => exact ⟨0, fun _ h => absurd rfl h⟩
    | a :: l =>
      obtain ⟨d, h1, _, h2⟩ := least_of (X := a :: l) (P := fun _ => True) (List.mem_cons_self ..) trivial
      exact ⟨d, fun _ _ => ⟨h1, fun y hy => h2 y hy trivial⟩⟩
  let ψ : Int → Int := fun v => Classical.choose (hc v)
  have hψ : ∀ v, v ∈ q.v → Rt.getT T v.toNat ≠ [] → ψ v ∈ Rt.getT T v.toNat ∧ ∀ y ∈ Rt.getT T v.toNat, ψ v ≤ y := fun v => Classical.choose_spec (hc v)
  have hmem : ∀ v ∈ q.v.filter (fun v => !loneB T v), v ∈ q.v ∧ Rt.getT T v.toNat ≠ [] := fun v hv => by
    obtain ⟨h1, h2⟩ := List.mem_filter.1 hv
    refine ⟨h1, fun e => ?_⟩
    rw [lone_iff.2 e] at h2
    exact absurd h2 (by decide)
  have htl : ∀ v ∈ q.v, Rt.getT T v.toNat ≠ [] → Rt.Dart p (ψ v) ∧ (Rt.tl g (ψ v) : Int) = v := fun v hv hne => by
    have h1 := hT.dart (hψ v hv hne).1
    have h2 := v_nn hr ((hq.reach v hv v).1 hv).1
    exact ⟨h1.2.1, by rw [h1.2.2]; omega⟩
  unfold cls
  rw [List.countP_eq_length_filter, List.countP_eq_length_filter]
  have hnd : ((q.v.filter (fun v => !loneB T v)).map ψ).Nodup := by
    rw [List.Nodup, List.pairwise_map]
    refine List.Pairwise.imp_of_mem ?_ ((up_nodup hq.vup).filter _)
    intro x y hx hy hne e
    have h1 := (htl x (hmem x hx).1 (hmem x hx).2).2
    have h2 := (htl y (hmem y hy).1 (hmem y hy).2).2
    have e' : ψ x = ψ y := e
    rw [e'] at h1
    exact hne (h1.symm.trans h2)
  have := once_len hnd (m := (prs q.e).filter (fun y => decide (Lst (prs q.e) (rel (prs q.e) (Rt.befT g T)) y))) (fun y hy => by
    obtain ⟨v, hv, rfl⟩ := List.mem_map.1 hy
    obtain ⟨h1, h2⟩ := hmem v hv
    obtain ⟨h3, h4⟩ := htl v h1 h2
    refine List.mem_filter.2 ⟨(hq.dart hr).2 ⟨(mem_dart hr).2 h3, by rw [h4]; exact h1⟩, decide_eq_true (fun y hy hc => ?_)⟩
    have h5 : Rt.Dart p y ∧ Rt.tl g y = Rt.tl g (ψ v) := by
      refine Conn.ins (P := fun y => Rt.Dart p y ∧ Rt.tl g y = Rt.tl g (ψ v)) (fun a b hab => ?_) hc ⟨h3, rfl⟩
      obtain ⟨ha, _, rfl⟩ := hab
      have k1 := (mem_dart hr).1 (hq.sub hr _ ha)
      have k2 := hT.bef k1
      rw [k2.2.1]
      exact ⟨fun ⟨_, k⟩ => ⟨k2.1, k⟩, fun ⟨_, k⟩ => ⟨k1, k⟩⟩
    refine (hψ v h1 h2).2 y ?_
    have h6 := hT.mem h5.1
    rw [h5.2, show Rt.tl g (ψ v) = v.toNat by omega] at h6
    exact h6)
  rwa [List.length_map] at this

/-- Vertices, walks without darts and walks come to two and the edges at most. -/
theorem genus_nn (hT : Rt.Turns g p T) (hq : Pce g p q) : q.v.length + q.v.countP (loneB T) + (faces (prs p.e) (Rt.nxt g T)).countP (atB g q) ≤ 2 + q.e.length := by
  have hr := hT.right
  rw [hq.faces hT]
  have hlen : q.v.length = q.v.countP (loneB T) + q.v.countP (fun v => !loneB T v) := by
    have := List.length_eq_countP_add_countP (loneB T) (l := q.v)
    rw [this]
    congr 2
    funext v
    cases loneB T v <;> rfl
  by_cases hl : ∃ v ∈ q.v, loneB T v = true
  · obtain ⟨v, hv, hlv⟩ := hl
    have hno : ∀ d, Rt.Dart p d → (Rt.tl g d : Int) ≠ v := fun d hd e => by
      have h1 := hT.mem hd
      rw [show Rt.tl g d = v.toNat by omega, lone_iff.1 hlv] at h1
      exact absurd h1 List.not_mem_nil
    have hall : ∀ t ∈ q.v, t = v := fun t ht => by
      have h1 := ((hq.reach v hv t).1 ht).2
      exact Reach.ins (R := Nbr g p) (P := fun t => t = v) (fun a b ha hab => by
        subst ha
        obtain ⟨d, hd, d1, _⟩ := nbr_dart hr hab
        exact absurd d1 (hno d hd)) rfl h1
    have hv1 : q.v.length ≤ 1 := once_len (up_nodup hq.vup) (m := [v]) (fun t ht => by rw [hall t ht]; exact List.mem_cons_self ..)
    have he : prs q.e = [] := by
      refine List.eq_nil_iff_forall_not_mem.2 fun d hd => ?_
      obtain ⟨h1, h2⟩ := (hq.dart hr).1 hd
      exact hno d ((mem_dart hr).1 h1) (hall _ h2)
    have hc : cls (prs q.e) (rel (prs q.e) (Rt.nxt g T)) = 0 := by rw [he]; rfl
    have := List.countP_le_length (p := loneB T) (l := q.v)
    omega
  · have h0 : q.v.countP (loneB T) = 0 := by
      rw [List.countP_eq_zero]
      exact fun v hv h => hl ⟨v, hv, h⟩
    have h1 := seen_le hT hq
    have h2 := euler (up_nodup hq.eup) (hq.bef hT)
    have h3 := cls_one (prs_nodup (up_nodup hq.eup)) (fun x hx y hy => piece_conn hT hq hx hy)
    have h4 : cls (prs q.e) (rel (prs q.e) (Rt.nxt g T)) = cls (prs q.e) (rel (prs q.e) fun x => Rt.befT g T (Rt.twi x)) := rfl
    omega

/-! ### Turned about -/

theorem turned_nxt (hT : Rt.Turns g p T) (hd : Rt.Dart p d) : Rt.nxt g T (Rt.twi (Rt.nxt g (Rt.mir T) d)) = Rt.twi d := by
  rw [hT.nxt_mir hd, Rt.twi_twi, (hT.bak hd.twi).2]
/-- As many walks, in all. -/
theorem faces_alike (hT : Rt.Turns g p T) (ha : Rt.Alike T U) : faces (prs p.e) (Rt.nxt g U) = faces (prs p.e) (Rt.nxt g T) := by
  have hU := hT.alike ha
  have e : ∀ d ∈ prs p.e, Rt.nxt g U d = Rt.nxt g T d := fun d hd => hT.nxt_alike ha ((mem_dart hT.right).1 hd)
  have hrel : rel (prs p.e) (Rt.nxt g U) = rel (prs p.e) (Rt.nxt g T) := by
    funext x y
    unfold rel arcs
    refine propext ⟨fun ⟨h1, h2, h3⟩ => ⟨h1, h2, by rw [← e x h1]; exact h3⟩, fun ⟨h1, h2, h3⟩ => ⟨h1, h2, by rw [e x h1]; exact h3⟩⟩
  unfold faces
  refine List.filter_congr fun d hd => ?_
  rw [Bool.eq_iff_iff, (nxt_perm hU).least hd, (nxt_perm hT).least hd, hrel]
end Go.Proofs.YtmbpmepoaonleaaGreat.Fc

/-! The document's walks: those without darts, those that begin with their least (plain mathematics), and what of them there is behind some vertices, some darts, some steps. -/
namespace Go.Proofs.YtmbpmepoaonleaaGreat.Fc
open Go.Proofs.YtmbpmepoaonleaaGreat

variable {g : Gph} {p : Prt} {T : List (List Int)} {X : List Int} {d : Int} {f : Int → Int} {N k : Nat}

/-- A walk: its key and its darts. -/
abbrev Wlk := Int × List Int
/-- Those of vertices without darts: the last vertex first. -/
def lones (T : List (List Int)) (l : List Int) : List Wlk := (l.reverse.filter (loneB T)).map fun v => (-1 - v, [])
theorem lones_drop (T : List (List Int)) (l : List Int) (k : Nat) (h : k < l.length) : lones T (l.drop k) = lones T (l.drop (k + 1)) ++ (if loneB T (getI l k) = true then [(-1 - getI l k, [])] else []) := by
  unfold lones
  rw [List.drop_eq_getElem_cons h, List.reverse_cons, List.filter_append, List.map_append, getI_of l k h]
  congr 1
  by_cases e : loneB T l[k] = true
  · rw [if_pos e, List.filter_cons_of_pos e]
    rfl
  · rw [if_neg e, List.filter_cons_of_neg e]
    rfl
theorem lones_len (T : List (List Int)) (l : List Int) : (lones T l).length ≤ l.length := by
  unfold lones
  rw [List.length_map]
  exact Nat.le_trans (List.length_filter_le _ _) (by rw [List.length_reverse]; exact Nat.le_refl _)

/-- One begun with a dart. -/
def wlk (f : Int → Int) (N : Nat) (d : Int) : Wlk := (d, orb f N d)
def facesTo (X : List Int) (f : Int → Int) (n : Nat) : List Wlk := ((X.take n).filter fun d => leastB f X.length d).map (wlk f X.length)
theorem facesTo_succ (X : List Int) (f : Int → Int) (n : Nat) (h : n < X.length) : facesTo X f (n + 1) = facesTo X f n ++ (if leastB f X.length (getI X n) = true then [wlk f X.length (getI X n)] else []) := by
  unfold facesTo
  rw [take_succ_getI X n h, List.filter_append, List.map_append]
  congr 1
  by_cases e : leastB f X.length (getI X n) = true
  · rw [if_pos e, List.filter_cons_of_pos e]
    rfl
  · rw [if_neg e, List.filter_cons_of_neg e]
    rfl
theorem facesTo_len (X : List Int) (f : Int → Int) (n : Nat) : (facesTo X f n).length ≤ n := by
  unfold facesTo
  rw [List.length_map]
  exact Nat.le_trans (List.length_filter_le _ _) (by rw [List.length_take]; exact Nat.min_le_left _ _)
theorem facesTo_all (X : List Int) (f : Int → Int) : facesTo X f X.length = (faces X f).map (wlk f X.length) := by
  unfold facesTo faces
  rw [List.take_length]

/-- All walks, by rising keys. -/
def walksOf (g : Gph) (p : Prt) (T : List (List Int)) : List Wlk := lones T p.v ++ (faces (prs p.e) (Rt.nxt g T)).map (wlk (Rt.nxt g T) (prs p.e).length)
theorem walksOf_len (g : Gph) (p : Prt) (T : List (List Int)) : (walksOf g p T).length ≤ p.v.length + 2 * p.e.length := by
  unfold walksOf
  rw [List.length_append, List.length_map]
  have h1 := lones_len T p.v
  have h2 : (faces (prs p.e) (Rt.nxt g T)).length ≤ (prs p.e).length := List.length_filter_le _ _
  rw [prs_len] at h2
  omega

/-! ### Step by step around a face -/

def orbTo (f : Int → Int) (d : Int) (k : Nat) : List Int := (List.range k).map fun j => it f j d
theorem orbTo_succ (f : Int → Int) (d : Int) (k : Nat) : orbTo f d (k + 1) = orbTo f d k ++ [it f k d] := by
  unfold orbTo
  rw [List.range_succ, List.map_append]
  rfl
theorem orbTo_len (f : Int → Int) (d : Int) (k : Nat) : (orbTo f d k).length = k := by unfold orbTo; rw [List.length_map, List.length_range]
def leastTo (f : Int → Int) (d : Int) (k : Nat) : Bool := (List.range k).all fun j => j == 0 || decide (d < it f j d)
theorem leastTo_succ (f : Int → Int) (d : Int) (k : Nat) (h : 0 < k) : leastTo f d (k + 1) = (leastTo f d k && decide (d < it f k d)) := by
  unfold leastTo
  rw [List.range_succ, List.all_append]
  have e : (k == 0) = false := beq_eq_false_iff_ne.2 (by omega)
  simp [e]
theorem leastTo_all (h : Perm X f) (hx : d ∈ X) (hN : X.length ≤ N) : leastTo f d (per f N d) = leastB f N d := by
  obtain ⟨_, h2, h3⟩ := h.per hx hN
  rw [Bool.eq_iff_iff, leastB_iff]
  unfold leastTo
  rw [List.all_eq_true]
  constructor
  · intro ha y hy
    obtain ⟨j, hj, rfl⟩ := mem_orb_it.1 hy
    have := ha j (List.mem_range.2 hj)
    rw [Bool.or_eq_true, beq_iff_eq, decide_eq_true_eq] at this
    rcases this with rfl | h4
    · exact Int.le_refl _
    · omega
  · intro ha j hj
    have hj' := List.mem_range.1 hj
    rw [Bool.or_eq_true, beq_iff_eq, decide_eq_true_eq]
    rcases Nat.eq_zero_or_pos j with h0 | h0
    · exact .inl h0
    · have h4 := ha _ (mem_orb_it.2 ⟨j, hj', rfl⟩)
      have h5 := h3 j h0 hj'
      exact .inr (by omega)
/-- It has come round, or it goes on. -/
theorem Perm.round_iff (h : Perm X f) (hx : d ∈ X) (hN : X.length ≤ N) (h0 : 0 < k) (hk : k ≤ Fc.per f N d) : it f k d = d ↔ k = Fc.per f N d := by
  obtain ⟨_, h2, h3⟩ := h.per hx hN
  constructor
  · intro e
    rcases Nat.lt_or_eq_of_le hk with hlt | he
    · exact absurd e (h3 k h0 hlt)
    · exact he
  · rintro rfl
    exact h2
theorem prs_get (es : List Int) (n : Nat) (h : n < 2 * es.length) : getI (prs es) n = 2 * getI es (n / 2) + ((n % 2 : Nat) : Int) := Rt.get_pairs es n h
end Go.Proofs.YtmbpmepoaonleaaGreat.Fc
