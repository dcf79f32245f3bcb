/-
  FcQ, FcZ, in one text.
-/
import Derived.Test.YtmbpmepoaonleaaGreatM19
import Derived.Test.YtmbpmepoaonleaaGreatM13
/-! The pieces by their least vertices (plain mathematics). -/
namespace Go.Proofs.YtmbpmepoaonleaaGreat
open Go.RowKit

variable {g : Gph} {p : Prt}

/-- The least vertex of a piece. -/
def Frst (g : Gph) (p : Prt) (v : Int) : Prop := ∀ u ∈ p.v, Reach (Nbr g p) v u → v ≤ u
open Classical in
/-- All that a vertex leads to. -/
noncomputable def clsOf (g : Gph) (p : Prt) (v : Int) : List Int := p.v.filter fun u => decide (Reach (Nbr g p) v u)
open Classical in
theorem mem_clsOf {v u : Int} : u ∈ clsOf g p v ↔ u ∈ p.v ∧ Reach (Nbr g p) v u := by
  unfold clsOf
  rw [List.mem_filter, decide_eq_true_iff]
open Classical in
noncomputable def frsts (g : Gph) (p : Prt) : List Int := p.v.filter fun v => decide (Frst g p v)

theorem head_frst (hp : perr g p = 0) {i : Nat} (hi : i < p.v.length) : headB (tog g p).gr i = true ↔ Frst g p (getI p.v i) := by
  obtain ⟨h1, h2, h3⟩ := tog_all hp
  have hup := (perr_rises hp).2.1.up
  have hi' : i < (tog g p).ts.length := by rw [h1]; exact hi
  have hrt : ∀ j, j < p.v.length → (tog g p).root (getI p.v j) = getN (tog g p).gr j := fun j hj => by
    unfold St.root
    have := St.place_at h2 (i := j) (by rw [h1]; exact hj)
    rw [h1] at this
    rw [this]
  have hlt : ∀ a b, a < p.v.length → b < p.v.length → a < b → getI p.v a < getI p.v b := fun a b ha hb hab => by
    rw [getI_of _ _ ha, getI_of _ _ hb]
    exact List.pairwise_iff_getElem.1 hup a b ha hb hab
  unfold headB
  rw [decide_eq_true_iff]
  constructor
  · intro hh u hu hr
    obtain ⟨j, hj, rfl⟩ := (mem_getI _ _).1 hu
    have h4 := (h3 _ ((mem_getI _ _).2 ⟨i, hi, rfl⟩) _ hu).2 hr
    rw [hrt i hi, hrt j hj, hh] at h4
    have h5 := (h2.roots j (by rw [h2.len, h1]; exact hj)).1
    rcases Nat.lt_or_eq_of_le (show i ≤ j by omega) with h | h
    · have := hlt i j hi hj h
      omega
    · rw [h]
      exact Int.le_refl _
  · intro hf
    obtain ⟨r1, r2⟩ := h2.roots i (by rw [h2.len, h1]; exact hi)
    have hr : getN (tog g p).gr i < p.v.length := by omega
    have h4 : (tog g p).root (getI p.v i) = (tog g p).root (getI p.v (getN (tog g p).gr i)) := by rw [hrt i hi, hrt _ hr, r2]
    have hm : getI p.v (getN (tog g p).gr i) ∈ p.v := (mem_getI _ _).2 ⟨_, hr, rfl⟩
    have h5 := hf _ hm ((h3 _ ((mem_getI _ _).2 ⟨i, hi, rfl⟩) _ hm).1 h4)
    rcases Nat.lt_or_eq_of_le r1 with h | h
    · have := hlt _ _ hr hi h
      omega
    · exact h

theorem map_getI (l : List Int) : (List.range l.length).map (getI l) = l := by
  apply List.ext_getElem
  · simp
  · intro i h1 h2
    simp [getI, h2]

open Classical in
/-- The pieces, in order: of each vertex that is the least of its piece. -/
theorem pcs_eq (hp : perr g p = 0) : pcs g p = (frsts g p).map fun v => pieceOf g p (clsOf g p v) := by
  have hT := tog_all hp
  have hts : (tog g p).ts = p.v := hT.1
  have hup := (perr_rises hp).2.1.up
  have e1 : (frsts g p) = (headsTo (tog g p).gr p.v.length).map (getI p.v) := by
    unfold frsts headsTo
    conv => lhs; rw [← map_getI p.v]
    rw [List.filter_map]
    congr 1
    refine List.filter_congr fun i hi => ?_
    rw [Bool.eq_iff_iff, head_frst hp (List.mem_range.1 hi)]
    simp
  rw [e1, List.map_map]
  unfold pcs St.groups St.groupsTo
  rw [List.map_map, hts]
  refine List.map_congr_left fun h hh => ?_
  have hV : (tog g p).memb p.v.length h ∈ (tog g p).groups := by
    unfold St.groups St.groupsTo
    rw [hts]
    exact List.mem_map_of_mem hh
  obtain ⟨hu, z, hz, hm⟩ := piece_group hp hV
  obtain ⟨hl, hr⟩ := St.headsTo_mem _ _ _ hh
  have hs : getI p.v h ∈ (tog g p).memb p.v.length h := by
    unfold St.memb
    rw [hts]
    exact List.mem_map.2 ⟨h, List.mem_filter.2 ⟨List.mem_range.2 hl, decide_eq_true hr⟩, rfl⟩
  show pieceOf g p ((tog g p).memb p.v.length h) = pieceOf g p (clsOf g p (getI p.v h))
  congr 1
  refine up_ext _ _ hu (List.Pairwise.filter _ hup) fun t => ?_
  rw [hm, mem_clsOf]
  have hzh := ((hm _).1 hs).2
  exact ⟨fun ⟨k1, k2⟩ => ⟨k1, (hzh.symm nbr_symm).trans k2⟩, fun ⟨k1, k2⟩ => ⟨k1, hzh.trans k2⟩⟩

/-! ### One after the other -/

/-- Whether it has been met with an earlier one. -/
theorem frst_iff (hp : perr g p = 0) {i : Nat} (hi : i < p.v.length) : Frst g p (getI p.v i) ↔ ∀ j, j < i → ¬ Reach (Nbr g p) (getI p.v j) (getI p.v i) := by
  have hup := (perr_rises hp).2.1.up
  have hlt : ∀ a b, a < p.v.length → b < p.v.length → a < b → getI p.v a < getI p.v b := fun a b ha hb hab => by
    rw [getI_of _ _ ha, getI_of _ _ hb]
    exact List.pairwise_iff_getElem.1 hup a b ha hb hab
  constructor
  · intro h j hj hr
    have h1 := h _ ((mem_getI _ _).2 ⟨j, by omega, rfl⟩) (hr.symm nbr_symm)
    have h2 := hlt j i (by omega) hi hj
    omega
  · intro h u hu hr
    obtain ⟨j, hj, rfl⟩ := (mem_getI _ _).1 hu
    refine Classical.byContradiction fun hn => ?_
    rcases Nat.lt_or_ge j i with hji | hji
    · exact h j hji (hr.symm nbr_symm)
    · rcases Nat.lt_or_eq_of_le hji with hij | hij
      · have := hlt i j hi hj hij
        omega
      · subst hij
        omega
end Go.Proofs.YtmbpmepoaonleaaGreat

/-! What the program's walks come to, plainly: what isn't met, a key, how many walks a piece has. -/
namespace Go.Proofs.YtmbpmepoaonleaaGreat.Fc
open Go.Proofs.YtmbpmepoaonleaaGreat Go.RowKit

variable {g : Gph} {p q : Prt} {T U : List (List Int)} {X : List Int} {f : Int → Int} {n : Nat} {x y d v : Int}

/-! ### What isn't met -/

/-- A dart that stands in no walk begun with one of the first n. -/
def Unmet (X : List Int) (f : Int → Int) (n : Nat) (y : Int) : Prop := y ∈ X ∧ ∀ a ∈ X.take n, leastB f X.length a = true → y ∉ orb f X.length a
theorem unmet_zero (y : Int) : Unmet X f 0 y ↔ y ∈ X := ⟨fun h => h.1, fun h => ⟨h, fun a ha => absurd ha (by simp)⟩⟩
theorem getI_take {i n : Nat} (hi : i < n) (hl : i < X.length) : getI X i ∈ X.take n := by
  rw [List.mem_take_iff_getElem]
  exact ⟨i, by omega, (getI_of X i hl).symm⟩
theorem up_get (hX : Up X) {i j : Nat} (hij : i < j) (hj : j < X.length) : getI X i < getI X j := by
  rw [getI_of _ _ (by omega), getI_of _ _ hj]
  exact List.pairwise_iff_getElem.1 hX i j (by omega) hj hij
theorem Perm.unmet (h : Perm X f) (hX : Up X) (hn : n < X.length) : Unmet X f n (getI X n) ↔ leastB f X.length (getI X n) = true := by
  have hx : getI X n ∈ X := (mem_getI _ _).2 ⟨n, hn, rfl⟩
  constructor
  · intro hu
    obtain ⟨a, ha, hxa⟩ := h.has_face hx
    obtain ⟨ha1, ha2⟩ := h.mem_faces.1 ha
    have hla := (h.least ha1).2 ha2
    obtain ⟨i, hi, rfl⟩ := (mem_getI _ _).1 ha1
    have hle := leastB_iff.1 hla _ hxa
    rcases Nat.lt_trichotomy i n with hin | hin | hin
    · exact absurd hxa (hu.2 _ (getI_take hin hi) hla)
    · rw [← hin]; exact hla
    · have := up_get hX hin hi
      omega
  · intro hl
    refine ⟨hx, fun a ha hla hxa => ?_⟩
    have ha1 := List.mem_of_mem_take ha
    have e := h.one_face (h.mem_faces.2 ⟨ha1, (h.least ha1).1 hla⟩) (h.mem_faces.2 ⟨hx, (h.least hx).1 hl⟩) hxa (self_orb _ _ _)
    obtain ⟨i, hi, rfl⟩ := List.mem_take_iff_getElem.1 ha
    have := up_get hX (show i < n by omega) hn
    rw [getI_of X i (by omega), e] at this
    omega
theorem unmet_skip (hn : n < X.length) (hl : leastB f X.length (getI X n) = false) (y : Int) : Unmet X f (n + 1) y ↔ Unmet X f n y := by
  unfold Unmet
  rw [take_succ_getI X n hn]
  refine and_congr_right fun _ => ⟨fun h a ha => h a (List.mem_append_left _ ha), fun h a ha hla => ?_⟩
  rcases List.mem_append.1 ha with ha | ha
  · exact h a ha hla
  · rw [List.mem_singleton] at ha
    subst ha
    rw [hl] at hla
    cases hla
theorem unmet_take (hn : n < X.length) (hl : leastB f X.length (getI X n) = true) (y : Int) : Unmet X f (n + 1) y ↔ Unmet X f n y ∧ y ∉ orb f X.length (getI X n) := by
  unfold Unmet
  rw [take_succ_getI X n hn]
  constructor
  · rintro ⟨h1, h2⟩
    exact ⟨⟨h1, fun a ha => h2 a (List.mem_append_left _ ha)⟩, h2 _ (List.mem_append_right _ (List.mem_singleton.2 rfl)) hl⟩
  · rintro ⟨⟨h1, h2⟩, h3⟩
    refine ⟨h1, fun a ha hla => ?_⟩
    rcases List.mem_append.1 ha with ha | ha
    · exact h2 a ha hla
    · rw [List.mem_singleton] at ha
      subst ha
      exact h3
/-! ### Turns begun elsewhere -/

theorem alike_lone (v : Int) : loneB (T.map Rt.fst) v = loneB T v := by
  rw [Bool.eq_iff_iff, lone_iff, lone_iff, Rt.getT_map Rt.fst Rt.fst_nil]
  constructor
  · intro h
    have := congrArg List.length h
    rw [Rt.fst_len] at this
    exact List.eq_nil_of_length_eq_zero this
  · intro h
    rw [h]
    rfl
theorem lones_cong {l : List Int} (h : ∀ v ∈ l, loneB T v = loneB U v) : lones T l = lones U l := by
  unfold lones
  congr 1
  exact List.filter_congr fun v hv => h v (List.mem_reverse.1 hv)
theorem it_cong {f k : Int → Int} (h : Perm X f) (e : ∀ x ∈ X, k x = f x) (hx : x ∈ X) : ∀ n, it k n x = it f n x
  | 0 => rfl
  | n + 1 => by
    show k (it k n x) = f (it f n x)
    rw [it_cong h e hx n]
    exact e _ (h.it_mem hx n)
theorem per_cong {f k : Int → Int} (h : Perm X f) (e : ∀ x ∈ X, k x = f x) (hx : x ∈ X) (N : Nat) : per k N x = per f N x := by
  unfold per
  congr 2
  congr 1
  funext n
  rw [it_cong h e hx]
theorem orb_cong {f k : Int → Int} (h : Perm X f) (e : ∀ x ∈ X, k x = f x) (hx : x ∈ X) (N : Nat) : orb k N x = orb f N x := by
  unfold orb
  rw [per_cong h e hx]
  exact List.map_congr_left fun n _ => it_cong h e hx n
theorem walks_alike (h : Rt.Turns g p T) : walksOf g p (T.map Rt.fst) = walksOf g p T := by
  unfold walksOf
  rw [lones_cong (fun v _ => alike_lone v), faces_alike h (Rt.alike_fst T)]
  congr 1
  refine List.map_congr_left fun d hd => ?_
  have hx := ((nxt_perm h).mem_faces.1 hd).1
  unfold wlk
  rw [orb_cong (nxt_perm h) (fun d hd => h.nxt_alike (Rt.alike_fst T) ((mem_dart h.right).1 hd)) hx]

/-! ### A key -/

theorem hit_lone (hv : 0 ≤ v) (h : Rt.Turns g p T) {x : Wlk} (hx : x ∈ walksOf g p T) (hh : hitB (-1 - v) x = true) : x.1 = -1 - v := by
  unfold hitB at hh
  rw [Bool.or_eq_true, beq_iff_eq, decide_eq_true_eq] at hh
  rcases hh with e | hin
  · exact e
  · rcases walk_facts h hx with ⟨h1, _⟩ | ⟨_, _, _, h4, _⟩
    · rw [h1] at hin
      exact absurd hin List.not_mem_nil
    · have := h4 _ hin
      omega
theorem key_of {L : List Wlk} {d k : Int} (h : ∃ x ∈ L, hitB d x = true) (hk : ∀ x ∈ L, hitB d x = true → x.1 = k) : keyI L d = k ∧ keyB L d = true := by
  obtain ⟨x, hx, hh⟩ := h
  cases e : L.find? (hitB d) with
  | none => exact absurd hh (by rw [List.find?_eq_none] at e; exact e x hx)
  | some y =>
    have h1 := hk y (List.mem_of_find?_eq_some e) (List.find?_some e)
    unfold keyI keyB
    rw [e]
    exact ⟨h1, rfl⟩
theorem key_dart (h : Rt.Turns g p T) (hd : d ∈ prs p.e) {m : Int} (hm : m ∈ orb (Rt.nxt g T) (prs p.e).length d) (hl : ∀ y ∈ orb (Rt.nxt g T) (prs p.e).length d, m ≤ y) : keyI (walksOf g p T) d = m ∧ keyB (walksOf g p T) d = true := by
  have hP := nxt_perm h
  have hd0 := ((mem_dart h.right).1 hd).1
  have same : ∀ a ∈ faces (prs p.e) (Rt.nxt g T), d ∈ orb (Rt.nxt g T) (prs p.e).length a → a = m := fun a ha hda => by
    have ha1 := hP.mem_faces.1 ha
    have hc := (hP.mem_orb ha1.1 (Nat.le_refl _)).1 hda
    have hm2 := (hP.mem_orb hd (Nat.le_refl _)).1 hm
    refine Int.le_antisymm ?_ ?_
    · exact leastB_iff.1 ((hP.least ha1.1).2 ha1.2) _ ((hP.mem_orb ha1.1 (Nat.le_refl _)).2 (hc.trans hm2))
    · exact hl _ ((hP.mem_orb hd (Nat.le_refl _)).2 hc.symm)
  refine key_of ?_ fun x hx hh => ?_
  · obtain ⟨a, ha, hda⟩ := hP.has_face hd
    refine ⟨_, mem_walks.2 (.inr ⟨a, ha, rfl⟩), ?_⟩
    unfold hitB
    rw [Bool.or_eq_true, decide_eq_true_eq]
    exact .inr hda
  · rcases mem_walks.1 hx with ⟨v, hv, _, rfl⟩ | ⟨a, ha, rfl⟩
    · have h0 := (v_nn h.right hv).1
      unfold hitB at hh
      rw [Bool.or_eq_true, beq_iff_eq, decide_eq_true_eq] at hh
      rcases hh with e | e
      · have e' : -1 - v = d := e
        omega
      · exact absurd e List.not_mem_nil
    · unfold hitB at hh
      rw [Bool.or_eq_true, beq_iff_eq, decide_eq_true_eq] at hh
      rcases hh with e | e
      · have e' : a = d := e
        subst e'
        exact same a ha (self_orb _ _ _)
      · exact same a ha e
/-! ### How many walks a piece has, and its genus -/

/-- The vertex at which a walk begins. -/
def startI (g : Gph) (x : Wlk) : Int := if x.1 < 0 then -1 - x.1 else (Rt.tl g x.1 : Int)
def startsB (g : Gph) (q : Prt) (x : Wlk) : Bool := decide (startI g x ∈ q.v)
def cntW (g : Gph) (q : Prt) (L : List Wlk) : Nat := L.countP (startsB g q)
def genI (g : Gph) (q : Prt) (L : List Wlk) : Int := (2 - (q.v.length : Int) + (q.e.length : Int) - (cntW g q L : Int)).tdiv 2
def genL (g : Gph) (p : Prt) (T : List (List Int)) : List Int := (pcs g p).map fun q => genI g q (walksOf g p T)
def sphB (l : List Int) : Bool := l.all fun x => x == 0

theorem cnt_lones (hq : Pce g p q) (h : Rt.Turns g p T) : cntW g q (lones T p.v) = q.v.countP (loneB T) := by
  have hr := h.right
  unfold cntW lones
  rw [List.countP_map, List.countP_filter, List.countP_reverse]
  have e : p.v.countP (fun a => ((startsB g q ∘ fun v => ((-1 - v, []) : Wlk)) a && loneB T a)) = (p.v.filter fun v => decide (v ∈ q.v)).countP (loneB T) := by
    rw [List.countP_filter]
    refine List.countP_congr fun v hv => ?_
    have h0 := (v_nn hr hv).1
    have e : startI g ((-1 - v, []) : Wlk) = v := by
      unfold startI
      rw [if_pos (show -1 - v < 0 by omega)]
      show -1 - (-1 - v) = v
      omega
    show (decide (startI g ((-1 - v, []) : Wlk) ∈ q.v) && loneB T v) = true ↔ _
    rw [e, Bool.and_comm]
  rw [e]
  congr 1
  refine up_ext _ _ (List.Pairwise.filter _ (perr_rises hr).2.1.up) hq.vup fun t => ?_
  rw [List.mem_filter, decide_eq_true_iff]
  exact ⟨fun h => h.2, fun h => ⟨((hq.reach t h t).1 h).1, h⟩⟩
theorem cnt_faces (h : Rt.Turns g p T) : cntW g q ((faces (prs p.e) (Rt.nxt g T)).map (wlk (Rt.nxt g T) (prs p.e).length)) = (faces (prs p.e) (Rt.nxt g T)).countP (atB g q) := by
  unfold cntW
  rw [List.countP_map]
  refine List.countP_congr fun d hd => ?_
  have h0 := face_nn h hd
  have e : startI g (wlk (Rt.nxt g T) (prs p.e).length d) = (Rt.tl g d : Int) := by
    exact if_neg (show ¬ d < 0 by omega)
  show decide (startI g (wlk (Rt.nxt g T) (prs p.e).length d) ∈ q.v) = true ↔ _
  rw [e]
  exact Iff.rfl
theorem cnt_walks (hq : Pce g p q) (h : Rt.Turns g p T) : cntW g q (walksOf g p T) = q.v.countP (loneB T) + (faces (prs p.e) (Rt.nxt g T)).countP (atB g q) := by
  unfold walksOf
  rw [← cnt_lones hq h, ← cnt_faces h]
  exact List.countP_append
theorem gen_nn (hq : Pce g p q) (h : Rt.Turns g p T) : 0 ≤ 2 - (q.v.length : Int) + (q.e.length : Int) - (cntW g q (walksOf g p T) : Int) := by
  have h1 := cnt_walks hq h
  have h2 := genus_nn h hq
  omega
theorem mir_lone (v : Int) : loneB (Rt.mir T) v = loneB T v := by
  rw [Bool.eq_iff_iff, lone_iff, lone_iff, Rt.getT_mir, List.reverse_eq_nil_iff]
theorem PFacts.pce (h : PFacts g p (pcs g p)) {j : Nat} (hj : j < (pcs g p).length) : Pce g p (getP (pcs g p) j) :=
  ⟨h.some j hj, (h.up j hj).1, (h.up j hj).2, h.reach j hj, h.edges j hj⟩
end Go.Proofs.YtmbpmepoaonleaaGreat.Fc
