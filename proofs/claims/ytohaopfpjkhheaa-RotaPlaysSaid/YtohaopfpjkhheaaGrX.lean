/-
  Right parts, met, joined, an edge dropped: plain mathematics.
-/
import Derived.Test.YtohaopfpjkhheaaGrW
namespace Go.Proofs.Ytohaopfpjkhheaa
open Go.RowKit

theorem or_left {l m : List Int} (hl : Up l) (hm : Up m) (h : ∀ x ∈ m, x ∈ l) : mrg 1 l m = l :=
  up_ext _ _ (up_or l m hl hm) hl fun z => by rw [mem_or]; exact ⟨fun h1 => h1.elim id (h z), .inl⟩
theorem or_right {l m : List Int} (hl : Up l) (hm : Up m) (h : ∀ x ∈ l, x ∈ m) : mrg 1 l m = m :=
  up_ext _ _ (up_or l m hl hm) hm fun z => by rw [mem_or]; exact ⟨fun h1 => h1.elim (h z) id, .inr⟩
theorem and_in {l m : List Int} (hl : Up l) (hm : Up m) (h : ∀ x ∈ l, x ∈ m) : mrg 2 l m = l :=
  up_ext _ _ (up_and hl hm) hl fun z => by rw [mem_and hl hm]; exact ⟨fun h1 => h1.1, fun h1 => ⟨h1, h z h1⟩⟩
theorem dropL_out {l : List Int} {x : Int} (h : x ∉ l) : dropL l x = l := by
  unfold dropL
  rw [List.filter_eq_self]
  intro y hy
  simp
  rintro rfl
  exact h hy

/-- Both lists rise. -/
def Prt.up (p : Prt) : Prop := Up p.v ∧ Up p.e
/-- One part has all that another has. -/
def Prt.sub (p q : Prt) : Prop := (∀ x ∈ p.v, x ∈ q.v) ∧ (∀ x ∈ p.e, x ∈ q.e)

theorem perr_up {g : Gph} {p : Prt} (h : perr g p = 0) : p.up := ⟨(perr_rises h).2.1.up, (perr_rises h).2.2.1.up⟩

theorem within_true {p q : Prt} (hp : p.up) (hq : q.up) (h : p.sub q) : sameB (p.and q) p = true := by
  rw [sameB_iff]
  unfold Prt.and
  rw [and_in hp.1 hq.1 h.1, and_in hp.2 hq.2 h.2]
theorem within_false {p q : Prt} (hp : p.up) (hq : q.up) (h : ¬ p.sub q) : sameB (p.and q) p = false := by
  rw [Bool.eq_false_iff]
  intro e
  rw [sameB_iff] at e
  refine h ⟨fun x hx => ?_, fun x hx => ?_⟩
  · have : x ∈ (p.and q).v := by rw [e]; exact hx
    exact ((mem_and hp.1 hq.1 x).1 this).2
  · have : x ∈ (p.and q).e := by rw [e]; exact hx
    exact ((mem_and hp.2 hq.2 x).1 this).2

theorem and_up {p q : Prt} (hp : p.up) (hq : q.up) : (p.and q).up := ⟨up_and hp.1 hq.1, up_and hp.2 hq.2⟩
theorem or_up {p q : Prt} (hp : p.up) (hq : q.up) : (p.or q).up := ⟨up_or _ _ hp.1 hq.1, up_or _ _ hp.2 hq.2⟩
theorem drop_up {p : Prt} (hp : p.up) (x : Int) : (p.drop x).up := ⟨hp.1, up_dropL hp.2 x⟩
theorem and_sub_left {p q : Prt} (hp : p.up) (hq : q.up) : (p.and q).sub p := ⟨fun x h => ((mem_and hp.1 hq.1 x).1 h).1, fun x h => ((mem_and hp.2 hq.2 x).1 h).1⟩
theorem and_sub_right {p q : Prt} (hp : p.up) (hq : q.up) : (p.and q).sub q := ⟨fun x h => ((mem_and hp.1 hq.1 x).1 h).2, fun x h => ((mem_and hp.2 hq.2 x).1 h).2⟩
theorem sub_or_left (p q : Prt) : p.sub (p.or q) := ⟨fun x h => (mem_or _ _ x).2 (.inl h), fun x h => (mem_or _ _ x).2 (.inl h)⟩
theorem sub_or_right (p q : Prt) : q.sub (p.or q) := ⟨fun x h => (mem_or _ _ x).2 (.inr h), fun x h => (mem_or _ _ x).2 (.inr h)⟩
theorem drop_sub (p : Prt) (x : Int) : (p.drop x).sub p := ⟨fun _ h => h, fun y h => ((mem_dropL p.e x y).1 h).1⟩
theorem sub_trans {p q r : Prt} (h1 : p.sub q) (h2 : q.sub r) : p.sub r := ⟨fun x h => h2.1 x (h1.1 x h), fun x h => h2.2 x (h1.2 x h)⟩

theorem or_few {p q : Prt} (hp : p.v.length ≤ 1000 ∧ p.e.length ≤ 1000) (hq : q.v.length ≤ 1000 ∧ q.e.length ≤ 1000) : (p.or q).few := by
  have h1 := mrg_len 1 p.v q.v
  have h2 := mrg_len 1 p.e q.e
  unfold Prt.few Prt.or
  simp only
  omega

section
variable {g : Gph} {p q : Prt}
theorem ok_sub (h : perr g p = 0) (hq : q.up) (hs : q.sub p) (he : ∀ e ∈ q.e, (getE g.e e.toNat).a ∈ q.v ∧ (getE g.e e.toNat).b ∈ q.v) : perr g q = 0 := by
  obtain ⟨h0, h1, h2, _⟩ := perr_rises h
  exact perr_ok h0 (hq.1.rises (fun x hx => h1.mem (hs.1 x hx))) (hq.2.rises (fun x hx => h2.mem (hs.2 x hx))) he
theorem and_ok (hp : perr g p = 0) (hq : perr g q = 0) : perr g (p.and q) = 0 := by
  have up := perr_up hp
  have uq := perr_up hq
  refine ok_sub hp (and_up up uq) (and_sub_left up uq) (fun e he => ?_)
  obtain ⟨m1, m2⟩ := (mem_and up.2 uq.2 e).1 he
  have a := (perr_rises hp).2.2.2 e m1
  have b := (perr_rises hq).2.2.2 e m2
  exact ⟨(mem_and up.1 uq.1 _).2 ⟨a.1, b.1⟩, (mem_and up.1 uq.1 _).2 ⟨a.2, b.2⟩⟩
theorem or_ok (hp : perr g p = 0) (hq : perr g q = 0) : perr g (p.or q) = 0 := by
  have up := perr_up hp
  have uq := perr_up hq
  obtain ⟨h0, h1, h2, h3⟩ := perr_rises hp
  obtain ⟨_, k1, k2, k3⟩ := perr_rises hq
  refine perr_ok h0 ((or_up up uq).1.rises (fun x hx => ((mem_or _ _ x).1 hx).elim h1.mem k1.mem)) ((or_up up uq).2.rises (fun x hx => ((mem_or _ _ x).1 hx).elim h2.mem k2.mem)) (fun e he => ?_)
  rcases (mem_or _ _ e).1 he with h | h
  · exact ⟨(mem_or _ _ _).2 (.inl (h3 e h).1), (mem_or _ _ _).2 (.inl (h3 e h).2)⟩
  · exact ⟨(mem_or _ _ _).2 (.inr (k3 e h).1), (mem_or _ _ _).2 (.inr (k3 e h).2)⟩
theorem drop_ok (hp : perr g p = 0) (x : Int) : perr g (p.drop x) = 0 :=
  ok_sub hp (drop_up (perr_up hp) x) (drop_sub p x) (fun e he => (perr_rises hp).2.2.2 e ((mem_dropL p.e x e).1 he).1)
theorem or_and (hp : p.up) (hq : q.up) : sameB ((p.and q).or (p.or q)) (p.or q) = true := by
  rw [sameB_iff]
  have hs := sub_trans (and_sub_left hp hq) (sub_or_left p q)
  unfold Prt.or at hs ⊢
  simp only at hs ⊢
  rw [or_right (and_up hp hq).1 (up_or _ _ hp.1 hq.1) hs.1, or_right (and_up hp hq).2 (up_or _ _ hp.2 hq.2) hs.2]
theorem sub_whole (hp : perr g p = 0) : p.sub g.whole := by
  obtain ⟨h0, h1, h2, _⟩ := perr_rises hp
  have hn := err_n0 h0
  have hw : g.whole = ⟨countTo g.n.toNat, countTo g.e.length⟩ := if_pos h0
  rw [hw]
  exact ⟨fun x hx => (mem_countTo _ _).2 (by have := h1.mem hx; omega), fun x hx => (mem_countTo _ _).2 (h2.mem hx)⟩
theorem whole_up (h : g.err = 0) : g.whole.up := perr_up (whole_ok h)
end

/-! ### An edge dropped, put in again -/

theorem endB_one (g : Gph) (e v : Int) : endB g [e] v = decide ((getE g.e e.toNat).a = v ∨ (getE g.e e.toNat).b = v) := by
  unfold endB endOf
  simp
theorem span_up {g : Gph} (e : Int) : (g.span [e]).up := ⟨List.Pairwise.filter _ (up_countTo _), by unfold Gph.span Up; simp⟩
theorem span_sub {g : Gph} {p : Prt} {e : Int} (h : perr g p = 0) (he : e ∈ p.e) : (g.span [e]).sub p := by
  refine ⟨fun x hx => ?_, fun x hx => ?_⟩
  · have h1 := (perr_rises h).2.2.2 e he
    have h2 := (List.mem_filter.1 hx).2
    rw [endB_one] at h2
    rcases of_decide_eq_true h2 with h3 | h3
    · rw [← h3]; exact h1.1
    · rw [← h3]; exact h1.2
  · have : x = e := by simpa [Gph.span] using hx
    rw [this]; exact he
theorem put_back {g : Gph} {p : Prt} {e : Int} (h : perr g p = 0) (he : e ∈ p.e) : sameB ((p.drop e).or (g.span [e])) p = true := by
  rw [sameB_iff]
  have hu := perr_up h
  have hs := span_sub h he
  have e1 : mrg 1 p.v (g.span [e]).v = p.v := or_left hu.1 (span_up e).1 hs.1
  have e2 : mrg 1 (dropL p.e e) [e] = p.e := up_ext _ _ (up_or _ _ (up_dropL hu.2 e) (span_up (g := g) e).2) hu.2 fun z => by
    rw [mem_or, mem_dropL, List.mem_singleton]
    constructor
    · rintro (h1 | h1)
      · exact h1.1
      · rw [h1]; exact he
    · intro h1
      by_cases e3 : z = e
      · exact .inr e3
      · exact .inl ⟨h1, e3⟩
  cases p
  simp only [Prt.or, Prt.drop, Gph.span] at e1 e2 ⊢
  rw [e1, e2]
theorem not_put {g : Gph} {p : Prt} {e : Int} (h : perr g p = 0) : sameB ((g.span [e]).and (p.drop e)) (g.span [e]) = false :=
  within_false (span_up e) (drop_up (perr_up h) e) (fun hs => ((mem_dropL p.e e e).1 (hs.2 e (by simp [Gph.span]))).2 rfl)
theorem drop_same {p : Prt} {e : Int} (h : e ∉ p.e) : sameB (p.drop e) p = true := by
  rw [sameB_iff]
  cases p
  simp only [Prt.drop] at h ⊢
  rw [dropL_out h]
theorem span_err_one {g : Gph} {p : Prt} {e : Int} (h : perr g p = 0) (he : e ∈ p.e) : spanErr g [e] = 0 := by
  obtain ⟨h0, _, h2, _⟩ := perr_rises h
  have := h2.mem he
  unfold spanErr
  rw [if_pos h0, if_pos]
  refine decide_eq_true ?_
  exact Up.rises (by unfold Up; simp) (fun x hx => by rw [List.mem_singleton.1 hx]; exact this)

end Go.Proofs.Ytohaopfpjkhheaa
