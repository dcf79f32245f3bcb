/-
  Regions that draw their order, by a plan: a step that makes memory; and the same plans within a fence that lets everything by, and within a round of a range over a function there.
-/
import Derived.Test.YtohaopfpjkhheaaPlan
import Derived.Test.YtohaopfpjkhheaaRound
namespace Go.Proofs.Ytohaopfpjkhheaa
open Go.RowKit

section
variable {P : Program} {os : List Oper} {Ss : List Sp} {Q : Exit → Act → World → Prop} {a0 : Act} {w0 : World} {o : Oper} {S : Sp}

/-- An operation that makes a block of its own. -/
theorem step_make (hn : S.new = false) (h : ∀ (a : Act) (w : World), Below w0.heap.size w0 w → (∀ k, noDst (os.take Ss.length) k = true → a.tmps[k]? = a0.tmps[k]?) → (∀ j o' S' d, j ∈ preds o → os[j]? = some o' → Ss[j]? = some S' → o'.dst = some d → ∃ v, a.tmps[d]? = some v ∧ S'.p w v) →
    Region.wanted o (yielded os.toArray a.tmps) = true ∧ ∃ v w', (execOp a.eval o).run P w = .ok (.value v) w' ∧ Below w.heap.size w w' ∧ S.p w' v) : StepOk P os Ss Q a0 w0 o S := by
  intro a w hB O D
  obtain ⟨h1, v, w', h2, h3, h4⟩ := h a w hB O D
  refine .inl ⟨h1, ?_⟩
  unfold Oper.wp
  rw [h2]
  exact ⟨v, rfl, h3, h4, fun h => by rw [hn] at h; cases h⟩
end

/-! ### Within the fence that lets everything by -/

theorem rowsIn_wide {n : Nat} {P : Program} {row : String} {args : Array Value} {w : World} {R : Value → World → Prop} (h : Rows P row args w R) : RowsIn Fence.wide n P row args w R := by
  intro c cs _
  obtain ⟨v, w', r, s⟩ := h c cs
  exact ⟨v, w', r, stepsIn_wide.2 s⟩

theorem opIn_wide {n : Nat} {P : Program} {o : Oper} {a : Act} {w : World} {K : Act → World → Prop} {Q : Exit → Act → World → Prop} (h : o.wp P a w K Q) : o.wpIn Fence.wide n P a w K Q := by
  refine ⟨fun _ _ => trivial, ?_⟩
  have h' : o.upon P a K Q ((execOp a.eval o).run P w) := h
  show o.uponIn Fence.wide n P a K Q ((execOp a.eval o).run P w)
  generalize (execOp a.eval o).run P w = r at *
  cases r with
  | ok x w' =>
    cases x <;> first
      | exact h'
      | exact ⟨fun e => by simp [Fence.wide] at e, callsIn_wide.2 h'⟩
      | exact ⟨fun e => by simp [Fence.wide] at e, rowsIn_wide h'⟩
      | exact h'.elim
  | halt x w' => cases x <;> exact h'

theorem wpAnyIn_inv {F : Fence} {n : Nat} {P : Program} {ops : Array Oper} {Q : Exit → Act → World → Prop} {md : Region.Mode} (Inv : Array Bool → Act → World → Prop)
    (hdone : ∀ listed a w, Region.ready md ops listed = [] → Inv listed a w → Q .normal a w)
    (hstep : ∀ listed a w i, i ∈ Region.ready md ops listed → Inv listed a w → wpOpIn F n P ops Q i (Inv (listed.setIfInBounds i true)) a w) :
    ∀ fuel listed a w, missing listed ops.size ≤ fuel → Inv listed a w → wpAnyIn F n P md ops Q fuel listed a w := by
  intro fuel
  induction fuel with
  | zero =>
    intro listed a w hf hI
    have hr : Region.ready md ops listed = [] := by
      rw [List.eq_nil_iff_forall_not_mem]
      intro i hi
      obtain ⟨h1, o, ho, _⟩ := mem_ready.1 hi
      have := missing_zero listed ops.size (by omega) i (Array.getElem?_eq_some_iff.1 ho).1
      rw [h1] at this; cases this
    exact ⟨hr, hdone _ _ _ hr hI⟩
  | succ fuel ih =>
    intro listed a w hf hI
    refine ⟨fun hr => hdone _ _ _ hr hI, fun i hi => wpOpIn_mono (fun a' w' h' => ih _ _ _ ?_ h') (hstep _ _ _ i hi hI)⟩
    obtain ⟨h1, o, ho, _⟩ := mem_ready.1 hi
    have := missing_set listed i h1 ops.size (Array.getElem?_eq_some_iff.1 ho).1
    omega

theorem wpAnyIn_plan {F : Fence} {nf : Nat} {P : Program} {os : List Oper} {Q : Exit → Act → World → Prop} {a0 : Act} {w0 w1 : World} (h01 : Below w0.heap.size w0 w1) (hfn : ∀ f, F.fn f) (hop : ∀ (i : Nat) (o : Oper) (a : Act) (w : World) (K : Act → World → Prop), os[i]? = some o → o.wp P a w K Q → o.wpIn F nf P a w K Q) (Ss : List Sp) (hc : planOk os Ss.length a0.tmps.size = true)
    (hsteps : StepsP (StepOk P os Ss Q a0 w0) os Ss)
    (hend : ∀ w, Below w0.heap.size w0 w → EndP w0.heap.size w (fun a => wpListIn F nf P os.toArray Q (os.drop Ss.length) a w) os Ss [] a0) :
    wpAnyIn F nf P .any os.toArray Q os.length (Array.replicate os.length false) a0 w1 := by
  unfold planOk at hc
  rw [Bool.and_eq_true, Bool.and_eq_true, Bool.and_eq_true, decide_eq_true_eq, List.all_eq_true] at hc
  obtain ⟨⟨⟨hk, hw⟩, hs⟩, hcov⟩ := hc
  have hcv : ∀ j, Ss.length ≤ j → j < os.length → covers os j = true := fun j h1 h2 => by
    have := hcov j (List.mem_range.2 h2)
    rw [Bool.or_eq_true, decide_eq_true_eq] at this
    rcases this with h | h
    · omega
    · exact h
  refine wpAnyIn_inv (fun listed a w => listed.size = os.length ∧ Down os listed ∧ ((∀ j, Ss.length ≤ j → j < os.length → listed.getD j true = false) ∧ Fr os Ss a0 w0 listed a w ∨
      ∃ m, Ss.length < m ∧ m ≤ os.length ∧ (∀ j, j < m → listed.getD j false = true) ∧ (∀ j, m ≤ j → j < os.length → listed.getD j true = false) ∧ wpListIn F nf P os.toArray Q (os.drop m) a w)) ?_ ?_ _ _ _ _ ?_ ?_
  · rintro listed a w hr ⟨hz, hD, ⟨htail, hF⟩ | ⟨m, hm1, hm2, hm3, hm4, hW⟩⟩
    · have hall := all_listed hz hw hr
      have hkn : Ss.length = os.length := by
        rcases Nat.lt_or_ge Ss.length os.length with h | h
        · have h1 := (listed_both (htail Ss.length (Nat.le_refl _) h)).2
          rw [hall Ss.length h] at h1; cases h1
        · omega
      have := hF.ends hs hk (fun i hi => hall i (by omega)) (hend w hF.low)
      rw [hkn, List.drop_length] at this
      exact this
    · have hall := all_listed hz hw hr
      have hmn : m = os.length := by
        rcases Nat.lt_or_ge m os.length with h | h
        · have h1 := (listed_both (hm4 m (Nat.le_refl _) h)).2
          rw [hall m h] at h1; cases h1
        · omega
      subst hmn
      rw [List.drop_length] at hW
      exact hW
  · rintro listed a w i hi ⟨hz, hD, hI⟩
    obtain ⟨h1, o, ho, hp⟩ := ready_preds hi
    have hin : i < os.length := (List.getElem?_eq_some_iff.1 ho).1
    have hoA : os.toArray[i]? = some o := by simpa using ho
    have hz' : (listed.setIfInBounds i true).size = os.length := by rw [Array.size_setIfInBounds]; exact hz
    have hD' : Down os (listed.setIfInBounds i true) := by
      intro j o' ho' hl j' hj'
      by_cases e : j = i
      · subst e
        rw [ho] at ho'; cases ho'
        exact getD_set_true (hp j' hj')
      · rw [getD_set_ne false (Ne.symm e)] at hl
        exact getD_set_true (hD j o' ho' hl j' hj')
    -- one of those that come in the text's order
    have hlate : ∀ m, Ss.length ≤ m → i = m → (∀ j, j < m → listed.getD j false = true) → (∀ j, m ≤ j → j < os.length → listed.getD j true = false) → wpListIn F nf P os.toArray Q (os.drop m) a w →
        wpOpIn F nf P os.toArray Q i (fun a w => (listed.setIfInBounds i true).size = os.length ∧ Down os (listed.setIfInBounds i true) ∧ ((∀ j, Ss.length ≤ j → j < os.length → (listed.setIfInBounds i true).getD j true = false) ∧ Fr os Ss a0 w0 (listed.setIfInBounds i true) a w ∨
          ∃ m, Ss.length < m ∧ m ≤ os.length ∧ (∀ j, j < m → (listed.setIfInBounds i true).getD j false = true) ∧ (∀ j, m ≤ j → j < os.length → (listed.setIfInBounds i true).getD j true = false) ∧ wpListIn F nf P os.toArray Q (os.drop m) a w)) a w := by
      intro m hm e h2 h3 hW
      subst e
      have ed : os.drop i = o :: os.drop (i + 1) := by
        rw [List.drop_eq_getElem_cons hin]
        congr 1
        rw [List.getElem?_eq_getElem hin] at ho
        exact Option.some.inj ho
      rw [ed] at hW
      have hW' : wpOpIn F nf P os.toArray Q i (wpListIn F nf P os.toArray Q (os.drop (i + 1))) a w := by
        unfold wpOpIn
        rw [hoA]
        exact hW
      refine wpOpIn_mono (fun a' w' h' => ⟨hz', hD', .inr ⟨i + 1, by omega, hin, fun j hj => ?_, fun j hj hj2 => ?_, h'⟩⟩) hW'
      · by_cases e : j = i
        · subst e
          have hlt := (listed_both h1).1
          simp [hlt]
        · exact getD_set_true (h2 j (by omega))
      · rw [getD_set_ne true (by omega)]
        exact h3 j (by omega) hj2
    rcases hI with ⟨htail, hF⟩ | ⟨m, hm1, hm2, hm3, hm4, hW⟩
    · rcases Nat.lt_or_ge i Ss.length with hik | hik
      · have hS : Ss[i]? = some Ss[i] := List.getElem?_eq_getElem hik
        have hst := hsteps.get i o _ ho hS a w hF.low (fun k hk' => hF.old k hk') (fun j o' S' d hj ho' hS' hd' => by
          obtain ⟨v, e1, e2, _⟩ := hF.val j o' S' d ho' hS' (hp j hj) hd'
          exact ⟨v, e1, e2⟩)
        have hnext : ∀ v w', Below w.heap.size w w' → Ss[i].p w' v → (Ss[i].new = true → Ptr v w.heap.size w'.heap.size) → (listed.setIfInBounds i true).size = os.length ∧ Down os (listed.setIfInBounds i true) ∧ ((∀ j, Ss.length ≤ j → j < os.length → (listed.setIfInBounds i true).getD j true = false) ∧ Fr os Ss a0 w0 (listed.setIfInBounds i true) (a.put o.dst v) w' ∨
          ∃ m, Ss.length < m ∧ m ≤ os.length ∧ (∀ j, j < m → (listed.setIfInBounds i true).getD j false = true) ∧ (∀ j, m ≤ j → j < os.length → (listed.setIfInBounds i true).getD j true = false) ∧ wpListIn F nf P os.toArray Q (os.drop m) (a.put o.dst v) w') := fun v w' hB hp' hn' =>
          ⟨hz', hD', .inl ⟨fun j hj hj2 => by rw [getD_set_ne true (by omega)]; exact htail j hj hj2, hF.step hs ho hS hB hp' hn' h1⟩⟩
        unfold wpOpIn
        rw [hoA]
        simp only
        rcases hst with ⟨hw1, hw2⟩ | ⟨hw1, hw2, hw3⟩
        · rw [if_pos hw1]
          exact hop i o a w _ ho (Oper.wp_mono (fun a' w' ⟨v, e, hB, hp', hn'⟩ => by rw [e]; exact hnext v w' hB hp' hn') hw2)
        · rw [if_neg (by rw [hw1]; decide)]
          exact ⟨fun f _ => hfn f, hnext undef w (Below.refl _ _) hw2 (fun h => by rw [hw3] at h; cases h)⟩
      · have hbelow := covered hD ho hp (hcv i hik hin)
        have ei : i = Ss.length := by
          rcases Nat.lt_or_ge Ss.length i with h | h
          · have h2 := (listed_both (htail Ss.length (Nat.le_refl _) (by omega))).2
            rw [hbelow Ss.length h] at h2; cases h2
          · omega
        exact hlate Ss.length (Nat.le_refl _) ei (fun j hj => hbelow j (by omega)) htail (hF.ends hs hk (fun j hj => hbelow j (by omega)) (hend w hF.low))
    · have him : m ≤ i := by
        rcases Nat.lt_or_ge i m with h | h
        · have h2 := (listed_both h1).2
          rw [hm3 i h] at h2; cases h2
        · exact h
      have hbelow := covered hD ho hp (hcv i (by omega) hin)
      have ei : i = m := by
        rcases Nat.lt_or_ge m i with h | h
        · have h2 := (listed_both (hm4 m (Nat.le_refl _) (by omega))).2
          rw [hbelow m h] at h2; cases h2
        · omega
      exact hlate m (by omega) ei hm3 hm4 hW
  · simpa using missing_le _ _
  · have hf : ∀ i, i < os.length → (Array.replicate os.length false).getD i true = false := fun i hi => by simp [hi]
    have hf2 : ∀ i, ¬ (Array.replicate os.length false).getD i false = true := fun i => by
      by_cases hi : i < os.length
      · simp [hi]
      · simp [hi]
    exact ⟨by simp, fun i o _ h => absurd h (hf2 i), .inl ⟨fun j _ hj => hf j hj, h01, rfl, rfl, fun _ _ => rfl, fun i _ _ _ _ _ h => absurd h (hf2 i), fun i _ _ _ _ _ _ _ _ _ _ _ _ _ _ h => absurd h (hf2 i)⟩⟩

section
variable {P : Program} {n id : Nat} {os : List Oper} {Q : Exit → Act → World → Prop} {a0 : Act} {w0 : World}

theorem wpIn_region_plan (Ss : List Sp) (hm : P.follows .mixedOrders = true) (hc : planOk os Ss.length a0.tmps.size = true)
    (hsteps : StepsP (StepOk P os Ss Q a0 w0) os Ss)
    (hend : ∀ w, Below w0.heap.size w0 w → EndP w0.heap.size w (fun a => wpListIn Fence.wide n P os.toArray Q (os.drop Ss.length) a w) os Ss [] a0) :
    (Code.region id os.toArray true).wpIn Fence.wide n P Q a0 w0 :=
  wpIn_region_any hm (by rw [List.size_toArray]; exact wpAnyIn_plan (w0 := w0) (w1 := w0.drew) ⟨rfl, rfl, rfl, Nat.le_refl _, fun _ _ => rfl⟩ (fun _ => trivial) (fun _ _ _ _ _ _ h => opIn_wide h) Ss hc hsteps hend)

theorem wpIn_round_plan {l : Nat} (Ss : List Sp) (hm : P.follows .mixedOrders = true) (hc : planOk os Ss.length a0.tmps.size = true) (hd : plainOps os = true)
    (hsteps : StepsP (StepOk P os Ss Q a0 w0) os Ss)
    (hend : ∀ w, Below w0.heap.size w0 w → EndP w0.heap.size w (fun a => wpListIn (Fence.wide.inRound l) n P os.toArray Q (os.drop Ss.length) a w) os Ss [] a0) :
    (Code.region id os.toArray true).wpIn (Fence.wide.inRound l) n P Q a0 w0 :=
  wpIn_region_any hm (by rw [List.size_toArray]; exact wpAnyIn_plan (w0 := w0) (w1 := w0.drew) ⟨rfl, rfl, rfl, Nat.le_refl _, fun _ _ => rfl⟩ (fun _ => trivial) (fun i o _ _ _ ho h => opIn_round (plainOps_spec hd i o (by simpa using ho)) (opIn_wide h)) Ss hc hsteps hend)
end

end Go.Proofs.Ytohaopfpjkhheaa
