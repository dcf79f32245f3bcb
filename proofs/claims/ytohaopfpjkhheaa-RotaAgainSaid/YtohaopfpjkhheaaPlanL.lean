/-
  A region that draws its order and ends with a store, which need not wait for one operation ahead of it that only takes a value apart (a late store): by a plan, within a fence.
-/
import Derived.Test.YtohaopfpjkhheaaPlanIn
namespace Go.Proofs.Ytohaopfpjkhheaa
open Go.RowKit

/-- All that come ahead of place j in the text, but for ℓ, are waited for by it. -/
def coversBut (ℓ : Nat) (os : List Oper) (j : Nat) : Bool := (List.range j).all fun i => decide (i = ℓ) || (predsAt os j).contains i || (List.range j).any fun i' => decide (i < i') && decide (i' ≠ ℓ) && (predsAt os i').contains i
def planOkL (os : List Oper) (k ℓ n : Nat) : Bool := decide (k < os.length) && decide (ℓ < k) && ahead0 os && slotsOk (os.take k) n && coversBut ℓ os k && (List.range os.length).all fun j => decide (j ≤ k) || covers os j

theorem coveredBut {ℓ : Nat} {os : List Oper} {listed : Array Bool} {j : Nat} {o : Oper} (hd : Down os listed) (ho : os[j]? = some o) (hp : ∀ i ∈ preds o, listed.getD i false = true) (hc : coversBut ℓ os j = true) : ∀ i, i < j → i ≠ ℓ → listed.getD i false = true := by
  have key : ∀ n i, j - i ≤ n → i < j → i ≠ ℓ → listed.getD i false = true := by
    intro n
    induction n with
    | zero => intro i h1 h2; omega
    | succ n ih =>
      intro i h1 h2 hne
      unfold coversBut at hc
      rw [List.all_eq_true] at hc
      have := hc i (List.mem_range.2 h2)
      rw [Bool.or_eq_true, Bool.or_eq_true, decide_eq_true_eq] at this
      rcases this with (h | h) | h
      · exact absurd h hne
      · rw [List.contains_iff_mem] at h
        simp only [predsAt, ho, Option.map_some, Option.getD_some] at h
        exact hp i h
      · rw [List.any_eq_true] at h
        obtain ⟨i', h3, h4⟩ := h
        rw [Bool.and_eq_true, Bool.and_eq_true, decide_eq_true_eq, decide_eq_true_eq, List.contains_iff_mem] at h4
        have h5 := List.mem_range.1 h3
        have h6 := ih i' (by omega) h5 h4.1.2
        cases ho' : os[i']? with
        | none => simp [predsAt, ho'] at h4
        | some o' =>
          simp only [predsAt, ho', Option.map_some, Option.getD_some] at h4
          exact hd i' o' ho' h6 i h4.2
  exact fun i hi hne => key (j - i) i (Nat.le_refl _) hi hne

theorem wpAnyIn_planL {F : Fence} {nf : Nat} {P : Program} {os : List Oper} {Q : Exit → Act → World → Prop} {a0 : Act} {w0 w1 : World} (h01 : Below w0.heap.size w0 w1) (hfn : ∀ f, F.fn f)
    (hop : ∀ (i : Nat) (o : Oper) (a : Act) (w : World) (K : Act → World → Prop), os[i]? = some o → o.wp P a w K Q → o.wpIn F nf P a w K Q) (Ss : List Sp) (ℓ : Nat) {oℓ ok : Oper} {c : Value} {dℓ : Tmp} (hc : planOkL os Ss.length ℓ a0.tmps.size = true)
    (hoℓ : os[ℓ]? = some oℓ) (hSℓ : Ss[ℓ]? = some (is c)) (hdℓ : oℓ.dst = some dℓ) (hgℓ : oℓ.guard = none) (hok : os[Ss.length]? = some ok) (hgk : ok.guard = none) (hdk : ok.dst = none)
    (hrun : ∀ (a : Act) (w : World), (∀ j o' S' d, j ∈ preds oℓ → os[j]? = some o' → Ss[j]? = some S' → o'.dst = some d → ∃ v, a.tmps[d]? = some v ∧ S'.p w v) → ∀ w', (execOp a.eval oℓ).run P w' = .ok (.value c) w')
    (hind : ∀ a : Act, execOp (a.put (some dℓ) c).eval ok = execOp a.eval ok)
    (hsteps : StepsP (StepOk P os Ss Q a0 w0) os Ss)
    (hend : ∀ w, Below w0.heap.size w0 w → EndP w0.heap.size w (fun a => ∃ w', (execOp a.eval ok).run P w = .ok .skip w' ∧ wpListIn F nf P os.toArray Q (os.drop (Ss.length + 1)) a w') os Ss [] a0) :
    wpAnyIn F nf P .any os.toArray Q os.length (Array.replicate os.length false) a0 w1 := by
  unfold planOkL at hc
  rw [Bool.and_eq_true, Bool.and_eq_true, Bool.and_eq_true, Bool.and_eq_true, Bool.and_eq_true, decide_eq_true_eq, decide_eq_true_eq, List.all_eq_true] at hc
  obtain ⟨⟨⟨⟨⟨hk, hℓk⟩, hw⟩, hs⟩, hcb⟩, hcov⟩ := hc
  have hcv : ∀ j, Ss.length < j → j < os.length → covers os j = true := fun j h1 h2 => by
    have := hcov j (List.mem_range.2 h2)
    rw [Bool.or_eq_true, decide_eq_true_eq] at this
    rcases this with h | h
    · omega
    · exact h
  have hwant : ∀ (o : Oper) (a : Act), o.guard = none → Region.wanted o (yielded os.toArray a.tmps) = true := fun o a h => by unfold Region.wanted; rw [h]
  refine wpAnyIn_inv (fun listed a w => listed.size = os.length ∧ Down os listed ∧ ((∀ j, Ss.length ≤ j → j < os.length → listed.getD j true = false) ∧ Fr os Ss a0 w0 listed a w ∨
      (∃ m, Ss.length < m ∧ m ≤ os.length ∧ (∀ j, j < m → listed.getD j false = true) ∧ (∀ j, m ≤ j → j < os.length → listed.getD j true = false) ∧ wpListIn F nf P os.toArray Q (os.drop m) a w) ∨
      ((∀ j, j ≤ Ss.length → j ≠ ℓ → listed.getD j false = true) ∧ listed.getD ℓ true = false ∧ (∀ j, Ss.length < j → j < os.length → listed.getD j true = false) ∧ (∀ w', (execOp a.eval oℓ).run P w' = .ok (.value c) w') ∧ wpListIn F nf P os.toArray Q (os.drop (Ss.length + 1)) (a.put (some dℓ) c) w))) ?_ ?_ _ _ _ _ ?_ ?_
  · rintro listed a w hr ⟨hz, hD, ⟨htail, hF⟩ | ⟨m, hm1, hm2, hm3, hm4, hW⟩ | ⟨_, hℓ, _⟩⟩
    · have hall := all_listed hz hw hr
      have h1 := (listed_both (htail Ss.length (Nat.le_refl _) hk)).2
      rw [hall Ss.length hk] at h1; cases h1
    · have hall := all_listed hz hw hr
      have hmn : m = os.length := by
        rcases Nat.lt_or_ge m os.length with h | h
        · have h1 := (listed_both (hm4 m (Nat.le_refl _) h)).2
          rw [hall m h] at h1; cases h1
        · omega
      subst hmn
      rw [List.drop_length] at hW
      exact hW
    · have hall := all_listed hz hw hr
      have h1 := (listed_both hℓ).2
      rw [hall ℓ (by omega)] at h1; cases h1
  · rintro listed a w i hi ⟨hz, hD, hI⟩
    obtain ⟨h1, o, ho, hp⟩ := ready_preds hi
    have hin : i < os.length := (List.getElem?_eq_some_iff.1 ho).1
    have hoA : os.toArray[i]? = some o := by simpa using ho
    have hz' : (listed.setIfInBounds i true).size = os.length := by rw [Array.size_setIfInBounds]; exact hz
    have hD' : Down os (listed.setIfInBounds i true) := by
      intro j o' ho' hl j' hj'
      by_cases e : j = i
      · subst e
        rw [ho] at ho'; cases ho'
        exact getD_set_true (hp j' hj')
      · rw [getD_set_ne false (Ne.symm e)] at hl
        exact getD_set_true (hD j o' ho' hl j' hj')
    have hself : (listed.setIfInBounds i true).getD i false = true := by
      have hlt := (listed_both h1).1
      simp [hlt]
    rcases hI with ⟨htail, hF⟩ | ⟨m, hm1, hm2, hm3, hm4, hW⟩ | ⟨hC1, hC2, hC3, hC4, hC5⟩
    · rcases Nat.lt_or_ge i Ss.length with hik | hik
      · have hS : Ss[i]? = some Ss[i] := List.getElem?_eq_getElem hik
        have hst := hsteps.get i o _ ho hS a w hF.low (fun k hk' => hF.old k hk') (fun j o' S' d hj ho' hS' hd' => by
          obtain ⟨v, e1, e2, _⟩ := hF.val j o' S' d ho' hS' (hp j hj) hd'
          exact ⟨v, e1, e2⟩)
        have hnext : ∀ v w', Below w.heap.size w w' → Ss[i].p w' v → (Ss[i].new = true → Ptr v w.heap.size w'.heap.size) → _ := fun v w' hB hp' hn' =>
          (⟨fun j hj hj2 => by rw [getD_set_ne true (by omega)]; exact htail j hj hj2, hF.step hs ho hS hB hp' hn' h1⟩ : (∀ j, Ss.length ≤ j → j < os.length → (listed.setIfInBounds i true).getD j true = false) ∧ Fr os Ss a0 w0 (listed.setIfInBounds i true) (a.put o.dst v) w')
        unfold wpOpIn
        rw [hoA]
        simp only
        rcases hst with ⟨hw1, hw2⟩ | ⟨hw1, hw2, hw3⟩
        · rw [if_pos hw1]
          exact hop i o a w _ ho (Oper.wp_mono (fun a' w' ⟨v, e, hB, hp', hn'⟩ => by rw [e]; exact ⟨hz', hD', .inl (hnext v w' hB hp' hn')⟩) hw2)
        · rw [if_neg (by rw [hw1]; decide)]
          exact ⟨fun f _ => hfn f, hz', hD', .inl (hnext undef w (Below.refl _ _) hw2 (fun h => by rw [hw3] at h; cases h))⟩
      · have ei : i = Ss.length := by
          rcases Nat.lt_or_ge Ss.length i with h | h
          · have h2 := (listed_both (htail Ss.length (Nat.le_refl _) (by omega))).2
            rw [covered hD ho hp (hcv i h hin) Ss.length h] at h2; cases h2
          · omega
        subst ei
        rw [hok] at ho
        cases ho
        have hbut := coveredBut hD hok hp hcb
        unfold wpOpIn
        rw [hoA]
        simp only
        rw [if_pos (hwant ok a hgk)]
        by_cases hl : listed.getD ℓ false = true
        · have hall : ∀ j, j < Ss.length → listed.getD j false = true := fun j hj => by
            by_cases e : j = ℓ
            · rw [e]; exact hl
            · exact hbut j hj e
          obtain ⟨w', hr, hW⟩ := hF.ends hs (Nat.le_of_lt hk) hall (hend w hF.low)
          refine hop _ ok a w _ hok ?_
          unfold Oper.wp
          rw [hr]
          show _ ∧ _ ∧ _
          rw [hdk]
          refine ⟨hz', hD', .inr (.inl ⟨Ss.length + 1, Nat.lt_succ_self _, hk, fun j hj => ?_, fun j hj hj2 => ?_, hW⟩)⟩
          · by_cases e : j = Ss.length
            · rw [e]; exact hself
            · exact getD_set_true (hall j (by omega))
          · rw [getD_set_ne true (by omega)]
            exact htail j (by omega) hj2
        · have hl' : listed.getD ℓ true = false := not_listed (by rw [hz]; omega) hl
          have hrl := hrun a w (fun j o' S' d hj ho' hS' hd' => by
            have hjl : listed.getD j false = true := by
              have hjℓ : j < ℓ := by
                unfold ahead0 at hw
                rw [List.all_eq_true] at hw
                have h2 := hw ℓ (List.mem_range.2 (by omega))
                rw [List.all_eq_true] at h2
                exact of_decide_eq_true (h2 j (by simp only [predsAt, hoℓ, Option.map_some, Option.getD_some]; exact hj))
              exact hbut j (by omega) (by omega)
            obtain ⟨v, e1, e2, _⟩ := hF.val j o' S' d ho' hS' hjl hd'
            exact ⟨v, e1, e2⟩)
          have hF2 := hF.step hs hoℓ hSℓ (v := c) (Below.refl _ w) rfl (fun h => by cases h) hl'
          rw [hdℓ] at hF2
          have hlℓ : (listed.setIfInBounds ℓ true).getD ℓ false = true := by
            have hlt := (listed_both hl').1
            simp [hlt]
          obtain ⟨w', hr, hW⟩ := hF2.ends hs (Nat.le_of_lt hk) (fun j hj => by
            by_cases e : j = ℓ
            · rw [e]; exact hlℓ
            · exact getD_set_true (hbut j hj e)) (hend w hF2.low)
          rw [hind] at hr
          refine hop _ ok a w _ hok ?_
          unfold Oper.wp
          rw [hr]
          show _ ∧ _ ∧ _
          rw [hdk]
          refine ⟨hz', hD', .inr (.inr ⟨fun j hj hne => ?_, ?_, fun j hj hj2 => ?_, hrl, hW⟩)⟩
          · by_cases e : j = Ss.length
            · rw [e]; exact hself
            · exact getD_set_true (hbut j (by omega) hne)
          · rw [getD_set_ne true (by omega)]
            exact hl'
          · rw [getD_set_ne true (by omega)]
            exact htail j (by omega) hj2
    · have him : m ≤ i := by
        rcases Nat.lt_or_ge i m with h | h
        · have h2 := (listed_both h1).2
          rw [hm3 i h] at h2; cases h2
        · exact h
      have hbelow := covered hD ho hp (hcv i (by omega) hin)
      have ei : i = m := by
        rcases Nat.lt_or_ge m i with h | h
        · have h2 := (listed_both (hm4 m (Nat.le_refl _) (by omega))).2
          rw [hbelow m h] at h2; cases h2
        · omega
      subst ei
      have ed : os.drop i = o :: os.drop (i + 1) := by
        rw [List.drop_eq_getElem_cons hin]
        congr 1
        rw [List.getElem?_eq_getElem hin] at ho
        exact Option.some.inj ho
      rw [ed] at hW
      have hW' : wpOpIn F nf P os.toArray Q i (wpListIn F nf P os.toArray Q (os.drop (i + 1))) a w := by
        unfold wpOpIn
        rw [hoA]
        exact hW
      refine wpOpIn_mono (fun a' w' h' => ⟨hz', hD', .inr (.inl ⟨i + 1, by omega, hin, fun j hj => ?_, fun j hj hj2 => ?_, h'⟩)⟩) hW'
      · by_cases e : j = i
        · rw [e]; exact hself
        · exact getD_set_true (hm3 j (by omega))
      · rw [getD_set_ne true (by omega)]
        exact hm4 j (by omega) hj2
    · have ei : i = ℓ := by
        rcases Nat.lt_or_ge Ss.length i with h | h
        · have h2 := (listed_both hC2).2
          rw [covered hD ho hp (hcv i h hin) ℓ (by omega)] at h2; cases h2
        · refine Classical.byContradiction fun hne => ?_
          have h2 := (listed_both h1).2
          rw [hC1 i h hne] at h2; cases h2
      subst ei
      rw [hoℓ] at ho
      cases ho
      unfold wpOpIn
      rw [hoA]
      simp only
      rw [if_pos (hwant oℓ a hgℓ)]
      refine hop _ oℓ a w _ hoℓ ?_
      unfold Oper.wp
      rw [hC4 w]
      show _ ∧ _ ∧ _
      rw [hdℓ]
      refine ⟨hz', hD', .inr (.inl ⟨Ss.length + 1, Nat.lt_succ_self _, hk, fun j hj => ?_, fun j hj hj2 => ?_, hC5⟩)⟩
      · by_cases e : j = i
        · rw [e]; exact hself
        · exact getD_set_true (hC1 j (by omega) e)
      · rw [getD_set_ne true (by omega)]
        exact hC3 j (by omega) hj2
  · simpa using missing_le _ _
  · have hf : ∀ i, i < os.length → (Array.replicate os.length false).getD i true = false := fun i hi => by simp [hi]
    have hf2 : ∀ i, ¬ (Array.replicate os.length false).getD i false = true := fun i => by
      by_cases hi : i < os.length
      · simp [hi]
      · simp [hi]
    exact ⟨by simp, fun i o _ h => absurd h (hf2 i), .inl ⟨fun j _ hj => hf j hj, h01, rfl, rfl, fun _ _ => rfl, fun i _ _ _ _ _ h => absurd h (hf2 i), fun i _ _ _ _ _ _ _ _ _ _ _ _ _ _ h => absurd h (hf2 i)⟩⟩

section
variable {P : Program} {n id : Nat} {os : List Oper} {Q : Exit → Act → World → Prop} {a0 : Act} {w0 : World}

theorem wpIn_region_planL (Ss : List Sp) (ℓ : Nat) {oℓ ok : Oper} {c : Value} {dℓ : Tmp} (hm : P.follows .mixedOrders = true) (hc : planOkL os Ss.length ℓ a0.tmps.size = true)
    (hoℓ : os[ℓ]? = some oℓ) (hSℓ : Ss[ℓ]? = some (is c)) (hdℓ : oℓ.dst = some dℓ) (hgℓ : oℓ.guard = none) (hok : os[Ss.length]? = some ok) (hgk : ok.guard = none) (hdk : ok.dst = none)
    (hrun : ∀ (a : Act) (w : World), (∀ j o' S' d, j ∈ preds oℓ → os[j]? = some o' → Ss[j]? = some S' → o'.dst = some d → ∃ v, a.tmps[d]? = some v ∧ S'.p w v) → ∀ w', (execOp a.eval oℓ).run P w' = .ok (.value c) w')
    (hind : ∀ a : Act, execOp (a.put (some dℓ) c).eval ok = execOp a.eval ok)
    (hsteps : StepsP (StepOk P os Ss Q a0 w0) os Ss)
    (hend : ∀ w, Below w0.heap.size w0 w → EndP w0.heap.size w (fun a => ∃ w', (execOp a.eval ok).run P w = .ok .skip w' ∧ wpListIn Fence.wide n P os.toArray Q (os.drop (Ss.length + 1)) a w') os Ss [] a0) :
    (Code.region id os.toArray true).wpIn Fence.wide n P Q a0 w0 :=
  wpIn_region_any hm (by rw [List.size_toArray]; exact wpAnyIn_planL (w0 := w0) (w1 := w0.drew) ⟨rfl, rfl, rfl, Nat.le_refl _, fun _ _ => rfl⟩ (fun _ => trivial) (fun _ _ _ _ _ _ h => opIn_wide h) Ss ℓ hc hoℓ hSℓ hdℓ hgℓ hok hgk hdk hrun hind hsteps hend)
end

section
variable {P : Program} {os : List Oper} {Ss : List Sp} {Q : Exit → Act → World → Prop} {a0 : Act} {w0 : World} {o : Oper} {S : Sp}
/-- A new variable, of whatever kind. -/
theorem step_new (h : ∀ (a : Act) (w : World), Region.wanted o (yielded os.toArray a.tmps) = true ∧ ∃ w', (execOp a.eval o).run P w = .ok (.value (.pointer (some ⟨w.heap.size, 0, none⟩))) w' ∧ Below w.heap.size w w' ∧ w.heap.size < w'.heap.size ∧ S.p w' (.pointer (some ⟨w.heap.size, 0, none⟩))) : StepOk P os Ss Q a0 w0 o S := by
  intro a w hB O D
  obtain ⟨h1, w', h2, h3, h4, h5⟩ := h a w
  refine .inl ⟨h1, ?_⟩
  unfold Oper.wp
  rw [h2]
  exact ⟨_, rfl, h3, h5, fun _ => ⟨_, rfl, Nat.le_refl _, h4⟩⟩
end

/-- A new variable of one cell. -/
def spVar1 (t : TypeId) (z : Value) : Sp := ⟨fun w v => ∃ g, v = .pointer (some ⟨g, 0, none⟩) ∧ w.heap[g]? = some (.cells #[z] t (0, 0)), true, fun _ _ _ hb ⟨g, e, h⟩ => ⟨g, e, (hb.block g (Array.getElem?_eq_some_iff.1 h).1).trans h⟩⟩

/-- A store does not look at a slot that it does not name. -/
theorem store_blind {o : Oper} {t : TypeId} {i j : Nat} {d : Tmp} {c : Value} (ho : o.op = .store t (.tmp i) (.tmp j)) (hi : d ≠ i) (hj : d ≠ j) (a : Act) : execOp (a.put (some d) c).eval o = execOp a.eval o := by
  have e : ∀ k, d ≠ k → (a.put (some d) c).eval (.tmp k) = a.eval (.tmp k) := fun k hk => by
    show (a.tmps.setIfInBounds d c).getD k undef = a.tmps.getD k undef
    simp [hk]
  unfold execOp
  rw [ho]
  simp only [e i hi, e j hj]

end Go.Proofs.Ytohaopfpjkhheaa
