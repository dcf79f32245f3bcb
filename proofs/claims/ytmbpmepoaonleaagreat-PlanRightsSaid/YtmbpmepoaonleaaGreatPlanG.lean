/-
  A region that draws its order, amid whose operations one appends to what the call made itself: all that it waits for comes ahead of it; one operation more may come ahead of it or behind it, and leaves its value in any world; the rest, which wait for all others, come in the text's order.
-/
import Derived.Test.YtmbpmepoaonleaaGreatPlan
namespace Go.Proofs.YtmbpmepoaonleaaGreat
open Go.RowKit

/-- Whatever it left. -/
def anySp : Sp := ⟨fun _ _ => True, false, fun _ _ _ _ _ => trivial⟩
theorem EndP.any {n0 : Nat} {w : World} {G : Act → Prop} {o : Oper} {os : List Oper} {Ss : List Sp} {news : List Value} {a : Act} (h : ∀ v, EndP n0 w G os Ss news (a.put o.dst v)) : EndP n0 w G (o :: os) (anySp :: Ss) news a :=
  EndP.sp rfl fun v _ => h v

def growOk (os : List Oper) (k n : Nat) : Bool := decide (k + 2 ≤ os.length) && ahead0 os && slotsOk (os.take (k + 2)) n && covers os k && (List.range os.length).all fun j => decide (j < k + 2) || covers os j

theorem wpAny_grow {P : Program} {os : List Oper} {Q : Exit → Act → World → Prop} {a0 : Act} {w0 w1 : World} (h01 : Below w0.heap.size w0 w1) (k : Nat) (Ss Ss2 : List Sp) (SA : Sp) (hc : growOk os k a0.tmps.size = true) (hl1 : Ss.length = k + 2) (hl2 : Ss2.length = k + 2)
    (hsteps : ∀ i o S, i ≠ k → os[i]? = some o → Ss[i]? = some S → StepOk P os Ss Q a0 w0 o S)
    (happ : ∀ o, os[k]? = some o → ∀ (a : Act) (w : World), Below w0.heap.size w0 w → (∀ k, noDst (os.take Ss.length) k = true → a.tmps[k]? = a0.tmps[k]?) → (∀ j o' S' d, j ∈ preds o → os[j]? = some o' → Ss[j]? = some S' → o'.dst = some d → ∃ v, a.tmps[d]? = some v ∧ S'.p w v) →
      Region.wanted o (yielded os.toArray a.tmps) = true ∧ o.wp P a w (fun a' w' => ∃ v, a' = a.put o.dst v ∧ SA.p w' v) Q)
    (hSA : Ss2[k]? = some SA) (hnew : SA.new = false)
    (h12 : ∀ i S S2, i ≠ k → Ss[i]? = some S → Ss2[i]? = some S2 → S2.new = false ∧ ∀ w w' v, S.p w v → S2.p w' v)
    (hfree : ∀ o S2, os[k + 1]? = some o → Ss2[k + 1]? = some S2 → ∀ (a : Act) (w : World), (∀ k, noDst (os.take Ss.length) k = true → a.tmps[k]? = a0.tmps[k]?) →
      Region.wanted o (yielded os.toArray a.tmps) = true ∧ o.wp P a w (fun a' w' => ∃ v, a' = a.put o.dst v ∧ w' = w ∧ S2.p w v) Q)
    (hend : ∀ w, EndP w.heap.size w (fun a => wpList P os.toArray Q (os.drop (k + 2)) a w) os Ss2 [] a0) :
    wpAny P .any os.toArray Q os.length (Array.replicate os.length false) a0 w1 := by
  unfold growOk at hc
  rw [Bool.and_eq_true, Bool.and_eq_true, Bool.and_eq_true, Bool.and_eq_true, decide_eq_true_eq, List.all_eq_true] at hc
  obtain ⟨⟨⟨⟨hk, hw⟩, hs⟩, hck⟩, hcov⟩ := hc
  have hs1 : slotsOk (os.take Ss.length) a0.tmps.size = true := by rw [hl1]; exact hs
  have hs2 : slotsOk (os.take Ss2.length) a0.tmps.size = true := by rw [hl2]; exact hs
  have hcv : ∀ j, k + 2 ≤ j → j < os.length → covers os j = true := fun j h1 h2 => by
    have := hcov j (List.mem_range.2 h2)
    rw [Bool.or_eq_true, decide_eq_true_eq] at this
    rcases this with h | h
    · omega
    · exact h
  refine wpAny_inv (fun listed a w => listed.size = os.length ∧ Down os listed ∧ (
      (listed.getD k true = false ∧ (∀ j, k + 2 ≤ j → j < os.length → listed.getD j true = false) ∧ Fr os Ss a0 w0 listed a w) ∨
      ((∀ j, j ≤ k → listed.getD j false = true) ∧ (∀ j, k + 2 ≤ j → j < os.length → listed.getD j true = false) ∧ Fr os Ss2 a0 w listed a w) ∨
      ∃ m, k + 2 < m ∧ m ≤ os.length ∧ (∀ j, j < m → listed.getD j false = true) ∧ (∀ j, m ≤ j → j < os.length → listed.getD j true = false) ∧ wpList P os.toArray Q (os.drop m) a w)) ?_ ?_ _ _ _ _ ?_ ?_
  · rintro listed a w hr ⟨hz, hD, ⟨hka, _, _⟩ | ⟨_, htail, hF⟩ | ⟨m, hm1, hm2, hm3, hm4, hW⟩⟩
    · have h1 := (listed_both hka).2
      rw [all_listed hz hw hr k (by omega)] at h1; cases h1
    · have hall := all_listed hz hw hr
      have hkn : k + 2 = os.length := by
        rcases Nat.lt_or_ge (k + 2) os.length with h | h
        · have h1 := (listed_both (htail (k + 2) (Nat.le_refl _) h)).2
          rw [hall (k + 2) h] at h1; cases h1
        · omega
      have := hF.ends hs2 (by omega) (fun i hi => hall i (by omega)) (hend w)
      rw [hkn, List.drop_length] at this
      exact this
    · have hall := all_listed hz hw hr
      have hmn : m = os.length := by
        rcases Nat.lt_or_ge m os.length with h | h
        · have h1 := (listed_both (hm4 m (Nat.le_refl _) h)).2
          rw [hall m h] at h1; cases h1
        · omega
      subst hmn
      rw [List.drop_length] at hW
      exact hW
  · rintro listed a w i hi ⟨hz, hD, hI⟩
    obtain ⟨h1, o, ho, hp⟩ := ready_preds hi
    have hin : i < os.length := (List.getElem?_eq_some_iff.1 ho).1
    have hoA : os.toArray[i]? = some o := by simpa using ho
    have hz' : (listed.setIfInBounds i true).size = os.length := by rw [Array.size_setIfInBounds]; exact hz
    have hD' : Down os (listed.setIfInBounds i true) := by
      intro j o' ho' hl j' hj'
      by_cases e : j = i
      · subst e
        rw [ho] at ho'; cases ho'
        exact getD_set_true (hp j' hj')
      · rw [getD_set_ne false (Ne.symm e)] at hl
        exact getD_set_true (hD j o' ho' hl j' hj')
    -- one of those that come in the text's order
    have hlate : ∀ m, k + 2 ≤ m → i = m → (∀ j, j < m → listed.getD j false = true) → (∀ j, m ≤ j → j < os.length → listed.getD j true = false) → wpList P os.toArray Q (os.drop m) a w →
        wpOp P os.toArray Q i (fun a w => (listed.setIfInBounds i true).size = os.length ∧ Down os (listed.setIfInBounds i true) ∧ (
          ((listed.setIfInBounds i true).getD k true = false ∧ (∀ j, k + 2 ≤ j → j < os.length → (listed.setIfInBounds i true).getD j true = false) ∧ Fr os Ss a0 w0 (listed.setIfInBounds i true) a w) ∨
          ((∀ j, j ≤ k → (listed.setIfInBounds i true).getD j false = true) ∧ (∀ j, k + 2 ≤ j → j < os.length → (listed.setIfInBounds i true).getD j true = false) ∧ Fr os Ss2 a0 w (listed.setIfInBounds i true) a w) ∨
          ∃ m, k + 2 < m ∧ m ≤ os.length ∧ (∀ j, j < m → (listed.setIfInBounds i true).getD j false = true) ∧ (∀ j, m ≤ j → j < os.length → (listed.setIfInBounds i true).getD j true = false) ∧ wpList P os.toArray Q (os.drop m) a w)) a w := by
      intro m hm e h2 h3 hW
      subst e
      have ed : os.drop i = o :: os.drop (i + 1) := by
        rw [List.drop_eq_getElem_cons hin]
        congr 1
        rw [List.getElem?_eq_getElem hin] at ho
        exact Option.some.inj ho
      rw [ed] at hW
      have hW' : wpOp P os.toArray Q i (wpList P os.toArray Q (os.drop (i + 1))) a w := by
        unfold wpOp
        rw [hoA]
        exact hW
      refine wpOp_mono (fun a' w' h' => ⟨hz', hD', .inr (.inr ⟨i + 1, by omega, hin, fun j hj => ?_, fun j hj hj2 => ?_, h'⟩)⟩) hW'
      · by_cases e : j = i
        · subst e
          have hlt := (listed_both h1).1
          simp [hlt]
        · exact getD_set_true (h2 j (by omega))
      · rw [getD_set_ne true (by omega)]
        exact h3 j (by omega) hj2
    rcases hI with ⟨hka, htail, hF⟩ | ⟨hall, htail, hF⟩ | ⟨m, hm1, hm2, hm3, hm4, hW⟩
    · -- ahead of the append
      have hvals : ∀ j o' S' d, j ∈ preds o → os[j]? = some o' → Ss[j]? = some S' → o'.dst = some d → ∃ v, a.tmps[d]? = some v ∧ S'.p w v := fun j o' S' d hj ho' hS' hd' => by
        obtain ⟨v, e1, e2, _⟩ := hF.val j o' S' d ho' hS' (hp j hj) hd'
        exact ⟨v, e1, e2⟩
      by_cases hik : i = k
      · subst hik
        obtain ⟨hwt, hst⟩ := happ o ho a w hF.low (fun k hk' => hF.old k hk') hvals
        have hbelow := covered hD ho hp hck
        unfold wpOp
        rw [hoA]
        simp only
        rw [if_pos hwt]
        refine .inl (Oper.wp_mono (fun a' w' ⟨v, e, hp'⟩ => ?_) hst)
        subst e
        obtain ⟨d, hd, hdn⟩ := slots hs ((take_get (by omega)).trans ho)
        have hlt := (listed_both h1).1
        refine ⟨hz', hD', .inr (.inl ⟨fun j hj => ?_, fun j hj hj2 => by rw [getD_set_ne true (by omega)]; exact htail j hj hj2, ?_⟩)⟩
        · by_cases e : j = i
          · subst e
            simp [hlt]
          · exact getD_set_true (hbelow j (by omega))
        · refine ⟨Below.refl _ _, ?_, ?_, fun q hq => ?_, fun j o' S' d' ho' hS' hlj hd' => ?_, fun j j' o1 o2 S1 S2 d1 d2 u1 u2 hne q1 q2 q3 q4 q5 q6 q7 q8 q9 q10 q11 q12 => ?_⟩
          · rw [hd]; exact hF.defers
          · rw [hd]
            show (a.tmps.setIfInBounds d v).size = _
            rw [Array.size_setIfInBounds]; exact hF.size
          · rw [hl2, ← hl1] at hq
            rw [hd, put_ne ?_]
            · exact hF.old q hq
            · intro e
              unfold noDst at hq
              rw [List.all_eq_true] at hq
              have := hq o (List.mem_of_getElem? ((take_get (by omega)).trans ho))
              rw [hd, e] at this
              simp at this
          · by_cases e : j = i
            · subst e
              rw [ho] at ho'; cases ho'
              rw [hSA] at hS'; cases hS'
              rw [hd] at hd'; cases hd'
              exact ⟨v, by rw [hd, put_eq (by rw [hF.size]; exact hdn)], hp', fun hn' => by rw [hnew] at hn'; cases hn'⟩
            · have hj2 : j < i + 2 := by have := (List.getElem?_eq_some_iff.1 hS').1; omega
              have hS : Ss[j]? = some (Ss[j]'(by omega)) := List.getElem?_eq_getElem (by omega)
              obtain ⟨g1, g2⟩ := h12 j _ S' e hS hS'
              rw [getD_set_ne false (Ne.symm e)] at hlj
              obtain ⟨u, hu, hpu, _⟩ := hF.val j o' _ d' ho' hS hlj hd'
              refine ⟨u, ?_, g2 _ _ _ hpu, fun hn' => by rw [g1] at hn'; cases hn'⟩
              rw [hd, put_ne (slots_ne hs ((take_get (by omega)).trans ho) ((take_get (by omega)).trans ho') (Ne.symm e) hd hd')]
              exact hu
          · exfalso
            by_cases e : j = i
            · subst e
              rw [hSA] at q3; cases q3
              rw [hnew] at q7; cases q7
            · have hj2 : j < i + 2 := by have := (List.getElem?_eq_some_iff.1 q3).1; omega
              have hS : Ss[j]? = some (Ss[j]'(by omega)) := List.getElem?_eq_getElem (by omega)
              rw [(h12 j _ S1 e hS q3).1] at q7; cases q7
      · have hik2 : i < k + 2 := by
          rcases Nat.lt_or_ge i (k + 2) with h | h
          · exact h
          · have h2 := covered hD ho hp (hcv i h hin) k (by omega)
            rw [(listed_both hka).2] at h2; cases h2
        have hS : Ss[i]? = some (Ss[i]'(by omega)) := List.getElem?_eq_getElem (by omega)
        have hst := hsteps i o _ hik ho hS a w hF.low (fun k hk' => hF.old k hk') hvals
        have hnext : ∀ v w', Below w.heap.size w w' → (Ss[i]'(by omega)).p w' v → ((Ss[i]'(by omega)).new = true → Ptr v w.heap.size w'.heap.size) → (listed.setIfInBounds i true).size = os.length ∧ Down os (listed.setIfInBounds i true) ∧ (
          ((listed.setIfInBounds i true).getD k true = false ∧ (∀ j, k + 2 ≤ j → j < os.length → (listed.setIfInBounds i true).getD j true = false) ∧ Fr os Ss a0 w0 (listed.setIfInBounds i true) (a.put o.dst v) w') ∨
          ((∀ j, j ≤ k → (listed.setIfInBounds i true).getD j false = true) ∧ (∀ j, k + 2 ≤ j → j < os.length → (listed.setIfInBounds i true).getD j true = false) ∧ Fr os Ss2 a0 w' (listed.setIfInBounds i true) (a.put o.dst v) w') ∨
          ∃ m, k + 2 < m ∧ m ≤ os.length ∧ (∀ j, j < m → (listed.setIfInBounds i true).getD j false = true) ∧ (∀ j, m ≤ j → j < os.length → (listed.setIfInBounds i true).getD j true = false) ∧ wpList P os.toArray Q (os.drop m) (a.put o.dst v) w') := fun v w' hB hp' hn' =>
          ⟨hz', hD', .inl ⟨by rw [getD_set_ne true hik]; exact hka, fun j hj hj2 => by rw [getD_set_ne true (by omega)]; exact htail j hj hj2, hF.step hs1 ho hS hB hp' hn' h1⟩⟩
        unfold wpOp
        rw [hoA]
        simp only
        rcases hst with ⟨hw1, hw2⟩ | ⟨hw1, hw2, hw3⟩
        · rw [if_pos hw1]
          exact .inl (Oper.wp_mono (fun a' w' ⟨v, e, hB, hp', hn'⟩ => by rw [e]; exact hnext v w' hB hp' hn') hw2)
        · rw [if_neg (by rw [hw1]; decide)]
          exact hnext undef w (Below.refl _ _) hw2 (fun h => by rw [hw3] at h; cases h)
    · -- behind the append
      have hik : k < i := by
        rcases Nat.lt_or_ge k i with h | h
        · exact h
        · have h2 := (listed_both h1).2
          rw [hall i h] at h2; cases h2
      by_cases hi1 : i = k + 1
      · subst hi1
        have hS : Ss2[k + 1]? = some (Ss2[k + 1]'(by omega)) := List.getElem?_eq_getElem (by omega)
        obtain ⟨hwt, hst⟩ := hfree o _ ho hS a w (fun q hq => hF.old q (by rw [hl2, ← hl1]; exact hq))
        unfold wpOp
        rw [hoA]
        simp only
        rw [if_pos hwt]
        refine .inl (Oper.wp_mono (fun a' w' ⟨v, e, ew, hp'⟩ => ?_) hst)
        subst e ew
        have hSS : Ss[k + 1]? = some (Ss[k + 1]'(by omega)) := List.getElem?_eq_getElem (by omega)
        have hn2 := (h12 (k + 1) _ _ (by omega) hSS hS).1
        exact ⟨hz', hD', .inr (.inl ⟨fun j hj => getD_set_true (hall j hj), fun j hj hj2 => by rw [getD_set_ne true (by omega)]; exact htail j hj hj2, hF.step hs2 ho hS (Below.refl _ _) hp' (fun h => by rw [hn2] at h; cases h) h1⟩)⟩
      · have hbelow := covered hD ho hp (hcv i (by omega) hin)
        have ei : i = k + 2 := by
          rcases Nat.lt_or_ge (k + 2) i with h | h
          · have h2 := (listed_both (htail (k + 2) (Nat.le_refl _) (by omega))).2
            rw [hbelow (k + 2) h] at h2; cases h2
          · omega
        exact hlate (k + 2) (Nat.le_refl _) ei (fun j hj => hbelow j (by omega)) htail (hF.ends hs2 (by omega) (fun j hj => hbelow j (by omega)) (hend w))
    · have him : m ≤ i := by
        rcases Nat.lt_or_ge i m with h | h
        · have h2 := (listed_both h1).2
          rw [hm3 i h] at h2; cases h2
        · exact h
      have hbelow := covered hD ho hp (hcv i (by omega) hin)
      have ei : i = m := by
        rcases Nat.lt_or_ge m i with h | h
        · have h2 := (listed_both (hm4 m (Nat.le_refl _) (by omega))).2
          rw [hbelow m h] at h2; cases h2
        · omega
      exact hlate m (by omega) ei hm3 hm4 hW
  · simpa using missing_le _ _
  · have hf : ∀ i, i < os.length → (Array.replicate os.length false).getD i true = false := fun i hi => by simp [hi]
    have hf2 : ∀ i, ¬ (Array.replicate os.length false).getD i false = true := fun i => by
      by_cases hi : i < os.length
      · simp [hi]
      · simp [hi]
    exact ⟨by simp, fun i o _ h => absurd h (hf2 i), .inl ⟨hf k (by omega), fun j _ hj => hf j hj, h01, rfl, rfl, fun _ _ => rfl, fun i _ _ _ _ _ h => absurd h (hf2 i), fun i _ _ _ _ _ _ _ _ _ _ _ _ _ _ h => absurd h (hf2 i)⟩⟩

theorem wp_region_grow {P : Program} {id : Nat} {os : List Oper} {Q : Exit → Act → World → Prop} {a0 : Act} {w0 : World} (k : Nat) (Ss Ss2 : List Sp) (SA : Sp) (hm : P.follows .mixedOrders = true) (hc : growOk os k a0.tmps.size = true) (hl1 : Ss.length = k + 2) (hl2 : Ss2.length = k + 2)
    (hsteps : ∀ i o S, i ≠ k → os[i]? = some o → Ss[i]? = some S → StepOk P os Ss Q a0 w0 o S)
    (happ : ∀ o, os[k]? = some o → ∀ (a : Act) (w : World), Below w0.heap.size w0 w → (∀ k, noDst (os.take Ss.length) k = true → a.tmps[k]? = a0.tmps[k]?) → (∀ j o' S' d, j ∈ preds o → os[j]? = some o' → Ss[j]? = some S' → o'.dst = some d → ∃ v, a.tmps[d]? = some v ∧ S'.p w v) →
      Region.wanted o (yielded os.toArray a.tmps) = true ∧ o.wp P a w (fun a' w' => ∃ v, a' = a.put o.dst v ∧ SA.p w' v) Q)
    (hSA : Ss2[k]? = some SA) (hnew : SA.new = false)
    (h12 : ∀ i S S2, i ≠ k → Ss[i]? = some S → Ss2[i]? = some S2 → S2.new = false ∧ ∀ w w' v, S.p w v → S2.p w' v)
    (hfree : ∀ o S2, os[k + 1]? = some o → Ss2[k + 1]? = some S2 → ∀ (a : Act) (w : World), (∀ k, noDst (os.take Ss.length) k = true → a.tmps[k]? = a0.tmps[k]?) →
      Region.wanted o (yielded os.toArray a.tmps) = true ∧ o.wp P a w (fun a' w' => ∃ v, a' = a.put o.dst v ∧ w' = w ∧ S2.p w v) Q)
    (hend : ∀ w, EndP w.heap.size w (fun a => wpList P os.toArray Q (os.drop (k + 2)) a w) os Ss2 [] a0) :
    (Code.region id os.toArray true).wp P Q a0 w0 :=
  wp_region_any hm (by rw [List.size_toArray]; exact wpAny_grow (w0 := w0) (w1 := w0.drew) ⟨rfl, rfl, rfl, Nat.le_refl _, fun _ _ => rfl⟩ k Ss Ss2 SA hc hl1 hl2 hsteps happ hSA hnew h12 hfree hend)
end Go.Proofs.YtmbpmepoaonleaaGreat
