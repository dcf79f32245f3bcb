/-
  RuB, Round, PlanIn, RuC, in one text.
-/
import Derived.Test.YtmbpmepoaonleaaGreatM25
import Derived.Test.YtmbpmepoaonleaaGreatM22
import Derived.Shelf.SlIterI.Nil
import Derived.Shelf.SortM.Plain
import Derived.Shelf.SortM.SortNone
import Derived.Sort.QuietIn
import Derived.OwnWalkIn
import Derived.RangeFuncCalls
import Derived.Test.YtmbpmepoaonleaaGreatPlan
/-! The program's Darts: all darts, rising, handed out one by one. -/
namespace Go.Proofs.YtmbpmepoaonleaaGreat.Rt
open Go.Proofs.YtmbpmepoaonleaaGreat Go.RowKit Go.Maps Go.Sort Go.Shelf

theorem up_pairs : ∀ l : List Int, Up l → Up (l.flatMap fun e => [2 * e, 2 * e + 1])
  | [], _ => List.Pairwise.nil
  | e :: l, h => by
    have h' := List.pairwise_cons.1 h
    have ih := up_pairs l h'.2
    have hm : ∀ x ∈ l.flatMap (fun e => [2 * e, 2 * e + 1]), 2 * e + 1 < x := by
      intro x hx
      obtain ⟨y, hy, hx⟩ := List.mem_flatMap.1 hx
      have := h'.1 y hy
      simp only [List.mem_cons, List.not_mem_nil, or_false] at hx
      omega
    rw [List.flatMap_cons]
    refine List.pairwise_cons.2 ⟨fun x hx => ?_, List.pairwise_cons.2 ⟨hm, ih⟩⟩
    rcases List.mem_cons.1 hx with rfl | hx
    · omega
    · have := hm x hx; omega

theorem allD_up {g : Gph} {p : Prt} (h : perr g p = 0) : Up (allD p) := up_pairs p.e (perr_rises h).2.2.1.up

/-- The map's keys, sorted, are all darts. -/
theorem keys_allD {w : World} {g : Gph} {p : Prt} {R : Value → Option (DataW Unit × List MemPlace)} {b n : Nat} {D : DataW Unit} {f : Int → DataW Unit} (hp : perr g p = 0) (ho : w.ownsMap Tryz.prog 3 R b n D) (hD : Hd D (Dart p) f) {ss : List Int} (hs : ss.Perm (intKeys D)) :
    (ss.mergeSort fun x y => decide (x ≤ y)) = allD p := by
  have hup := allD_up hp
  have hnd : (allD p).Nodup := hup.imp fun h => by omega
  have hperm : (allD p).Perm (intKeys D) := by
    obtain ⟨es, hE, hpw, _⟩ := ho.entries Tryz.keyInt
    obtain ⟨es', hE', hko⟩ := ho.keysOf
    obtain rfl : es = es' := by rw [hE] at hE'; simpa using hE'
    subst hE
    exact perm_intKeys hpw (fun q hq => by obtain ⟨v, hv⟩ := hko q hq; obtain ⟨x, _, hx, _⟩ := Maps.keyOf_i64 Tryz.underlying3 hv; exact ⟨x, hx⟩) hnd (fun x => by rw [mem_allD hp, ← hD.has x])
  have hp2 := hs.trans hperm.symm
  refine List.Perm.eq_of_pairwise (le := fun a b : Int => a ≤ b) (fun a b _ _ h1 h2 => by omega) ?_ (hup.imp fun h => by omega) ((List.mergeSort_perm ss _).trans hp2)
  have := List.pairwise_mergeSort (le := fun x y : Int => decide (x ≤ y)) (fun a b c h1 h2 => by simp at *; omega) (fun a b => by simp; omega) ss
  exact this.imp fun h => of_decide_eq_true h

theorem keys_any (mb : Option Nat) (W : World) :
    Calls Tryz.prog 111 #[.map mb] W fun e w' => e = .returned (.func (.func 132) #[] #[.pointer (some ⟨W.heap.size, 0, none⟩)]) ∧ w' = W.alloc (.cells #[.map mb] 101) :=
  (callsIn_wide (n := 6)).1 (AnyZI.keys_in Tryz.laysKeys Fence.wide 6 trivial rfl mb W)

theorem sortsK (m : Nat) : AnyZI.SortsIn Tryz.prog Tryz.laysSorted_ren Fence.wide m :=
  ⟨fun blk off cap ss W hH hblk hsz => callsIn_wide.2 (AnyM.slices_Sort_int Tryz.laysSort blk off cap ss W hH hblk hsz),
   fun p cap W => callsIn_wide.2 (AnyM.slices_Sort_int_none Tryz.laysSort p cap W)⟩

theorem sortedKeys_any (b n Bm : Nat) (g : Gph) (p : Prt) (D : DataW Unit) (f : Int → DataW Unit) (R : Value → Option (DataW Unit × List MemPlace)) (w : World) (hBm : Bm < w.heap.size) (hm : w.cell? ⟨Bm, 0, none⟩ = some (.map (some b))) (ho : w.ownsMap Tryz.prog 3 R b n D) (hn : n ≤ 1000000) (hp : perr g p = 0) (hD : Hd D (Dart p) f) :
    Calls Tryz.prog 110 #[.func (.func 132) #[] #[.pointer (some ⟨Bm, 0, none⟩)]] w fun e w' => ∃ v, e = .returned v ∧ Row w' w.heap.size v (allD p) ∧ Below w.heap.size w w' := by
  have hsz := ho.size_le
  have hseq : SeqGives Fence.wide 3 Tryz.prog 132 #[.pointer (some ⟨Bm, 0, none⟩)] encZ (fun ss => ss.Perm (intKeys D)) (Maps.size D) w :=
    AnyZI.keys_gives (ρ := Tryz.laysKeys_ren) { Tryz.laysKeys with } Fence.wide _ trivial rfl (by omega) Bm b n D w hBm hm ho
  have cS := AnyZI.sorted_in Tryz.laysSorted Fence.wide 6 trivial trivial trivial trivial rfl (by omega) (sortsK _) (enters_of Tryz.func131 (by kernel_rfl) rfl) 132 #[.pointer (some ⟨Bm, 0, none⟩)] trivial (enters_of Tryz.func132 (by kernel_rfl) rfl) _ _ (by unfold maxLen; omega) (by omega) _ hseq
  change CallsIn _ _ Tryz.prog 110 _ _ _ at cS
  refine ((callsIn_wide (n := 6)).1 cS).mono ?_
  rintro e w' ⟨v, ss, rfl, hS, hrow, _, hb⟩
  have hk := keys_allD hp ho hD hS
  refine ⟨v, rfl, ?_, hb⟩
  rw [hk] at hrow
  have hl : ss.length = (allD p).length := by rw [← hk, List.length_mergeSort]
  rw [hl] at hrow
  exact hrow

/-! ### Darts -/

set_option maxRecDepth 100000 in
set_option maxHeartbeats 2000000 in
theorem darts_nil (w : World) :
    Calls Tryz.prog 93 #[.pointer none] w fun e w' => ∃ B sv, e = .returned (.func (.func 112) #[] #[.pointer (some ⟨B, 0, none⟩)]) ∧ w.heap.size ≤ B ∧ B < w'.heap.size ∧ w'.cell? ⟨B, 0, none⟩ = some sv ∧ Ints w' sv [] ∧ Below w.heap.size w w' := by
  have hc := new_cell w (.slice none 0 0) 25
  have HC := Lib.hid hc
  go_enter Tryz.func93, Tryz.ntmps93
  go_wp2
  go_ret
  exact ⟨_, _, rfl, Nat.le_refl _, by simp, HC.out, Ints.nil, below_alloc _⟩

set_option maxRecDepth 100000 in
set_option maxHeartbeats 2000000 in
theorem darts_any' (b : Nat) (g : Gph) (p : Prt) (U : List (List Int)) (w : World) (h : Ro w b g p U) (hp : perr g p = 0) :
    Calls Tryz.prog 93 #[.pointer (some ⟨b, 0, none⟩)] w fun e w' => ∃ B sv, e = .returned (.func (.func 112) #[] #[.pointer (some ⟨B, 0, none⟩)]) ∧ w.heap.size ≤ B ∧ B < w'.heap.size ∧ w'.cell? ⟨B, 0, none⟩ = some sv ∧ Ints w' sv (allD p) ∧ Below w.heap.size w w' := by
  obtain ⟨A, cap, mb, nn, D, c0, c1, hbl, hLL, hnn, ho, hD⟩ := (h.below (below_alloc (.cells #[.slice none 0 0] 25))).at_
  have hsz : (w.alloc (.cells #[.slice none 0 0] 25)).heap.size = w.heap.size + 1 := by simp
  have hbw : b < w.heap.size := by obtain ⟨_, _, _, _, _, _, _, h0, _⟩ := h.at_; exact h0
  have hB0 := below_alloc (w := w) (.cells #[.slice none 0 0] 25)
  have hnc := new_cell w (.slice none 0 0) 25
  have hnf := new_thaw w #[.slice none 0 0] 25 0
  have HK := Lib.hid (keys_any (some mb) (w.alloc (.cells #[.slice none 0 0] 25)))
  have hB1 := below_alloc (w := w.alloc (.cells #[.slice none 0 0] 25)) (.cells #[.map (some mb)] 101)
  have HSK := Lib.hid (sortedKeys_any mb nn (w.heap.size + 1) g p D (plF g U) placeR ((w.alloc (.cells #[.slice none 0 0] 25)).alloc (.cells #[.map (some mb)] 101)) (by simp) (by have := new_cell (w.alloc (.cells #[.slice none 0 0] 25)) (.map (some mb)) 101; rwa [hsz] at this) (ho.alloc _) hnn hp hD)
  have HB1 := Lib.hid hB1
  have HB0 := Lib.hid hB0
  have HNC := Lib.hid hnc
  have HNF := Lib.hid hnf
  have HSZ := Lib.hid hsz
  clear ho hD hLL h hB1 hB0 hnc hnf c0 hsz
  go_enter Tryz.func93, Tryz.ntmps93
  go_wp2_with fail
  refine HK.out.mono ?_
  rintro e w1 ⟨rfl, rfl⟩
  clear HK c1
  go_wp2_with fail
  refine HSK.out.mono ?_
  rintro e w2 ⟨v, rfl, hrow, hB2⟩
  have HB2 := Lib.hid (HB1.out.trans (hB2.mono HB1.out.size))
  have hlt : w.heap.size < (w.alloc (.cells #[.slice none 0 0] 25)).heap.size := by rw [HSZ.out]; omega
  have hc2 := (HB2.out.cell (p := ⟨w.heap.size, 0, none⟩) hlt).trans HNC.out
  have hf2 := (HB2.out.frozen (p := ⟨w.heap.size, 0, none⟩) hlt).trans HNF.out
  obtain ⟨Av, cv, rfl⟩ := ints_form (Row.ints hrow)
  have hwl : w.heap.size < w2.heap.size := Nat.lt_of_lt_of_le hlt HB2.out.size
  have HR := Lib.hid hrow
  have HBF := Lib.hid ((HB0.out.trans (HB2.out.mono (by rw [HSZ.out]; omega))).setCell (p := ⟨w.heap.size, 0, none⟩) (Nat.le_refl _) (.slice Av (allD p).length cv))
  have HCC := Lib.hid (World.cell?_setCell_same w2 ⟨w.heap.size, 0, none⟩ (.slice Av (allD p).length cv) hc2)
  have HII := Lib.hid (show Ints (w2.setCell ⟨w.heap.size, 0, none⟩ (.slice Av (allD p).length cv)) (.slice Av (allD p).length cv) (allD p) from
    Row.ints (own_block hrow (fun k hk => Below.heap_setCell _ _ _ _ (fun e => by
      have h1 := (World.ownsRow.lt hrow k hk).1
      simp only [World.size_alloc] at h1
      simp only at e
      omega))))
  have HLT := Lib.hid (show w.heap.size < (w2.setCell ⟨w.heap.size, 0, none⟩ (.slice Av (allD p).length cv)).heap.size by simpa [World.setCell] using hwl)
  clear hrow hB2 HSK HB1 hlt
  go_wp2
  go_ret
  exact ⟨_, _, rfl, Nat.le_refl _, HLT.out, HCC.out, HII.out, HBF.out⟩

end Go.Proofs.YtmbpmepoaonleaaGreat.Rt

/-! A region that draws its order and only reads, within a round of a range over a function: one walk in the order of the text serves every order. -/
namespace Go.Proofs.YtmbpmepoaonleaaGreat
open Go

/-- No operation of the region is a defer statement. -/
def plainOps (l : List Oper) : Bool := l.all fun o => match o.op with | .defer _ => false | _ => true

theorem plainOps_spec {l : List Oper} (h : plainOps l = true) : ∀ (i : Nat) (o : Oper), l.toArray[i]? = some o → ∀ c, o.op ≠ .defer c := by
  intro i o hi c hc
  have hm : o ∈ l := by
    have : l[i]? = some o := by simpa using hi
    exact List.mem_of_getElem? this
  have := List.all_eq_true.1 h o hm
  rw [hc] at this
  simp at this

section
variable {F : Fence} {n : Nat} {P : Program} {ops : Array Oper} {Q : Exit → Act → World → Prop} {md : Region.Mode} {l : Nat}

theorem opIn_round {o : Oper} {a : Act} {w : World} {K : Act → World → Prop} (hd : ∀ c, o.op ≠ .defer c) (h : o.wpIn F n P a w K Q) : o.wpIn (F.inRound l) n P a w K Q := by
  unfold Oper.wpIn at *
  rw [Oper.semAt_plain F _ _ hd] at h
  rw [Oper.semAt_plain (F.inRound l) _ _ hd]
  exact h

theorem anyIn_round (hd : ∀ (i : Nat) (o : Oper), ops[i]? = some o → ∀ c, o.op ≠ .defer c) : ∀ (fuel : Nat) (listed : Array Bool) (a : Act) (w : World),
    wpAnyIn F n P md ops Q fuel listed a w → wpAnyIn (F.inRound l) n P md ops Q fuel listed a w
  | 0, _, _, _, h => h
  | fuel + 1, listed, a, w, h => by
    refine ⟨h.1, fun i hi => ?_⟩
    have h2 := h.2 i hi
    have h3 := wpOpIn_mono (fun a w hk => anyIn_round hd fuel (listed.setIfInBounds i true) a w hk) h2
    unfold wpOpIn at h3 ⊢
    cases ho : ops[i]? with
    | none => simp only [ho] at h3 ⊢; exact h3
    | some o =>
      simp only [ho] at h3 ⊢
      split
      · rename_i hw; simp only [hw, if_true] at h3; exact opIn_round (hd i o ho) h3
      · rename_i hw; simp only [hw] at h3; exact h3

/-- The quiet region within a round. -/
theorem region_quiet_round {id : Nat} {a : Act} {w : World} {os : List Oper} (hro : F.round = none) (hm : P.follows .mixedOrders = true) (hB : Region.lexB .any os.toArray = true) (hd : plainOps os = true)
    (h : wpQuietIn F n P os.toArray (fun w' => ∃ k, w' = w.drewN k) (fun a' => ∀ w', (∃ k, w' = w.drewN k) → Q .normal a' w') os a) : (Code.region id os.toArray true).wpIn (F.inRound l) n P Q a w := by
  simp only [Region.lexB, Bool.and_eq_true] at hB
  refine wpIn_region_any hm (anyIn_round (plainOps_spec hd) _ _ _ _ (wpAnyIn_of_quiet (C := fun w' => ∃ k, w' = w.drewN k) (Q := fun a' => ∀ w', (∃ k, w' = w.drewN k) → Q .normal a' w') hro (fun _ w' hw' h => h w' hw') _ _ _ _ ⟨1, rfl⟩ ?_))
  have := wpAnyQIn_lex (F := F) (n := n) (C := fun w' => ∃ k, w' = w.drewN k) (md := .any) hB.1 os.toArray.toList 0 (Array.replicate os.toArray.size false) a (by simp) (by simpa using hB.2) (by simpa using h)
  simpa using this
end

theorem keepsOthers_drewN (W : World) (k : Nat) : KeepsOthers W (W.drewN k) := ⟨Nat.le_refl _, fun _ _ h _ => h⟩

end Go.Proofs.YtmbpmepoaonleaaGreat

/-! Regions that draw their order, by a plan: a step that makes memory; and the same plans within a fence that lets everything by, and within a round of a range over a function there. -/
namespace Go.Proofs.YtmbpmepoaonleaaGreat
open Go.RowKit

section
variable {P : Program} {os : List Oper} {Ss : List Sp} {Q : Exit → Act → World → Prop} {a0 : Act} {w0 : World} {o : Oper} {S : Sp}

/-- An operation that makes a block of its own. -/
theorem step_make (hn : S.new = false) (h : ∀ (a : Act) (w : World), Below w0.heap.size w0 w → (∀ k, noDst (os.take Ss.length) k = true → a.tmps[k]? = a0.tmps[k]?) → (∀ j o' S' d, j ∈ preds o → os[j]? = some o' → Ss[j]? = some S' → o'.dst = some d → ∃ v, a.tmps[d]? = some v ∧ S'.p w v) →
    Region.wanted o (yielded os.toArray a.tmps) = true ∧ ∃ v w', (execOp a.eval o).run P w = .ok (.value v) w' ∧ Below w.heap.size w w' ∧ S.p w' v) : StepOk P os Ss Q a0 w0 o S := by
  intro a w hB O D
  obtain ⟨h1, v, w', h2, h3, h4⟩ := h a w hB O D
  refine .inl ⟨h1, ?_⟩
  unfold Oper.wp
  rw [h2]
  exact ⟨v, rfl, h3, h4, fun h => by rw [hn] at h; cases h⟩
end

/-! ### Within the fence that lets everything by -/

theorem rowsIn_wide {n : Nat} {P : Program} {row : String} {args : Array Value} {w : World} {R : Value → World → Prop} (h : Rows P row args w R) : RowsIn Fence.wide n P row args w R := by
  intro c cs _
  obtain ⟨v, w', r, s⟩ := h c cs
  exact ⟨v, w', r, stepsIn_wide.2 s⟩

theorem opIn_wide {n : Nat} {P : Program} {o : Oper} {a : Act} {w : World} {K : Act → World → Prop} {Q : Exit → Act → World → Prop} (h : o.wp P a w K Q) : o.wpIn Fence.wide n P a w K Q := by
  refine ⟨fun _ _ => trivial, ?_⟩
  have h' : o.upon P a K Q ((execOp a.eval o).run P w) := h
  show o.uponIn Fence.wide n P a K Q ((execOp a.eval o).run P w)
  generalize (execOp a.eval o).run P w = r at *
  cases r with
  | ok x w' =>
    cases x <;> first
      | exact h'
      | exact ⟨fun e => by simp [Fence.wide] at e, callsIn_wide.2 h'⟩
      | exact ⟨fun e => by simp [Fence.wide] at e, rowsIn_wide h'⟩
      | exact h'.elim
  | halt x w' => cases x <;> exact h'

theorem wpAnyIn_inv {F : Fence} {n : Nat} {P : Program} {ops : Array Oper} {Q : Exit → Act → World → Prop} {md : Region.Mode} (Inv : Array Bool → Act → World → Prop)
    (hdone : ∀ listed a w, Region.ready md ops listed = [] → Inv listed a w → Q .normal a w)
    (hstep : ∀ listed a w i, i ∈ Region.ready md ops listed → Inv listed a w → wpOpIn F n P ops Q i (Inv (listed.setIfInBounds i true)) a w) :
    ∀ fuel listed a w, missing listed ops.size ≤ fuel → Inv listed a w → wpAnyIn F n P md ops Q fuel listed a w := by
  intro fuel
  induction fuel with
  | zero =>
    intro listed a w hf hI
    have hr : Region.ready md ops listed = [] := by
      rw [List.eq_nil_iff_forall_not_mem]
      intro i hi
      obtain ⟨h1, o, ho, _⟩ := mem_ready.1 hi
      have := missing_zero listed ops.size (by omega) i (Array.getElem?_eq_some_iff.1 ho).1
      rw [h1] at this; cases this
    exact ⟨hr, hdone _ _ _ hr hI⟩
  | succ fuel ih =>
    intro listed a w hf hI
    refine ⟨fun hr => hdone _ _ _ hr hI, fun i hi => wpOpIn_mono (fun a' w' h' => ih _ _ _ ?_ h') (hstep _ _ _ i hi hI)⟩
    obtain ⟨h1, o, ho, _⟩ := mem_ready.1 hi
    have := missing_set listed i h1 ops.size (Array.getElem?_eq_some_iff.1 ho).1
    omega

theorem wpAnyIn_plan {F : Fence} {nf : Nat} {P : Program} {os : List Oper} {Q : Exit → Act → World → Prop} {a0 : Act} {w0 w1 : World} (h01 : Below w0.heap.size w0 w1) (hfn : ∀ f, F.fn f) (hop : ∀ (i : Nat) (o : Oper) (a : Act) (w : World) (K : Act → World → Prop), os[i]? = some o → o.wp P a w K Q → o.wpIn F nf P a w K Q) (Ss : List Sp) (hc : planOk os Ss.length a0.tmps.size = true)
    (hsteps : StepsP (StepOk P os Ss Q a0 w0) os Ss)
    (hend : ∀ w, Below w0.heap.size w0 w → EndP w0.heap.size w (fun a => wpListIn F nf P os.toArray Q (os.drop Ss.length) a w) os Ss [] a0) :
    wpAnyIn F nf P .any os.toArray Q os.length (Array.replicate os.length false) a0 w1 := by
  unfold planOk at hc
  rw [Bool.and_eq_true, Bool.and_eq_true, Bool.and_eq_true, decide_eq_true_eq, List.all_eq_true] at hc
  obtain ⟨⟨⟨hk, hw⟩, hs⟩, hcov⟩ := hc
  have hcv : ∀ j, Ss.length ≤ j → j < os.length → covers os j = true := fun j h1 h2 => by
    have := hcov j (List.mem_range.2 h2)
    rw [Bool.or_eq_true, decide_eq_true_eq] at this
    rcases this with h | h
    · omega
    · exact h
  refine wpAnyIn_inv (fun listed a w => listed.size = os.length ∧ Down os listed ∧ ((∀ j, Ss.length ≤ j → j < os.length → listed.getD j true = false) ∧ Fr os Ss a0 w0 listed a w ∨
      ∃ m, Ss.length < m ∧ m ≤ os.length ∧ (∀ j, j < m → listed.getD j false = true) ∧ (∀ j, m ≤ j → j < os.length → listed.getD j true = false) ∧ wpListIn F nf P os.toArray Q (os.drop m) a w)) ?_ ?_ _ _ _ _ ?_ ?_
  · rintro listed a w hr ⟨hz, hD, ⟨htail, hF⟩ | ⟨m, hm1, hm2, hm3, hm4, hW⟩⟩
    · have hall := all_listed hz hw hr
      have hkn : Ss.length = os.length := by
        rcases Nat.lt_or_ge Ss.length os.length with h | h
        · have h1 := (listed_both (htail Ss.length (Nat.le_refl _) h)).2
          rw [hall Ss.length h] at h1; cases h1
        · omega
      have := hF.ends hs hk (fun i hi => hall i (by omega)) (hend w hF.low)
      rw [hkn, List.drop_length] at this
      exact this
    · have hall := all_listed hz hw hr
      have hmn : m = os.length := by
        rcases Nat.lt_or_ge m os.length with h | h
        · have h1 := (listed_both (hm4 m (Nat.le_refl _) h)).2
          rw [hall m h] at h1; cases h1
        · omega
      subst hmn
      rw [List.drop_length] at hW
      exact hW
  · rintro listed a w i hi ⟨hz, hD, hI⟩
    obtain ⟨h1, o, ho, hp⟩ := ready_preds hi
    have hin : i < os.length := (List.getElem?_eq_some_iff.1 ho).1
    have hoA : os.toArray[i]? = some o := by simpa using ho
    have hz' : (listed.setIfInBounds i true).size = os.length := by rw [Array.size_setIfInBounds]; exact hz
    have hD' : Down os (listed.setIfInBounds i true) := by
      intro j o' ho' hl j' hj'
      by_cases e : j = i
      · subst e
        rw [ho] at ho'; cases ho'
        exact getD_set_true (hp j' hj')
      · rw [getD_set_ne false (Ne.symm e)] at hl
        exact getD_set_true (hD j o' ho' hl j' hj')
    -- one of those that come in the text's order
    have hlate : ∀ m, Ss.length ≤ m → i = m → (∀ j, j < m → listed.getD j false = true) → (∀ j, m ≤ j → j < os.length → listed.getD j true = false) → wpListIn F nf P os.toArray Q (os.drop m) a w →
        wpOpIn F nf P os.toArray Q i (fun a w => (listed.setIfInBounds i true).size = os.length ∧ Down os (listed.setIfInBounds i true) ∧ ((∀ j, Ss.length ≤ j → j < os.length → (listed.setIfInBounds i true).getD j true = false) ∧ Fr os Ss a0 w0 (listed.setIfInBounds i true) a w ∨
          ∃ m, Ss.length < m ∧ m ≤ os.length ∧ (∀ j, j < m → (listed.setIfInBounds i true).getD j false = true) ∧ (∀ j, m ≤ j → j < os.length → (listed.setIfInBounds i true).getD j true = false) ∧ wpListIn F nf P os.toArray Q (os.drop m) a w)) a w := by
      intro m hm e h2 h3 hW
      subst e
      have ed : os.drop i = o :: os.drop (i + 1) := by
        rw [List.drop_eq_getElem_cons hin]
        congr 1
        rw [List.getElem?_eq_getElem hin] at ho
        exact Option.some.inj ho
      rw [ed] at hW
      have hW' : wpOpIn F nf P os.toArray Q i (wpListIn F nf P os.toArray Q (os.drop (i + 1))) a w := by
        unfold wpOpIn
        rw [hoA]
        exact hW
      refine wpOpIn_mono (fun a' w' h' => ⟨hz', hD', .inr ⟨i + 1, by omega, hin, fun j hj => ?_, fun j hj hj2 => ?_, h'⟩⟩) hW'
      · by_cases e : j = i
        · subst e
          have hlt := (listed_both h1).1
          simp [hlt]
        · exact getD_set_true (h2 j (by omega))
      · rw [getD_set_ne true (by omega)]
        exact h3 j (by omega) hj2
    rcases hI with ⟨htail, hF⟩ | ⟨m, hm1, hm2, hm3, hm4, hW⟩
    · rcases Nat.lt_or_ge i Ss.length with hik | hik
      · have hS : Ss[i]? = some Ss[i] := List.getElem?_eq_getElem hik
        have hst := hsteps.get i o _ ho hS a w hF.low (fun k hk' => hF.old k hk') (fun j o' S' d hj ho' hS' hd' => by
          obtain ⟨v, e1, e2, _⟩ := hF.val j o' S' d ho' hS' (hp j hj) hd'
          exact ⟨v, e1, e2⟩)
        have hnext : ∀ v w', Below w.heap.size w w' → Ss[i].p w' v → (Ss[i].new = true → Ptr v w.heap.size w'.heap.size) → (listed.setIfInBounds i true).size = os.length ∧ Down os (listed.setIfInBounds i true) ∧ ((∀ j, Ss.length ≤ j → j < os.length → (listed.setIfInBounds i true).getD j true = false) ∧ Fr os Ss a0 w0 (listed.setIfInBounds i true) (a.put o.dst v) w' ∨
          ∃ m, Ss.length < m ∧ m ≤ os.length ∧ (∀ j, j < m → (listed.setIfInBounds i true).getD j false = true) ∧ (∀ j, m ≤ j → j < os.length → (listed.setIfInBounds i true).getD j true = false) ∧ wpListIn F nf P os.toArray Q (os.drop m) (a.put o.dst v) w') := fun v w' hB hp' hn' =>
          ⟨hz', hD', .inl ⟨fun j hj hj2 => by rw [getD_set_ne true (by omega)]; exact htail j hj hj2, hF.step hs ho hS hB hp' hn' h1⟩⟩
        unfold wpOpIn
        rw [hoA]
        simp only
        rcases hst with ⟨hw1, hw2⟩ | ⟨hw1, hw2, hw3⟩
        · rw [if_pos hw1]
          exact hop i o a w _ ho (Oper.wp_mono (fun a' w' ⟨v, e, hB, hp', hn'⟩ => by rw [e]; exact hnext v w' hB hp' hn') hw2)
        · rw [if_neg (by rw [hw1]; decide)]
          exact ⟨fun f _ => hfn f, hnext undef w (Below.refl _ _) hw2 (fun h => by rw [hw3] at h; cases h)⟩
      · have hbelow := covered hD ho hp (hcv i hik hin)
        have ei : i = Ss.length := by
          rcases Nat.lt_or_ge Ss.length i with h | h
          · have h2 := (listed_both (htail Ss.length (Nat.le_refl _) (by omega))).2
            rw [hbelow Ss.length h] at h2; cases h2
          · omega
        exact hlate Ss.length (Nat.le_refl _) ei (fun j hj => hbelow j (by omega)) htail (hF.ends hs hk (fun j hj => hbelow j (by omega)) (hend w hF.low))
    · have him : m ≤ i := by
        rcases Nat.lt_or_ge i m with h | h
        · have h2 := (listed_both h1).2
          rw [hm3 i h] at h2; cases h2
        · exact h
      have hbelow := covered hD ho hp (hcv i (by omega) hin)
      have ei : i = m := by
        rcases Nat.lt_or_ge m i with h | h
        · have h2 := (listed_both (hm4 m (Nat.le_refl _) (by omega))).2
          rw [hbelow m h] at h2; cases h2
        · omega
      exact hlate m (by omega) ei hm3 hm4 hW
  · simpa using missing_le _ _
  · have hf : ∀ i, i < os.length → (Array.replicate os.length false).getD i true = false := fun i hi => by simp [hi]
    have hf2 : ∀ i, ¬ (Array.replicate os.length false).getD i false = true := fun i => by
      by_cases hi : i < os.length
      · simp [hi]
      · simp [hi]
    exact ⟨by simp, fun i o _ h => absurd h (hf2 i), .inl ⟨fun j _ hj => hf j hj, h01, rfl, rfl, fun _ _ => rfl, fun i _ _ _ _ _ h => absurd h (hf2 i), fun i _ _ _ _ _ _ _ _ _ _ _ _ _ _ h => absurd h (hf2 i)⟩⟩

section
variable {P : Program} {n id : Nat} {os : List Oper} {Q : Exit → Act → World → Prop} {a0 : Act} {w0 : World}

theorem wpIn_region_plan (Ss : List Sp) (hm : P.follows .mixedOrders = true) (hc : planOk os Ss.length a0.tmps.size = true)
    (hsteps : StepsP (StepOk P os Ss Q a0 w0) os Ss)
    (hend : ∀ w, Below w0.heap.size w0 w → EndP w0.heap.size w (fun a => wpListIn Fence.wide n P os.toArray Q (os.drop Ss.length) a w) os Ss [] a0) :
    (Code.region id os.toArray true).wpIn Fence.wide n P Q a0 w0 :=
  wpIn_region_any hm (by rw [List.size_toArray]; exact wpAnyIn_plan (w0 := w0) (w1 := w0.drew) ⟨rfl, rfl, rfl, Nat.le_refl _, fun _ _ => rfl⟩ (fun _ => trivial) (fun _ _ _ _ _ _ h => opIn_wide h) Ss hc hsteps hend)

theorem wpIn_round_plan {l : Nat} (Ss : List Sp) (hm : P.follows .mixedOrders = true) (hc : planOk os Ss.length a0.tmps.size = true) (hd : plainOps os = true)
    (hsteps : StepsP (StepOk P os Ss Q a0 w0) os Ss)
    (hend : ∀ w, Below w0.heap.size w0 w → EndP w0.heap.size w (fun a => wpListIn (Fence.wide.inRound l) n P os.toArray Q (os.drop Ss.length) a w) os Ss [] a0) :
    (Code.region id os.toArray true).wpIn (Fence.wide.inRound l) n P Q a0 w0 :=
  wpIn_region_any hm (by rw [List.size_toArray]; exact wpAnyIn_plan (w0 := w0) (w1 := w0.drew) ⟨rfl, rfl, rfl, Nat.le_refl _, fun _ _ => rfl⟩ (fun _ => trivial) (fun i o _ _ _ ho h => opIn_round (plainOps_spec hd i o (by simpa using ho)) (opIn_wide h)) Ss hc hsteps hend)
end

end Go.Proofs.YtmbpmepoaonleaaGreat

/-! The document's example, as the law's awake asks it. -/
namespace Go.Proofs.YtmbpmepoaonleaaGreat.Rt
open Go.Proofs.YtmbpmepoaonleaaGreat Go.RowKit Go.Maps

def e0 : Gph := ⟨2, [⟨0, 1⟩, ⟨0, 1⟩]⟩
def p0 : Prt := ⟨countTo 2, countTo e0.e.length⟩
def T0 : List (List Int) := [[0, 2], [1, 3]]
theorem T0_turns : Turns e0 p0 T0 := terr_iff.1 (by decide +kernel)
theorem T0_row (j : Nat) : getT T0 j = [0, 2] ∨ getT T0 j = [1, 3] ∨ getT T0 j = [] := by
  match j with
  | 0 => exact .inl rfl
  | 1 => exact .inr (.inl rfl)
  | j + 2 => exact .inr (.inr (getT_out _ _ (by simp [T0])))
theorem T0_len (j : Nat) : (getT T0 j).length ≤ 500 := by
  rcases T0_row j with h | h | h <;> rw [h] <;> decide
theorem T0_wf (j : Nat) : ∀ x ∈ getT T0 j, (Lit.int .i64 x).wf = true := by
  rcases T0_row j with h | h | h <;> rw [h] <;> decide
theorem U0_len (j : Nat) : (getT (T0.map fst) j).length ≤ 1000000 := by
  rw [getT_map fst fst_nil, fst_len]
  have := T0_len j
  omega

theorem lit2_ints (w : World) (a b : Int) : Ints (w.alloc (.cells #[.int .i64 a, .int .i64 b] 3)) (.slice (some ⟨w.heap.size, 0, none⟩) 2 2) [a, b] := by
  refine ⟨_, _, rfl, Nat.le_refl _, by unfold maxLen; omega, fun _ => ⟨w.heap.size, 0, rfl, by simp, fun j hj => ?_⟩⟩
  have hj' : j < 2 := hj
  rcases (show j = 0 ∨ j = 1 by omega) with rfl | rfl
  · exact cell_two0 w (.int .i64 a) (.int .i64 b) 3
  · exact cell_two1 w (.int .i64 a) (.int .i64 b) 3
theorem lit2_lists {w : World} {u v : Value} {l m : List Int} (h : Ints w u l) (h' : Ints w v m) : LL (w.alloc (.cells #[u, v] 25)) (.slice (some ⟨w.heap.size, 0, none⟩) 2 2) [l, m] := by
  refine ⟨_, _, rfl, Nat.le_refl _, by unfold maxLen; omega, fun _ => ⟨w.heap.size, 0, rfl, by simp, fun j hj => ?_⟩⟩
  have hj' : j < 2 := hj
  rcases (show j = 0 ∨ j = 1 by omega) with rfl | rfl
  · exact ⟨u, cell_two0 w u v 25, h.below (below_alloc _)⟩
  · exact ⟨v, cell_two1 w u v 25, h'.below (below_alloc _)⟩

theorem e0_new (w : World) : Edges (w.alloc (.cells #[.int .i64 0, .int .i64 1, .int .i64 0, .int .i64 1] 109)) (.slice (some ⟨w.heap.size, 0, none⟩) 2 2) e0.e := by
  refine ⟨_, _, rfl, by decide, by unfold maxLen; omega, fun _ => ⟨w.heap.size, 0, rfl, by simp, fun j hj => ?_⟩⟩
  have hc : ∀ i, (w.alloc (.cells #[.int .i64 0, .int .i64 1, .int .i64 0, .int .i64 1] 109)).cell? ⟨w.heap.size, i, none⟩ = (#[.int .i64 0, .int .i64 1, .int .i64 0, .int .i64 1] : Array Value)[i]? := fun i => cell_of_row _ _ i _ _ (0, 0) (heap_alloc_new w _)
  have hj' : j < 2 := hj
  rcases (show j = 0 ∨ j = 1 by omega) with rfl | rfl
  · exact ⟨hc _, hc _⟩
  · exact ⟨hc _, hc _⟩

/-- What may be said of a value in a plan: lists; turns; what New answers. -/
def spLL (T : List (List Int)) : Sp := ⟨fun w v => LL w v T, false, fun _ _ _ hb h => h.below hb⟩
def spRo (g : Gph) (p : Prt) (U : List (List Int)) : Sp := ⟨fun w v => ∃ b, v = .pointer (some ⟨b, 0, none⟩) ∧ Ro w b g p U, false, fun _ _ _ hb ⟨b, e, h⟩ => ⟨b, e, h.below hb⟩⟩
def spNew (g : Gph) (p : Prt) (U : List (List Int)) : Sp := ⟨fun w v => ∃ b, v = .tuple #[.pointer (some ⟨b, 0, none⟩), .int .i64 0] ∧ Ro w b g p U, false, fun _ _ _ hb ⟨b, e, h⟩ => ⟨b, e, h.below hb⟩⟩

theorem newAns {w w' : World} {e : Ending} {g : Gph} {p : Prt} {T : List (List Int)} (h : Below w.heap.size w w' ∧ ((¬ terr g p T = 0 ∧ e = .returned (.tuple #[.pointer none, .int .i64 (terr g p T)])) ∨ (Turns g p T ∧ ∃ b, e = .returned (.tuple #[.pointer (some ⟨b, 0, none⟩), .int .i64 0]) ∧ Ro w' b g p (T.map fst)))) (hT : Turns g p T) :
    ∃ v, e = .returned v ∧ Below w.heap.size w w' ∧ (spNew g p (T.map fst)).p w' v := by
  obtain ⟨hb, ⟨hn, _⟩ | ⟨_, b, rfl, hr⟩⟩ := h
  · exact absurd (terr_iff.2 hT) hn
  · exact ⟨_, rfl, hb, b, rfl, hr⟩

end Go.Proofs.YtmbpmepoaonleaaGreat.Rt
