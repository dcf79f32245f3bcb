/-
  PlH, PlI, PlM, in one text.
-/
import Derived.Test.YtmbpmepoaonleaaGreatM50
import Derived.Test.YtmbpmepoaonleaaGreatM19
import Derived.Test.YtmbpmepoaonleaaGreatM21
import Derived.StillTactics
import Derived.StillTailTactics
import Derived.Test.YtmbpmepoaonleaaGreatM30
/-! A map from keys to numbers as it lies in memory; sets that tell which pieces hang together; and what stays as it is where these change. -/
namespace Go.Proofs.YtmbpmepoaonleaaGreat.Pl
open Go.Proofs.YtmbpmepoaonleaaGreat Go.Proofs.YtmbpmepoaonleaaGreat.Fc Go.Proofs.YtmbpmepoaonleaaGreat.Rt Go.RowKit Go.Maps

/-! ### A map from keys to numbers -/

/-- The block mb is a map that has those of which Q holds, and tells f of each. -/
def IMap (w : World) (mb n : Nat) (Q : Int → Prop) (f : Int → Int) : Prop :=
  ∃ D, w.ownsMap Tryz.prog 3 (plainElem Tryz.prog 3) mb n D ∧ Hd D Q (fun x => .lit (.int .i64 (f x)))
variable {w w' w1 : World} {mb n m : Nat} {Q Q' : Int → Prop} {f f' : Int → Int} {k : Int}
theorem IMap.cong (h : IMap w mb n Q f) (hq : ∀ x, Q' x ↔ Q x) : IMap w mb n Q' f := by
  obtain ⟨D, h1, h2⟩ := h
  exact ⟨D, h1, h2.cong hq⟩
theorem IMap.congF (h : IMap w mb n Q f) (hf : ∀ x, Q x → f' x = f x) : IMap w mb n Q f' := by
  obtain ⟨D, h1, h2⟩ := h
  exact ⟨D, h1, h2.map, h2.has, fun x hx z => by rw [h2.at_ x hx z, hf x hx]⟩
theorem IMap.lt (h : IMap w mb n Q f) : mb < w.heap.size := by
  obtain ⟨D, h1, _⟩ := h
  exact h1.lt
theorem IMap.block (h : IMap w mb n Q f) : ∃ es clock, w.heap[mb]? = some (.map es clock) := by
  obtain ⟨D, ⟨es, clock, hb, _⟩, _⟩ := h
  exact ⟨es, clock, hb⟩
theorem IMap.same (h : IMap w mb n Q f) (hs : w1.heap[mb]? = w.heap[mb]?) : IMap w1 mb n Q f := by
  obtain ⟨D, ⟨es, clock, hb, r⟩, h2⟩ := h
  exact ⟨D, ⟨es, clock, by rw [hs]; exact hb, r⟩, h2⟩
theorem IMap.below (h : IMap w mb n Q f) (hb : Below w.heap.size w w1) : IMap w1 mb n Q f := h.same (hb.block mb h.lt)
theorem IMap.only {F : Nat → Prop} (h : IMap w mb n Q f) (hb : Only F w w1) (hn : ¬ F mb) : IMap w1 mb n Q f := h.same (hb.block mb h.lt hn)
theorem IMap.le (h : IMap w mb n Q f) (hn : n ≤ m) : IMap w mb m Q f := by
  obtain ⟨D, h1, h2⟩ := h
  exact ⟨D, h1.mono hn, h2⟩
theorem IMap.start (w : World) (f : Int → Int) : IMap (w.alloc (.map #[] 0)) w.heap.size 0 (fun _ => False) f := ⟨_, World.ownsMap_made w Tryz.prog 3 _, Hd.start _⟩

section
variable {ops : Array Oper} {rest : List Oper} {o : Oper} {a : Act} {G : Exit → Act → World → Prop}
theorem wpList_imap_get (hg : o.guard = none) (x y : Operand) (hop : o.op = Op.lookup 62 x y false) (mb n : Nat) (h : IMap w mb n Q f) (hk : (Lit.int .i64 k).wf = true) (hx : a.eval x = .map (some mb)) (hy : a.eval y = .int .i64 k)
    (hK : ∀ c : Int, (Q k → c = f k) → wpList Tryz.prog ops G rest (a.put o.dst (.int .i64 c)) w) : wpList Tryz.prog ops G (o :: rest) a w := by
  obtain ⟨D, h1, h2⟩ := h
  refine wpList_lookup_own_int w hg x y 62 hop 3 3 .i64 Tryz.keyInt Tryz.underlying62 Tryz.underlying3 (Tryz.zeroInt _) mb n D hx h1 _ _ hy (keyOf_int_mk Tryz.underlying3 hk) (fun c hc _ => hK c (fun hq => ?_))
  have := hc.symm.trans (h2.at_ k hq _)
  simpa using this
theorem wpList_imap_ok (hg : o.guard = none) (x y : Operand) (hop : o.op = Op.lookup 62 x y true) (mb n : Nat) (h : IMap w mb n Q f) (hk : (Lit.int .i64 k).wf = true) (hx : a.eval x = .map (some mb)) (hy : a.eval y = .int .i64 k) {b : Bool} (hb : b = true ↔ Q k)
    (hK : ∀ c : Int, (Q k → c = f k) → wpList Tryz.prog ops G rest (a.put o.dst (.tuple #[.int .i64 c, .bool b])) w) : wpList Tryz.prog ops G (o :: rest) a w := by
  obtain ⟨D, h1, h2⟩ := h
  refine wpList_lookup_own_ok_int w hg x y 62 hop 3 3 .i64 Tryz.keyInt Tryz.underlying62 Tryz.underlying3 (Tryz.zeroInt _) mb n D hx h1 _ _ hy (keyOf_int_mk Tryz.underlying3 hk) (fun c hc _ => ?_)
  have e : Maps.has D (.int .i64 k) = b := by
    have := (h2.has k).trans hb.symm
    cases b <;> simpa using this
  rw [e]
  refine hK c (fun hq => ?_)
  have := hc.symm.trans (h2.at_ k hq _)
  simpa using this
theorem wpList_imap_put (hg : o.guard = none) (x y z : Operand) (hop : o.op = Op.mapUpdate 62 x y z) (mb n : Nat) (h : IMap w mb n Q f) (hn : n ≤ 1000000000) (hk : (Lit.int .i64 k).wf = true) (hx : a.eval x = .map (some mb)) (hy : a.eval y = .int .i64 k) (hz : a.eval z = .int .i64 (f k)) (hw : (Lit.int .i64 (f k)).wf = true)
    (hK : ∀ w', IMap w' mb (n + 1) (fun t => Q t ∨ t = k) f → w.mapTurned w' mb → wpList Tryz.prog ops G rest (a.put o.dst undef) w') : wpList Tryz.prog ops G (o :: rest) a w := by
  obtain ⟨D, h1, h2⟩ := h
  exact wpList_mapUpdate_in w hg x y z 62 hop 3 3 Tryz.keyInt Tryz.underlying62 _ mb n D hx h1 (by unfold maxLen; omega) _ _ _ hy hz (keyOf_int_mk Tryz.underlying3 hk) _ [] (plainElem_int Tryz.underlying3 hw) (fun w' ho ht => hK w' ⟨_, ho, h2.put k⟩ ht)
theorem wpList_imap_del (hg : o.guard = none) (x y : Operand) (hop : o.op = Op.call { callee := Callee.builtin Builtin.delete, args := #[x, y], argTypes := #[62, 3] }) (mb n : Nat) (h : IMap w mb n Q f) (hk : (Lit.int .i64 k).wf = true) (hx : a.eval x = .map (some mb)) (hy : a.eval y = .int .i64 k)
    (hK : ∀ w', IMap w' mb n (fun t => Q t ∧ t ≠ k) f → w.mapTurned w' mb → wpList Tryz.prog ops G rest (a.put o.dst (.tuple #[])) w') : wpList Tryz.prog ops G (o :: rest) a w := by
  obtain ⟨D, h1, h2⟩ := h
  exact wpList_delete_own w hg x y 62 3 hop 3 Tryz.keyInt Tryz.underlying62 _ mb n D hx h1 _ _ hy (keyOf_int_mk Tryz.underlying3 hk) (fun w' ho ht => hK w' ⟨_, ho, h2.del k⟩ ht)
end

/-! ### What stays -/

theorem only_map (ht : w.mapTurned w' mb) (B : Nat) : Only (New mb B) w w' := (only_turned ht).more (fun _ _ h => .inl h)
theorem Holds.turned {F : Nat → Prop} {sb : Nat} {s : St} (h : Holds w F sb s) (ht : w.mapTurned w' mb) (hF : ¬ F mb) : Holds w' F sb s := by
  obtain ⟨tv, av, bm, D, ah, r⟩ := h
  exact ⟨tv, av, bm, D, ah, r.same (fun k hk => ht.grown.block k (r.flt k hk) (fun e => hF (by have := Option.some.inj e; rwa [← this]))) ht.grown.size⟩
theorem ints_off {v : Value} {l : List Int} (h : Ints w v l) (hm : ∃ es clock, w.heap[mb]? = some (.map es clock)) : 0 < l.length → Off (New mb w.heap.size) v := by
  intro h0 b hb hN
  obtain ⟨A, cap, rfl, _, _, h3⟩ := h
  obtain ⟨b', off, rfl, hlt, hc⟩ := h3 h0
  have e : b' = b := by simpa [Value.ownBlock] using hb
  subst e
  rcases hN with e | hN
  · subst e
    obtain ⟨es, clock, hm⟩ := hm
    have := hc 0 h0
    simp [World.cell?, hm] at this
  · omega
theorem LL.at_keep {w0 : World} {A : Option Addr} {c : Nat} {S : List (List Int)} (h : LL w0 (.slice A S.length c) S) (hm : ∃ es clock, w0.heap[mb]? = some (.map es clock)) (ho : Only (New mb w0.heap.size) w0 w) {j : Nat} (hj : j < S.length) :
    ∃ b off, A = some ⟨b, off, none⟩ ∧ ∃ A' c', w.cell? ⟨b, off + j, none⟩ = some (.slice A' (getT S j).length c') ∧ Ints w (.slice A' (getT S j).length c') (getT S j) ∧ (0 < (getT S j).length → Off (New mb w0.heap.size) (.slice A' (getT S j).length c')) := by
  obtain ⟨b, off, rfl, hlt, A', c', hc, hI⟩ := h.get hj
  refine ⟨b, off, rfl, A', c', ?_, ?_, ints_off hI hm⟩
  · refine ho.cell hc (fun hN => ?_)
    rcases hN with e | hN
    · simp only at e
      subst e
      obtain ⟨es, clock, hm⟩ := hm
      simp [World.cell?, hm] at hc
    · simp only at hN; omega
  · exact hI.onlyN (ints_off hI hm) ho

/-! ### Sets that tell which pieces hang together -/

variable {s : St} {E : List Pr} {a b : Int}
theorem in_wf (hn : n ≤ 1000000) (h : a ∈ countTo n) : (Lit.int .i64 a).wf = true := by
  have h3 := (mem_countTo n a).1 h
  show (decide (IntKind.i64.min ≤ a) && decide (a ≤ IntKind.i64.max)) = true
  have h1 : IntKind.i64.min = -9223372036854775808 := rfl
  have h2 : IntKind.i64.max = 9223372036854775807 := rfl
  rw [h1, h2, Bool.and_eq_true, decide_eq_true_iff, decide_eq_true_iff]
  omega
theorem told_start (hn : n ≤ 1000000) : St.Tells (St.news (countTo n)) (countTo n) (Sym (relE [])) := by
  refine St.tells_news (fun x hx => in_wf hn hx) ?_ (fun x y h => by
    rcases h with h | h
    · exact absurd h List.not_mem_nil
    · exact absurd h List.not_mem_nil)
  unfold countTo
  rw [List.Nodup, List.pairwise_map]
  exact List.Pairwise.imp (fun {a b} (h : a < b) e => by have : (a : Int) = b := e; omega) List.pairwise_lt_range
theorem told_join (h : St.Tells s (countTo n) (Sym (relE E))) (hn : n ≤ 1000000) (ha : a ∈ countTo n) (hb : b ∈ countTo n) : St.Tells (s.join a b) (countTo n) (Sym (relE (E ++ [(a, b)]))) := by
  refine h.join ha hb (in_wf hn ha) (in_wf hn hb) (fun x y => ?_)
  unfold Sym relE
  simp only [List.mem_append, List.mem_singleton, Prod.mk.injEq]
  constructor
  · rintro ((h | h) | (h | h))
    · exact .inl (.inl h)
    · exact .inr (.inl h)
    · exact .inl (.inr h)
    · exact .inr (.inr ⟨h.2, h.1⟩)
  · rintro ((h | h) | h | h)
    · exact .inl (.inl h)
    · exact .inr (.inl h)
    · exact .inl (.inr h)
    · exact .inr (.inr ⟨h.2, h.1⟩)
theorem told_joins (h : St.Tells s (countTo n) (Sym (relE E))) (ha : a ∈ countTo n) (hb : b ∈ countTo n) : s.joins a b = true ↔ ¬ Conn (relE E) a b := by
  have ha' : a ∈ s.ts := by rw [h.1]; exact ha
  have hb' : b ∈ s.ts := by rw [h.1]; exact hb
  unfold St.joins
  rw [St.both_in ha' hb', decide_eq_true_iff]
  exact not_congr (h.2.2 a ha b hb)
theorem told_count (h : St.Tells s (countTo n) (Sym (relE E))) : heads s.gr ≤ 1 ↔ ∀ i j : Nat, i < n → j < n → Conn (relE E) i j := by
  rw [← h.heads]
  have hin : ∀ i : Nat, i < n → (i : Int) ∈ countTo n := fun i hi => (mem_countTo n i).2 ⟨by omega, by omega⟩
  constructor
  · intro h1 i j hi hj
    obtain ⟨V, hV, hx⟩ := h.covers (hin i hi)
    obtain ⟨U, hU, hy⟩ := h.covers (hin j hj)
    have hVU : V = U := by
      match hg : s.groups, h1 with
      | [], _ => rw [hg] at hV; cases hV
      | [Z], _ =>
        rw [hg] at hV hU
        rw [List.mem_singleton.1 hV, List.mem_singleton.1 hU]
      | _ :: _ :: _, h1 => simp at h1
    subst hVU
    have hu : (countTo n).Pairwise (· < ·) := by
      unfold countTo
      rw [List.pairwise_map]
      exact List.Pairwise.imp (fun {a b} (h : a < b) => by show (a : Int) < b; omega) List.pairwise_lt_range
    obtain ⟨_, z, _, hz⟩ := h.group hu hV
    have r1 : Conn (relE E) z i := ((hz _).1 hx).2
    have r2 : Conn (relE E) z j := ((hz _).1 hy).2
    exact r1.symm.trans r2
  · intro hc
    refine h.one (fun z hz t ht => ?_)
    obtain ⟨h1, h2⟩ := (mem_countTo n z).1 hz
    obtain ⟨h3, h4⟩ := (mem_countTo n t).1 ht
    have := hc z.toNat t.toNat (by omega) (by omega)
    rwa [Int.toNat_of_nonneg h1, Int.toNat_of_nonneg h3] at this
end Go.Proofs.YtmbpmepoaonleaaGreat.Pl

/-! The program's hangBy: one list's walks' pieces are hung together. -/
namespace Go.Proofs.YtmbpmepoaonleaaGreat.Pl
open Go.Proofs.YtmbpmepoaonleaaGreat Go.Proofs.YtmbpmepoaonleaaGreat.Fc Go.Proofs.YtmbpmepoaonleaaGreat.Rt Go.RowKit Go.Maps

/-- Walks that stand alone yet, and pieces that hang together so far. -/
structure Hg (w : World) (mb nn B : Nat) (F : Nat → Prop) (sb : Nat) (s : St) (n : Nat) (own : Int → Int) (Q : Int → Prop) (E : List Pr) : Prop where
  map : IMap w mb nn Q own
  sets : Holds w F sb s
  told : St.Tells s (countTo n) (Sym (relE E))
  behind : ∀ k, F k → B ≤ k
variable {w w' : World} {mb nn B sb n : Nat} {F F' : Nat → Prop} {s : St} {own : Int → Int} {Q Q' : Int → Prop} {E : List Pr} {l : List Int} {k : Nat} {a b : Int}
theorem Hg.cong (H : Hg w mb nn B F sb s n own Q E) (hq : ∀ x, Q' x ↔ Q x) : Hg w mb nn B F sb s n own Q' E := ⟨H.map.cong hq, H.sets, H.told, H.behind⟩
theorem Hg.below (H : Hg w mb nn B F sb s n own Q E) (hb : Below w.heap.size w w') : Hg w' mb nn B F sb s n own Q E := ⟨H.map.below hb, H.sets.below hb, H.told, H.behind⟩
theorem Hg.del (H : Hg w mb nn B F sb s n own Q E) (hmB : mb < B) (hm : IMap w' mb nn (fun t => Q t ∧ t ≠ a) own) (ht : w.mapTurned w' mb) : Hg w' mb nn B F sb s n own (fun t => Q t ∧ t ≠ a) E :=
  ⟨hm, Holds.turned H.sets ht (fun h => by have := H.behind _ h; omega), H.told, H.behind⟩
theorem Hg.join (H : Hg w mb nn B F sb s n own Q E) (hmB : mb < B) (hB : B ≤ w.heap.size) (hn : n ≤ 1000000) (ha : a ∈ countTo n) (hb : b ∈ countTo n) (h : After F w sb (s.join a b) w') :
    (∃ F', Hg w' mb nn B F' sb (s.join a b) n own Q (E ++ [(a, b)])) ∧ Only (New mb B) w w' := by
  obtain ⟨F', h1, h2, h3⟩ := h
  have hno : ¬ F mb := fun h => by have := H.behind _ h; omega
  exact ⟨⟨F', H.map.only h2 hno, h1, told_join H.told hn ha hb, fun k hk => (h3 k hk).elim (H.behind k) (fun h => Nat.le_trans hB h)⟩, h2.more (fun k _ hk => .inr (H.behind k hk))⟩

/-- What is asked of a list. -/
def KeysOk (Q : Int → Prop) (l : List Int) (k : Nat) : Prop := ∀ j, j < k → Q (getI l j) ∧ getI l j ∉ l.take j
def JoinsOk (own : Int → Int) (E : List Pr) (l : List Int) (k : Nat) : Prop := ∀ j, j + 1 < k → ¬ Conn (relE (E ++ (starL (l.map own)).take j)) (own (getI l 0)) (own (getI l (j + 1)))

theorem star_more (h : k + 1 < l.length) : E ++ (starL (l.map own)).take (k + 1) = (E ++ (starL (l.map own)).take k) ++ [(own (getI l 0), own (getI l (k + 1)))] := by
  rw [List.take_add_one, starL_get h, List.append_assoc]
  rfl

set_option maxRecDepth 100000 in
set_option maxHeartbeats 2000000 in
theorem hangBy_any (v : Value) (w : World) (hI : Ints w v l) (hoff : Off (New mb B) v) (h0 : 0 < l.length) (hl : l.length ≤ 1000000) (hwf : ∀ x ∈ l, (Lit.int .i64 x).wf = true) (H : Hg w mb nn B F sb s n own Q E) (hmB : mb < B) (hB : B ≤ w.heap.size) (hn : n ≤ 800000) (hown : ∀ x, Q x → own x ∈ countTo n) :
    Calls Tryz.prog 81 #[v, .map (some mb), .pointer (some ⟨sb, 0, none⟩)] w fun e w' => Only (New mb B) w w' ∧
      ((e = .returned (.bool true) ∧ KeysOk Q l l.length ∧ JoinsOk own E l l.length ∧ ∃ F' s', Hg w' mb nn B F' sb s' n own (fun x => Q x ∧ x ∉ l) (E ++ starL (l.map own))) ∨
       (e = .returned (.bool false) ∧ ¬ (KeysOk Q l l.length ∧ JoinsOk own E l l.length))) := by
  have HI := Lib.hid hI
  obtain ⟨A, cap, rfl⟩ := ints_form hI
  obtain ⟨b0, o0, rfl, hb0, hc0⟩ := ints_at hI h0
  have HW := Lib.hid hwf
  have HO := Lib.hid hoff
  have HN := Lib.hid hown
  have HH := Lib.hid H
  have HM := Lib.hid H.map
  rw [Nat.add_zero] at hc0
  have w0 := HW.out _ (getI_in l 0 h0)
  have i0 : (0 : Int) < (l.length : Int) := by omega
  clear hI hwf hoff hown H
  go_enter Tryz.func81, Tryz.ntmps81
  go_wp2_with (at_lookup; refine wpList_imap_get rfl _ _ rfl mb nn HM.out w0 rfl rfl ?_)
  intro fc hfc
  have HF := Lib.hid hfc
  clear hfc hc0 HM w0
  go_wp2
  go_loopw [19] (fun i wr => ∃ (k : Nat) (F : Nat → Prop) (s : St), k ≤ l.length ∧ i = .int .i64 (k : Nat) ∧ Hid (Hg wr mb nn B F sb s n own (fun x => Q x ∧ x ∉ l.take k) (E ++ (starL (l.map own)).take (k - 1))) ∧ Hid (Only (New mb B) w wr) ∧ Hid (KeysOk Q l k ∧ JoinsOk own E l k)) (fun i _ => l.length - (Go.RowKit.intOf i).toNat)
  case atStart => exact ⟨0, F, s, Nat.zero_le _, rfl, Lib.hid (by rw [show (starL (l.map own)).take (0 - 1) = [] from rfl, List.append_nil]; exact HH.out.cong (fun x => by simp)), Lib.hid (Only.refl _ _), Lib.hid ⟨fun j h => absurd h (Nat.not_lt_zero _), fun j h => absurd h (Nat.not_lt_zero _)⟩⟩
  case round =>
    obtain ⟨k, F1, s1, hk, rfl, hH, hO, hK⟩ := hrel
    obtain ⟨wq, hwq⟩ : ∃ z, z = wr := ⟨_, rfl⟩
    subst hwq
    by_cases hlt : k < l.length
    · have hI1 := HI.out.only HO.out hO.out
      obtain ⟨bk, ok, e, hbk, hck⟩ := ints_at hI1 hlt
      cases e
      have hwk := HW.out _ (getI_in l k hlt)
      have HKO := Lib.hid hK.out.1
      have HJO := Lib.hid hK.out.2
      have HM1 := Lib.hid hH.out.map
      have HSZ := Lib.hid (Nat.le_trans hB hO.out.size)
      by_cases hq : Q (getI l k) ∧ getI l k ∉ l.take k
      · have hyes : (true = true) ↔ (Q (getI l k) ∧ getI l k ∉ l.take k) := ⟨fun _ => hq, fun _ => rfl⟩
        have HQ := Lib.hid hq
        have HKN := Lib.hid (show KeysOk Q l (k + 1) from fun j hj => by
          rcases Nat.lt_or_eq_of_le (Nat.le_of_lt_succ hj) with h | rfl
          · exact HKO.out j h
          · exact hq)
        have HTS := Lib.hid (fun y => show (Q y ∧ y ∉ l.take (k + 1)) ↔ ((Q y ∧ y ∉ l.take k) ∧ y ≠ getI l k) by
          rw [take_succ_getI l k hlt, List.mem_append, List.mem_singleton, not_or, and_assoc])
        clear hq hK
        rcases Nat.eq_zero_or_pos k with hk0 | hkp
        · have HJN := Lib.hid (show JoinsOk own E l (k + 1) from fun j hj => by omega)
          have HE := Lib.hid (show k + 1 - 1 = k - 1 by omega)
          have t0 : decide ((0 : Int) < (k : Int)) = false := decide_eq_false (by omega)
          have t1 : ¬ (0 : Int) < (k : Int) := by omega
          have HK0 := Lib.hid hk0
          have HX := Lib.hid HN
          clear hk0 HJO HKO
          generalize getI l k = x at *
          go_wp2_with (first | (at_lookup; refine wpList_imap_ok rfl _ _ rfl mb nn HM1.out hwk rfl rfl hyes ?_; intro pc hpc; clear hpc) | (at_delete; refine wpList_imap_del rfl _ _ rfl mb nn HM1.out hwk rfl rfl ?_))
          clear hck
          intro w2 hm2 ht2
          have H2 := Lib.hid ((hH.out.del hmB hm2 ht2).cong HTS.out)
          have HO2 := Lib.hid (hO.out.trans' (only_map ht2 B))
          rw [← HE.out] at H2
          clear hm2 ht2
          go_wp2
          go_roundw
          case rel => exact ⟨k + 1, F1, s1, by omega, by go_num, H2, HO2, Lib.hid ⟨HKN.out, HJN.out⟩⟩
          case measure => simp [Go.RowKit.intOf]; omega
        · obtain ⟨m, rfl⟩ : ∃ m, k = m + 1 := ⟨k - 1, by omega⟩
          have t0 : decide ((0 : Int) < ((m + 1 : Nat) : Int)) = true := decide_eq_true (by omega)
          have t1 : (0 : Int) < ((m + 1 : Nat) : Int) := by omega
          have hq0 := (HKO.out 0 (by omega)).1
          have ein0 := HN.out _ hq0
          have eink := HN.out _ HQ.out.1
          have HFC := Lib.hid (HF.out hq0)
          have HSM := Lib.hid (star_more (own := own) (E := E) hlt)
          have HJJ := Lib.hid (told_joins hH.out.told ein0 eink)
          rw [show m + 1 - 1 = m by omega] at hH HJJ
          have hsl : s1.ts.length ≤ 900000 := by rw [hH.out.told.1, countTo_length]; omega
          have HJ := Lib.hid (join_any wq F1 sb s1 (own (getI l 0)) (own (getI l (m + 1))) hH.out.sets (in_wf (by omega) ein0) (in_wf (by omega) eink) hsl)
          have HE0 := Lib.hid ein0
          have HEk := Lib.hid eink
          by_cases hc : Conn (relE (E ++ (starL (l.map own)).take m)) (own (getI l 0)) (own (getI l (m + 1)))
          · have hjf : s1.joins (own (getI l 0)) (own (getI l (m + 1))) = false := by
              cases h : s1.joins (own (getI l 0)) (own (getI l (m + 1)))
              · rfl
              · exact absurd hc (HJJ.out.1 h)
            rw [hjf] at HJ
            have HNO := Lib.hid (show ¬ (KeysOk Q l l.length ∧ JoinsOk own E l l.length) from fun h => h.2 m hlt hc)
            have hfc := HFC.out
            subst hfc
            clear hc hjf HJJ ein0 eink hq0 HFC HF HSM hsl
            generalize own (getI l 0) = fa at *
            obtain ⟨fb, hfb⟩ : ∃ z, z = own (getI l (m + 1)) := ⟨_, rfl⟩
            rw [← hfb] at HJ HEk
            have HFB := Lib.hid hfb
            clear hfb
            generalize getI l (m + 1) = x at *
            go_wp2_with (at_lookup; refine wpList_imap_ok rfl _ _ rfl mb nn HM1.out hwk rfl rfl hyes ?_; intro pc hpc; obtain rfl := (hpc HQ.out).trans HFB.out.symm; clear hpc)
            refine HJ.out.mono ?_
            clear HJ hck hyes HM1
            rintro e w2 ⟨rfl, hA⟩
            have HO2 := Lib.hid (hO.out.trans' (hH.out.join hmB HSZ.out (by omega) HE0.out HEk.out hA).2)
            clear hA
            go_wp2
            go_ret
            exact ⟨HO2.out, .inr ⟨rfl, HNO.out⟩⟩
          · have hjf : s1.joins (own (getI l 0)) (own (getI l (m + 1))) = true := HJJ.out.2 hc
            rw [hjf] at HJ
            have HJN := Lib.hid (show JoinsOk own E l (m + 1 + 1) from fun j hj => by
              rcases Nat.lt_or_eq_of_le (Nat.le_of_lt_succ hj) with h | h
              · exact HJO.out j h
              · obtain rfl : j = m := by omega
                exact hc)
            have hfc := HFC.out
            subst hfc
            clear hc hjf HJJ ein0 eink hq0 HFC HF hsl
            generalize own (getI l 0) = fa at *
            obtain ⟨fb, hfb⟩ : ∃ z, z = own (getI l (m + 1)) := ⟨_, rfl⟩
            rw [← hfb] at HJ HSM HEk
            have HFB := Lib.hid hfb
            clear hfb
            generalize getI l (m + 1) = x at *
            go_wp2_with (at_lookup; refine wpList_imap_ok rfl _ _ rfl mb nn HM1.out hwk rfl rfl hyes ?_; intro pc hpc; obtain rfl := (hpc HQ.out).trans HFB.out.symm; clear hpc)
            refine HJ.out.mono ?_
            clear HJ hck hyes HM1
            rintro e w2 ⟨rfl, hA⟩
            obtain ⟨⟨F2, hH2⟩, hO2⟩ := hH.out.join hmB HSZ.out (by omega) HE0.out HEk.out hA
            have HH2 := Lib.hid hH2
            have HO2 := Lib.hid (hO.out.trans' hO2)
            have HM2 := Lib.hid hH2.map
            clear hA hH2 hO2
            go_wp2_with (at_delete; refine wpList_imap_del rfl _ _ rfl mb nn HM2.out hwk rfl rfl ?_)
            intro w3 hm3 ht3
            have H3 := Lib.hid ((HH2.out.del hmB hm3 ht3).cong HTS.out)
            have HO3 := Lib.hid (HO2.out.trans' (only_map ht3 B))
            rw [← HSM.out] at H3
            clear hm3 ht3
            go_wp2
            go_roundw
            case rel => exact ⟨m + 1 + 1, F2, _, by omega, by go_num, H3, HO3, Lib.hid ⟨HKN.out, HJN.out⟩⟩
            case measure => simp [Go.RowKit.intOf]; omega
      · have HNO := Lib.hid (show ¬ (KeysOk Q l l.length ∧ JoinsOk own E l l.length) from fun h => hq (h.1 k hlt))
        have hno : (false = true) ↔ (Q (getI l k) ∧ getI l k ∉ l.take k) := ⟨fun h => (by cases h), fun h => absurd h hq⟩
        clear hq
        generalize getI l k = x at *
        go_wp2_with (at_lookup; refine wpList_imap_ok rfl _ _ rfl mb nn HM1.out hwk rfl rfl hno ?_; intro pc hpc; clear hpc)
        go_ret
        exact ⟨hO.out, .inr ⟨rfl, HNO.out⟩⟩
    · obtain rfl : k = l.length := by omega
      have HE := Lib.hid (show (starL (l.map own)).take (l.length - 1) = starL (l.map own) from List.take_of_length_le (by rw [starL_len, List.length_map]; exact Nat.le_refl _))
      go_wp2
      go_ret
      refine ⟨hO.out, .inl ⟨rfl, hK.out.1, hK.out.2, F1, s1, ?_⟩⟩
      have h := hH.out
      rw [HE.out, List.take_length] at h
      exact h
end Go.Proofs.YtmbpmepoaonleaaGreat.Pl

/-! The program's piecesOf: in which piece each walk is. -/
namespace Go.Proofs.YtmbpmepoaonleaaGreat.Pl
open Go.Proofs.YtmbpmepoaonleaaGreat Go.Proofs.YtmbpmepoaonleaaGreat.Fc Go.Proofs.YtmbpmepoaonleaaGreat.Rt Go.RowKit Go.Maps

variable {w w' w1 : World} {mb n m : Nat} {Q Q' : Int → Prop} {f : Int → Int} {ps : List Prt} {L : List Wlk}

/-- The first h walks' keys. -/
def keysTo (L : List Wlk) (h : Nat) : List Int := (L.take h).map (·.1)
/-- All that may be a key, of the first k pieces. -/
def Cov (ps : List Prt) (Q : Int → Prop) (k : Nat) : Prop := ∀ j, j < k → (∀ x ∈ (getP ps j).v, Q (-1 - x)) ∧ ∀ e ∈ (getP ps j).e, Q (2 * e) ∧ Q (2 * e + 1)
theorem Cov.more {k : Nat} (h : Cov ps Q k) (hs : ∀ x, Q x → Q' x) : Cov ps Q' k := fun j hj => ⟨fun x hx => hs _ ((h j hj).1 x hx), fun e he => ⟨hs _ ((h j hj).2 e he).1, hs _ ((h j hj).2 e he).2⟩⟩

/-- What the numbers of a graph's pieces are like. -/
structure PlcOk (ps : List Prt) (f : Int → Int) : Prop where
  len : ps.length ≤ 100000
  vlen : ∀ j, j < ps.length → (getP ps j).v.length ≤ 1000
  elen : ∀ j, j < ps.length → (getP ps j).e.length ≤ 1000
  v : ∀ j, j < ps.length → ∀ x ∈ (getP ps j).v, f (-1 - x) = (j : Nat) ∧ 0 ≤ x ∧ x ≤ 1000000
  e : ∀ j, j < ps.length → ∀ x ∈ (getP ps j).e, f (2 * x) = (j : Nat) ∧ f (2 * x + 1) = (j : Nat) ∧ 0 ≤ x ∧ x ≤ 1000000

theorem wf64 {n : Int} (h0 : -9223372036854775808 ≤ n) (h1 : n ≤ 9223372036854775807) : (Lit.int .i64 n).wf = true := by
  show (decide (IntKind.i64.min ≤ n) && decide (n ≤ IntKind.i64.max)) = true
  have h2 : IntKind.i64.min = -9223372036854775808 := rfl
  have h3 : IntKind.i64.max = 9223372036854775807 := rfl
  rw [h2, h3, Bool.and_eq_true, decide_eq_true_iff, decide_eq_true_iff]
  omega

set_option maxRecDepth 100000 in
set_option maxHeartbeats 4000000 in
theorem piecesOf_any (v2 : Value) (A : Option Addr) (cap : Nat) (w : World) (hP : PList w A ps) (hok : PlcOk ps f) (hL : TwoL w v2 (L.map cmp)) (hLl : L.length ≤ 1000000)
    (hcov : ∀ x ∈ L, (∃ j, j < ps.length ∧ ∃ y ∈ (getP ps j).v, x.1 = -1 - y) ∨ ∃ j, j < ps.length ∧ ∃ y ∈ (getP ps j).e, x.1 = 2 * y ∨ x.1 = 2 * y + 1) :
    Calls Tryz.prog 44 #[v2, .slice A ps.length cap] w fun e w' => ∃ mb nn, e = .returned (.map (some mb)) ∧ w.heap.size ≤ mb ∧ IMap w' mb nn (fun x => x ∈ L.map (·.1)) f ∧ Below w.heap.size w w' := by
  obtain ⟨A2, c2, rfl, -⟩ := id hL
  rw [List.length_map] at hL ⊢
  have HPL := Lib.hid hP
  have HL := Lib.hid hL
  have HOK := Lib.hid hok
  have HCV := Lib.hid hcov
  have hpl := hok.len
  have hmm := @run_makeMap Tryz.prog
  have HM0 := Lib.hid (IMap.start w f)
  have HB0 := Lib.hid (below_alloc (w := w) (.map #[] 0))
  clear hP hL hok hcov
  go_enter Tryz.func44, Tryz.ntmps44
  go_wp2
  generalize w.alloc (.map #[] 0) = w1 at *
  go_loopw [18] (fun i wr => ∃ k nn Q, k ≤ ps.length ∧ nn ≤ 5000 * k ∧ i = .int .i64 (k : Nat) ∧ Hid (IMap wr w.heap.size nn Q f) ∧ Hid (Cov ps Q k) ∧ Hid (Below w.heap.size w wr)) (fun i _ => ps.length - (Go.RowKit.intOf i).toNat)
  case atStart => exact ⟨0, 0, _, Nat.zero_le _, Nat.zero_le _, rfl, HM0, Lib.hid (fun j h => absurd h (Nat.not_lt_zero _)), HB0⟩
  case round =>
    obtain ⟨k, nn, Q, hk, hnk, rfl, hM, hC, hB⟩ := hrel
    obtain ⟨wo, hwo⟩ : ∃ z, z = wr := ⟨_, rfl⟩
    subst hwo
    by_cases hlt : k < ps.length
    · obtain ⟨gb, A1, cv, A3, ce2, rfl, hgb, hc1, hc2, hi1, hi2⟩ := (HPL.out.below hB.out) k hlt
      have hvl := HOK.out.vlen k hlt
      have hel := HOK.out.elen k hlt
      obtain ⟨bx, hmx⟩ := one_box wo (.slice A1 (getP ps k).v.length cv) (.slice A3 (getP ps k).e.length ce2) 27
      have z0 := bx.c0
      have HX := Lib.hid bx
      have HM2 := Lib.hid (hM.out.below hmx)
      have HBX := Lib.hid (hB.out.trans (hmx.mono hB.out.size))
      have HIV := Lib.hid (hi1.below hmx)
      have HIE := Lib.hid (hi2.below hmx)
      have hwk : (Lit.int .i64 (k : Int)).wf = true := wf64 (by omega) (by omega)
      have HWK := Lib.hid hwk
      have HVF := Lib.hid (HOK.out.v k hlt)
      have HEF := Lib.hid (HOK.out.e k hlt)
      clear hi1 hi2 bx hmx hM hwk
      go_wp2
      clear z0 hc1 hc2
      generalize wo.alloc (.cells #[.slice A1 (getP ps k).v.length cv, .slice A3 (getP ps k).e.length ce2] 27) = wx at *
      go_loopw [26] (fun i wr => ∃ j nn' Q', j ≤ (getP ps k).v.length ∧ nn' ≤ nn + j ∧ i = .int .i64 (j : Nat) ∧ Hid (IMap wr w.heap.size nn' Q' f) ∧ Hid (∀ x, Q x → Q' x) ∧ Hid (∀ i, i < j → Q' (-1 - getI (getP ps k).v i)) ∧ Hid (Below w.heap.size w wr) ∧ Hid (wx.mapTurned wr w.heap.size)) (fun i _ => (getP ps k).v.length - (Go.RowKit.intOf i).toNat)
      case atStart => exact ⟨0, nn, Q, Nat.zero_le _, Nat.le_refl _, rfl, HM2, Lib.hid (fun _ h => h), Lib.hid (fun i h => absurd h (Nat.not_lt_zero _)), HBX, Lib.hid (by obtain ⟨D, h1, _⟩ := HM2.out; exact h1.turned_refl)⟩
      case round =>
        clear HM2 HBX hB
        obtain ⟨j, nn', Q2, hj, hn', rfl, hM, hQ, hA, hB, hT⟩ := hrel
        obtain ⟨wv, hwv⟩ : ∃ z, z = wr := ⟨_, rfl⟩
        subst hwv
        by_cases hjl : j < (getP ps k).v.length
        · obtain ⟨ub, uo, rfl, hub, huc⟩ := ints_at (ints_turned HIV.out hT.out) hjl
          have hxm : getI (getP ps k).v j ∈ (getP ps k).v := Rt.getI_in _ _ hjl
          obtain ⟨hfx, hx0, hx1⟩ := HVF.out _ hxm
          have HFX := Lib.hid hfx
          have hwx : (Lit.int .i64 (-1 - getI (getP ps k).v j)).wf = true := wf64 (by omega) (by omega)
          have HAN := Lib.hid (show ∀ i, i < j + 1 → (fun t => Q2 t ∨ t = -1 - getI (getP ps k).v j) (-1 - getI (getP ps k).v i) from fun i hi => by
            rcases Nat.lt_or_eq_of_le (Nat.le_of_lt_succ hi) with h | rfl
            · exact .inl (hA.out i h)
            · exact .inr rfl)
          clear hub hxm hA hfx
          generalize getI (getP ps k).v j = x at *
          go_wp2_with (at_mapUpdate; refine wpList_imap_put rfl _ _ _ rfl w.heap.size nn' hM.out (by omega) hwx rfl rfl (congrArg (Value.int .i64) HFX.out.symm) (by rw [HFX.out]; exact HWK.out) ?_)
          intro w8 hM8 ht8
          have HM8 := Lib.hid hM8
          have HQ8 := Lib.hid (show ∀ y, Q y → (fun t => Q2 t ∨ t = -1 - x) y from fun y hy => .inl (hQ.out y hy))
          have HB8 := Lib.hid (Rt.below_turned hB.out ht8 (Nat.le_refl _) hB.out.size)
          have HT8 := Lib.hid (hT.out.trans ht8)
          clear hM8 ht8 huc hM hB hT hQ
          go_wp2
          go_roundw
          case rel => exact ⟨j + 1, nn' + 1, _, by omega, by omega, by go_num, HM8, HQ8, HAN, HB8, HT8⟩
          case measure => simp [Go.RowKit.intOf]; omega
        · obtain rfl : j = (getP ps k).v.length := by omega
          have z1 := cell_turned HX.out.c1 hT.out
          have HIE2 := Lib.hid (ints_turned HIE.out hT.out)
          have HCV2 := Lib.hid (hC.out.more hQ.out)
          have HVA := Lib.hid (show ∀ x ∈ (getP ps k).v, Q2 (-1 - x) from fun x hx => by
            obtain ⟨i, hi, rfl⟩ := (mem_getI _ _).1 hx
            exact hA.out i hi)
          clear hT hQ hA
          go_wp2
          clear z1
          go_loopw [38] (fun i wr => ∃ j nn'' Q', j ≤ (getP ps k).e.length ∧ nn'' ≤ nn' + 2 * j ∧ i = .int .i64 (j : Nat) ∧ Hid (IMap wr w.heap.size nn'' Q' f) ∧ Hid (∀ x, Q2 x → Q' x) ∧ Hid (∀ i, i < j → Q' (2 * getI (getP ps k).e i) ∧ Q' (2 * getI (getP ps k).e i + 1)) ∧ Hid (Below w.heap.size w wr) ∧ Hid (wv.mapTurned wr w.heap.size)) (fun i _ => (getP ps k).e.length - (Go.RowKit.intOf i).toNat)
          case atStart => exact ⟨0, nn', Q2, Nat.zero_le _, Nat.le_refl _, rfl, hM, Lib.hid (fun _ h => h), Lib.hid (fun i h => absurd h (Nat.not_lt_zero _)), hB, Lib.hid (by obtain ⟨D, h1, _⟩ := hM.out; exact h1.turned_refl)⟩
          case round =>
            clear hM hB
            obtain ⟨i, ne, Q3, hi, hne, rfl, hM, hQ, hA, hB, hT⟩ := hrel
            by_cases hil : i < (getP ps k).e.length
            · obtain ⟨ub, uo, rfl, hub, huc⟩ := ints_at (ints_turned HIE2.out hT.out) hil
              have hxm : getI (getP ps k).e i ∈ (getP ps k).e := Rt.getI_in _ _ hil
              obtain ⟨hfx, hfy, hx0, hx1⟩ := HEF.out _ hxm
              have HFX := Lib.hid hfx
              have HFY := Lib.hid hfy
              have hwx : (Lit.int .i64 (2 * getI (getP ps k).e i)).wf = true := wf64 (by omega) (by omega)
              have hwy : (Lit.int .i64 (2 * getI (getP ps k).e i + 1)).wf = true := wf64 (by omega) (by omega)
              have HAN := Lib.hid (show ∀ h, h < i + 1 → (fun t => (fun t => Q3 t ∨ t = 2 * getI (getP ps k).e i) t ∨ t = 2 * getI (getP ps k).e i + 1) (2 * getI (getP ps k).e h) ∧ (fun t => (fun t => Q3 t ∨ t = 2 * getI (getP ps k).e i) t ∨ t = 2 * getI (getP ps k).e i + 1) (2 * getI (getP ps k).e h + 1) from fun h hh => by
                rcases Nat.lt_or_eq_of_le (Nat.le_of_lt_succ hh) with h1 | rfl
                · exact ⟨.inl (.inl (hA.out h h1).1), .inl (.inl (hA.out h h1).2)⟩
                · exact ⟨.inl (.inr rfl), .inr rfl⟩)
              clear hub hxm hA hfx hfy
              generalize getI (getP ps k).e i = x at *
              go_wp2_with (at_mapUpdate; refine wpList_imap_put rfl _ _ _ rfl w.heap.size ne hM.out (by omega) hwx rfl rfl (congrArg (Value.int .i64) HFX.out.symm) (by rw [HFX.out]; exact HWK.out) ?_)
              intro w8 hM8 ht8
              have HM8 := Lib.hid hM8
              have HB8 := Lib.hid (Rt.below_turned hB.out ht8 (Nat.le_refl _) hB.out.size)
              have HT8 := Lib.hid (hT.out.trans ht8)
              clear hM8 ht8 huc hM hB hT
              go_wp2_with (at_mapUpdate; refine wpList_imap_put rfl _ _ _ rfl w.heap.size (ne + 1) HM8.out (by omega) hwy rfl rfl (congrArg (Value.int .i64) HFY.out.symm) (by rw [HFY.out]; exact HWK.out) ?_)
              intro w9 hM9 ht9
              have HM9 := Lib.hid hM9
              have HQ9 := Lib.hid (show ∀ y, Q2 y → (fun t => (fun t => Q3 t ∨ t = 2 * x) t ∨ t = 2 * x + 1) y from fun y hy => .inl (.inl (hQ.out y hy)))
              have HB9 := Lib.hid (Rt.below_turned HB8.out ht9 (Nat.le_refl _) HB8.out.size)
              have HT9 := Lib.hid (HT8.out.trans ht9)
              clear hM9 ht9 hQ HB8 HT8 HM8
              go_wp2
              go_roundw
              case rel => exact ⟨i + 1, ne + 2, _, by omega, by omega, by go_num, HM9, HQ9, HAN, HB9, HT9⟩
              case measure => simp [Go.RowKit.intOf]; omega
            · obtain rfl : i = (getP ps k).e.length := by omega
              have HCN := Lib.hid (show Cov ps Q3 (k + 1) from fun j hj => by
                rcases Nat.lt_or_eq_of_le (Nat.le_of_lt_succ hj) with h | rfl
                · exact (HCV2.out.more hQ.out) j h
                · refine ⟨fun x hx => hQ.out _ (HVA.out x hx), fun e he => ?_⟩
                  obtain ⟨i, hi, rfl⟩ := (mem_getI _ _).1 he
                  exact hA.out i hi)
              clear hT hQ hA
              go_wp2
              go_roundw
              case rel => exact ⟨k + 1, ne, Q3, by omega, by omega, by go_num, hM, HCN, hB⟩
              case measure => simp [Go.RowKit.intOf]; omega
    · obtain rfl : k = ps.length := by omega
      have HM4 := Lib.hid (IMap.start wo f)
      have hba := below_alloc (w := wo) (.map #[] 0)
      have HP4 := Lib.hid (hM.out.below hba)
      have HB4 := Lib.hid (hB.out.trans (hba.mono hB.out.size))
      have HNE := Lib.hid (show w.heap.size < wo.heap.size from hM.out.lt)
      have HLE := Lib.hid hB.out.size
      clear hba hM hB
      go_wp2
      generalize hmb : wo.heap.size = mb at *
      clear hmb
      generalize wo.alloc (.map #[] 0) = w4 at *
      go_loopw [56] (fun i wr => ∃ h nx, h ≤ L.length ∧ nx ≤ h ∧ i = .int .i64 (h : Nat) ∧ Hid (IMap wr mb nx (fun x => x ∈ keysTo L h) f) ∧ Hid (IMap wr w.heap.size nn Q f) ∧ Hid (Below w.heap.size w wr)) (fun i _ => L.length - (Go.RowKit.intOf i).toNat)
      case atStart => exact ⟨0, 0, Nat.zero_le _, Nat.zero_le _, rfl, Lib.hid (HM4.out.cong (fun x => by simp [keysTo])), HP4, HB4⟩
      case round =>
        clear HM4 HP4 HB4
        obtain ⟨h, nx, hh, hnx, rfl, hM, hP, hB⟩ := hrel
        obtain ⟨wq, hwq⟩ : ∃ z, z = wr := ⟨_, rfl⟩
        subst hwq
        by_cases hlt2 : h < L.length
        · obtain ⟨bL, rfl, hbL, hcL1, A', c', hcL2⟩ := fwalk_at (HL.out.below hB.out) hlt2
          have HTK := Lib.hid (fun x => show x ∈ keysTo L (h + 1) ↔ (x ∈ keysTo L h ∨ x = (L[h]).1) by
            unfold keysTo
            rw [List.take_succ_eq_append_getElem hlt2, List.map_append, List.mem_append, List.map_cons, List.map_nil, List.mem_singleton])
          have hq : Q (L[h]).1 := by
            rcases HCV.out _ (List.getElem_mem hlt2) with ⟨j, hj, y, hy, e⟩ | ⟨j, hj, y, hy, e | e⟩
            · rw [e]; exact (hC.out j hj).1 y hy
            · rw [e]; exact ((hC.out j hj).2 y hy).1
            · rw [e]; exact ((hC.out j hj).2 y hy).2
          have hwf : (Lit.int .i64 (L[h]).1).wf = true ∧ (Lit.int .i64 (f (L[h]).1)).wf = true := by
            rcases HCV.out _ (List.getElem_mem hlt2) with ⟨j, hj, y, hy, e⟩ | ⟨j, hj, y, hy, e | e⟩
            · obtain ⟨h1, h2, h3⟩ := HOK.out.v j hj y hy
              rw [e]
              exact ⟨wf64 (by omega) (by omega), by rw [h1]; exact wf64 (by omega) (by omega)⟩
            · obtain ⟨h1, _, h2, h3⟩ := HOK.out.e j hj y hy
              rw [e]
              exact ⟨wf64 (by omega) (by omega), by rw [h1]; exact wf64 (by omega) (by omega)⟩
            · obtain ⟨_, h1, h2, h3⟩ := HOK.out.e j hj y hy
              rw [e]
              exact ⟨wf64 (by omega) (by omega), by rw [h1]; exact wf64 (by omega) (by omega)⟩
          obtain ⟨hwk, hwv⟩ := hwf
          have HWV := Lib.hid hwv
          have HQ := Lib.hid hq
          obtain ⟨bx, hmx⟩ := one_box wq (.int .i64 (L[h]).1) (.slice A' (L[h]).2.length c') 78
          have z0 := bx.c0
          have HMX := Lib.hid (hM.out.below hmx)
          have HPX := Lib.hid (hP.out.below hmx)
          have HBX := Lib.hid (hB.out.trans (hmx.mono hB.out.size))
          clear bx hmx hM hP hB hq hwv hbL
          generalize (L[h]).2.length = nd at *
          generalize (L[h]).1 = key at *
          go_wp2_with (first
            | (at_lookup; refine wpList_imap_get rfl _ _ rfl w.heap.size nn HPX.out hwk rfl rfl ?_; intro c hc; obtain rfl := hc HQ.out; clear hc)
            | (at_mapUpdate; refine wpList_imap_put rfl _ _ _ rfl mb nx HMX.out (by omega) hwk rfl rfl rfl HWV.out ?_))
          clear z0 hcL1 hcL2
          intro w8 hM8 ht8
          have HM8 := Lib.hid (hM8.cong HTK.out)
          have HP8 := Lib.hid (HPX.out.only (only_turned ht8) (by have := HNE.out; omega))
          have HB8 := Lib.hid (Rt.below_turned HBX.out ht8 HLE.out HBX.out.size)
          clear hM8 ht8 HMX HPX HBX
          go_wp2
          go_roundw
          case rel => exact ⟨h + 1, nx + 1, by omega, by omega, by go_num, HM8, HP8, HB8⟩
          case measure => simp [Go.RowKit.intOf]; omega
        · obtain rfl : h = L.length := by omega
          go_wp2
          go_ret
          refine ⟨mb, nx, rfl, HLE.out, ?_, hB.out⟩
          have := hM.out
          unfold keysTo at this
          rw [List.take_length] at this
          exact this
end Go.Proofs.YtmbpmepoaonleaaGreat.Pl
