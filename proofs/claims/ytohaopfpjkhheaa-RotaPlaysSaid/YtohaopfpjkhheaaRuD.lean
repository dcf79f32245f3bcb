/-
  What goes through all darts, as an iterator: for whatever body, one that leaves early too.
-/
import Derived.Test.YtohaopfpjkhheaaRuC
namespace Go.Proofs.Ytohaopfpjkhheaa.Rt
open Go.Proofs.Ytohaopfpjkhheaa Go.RowKit Go.Maps Go.Shelf

attribute [local go_sem] Oper.semAt_some

/-- The slice value reads as the numbers l, wherever it lies. -/
def IntsR (w : World) (v : Value) (l : List Int) : Prop :=
  ∃ A cap, v = .slice A l.length cap ∧ (0 < l.length → ∃ b off, A = some ⟨b, off, none⟩ ∧ ∀ j, j < l.length → w.cell? ⟨b, off + j, none⟩ = some (.int .i64 (getI l j)))
theorem IntsR.of {w : World} {v : Value} {l : List Int} (h : Ints w v l) : IntsR w v l := by
  obtain ⟨A, cap, rfl, _, _, hr⟩ := h
  refine ⟨A, cap, rfl, fun h0 => ?_⟩
  obtain ⟨b, off, hA, _, hg⟩ := hr h0
  exact ⟨b, off, hA, hg⟩
/-- What a body has to leave as it was. -/
def KpD (v : Value) (l : List Int) (w w' : World) : Prop := IntsR w v l → IntsR w' v l
theorem KpD.trans {v : Value} {l : List Int} {A B C : World} (h : KpD v l A B) (k : KpD v l B C) : KpD v l A C := fun x => k (h x)
theorem KpD.obj {v : Value} {l : List Int} (W : World) (b : Nat) (o o' : Obj) (ho : W.heap[b]? = some o) (hc : o.isCells = false) : KpD v l W (W.putObj b o') := by
  rintro ⟨A, cap, rfl, hr⟩
  refine ⟨A, cap, rfl, fun h0 => ?_⟩
  obtain ⟨bb, off, hA, hg⟩ := hr h0
  refine ⟨bb, off, hA, fun j hj => ?_⟩
  have hne : bb ≠ b := fun e => by
    have h1 := hg j hj
    unfold World.cell? at h1
    simp only [e, ho] at h1
    cases o <;> simp [Obj.isCells] at hc h1
  exact (World.cell?_of_block (World.putObj_heap_other hne)).trans (hg j hj)
theorem KpD.block {v : Value} {l : List Int} {W W' : World} (h : ∀ b, (∃ A, v.ownBlock = some b ∧ A = b) → W'.heap[b]? = W.heap[b]?) : KpD v l W W' := by
  rintro ⟨A, cap, rfl, hr⟩
  refine ⟨A, cap, rfl, fun h0 => ?_⟩
  obtain ⟨bb, off, rfl, hg⟩ := hr h0
  refine ⟨bb, off, rfl, fun j hj => ?_⟩
  exact (World.cell?_of_block (a := ⟨bb, off + j, none⟩) (h bb ⟨bb, rfl, rfl⟩)).trans (hg j hj)
theorem KpD.below {v : Value} {l : List Int} {w W W' : World} (hI : Ints w v l) (h' : Below w.heap.size w W') : KpD v l W W' := fun _ => IntsR.of (hI.below h')

abbrev In (l : List Int) := { x : Int // x ∈ l }

theorem att_len (l : List Int) : l.attach.length = l.length := List.length_attach
theorem att_take {l : List Int} {k : Nat} (h : k < l.length) : ∃ x : In l, x.1 = getI l k ∧ l.attach.take (k + 1) = l.attach.take k ++ [x] := by
  refine ⟨l.attach[k]'(by rw [att_len]; exact h), ?_, ?_⟩
  · rw [List.getElem_attach, getI_of l k h]
  · rw [List.take_add_one]
    simp [h]

set_option maxRecDepth 100000 in
set_option maxHeartbeats 2000000 in
theorem iter1_in (F : Fence) (n : Nat) (h7 : F.fn 39) (hro : F.round = none) (hn : 1 ≤ n) (lp Bs : Nat) (sv : Value) (l : List Int) (hlen : l.length ≤ 1000000) (J Jx : List (In l) → World → Prop)
    (hY : ∀ pre x W, J pre W → pre.length < l.length → YieldAt F (n - 1) Try.prog lp #[.int .i64 x.1] W fun e W' =>
      (e = .returned (.bool true) ∧ J (pre ++ [x]) W' ∧ KpD sv l W W') ∨ (e = .returned (.bool false) ∧ Jx (pre ++ [x]) W'))
    (W : World) (hBs : W.cell? ⟨Bs, 0, none⟩ = some sv) (hI : IntsR W sv l) (h0 : J [] W) :
    CallsIn F n Try.prog 39 #[.func (.yield lp) #[] #[], .pointer (some ⟨Bs, 0, none⟩)] W fun e W' => (∃ v, e = .returned v) ∧
      ((∃ ys, ys = l.attach ∧ J ys W') ∨ (∃ pre, pre <+: l.attach ∧ Jx pre W')) := by
  have HI := Lib.hid hI
  obtain ⟨A, cap, rfl, hcell⟩ := hI
  clear hcell
  refine callsIn_of_wp Try.func39 rfl h7 ?_ hro
  simp only [Try.ntmps39, List.size_toArray, List.length_cons, List.length_nil, Nat.reduceAdd, Nat.reduceSub, Array.replicate_succ, Array.replicate_zero, List.push_toArray, List.append_toArray, List.nil_append, List.cons_append]
  gi_wp2
  gi_loopw [7] (fun i wr => ∃ k : Nat, k ≤ l.length ∧ i = .int .i64 k ∧ J (l.attach.take k) wr ∧ Hid (IntsR wr (.slice A l.length cap) l))
    (fun i _ => l.length - (intOf i).toNat)
  case atStart => exact ⟨0, Nat.zero_le _, rfl, by rw [List.take_zero]; exact h0, HI⟩
  case round =>
    obtain ⟨k, hk, rfl, hJs, hnx⟩ := hrel
    rename_i wr
    by_cases hlt : k < l.length
    · obtain ⟨A', cap', e', hcell⟩ := hnx.out
      cases e'
      obtain ⟨b, off, rfl, hc⟩ := hcell (by omega)
      have hck := hc k hlt
      obtain ⟨x, hx, HT0⟩ := att_take hlt
      have HT := Lib.hid HT0
      obtain ⟨fn, tmps, assign, body, hy, hR⟩ := hY _ x wr hJs (by rw [List.length_take, att_len]; omega)
      have HP := Lib.hid (List.take_prefix (k + 1) l.attach)
      rw [← hx] at hck
      clear hc hcell HT0 hx
      gi_wp2
      refine hR.mono ?_
      rintro e W3 (⟨rfl, hJ3, hk3⟩ | ⟨rfl, hJx3⟩)
      · have HN := Lib.hid (hk3 hnx.out)
        gi_wp2
        go_roundw
        case rel => exact ⟨k + 1, by omega, by go_num, by rw [HT.out]; exact hJ3, HN⟩
        case measure => simp [intOf]; omega
      · gi_wp2
        refine bodyPost_ret (results_none rfl _ _ _) rfl ?_
        exact ⟨⟨_, rfl⟩, .inr ⟨_, HP.out, by rw [HT.out]; exact hJx3⟩⟩
    · obtain rfl : k = l.length := by omega
      have HT := Lib.hid (show l.attach.take l.length = l.attach by rw [← att_len, List.take_length])
      rw [HT.out] at hJs
      gi_wp2
      go_end0
      exact ⟨⟨_, rfl⟩, .inl ⟨_, rfl, hJs⟩⟩

theorem iter_stops (F : Fence) (n : Nat) (h7 : F.fn 39) (hro : F.round = none) (hn : 1 ≤ n) (Bs : Nat) (sv : Value) (l : List Int) (hlen : l.length ≤ 1000000) (w : World) (hBs : Bs < w.heap.size)
    (hc : w.cell? ⟨Bs, 0, none⟩ = some sv) (hI : Ints w sv l) :
    SeqStopsK F n Try.prog 39 #[.pointer (some ⟨Bs, 0, none⟩)] (fun x : In l => #[Value.int .i64 x.1]) (KpD sv l) (fun ys => ys = l.attach) (fun pre => pre <+: l.attach) l.length w := fun lp J Jx W hW _ _ hY h0 =>
  iter1_in F n h7 hro hn lp Bs sv l hlen J Jx hY W ((hW.cell (p := ⟨Bs, 0, none⟩) hBs).trans hc) (IntsR.of (hI.below hW)) h0

/-- Calls that only make memory of their own leave all other things as they were. -/
theorem keepsOthers_below {W W' : World} (h : Below W.heap.size W W') : KeepsOthers W W' := ⟨h.size, fun k _ ho _ => (h.block k (Array.getElem?_eq_some_iff.1 ho).1).trans ho⟩

end Go.Proofs.Ytohaopfpjkhheaa.Rt
