/-
  Lines: the iterator of a text's lines: what it hands out, one by one, however soon the loop over it stops.
-/
import Derived.RangeFuncNested
import Derived.RangeFuncBound
import Derived.RangeFuncCalls
import Derived.RangeFuncLeaves
import Derived.Shelf.Abstract
import Derived.Shelf.RegionOpen
import Derived.WalkKit
import Derived.OwnWalkIn
import Derived.TacticsInMore
import Derived.LoopNIn
import Derived.LoopIn
import Derived.Test.YtbmfadignoeigaaWordU
namespace Go.Proofs.Ytbmfadignoeigaa
open Go.RowKit Go.Shelf
attribute [local go_sem] Oper.semAt_some

theorem linesTo_prefix (s : ByteArray) (i : Nat) : ∀ m, (linesTo s i).1 <+: (linesTo s (i + m)).1
  | 0 => List.prefix_refl _
  | m + 1 => by
    refine (linesTo_prefix s i m).trans ?_
    by_cases h : endAt s (i + m)
    · rw [← Nat.add_assoc, linesTo_end s (i + m) h]; exact List.prefix_append _ _
    · rw [← Nat.add_assoc, linesTo_other s (i + m) h]; exact List.prefix_refl _

theorem linesTo_all (s : ByteArray) (i : Nat) (h : i ≤ s.size) : (linesTo s i).1 <+: linesOf s := by
  obtain ⟨m, hm⟩ : ∃ m, s.size = i + m := ⟨s.size - i, by omega⟩
  have := linesTo_prefix s i m
  rw [← hm] at this
  refine this.trans ?_
  unfold linesOf
  split
  · exact List.prefix_append _ _
  · exact List.prefix_refl _

theorem grownBy_below {w w' : World} (h : Below w.heap.size w w') : w.grownBy w' none := ⟨h.os, h.tape, h.output, h.size, fun k hk _ => h.block k hk⟩

theorem grownBy_iterAt (w : World) (k : Nat) (s : ByteArray) (p : Nat) : w.grownBy (w.iterAt k s p) (some k) :=
  ⟨rfl, rfl, rfl, by rw [Lib.iterAt_size]; exact Nat.le_refl _, fun j _ hne => Lib.iterAt_other w k j s p (fun e => hne (by rw [e]))⟩

/-- A line that there is, by its number. -/
def LineNo (s : ByteArray) := { i : Nat // i < (linesOf s).length }

/-- What a line is, where it is handed out. -/
def lineArgs (s : ByteArray) (x : LineNo s) : Array Value :=
  #[.int .i64 (((linesOf s)[x.1]'x.2).1 : Int), .string (s.extract ((linesOf s)[x.1]'x.2).1 ((linesOf s)[x.1]'x.2).2)]

theorem line_next (s : ByteArray) (l : List (Nat × Nat)) (k p : Nat) (h : l ++ [(k, p)] <+: linesOf s) : ∃ h : l.length < (linesOf s).length, (linesOf s)[l.length]'h = (k, p) := by
  obtain ⟨r, hr⟩ := h
  have hl : l.length < (linesOf s).length := by rw [← hr]; simp
  refine ⟨hl, ?_⟩
  have : (linesOf s)[l.length]? = some (k, p) := by rw [← hr]; simp
  rw [List.getElem?_eq_getElem hl] at this
  exact Option.some.inj this

theorem range_snoc {α : Type} (f : α → Nat) (pre : List α) (x : α) (n : Nat) (h : pre.map f = List.range n) (hx : f x = n) : (pre ++ [x]).map f = List.range (n + 1) := by
  rw [List.map_append, h, List.range_succ]; simp [hx]

/-- What the loop's rounds keep for the iterator: its own variable, and its walk. -/
def KeepsText (s : ByteArray) (B : Nat) (X Y : World) : Prop := (X.cell? ⟨B, 0, none⟩ = some (.string s) → Y.cell? ⟨B, 0, none⟩ = some (.string s)) ∧ KeepsWalks X Y

set_option maxRecDepth 100000 in
set_option maxHeartbeats 4000000 in
theorem lines_stops (s : ByteArray) (hs : s.size ≤ 1000000) (n Bs : Nat) (w : World) (hn : 3 ≤ n) (hBs : Bs < w.heap.size) (hcell : w.cell? ⟨Bs, 0, none⟩ = some (.string s)) :
    SeqStopsK Fence.wide n Try.prog 28 #[.pointer (some ⟨Bs, 0, none⟩)] (lineArgs s) (KeepsText s Bs)
      (fun xs => xs.map (·.1) = List.range (linesOf s).length) (fun pre => pre.map (·.1) = List.range pre.length) (s.size + 1) w := fun l J Jx W hW hJ hJx hY h0 => by
  have hn1 : 1 ≤ n := by omega
  have hn2 : 1 ≤ n - 1 := by omega
  have hWs := hW.size
  have hcW : W.cell? ⟨Bs, 0, none⟩ = some (.string s) := (hW.cell (p := ⟨Bs, 0, none⟩) (show Bs < w.heap.size by omega)).trans hcell
  refine callsIn_of_wp Try.func28 rfl trivial ?_ rfl
  simp only [Try.ntmps28, List.size_toArray, List.length_cons, List.length_nil, Nat.reduceAdd, Nat.reduceSub, Array.replicate_succ, Array.replicate_zero, List.push_toArray, List.append_toArray, List.nil_append, List.cons_append]
  gi_wp2
  gi_loopw [3] (fun st wr => ∃ (pos k : Nat) (ls : List (Nat × Nat)) (pre : List (LineNo s)), st = .int .i64 k ∧ linesTo s pos = (ls, k) ∧ pre.map (·.1) = List.range ls.length ∧
      wr.heap[W.heap.size]? = some (.stringIter s pos) ∧ pos ≤ s.size ∧ J pre wr ∧ wr.cell? ⟨Bs, 0, none⟩ = some (.string s) ∧ W.heap.size < wr.heap.size)
    (fun _ wr => s.size - wr.iterPos W.heap.size)
  case atStart =>
    exact ⟨0, 0, [], [], rfl, rfl, rfl, World.iter_heap W s 0, by omega, hJ [] W _ none h0 (World.grownBy_alloc W _ none) (fun r e => by cases e),
      (((Below.refl _ W).alloc (Nat.le_refl _) (.stringIter s 0)).cell (p := ⟨Bs, 0, none⟩) (show Bs < W.heap.size by omega)).trans hcW, by simp [World.iter]⟩
  case round =>
    obtain ⟨pos, k, ls, pre, rfl, hlt, hpr, hit, hps, hJr, hcr, hsz⟩ := hrel
    rename_i wr
    have HR := Lib.hid hpr
    have hprl : pre.length = ls.length := by have := congrArg List.length hpr; simpa using this
    clear hpr
    have hkl := linesTo_le s pos
    rw [hlt] at hkl
    have hk1 := hkl.1
    have hk2 := hkl.2.1
    simp only at hk1 hk2
    clear hkl
    have hlen : pre.length < s.size + 1 := by omega
    have HPL := Lib.hid hprl
    clear hprl
    by_cases hp : pos < s.size
    · have hnx := fun ty => run_next_rune_at (P := Try.prog) wr W.heap.size s pos ty hit hp
      have hw := wide_facts s pos hp
      have hw1 := hw.1
      have hw2 := hw.2.1
      clear hw
      have HP := Lib.hid (iterPos_of hit)
      have hitf : ∀ p', (wr.iterAt W.heap.size s p').heap[W.heap.size]? = some (.stringIter s p') := fun p' => Lib.iterAt_heap wr W.heap.size s pos p' hit
      have hJf : ∀ p', J pre (wr.iterAt W.heap.size s p') := fun p' => hJ pre wr _ _ hJr (grownBy_iterAt wr W.heap.size s p') (fun r e => by cases e; exact ⟨Nat.le_refl _, _, hit, rfl⟩)
      have hcf : ∀ p', (wr.iterAt W.heap.size s p').cell? ⟨Bs, 0, none⟩ = some (.string s) := fun p' => (World.cell?_of_block (Lib.iterAt_other wr W.heap.size Bs s p' (by omega))).trans hcr
      have hsf : ∀ p', (wr.iterAt W.heap.size s p').heap.size = wr.heap.size := fun p' => Lib.iterAt_size wr W.heap.size s p'
      by_cases he : endAt s pos
      · have hr : runeAt s pos = 10 := (end_rune s pos hp).2 he
        have hwd := end_wide s pos hp he
        rw [hwd, hr] at hnx
        have hLE := linesTo_end s pos he
        rw [hlt] at hLE
        simp only at hLE
        have HL := Lib.hid hLE
        have hpre := linesTo_all s (pos + 1) (by omega)
        rw [hLE] at hpre
        obtain ⟨hln, hlx⟩ := line_next s ls k pos hpre
        have hit' := hitf (pos + 1)
        have hJ' := hJf (pos + 1)
        have hcx := hcf (pos + 1)
        have hs' := hsf (pos + 1)
        clear hr hwd hLE hpre hlt hitf hJf hcf hsf he
        generalize wr.iterAt W.heap.size s (pos + 1) = wx at *
        have hcut := cut_run (P := Try.prog) Try.underlying9 s k pos (by omega) (by omega)
        have hsz' : W.heap.size < wx.heap.size := by omega
        have HX := Lib.hid hlx
        clear hs' hcr hlx
        gi_wp2_with fail
        refine ⟨trivial, (callsIn_wide.2 (clone_any _ wx (by have := cut_size s k pos; omega))).mono ?_⟩
        rintro e w2 ⟨rfl, hB2⟩
        have hb2 := hB2.size
        have hJ2 := hJ pre wx w2 none hJ' (grownBy_below hB2) (fun r e => by cases e)
        have hit2 := (hB2.block W.heap.size hsz').trans hit'
        have hc2 := (hB2.cell (p := ⟨Bs, 0, none⟩) (show Bs < wx.heap.size by omega)).trans hcx
        obtain ⟨fn, tmps, assign, body, hy, hR⟩ := hY pre ⟨ls.length, hln⟩ w2 hJ2 hlen
        have hla : lineArgs s ⟨ls.length, hln⟩ = #[.int .i64 (k : Int), .string (s.extract k pos)] := by unfold lineArgs; simp only [HX.out]
        rw [hla] at hy
        clear hnx hcut hla
        gi_wp2
        refine hR.mono ?_
        rintro e w3 (⟨rfl, hJ3, hk3, hkw⟩ | ⟨rfl, hx3⟩)
        · have hit3 := hkw.same _ _ hit2 rfl
          have hb3 := hkw.size
          have hc3 := hk3 hc2
          gi_wp2
          go_roundw
          case rel => exact ⟨pos + 1, pos + 1, ls ++ [(k, pos)], pre ++ [⟨ls.length, hln⟩], by go_num, HL.out, by rw [List.length_append]; exact range_snoc _ _ _ _ HR.out rfl, hit3, by omega, hJ3, hc3, by omega⟩
          case measure => rw [HP.out, iterPos_of hit3]; omega
        · gi_wp2
          refine bodyPost_ret (results_none rfl _ _ _) rfl ?_
          exact ⟨⟨_, rfl⟩, .inr ⟨_, (range_snoc _ _ _ _ HR.out rfl).trans (congrArg List.range (by rw [List.length_append, HPL.out]; rfl)), hx3⟩⟩
      · have hr : (runeAt s pos != 10) = true := by
          have := mt (end_rune s pos hp).1 he
          simpa using this
        have HL := Lib.hid (linesTo_rune s pos hp he)
        rw [hlt] at HL
        have hit' := hitf (pos + wideAt s pos)
        have hJ' := hJf (pos + wideAt s pos)
        have hcx := hcf (pos + wideAt s pos)
        have hs' := hsf (pos + wideAt s pos)
        have hsz' : W.heap.size < (wr.iterAt W.heap.size s (pos + wideAt s pos)).heap.size := by omega
        have HP' := Lib.hid (iterPos_of hit')
        clear hlt hitf hJf hcf hsf he hs'
        generalize wr.iterAt W.heap.size s (pos + wideAt s pos) = wx at *
        gi_wp2
        go_roundw
        case rel => exact ⟨pos + wideAt s pos, k, ls, pre, rfl, HL.out, HR.out, hit', by omega, hJ', hcx, hsz'⟩
        case measure => rw [HP.out, HP'.out]; omega
    · have hnx := fun ty => Lib.run_next_end_at (P := Try.prog) wr W.heap.size s pos ty hit hp
      obtain rfl : pos = s.size := by omega
      have hLO : linesOf s = if k < s.size then ls ++ [(k, s.size)] else ls := by unfold linesOf; rw [hlt]
      clear hlt
      by_cases hks : k < s.size
      · rw [if_pos hks] at hLO
        obtain ⟨hln, hlx⟩ := line_next s ls k s.size (by rw [hLO]; exact List.prefix_refl _)
        have HL2 := Lib.hid (show (linesOf s).length = ls.length + 1 by rw [hLO]; simp)
        have HX := Lib.hid hlx
        have hcut := cut_run (P := Try.prog) Try.underlying9 s k s.size (by omega) (by omega)
        clear hLO hlx
        gi_wp2_with fail
        refine ⟨trivial, (callsIn_wide.2 (clone_any _ wr (by have := cut_size s k s.size; omega))).mono ?_⟩
        rintro e w2 ⟨rfl, hB2⟩
        have hJ2 := hJ pre wr w2 none hJr (grownBy_below hB2) (fun r e => by cases e)
        obtain ⟨fn, tmps, assign, body, hy, hR⟩ := hY pre ⟨ls.length, hln⟩ w2 hJ2 hlen
        have hla : lineArgs s ⟨ls.length, hln⟩ = #[.int .i64 (k : Int), .string (s.extract k s.size)] := by unfold lineArgs; simp only [HX.out]
        rw [hla] at hy
        clear hnx hcut hla
        gi_wp2
        refine hR.mono ?_
        rintro e w3 (⟨rfl, hJ3, hk3, hkw⟩ | ⟨rfl, hx3⟩)
        · gi_wp2
          go_end0
          exact ⟨⟨_, rfl⟩, .inl ⟨_, (range_snoc _ _ _ _ HR.out rfl).trans (congrArg List.range HL2.out.symm), hJ3⟩⟩
        · gi_wp2
          go_end0
          exact ⟨⟨_, rfl⟩, .inr ⟨_, (range_snoc _ _ _ _ HR.out rfl).trans (congrArg List.range (by rw [List.length_append, HPL.out]; rfl)), hx3⟩⟩
      · rw [if_neg hks] at hLO
        have HL2 := Lib.hid (show (linesOf s).length = ls.length by rw [hLO])
        clear hLO
        gi_wp2
        go_end0
        exact ⟨⟨_, rfl⟩, .inl ⟨_, HR.out.trans (congrArg List.range HL2.out.symm), hJr⟩⟩

end Go.Proofs.Ytbmfadignoeigaa
