/-
  addWord: a word more, if there is one.
-/
import Derived.Test.YtbmfadignoeigaaClone
import Derived.Test.YtbmfadignoeigaaSl
namespace Go.Proofs.Ytbmfadignoeigaa
open Go.RowKit

theorem Try.infoWord : (Try.prog.info? 26).map (fun i => (i.zero, i.size, i.bytes)) = some (some (.agg #[.int .i64 0, .string ⟨#[]⟩]), 2, 24) := by kernel_rfl

theorem cut_run {P : Program} {t : TypeId} (ht : P.underlying t = some .string) (s : ByteArray) (a b : Nat) (h1 : a ≤ b) (h2 : b ≤ s.size) (w : World) :
    (Instr.slice t (.string s) (some (.int .i64 (a : Int))) (some (.int .i64 (b : Int))) none).run P w = .ok (.string (s.extract a b)) w := by
  have := run_slice_string (P := P) w t s .i64 .i64 (a : Int) (b : Int) ht (by omega) (by omega) (by omega)
  simpa using this

theorem cut_size (s : ByteArray) (a b : Nat) : (s.extract a b).size ≤ s.size := by
  rw [ByteArray.size_extract]; omega

theorem addWord_same (s : ByteArray) (a : Nat) (v : Value) (w : World) :
    Calls Try.prog 23 #[v, .string s, .int .i64 a, .int .i64 a] w fun e w' => e = .returned v ∧ w = w' := by
  go_enter Try.func23, Try.ntmps23
  go_wp2
  go_ret
  exact ⟨rfl, rfl⟩

set_option maxRecDepth 100000 in
set_option maxHeartbeats 4000000 in
theorem addWord_more (s : ByteArray) (a b : Nat) (v : Value) (w : World) (base n : Nat) (xs : List Value) (hs : s.size ≤ 1000000) (hab : a < b) (hb : b ≤ s.size)
    (hown : w.ownsRow base 26 2 v n xs) (hbase : base ≤ w.heap.size) (hn : n ≤ 1000000) :
    Calls Try.prog 23 #[v, .string s, .int .i64 a, .int .i64 b] w fun e w' =>
      ∃ v', e = .returned v' ∧ w'.ownsRow base 26 2 v' (n + 1) (xs ++ [.int .i64 a, .string (s.extract a b)]) ∧ Below base w w' := by
  have hne : ((a : Int) == b) = false := by simp; omega
  have hcut := cut_run (P := Try.prog) Try.underlying9 s a b (by omega) hb
  obtain ⟨i0, hi, hz0, hz1, hz2⟩ := info_parts Try.infoWord
  go_enter Try.func23, Try.ntmps23
  go_wp2_with fail
  refine (clone_any _ _ (by have := cut_size s a b; omega)).mono ?_
  rintro e w1 ⟨rfl, hB⟩
  have hbs := hB.size
  have hown1 := own_below hown hB
  go_wp2_with (at_builtin; refine wpList_append_own _ rfl _ _ 23 rfl base 26 i0 _ 2 24 Try.underlying23 hi hz0 hz1 hz2 rfl (by decide) _ _ _ rfl (hown1.alloc _) ⟨w1.heap.size, 0, none⟩ 1 1 [.int .i64 a, .string (s.extract a b)] rfl rfl ?c1 ?c2 ?c3 ?c4 ?c5 ?_)
  case c1 =>
    intro j u hj
    match j, hj with
    | 0, hj => (simp at hj; subst hj; simp [Addr.add])
    | 1, hj => (simp at hj; subst hj; simp [Addr.add])
  case c2 => intro u hu; simp at hu; rcases hu with rfl | rfl <;> rfl
  case c3 => unfold maxLen; omega
  case c4 => omega
  case c5 => simp; omega
  intro v' w2 hown' hgrow _
  go_wp2
  go_ret
  exact ⟨_, rfl, hown', ((hB.mono hbase).alloc (by omega) _).grown hgrow (by simp; omega) (fun k hk => (hown1.lt k hk).1)⟩

end Go.Proofs.Ytbmfadignoeigaa
