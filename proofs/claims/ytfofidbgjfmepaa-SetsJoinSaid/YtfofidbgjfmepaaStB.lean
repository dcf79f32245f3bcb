/-
  The program's first: a group's first place; each way that is gone is halved.
-/
import Derived.Test.YtfofidbgjfmepaaStA
import Derived.WalkSmall
import Derived.BigRegion
import Derived.Deep.QuietTactic
import Derived.BigQuiet
namespace Go.Proofs.Ytfofidbgjfmepaa
open Go.RowKit Go.Maps

theorem Rep.drewN {w : World} {F : Nat → Prop} {sb bm : Nat} {s : St} {tv av : Value} {D : DataW Unit} {ah : List Nat} (h : Rep w F sb s tv av bm D ah) (n : Nat) : Rep (w.drewN n) F sb s tv av bm D ah :=
  h.below (below_drewN' w n)
theorem Only.drewN {F : Nat → Prop} {w w' : World} (h : Only F w w') (n : Nat) : Only F w (w'.drewN n) := h.trans' (Only.of_below (below_drewN' w' n))

set_option maxRecDepth 100000 in
set_option maxHeartbeats 2000000 in
theorem first_any (w : World) (F : Nat → Prop) (sb bm : Nat) (s : St) (tv av : Value) (D : DataW Unit) (ah : List Nat) (R : Rep w F sb s tv av bm D ah) (i : Nat) (hi : i < s.ts.length) :
    Calls Try.prog 22 #[.pointer (some ⟨sb, 0, none⟩), .int .i64 (i : Int)] w fun e w' => e = .returned (.int .i64 (getN s.gr i : Int)) ∧ ∃ ah', Rep w' F sb s tv av bm D ah' ∧ Only F w w' := by
  go_enter Try.func22, Try.ntmps22
  go_wp2
  go_loopw [1] (fun a wr => ∃ k : Nat, k < s.ts.length ∧ a = .int .i64 (k : Int) ∧ getN s.gr k = getN s.gr i ∧ ∃ ah', Rep wr F sb s tv av bm D ah' ∧ Only F w wr) (fun a _ => (intOf a).toNat)
  case atStart => exact ⟨i, hi, rfl, rfl, ah, R, Only.refl F w⟩
  case round =>
    obtain ⟨k, hk, rfl, hg, ah', R', hO⟩ := hrel
    rename_i wr
    have hlen := R'.len
    obtain ⟨ab, cap, hav, hF, h1, h2, h3, hc, hz⟩ := R'.av_at (by omega)
    have hl := R'.leads.2 k (by rw [R'.ok.len]; exact hk)
    have c2 := R'.c2
    rw [hav, hlen] at c2
    have hck := hc k (by omega)
    have hR := Lib.hid R'
    have hG := Lib.hid hg
    have hAV := Lib.hid hav
    by_cases he : getN ah' k = k
    · have hn := Lib.hid (hl.2.2.1 he)
      rw [he] at hck
      clear R R' hc hl hg hav he
      go_wp2
      go_ret
      exact ⟨ret_int (by rw [← hG.out, hn.out]), ah', hR.out, hO⟩
    · have hlt : getN ah' k < k := by omega
      have hck2 := hc (getN ah' k) (by omega)
      have hfk := hz k
      have hset := Lib.hid (R'.set hav (R'.leads.halve (by rw [R'.ok.len]; exact hk) he))
      have hne : ((getN ah' k : Int) != (k : Int)) = true := bne_iff_ne.2 (by omega)
      have hgn := Lib.hid hl.2.1
      have hl2 := R'.leads.2 (getN ah' k) (by rw [R'.ok.len]; omega)
      have hgn2 := Lib.hid hl2.2.1
      have hle2 := hl2.1
      clear R R' hc hl hl2 hg hav hz
      generalize hp : getN ah' k = p at *
      generalize hq : getN ah' p = q at *
      go_wp2
      go_region
      have c2' := hset.out.1.c2
      have hck' : (wr.setCell ⟨ab, k, none⟩ (.int .i64 (q : Int))).cell? ⟨ab, k, none⟩ = some (.int .i64 (q : Int)) := World.cell?_setCell_same _ _ _ hck
      rw [hAV.out, hlen] at c2'
      generalize wr.setCell ⟨ab, k, none⟩ (.int .i64 (q : Int)) = w1 at *
      clear c2 hck hck2 hfk
      go_wp2
      go_roundw
      case rel =>
        exact ⟨q, by omega, rfl, by rw [hgn2.out, hgn.out, hG.out], _, hset.out.1.drewN 1, (hO.trans' hset.out.2).drewN 1⟩
      case measure => simp [intOf]; omega
end Go.Proofs.Ytfofidbgjfmepaa
