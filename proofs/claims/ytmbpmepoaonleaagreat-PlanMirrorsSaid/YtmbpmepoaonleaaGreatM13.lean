/-
  FcW, FcX, FcY, in one text.
-/
import Derived.Test.YtmbpmepoaonleaaGreatM10
import Derived.Test.YtmbpmepoaonleaaGreatM11
import Derived.Test.YtmbpmepoaonleaaGreatM34
import Derived.Test.YtmbpmepoaonleaaGreatM02
import Derived.Test.YtmbpmepoaonleaaGreatM03
/-! The document's Walks. -/
namespace Go.Proofs.YtmbpmepoaonleaaGreat.Fc
open Go.Proofs.YtmbpmepoaonleaaGreat Go.RowKit

theorem Tryz.infoRWalk : (Tryz.prog.info? 85).map (fun i => (i.zero, i.size, i.bytes)) = some (some (.agg #[.int .i64 0, .slice none 0 0]), 2, 32) := by kernel_rfl

def lenS : Value → Nat
  | .slice _ n _ => n
  | _ => 0

/-- What a walk's cells hold. -/
def cmp (x : Wlk) : Comp × Comp := (.inl x.1, .inr x.2)

theorem row_lit1 (w : World) (x : Int) : Row (w.alloc (.cells #[.int .i64 x] 3)) w.heap.size (.slice (some ⟨w.heap.size, 0, none⟩) 1 1) [x] := by
  refine ⟨rfl, .inr ⟨w.heap.size, 1, #[.int .i64 x], rfl, Nat.le_refl _, heap_alloc_new w _, Nat.le_refl _, by unfold maxLen; omega, rfl, rfl⟩⟩

set_option maxRecDepth 100000 in
set_option maxHeartbeats 8000000 in
theorem rwalks_any (v u x : Value) (g : Gph) (p : Prt) (T : List (List Int)) (w : World) (h : Gr w v g) (h' : Pt w u p) (hL : LL w x T) (hT : Rt.Turns g p T) (hp1 : p.v.length ≤ 100000) (hp2 : p.e.length ≤ 100000) (hg : g.e.length ≤ 100000) (hn : g.n ≤ 100000) (hr : ∀ j, (Rt.getT T j).length ≤ 1000000) :
    Calls Tryz.prog 30 #[v, u, x] w fun e w' => ∃ m us, e = .returned m ∧ Twos 85 w' w.heap.size m us ((walksOf g p T).map cmp) ∧ Below w.heap.size w w' := by
  obtain ⟨i0, hi, hz0, hz1, hz2⟩ := info_parts Tryz.infoRWalk
  have HG := Lib.hid h
  obtain ⟨he, hr1, hr2, hends⟩ := perr_rises hT.right
  obtain ⟨ve, rfl, h1⟩ := h
  obtain ⟨vv, vp, rfl, h2, h3⟩ := h'
  obtain ⟨Ae, ce, rfl⟩ := h1.form
  obtain ⟨Av, cv, rfl⟩ := ints_form h2
  obtain ⟨Ap, cp, rfl⟩ := ints_form h3
  obtain ⟨A, cap, rfl, hcap, hmx⟩ := hL.form
  obtain ⟨b1, b2, hm⟩ := two_boxes w (.int .i64 g.n) (.slice Ae g.e.length ce) (.slice Av p.v.length cv) (.slice Ap p.e.length cp) 24 27
  have HB1 := Lib.hid b1
  have HB2 := Lib.hid b2
  have HM := Lib.hid hm
  have HG1 := Lib.hid (HG.out.below hm)
  have HE2 := Lib.hid (h2.below hm)
  have HE3 := Lib.hid (h3.below hm)
  have HL1 := Lib.hid (hL.below hm)
  have HT := Lib.hid hT
  have htl := hT.len
  have d0 := b2.c0
  have HR := Lib.hid hr
  have HR1 := Lib.hid hr1
  have HR2 := Lib.hid hr2
  clear b1 b2 hm h1 h2 h3 hL HG hmx hr hr1 hr2 hends he hT
  go_enter Tryz.func30, Tryz.ntmps30
  go_wp2
  generalize (w.alloc (.cells #[.int .i64 g.n, .slice Ae g.e.length ce] 24)).alloc (.cells #[.slice Av p.v.length cv, .slice Ap p.e.length cp] 27) = w1 at *
  clear d0
  go_loopw [7, 8] (fun o i wr => ∃ (k : Nat) (z : Int), k ≤ p.v.length ∧ i = .int .i64 z ∧ z = (k : Int) - 1 ∧ Hid (∃ us, Twos 85 wr w1.heap.size o us ((lones T (p.v.drop k)).map cmp)) ∧ Hid (Below w1.heap.size w1 wr)) (fun _ i _ => (Go.RowKit.intOf i + 1).toNat)
  case atStart => exact ⟨p.v.length, _, Nat.le_refl _, rfl, by go_num, Lib.hid ⟨[], by rw [List.drop_length]; exact Twos.start _ _ _⟩, Lib.hid (Below.refl _ _)⟩
  case round =>
    obtain ⟨k, z, hk, rfl, hz, hO, hB⟩ := hrel
    rcases Nat.eq_zero_or_pos k with h0 | h0
    · subst h0
      obtain rfl : z = -1 := by omega
      clear hz
      rw [List.drop_zero] at hO
      have htw : ∀ n : Nat, (n : Int).tdiv 2 = ((n / 2 : Nat) : Int) := fun n => by rw [Int.tdiv_eq_ediv_of_nonneg (by omega)]; rfl
      have htm : ∀ n : Nat, (n : Int).tmod 2 = ((n % 2 : Nat) : Int) := fun n => by rw [Int.tmod_eq_emod_of_nonneg (by omega)]; rfl
      have HTW := Lib.hid htw
      have HTM := Lib.hid htm
      have HO0 := Lib.hid (show ∃ us, Twos 85 wr w1.heap.size u7 us ((lones T p.v ++ facesTo (prs p.e) (Rt.nxt g T) 0).map cmp) by
        show ∃ us, Twos _ _ _ _ us ((lones T p.v ++ []).map cmp)
        rw [List.append_nil]; exact hO.out)
      have HB0 := hB
      have dq := (HB2.out.below hB.out).c1
      clear htw htm hO hB hk
      go_wp2
      clear dq
      go_loopw [7, 9] (fun o i wq => ∃ n : Nat, n ≤ 2 * p.e.length ∧ i = .int .i64 n ∧ Hid (∃ us, Twos 85 wq w1.heap.size o us ((lones T p.v ++ facesTo (prs p.e) (Rt.nxt g T) n).map cmp)) ∧ Hid (Below w1.heap.size w1 wq)) (fun _ i _ => 2 * p.e.length - (Go.RowKit.intOf i).toNat)
      case atStart => exact ⟨0, Nat.zero_le _, rfl, HO0, HB0⟩
      case round =>
        obtain ⟨n, hnn, rfl, hO, hB⟩ := hrel
        obtain ⟨wq, hwq⟩ : ∃ z, z = wr := ⟨_, rfl⟩
        subst hwq
        have dq := (HB2.out.below hB.out).c1
        have HP := Lib.hid (nxt_perm HT.out)
        clear HO0 HB0
        by_cases hlt : n < 2 * p.e.length
        · have hlt' : (n : Int) < 2 * (p.e.length : Int) := by omega
          have hn2 : n / 2 < p.e.length := by omega
          obtain ⟨pb, po, rfl, hpb, hpc⟩ := ints_at (HE3.out.below hB.out) hn2
          have hrv := HR2.out.mem ((mem_getI _ _).2 ⟨n / 2, hn2, rfl⟩)
          have hget := prs_get p.e n hlt
          obtain ⟨en, hen⟩ : ∃ en : Nat, getI p.e (n / 2) = en := ⟨(getI p.e (n / 2)).toNat, by omega⟩
          rw [hen] at hpc hget
          have hdX : getI (prs p.e) n ∈ prs p.e := (mem_getI _ _).2 ⟨n, by rw [prs_len]; omega, rfl⟩
          have HS := Lib.hid (facesTo_succ (prs p.e) (Rt.nxt g T) n (by rw [prs_len]; omega))
          have q1 := HTW.out n
          have q2 := HTM.out n
          obtain ⟨dn, hdn⟩ : ∃ dn : Nat, 2 * (en : Int) + ((n % 2 : Nat) : Int) = (dn : Int) := ⟨2 * en + n % 2, by omega⟩
          rw [hdn] at hget
          have hdn2 : 2 * (en : Int) + (n : Int) % 2 = (dn : Int) := by omega
          rw [hget] at hdX HS
          have HDX := Lib.hid hdX
          have e0 : (en : Int) ≤ 100000 := by omega
          have e1 : (0 : Int) ≤ ((n / 2 : Nat) : Int) := by omega
          have e2 : ((n / 2 : Nat) : Int) < (p.e.length : Int) := by omega
          have e3 : ((n % 2 : Nat) : Int) ≤ 1 := by omega
          have e4 : (0 : Int) ≤ ((n % 2 : Nat) : Int) := by omega
          have HBA := Lib.hid (below_alloc (w := wq) (.cells #[.int .i64 (dn : Int)] 3))
          have HLA := Lib.hid (row_lit1 wq (dn : Int))
          have HB4 := Lib.hid (hB.out.trans (HBA.out.mono hB.out.size))
          have y0 := (HB1.out.below HB4.out).c0
          have y1 := (HB1.out.below HB4.out).c1
          have HDD : Hid (Rt.Dart p (dn : Int)) := Lib.hid ((mem_dart HT.out.right).1 HDX.out)
          have HN1 := Lib.hid (Rt.r6Next_any _ _ g p T dn _ (HG1.out.below HB4.out) (HL1.out.below HB4.out) HT.out HDD.out (by omega) HR.out)
          clear hrv hget hen hdX
          go_wp2_with fail
          refine HN1.out.mono ?_
          rintro e w5 ⟨rfl, hB5⟩
          have HLB := Lib.hid (HLA.out.below hB5)
          have HWB := Lib.hid (trans2 HBA.out hB5)
          obtain ⟨f, hf⟩ : ∃ f, f = Rt.nxt g T := ⟨_, rfl⟩
          have hN2 : (prs p.e).length ≤ 200000 := by rw [prs_len]; omega
          have hper := (HP.out.per HDX.out (Nat.le_refl _)).1
          have HRI := Lib.hid (fun k (h0 : 0 < k) hk => HP.out.round_iff HDX.out (Nat.le_refl _) h0 (k := k) hk)
          have HLS := Lib.hid (leastTo_all HP.out HDX.out (Nat.le_refl _))
          have HIN := Lib.hid (fun k => show ∃ xn : Nat, it (Rt.nxt g T) k (dn : Int) = (xn : Int) ∧ Rt.Dart p (xn : Int) from by
            have h1 := (mem_dart HT.out.right).1 (HP.out.it_mem HDX.out k)
            have h0 := h1.1
            exact ⟨(it (Rt.nxt g T) k (dn : Int)).toNat, by omega, by rw [show (((it (Rt.nxt g T) k (dn : Int)).toNat : Nat) : Int) = it (Rt.nxt g T) k (dn : Int) by omega]; exact h1⟩)
          have HI1 := Lib.hid (show Rt.nxt g T (dn : Int) = it (Rt.nxt g T) 1 (dn : Int) from rfl)
          rw [HI1.out]
          have HITS := Lib.hid (fun k => show Rt.nxt g T (it (Rt.nxt g T) k (dn : Int)) = it (Rt.nxt g T) (k + 1) (dn : Int) from rfl)
          rw [← hf] at HRI HLS HIN HI1 HITS HS hper
          rw [← hf]
          have HFF := Lib.hid hf
          clear hf
          clear hB5 y0 y1 HN1 HBA HLA HB4 hpc
          go_wp2
          go_loopw [11, 12, 13] (fun l b x wz => ∃ k : Nat, 0 < k ∧ k ≤ per f (prs p.e).length (dn : Int) ∧ b = .bool (leastTo f (dn : Int) k) ∧ x = .int .i64 (it f k (dn : Int)) ∧ Hid (Row wz wq.heap.size l (orbTo f (dn : Int) k)) ∧ Hid (Below wq.heap.size wq wz)) (fun l _ _ _ => (prs p.e).length - lenS l)
          case atStart => exact ⟨1, Nat.one_pos, per_pos _ _ _, rfl, rfl, HLB, HWB⟩
          case round =>
            obtain ⟨k, hk0, hk, rfl, rfl, hR, hBz⟩ := hrel
            obtain ⟨wz, hwz⟩ : ∃ z, z = wr := ⟨_, rfl⟩
            subst hwz
            obtain ⟨xn, hxn, hxd⟩ := HIN.out k
            have HXD := Lib.hid hxd
            have hri := HRI.out k hk0 hk
            rw [hxn] at hri ⊢
            obtain ⟨Al, cl, rfl⟩ := ints_form hR.out.ints
            have HLO := Lib.hid (orbTo_len f (dn : Int) k)
            by_cases hround : (xn : Int) = (dn : Int)
            · have hkp := hri.1 hround
              have t2 : ((xn : Int) != (dn : Int)) = false := by rw [hround]; simp
              rw [hkp, HLS.out]
              rw [hkp] at hR
              replace hR : Hid (Row wz wq.heap.size (.slice Al (orbTo f (dn : Int) (per f (prs p.e).length (dn : Int))).length cl) (orb f (prs p.e).length (dn : Int))) := hR
              clear hri hround HXD hxd hxn hk0 hk hkp
              have HRF := Lib.hid (hR.out.le (base' := w1.heap.size) hB.out.size)
              have HOE := Lib.hid (show ∃ us, Twos 85 wz w1.heap.size u7 us ((lones T p.v ++ facesTo (prs p.e) f n).map cmp) by
                obtain ⟨us, hus⟩ := hO.out
                rw [← HFF.out] at hus
                exact ⟨us, hus.below hBz.out⟩)
              have HBE := Lib.hid (hB.out.trans (hBz.out.mono hB.out.size))
              have HPL := Lib.hid (show (orb f (prs p.e).length (dn : Int)).length ≤ 4000000 by rw [orb_len]; omega)
              clear hR hBz hO hB dq
              generalize (orbTo f (dn : Int) (per f (prs p.e).length (dn : Int))).length = nl at *
              cases hb : leastB f (prs p.e).length (dn : Int) with
              | false =>
                rw [if_neg (by rw [hb]; decide), List.append_nil] at HS
                have HR2' := Lib.hid (show ∃ us, Twos 85 wz w1.heap.size u7 us ((lones T p.v ++ facesTo (prs p.e) (Rt.nxt g T) (n + 1)).map cmp) by rw [← HFF.out, HS.out]; exact HOE.out)
                clear hb HOE HS
                go_wp2
                go_roundw
                case rel => exact ⟨n + 1, by omega, by go_num, HR2', HBE⟩
                case measure => simp [Go.RowKit.intOf]; omega
              | true =>
                rw [if_pos hb] at HS
                obtain ⟨us, hus⟩ := HOE.out
                have HO := Lib.hid hus
                obtain ⟨Ao, co, rfl⟩ := hus.shape
                clear hb HOE hus
                generalize ((lones T p.v ++ facesTo (prs p.e) f n).map cmp).length = no at *
                have HLN := Lib.hid (show ((lones T p.v ++ facesTo (prs p.e) f n).map cmp).length ≤ 1000000 by
                  have h1 := lones_len T p.v
                  have h2 := facesTo_len (prs p.e) f n
                  rw [List.length_map, List.length_append]; omega)
                go_wp2_with (at_builtin; refine wpList_append_two rfl _ _ _ _ rfl Tryz.underlying55 hi hz0 hz1 hz2 rfl (by decide) (by decide) (y := (.inl (dn : Int), .inr (orb f (prs p.e).length (dn : Int)))) rfl rfl HO.out rfl HRF.out HBE.out.size HLN.out ?_)
                intro v7 us7 w7 hO7 hB7
                have HO7 := Lib.hid (show ∃ us, Twos 85 w7 w1.heap.size v7 us ((lones T p.v ++ facesTo (prs p.e) (Rt.nxt g T) (n + 1)).map cmp) from ⟨us7, by rw [← HFF.out, HS.out, List.map_append, List.map_append]; exact hO7⟩)
                have HB7 := Lib.hid (HBE.out.trans hB7)
                obtain ⟨A7, c7, rfl⟩ := hO7.shape
                generalize ((lones T p.v).map cmp ++ ((facesTo (prs p.e) f n).map cmp ++ [((Sum.inl (dn : Int), Sum.inr (orb f (prs p.e).length (dn : Int))) : Comp × Comp)])).length = n7 at *
                clear hO7 hB7 HO HLN HS
                go_wp2
                go_roundw
                case rel => exact ⟨n + 1, by omega, by go_num, HO7, HB7⟩
                case measure => simp [Go.RowKit.intOf]; omega
            · have t2 : ((xn : Int) != (dn : Int)) = true := bne_iff_ne.2 hround
              have hkp : k < per f (prs p.e).length (dn : Int) := by
                rcases Nat.lt_or_eq_of_le hk with h | h
                · exact h
                · exact absurd (hri.2 h) hround
              clear hri hround
              have z0 := (HB1.out.below (hB.out.trans (hBz.out.mono hB.out.size))).c0
              have HLE := Lib.hid (show (orbTo f (dn : Int) k).length ≤ 4000000 by rw [orbTo_len]; omega)
              have HSZ := Lib.hid hBz.out.size
              have HLT := Lib.hid (leastTo_succ f (dn : Int) k hk0)
              rw [hxn] at HLT
              have HOS := Lib.hid ((orbTo_succ f (dn : Int) k).trans (by rw [hxn]))
              have HNX := Lib.hid (fun (W : World) (hW : Below w1.heap.size w1 W) => Rt.r6Next_any _ _ g p T xn W (HG1.out.below hW) (HL1.out.below hW) HT.out HXD.out (by omega) HR.out)
              have HXE := Lib.hid (show Rt.nxt g T (xn : Int) = it f (k + 1) (dn : Int) by rw [← hxn, ← HFF.out]; rfl)
              rw [HXE.out] at HNX
              have HBZ := Lib.hid (hB.out.trans (hBz.out.mono hB.out.size))
              clear hxd hxn HXE
              go_wp2_with (at_builtin; refine wpList_append1 rfl _ _ rfl rfl rfl hR.out HSZ.out HLE.out ?_)
              intro v7 w7 hR7 hB7
              rw [← HOS.out] at hR7
              have HR7 := Lib.hid hR7
              have HB7 := Lib.hid (hBz.out.trans hB7)
              have HBY := Lib.hid (hB.out.trans (HB7.out.mono hB.out.size))
              have z0 := (HB1.out.below HBY.out).c0
              have z1 := (HB1.out.below HBY.out).c1
              obtain ⟨A7, c7, hv7⟩ := ints_form hR7.ints
              subst hv7
              obtain ⟨b, hb⟩ : ∃ b, b = leastTo f (dn : Int) k := ⟨_, rfl⟩
              rw [← hb] at HLT ⊢
              clear hb hR7 hB7 hR hBz HBZ HLE HSZ HOS
              cases b with
              | false =>
                go_wp2_with fail
                refine (HNX.out _ HBY.out).mono ?_
                rintro e w8 ⟨rfl, hB8⟩
                have HR8 := Lib.hid (HR7.out.below hB8)
                have HB8 := Lib.hid (HB7.out.trans (hB8.mono HB7.out.size))
                clear hB8 HNX HBY HB7 HR7 z0 z1
                go_wp2
                go_roundw
                case rel => exact ⟨k + 1, by omega, hkp, by rw [HLT.out]; rfl, rfl, HR8, HB8⟩
                case measure => simp [lenS, orbTo_len]; omega
              | true =>
                by_cases hgt : (dn : Int) < (xn : Int)
                · rw [decide_eq_true hgt] at HLT
                  go_wp2_with fail
                  refine (HNX.out _ HBY.out).mono ?_
                  rintro e w8 ⟨rfl, hB8⟩
                  have HR8 := Lib.hid (HR7.out.below hB8)
                  have HB8 := Lib.hid (HB7.out.trans (hB8.mono HB7.out.size))
                  clear hB8 HNX HBY HB7 HR7 z0 z1
                  go_wp2
                  go_roundw
                  case rel => exact ⟨k + 1, by omega, hkp, by rw [HLT.out]; rfl, rfl, HR8, HB8⟩
                  case measure => simp [lenS, orbTo_len]; omega
                · rw [decide_eq_false hgt] at HLT
                  go_wp2_with fail
                  refine (HNX.out _ HBY.out).mono ?_
                  rintro e w8 ⟨rfl, hB8⟩
                  have HR8 := Lib.hid (HR7.out.below hB8)
                  have HB8 := Lib.hid (HB7.out.trans (hB8.mono HB7.out.size))
                  clear hB8 HNX HBY HB7 HR7 z0 z1
                  go_wp2
                  go_roundw
                  case rel => exact ⟨k + 1, by omega, hkp, by rw [HLT.out]; rfl, rfl, HR8, HB8⟩
                  case measure => simp [lenS, orbTo_len]; omega
        · obtain rfl : n = 2 * p.e.length := by omega
          have HZ := Lib.hid (trans2 HM.out hB.out)
          have HE := Lib.hid (show facesTo (prs p.e) (Rt.nxt g T) (2 * p.e.length) = (faces (prs p.e) (Rt.nxt g T)).map (wlk (Rt.nxt g T) (prs p.e).length) by rw [← prs_len]; exact facesTo_all _ _)
          rw [HE.out] at hO
          obtain ⟨us, hus⟩ := hO.out
          have HO := Lib.hid (hus.le HM.out.size)
          clear hO hB hus
          go_wp2
          go_ret
          exact ⟨_, us, rfl, HO.out, HZ.out⟩
    · obtain ⟨k', rfl⟩ : ∃ k', k = k' + 1 := ⟨k - 1, by omega⟩
      obtain rfl : z = (k' : Int) := by omega
      clear hz h0
      have hk0 : k' < p.v.length := by omega
      obtain ⟨pb, po, rfl, hpb, hpc⟩ := ints_at (HE2.out.below hB.out) hk0
      have hrv := HR1.out.mem ((mem_getI _ _).2 ⟨k', hk0, rfl⟩)
      have HS := Lib.hid (lones_drop T p.v k' hk0)
      obtain ⟨vn, hvn⟩ : ∃ vn : Nat, getI p.v k' = vn := ⟨(getI p.v k').toNat, by omega⟩
      rw [hvn] at hpc HS
      have hv0 : (0 : Int) ≤ (vn : Int) := by omega
      have hv1 : (vn : Int) < (T.length : Int) := by omega
      have hvT : vn < T.length := by omega
      obtain ⟨bT, oT, rfl, hbT, A', c', hcT, _⟩ := (HL1.out.below hB.out).get hvT
      have d0 := (HB2.out.below hB.out).c0
      have hvb : (vn : Int) < 100000 := by omega
      by_cases hlone : Rt.getT T vn = []
      · have HH := Lib.hid (HS.out.trans (by rw [if_pos (lone_iff.2 (by rw [Int.toNat_natCast]; exact hlone))]))
        have t1 : (((Rt.getT T vn).length : Int) == 0) = true := by rw [hlone]; rfl
        obtain ⟨us, hus⟩ := hO.out
        have HO := Lib.hid hus
        have HLN := Lib.hid (show ((lones T (p.v.drop (k' + 1))).map cmp).length ≤ 1000000 by have := lones_len T (p.v.drop (k' + 1)); rw [List.length_map]; rw [List.length_drop] at this; omega)
        clear hlone HS hus hO
        generalize (Rt.getT T vn).length = nT at *
        go_wp2_with (at_builtin; refine wpList_append_two rfl _ _ _ _ rfl Tryz.underlying55 hi hz0 hz1 hz2 rfl (by decide) (by decide) (y := (.inl (-1 - (vn : Int)), .inr [])) rfl rfl HO.out rfl (World.ownsRow_nil _ _ _ _) hB.out.size HLN.out ?_)
        intro v7 us7 w7 hO7 hB7
        have HO7 := Lib.hid (show ∃ us, Twos 85 w7 w1.heap.size v7 us ((lones T (p.v.drop k')).map cmp) from ⟨us7, by rw [HH.out, List.map_append]; exact hO7⟩)
        have HB7 := Lib.hid (hB.out.trans hB7)
        obtain ⟨A7, c7, rfl⟩ := hO7.shape
        clear hO7 hB7 HO HLN HH
        generalize ((lones T (p.v.drop (k' + 1))).map cmp ++ [(Sum.inl (-1 - (vn : Int)), Sum.inr [])]).length = n7 at *
        go_wp2
        go_roundw
        case rel => exact ⟨k', _, by omega, rfl, by go_num, HO7, HB7⟩
        case measure => simp [Go.RowKit.intOf]
      · have HH := Lib.hid (HS.out.trans (by rw [if_neg (fun e => hlone (by have := lone_iff.1 e; rwa [Int.toNat_natCast] at this)), List.append_nil]))
        have t1 : (((Rt.getT T vn).length : Int) == 0) = false := beq_eq_false_iff_ne.2 (fun e => hlone (List.length_eq_zero_iff.1 (by omega)))
        have HO := Lib.hid hO.out
        clear hlone HS hO
        generalize (Rt.getT T vn).length = nT at *
        go_wp2
        go_roundw
        case rel => exact ⟨k', _, by omega, rfl, by go_num, by rw [HH.out]; exact HO, hB⟩
        case measure => simp [Go.RowKit.intOf]
end Go.Proofs.YtmbpmepoaonleaaGreat.Fc

/-! The document's Key and Corner. -/
namespace Go.Proofs.YtmbpmepoaonleaaGreat.Fc
open Go.Proofs.YtmbpmepoaonleaaGreat Go.RowKit

/-- Whether a number is a walk's key, or one of its darts. -/
def hitB (d : Int) (x : Wlk) : Bool := x.1 == d || decide (d ∈ x.2)
def keyI (L : List Wlk) (d : Int) : Int := ((L.find? (hitB d)).map (·.1)).getD 0
def keyB (L : List Wlk) (d : Int) : Bool := (L.find? (hitB d)).isSome
/-- One of the walks: where it lies, and what it reads as. -/
theorem TwoL.walk {w : World} {A : Option Addr} {n c : Nat} {L : List Wlk} (h : TwoL w (.slice A n c) (L.map cmp)) {j : Nat} (hj : j < L.length) :
    ∃ b, A = some ⟨b, 0, none⟩ ∧ b < w.heap.size ∧ w.cell? ⟨b, j * 2, none⟩ = some (.int .i64 (L[j]).1) ∧ ∃ A' c', w.cell? ⟨b, j * 2 + 1, none⟩ = some (.slice A' (L[j]).2.length c') ∧ Ints w (.slice A' (L[j]).2.length c') (L[j]).2 := by
  obtain ⟨A0, cap, e, _, _, hr⟩ := h
  cases e
  obtain ⟨b, hA, hlt, hg⟩ := hr (by rw [List.length_map]; omega)
  obtain ⟨u1, u2, h1, h2, h3, h4⟩ := hg j (by rw [List.length_map]; omega)
  have e1 : (L.map cmp)[j]'(by rw [List.length_map]; omega) = cmp L[j] := List.getElem_map ..
  rw [e1] at h3 h4
  have h3' : u1 = .int .i64 (L[j]).1 := h3
  have h4' : Ints w u2 (L[j]).2 := h4
  subst h3'
  obtain ⟨A', c', rfl⟩ := ints_form h4'
  exact ⟨b, hA, hlt, h1, A', c', h2, h4'⟩

/-! ### Corner -/

/-- A vertex of a walk. -/
def crn (g : Gph) (k : Int) : Int := if k < 0 then -1 - k else tailOf g k.toNat

set_option maxRecDepth 100000 in
set_option maxHeartbeats 2000000 in
theorem rcorner_any (v : Value) (g : Gph) (k : Int) (A : Option Addr) (n c : Nat) (w : World) (h : Gr w v g) (hl : g.e.length ≤ 1000000) (hk0 : -1000000 ≤ k) (hk : k < 2 * g.e.length) :
    Calls Tryz.prog 85 #[v, .agg #[.int .i64 k, .slice A n c]] w fun e w' => e = .returned (.int .i64 (crn g k)) ∧ Below w.heap.size w w' := by
  have HG := Lib.hid h
  obtain ⟨ve, rfl, h1⟩ := h
  obtain ⟨Ae, ce, rfl⟩ := h1.form
  obtain ⟨b1, b2, hm⟩ := two_boxes w (.int .i64 g.n) (.slice Ae g.e.length ce) (.int .i64 k) (.slice A n c) 24 85
  have HM := Lib.hid hm
  have HG1 := Lib.hid (HG.out.below hm)
  have x0 := b1.c0
  have x1 := b1.c1
  have y0 := b2.c0
  by_cases hneg : k < 0
  · have HN := Lib.hid (show crn g k = -1 - k from if_pos hneg)
    clear b1 b2 hm h1 HG
    go_enter Tryz.func85, Tryz.ntmps85
    go_wp2
    go_ret
    exact ⟨ret_int HN.out.symm, HM.out⟩
  · obtain ⟨kn, rfl⟩ : ∃ kn : Nat, k = (kn : Int) := ⟨k.toNat, by omega⟩
    have HN := Lib.hid (show crn g (kn : Int) = tailOf g kn by unfold crn; rw [if_neg hneg, Int.toNat_natCast])
    have HC := Lib.hid (tail_any _ g kn _ HG1.out (by omega) hl)
    clear b1 b2 hm h1 HG
    go_enter Tryz.func85, Tryz.ntmps85
    go_wp2_with fail
    refine HC.out.mono ?_
    rintro e w2 ⟨rfl, hB⟩
    have HB := Lib.hid (trans2 HM.out hB)
    clear hB x0 x1 y0
    go_wp2
    go_ret
    exact ⟨ret_int HN.out.symm, HB.out⟩
end Go.Proofs.YtmbpmepoaonleaaGreat.Fc

/-! What holds of the walks: keys rise, each dart is in just one, a key is its walk's least dart (plain mathematics). -/
namespace Go.Proofs.YtmbpmepoaonleaaGreat.Fc
open Go.Proofs.YtmbpmepoaonleaaGreat Go.RowKit

variable {g : Gph} {p : Prt} {T : List (List Int)} {d : Int}

theorem prs_up : ∀ {l : List Int}, Up l → Up (prs l)
  | [], _ => List.Pairwise.nil
  | e :: l, h => by
    obtain ⟨h1, h2⟩ := List.pairwise_cons.1 h
    rw [prs_cons]
    have hm : ∀ x ∈ prs l, 2 * e + 1 < x := fun x hx => by
      have := h1 _ (mem_prs.1 hx)
      omega
    refine List.pairwise_cons.2 ⟨fun x hx => ?_, List.pairwise_cons.2 ⟨hm, prs_up h2⟩⟩
    rcases List.mem_cons.1 hx with rfl | hx
    · omega
    · have := hm x hx
      omega

theorem mem_lones {l : List Int} {x : Wlk} : x ∈ lones T l ↔ ∃ v ∈ l, loneB T v = true ∧ x = (-1 - v, []) := by
  unfold lones
  rw [List.mem_map]
  constructor
  · rintro ⟨v, hv, rfl⟩
    obtain ⟨h1, h2⟩ := List.mem_filter.1 hv
    exact ⟨v, List.mem_reverse.1 h1, h2, rfl⟩
  · rintro ⟨v, h1, h2, rfl⟩
    exact ⟨v, List.mem_filter.2 ⟨List.mem_reverse.2 h1, h2⟩, rfl⟩
theorem mem_walks {x : Wlk} : x ∈ walksOf g p T ↔ (∃ v ∈ p.v, loneB T v = true ∧ x = (-1 - v, [])) ∨ ∃ d ∈ faces (prs p.e) (Rt.nxt g T), x = wlk (Rt.nxt g T) (prs p.e).length d := by
  unfold walksOf
  rw [List.mem_append, mem_lones, List.mem_map]
  constructor
  · rintro (h | ⟨d, h1, rfl⟩)
    · exact .inl h
    · exact .inr ⟨d, h1, rfl⟩
  · rintro (h | ⟨d, h1, rfl⟩)
    · exact .inl h
    · exact .inr ⟨d, h1, rfl⟩

theorem face_nn (h : Rt.Turns g p T) (hd : d ∈ faces (prs p.e) (Rt.nxt g T)) : 0 ≤ d := ((mem_dart h.right).1 ((nxt_perm h).mem_faces.1 hd).1).1

theorem walks_rise (h : Rt.Turns g p T) : (walksOf g p T).Pairwise (fun x y => x.1 < y.1) := by
  unfold walksOf
  rw [List.pairwise_append]
  refine ⟨?_, ?_, ?_⟩
  · unfold lones
    rw [List.pairwise_map]
    have h1 : p.v.reverse.Pairwise (fun a b => b < a) := List.pairwise_reverse.2 (perr_rises h.right).2.1.up
    exact List.Pairwise.imp (fun {a b} hab => by show -1 - a < -1 - b; omega) (h1.filter _)
  · rw [List.pairwise_map]
    have h1 : Up (prs p.e) := prs_up (perr_rises h.right).2.2.1.up
    exact List.Pairwise.imp (fun {a b} hab => hab) (h1.filter _)
  · intro x hx y hy
    obtain ⟨v, hv, _, rfl⟩ := mem_lones.1 hx
    obtain ⟨d, hd, rfl⟩ := List.mem_map.1 hy
    have h1 := v_nn h.right hv
    have h2 := face_nn h hd
    show -1 - v < d
    omega

/-- A walk's darts, and its key. -/
theorem walk_facts (h : Rt.Turns g p T) {x : Wlk} (hx : x ∈ walksOf g p T) : (x.2 = [] ∧ x.1 < 0 ∧ -g.n ≤ x.1) ∨ (0 < x.2.length ∧ 0 ≤ x.1 ∧ getI x.2 0 = x.1 ∧ (∀ d ∈ x.2, x.1 ≤ d) ∧ x.1 ∈ prs p.e ∧ x.2.length ≤ 2 * p.e.length) := by
  rcases mem_walks.1 hx with ⟨v, hv, _, rfl⟩ | ⟨d, hd, rfl⟩
  · have := v_nn h.right hv
    exact .inl ⟨rfl, by show -1 - v < 0; omega, by show -g.n ≤ -1 - v; omega⟩
  · have h1 := (nxt_perm h).mem_faces.1 hd
    refine .inr ⟨by show 0 < (orb _ _ _).length; rw [orb_len]; exact per_pos _ _ _, face_nn h hd, orb_head _ _ _, leastB_iff.1 (((nxt_perm h).least h1.1).2 h1.2), h1.1, ?_⟩
    show (orb _ _ _).length ≤ _
    rw [orb_len, ← prs_len]
    exact ((nxt_perm h).per h1.1 (Nat.le_refl _)).1

end Go.Proofs.YtmbpmepoaonleaaGreat.Fc
