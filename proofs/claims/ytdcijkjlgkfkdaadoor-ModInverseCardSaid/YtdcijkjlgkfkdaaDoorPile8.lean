/- Parts of one proof, joined: ModU, WStrong, ModV, ModW, WNext, Top. -/
import Derived.Test.YtdcijkjlgkfkdaaDoorPile7
import Derived.Test.YtdcijkjlgkfkdaaDoorPile6
import Derived.Test.YtdcijkjlgkfkdaaDoorPile3

/- The reference of layer 2: odd, Strong. -/
namespace Go.Proofs.YtdcijkjlgkfkdaaDoor
open Go.RowKit Go.Shelf

set_option maxHeartbeats 400000 in
theorem rodd_any (w : World) (B : Nat) (A : Option Addr) (n c : Nat) (xs : List Nat) (hs : Sl w B A n c xs) (hd : Dg b32 xs) (N : Nat) (hN : V b32 xs = N) :
    Calls Tryd.prog 54 #[.slice A n c] w fun e w' => e = .returned (.bool (decide (N % 2 = 1))) ∧ w = w' := by
  have hbi := rbit_any w B A n c xs hs hd 0 (by decide)
  rw [hN, if_neg (by decide)] at hbi
  obtain ⟨bv, hbv⟩ : ∃ bv, N % 2 = bv := ⟨_, rfl⟩
  have e0 : N / 2 ^ (0 : Int).toNat % 2 = bv := by rw [show (0 : Int).toNat = 0 from rfl, Nat.pow_zero, Nat.div_one]; exact hbv
  rw [e0] at hbi
  have hb2 : bv = 0 ∨ bv = 1 := by have := Nat.mod_lt N (show 0 < 2 by decide); omega
  have HBI := Lib.hid hbi
  have HBV := Lib.hid hbv
  clear hbi hbv e0
  go_enter Tryd.func54, Tryd.ntmps54
  go_wp2_with fail
  refine HBI.out.mono ?_
  rintro e w1 ⟨rfl, rfl⟩
  rcases hb2 with h | h
  · subst h
    go_wp2
    go_ret
    refine ⟨?_, rfl⟩
    rw [HBV.out]
    rfl
  · subst h
    go_wp2
    go_ret
    refine ⟨?_, rfl⟩
    rw [HBV.out]
    rfl
theorem pow_le3 {a b : Nat} (h : a ≤ b) : 2 ^ a ≤ 2 ^ b := Nat.pow_le_pow_right (by decide) h
theorem ncmp_le {a b : Nat} (h : a ≤ b) : ncmp a b ≤ 0 := by unfold ncmp; split; decide; rw [if_neg (by omega)]; decide
theorem nm_pos {xs : List Nat} {p : Nat} (h : Nm b32 xs p) (h0 : p ≠ 0) : xs.length ≠ 0 := fun e => h0 (by
  have := List.eq_nil_of_length_eq_zero e
  subst this
  exact h.2.2.symm.trans rfl)

set_option maxRecDepth 100000 in
set_option maxHeartbeats 4000000 in
theorem rstrong_any (w : World) (A1 : Option Addr) (n1 c1 : Nat) (xs : List Nat) (hs1 : Sl w w.heap.size A1 n1 c1 xs) (A2 : Option Addr) (n2 c2 : Nat) (ys : List Nat) (hs2 : Sl w w.heap.size A2 n2 c2 ys) (N W : Nat) (hN : Nm b32 xs N) (hW : Nm b32 ys W)
    (hn1 : n1 ≤ 100) (hn2 : n2 ≤ 10000000) :
    Calls Tryd.prog 25 #[.slice A1 n1 c1, .slice A2 n2 c2] w fun e w' => RetB (MR N W) e ∧ Below w.heap.size w w' := by
  have hB : Below w.heap.size w w := Below.refl _ _
  have hNl : N < b32 ^ n1 := by rw [← hN.2.2, hs1.len]; exact V_lt _ hN.1
  have hLg : ¬ Lg 4096 N := fun h => absurd (Nat.lt_of_lt_of_le hNl (pow_le_b b32 n1 4096 32 rfl (by omega))) (Nat.not_lt.2 h)
  have ho1 : Calls Tryd.prog 22 #[.int .u64 1] w (fun e w' => RetN b32 w 1 e w') := rof_any 1 (by decide) w
  have HO1 := Lib.hid ho1
  have HN := Lib.hid hN
  have HW := Lib.hid hW
  have HNL := Lib.hid hNl
  have HLG := Lib.hid hLg
  clear ho1 hN hW hNl hLg
  go_enter Tryd.func25, Tryd.ntmps25
  go_wp2_with fail
  refine HO1.out.mono ?_
  rintro e v1 ⟨os, hos, Ao, no, co, rfl, hso, hc⟩
  replace hs1 := hs1.later hc (Nat.le_refl _)
  replace hs2 := hs2.later hc (Nat.le_refl _)
  replace hB := hB.trans (hc.mono hB.size)
  have HOS := Lib.hid hos
  have ho2 : Calls Tryd.prog 22 #[.int .u64 2] v1 (fun e w' => RetN b32 v1 2 e w') := rof_any 2 (by decide) v1
  have HO2 := Lib.hid ho2
  have hno : no ≤ 1 := by rw [hso.len]; exact hos.length_le (by decide) (by decide)
  clear ho2 hos hc HO1
  go_wp2_with fail
  refine HO2.out.mono ?_
  rintro e v2 ⟨ts, hts, At, nt, ct, rfl, hst, hc⟩
  replace hs1 := hs1.later hc (Nat.le_refl _)
  replace hs2 := hs2.later hc (Nat.le_refl _)
  replace hso := hso.later hc (Nat.le_refl _)
  replace hB := hB.trans (hc.mono hB.size)
  have HTS := Lib.hid hts
  have hod := rodd_any v2 _ _ _ _ _ hs1 HN.out.1 N HN.out.2.2
  have hcm := rcmp_b v2 _ _ _ _ _ hs1 _ _ _ _ _ hst N 2 HN.out HTS.out
  have hnt : nt ≤ 1 := by rw [hst.len]; exact hts.length_le (by decide) (by decide)
  obtain ⟨cv, hcv⟩ : ∃ cv, ncmp N 2 = cv := ⟨_, rfl⟩
  rw [hcv] at hcm
  have HOD := Lib.hid hod
  have HCM := Lib.hid hcm
  have HCV := Lib.hid hcv
  clear hod hcm hcv hts hc HO2
  go_wp2_with fail
  refine HOD.out.mono ?_
  rintro e v3 ⟨rfl, rfl⟩
  by_cases hodd : N % 2 = 1
  · have HODD := Lib.hid hodd
    rw [decide_eq_true hodd]
    clear hodd HOD
    go_wp2_with fail
    refine HCM.out.mono ?_
    rintro e v3 ⟨rfl, hc⟩
    replace hs1 := hs1.later hc (Nat.le_refl _)
    replace hs2 := hs2.later hc (Nat.le_refl _)
    replace hso := hso.later hc (Nat.le_refl _)
    replace hst := hst.later hc (Nat.le_refl _)
    replace hB := hB.trans (hc.mono hB.size)
    clear hc HCM
    by_cases hN1 : N = 1
    · have hcv0 : cv = -1 := by rw [← HCV.out, hN1]; decide
      subst hcv0
      have hcm := rcmp_b v3 _ _ _ _ _ hs1 _ _ _ _ _ hst N 2 HN.out HTS.out
      rw [HCV.out] at hcm
      have HCM := Lib.hid hcm
      have HN1 := Lib.hid hN1
      clear hcm hN1
      go_wp2_with fail
      refine HCM.out.mono ?_
      rintro e v4 ⟨rfl, hc⟩
      replace hB := hB.trans (hc.mono hB.size)
      clear hc
      go_wp2
      go_ret
      refine ⟨⟨false, rfl, fun h => (by cases h), fun h => ?_⟩, hB⟩
      exfalso
      have hn := HN1.out
      rcases h with h | h
      · omega
      · have := h.1.2.1; omega
    · have hN3 : 3 ≤ N := by have := HODD.out; omega
      have hcv1 : cv = 1 := by rw [← HCV.out]; exact ncmp_gt (by omega)
      subst hcv1
      have hbs := rbits_any v3 _ _ _ _ _ hs1 N HN.out (by omega)
      have HBS := Lib.hid hbs
      have HN3 := Lib.hid hN3
      clear hbs hN3 hN1
      go_wp2_with fail
      refine HBS.out.mono ?_
      rintro e v4 ⟨kk, rfl, hkk, rfl⟩
      have hkl : ¬ (4096 : Int) < (kk : Int) := fun h => HLG.out ((bits_gt (q := 4096) hkk).1 (by omega))
      have hsu := rsub_any v3 _ (Nat.le_refl _) _ _ _ _ hs1 _ _ _ _ hso HN.out.1 HOS.out.1 (by omega) (by
        have h1 : n1 ≠ 0 := by rw [hs1.len]; exact nm_pos HN.out (by have := HN3.out; omega)
        omega) (by rw [HOS.out.2.2, HN.out.2.2]; have := HN3.out; omega)
      rw [HOS.out.2.2, HN.out.2.2] at hsu
      have HSU := Lib.hid hsu
      clear hkk hsu HBS
      go_wp2_with fail
      refine HSU.out.mono ?_
      rintro e v4 ⟨ls, hls, Al, nl, cl, rfl, hsl, hc⟩
      replace hs1 := hs1.later hc (Nat.le_refl _)
      replace hs2 := hs2.later hc (Nat.le_refl _)
      replace hso := hso.later hc (Nat.le_refl _)
      replace hst := hst.later hc (Nat.le_refl _)
      replace hB := hB.trans (hc.mono hB.size)
      have HLS := Lib.hid hls
      have hst0 : Num32 v4 n1 ((N - 1) / 2 ^ 0) (.slice Al nl cl) := ⟨_, _, _, _, rfl, hsl, by rw [Nat.pow_zero, Nat.div_one]; exact hls, Nat.lt_of_le_of_lt (Nat.div_le_self _ _) (Nat.lt_of_le_of_lt (Nat.sub_le _ _) HNL.out)⟩
      have HST0 := Lib.hid hst0
      clear hls hc HSU hst0
      go_wp2
      go_loopw [8, 9] (fun x i wr => ∃ k : Nat, i = .int .i64 (k : Nat) ∧ (N - 1) % 2 ^ k = 0 ∧ k < 4096 ∧ Num32 wr n1 ((N - 1) / 2 ^ k) x ∧ Below v4.heap.size v4 wr) (fun _ i _ => 4096 - (intOf i).toNat)
      case atStart => exact ⟨0, rfl, by rw [Nat.pow_zero, Nat.mod_one], by decide, HST0.out, Below.refl _ _⟩
      case round =>
        obtain ⟨k, rfl, hm, hkN, hx, hBr⟩ := hrel
        obtain ⟨px, Ap, np, cp, rfl, hsp, hpn, hpl⟩ := hx.len
        have HPN := Lib.hid hpn
        have HM := Lib.hid hm
        have hod := rodd_any wr _ _ _ _ _ hsp hpn.1 _ hpn.2.2
        have HOD := Lib.hid hod
        clear hpn hm hod hx
        go_wp2_with fail
        refine HOD.out.mono ?_
        rintro e w1 ⟨rfl, rfl⟩
        by_cases hodd : (N - 1) / 2 ^ k % 2 = 1
        · -- the loop is over
          have hLz : Lz (N - 1) k := ⟨HM.out, hodd⟩
          have HLZ := Lib.hid hLz
          rw [decide_eq_true hodd]
          replace hs1 := hs1.later hBr (Nat.le_refl _)
          replace hs2 := hs2.later hBr (Nat.le_refl _)
          replace hso := hso.later hBr (Nat.le_refl _)
          replace hst := hst.later hBr (Nat.le_refl _)
          replace hsl := hsl.later hBr (Nat.le_refl _)
          replace hB := hB.trans (hBr.mono hB.size)
          have hN0 : 0 < N := by have := HN3.out; omega
          have hT : Tst N := ⟨HODD.out, by have := HN3.out; omega, HLG.out⟩
          obtain ⟨d, hd⟩ : ∃ d, (N - 1) / 2 ^ k = d := ⟨_, rfl⟩
          rw [hd] at HPN
          have HDD := Lib.hid hd
          have HT := Lib.hid hT
          have HN0 := Lib.hid hN0
          have hmo := rmod2_any wr _ _ _ _ hs2 _ _ _ _ hs1 W N HW.out HN.out (by omega) (by omega) hN0
          have HMO := Lib.hid hmo
          clear hodd hLz hBr hN0 hT hd hmo HOD HST0 hs2
          go_wp2_with fail
          refine HMO.out.mono ?_
          rintro e v5 ⟨bs, hbs, Ab, nb, cb, rfl, hsb, hc⟩
          obtain ⟨b, hb⟩ : ∃ b, W % N = b := ⟨_, rfl⟩
          rw [hb] at hbs
          replace hs1 := hs1.later hc (Nat.le_refl _)
          replace hso := hso.later hc (Nat.le_refl _)
          replace hsl := hsl.later hc (Nat.le_refl _)
          replace hsp := hsp.later hc (Nat.le_refl _)
          replace hB := hB.trans (hc.mono hB.size)
          have hbN : b < N := by rw [← hb]; exact Nat.mod_lt _ HN0.out
          have hnb : nb ≤ n1 := by rw [hsb.len]; exact hbs.length_le (by decide) (Nat.lt_trans hbN HNL.out)
          have HBS := Lib.hid hbs
          have HBB := Lib.hid hb
          have HBN := Lib.hid hbN
          clear hc hbs hb hbN HMO
          by_cases hb0 : b = 0
          · have hnb0 : nb = 0 := by
              rw [hsb.len]
              subst hb0
              rw [nm_zero HBS.out]
              rfl
            subst hnb0
            have hyes : MR N W := .inr ⟨HT.out, .inl (HBB.out.trans hb0)⟩
            have HY := Lib.hid hyes
            clear hb0 hyes
            go_wp2
            go_ret
            exact ⟨⟨true, rfl, fun _ => HY.out, fun _ => rfl⟩, hB⟩
          · have hnb0 : ¬ (nb : Int) = 0 := by
              have := nm_pos HBS.out hb0
              rw [← hsb.len] at this
              omega
            obtain ⟨q0, hq0⟩ := bits_ex d
            have hdN : d ≤ N := by rw [← HDD.out]; exact Nat.le_trans (Nat.div_le_self _ _) (Nat.sub_le _ _)
            have hq4 : q0 ≤ 4096 := Classical.byContradiction fun h => HLG.out (lg_mono ((bits_gt (q := 4096) hq0).1 (by omega)) hdN)
            have hex := rexp2_any v5 _ _ _ _ hsb _ _ _ _ hsp _ _ _ _ hs1 b d N HBS.out HPN.out HN.out (by omega) (by omega) (by omega) HN0.out q0 hq0 (by omega)
            have HEX := Lib.hid hex
            have HB0 := Lib.hid hb0
            clear hb0 hq0 hdN hq4 hex hsp
            go_wp2_with fail
            refine HEX.out.mono ?_
            rintro e v6 ⟨ws, hws, Aw, nw, cw, rfl, hsw, hc⟩
            replace hs1 := hs1.later hc (Nat.le_refl _)
            replace hso := hso.later hc (Nat.le_refl _)
            replace hsl := hsl.later hc (Nat.le_refl _)
            replace hB := hB.trans (hc.mono hB.size)
            have HWS := Lib.hid hws
            have hcm := rcmp_b v6 _ _ _ _ _ hsw _ _ _ _ _ hso _ 1 HWS.out HOS.out
            obtain ⟨cu, hcu⟩ : ∃ cu, ncmp (b ^ d % N) 1 = cu := ⟨_, rfl⟩
            rw [hcu] at hcm
            have HCM := Lib.hid hcm
            have HCU := Lib.hid hcu
            clear hc hws hcm hcu HEX
            go_wp2_with fail
            refine HCM.out.mono ?_
            rintro e v7 ⟨rfl, hc⟩
            replace hs1 := hs1.later hc (Nat.le_refl _)
            replace hsl := hsl.later hc (Nat.le_refl _)
            replace hsw := hsw.later hc (Nat.le_refl _)
            replace hB := hB.trans (hc.mono hB.size)
            clear hc HCM hso
            by_cases h1 : b ^ d % N = 1
            · have hcu0 : cu = 0 := by rw [← HCU.out, h1, ncmp_eq]
              subst hcu0
              have hyes : MR N W := .inr ⟨HT.out, .inr ⟨k, HLZ.out, .inl (by rw [HBB.out, HDD.out]; exact h1)⟩⟩
              have HY := Lib.hid hyes
              clear h1 hyes
              go_wp2
              go_ret
              exact ⟨⟨true, rfl, fun _ => HY.out, fun _ => rfl⟩, hB⟩
            · have hcu0 : ¬ cu = 0 := by
                intro h
                have h2 := ncmp_ne h1
                rw [HCU.out, h] at h2
                cases h2
              have hcu1 : (cu == 0) = false := by
                rw [beq_eq_false_iff_ne]; exact hcu0
              have H1 := Lib.hid h1
              have hlt : ∀ y : Nat, y % N < b32 ^ n1 := fun y => Nat.lt_trans (Nat.mod_lt _ HN0.out) HNL.out
              have HLT := Lib.hid hlt
              have hst1 : Num32 v7 n1 (b ^ (d * 2 ^ 0) % N) (.slice Aw nw cw) := ⟨_, _, _, _, rfl, hsw, by rw [Nat.pow_zero, Nat.mul_one]; exact HWS.out, hlt _⟩
              have HST1 := Lib.hid hst1
              clear h1 hlt hst1 hsw
              go_wp2
              go_loopw [10, 11] (fun x i wr => ∃ j : Nat, j ≤ k ∧ i = .int .i64 (j : Nat) ∧ Num32 wr n1 (b ^ (d * 2 ^ j) % N) x ∧ (∀ t, t < j → b ^ (d * 2 ^ t) % N ≠ N - 1) ∧ Below v7.heap.size v7 wr) (fun _ i _ => k - (intOf i).toNat)
              case atStart => exact ⟨0, Nat.zero_le _, rfl, HST1.out, fun t h => absurd h (Nat.not_lt_zero _), Below.refl _ _⟩
              case round =>
                obtain ⟨j, hj, rfl, hx, hno2, hBr⟩ := hrel
                obtain ⟨px, Ap, np, cp, rfl, hsp, hpn, hpl⟩ := hx.len
                have HNO := Lib.hid hno2
                have HPN2 := Lib.hid hpn
                clear hno2 hx hpn
                by_cases hjk : j = k
                · subst hjk
                  have hnm : ¬ MR N W := by
                    rintro (h | ⟨_, h | ⟨s', hz, h | ⟨i, hi, h⟩⟩⟩)
                    · exact h.1 HT.out
                    · exact HB0.out (HBB.out.symm.trans h)
                    · rw [← HLZ.out.unique hz, HBB.out, HDD.out] at h
                      exact H1.out h
                    · rw [← HLZ.out.unique hz, HBB.out, HDD.out] at h
                      rw [← HLZ.out.unique hz] at hi
                      exact HNO.out i hi h
                  have HNM := Lib.hid hnm
                  clear hnm
                  go_wp2
                  go_ret
                  exact ⟨⟨_, rfl, fun h => (by cases h), fun h => absurd h HNM.out⟩, hB.trans (hBr.mono hB.size)⟩
                · have hji : (j : Int) < k := by omega
                  have hcm := rcmp_b wr _ _ _ _ _ hsp _ _ _ _ _ (hsl.later hBr (Nat.le_refl _)) _ _ HPN2.out HLS.out
                  obtain ⟨cx, hcx⟩ : ∃ cx, ncmp (b ^ (d * 2 ^ j) % N) (N - 1) = cx := ⟨_, rfl⟩
                  rw [hcx] at hcm
                  have HCM := Lib.hid hcm
                  have HCX := Lib.hid hcx
                  clear hcm hcx
                  by_cases he : b ^ (d * 2 ^ j) % N = N - 1
                  · have hc0 : cx = 0 := by rw [← HCX.out, he, ncmp_eq]
                    subst hc0
                    have HE := Lib.hid he
                    clear he
                    go_wp2_with fail
                    refine HCM.out.mono ?_
                    rintro e w8 ⟨rfl, hc⟩
                    go_wp2
                    go_ret
                    refine ⟨⟨_, rfl, fun _ => .inr ⟨HT.out, .inr ⟨k, HLZ.out, .inr ⟨j, by omega, ?_⟩⟩⟩, fun _ => rfl⟩, hB.trans ((hBr.trans (hc.mono hBr.size)).mono hB.size)⟩
                    rw [HBB.out, HDD.out]; exact HE.out
                  · have hc0 : ¬ cx = 0 := by
                      intro h
                      have h2 := ncmp_ne he
                      rw [HCX.out, h] at h2
                      cases h2
                    have HE := Lib.hid he
                    clear he
                    go_wp2_with fail
                    refine HCM.out.mono ?_
                    rintro e w8 ⟨rfl, hc⟩
                    have hs1r := hs1.later (hBr.trans (hc.mono hBr.size)) (Nat.le_refl _)
                    replace hsp := hsp.later hc (Nat.le_refl _)
                    replace hBr := hBr.trans (hc.mono hBr.size)
                    clear hc
                    have hmu := rmul2_any w8 _ _ _ _ hsp _ _ _ _ hsp _ _ _ _ hs1r _ _ N HPN2.out HPN2.out HN.out (by omega) (by omega) (by omega) HN0.out
                    have HMU := Lib.hid hmu
                    clear hmu
                    go_wp2_with fail
                    refine HMU.out.mono ?_
                    rintro e w9 ⟨ry, hry, Ay, ny, cy, rfl, hsy, hc⟩
                    rw [mr_sq] at hry
                    have HRY := Lib.hid hry
                    replace hBr := hBr.trans (hc.mono hBr.size)
                    clear hry hc
                    go_wp2
                    go_roundw
                    case rel =>
                      refine ⟨j + 1, by omega, by go_num, ⟨_, _, _, _, rfl, hsy, HRY.out, HLT.out _⟩, fun t ht => ?_, hBr⟩
                      rcases Nat.lt_or_ge t j with h | h
                      · exact HNO.out t h
                      · obtain rfl : t = j := by omega
                        exact HE.out
                    case measure => simp [intOf]; omega
        · -- halve
          have heven : (N - 1) / 2 ^ k % 2 = 0 := by omega
          have hm2 := low_step HM.out heven
          have hle := low_le hm2 (by have := HN3.out; omega)
          have hk2 : k + 1 < 4096 := by
            apply Classical.byContradiction
            intro hne
            exact HLG.out (lg_mono (lg_pow (by omega)) (Nat.le_trans hle (Nat.sub_le _ _)))
          rw [decide_eq_false hodd]
          have hqu := rquo_any wr _ _ _ _ hsp _ _ _ _ (hst.later hBr (Nat.le_refl _)) _ 2 HPN.out HTS.out (by omega) (by omega) (by decide)
          have hdiv : (N - 1) / 2 ^ k / 2 = (N - 1) / 2 ^ (k + 1) := by rw [Nat.div_div_eq_div_mul, Nat.pow_succ]
          rw [hdiv] at hqu
          have HQU := Lib.hid hqu
          have HM2 := Lib.hid hm2
          have HK2 := Lib.hid hk2
          clear heven hm2 hle hk2 hodd hqu hdiv HOD
          go_wp2_with fail
          refine HQU.out.mono ?_
          rintro e w2 ⟨A3, n3, c3, qs, A4, n4, c4, rs, rfl, hsq, hq, hsr, hr, hc⟩
          have hnx : Num32 w2 n1 ((N - 1) / 2 ^ (k + 1)) (.slice A3 n3 c3) := ⟨_, _, _, _, rfl, hsq, hq, Nat.lt_of_le_of_lt (Nat.div_le_self _ _) (Nat.lt_of_le_of_lt (Nat.sub_le _ _) HNL.out)⟩
          have HNX := Lib.hid hnx
          have hB2 := hBr.trans (hc.mono hBr.size)
          clear hsq hq hsr hr hc hnx HQU
          go_wp2
          go_roundw
          case rel => exact ⟨k + 1, by go_num, HM2.out, HK2.out, HNX.out, hB2⟩
          case measure => simp [intOf]; omega
  · have HODD := Lib.hid hodd
    rw [decide_eq_false hodd]
    clear hodd HOD
    go_wp2_with fail
    refine HCM.out.mono ?_
    rintro e v4 ⟨rfl, hc⟩
    replace hB := hB.trans (hc.mono hB.size)
    have hcz : (cv = 0) ↔ MR N W := by
      constructor
      · intro h
        have h2 : N = 2 := by
          apply Classical.byContradiction
          intro hne
          have h3 := ncmp_ne hne
          rw [HCV.out, h] at h3
          cases h3
        exact .inl ⟨fun h => HODD.out h.1, h2⟩
      · rintro (h | h)
        · rw [← HCV.out, h.2]; decide
        · exact absurd h.1.1 HODD.out
    have HCZ := Lib.hid hcz
    clear hc hcz
    by_cases h0 : cv = 0
    · subst h0
      go_wp2
      go_ret
      exact ⟨⟨true, rfl, fun _ => HCZ.out.1 (by first | rfl | trivial), fun _ => rfl⟩, hB⟩
    · go_wp2
      go_ret
      refine ⟨⟨false, ?_, fun h => (by cases h), fun h => absurd (HCZ.out.2 h) h0⟩, hB⟩
      first | rfl | (simp; exact h0)
end Go.Proofs.YtdcijkjlgkfkdaaDoor

/- ModStrong, walked. -/
namespace Go.Proofs.YtdcijkjlgkfkdaaDoor
open Go.RowKit Go.Shelf

set_option maxRecDepth 100000 in
set_option maxHeartbeats 4000000 in
theorem strong_walk (w : World) (hG : FewG w) (A1 : Option Addr) (n1 c1 : Nat) (xs : List Nat) (hs1 : Sl w w.heap.size A1 n1 c1 xs) (hd1 : Dg b64 xs) (A2 : Option Addr) (n2 c2 : Nat) (ys : List Nat) (hs2 : Sl w w.heap.size A2 n2 c2 ys) (hd2 : Dg b64 ys) :
    Calls Tryd.prog 6 #[.slice A1 n1 c1, .slice A2 n2 c2] w fun e w' => RetV w (.bool true) e w' := by
  have hB : Below w.heap.size w w := Below.refl _ _
  have HG := Lib.hid hG
  clear hG
  have hda1 := hd1.take 3
  obtain ⟨q1, hq1⟩ : ∃ q, xs.take 3 = q := ⟨_, rfl⟩
  rw [hq1] at hda1
  have hl1 : q1.length ≤ 3 := by rw [← hq1, List.length_take]; exact Nat.min_le_left _ _
  obtain ⟨N, hN⟩ : ∃ N, V b64 q1 = N := ⟨_, rfl⟩
  have HQ1 := Lib.hid hq1
  have HD1 := Lib.hid hda1
  have HL1 := Lib.hid hl1
  have HN := Lib.hid hN
  clear hq1 hda1 hl1 hN hd1
  have hda2 := hd2.take 3
  obtain ⟨q2, hq2⟩ : ∃ q, ys.take 3 = q := ⟨_, rfl⟩
  rw [hq2] at hda2
  have hl2 : q2.length ≤ 3 := by rw [← hq2, List.length_take]; exact Nat.min_le_left _ _
  obtain ⟨M, hM⟩ : ∃ N, V b64 q2 = N := ⟨_, rfl⟩
  have HQ2 := Lib.hid hq2
  have HD2 := Lib.hid hda2
  have HL2 := Lib.hid hl2
  have HM := Lib.hid hM
  clear hq2 hda2 hl2 hM hd2
  go_enter Tryd.func6, Tryd.ntmps6
  go_wp2_with fail
  refine (begun2_any w HG.out).mono ?_
  rintro e v1 ⟨rfl, hc⟩
  replace hs1 := hs1.later hc (Nat.le_refl _)
  replace hs2 := hs2.later hc (Nat.le_refl _)
  replace hB := hB.trans (hc.mono hB.size)
  clear hc
  have hfw := few2_any v1 _ _ _ _ _ hs1 3 (by decide)
  rw [HQ1.out] at hfw
  have HFW := Lib.hid hfw
  clear hfw
  go_wp2_with fail
  refine (HFW.out).mono ?_
  rintro e v2 ⟨Ba1, m1, d1, rfl, hs1, hc⟩
  replace hs2 := hs2.later hc (Nat.le_refl _)
  replace hB := hB.trans (hc.mono hB.size)
  clear hc
  have hm1 : m1 ≤ 3 := by rw [hs1.len]; exact HL1.out
  clear HFW
  have hfw := few2_any v2 _ _ _ _ _ hs2 3 (by decide)
  rw [HQ2.out] at hfw
  have HFW := Lib.hid hfw
  clear hfw
  go_wp2_with fail
  refine (HFW.out).mono ?_
  rintro e v3 ⟨Ba2, m2, d2, rfl, hs2, hc⟩
  replace hs1 := hs1.later hc (Nat.le_refl _)
  replace hB := hB.trans (hc.mono hB.size)
  clear hc
  have hm2 : m2 ≤ 3 := by rw [hs2.len]; exact HL2.out
  clear HFW
  have hst := strong_any v3 _ _ _ _ hs1 _ _ _ _ hs2 HD1.out HD2.out (by omega) (by omega) N M HN.out HM.out
  have HST := Lib.hid hst
  clear hst
  go_wp2_with fail
  refine (HST.out).mono ?_
  rintro e v4 ⟨⟨b1, rfl, hb1⟩, hc⟩
  replace hs1 := hs1.later hc (Nat.le_refl _)
  replace hs2 := hs2.later hc (Nat.le_refl _)
  replace hB := hB.trans (hc.mono hB.size)
  clear hc
  have HB1 := Lib.hid hb1
  clear hb1 HST
  have hfr := from_any v4 _ (Nat.le_refl _) _ _ _ _ hs1 HD1.out (by omega)
  rw [HN.out] at hfr
  have HFR := Lib.hid hfr
  clear hfr
  go_wp2_with fail
  refine (HFR.out).mono ?_
  rintro e v5 ⟨z1, hz1, C1, k1, e1, rfl, hr1, hc⟩
  replace hs1 := hs1.later hc (Nat.le_refl _)
  replace hs2 := hs2.later hc (Nat.le_refl _)
  replace hB := hB.trans (hc.mono hB.size)
  clear hc
  have HZ1 := Lib.hid hz1
  have hk1 : k1 ≤ 6 := by
    rw [hr1.len]
    exact hz1.length_le (by decide) (Nat.lt_of_lt_of_le (by rw [← HN.out]; exact V_lt _ HD1.out) (by rw [← hs1.len, show b64 = b32 ^ 2 from rfl, ← Nat.pow_mul]; exact Nat.pow_le_pow_right (by decide) (by omega)))
  clear HFR hz1
  have hfr := from_any v5 _ (Nat.le_refl _) _ _ _ _ hs2 HD2.out (by omega)
  rw [HM.out] at hfr
  have HFR := Lib.hid hfr
  clear hfr
  go_wp2_with fail
  refine (HFR.out).mono ?_
  rintro e v6 ⟨z2, hz2, C2, k2, e2, rfl, hr2, hc⟩
  replace hs1 := hs1.later hc (Nat.le_refl _)
  replace hs2 := hs2.later hc (Nat.le_refl _)
  replace hr1 := hr1.later hc (Nat.le_refl _)
  replace hB := hB.trans (hc.mono hB.size)
  clear hc
  have HZ2 := Lib.hid hz2
  have hk2 : k2 ≤ 6 := by
    rw [hr2.len]
    exact hz2.length_le (by decide) (Nat.lt_of_lt_of_le (by rw [← HM.out]; exact V_lt _ HD2.out) (by rw [← hs2.len, show b64 = b32 ^ 2 from rfl, ← Nat.pow_mul]; exact Nat.pow_le_pow_right (by decide) (by omega)))
  clear HFR hz2
  have hrs := rstrong_any v6 _ _ _ _ hr1 _ _ _ _ hr2 N M HZ1.out HZ2.out (by omega) (by omega)
  have HRS := Lib.hid hrs
  clear hrs
  go_wp2_with fail
  refine (HRS.out).mono ?_
  rintro e v7 ⟨⟨b2, rfl, hb2⟩, hc⟩
  replace hs1 := hs1.later hc (Nat.le_refl _)
  replace hs2 := hs2.later hc (Nat.le_refl _)
  replace hr1 := hr1.later hc (Nat.le_refl _)
  replace hr2 := hr2.later hc (Nat.le_refl _)
  replace hB := hB.trans (hc.mono hB.size)
  clear hc
  clear HRS
  obtain rfl : b1 = b2 := by
    have h1 := HB1.out
    cases b1 <;> cases b2
    · rfl
    · exact absurd (h1.2 (hb2.1 rfl)) (by decide)
    · exact absurd (hb2.2 (h1.1 rfl)) (by decide)
    · rfl
  clear hb2
  go_wp2
  go_ret
  exact ⟨by simp, hB⟩
end Go.Proofs.YtdcijkjlgkfkdaaDoor

/- The reference of layer 2: Few, Probable, Next. -/
namespace Go.Proofs.YtdcijkjlgkfkdaaDoor
open Go.RowKit Go.Shelf

set_option maxRecDepth 100000 in
set_option maxHeartbeats 1000000 in
theorem rfew_any (w : World) : Calls Tryd.prog 76 #[] w fun e w' => ∃ g, e = .returned (.slice (some ⟨g, 0, none⟩) 12 12) ∧ Row w' g fewL ∧ Below w.heap.size w w' := by
  go_enter Tryd.func76, Tryd.ntmps76
  go_wp2
  go_ret
  refine ⟨w.heap.size, rfl, ?_, (Below.refl _ w).alloc (Nat.le_refl _) _⟩
  unfold Row
  rw [heap_alloc_new]
  rfl
theorem fewL_get {i : Nat} (h : i < 12) : fewL[i]? = some (fewL.getD i 0) := by
  rw [List.getD_eq_getElem?_getD, List.getElem?_eq_getElem (show i < fewL.length from h)]
  rfl

set_option maxRecDepth 100000 in
set_option maxHeartbeats 4000000 in
theorem rprobable_any (w : World) (A : Option Addr) (n c : Nat) (xs : List Nat) (hs : Sl w w.heap.size A n c xs) (N : Nat) (hN : Nm b32 xs N) (hn : n ≤ 100) (ho : N % 2 = 1) (h3 : 3 ≤ N) :
    Calls Tryd.prog 58 #[.slice A n c] w fun e w' => RetB (¬ HasSmall N ∧ ProbF N) e ∧ Below w.heap.size w w' := by
  have hB : Below w.heap.size w w := Below.refl _ _
  have hLg : ¬ Lg 4096 N := fun h => by
    have hNl : N < b32 ^ n := by rw [← hN.2.2, hs.len]; exact V_lt _ hN.1
    exact absurd (Nat.lt_of_lt_of_le hNl (pow_le_b b32 n 4096 32 rfl (by omega))) (Nat.not_lt.2 h)
  have hT : Tst N := ⟨ho, by omega, hLg⟩
  have HN := Lib.hid hN
  have HO := Lib.hid ho
  have H3 := Lib.hid h3
  have HT := Lib.hid hT
  have hfe := rfew_any w
  have HFE := Lib.hid hfe
  clear hN ho h3 hT hLg hfe
  go_enter Tryd.func58, Tryd.ntmps58
  go_wp2_with fail
  refine HFE.out.mono ?_
  rintro e v1 ⟨g, rfl, hR, hc⟩
  replace hs := hs.later hc (Nat.le_refl _)
  replace hB := hB.trans (hc.mono hB.size)
  clear hc HFE
  go_wp2
  go_loopw [4] (fun i wr => ∃ k : Nat, k ≤ 12 ∧ i = .int .i64 (k : Nat) ∧ (∀ j, j < k → ¬ Sf N j) ∧ Below v1.heap.size v1 wr) (fun i _ => 12 - (intOf i).toNat)
  case atStart => exact ⟨0, by decide, rfl, fun j h => absurd h (Nat.not_lt_zero _), Below.refl _ _⟩
  case round =>
    obtain ⟨k, hk, rfl, hno, hBr⟩ := hrel
    have hRr := hR.below hBr hR.lt
    have hsr := hs.later hBr (Nat.le_refl _)
    by_cases hk12 : k = 12
    · -- all small primes are through
      subst hk12
      have hns : ¬ HasSmall N := fun ⟨i, hi, h⟩ => hno i hi h
      have HNS := Lib.hid hns
      have hB1 := hB.trans (hBr.mono hB.size)
      have ho2 : Calls Tryd.prog 22 #[.int .u64 2] wr (fun e w' => RetN b32 wr 2 e w') := rof_any 2 (by decide) wr
      have HO2 := Lib.hid ho2
      clear hno hns ho2 hBr hR
      go_wp2_with fail
      refine HO2.out.mono ?_
      rintro e v2 ⟨ts, hts, At, nt, ct, rfl, hst, hc⟩
      replace hsr := hsr.later hc (Nat.le_refl _)
      replace hRr := hRr.below hc hRr.lt
      replace hB1 := hB1.trans (hc.mono hB1.size)
      have hcm := rcmp_b v2 _ _ _ _ _ hsr _ _ _ _ _ hst N 2 HN.out hts
      rw [ncmp_gt (by have := H3.out; omega)] at hcm
      have HCM := Lib.hid hcm
      clear hts hst hc hcm HO2
      go_wp2_with fail
      refine HCM.out.mono ?_
      rintro e v3 ⟨rfl, hc⟩
      replace hsr := hsr.later hc (Nat.le_refl _)
      replace hRr := hRr.below hc hRr.lt
      replace hB1 := hB1.trans (hc.mono hB1.size)
      have hod := rodd_any v3 _ _ _ _ _ hsr HN.out.1 N HN.out.2.2
      rw [decide_eq_true HO.out] at hod
      have HOD := Lib.hid hod
      clear hc hod HCM
      go_wp2_with fail
      refine HOD.out.mono ?_
      rintro e v4 ⟨rfl, rfl⟩
      have ho2 : Calls Tryd.prog 22 #[.int .u64 2] v3 (fun e w' => RetN b32 v3 2 e w') := rof_any 2 (by decide) v3
      have HO2 := Lib.hid ho2
      clear ho2 HOD
      go_wp2_with fail
      refine HO2.out.mono ?_
      rintro e v4 ⟨ts, hts, At2, nt2, ct2, rfl, hst, hc⟩
      replace hsr := hsr.later hc (Nat.le_refl _)
      replace hRr := hRr.below hc hRr.lt
      replace hB1 := hB1.trans (hc.mono hB1.size)
      have hcm := rcmp_b v4 _ _ _ _ _ hsr _ _ _ _ _ hst N 2 HN.out hts
      rw [ncmp_gt (by have := H3.out; omega)] at hcm
      have HCM := Lib.hid hcm
      clear hts hst hc hcm HO2
      go_wp2_with fail
      refine HCM.out.mono ?_
      rintro e v5 ⟨rfl, hc⟩
      replace hsr := hsr.later hc (Nat.le_refl _)
      replace hRr := hRr.below hc hRr.lt
      replace hB1 := hB1.trans (hc.mono hB1.size)
      have hbs := rbits_any v5 _ _ _ _ _ hsr N HN.out (by omega)
      have HBS := Lib.hid hbs
      clear hc hbs HCM
      go_wp2_with fail
      refine HBS.out.mono ?_
      rintro e v6 ⟨kk, rfl, hkk, rfl⟩
      have hkl : ¬ (4096 : Int) < (kk : Int) := fun h => HT.out.2.2 ((bits_gt (q := 4096) hkk).1 (by omega))
      have hkb : decide ((4096 : Int) < (kk : Int)) = false := decide_eq_false hkl
      have HR := Lib.hid hRr
      have HS := Lib.hid hsr
      have HB1 := Lib.hid hB1
      clear hkk HBS hRr hsr hB1
      go_wp2
      go_loopw [7] (fun i wr => ∃ k : Nat, k ≤ 12 ∧ i = .int .i64 (k : Nat) ∧ (∀ j, j < k → MR N (fewL.getD j 0)) ∧ Below v5.heap.size v5 wr) (fun i _ => 12 - (intOf i).toNat)
      case atStart => exact ⟨0, by decide, rfl, fun j h => absurd h (Nat.not_lt_zero _), Below.refl _ _⟩
      case round =>
        obtain ⟨k, hk, rfl, hyes, hBr⟩ := hrel
        have hRr := HR.out.below hBr HR.out.lt
        have hsr := HS.out.later hBr (Nat.le_refl _)
        by_cases hk12 : k = 12
        · subst hk12
          have hp : ¬ HasSmall N ∧ ProbF N := ⟨HNS.out, .inr ⟨HT.out, hyes⟩⟩
          have HP := Lib.hid hp
          have hB2 := HB1.out.trans (hBr.mono HB1.out.size)
          clear hyes hp hBr
          go_wp2
          go_ret
          exact ⟨⟨true, rfl, fun _ => HP.out, fun _ => rfl⟩, hB2⟩
        · have hki : (k : Int) < 12 := by omega
          have hcl := hRr.at_ (fewL_get (i := k) (by omega))
          obtain ⟨p, hp⟩ : ∃ p, fewL.getD k 0 = p := ⟨_, rfl⟩
          have hpp := fewL_pos (i := k) (by omega)
          rw [hp] at hcl hpp
          have hof : Calls Tryd.prog 22 #[.int .u64 (p : Int)] wr (fun e w' => RetN b32 wr p e w') := rof_any p (Nat.lt_of_le_of_lt hpp.2 (by decide)) wr
          have HOF := Lib.hid hof
          have HP := Lib.hid hp
          have HPP := Lib.hid hpp
          have HY := Lib.hid hyes
          clear hof hp hpp hyes
          go_wp2_with fail
          refine HOF.out.mono ?_
          rintro e w2 ⟨ps, hps, Ap, np, cp, rfl, hsp, hc⟩
          have hnp : np ≤ 2 := by rw [hsp.len]; exact hps.length_le (by decide) (Nat.lt_of_le_of_lt HPP.out.2 (by decide))
          have hst := rstrong_any w2 _ _ _ _ (hsr.later hc (Nat.le_refl _)) _ _ _ _ hsp N p HN.out hps (by omega) (by omega)
          have hB2 := hBr.trans (hc.mono hBr.size)
          have HST := Lib.hid hst
          clear hps hsp hc hst HOF
          go_wp2_with fail
          refine HST.out.mono ?_
          rintro e w3 ⟨⟨b, rfl, hb⟩, hc⟩
          have hB3 := hB2.trans (hc.mono hB2.size)
          have HB := Lib.hid hb
          clear hb hc hB2 HST
          rcases b with _ | _
          · have hp : ¬ (¬ HasSmall N ∧ ProbF N) := by
              rintro ⟨_, h | h⟩
              · exact h.1 HT.out
              · have h2 := h.2 k (by omega)
                rw [HP.out] at h2
                have := HB.out.2 h2
                cases this
            have HPN := Lib.hid hp
            have hB4 := HB1.out.trans (hB3.mono HB1.out.size)
            clear hp
            go_wp2
            go_ret
            exact ⟨⟨false, rfl, fun h => (by cases h), fun h => absurd h HPN.out⟩, hB4⟩
          · have hnx : ∀ j, j < k + 1 → MR N (fewL.getD j 0) := fun j hj => by
              rcases Nat.lt_or_ge j k with h | h
              · exact HY.out j h
              · obtain rfl : j = k := by omega
                rw [HP.out]
                exact HB.out.1 rfl
            have HNX := Lib.hid hnx
            clear hnx
            go_wp2
            go_roundw
            case rel => exact ⟨k + 1, by omega, by go_num, HNX.out, hB3⟩
            case measure => simp [intOf]; omega
    · have hki : (k : Int) < 12 := by omega
      have hcl := hRr.at_ (fewL_get (i := k) (by omega))
      obtain ⟨p, hp⟩ : ∃ p, fewL.getD k 0 = p := ⟨_, rfl⟩
      have hpp := fewL_pos (i := k) (by omega)
      rw [hp] at hcl hpp
      have hof : Calls Tryd.prog 22 #[.int .u64 (p : Int)] wr (fun e w' => RetN b32 wr p e w') := rof_any p (Nat.lt_of_le_of_lt hpp.2 (by decide)) wr
      have HOF := Lib.hid hof
      have HP := Lib.hid hp
      have HPP := Lib.hid hpp
      have HY := Lib.hid hno
      clear hof hp hpp hno
      go_wp2_with fail
      refine HOF.out.mono ?_
      rintro e w2 ⟨ps, hps, Ap, np, cp, rfl, hsp, hc⟩
      have hnp : np ≤ 2 := by rw [hsp.len]; exact hps.length_le (by decide) (Nat.lt_of_le_of_lt HPP.out.2 (by decide))
      replace hsr := hsr.later hc (Nat.le_refl _)
      have hmo := rmod2_any w2 _ _ _ _ hsr _ _ _ _ hsp N p HN.out hps (by omega) (by omega) HPP.out.1
      have hB2 := hBr.trans (hc.mono hBr.size)
      have HMO := Lib.hid hmo
      have HPS := Lib.hid hps
      clear hps hc hmo HOF
      go_wp2_with fail
      refine HMO.out.mono ?_
      rintro e w3 ⟨rs, hrs, Ar, nr, cr, rfl, hsr2, hc⟩
      replace hsr := hsr.later hc (Nat.le_refl _)
      replace hsp := hsp.later hc (Nat.le_refl _)
      replace hB2 := hB2.trans (hc.mono hB2.size)
      have hnx0 : ¬ Sf N k → ∀ j, j < k + 1 → ¬ Sf N j := fun hk' j hj => by
        rcases Nat.lt_or_ge j k with h | h
        · exact HY.out j h
        · obtain rfl : j = k := by omega
          exact hk'
      have HNX0 := Lib.hid hnx0
      clear hnx0 hc HMO
      by_cases hr0 : N % p = 0
      · have hnr : nr = 0 := by
          rw [hsr2.len]
          rw [hr0] at hrs
          rw [nm_zero hrs]
          rfl
        subst hnr
        have hcm := rcmp_b w3 _ _ _ _ _ hsr _ _ _ _ _ hsp N p HN.out HPS.out
        obtain ⟨cv, hcv⟩ : ∃ cv, ncmp N p = cv := ⟨_, rfl⟩
        rw [hcv] at hcm
        have HCM := Lib.hid hcm
        have HCV := Lib.hid hcv
        have HR0 := Lib.hid hr0
        clear hrs hsr2 hcm hcv hr0
        go_wp2_with fail
        refine HCM.out.mono ?_
        rintro e w4 ⟨rfl, hc⟩
        replace hB2 := hB2.trans (hc.mono hB2.size)
        clear hc HCM
        by_cases he : N = p
        · have hc0 : cv = 0 := by rw [← HCV.out, he, ncmp_eq]
          subst hc0
          have hnx := HNX0.out (fun h => h.2 (by rw [HP.out]; exact he))
          have HNX := Lib.hid hnx
          clear hnx he
          go_wp2
          go_roundw
          case rel => exact ⟨k + 1, by omega, by go_num, HNX.out, hB2⟩
          case measure => simp [intOf]; omega
        · have hc0 : ¬ cv = 0 := by
            intro h
            have h2 := ncmp_ne he
            rw [HCV.out, h] at h2
            cases h2
          have hp : ¬ (¬ HasSmall N ∧ ProbF N) := fun h => h.1 ⟨k, by omega, by rw [HP.out]; exact HR0.out, by rw [HP.out]; exact he⟩
          have HPN := Lib.hid hp
          have hB4 := hB.trans (hB2.mono hB.size)
          clear hp he
          go_wp2
          go_ret
          exact ⟨⟨false, rfl, fun h => (by cases h), fun h => absurd h HPN.out⟩, hB4⟩
      · have hnr : ¬ (nr : Int) = 0 := by
          have := nm_pos hrs hr0
          rw [← hsr2.len] at this
          omega
        have hnx := HNX0.out (fun h => hr0 (by rw [← HP.out]; exact h.1))
        have HNX := Lib.hid hnx
        clear hnx hr0 hrs hsr2
        go_wp2
        go_roundw
        case rel => exact ⟨k + 1, by omega, by go_num, HNX.out, hB2⟩
        case measure => simp [intOf]; omega
end Go.Proofs.YtdcijkjlgkfkdaaDoor

/- The reference of layer 2: Next. -/
namespace Go.Proofs.YtdcijkjlgkfkdaaDoor
open Go.RowKit Go.Shelf

def RetX32 (w : World) (N E k : Nat) (e : Ending) (w' : World) : Prop :=
  ∃ j ps A n c, j ≤ k ∧ FitN (firstN N + 2 * j) E ∧ (∀ i, i < j → ¬ FitN (firstN N + 2 * i) E) ∧ Nm b32 ps (firstN N + 2 * j) ∧ e = .returned (.slice A n c) ∧ Sl w' w'.heap.size A n c ps ∧ Below w.heap.size w w'
/-- the reference's loop state: p, its place -/
theorem rn_round {N j : Nat} : (firstN N + 2 * j) % 2 = 1 ∧ 3 ≤ firstN N + 2 * j := by
  have := firstN_odd N
  have := (firstN_le N).2
  omega

set_option maxRecDepth 100000 in
set_option maxHeartbeats 4000000 in
theorem rnext_any (w : World) (A1 : Option Addr) (n1 c1 : Nat) (xs : List Nat) (hs1 : Sl w w.heap.size A1 n1 c1 xs) (A2 : Option Addr) (n2 c2 : Nat) (ys : List Nat) (hs2 : Sl w w.heap.size A2 n2 c2 ys) (N E : Nat) (hN : Nm b32 xs N) (hE : Nm b32 ys E)
    (hn1 : n1 ≤ 90) (hn2 : n2 ≤ 90) (k : Nat) (hk : FitN (firstN N + 2 * k) E) (hkK : firstN N + 2 * k < b32 ^ 90) :
    Calls Tryd.prog 28 #[.slice A1 n1 c1, .slice A2 n2 c2] w fun e w' => RetX32 w N E k e w' := by
  have hB : Below w.heap.size w w := Below.refl _ _
  have ho2 : Calls Tryd.prog 22 #[.int .u64 2] w (fun e w' => RetN b32 w 2 e w') := rof_any 2 (by decide) w
  have HO2 := Lib.hid ho2
  have HN := Lib.hid hN
  have HE := Lib.hid hE
  have HK := Lib.hid hk
  have HKK := Lib.hid hkK
  clear ho2 hN hE hk hkK
  go_enter Tryd.func28, Tryd.ntmps28
  go_wp2_with fail
  refine HO2.out.mono ?_
  rintro e v1 ⟨ts, hts, At, nt, ct, rfl, hst, hc⟩
  replace hs1 := hs1.later hc (Nat.le_refl _)
  replace hs2 := hs2.later hc (Nat.le_refl _)
  replace hB := hB.trans (hc.mono hB.size)
  have HTS := Lib.hid hts
  have hnt : nt ≤ 1 := by rw [hst.len]; exact hts.length_le (by decide) (by decide)
  have hcm := rcmp_b v1 _ _ _ _ _ hs1 _ _ _ _ _ hst N 2 HN.out HTS.out
  obtain ⟨cv, hcv⟩ : ∃ cv, ncmp N 2 = cv := ⟨_, rfl⟩
  rw [hcv] at hcm
  have HCM := Lib.hid hcm
  have HCV := Lib.hid hcv
  clear hts hc hcm hcv HO2
  go_wp2_with fail
  refine HCM.out.mono ?_
  rintro e v2 ⟨rfl, hc⟩
  replace hs1 := hs1.later hc (Nat.le_refl _)
  replace hs2 := hs2.later hc (Nat.le_refl _)
  replace hst := hst.later hc (Nat.le_refl _)
  replace hB := hB.trans (hc.mono hB.size)
  clear hc HCM
  by_cases h2 : N ≤ 2
  · have hc0 : cv ≤ 0 := by rw [← HCV.out]; exact ncmp_le h2
    have ho3 : Calls Tryd.prog 22 #[.int .u64 3] v2 (fun e w' => RetN b32 v2 3 e w') := rof_any 3 (by decide) v2
    have HO3 := Lib.hid ho3
    have hf : firstN N = 3 := by unfold firstN; split <;> omega
    have HF := Lib.hid hf
    clear ho3 hf h2
    go_wp2_with fail
    refine HO3.out.mono ?_
    rintro e v3 ⟨fs, hfs, Af, nf, cf, rfl, hsf, hc⟩
    replace hs2 := hs2.later hc (Nat.le_refl _)
    replace hst := hst.later hc (Nat.le_refl _)
    replace hB := hB.trans (hc.mono hB.size)
    have hod := rodd_any v3 _ _ _ _ _ hsf hfs.1 3 hfs.2.2
    have HOD := Lib.hid hod
    have hst0 : Num32 v3 90 (firstN N + 2 * 0) (.slice Af nf cf) := ⟨_, _, _, _, rfl, hsf, by rw [HF.out]; exact hfs, by rw [HF.out]; decide⟩
    have HST0 := Lib.hid hst0
    clear hc hod hst0 hsf hfs HO3
    go_wp2_with fail
    refine HOD.out.mono ?_
    rintro e v4 ⟨rfl, rfl⟩
    clear HOD
    go_wp2
    go_loopw [6] (fun x wr => ∃ j : Nat, j ≤ k ∧ Num32 wr 90 (firstN N + 2 * j) x ∧ (∀ i, i < j → ¬ FitN (firstN N + 2 * i) E) ∧ Below v3.heap.size v3 wr) (fun x wr => firstN N + 2 * k + 1 - num32At wr x)
    case atStart => exact ⟨0, Nat.zero_le _, HST0.out, fun i h => absurd h (Nat.not_lt_zero _), Below.refl _ _⟩
    case round =>
      obtain ⟨j, hj, hx, hmin, hBr⟩ := hrel
      obtain ⟨px, Ap, np, cp, rfl, hsp, hpn, hpl⟩ := hx.len
      have HMIN := Lib.hid hmin
      have HPN := Lib.hid hpn
      have hat := (num32At_sl hsp).trans hpn.2.2
      have HAT := Lib.hid hat
      have hs2r := hs2.later hBr (Nat.le_refl _)
      have hstr := hst.later hBr (Nat.le_refl _)
      have hBw := hB.trans (hBr.mono hB.size)
      have hpr := rprobable_any wr _ _ _ _ hsp _ hpn (by omega) rn_round.1 rn_round.2
      have HPR := Lib.hid hpr
      have hBy0 := hBr
      clear hmin hpn hpr hx hat hBr
      go_wp2_with fail
      refine HPR.out.mono ?_
      rintro e u1 ⟨⟨b, rfl, hb⟩, hc⟩
      replace hs2r := hs2r.later hc (Nat.le_refl _)
      replace hstr := hstr.later hc (Nat.le_refl _)
      replace hsp := hsp.later hc (Nat.le_refl _)
      replace hBw := hBw.trans (hc.mono hBw.size)
      replace hBy0 := hBy0.trans (hc.mono hBy0.size)
      have HBP := Lib.hid hb
      clear hb hc HPR
      have hnext : ¬ FitN (firstN N + 2 * j) E → j < k ∧ ∀ i, i < j + 1 → ¬ FitN (firstN N + 2 * i) E := fun hnf => by
        constructor
        · rcases Nat.lt_or_ge j k with h | h
          · exact h
          · obtain rfl : j = k := by omega
            exact absurd HK.out hnf
        · intro i hi
          rcases Nat.lt_or_ge i j with h | h
          · exact HMIN.out i h
          · obtain rfl : i = j := by omega
            exact hnf
      have HNEXT := Lib.hid hnext
      clear hnext
      rcases b with _ | _
      · have hnf := HNEXT.out (fun h => by have := HBP.out.2 ⟨h.1, h.2.2⟩; cases this)
        have HNF := Lib.hid hnf
        clear hnf
        have hBy := Lib.hid hBy0
        have had := radd_any u1 _ (Nat.le_refl _) _ _ _ _ hsp _ _ _ _ hstr HPN.out.1 HTS.out.1 (by omega) (by omega)
        rw [HTS.out.2.2, HPN.out.2.2] at had
        have HAD := Lib.hid had
        clear had
        go_wp2_with fail
        refine HAD.out.mono ?_
        rintro e u9 ⟨qs, hqs, Aq, nq, cq, rfl, hsq, hc⟩
        have hnx : Num32 u9 90 (firstN N + 2 * (j + 1)) (.slice Aq nq cq) := ⟨_, _, _, _, rfl, hsq, hqs, by have := HKK.out; have := HNF.out.1; omega⟩
        have m2 := (num32At_sl hsq).trans hqs.2.2
        have HNX := Lib.hid hnx
        have HM2 := Lib.hid m2
        have hBx := hBy.out.trans (hc.mono hBy.out.size)
        clear hnx m2 hqs hsq hc HAD
        go_wp2
        go_roundw
        case rel => exact ⟨j + 1, HNF.out.1, HNX.out, HNF.out.2, hBx⟩
        case measure =>
          rw [HAT.out, HM2.out]
          have := HNF.out.1
          omega
      · have ho1 : Calls Tryd.prog 22 #[.int .u64 1] u1 (fun e w' => RetN b32 u1 1 e w') := rof_any 1 (by decide) u1
        have HO1 := Lib.hid ho1
        clear ho1
        go_wp2_with fail
        refine HO1.out.mono ?_
        rintro e u2 ⟨os, hos, Ao, no, co, rfl, hso, hc⟩
        replace hs2r := hs2r.later hc (Nat.le_refl _)
        replace hstr := hstr.later hc (Nat.le_refl _)
        replace hsp := hsp.later hc (Nat.le_refl _)
        replace hBw := hBw.trans (hc.mono hBw.size)
        replace hBy0 := hBy0.trans (hc.mono hBy0.size)
        have hno : no ≤ 1 := by rw [hso.len]; exact hos.length_le (by decide) (by decide)
        have hnp0 : np ≠ 0 := by rw [hsp.len]; exact nm_pos HPN.out (by have := (rn_round (N := N) (j := j)).2; omega)
        have hsu := rsub_any u2 _ (Nat.le_refl _) _ _ _ _ hsp _ _ _ _ hso HPN.out.1 hos.1 (by omega) (by omega) (by rw [hos.2.2, HPN.out.2.2]; have := (rn_round (N := N) (j := j)).2; omega)
        rw [hos.2.2, HPN.out.2.2] at hsu
        have HSU := Lib.hid hsu
        clear hos hso hc hsu HO1
        go_wp2_with fail
        refine HSU.out.mono ?_
        rintro e u3 ⟨ls, hls, Al, nl, cl, rfl, hsl, hc⟩
        replace hs2r := hs2r.later hc (Nat.le_refl _)
        replace hstr := hstr.later hc (Nat.le_refl _)
        replace hsp := hsp.later hc (Nat.le_refl _)
        replace hBw := hBw.trans (hc.mono hBw.size)
        replace hBy0 := hBy0.trans (hc.mono hBy0.size)
        have hnl : nl ≤ 90 := by rw [hsl.len]; exact hls.length_le (by decide) (Nat.lt_of_le_of_lt (Nat.sub_le _ _) (by have := HKK.out; omega))
        have hgc := rgcd2_any u3 _ _ _ _ hsl _ _ _ _ hs2r _ E hls HE.out 90 (by decide) hnl hn2
        have HGC := Lib.hid hgc
        clear hls hsl hc hgc HSU
        go_wp2_with fail
        refine HGC.out.mono ?_
        rintro e u4 ⟨gs, hgs, Ag, ng, cg, rfl, hsg, hc⟩
        replace hs2r := hs2r.later hc (Nat.le_refl _)
        replace hstr := hstr.later hc (Nat.le_refl _)
        replace hsp := hsp.later hc (Nat.le_refl _)
        replace hBw := hBw.trans (hc.mono hBw.size)
        replace hBy0 := hBy0.trans (hc.mono hBy0.size)
        have ho1 : Calls Tryd.prog 22 #[.int .u64 1] u4 (fun e w' => RetN b32 u4 1 e w') := rof_any 1 (by decide) u4
        have HO1 := Lib.hid ho1
        have HGS := Lib.hid hgs
        clear ho1 hc hgs HGC
        go_wp2_with fail
        refine HO1.out.mono ?_
        rintro e u5 ⟨os, hos, Ao2, no2, co2, rfl, hso, hc⟩
        replace hs2r := hs2r.later hc (Nat.le_refl _)
        replace hstr := hstr.later hc (Nat.le_refl _)
        replace hsp := hsp.later hc (Nat.le_refl _)
        replace hsg := hsg.later hc (Nat.le_refl _)
        replace hBw := hBw.trans (hc.mono hBw.size)
        replace hBy0 := hBy0.trans (hc.mono hBy0.size)
        have hcm := rcmp_b u5 _ _ _ _ _ hsg _ _ _ _ _ hso _ 1 HGS.out hos
        obtain ⟨cx, hcx⟩ : ∃ cx, ncmp (Nat.gcd (firstN N + 2 * j - 1) E) 1 = cx := ⟨_, rfl⟩
        rw [hcx] at hcm
        have HCM := Lib.hid hcm
        have HCX := Lib.hid hcx
        clear hos hso hsg hc hcm hcx HO1
        go_wp2_with fail
        refine HCM.out.mono ?_
        rintro e u6 ⟨rfl, hc⟩
        replace hs2r := hs2r.later hc (Nat.le_refl _)
        replace hstr := hstr.later hc (Nat.le_refl _)
        replace hsp := hsp.later hc (Nat.le_refl _)
        replace hBw := hBw.trans (hc.mono hBw.size)
        replace hBy0 := hBy0.trans (hc.mono hBy0.size)
        clear hc HCM
        by_cases he : Nat.gcd (firstN N + 2 * j - 1) E = 1
        · have hc0 : cx = 0 := by rw [← HCX.out, he, ncmp_eq]
          subst hc0
          have hfit : FitN (firstN N + 2 * j) E := ⟨(HBP.out.1 (by first | rfl | trivial)).1, he, (HBP.out.1 (by first | rfl | trivial)).2⟩
          have HFIT := Lib.hid hfit
          clear hfit he
          go_wp2
          go_ret
          exact ⟨j, px, Ap, np, cp, hj, HFIT.out, HMIN.out, HPN.out, rfl, hsp, hBw⟩
        · have hc0 : ¬ cx = 0 := by
            intro h
            have h2 := ncmp_ne he
            rw [HCX.out, h] at h2
            cases h2
          have hc1 : (cx == 0) = false := by rw [beq_eq_false_iff_ne]; exact hc0
          have hnf := HNEXT.out (fun h => he h.2.1)
          have HNF := Lib.hid hnf
          clear hnf he
          have hBy := Lib.hid hBy0
          have had := radd_any u6 _ (Nat.le_refl _) _ _ _ _ hsp _ _ _ _ hstr HPN.out.1 HTS.out.1 (by omega) (by omega)
          rw [HTS.out.2.2, HPN.out.2.2] at had
          have HAD := Lib.hid had
          clear had
          go_wp2_with fail
          refine HAD.out.mono ?_
          rintro e u9 ⟨qs, hqs, Aq, nq, cq, rfl, hsq, hc⟩
          have hnx : Num32 u9 90 (firstN N + 2 * (j + 1)) (.slice Aq nq cq) := ⟨_, _, _, _, rfl, hsq, hqs, by have := HKK.out; have := HNF.out.1; omega⟩
          have m2 := (num32At_sl hsq).trans hqs.2.2
          have HNX := Lib.hid hnx
          have HM2 := Lib.hid m2
          have hBx := hBy.out.trans (hc.mono hBy.out.size)
          clear hnx m2 hqs hsq hc HAD
          go_wp2
          go_roundw
          case rel => exact ⟨j + 1, HNF.out.1, HNX.out, HNF.out.2, hBx⟩
          case measure =>
            rw [HAT.out, HM2.out]
            have := HNF.out.1
            omega
  · have hc0 : ¬ cv ≤ 0 := by rw [← HCV.out, ncmp_gt (by omega)]; decide
    have hc1 : decide (cv ≤ 0) = false := decide_eq_false hc0
    have hod := rodd_any v2 _ _ _ _ _ hs1 HN.out.1 N HN.out.2.2
    have HOD := Lib.hid hod
    have hNl : N < b32 ^ 90 := by
      rw [← HN.out.2.2]
      exact Nat.lt_of_lt_of_le (V_lt _ HN.out.1) (Nat.pow_le_pow_right (by decide) (by rw [← hs1.len]; exact hn1))
    have HNL := Lib.hid hNl
    clear hod hNl
    go_wp2_with fail
    refine HOD.out.mono ?_
    rintro e v3 ⟨rfl, rfl⟩
    clear HOD
    by_cases ho : N % 2 = 1
    · have hf : firstN N = N := by unfold firstN; rw [if_neg (by omega)]; omega
      have hst0 : Num32 v2 90 (firstN N + 2 * 0) (.slice A1 n1 c1) := ⟨_, _, _, _, rfl, hs1, by rw [hf]; exact HN.out, by rw [hf]; exact HNL.out⟩
      have HST0 := Lib.hid hst0
      rw [decide_eq_true ho]
      clear hf hst0 ho h2
      go_wp2
      go_loopw [6] (fun x wr => ∃ j : Nat, j ≤ k ∧ Num32 wr 90 (firstN N + 2 * j) x ∧ (∀ i, i < j → ¬ FitN (firstN N + 2 * i) E) ∧ Below v2.heap.size v2 wr) (fun x wr => firstN N + 2 * k + 1 - num32At wr x)
      case atStart => exact ⟨0, Nat.zero_le _, HST0.out, fun i h => absurd h (Nat.not_lt_zero _), Below.refl _ _⟩
      case round =>
        obtain ⟨j, hj, hx, hmin, hBr⟩ := hrel
        obtain ⟨px, Ap, np, cp, rfl, hsp, hpn, hpl⟩ := hx.len
        have HMIN := Lib.hid hmin
        have HPN := Lib.hid hpn
        have hat := (num32At_sl hsp).trans hpn.2.2
        have HAT := Lib.hid hat
        have hs2r := hs2.later hBr (Nat.le_refl _)
        have hstr := hst.later hBr (Nat.le_refl _)
        have hBw := hB.trans (hBr.mono hB.size)
        have hpr := rprobable_any wr _ _ _ _ hsp _ hpn (by omega) rn_round.1 rn_round.2
        have HPR := Lib.hid hpr
        have hBy0 := hBr
        clear hmin hpn hpr hx hat hBr
        go_wp2_with fail
        refine HPR.out.mono ?_
        rintro e u1 ⟨⟨b, rfl, hb⟩, hc⟩
        replace hs2r := hs2r.later hc (Nat.le_refl _)
        replace hstr := hstr.later hc (Nat.le_refl _)
        replace hsp := hsp.later hc (Nat.le_refl _)
        replace hBw := hBw.trans (hc.mono hBw.size)
        replace hBy0 := hBy0.trans (hc.mono hBy0.size)
        have HBP := Lib.hid hb
        clear hb hc HPR
        have hnext : ¬ FitN (firstN N + 2 * j) E → j < k ∧ ∀ i, i < j + 1 → ¬ FitN (firstN N + 2 * i) E := fun hnf => by
          constructor
          · rcases Nat.lt_or_ge j k with h | h
            · exact h
            · obtain rfl : j = k := by omega
              exact absurd HK.out hnf
          · intro i hi
            rcases Nat.lt_or_ge i j with h | h
            · exact HMIN.out i h
            · obtain rfl : i = j := by omega
              exact hnf
        have HNEXT := Lib.hid hnext
        clear hnext
        rcases b with _ | _
        · have hnf := HNEXT.out (fun h => by have := HBP.out.2 ⟨h.1, h.2.2⟩; cases this)
          have HNF := Lib.hid hnf
          clear hnf
          have hBy := Lib.hid hBy0
          have had := radd_any u1 _ (Nat.le_refl _) _ _ _ _ hsp _ _ _ _ hstr HPN.out.1 HTS.out.1 (by omega) (by omega)
          rw [HTS.out.2.2, HPN.out.2.2] at had
          have HAD := Lib.hid had
          clear had
          go_wp2_with fail
          refine HAD.out.mono ?_
          rintro e u9 ⟨qs, hqs, Aq, nq, cq, rfl, hsq, hc⟩
          have hnx : Num32 u9 90 (firstN N + 2 * (j + 1)) (.slice Aq nq cq) := ⟨_, _, _, _, rfl, hsq, hqs, by have := HKK.out; have := HNF.out.1; omega⟩
          have m2 := (num32At_sl hsq).trans hqs.2.2
          have HNX := Lib.hid hnx
          have HM2 := Lib.hid m2
          have hBx := hBy.out.trans (hc.mono hBy.out.size)
          clear hnx m2 hqs hsq hc HAD
          go_wp2
          go_roundw
          case rel => exact ⟨j + 1, HNF.out.1, HNX.out, HNF.out.2, hBx⟩
          case measure =>
            rw [HAT.out, HM2.out]
            have := HNF.out.1
            omega
        · have ho1 : Calls Tryd.prog 22 #[.int .u64 1] u1 (fun e w' => RetN b32 u1 1 e w') := rof_any 1 (by decide) u1
          have HO1 := Lib.hid ho1
          clear ho1
          go_wp2_with fail
          refine HO1.out.mono ?_
          rintro e u2 ⟨os, hos, Ao, no, co, rfl, hso, hc⟩
          replace hs2r := hs2r.later hc (Nat.le_refl _)
          replace hstr := hstr.later hc (Nat.le_refl _)
          replace hsp := hsp.later hc (Nat.le_refl _)
          replace hBw := hBw.trans (hc.mono hBw.size)
          replace hBy0 := hBy0.trans (hc.mono hBy0.size)
          have hno : no ≤ 1 := by rw [hso.len]; exact hos.length_le (by decide) (by decide)
          have hnp0 : np ≠ 0 := by rw [hsp.len]; exact nm_pos HPN.out (by have := (rn_round (N := N) (j := j)).2; omega)
          have hsu := rsub_any u2 _ (Nat.le_refl _) _ _ _ _ hsp _ _ _ _ hso HPN.out.1 hos.1 (by omega) (by omega) (by rw [hos.2.2, HPN.out.2.2]; have := (rn_round (N := N) (j := j)).2; omega)
          rw [hos.2.2, HPN.out.2.2] at hsu
          have HSU := Lib.hid hsu
          clear hos hso hc hsu HO1
          go_wp2_with fail
          refine HSU.out.mono ?_
          rintro e u3 ⟨ls, hls, Al, nl, cl, rfl, hsl, hc⟩
          replace hs2r := hs2r.later hc (Nat.le_refl _)
          replace hstr := hstr.later hc (Nat.le_refl _)
          replace hsp := hsp.later hc (Nat.le_refl _)
          replace hBw := hBw.trans (hc.mono hBw.size)
          replace hBy0 := hBy0.trans (hc.mono hBy0.size)
          have hnl : nl ≤ 90 := by rw [hsl.len]; exact hls.length_le (by decide) (Nat.lt_of_le_of_lt (Nat.sub_le _ _) (by have := HKK.out; omega))
          have hgc := rgcd2_any u3 _ _ _ _ hsl _ _ _ _ hs2r _ E hls HE.out 90 (by decide) hnl hn2
          have HGC := Lib.hid hgc
          clear hls hsl hc hgc HSU
          go_wp2_with fail
          refine HGC.out.mono ?_
          rintro e u4 ⟨gs, hgs, Ag, ng, cg, rfl, hsg, hc⟩
          replace hs2r := hs2r.later hc (Nat.le_refl _)
          replace hstr := hstr.later hc (Nat.le_refl _)
          replace hsp := hsp.later hc (Nat.le_refl _)
          replace hBw := hBw.trans (hc.mono hBw.size)
          replace hBy0 := hBy0.trans (hc.mono hBy0.size)
          have ho1 : Calls Tryd.prog 22 #[.int .u64 1] u4 (fun e w' => RetN b32 u4 1 e w') := rof_any 1 (by decide) u4
          have HO1 := Lib.hid ho1
          have HGS := Lib.hid hgs
          clear ho1 hc hgs HGC
          go_wp2_with fail
          refine HO1.out.mono ?_
          rintro e u5 ⟨os, hos, Ao2, no2, co2, rfl, hso, hc⟩
          replace hs2r := hs2r.later hc (Nat.le_refl _)
          replace hstr := hstr.later hc (Nat.le_refl _)
          replace hsp := hsp.later hc (Nat.le_refl _)
          replace hsg := hsg.later hc (Nat.le_refl _)
          replace hBw := hBw.trans (hc.mono hBw.size)
          replace hBy0 := hBy0.trans (hc.mono hBy0.size)
          have hcm := rcmp_b u5 _ _ _ _ _ hsg _ _ _ _ _ hso _ 1 HGS.out hos
          obtain ⟨cx, hcx⟩ : ∃ cx, ncmp (Nat.gcd (firstN N + 2 * j - 1) E) 1 = cx := ⟨_, rfl⟩
          rw [hcx] at hcm
          have HCM := Lib.hid hcm
          have HCX := Lib.hid hcx
          clear hos hso hsg hc hcm hcx HO1
          go_wp2_with fail
          refine HCM.out.mono ?_
          rintro e u6 ⟨rfl, hc⟩
          replace hs2r := hs2r.later hc (Nat.le_refl _)
          replace hstr := hstr.later hc (Nat.le_refl _)
          replace hsp := hsp.later hc (Nat.le_refl _)
          replace hBw := hBw.trans (hc.mono hBw.size)
          replace hBy0 := hBy0.trans (hc.mono hBy0.size)
          clear hc HCM
          by_cases he : Nat.gcd (firstN N + 2 * j - 1) E = 1
          · have hc0 : cx = 0 := by rw [← HCX.out, he, ncmp_eq]
            subst hc0
            have hfit : FitN (firstN N + 2 * j) E := ⟨(HBP.out.1 (by first | rfl | trivial)).1, he, (HBP.out.1 (by first | rfl | trivial)).2⟩
            have HFIT := Lib.hid hfit
            clear hfit he
            go_wp2
            go_ret
            exact ⟨j, px, Ap, np, cp, hj, HFIT.out, HMIN.out, HPN.out, rfl, hsp, hBw⟩
          · have hc0 : ¬ cx = 0 := by
              intro h
              have h2 := ncmp_ne he
              rw [HCX.out, h] at h2
              cases h2
            have hc1 : (cx == 0) = false := by rw [beq_eq_false_iff_ne]; exact hc0
            have hnf := HNEXT.out (fun h => he h.2.1)
            have HNF := Lib.hid hnf
            clear hnf he
            have hBy := Lib.hid hBy0
            have had := radd_any u6 _ (Nat.le_refl _) _ _ _ _ hsp _ _ _ _ hstr HPN.out.1 HTS.out.1 (by omega) (by omega)
            rw [HTS.out.2.2, HPN.out.2.2] at had
            have HAD := Lib.hid had
            clear had
            go_wp2_with fail
            refine HAD.out.mono ?_
            rintro e u9 ⟨qs, hqs, Aq, nq, cq, rfl, hsq, hc⟩
            have hnx : Num32 u9 90 (firstN N + 2 * (j + 1)) (.slice Aq nq cq) := ⟨_, _, _, _, rfl, hsq, hqs, by have := HKK.out; have := HNF.out.1; omega⟩
            have m2 := (num32At_sl hsq).trans hqs.2.2
            have HNX := Lib.hid hnx
            have HM2 := Lib.hid m2
            have hBx := hBy.out.trans (hc.mono hBy.out.size)
            clear hnx m2 hqs hsq hc HAD
            go_wp2
            go_roundw
            case rel => exact ⟨j + 1, HNF.out.1, HNX.out, HNF.out.2, hBx⟩
            case measure =>
              rw [HAT.out, HM2.out]
              have := HNF.out.1
              omega
    · have hf : firstN N = N + 1 := by unfold firstN; rw [if_neg (by omega)]; omega
      have HF := Lib.hid hf
      rw [decide_eq_false ho]
      have ho1 : Calls Tryd.prog 22 #[.int .u64 1] v2 (fun e w' => RetN b32 v2 1 e w') := rof_any 1 (by decide) v2
      have HO1 := Lib.hid ho1
      clear hf ho1 ho h2
      go_wp2_with fail
      refine HO1.out.mono ?_
      rintro e v3 ⟨os, hos, Ao, no, co, rfl, hso, hc⟩
      replace hs1 := hs1.later hc (Nat.le_refl _)
      replace hs2 := hs2.later hc (Nat.le_refl _)
      replace hst := hst.later hc (Nat.le_refl _)
      replace hB := hB.trans (hc.mono hB.size)
      have hno : no ≤ 1 := by rw [hso.len]; exact hos.length_le (by decide) (by decide)
      have had := radd_any v3 _ (Nat.le_refl _) _ _ _ _ hs1 _ _ _ _ hso HN.out.1 hos.1 (by omega) (by omega)
      rw [hos.2.2, HN.out.2.2, ← HF.out] at had
      have HAD := Lib.hid had
      clear had hos hso hc HO1
      go_wp2_with fail
      refine HAD.out.mono ?_
      rintro e v4 ⟨fs, hfs, Af, nf, cf, rfl, hsf, hc⟩
      replace hs2 := hs2.later hc (Nat.le_refl _)
      replace hst := hst.later hc (Nat.le_refl _)
      replace hB := hB.trans (hc.mono hB.size)
      have hst0 : Num32 v4 90 (firstN N + 2 * 0) (.slice Af nf cf) := ⟨_, _, _, _, rfl, hsf, hfs, by have := HKK.out; omega⟩
      have HST0 := Lib.hid hst0
      clear hst0 hsf hfs hc HAD
      go_wp2
      go_loopw [6] (fun x wr => ∃ j : Nat, j ≤ k ∧ Num32 wr 90 (firstN N + 2 * j) x ∧ (∀ i, i < j → ¬ FitN (firstN N + 2 * i) E) ∧ Below v4.heap.size v4 wr) (fun x wr => firstN N + 2 * k + 1 - num32At wr x)
      case atStart => exact ⟨0, Nat.zero_le _, HST0.out, fun i h => absurd h (Nat.not_lt_zero _), Below.refl _ _⟩
      case round =>
        obtain ⟨j, hj, hx, hmin, hBr⟩ := hrel
        obtain ⟨px, Ap, np, cp, rfl, hsp, hpn, hpl⟩ := hx.len
        have HMIN := Lib.hid hmin
        have HPN := Lib.hid hpn
        have hat := (num32At_sl hsp).trans hpn.2.2
        have HAT := Lib.hid hat
        have hs2r := hs2.later hBr (Nat.le_refl _)
        have hstr := hst.later hBr (Nat.le_refl _)
        have hBw := hB.trans (hBr.mono hB.size)
        have hpr := rprobable_any wr _ _ _ _ hsp _ hpn (by omega) rn_round.1 rn_round.2
        have HPR := Lib.hid hpr
        have hBy0 := hBr
        clear hmin hpn hpr hx hat hBr
        go_wp2_with fail
        refine HPR.out.mono ?_
        rintro e u1 ⟨⟨b, rfl, hb⟩, hc⟩
        replace hs2r := hs2r.later hc (Nat.le_refl _)
        replace hstr := hstr.later hc (Nat.le_refl _)
        replace hsp := hsp.later hc (Nat.le_refl _)
        replace hBw := hBw.trans (hc.mono hBw.size)
        replace hBy0 := hBy0.trans (hc.mono hBy0.size)
        have HBP := Lib.hid hb
        clear hb hc HPR
        have hnext : ¬ FitN (firstN N + 2 * j) E → j < k ∧ ∀ i, i < j + 1 → ¬ FitN (firstN N + 2 * i) E := fun hnf => by
          constructor
          · rcases Nat.lt_or_ge j k with h | h
            · exact h
            · obtain rfl : j = k := by omega
              exact absurd HK.out hnf
          · intro i hi
            rcases Nat.lt_or_ge i j with h | h
            · exact HMIN.out i h
            · obtain rfl : i = j := by omega
              exact hnf
        have HNEXT := Lib.hid hnext
        clear hnext
        rcases b with _ | _
        · have hnf := HNEXT.out (fun h => by have := HBP.out.2 ⟨h.1, h.2.2⟩; cases this)
          have HNF := Lib.hid hnf
          clear hnf
          have hBy := Lib.hid hBy0
          have had := radd_any u1 _ (Nat.le_refl _) _ _ _ _ hsp _ _ _ _ hstr HPN.out.1 HTS.out.1 (by omega) (by omega)
          rw [HTS.out.2.2, HPN.out.2.2] at had
          have HAD := Lib.hid had
          clear had
          go_wp2_with fail
          refine HAD.out.mono ?_
          rintro e u9 ⟨qs, hqs, Aq, nq, cq, rfl, hsq, hc⟩
          have hnx : Num32 u9 90 (firstN N + 2 * (j + 1)) (.slice Aq nq cq) := ⟨_, _, _, _, rfl, hsq, hqs, by have := HKK.out; have := HNF.out.1; omega⟩
          have m2 := (num32At_sl hsq).trans hqs.2.2
          have HNX := Lib.hid hnx
          have HM2 := Lib.hid m2
          have hBx := hBy.out.trans (hc.mono hBy.out.size)
          clear hnx m2 hqs hsq hc HAD
          go_wp2
          go_roundw
          case rel => exact ⟨j + 1, HNF.out.1, HNX.out, HNF.out.2, hBx⟩
          case measure =>
            rw [HAT.out, HM2.out]
            have := HNF.out.1
            omega
        · have ho1 : Calls Tryd.prog 22 #[.int .u64 1] u1 (fun e w' => RetN b32 u1 1 e w') := rof_any 1 (by decide) u1
          have HO1 := Lib.hid ho1
          clear ho1
          go_wp2_with fail
          refine HO1.out.mono ?_
          rintro e u2 ⟨os, hos, Ao, no, co, rfl, hso, hc⟩
          replace hs2r := hs2r.later hc (Nat.le_refl _)
          replace hstr := hstr.later hc (Nat.le_refl _)
          replace hsp := hsp.later hc (Nat.le_refl _)
          replace hBw := hBw.trans (hc.mono hBw.size)
          replace hBy0 := hBy0.trans (hc.mono hBy0.size)
          have hno : no ≤ 1 := by rw [hso.len]; exact hos.length_le (by decide) (by decide)
          have hnp0 : np ≠ 0 := by rw [hsp.len]; exact nm_pos HPN.out (by have := (rn_round (N := N) (j := j)).2; omega)
          have hsu := rsub_any u2 _ (Nat.le_refl _) _ _ _ _ hsp _ _ _ _ hso HPN.out.1 hos.1 (by omega) (by omega) (by rw [hos.2.2, HPN.out.2.2]; have := (rn_round (N := N) (j := j)).2; omega)
          rw [hos.2.2, HPN.out.2.2] at hsu
          have HSU := Lib.hid hsu
          clear hos hso hc hsu HO1
          go_wp2_with fail
          refine HSU.out.mono ?_
          rintro e u3 ⟨ls, hls, Al, nl, cl, rfl, hsl, hc⟩
          replace hs2r := hs2r.later hc (Nat.le_refl _)
          replace hstr := hstr.later hc (Nat.le_refl _)
          replace hsp := hsp.later hc (Nat.le_refl _)
          replace hBw := hBw.trans (hc.mono hBw.size)
          replace hBy0 := hBy0.trans (hc.mono hBy0.size)
          have hnl : nl ≤ 90 := by rw [hsl.len]; exact hls.length_le (by decide) (Nat.lt_of_le_of_lt (Nat.sub_le _ _) (by have := HKK.out; omega))
          have hgc := rgcd2_any u3 _ _ _ _ hsl _ _ _ _ hs2r _ E hls HE.out 90 (by decide) hnl hn2
          have HGC := Lib.hid hgc
          clear hls hsl hc hgc HSU
          go_wp2_with fail
          refine HGC.out.mono ?_
          rintro e u4 ⟨gs, hgs, Ag, ng, cg, rfl, hsg, hc⟩
          replace hs2r := hs2r.later hc (Nat.le_refl _)
          replace hstr := hstr.later hc (Nat.le_refl _)
          replace hsp := hsp.later hc (Nat.le_refl _)
          replace hBw := hBw.trans (hc.mono hBw.size)
          replace hBy0 := hBy0.trans (hc.mono hBy0.size)
          have ho1 : Calls Tryd.prog 22 #[.int .u64 1] u4 (fun e w' => RetN b32 u4 1 e w') := rof_any 1 (by decide) u4
          have HO1 := Lib.hid ho1
          have HGS := Lib.hid hgs
          clear ho1 hc hgs HGC
          go_wp2_with fail
          refine HO1.out.mono ?_
          rintro e u5 ⟨os, hos, Ao2, no2, co2, rfl, hso, hc⟩
          replace hs2r := hs2r.later hc (Nat.le_refl _)
          replace hstr := hstr.later hc (Nat.le_refl _)
          replace hsp := hsp.later hc (Nat.le_refl _)
          replace hsg := hsg.later hc (Nat.le_refl _)
          replace hBw := hBw.trans (hc.mono hBw.size)
          replace hBy0 := hBy0.trans (hc.mono hBy0.size)
          have hcm := rcmp_b u5 _ _ _ _ _ hsg _ _ _ _ _ hso _ 1 HGS.out hos
          obtain ⟨cx, hcx⟩ : ∃ cx, ncmp (Nat.gcd (firstN N + 2 * j - 1) E) 1 = cx := ⟨_, rfl⟩
          rw [hcx] at hcm
          have HCM := Lib.hid hcm
          have HCX := Lib.hid hcx
          clear hos hso hsg hc hcm hcx HO1
          go_wp2_with fail
          refine HCM.out.mono ?_
          rintro e u6 ⟨rfl, hc⟩
          replace hs2r := hs2r.later hc (Nat.le_refl _)
          replace hstr := hstr.later hc (Nat.le_refl _)
          replace hsp := hsp.later hc (Nat.le_refl _)
          replace hBw := hBw.trans (hc.mono hBw.size)
          replace hBy0 := hBy0.trans (hc.mono hBy0.size)
          clear hc HCM
          by_cases he : Nat.gcd (firstN N + 2 * j - 1) E = 1
          · have hc0 : cx = 0 := by rw [← HCX.out, he, ncmp_eq]
            subst hc0
            have hfit : FitN (firstN N + 2 * j) E := ⟨(HBP.out.1 (by first | rfl | trivial)).1, he, (HBP.out.1 (by first | rfl | trivial)).2⟩
            have HFIT := Lib.hid hfit
            clear hfit he
            go_wp2
            go_ret
            exact ⟨j, px, Ap, np, cp, hj, HFIT.out, HMIN.out, HPN.out, rfl, hsp, hBw⟩
          · have hc0 : ¬ cx = 0 := by
              intro h
              have h2 := ncmp_ne he
              rw [HCX.out, h] at h2
              cases h2
            have hc1 : (cx == 0) = false := by rw [beq_eq_false_iff_ne]; exact hc0
            have hnf := HNEXT.out (fun h => he h.2.1)
            have HNF := Lib.hid hnf
            clear hnf he
            have hBy := Lib.hid hBy0
            have had := radd_any u6 _ (Nat.le_refl _) _ _ _ _ hsp _ _ _ _ hstr HPN.out.1 HTS.out.1 (by omega) (by omega)
            rw [HTS.out.2.2, HPN.out.2.2] at had
            have HAD := Lib.hid had
            clear had
            go_wp2_with fail
            refine HAD.out.mono ?_
            rintro e u9 ⟨qs, hqs, Aq, nq, cq, rfl, hsq, hc⟩
            have hnx : Num32 u9 90 (firstN N + 2 * (j + 1)) (.slice Aq nq cq) := ⟨_, _, _, _, rfl, hsq, hqs, by have := HKK.out; have := HNF.out.1; omega⟩
            have m2 := (num32At_sl hsq).trans hqs.2.2
            have HNX := Lib.hid hnx
            have HM2 := Lib.hid m2
            have hBx := hBy.out.trans (hc.mono hBy.out.size)
            clear hnx m2 hqs hsq hc HAD
            go_wp2
            go_roundw
            case rel => exact ⟨j + 1, HNF.out.1, HNX.out, HNF.out.2, hBx⟩
            case measure =>
              rw [HAT.out, HM2.out]
              have := HNF.out.1
              omega
end Go.Proofs.YtdcijkjlgkfkdaaDoor

/- ModNext, walked. -/
namespace Go.Proofs.YtdcijkjlgkfkdaaDoor
open Go.RowKit Go.Shelf

set_option maxRecDepth 100000 in
set_option maxHeartbeats 4000000 in
theorem next_walk (w : World) (hG : FewG w) (A1 : Option Addr) (n1 c1 : Nat) (xs : List Nat) (hs1 : Sl w w.heap.size A1 n1 c1 xs) (hd1 : Dg b64 xs) (A2 : Option Addr) (n2 c2 : Nat) (ys : List Nat) (hs2 : Sl w w.heap.size A2 n2 c2 ys) (hd2 : Dg b64 ys) :
    Calls Tryd.prog 7 #[.slice A1 n1 c1, .slice A2 n2 c2] w fun e w' => RetV w (.bool true) e w' := by
  have hB : Below w.heap.size w w := Below.refl _ _
  have HG := Lib.hid hG
  clear hG
  have hda1 := hd1.take 2
  obtain ⟨q1, hq1⟩ : ∃ q, xs.take 2 = q := ⟨_, rfl⟩
  rw [hq1] at hda1
  have hl1 : q1.length ≤ 2 := by rw [← hq1, List.length_take]; exact Nat.min_le_left _ _
  obtain ⟨N, hN⟩ : ∃ N, V b64 q1 = N := ⟨_, rfl⟩
  have HQ1 := Lib.hid hq1
  have HD1 := Lib.hid hda1
  have HL1 := Lib.hid hl1
  have HN := Lib.hid hN
  clear hq1 hda1 hl1 hN hd1
  have hda2 := hd2.take 1
  obtain ⟨q2, hq2⟩ : ∃ q, ys.take 1 = q := ⟨_, rfl⟩
  rw [hq2] at hda2
  have hl2 : q2.length ≤ 1 := by rw [← hq2, List.length_take]; exact Nat.min_le_left _ _
  obtain ⟨E, hE⟩ : ∃ N, V b64 q2 = N := ⟨_, rfl⟩
  have HQ2 := Lib.hid hq2
  have HD2 := Lib.hid hda2
  have HL2 := Lib.hid hl2
  have HE := Lib.hid hE
  clear hq2 hda2 hl2 hE hd2
  go_enter Tryd.func7, Tryd.ntmps7
  go_wp2_with fail
  refine (begun2_any w HG.out).mono ?_
  rintro e v1 ⟨rfl, hc⟩
  replace hs1 := hs1.later hc (Nat.le_refl _)
  replace hs2 := hs2.later hc (Nat.le_refl _)
  replace hB := hB.trans (hc.mono hB.size)
  clear hc
  have hfw := few2_any v1 _ _ _ _ _ hs1 2 (by decide)
  rw [HQ1.out] at hfw
  have HFW := Lib.hid hfw
  clear hfw
  go_wp2_with fail
  refine (HFW.out).mono ?_
  rintro e v2 ⟨Ba1, m1, d1, rfl, hs1, hc⟩
  replace hs2 := hs2.later hc (Nat.le_refl _)
  replace hB := hB.trans (hc.mono hB.size)
  clear hc
  have hm1 : m1 ≤ 2 := by rw [hs1.len]; exact HL1.out
  clear HFW
  have hfw := few2_any v2 _ _ _ _ _ hs2 1 (by decide)
  rw [HQ2.out] at hfw
  have HFW := Lib.hid hfw
  clear hfw
  go_wp2_with fail
  refine (HFW.out).mono ?_
  rintro e v3 ⟨Ba2, m2, d2, rfl, hs2, hc⟩
  replace hs1 := hs1.later hc (Nat.le_refl _)
  replace hB := hB.trans (hc.mono hB.size)
  clear hc
  have hm2 : m2 ≤ 1 := by rw [hs2.len]; exact HL2.out
  clear HFW
  have hfr := from_any v3 _ (Nat.le_refl _) _ _ _ _ hs2 HD2.out (by omega)
  rw [HE.out] at hfr
  have HFR := Lib.hid hfr
  clear hfr
  go_wp2_with fail
  refine (HFR.out).mono ?_
  rintro e v4 ⟨z2, hz2, C2, k2, e2, rfl, hr2, hc⟩
  replace hs1 := hs1.later hc (Nat.le_refl _)
  replace hs2 := hs2.later hc (Nat.le_refl _)
  replace hB := hB.trans (hc.mono hB.size)
  clear hc
  have HZ2 := Lib.hid hz2
  have hk2 : k2 ≤ 2 := by
    rw [hr2.len]
    exact hz2.length_le (by decide) (Nat.lt_of_lt_of_le (by rw [← HE.out]; exact V_lt _ HD2.out) (by rw [← hs2.len, show b64 = b32 ^ 2 from rfl, ← Nat.pow_mul]; exact Nat.pow_le_pow_right (by decide) (by omega)))
  clear HFR hz2
  have hN2 : N < b64 ^ 2 := by rw [← HN.out]; exact Nat.lt_of_lt_of_le (V_lt _ HD1.out) (Nat.pow_le_pow_right b64_pos HL1.out)
  have hE2 : E ≤ 18446744073709551615 := by
    have h : E < b64 ^ 1 := by rw [← HE.out]; exact Nat.lt_of_lt_of_le (V_lt _ HD2.out) (Nat.pow_le_pow_right b64_pos HL2.out)
    rw [Nat.pow_one, show b64 = 18446744073709551616 from rfl] at h
    omega
  obtain ⟨k, hk, hkK⟩ : ∃ k, (E % 2 = 1 → FitN (firstN N + 2 * k) E) ∧ firstN N + 2 * k < b64 ^ 3 := by
    by_cases h : E % 2 = 1
    · obtain ⟨k, h1, h2⟩ := fit_from hN2 h hE2
      exact ⟨k, fun _ => h1, h2⟩
    · refine ⟨0, fun h' => absurd h' h, ?_⟩
      have h3 := (firstN_le N).1
      have h4 : b64 ^ 2 + 3 < b64 ^ 3 := by decide
      omega
  have hnl : ¬ Lg 2048 N := not_lg (by
    have h4 : b64 ^ 2 = 2 ^ 128 := by decide
    have h5 : 2 ^ 128 < 2 ^ 129 := by decide
    omega) (by decide)
  have hne := next_any v4 (HG.out.later hB) _ _ _ _ hs1 _ _ _ _ hs2 HD1.out HD2.out (by omega) (by omega) N E HN.out HE.out k hk 3 (by decide) hkK
  have HNE := Lib.hid hne
  have HK := Lib.hid hk
  have HKK := Lib.hid hkK
  have HNL := Lib.hid hnl
  clear hne hk hkK hnl hN2 hE2
  go_wp2_with fail
  refine HNE.out.mono ?_
  rintro e vn hr
  have hbi : ∀ (v : World) (B : Nat), Sl v B C2 k2 e2 z2 → Calls Tryd.prog 27 #[.slice C2 k2 e2, .int .i64 0] v fun e w' => e = .returned (.int .u64 ((E % 2 : Nat) : Int)) ∧ v = w' := fun v B h => by
    have h2 := rbit_any v B _ _ _ _ h HZ2.out.1 0 (by decide)
    rw [HZ2.out.2.2, if_neg (by decide), show (0 : Int).toNat = 0 from rfl, Nat.pow_zero, Nat.div_one] at h2
    exact h2
  have HBI := Lib.hid hbi
  have hb2 : E % 2 = 0 ∨ E % 2 = 1 := by omega
  clear hbi
  rcases hr with ⟨h, rfl, hc⟩ | ⟨h, j, ps, Ap, np, cp, hj, hf, hmin, hps, rfl, hsp, hc⟩
  · have hE0 : E % 2 = 0 := by
      rcases h with h | h
      · exact absurd h HNL.out
      · exact h
    have hbe := HBI.out vn _ (hr2.later hc (Nat.le_refl _))
    rw [hE0] at hbe
    have HBE := Lib.hid hbe
    replace hB := hB.trans (hc.mono hB.size)
    clear h hE0 hbe hc hb2
    go_wp2_with fail
    refine HBE.out.mono ?_
    rintro e vm ⟨rfl, rfl⟩
    go_wp2
    go_ret
    exact ⟨rfl, hB⟩
  · have hE1 : E % 2 = 1 := by
      rcases hb2 with h2 | h2
      · exact absurd (.inr h2) h
      · exact h2
    have hbe := HBI.out vn _ (hr2.later hc (Nat.le_refl _))
    rw [hE1] at hbe
    have HBE := Lib.hid hbe
    replace hB := hB.trans (hc.mono hB.size)
    replace hs1 := hs1.later hc (Nat.le_refl _)
    replace hr2 := hr2.later hc (Nat.le_refl _)
    have hfk := HK.out hE1
    have HFK := Lib.hid hfk
    have HF := Lib.hid hf
    have HMIN := Lib.hid hmin
    have HPS := Lib.hid hps
    clear h hE1 hbe hc hb2 hfk hf hmin hps
    go_wp2_with fail
    refine HBE.out.mono ?_
    rintro e vm ⟨rfl, rfl⟩
    have hfr := from_any vn _ (Nat.le_refl _) _ _ _ _ hs1 HD1.out (by omega)
    rw [HN.out] at hfr
    have HFR := Lib.hid hfr
    clear hfr
    go_wp2_with fail
    refine HFR.out.mono ?_
    rintro e vo ⟨z1, hz1, C1, k1, e1, rfl, hr1, hc⟩
    replace hsp := hsp.later hc (Nat.le_refl _)
    replace hr2 := hr2.later hc (Nat.le_refl _)
    replace hB := hB.trans (hc.mono hB.size)
    have hk1 : k1 ≤ 4 := by
      rw [hr1.len]
      exact hz1.length_le (by decide) (Nat.lt_of_lt_of_le (by rw [← HN.out]; exact V_lt _ HD1.out) (by rw [← hs1.len, show b64 = b32 ^ 2 from rfl, ← Nat.pow_mul]; exact Nat.pow_le_pow_right (by decide) (by omega)))
    have hnr := rnext_any vo _ _ _ _ hr1 _ _ _ _ hr2 N E hz1 HZ2.out (by omega) (by omega) k HFK.out (Nat.lt_of_lt_of_le HKK.out (by rw [show b64 = b32 ^ 2 from rfl, ← Nat.pow_mul]; exact Nat.pow_le_pow_right (by decide) (by decide)))
    have HNR := Lib.hid hnr
    clear hc hz1 hnr
    go_wp2_with fail
    refine HNR.out.mono ?_
    rintro e vp ⟨j2, qs, Aq, nq, cq, hj2, hf2, hmin2, hqs, rfl, hsq, hc⟩
    obtain rfl : j = j2 := by
      rcases Nat.lt_trichotomy j j2 with h | h | h
      · exact absurd HF.out (hmin2 j h)
      · exact h
      · exact absurd hf2 (HMIN.out j2 h)
    replace hsp := hsp.later hc (Nat.le_refl _)
    replace hB := hB.trans (hc.mono hB.size)
    have hnq : nq ≤ 90 := by
      rw [hsq.len]
      refine Nat.le_trans (hqs.length_le (k := 6) (by decide) ?_) (by decide)
      have h1 := HKK.out
      have h2 : b64 ^ 3 = b32 ^ 6 := by decide
      omega
    have hi := is_any vp _ (Nat.le_refl _) _ _ _ _ hsp _ _ _ _ hsq _ HPS.out hqs (by omega)
    have HI := Lib.hid hi
    clear hf2 hmin2 hqs hc hi
    go_wp2_with fail
    refine HI.out.mono ?_
    rintro e vz ⟨rfl, hc⟩
    go_wp2
    go_ret
    exact ⟨rfl, hB.trans (hc.mono hB.size)⟩
end Go.Proofs.YtdcijkjlgkfkdaaDoor

/- The Mod laws' walks together. -/
