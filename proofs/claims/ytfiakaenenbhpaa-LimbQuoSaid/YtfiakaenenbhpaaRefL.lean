/- The reference's Quo, a long divisor. -/
import Derived.Test.YtfiakaenenbhpaaQuoW
import Derived.Test.YtfiakaenenbhpaaWSums
namespace Go.Proofs.Ytfiakaenenbhpaa
open Go.RowKit

theorem quo_end {N M s Q r : Nat} (hs : 0 < s) (hM : 0 < M) (h : r + Q * (s * M) = s * N) (hr : r < s * M) : Q = N / M ∧ r = s * (N % M) := by
  have hv : 0 < s * M := Nat.mul_pos hs hM
  have h1 : s * N / (s * M) = Q := by rw [← h, Nat.add_mul_div_right _ _ hv, Nat.div_eq_of_lt hr, Nat.zero_add]
  have h2 : s * N % (s * M) = r := by rw [← h, Nat.add_mul_mod_self_right, Nat.mod_eq_of_lt hr]
  rw [Nat.mul_div_mul_left _ _ hs] at h1
  rw [Nat.mul_mod_mul_left] at h2
  exact ⟨h1.symm, h2.symm⟩
/-- the scale keeps the length -/
theorem scale_len {ys : List Nat} {M p top s : Nat} (hM : Nm b32 ys M) (hl : ys.length = p + 1) (ht : ys[p]? = some top) (hs : s = 4294967296 / (top + 1)) :
    0 < s ∧ s < 4294967296 ∧ b32 ^ p ≤ M ∧ ∀ vt, Nm b32 vt (s * M) → vt.length = p + 1 := by
  have htl := lt32.1 (hM.1.get ht)
  have ht0 : top ≠ 0 := by
    refine hM.2.1 top ?_
    rw [List.getLast?_eq_getElem?, hl]
    simpa using ht
  have hs0 : 0 < s := by rw [hs]; exact Nat.div_pos (by omega) (by omega)
  have hs1 : s * (top + 1) ≤ 4294967296 := by rw [hs]; exact Nat.div_mul_le_self _ _
  have hs2 : s < 4294967296 := by
    have : s * 2 ≤ s * (top + 1) := Nat.mul_le_mul_left _ (by omega)
    omega
  have e : M = V b32 (ys.take p) + b32 ^ p * top := by
    rw [← hM.2.2, ← V_take_succ ht, List.take_of_length_le (by omega)]
  have hlo := V_lt (ys.take p) (hM.1.take p)
  rw [List.length_take, Nat.min_eq_left (by omega)] at hlo
  have hge : b32 ^ p ≤ M := by
    have := Nat.mul_le_mul_left (b32 ^ p) (show 1 ≤ top by omega)
    omega
  have hlt : M < b32 ^ p * (top + 1) := by rw [Nat.mul_succ]; omega
  refine ⟨hs0, hs2, hge, fun vt hv => ?_⟩
  have h1 : s * M < b32 ^ (p + 1) := by
    have h2 := Nat.mul_lt_mul_of_pos_left hlt hs0
    have h3 : s * (b32 ^ p * (top + 1)) = b32 ^ p * (s * (top + 1)) := Nat.mul_left_comm _ _ _
    have h4 := Nat.mul_le_mul_left (b32 ^ p) hs1
    rw [Nat.pow_succ, show b32 = 4294967296 from rfl] at *
    omega
  have h5 := hv.length_le (by decide) h1
  have h6 : ¬ vt.length ≤ p := by
    intro h
    have h7 := V_lt vt hv.1
    rw [hv.2.2] at h7
    have h8 : b32 ^ vt.length ≤ b32 ^ p := Nat.pow_le_pow_right b32_pos h
    have h9 : M ≤ s * M := Nat.le_mul_of_pos_left _ hs0
    omega
  omega

set_option maxRecDepth 100000 in
set_option maxHeartbeats 2000000 in
theorem rquo_long (w : World) (A1 : Option Addr) (n c1 : Nat) (xs : List Nat) (hs1 : Sl w w.heap.size A1 n c1 xs) (A2 : Option Addr) (m c2 : Nat) (ys : List Nat) (hs2 : Sl w w.heap.size A2 m c2 ys) (N M : Nat) (hN : Nm b32 xs N) (hM : Nm b32 ys M)
    (hn : n ≤ 100000000) (hm : m ≤ 100000000) (hNM : M ≤ N) (p : Nat) (hmp : m = p + 1) (hp : 1 ≤ p) :
    Calls Try.prog 24 #[.slice A1 n c1, .slice A2 m c2] w fun e w' => ∃ A3 n3 c3 q A4 n4 c4 r, e = .returned (.tuple #[.slice A3 n3 c3, .slice A4 n4 c4]) ∧ Sl w' w'.heap.size A3 n3 c3 q ∧ Nm b32 q (N / M) ∧ Sl w' w'.heap.size A4 n4 c4 r ∧ Nm b32 r (N % M) ∧ Below w.heap.size w w' := by
  have hlc1 := hs1.cap
  have hmx1 := hs1.max
  have hlc2 := hs2.cap
  have hmx2 := hs2.max
  have hB : Below w.heap.size w w := Below.refl _ _
  obtain ⟨top, htop⟩ : ∃ top, ys[p]? = some top := get_lt (by rw [← hs2.len]; omega)
  have htl := lt32.1 (hM.1.get htop)
  obtain ⟨s, hs⟩ : ∃ s, s = 4294967296 / (top + 1) := ⟨_, rfl⟩
  obtain ⟨hs0, hs32, hpM, hscale⟩ := scale_len hM (by rw [← hs2.len]; exact hmp) htop hs
  have HSC := Lib.hid hscale
  have HPM := Lib.hid hpM
  have HMP := Lib.hid hmp
  obtain ⟨cv, hcv⟩ : ∃ cv, ncmp N M = cv := ⟨_, rfl⟩
  have hcv0 : ¬ cv < 0 := by
    rcases Nat.lt_or_ge M N with h | h
    · rw [ncmp_gt h] at hcv; omega
    · rw [Nat.le_antisymm h hNM, ncmp_eq] at hcv; omega
  have hcmp := rcmp_ret w _ _ _ _ _ hs1 _ _ _ _ _ hs2 _ _ hN hM
  rw [hcv] at hcmp
  have HCMP := Lib.hid hcmp
  have hm1 : ((m : Int) == 1) = false := by simp; omega
  have hmi : (m : Int) - 1 = (p : Int) := by omega
  have hpm : (p : Int) < m := by omega
  obtain ⟨b2, o2, t2, rfl, hb2, ht2, hc2⟩ := hs2.at_ (k := p) (by omega)
  obtain rfl : t2 = top := by rw [htop] at ht2; exact (Option.some.inj ht2).symm
  obtain ⟨t1, ht1⟩ : ∃ t1, t2 + 1 = t1 := ⟨_, rfl⟩
  have hti1 : (t2 : Int) + 1 = (t1 : Int) := by omega
  have hti2 : (t1 : Int) ≤ 4294967296 := by omega
  have hti3 : (0 : Int) < t1 := by omega
  have hs9 : 4294967296 / t1 = s := by rw [hs, ← ht1]
  have HS9 := Lib.hid hs9
  have ht0 : 0 < t1 := by omega



  have hvt0 : t2 ≠ 0 := by
    refine hM.2.1 t2 ?_
    rw [List.getLast?_eq_getElem?, ← hs2.len, hmp]
    simpa using htop
  have HT2 := Lib.hid ht1
  have HTL := Lib.hid htl
  clear hcmp hcv hs htop ht2 hscale hpM hmp ht1 htl hs9
  go_enter Try.func24, Try.ntmps24
  go_wp2_with fail
  refine HCMP.out.mono ?_
  rintro e w1 ⟨rfl, hc⟩
  replace hs1 := hs1.later hc (Nat.le_refl _)
  replace hs2 := hs2.later hc (Nat.le_refl _)
  replace hc2 := (hc.cell (p := ⟨b2, o2 + p, none⟩) hb2).trans hc2
  replace hB := hB.trans (hc.mono hB.size)
  clear hc
  go_wp2_with (with_reducible show wpList _ _ _ _ _ _; refine wl_quo (o := ⟨some 45, _, _, _, _, _⟩) rfl _ _ rfl 4294967296 t1 rfl rfl (by decide) ht0 ?_; rw [HS9.out])
  refine (times_any w1 _ (Nat.le_refl _) _ _ _ _ hs1 hN.1 (by omega) s hs32).mono ?_
  rintro e w2 ⟨gu, us, rfl, hgu, hru, hul, hdu, hvu, hc⟩
  have hw1 := hB.size
  replace hs2 := hs2.later hc (Nat.le_refl _)
  replace hB := hB.trans (hc.mono hB.size)
  have hw0 : w.heap.size ≤ gu := Nat.le_trans hw1 hgu
  clear hw1
  clear hc
  go_wp2_with fail
  refine (times_any w2 _ (Nat.le_refl _) _ _ _ _ hs2 hM.1 (by omega) s hs32).mono ?_
  rintro e w3 ⟨gv, vs, rfl, hgv, hrv, hvl, hdv, hvv, hc⟩
  have hgu2 := hru.lt
  replace hru := hru.below hc hgu2
  replace hB := hB.trans (hc.mono hB.size)
  have huv : gu < gv := by omega
  clear hc hgu2
  have hslv := hrv.sl (by rw [hvl]; omega)
  rw [hvl] at hslv
  go_wp2_with fail
  refine (rtrim_sl _ _ _ _ _ vs hslv).mono ?_
  rintro e w9 ⟨mm, rfl, hst, hmm, rfl⟩
  have hnmv := trimmed_nm hdv
  rw [hvv, hM.2.2] at hnmv
  have hmm2 : mm = m := by rw [hst.len, HSC.out _ hnmv, HMP.out]
  subst hmm2
  have hvtake : V b32 (vs.take mm) = s * M := by
    have e : vs.take mm = trimmed vs := by
      have h1 := hst.len
      rw [trimmed_length] at h1
      rw [h1]; rfl
    rw [e]; exact hnmv.2.2
  have hvu2 : V b32 us = s * N := by rw [hvu, hN.2.2]
  have hnm : mm ≤ n + 1 := by
    apply Classical.byContradiction
    intro h
    have h1 := V_lt xs hN.1
    rw [hN.2.2, ← hs1.len] at h1
    have h2 : b32 ^ n ≤ b32 ^ p := Nat.pow_le_pow_right b32_pos (by omega)
    have := HPM.out
    omega
  obtain ⟨nq, hnq⟩ : ∃ nq, n + 1 = mm + nq := ⟨n + 1 - mm, by omega⟩
  have hU : s * N < s * M * b32 ^ nq := by
    have h1 := V_lt xs hN.1
    rw [hN.2.2, ← hs1.len] at h1
    have h2 : n = p + nq := by have := HMP.out; omega
    have h3 := Nat.mul_le_mul_right (b32 ^ nq) HPM.out
    rw [← Nat.pow_add, ← h2] at h3
    rw [Nat.mul_assoc]
    exact Nat.mul_lt_mul_of_pos_left (Nat.lt_of_lt_of_le h1 h3) hs0
  have hnqi : ((n + 1 : Nat) : Int) - mm = (nq : Int) := by omega
  have hnqi2 : (n : Int) + 1 - mm = (nq : Int) := by omega
  have HVT := Lib.hid hvtake
  have HVU := Lib.hid hvu2
  have HU := Lib.hid hU
  have HNQ := Lib.hid hnq
  have HUL := Lib.hid hul
  have HVL := Lib.hid hvl
  have HNMV := Lib.hid hnmv
  clear hvtake hvu2 hU hnq hul hvl hnmv hvu hvv hst hslv
  go_wp2_with (first | (at_make; refine wl_make rfl _ _ Try.underlying26 rfl _ nq rfl (by omega) (by omega) ?_; intro w4 hRq hB4 hz4; obtain ⟨gq, hgq⟩ : ∃ gq, gq = w3.heap.size := ⟨_, rfl⟩; rw [← hgq] at hRq ⊢; have HGQ := Lib.hid hgq; have HZ4 := Lib.hid hz4; clear hgq hz4) | (at_make; refine wl_make rfl _ _ Try.underlying26 rfl _ (mm + 1) rfl (by omega) (by omega) ?_; intro w5 hRw hB5 hz5; obtain ⟨gw, hgw⟩ : ∃ gw, gw = w4.heap.size := ⟨_, rfl⟩; rw [← hgw] at hRw ⊢; have HGW := Lib.hid hgw; have HZ5 := Lib.hid hz5; clear hgw hz5))
  have hgq := HGQ.out
  have hgw := HGW.out
  have hz4 := HZ4.out
  have hz5 := HZ5.out
  have hgv3 := hrv.lt
  have hgq4 := hRq.lt
  have hgw5 := hRw.lt
  replace hru := (hru.below hB4 (by omega)).below hB5 (by omega)
  replace hrv := (hrv.below hB4 (by omega)).below hB5 (by omega)
  replace hRq := hRq.below hB5 (by omega)
  have hwq : w.heap.size ≤ gq := by omega
  have hB9 : Below w.heap.size w w5 := hB.trans ((hB4.mono (by omega)).trans (hB5.mono (by omega)))
  have hvq : gv < gq := by omega
  have hqw : gq < gw := by omega
  have hww : w.heap.size ≤ gw := by omega
  clear hgq hgw hgv3 hgq4 hgw5 hB4 hB5 hz4 hz5 hB hgu hgv
  have hMpos : 0 < M := Nat.lt_of_lt_of_le (Nat.pow_pos b32_pos) HPM.out
  have hvpos : 0 < s * M := Nat.mul_pos hs0 hMpos
  have HVP := Lib.hid hvpos
  have HMP0 := Lib.hid hMpos
  clear hvpos hMpos
  obtain ⟨vt, hvt⟩ : ∃ vt, vs[p]? = some vt := get_lt (by rw [HVL.out]; omega)
  have hvt1 : 0 < vt := by
    have hnm9 := HNMV.out
    have h1 : (trimmed vs)[p]? = some vt := by
      have h3 := HSC.out _ hnm9
      obtain ⟨z, hz⟩ := get_lt (zs := trimmed vs) (k := p) (by omega)
      have := trimmed_get hz
      rw [hvt] at this
      rw [hz, ← Option.some.inj this]
    have h2 := hnm9.2.1 vt (by rw [List.getLast?_eq_getElem?, HSC.out _ hnm9]; simpa using h1)
    omega
  have hvtl := lt32.1 (hdv.get hvt)
  have HVTT := Lib.hid hvt
  clear hvt
  have hnui : ((n + 1 : Nat) : Int) = (n : Int) + 1 := by omega
  go_loopw [14] (fun kv wr => ∃ (t : Nat) (ux qs ws : List Nat), t ≤ nq ∧ kv = .int .i64 ((t : Int) - 1) ∧ Row wr gu ux ∧ Row wr gv vs ∧ Row wr gq qs ∧ Row wr gw ws ∧ ux.length = n + 1 ∧ qs.length = nq ∧ ws.length = mm + 1 ∧ Dg b32 ux ∧ Dg b32 qs ∧ Dg b32 ws ∧ Below w.heap.size w wr ∧
    V b32 ux + V b32 (qs.drop t) * b32 ^ t * (s * M) = s * N ∧ V b32 ux < s * M * b32 ^ t) (fun kv _ => (intOf kv + 1).toNat)
  case atStart => exact ⟨nq, us, _, _, Nat.le_refl _, rfl, hru, hrv, hRq, hRw, HUL.out, by simp, by simp, hdu, dg_zeros b32_pos _, dg_zeros b32_pos _, hB9, by rw [List.drop_of_length_le (by simp), HVU.out]; simp [V], by rw [HVU.out]; exact HU.out⟩
  case round =>
    obtain ⟨t, ux, qs, ws, ht, rfl, hru, hrv, hrq, hrw, hul, hql, hwl, hdu, hdq, hdw, hbel, hv1, hv2⟩ := hrel
    have HUL' := Lib.hid hul
    have HQL := Lib.hid hql
    have HWL := Lib.hid hwl
    have HV1 := Lib.hid hv1
    have HV2 := Lib.hid hv2
    clear hul hql hwl hv1 hv2
    by_cases h0 : t = 0
    · subst h0
      have hv1 := HV1.out
      have hv2 := HV2.out
      rw [List.drop_zero, Nat.pow_zero, Nat.mul_one] at hv1
      rw [Nat.pow_zero, Nat.mul_one] at hv2
      obtain ⟨e1, e2⟩ := quo_end hs0 HMP0.out hv1 hv2
      have hslu := hru.sl (by rw [HUL'.out]; omega)
      rw [HUL'.out] at hslu
      have hnt := trimmed_nm hdu
      rw [e2] at hnt
      have hslq := hrq.sl (by rw [HQL.out]; omega)
      rw [HQL.out] at hslq
      have hnt2 := trimmed_nm hdq
      rw [e1] at hnt2
      have HNT := Lib.hid hnt
      have HNT2 := Lib.hid hnt2
      have hdiv : s * (N % M) / s = N % M := Nat.mul_div_cancel_left _ hs0
      have HDIV := Lib.hid hdiv
      clear hv1 hv2 e1 e2 hnt hnt2 hdiv HV1 HV2
      go_wp2_with fail
      refine (rtrim_sl _ _ _ _ _ ux hslu).mono ?_
      rintro e w9 ⟨m1, rfl, hst, hm1, rfl⟩
      go_wp2_with fail
      refine (small_any _ _ (Nat.le_refl _) _ _ _ _ hst HNT.out.1 (by omega) s hs0 hs32).mono ?_
      rintro e w9 ⟨A4, n4, c4, q4, rfl, hq4, hsl4, hc⟩
      rw [HNT.out.2.2, HDIV.out] at hq4
      have hslq2 := hslq.later hc (Nat.le_refl _)
      have hB' := hbel.trans (hc.mono hbel.size)
      clear hslq hc
      go_wp2_with fail
      refine (rtrim_sl _ _ _ _ _ qs hslq2).mono ?_
      rintro e w10 ⟨m5, rfl, hst5, hm5, rfl⟩
      go_wp2_with fail
      go_ret2
      exact ⟨_, _, _, _, _, _, _, _, rfl, hst5, HNT2.out, hsl4, hq4, hB'⟩
    · obtain ⟨k, rfl⟩ : ∃ k, t = k + 1 := ⟨t - 1, by omega⟩
      have hp1 := HMP.out
      have hnq := HNQ.out
      have hul := HUL'.out
      have hkm : k + mm + 1 ≤ n + 1 := by omega
      obtain ⟨d2, hd2⟩ := get_lt (zs := ux) (k := k + mm) (by omega)
      obtain ⟨d1, hd1⟩ := get_lt (zs := ux) (k := k + p) (by omega)
      have hc2 := hru.at_ hd2
      have hc1 := hru.at_ hd1
      have hcv := hrv.at_ HVTT.out
      have hd2l := lt32.1 (hdu.get hd2)
      have hd1l := lt32.1 (hdu.get hd1)
      have hvle : s * M * b32 ≤ b32 ^ (mm + 1) := by
        have h1 := V_lt _ HNMV.out.1
        rw [HNMV.out.2.2, HSC.out _ HNMV.out, ← HMP.out] at h1
        rw [Nat.pow_succ]
        exact Nat.mul_le_mul_right _ (Nat.le_of_lt h1)
      have hwin := quo_win (n1 := mm + 1) (by omega) HV2.out hvle
      have hguess := quo_guess (k := k) (p := p) hdu hd1 (by rw [Nat.add_assoc, ← hp1]; exact hd2) HVTT.out hvt1
      rw [show p + 2 = mm + 1 by omega, ← hp1, HVT.out] at hguess
      obtain ⟨W, hW⟩ : ∃ W, V b32 ((ux.drop k).take (mm + 1)) = W := ⟨_, rfl⟩
      rw [hW] at hwin hguess
      have hqd : W / (s * M) < 4294967296 := Nat.div_lt_of_lt_mul hwin.2
      obtain ⟨T, hT⟩ : ∃ T, d2 * 4294967296 + d1 = T := ⟨_, rfl⟩
      have hTi : (d2 : Int) * 4294967296 + d1 = (T : Int) := by omega
      have hT64 : (T : Int) ≤ 18446744073709551615 := by omega
      rw [show d2 * b32 + d1 = T from hT] at hguess
      obtain ⟨g0, hg0⟩ : ∃ g0, T / vt = g0 := ⟨_, rfl⟩
      have hg0i2 : (T : Int) / vt = (g0 : Int) := by rw [← Int.natCast_ediv, hg0]
      have hg0b : (g0 : Int) ≤ 18446744073709551615 := by have := Nat.div_le_self T vt; omega
      rw [hg0] at hguess
      have hvti : (0 : Int) < vt := by omega
      have hki : ((k + 1 : Nat) : Int) - 1 = (k : Int) := by omega
      have hkmi : (k : Int) + mm < n + 1 := by omega
      have hkpi : (k : Int) + mm - 1 = ((k + p : Nat) : Int) := by omega
      have hkp2 : (k : Int) + p < n + 1 := by omega
      obtain ⟨g1, hg1, hg1l, hg1q⟩ : ∃ g1, ((4294967296 ≤ g0 ∧ g1 = 4294967295) ∨ (g0 < 4294967296 ∧ g1 = g0)) ∧ g1 < 4294967296 ∧ W / (s * M) ≤ g1 := by
        by_cases h : 4294967296 ≤ g0
        · exact ⟨4294967295, .inl ⟨h, rfl⟩, by omega, by omega⟩
        · exact ⟨g0, .inr ⟨by omega, rfl⟩, by omega, hguess⟩
      have HW := Lib.hid hW
      have HWIN := Lib.hid hwin
      have HG1 := Lib.hid hg1
      have HG1Q := Lib.hid hg1q
      have hd2i : (d2 : Int) ≤ 4294967295 := by omega
      have hd1i : (d1 : Int) ≤ 4294967295 := by omega
      have hg1i : (g1 : Int) ≤ 4294967295 := by omega
      have HVTL := Lib.hid hvtl
      have HG1L := Lib.hid hg1l
      have HS32 := Lib.hid hs32
      clear hW hwin hg1 hg1q hguess hqd hg0 hT hd1 hd2 hvle hp1 hnq hul hd2l hd1l hvtl hg1l hs32
      go_wp2
      go_quiet (fail)
      have hsplit : (4294967296 ≤ (g0 : Int) ∧ g1 = 4294967295) ∨ (¬ 4294967296 ≤ (g0 : Int) ∧ g0 = g1) := by
        rcases HG1.out with ⟨h1, h2⟩ | ⟨h1, h2⟩
        · exact .inl ⟨by omega, h2⟩
        · exact .inr ⟨by omega, h2.symm⟩
      have HSP := Lib.hid hsplit
      clear hsplit
      rcases HSP.out with ⟨hge, hgg⟩ | ⟨hge, hgg⟩
      all_goals
        have HGG := Lib.hid hgg
        clear hgg
        go_wp2_with fail
        go_loopw [15] (fun gvv wz => ∃ (g : Nat) (wx : List Nat), gvv = .int .u64 (g : Nat) ∧ g ≤ 4294967295 ∧ W / (s * M) ≤ g ∧ Row wz gu ux ∧ Row wz gv vs ∧ Row wz gq qs ∧ Row wz gw wx ∧ wx.length = mm + 1 ∧ Dg b32 wx ∧ Below w.heap.size w wz) (fun gvv _ => (intOf gvv).toNat)
        case atStart =>
          refine ⟨g1, ws, ?_, by omega, HG1Q.out, hru, hrv, hrq, hrw, HWL.out, hdw, below_drewN hbel _⟩
          have := HGG.out
          subst this
          rfl
        case round =>
          obtain ⟨g, wx, rfl, hgl, hgq, hru', hrv', hrq', hrw', hwl', hdw', hbel'⟩ := hrel
          have HGL := Lib.hid hgl
          have HGQ' := Lib.hid hgq
          have hgi : (g : Int) ≤ 4294967295 := by omega
          clear hgl hgq
          go_wp2_with fail
          refine (less_any wr gu gv gw ux vs wx hru' hrv' hrw' hdu hdv hdw' (by omega) (by omega) (by omega) (n + 1) mm mm k g HUL'.out (by rw [HVL.out]; omega) hwl' (by omega) (by omega) (Nat.le_refl _) (by have := HGL.out; omega)).mono ?_
          rintro e w9 ⟨wm, hom, hszm, zs, hRz, hzl, hdz, hend⟩
          have hrum := hom.row hru' (by omega)
          have hrvm := hom.row hrv' (by omega)
          have hrqm := hom.row hrq' (by omega)
          have hsz := hbel'.size
          have hbm := hbel'.trans (hom.below hww hsz)
          rcases hend with ⟨rfl, hlt, rfl⟩ | ⟨rfl, heq, hou, hRu, hsz2⟩
          · rw [HW.out, HVT.out] at hlt
            have hgpos : W / (s * M) + 1 ≤ g := Nat.div_lt_of_lt_mul (by rw [Nat.mul_comm]; exact hlt)
            have hg0' : 0 < g := Nat.lt_of_lt_of_le (Nat.succ_pos _) hgpos
            obtain ⟨gp, rfl⟩ : ∃ gp, g = gp + 1 := ⟨g - 1, by omega⟩
            have hgp9 : W / (s * M) ≤ gp := Nat.le_of_lt_succ hgpos
            clear hg0'
            have HGP9 := Lib.hid hgp9
            clear hlt hgpos hgp9
            go_wp2
            go_roundw
            case rel => exact ⟨gp, zs, by go_num, by have := HGL.out; omega, HGP9.out, hrum, hrvm, hrqm, hRz, hzl, hdz, hbm⟩
            case measure => simp [intOf]
          · rw [HW.out, HVT.out] at heq
            have hrv9 := hou.row hrvm (by omega)
            have hrq9 := hou.row hrqm (by omega)
            have hRw9 := hou.row hRz (by omega)
            have hb9 := hbm.trans (hou.below hw0 (by have := hbm.size; exact this))
            have hfq := hrq9.frozen
            obtain ⟨q0, hq0⟩ := get_lt (zs := qs) (k := k) (by rw [HQL.out]; omega)
            have hcq := hrq9.at_ hq0
            have hzv := quo_digit heq HGQ'.out HVP.out
            have hsp := splice_V (us := ux) (zs := zs) (k := k) (n1 := mm + 1) (gv := g * (s * M)) hzl (by rw [HUL'.out]; have := HNQ.out; omega) (by rw [HW.out]; exact heq)
            have hstep := quo_step (B := b32) (n1 := mm + 1) (by rw [HUL'.out]; have := HNQ.out; omega) (by rw [HQL.out]; omega) hdu (by rw [HW.out]; exact HWIN.out.1) (by rw [HW.out]; exact heq) hzv hsp HV1.out
            have HSTEP := Lib.hid hstep
            have hdsp : Dg b32 (splice ux k zs) := (hdu.take _).append (hdz.append (hdu.drop _))
            have hlsp : (splice ux k zs).length = n + 1 := by
              unfold splice
              rw [List.length_append, List.length_append, List.length_take, List.length_drop, HUL'.out, hzl]
              have := HNQ.out
              omega
            have HLSP := Lib.hid hlsp
            have hgl9 := HGL.out
            clear heq hzv hsp hstep hlsp hq0
            go_wp2
            go_roundw
            case rel => exact ⟨k, splice ux k zs, qs.set k g, zs, by omega, by go_num, hRu.far (by show gu ≠ gq; omega) _, hrv9.far (by show gv ≠ gq; omega) _, hrq9.set _ _, hRw9.far (by show gw ≠ gq; omega) _, HLSP.out, by simp [HQL.out], hzl, hdsp, hdq.set _ (lt32.2 (by omega)), hdz, hb9.setCell (p := ⟨gq, k, none⟩) hwq _, HSTEP.out.1, HSTEP.out.2⟩
            case measure => simp [intOf]
end Go.Proofs.Ytfiakaenenbhpaa
