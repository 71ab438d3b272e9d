/- LimbQuo, walked. -/
import Derived.Test.YtfiakaenenbhpaaOpen
import Derived.Test.YtfiakaenenbhpaaWSums
import Derived.Test.YtfiakaenenbhpaaRefF
import Derived.Test.YtfiakaenenbhpaaQuoJ
import Derived.Test.YtfiakaenenbhpaaQuoH
namespace Go.Proofs.Ytfiakaenenbhpaa
open Go.RowKit

theorem longQ : LongQ := fun w A1 m c1 xs hs1 A2 n c2 ys hs2 N M hN hM hm hNM p p1 hnp hp1 => longQuo_any w A1 m c1 xs hs1 A2 n c2 ys hs2 N M hN hM hm hNM p p1 hnp hp1

set_option maxRecDepth 100000 in
set_option maxHeartbeats 2000000 in
theorem quo_walk (hL : LongQ) (w : World) (A1 : Option Addr) (n1 c1 : Nat) (xs : List Nat) (hs1 : Sl w w.heap.size A1 n1 c1 xs) (hd1 : Dg b64 xs) (A2 : Option Addr) (n2 c2 : Nat) (ys : List Nat) (hs2 : Sl w w.heap.size A2 n2 c2 ys) (hd2 : Dg b64 ys) :
    Calls Try.prog 4 #[.slice A1 n1 c1, .slice A2 n2 c2] w fun e w' => RetV w (.bool true) e w' := by
  have hda := hd1.take 20
  have hdb := hd2.take 20
  have hVa := V20 hd1
  have hVb := V20 hd2
  have hB : Below w.heap.size w w := Below.refl _ _
  obtain ⟨qa, has⟩ : ∃ qa, xs.take 20 = qa := ⟨_, rfl⟩
  obtain ⟨qb, hbs⟩ : ∃ qa, ys.take 20 = qa := ⟨_, rfl⟩
  rw [has] at hda hVa
  rw [hbs] at hdb hVb
  obtain ⟨N, hN⟩ : ∃ N, V b64 qa = N := ⟨_, rfl⟩
  obtain ⟨M, hM⟩ : ∃ M, V b64 qb = M := ⟨_, rfl⟩
  rw [hN] at hVa
  rw [hM] at hVb
  have hla : qa.length ≤ 20 := by rw [← has, List.length_take]; exact Nat.min_le_left _ _
  have hlb : qb.length ≤ 20 := by rw [← hbs, List.length_take]; exact Nat.min_le_left _ _
  have HA := Lib.hid has
  have HBS := Lib.hid hbs
  have HN := Lib.hid hN
  have HM := Lib.hid hM
  have HDA := Lib.hid hda
  have HDB := Lib.hid hdb
  have HVA := Lib.hid hVa
  have HVB := Lib.hid hVb
  have HLA := Lib.hid hla
  have HLB := Lib.hid hlb
  clear has hbs hN hM hda hdb hVa hVb hla hlb hd1 hd2
  go_enter Try.func4, Try.ntmps4
  go_wp2_with fail
  refine (begun_any w).mono ?_
  rintro e w1 ⟨rfl, hc⟩
  replace hs1 := hs1.later hc (Nat.le_refl _)
  replace hs2 := hs2.later hc (Nat.le_refl _)
  replace hB := hB.trans (hc.mono hB.size)
  clear hc
  go_wp2_with fail
  refine (few_any w1 _ _ _ _ xs hs1).mono ?_
  rw [HA.out]
  rintro e w2 ⟨Aa, na, ca, rfl, ha, hc⟩
  replace hs2 := hs2.later hc (Nat.le_refl _)
  replace hB := hB.trans (hc.mono hB.size)
  clear hc hs1
  go_wp2_with fail
  refine (few_any w2 _ _ _ _ ys hs2).mono ?_
  rw [HBS.out]
  rintro e w3 ⟨Ab, nb, cb, rfl, hb', hc⟩
  replace ha := ha.later hc (Nat.le_refl _)
  replace hB := hB.trans (hc.mono hB.size)
  clear hc hs2
  have hna : na ≤ 20 := by rw [ha.len]; exact HLA.out
  have hnb : nb ≤ 20 := by rw [hb'.len]; exact HLB.out
  go_wp2_with fail
  have hfa := from_any w3 _ (Nat.le_refl _) _ _ _ _ ha HDA.out (by omega)
  rw [HN.out] at hfa
  refine hfa.mono ?_
  rintro e w4 ⟨zx, hZX, Ax, nx, cx, rfl, hx, hc⟩
  replace ha := ha.later hc (Nat.le_refl _)
  replace hb' := hb'.later hc (Nat.le_refl _)
  replace hB := hB.trans (hc.mono hB.size)
  clear hc hfa
  have HZX := Lib.hid hZX
  clear hZX
  go_wp2_with fail
  have hfb := from_any w4 _ (Nat.le_refl _) _ _ _ _ hb' HDB.out (by omega)
  rw [HM.out] at hfb
  refine hfb.mono ?_
  rintro e w5 ⟨zy, hZY, Ay, ny, cy, rfl, hy, hc⟩
  replace ha := ha.later hc (Nat.le_refl _)
  replace hb' := hb'.later hc (Nat.le_refl _)
  replace hx := hx.later hc (Nat.le_refl _)
  replace hB := hB.trans (hc.mono hB.size)
  clear hc hfb
  have HZY := Lib.hid hZY
  clear hZY
  have hnx : nx ≤ 40 := by rw [hx.len]; exact len32 (k := 20) HZX.out HVA.out
  have hny : ny ≤ 40 := by rw [hy.len]; exact len32 (k := 20) HZY.out HVB.out
  rcases Nat.eq_zero_or_pos M with h0 | h0
  · have hyz : zy = [] := nm_unique (by decide) (h0 ▸ HZY.out) ⟨fun x hx => (by cases hx), fun x hx => (by cases hx), rfl⟩
    have hn0 : ny = 0 := by rw [hy.len, hyz]; rfl
    subst hn0
    have hq := quo_zero w5 _ _ _ _ ha _ _ _ _ hb' HDB.out (HM.out.trans h0)
    have HQ := Lib.hid hq
    clear hq hyz h0 hy hnx hny hna hnb
    go_wp2_with fail
    refine HQ.out.mono ?_
    rintro e w6 ⟨rfl, hc⟩
    replace hB := hB.trans (hc.mono hB.size)
    clear hc
    go_wp2
    go_ret
    exact ⟨rfl, hB⟩
  · have hyn : ¬ (ny : Int) = 0 := by
      intro h
      have h1 : zy = [] := List.eq_nil_of_length_eq_zero (by rw [← hy.len]; omega)
      have h2 := HZY.out.2.2
      rw [h1] at h2
      simp [V] at h2
      omega
    have hq := quo_all hL w5 _ _ _ _ ha _ _ _ _ hb' N M HN.out HM.out HDA.out HDB.out (by omega) h0
    obtain ⟨Qn, hQn⟩ : ∃ q, N / M = q := ⟨_, rfl⟩
    obtain ⟨Rn, hRn⟩ : ∃ q, N % M = q := ⟨_, rfl⟩
    have hdm := Nat.div_add_mod N M
    have hRl := Nat.mod_lt N h0
    rw [hQn, hRn] at hdm
    rw [hRn] at hRl
    have hQl : Qn < b64 ^ 20 := by rw [← hQn]; exact Nat.lt_of_le_of_lt (Nat.div_le_self _ _) HVA.out
    have hRl2 : Rn < b64 ^ 20 := Nat.lt_trans hRl HVB.out
    have hPl : Qn * M < b64 ^ 20 := by
      refine Nat.lt_of_le_of_lt ?_ HVA.out
      rw [Nat.mul_comm]
      omega
    have hsum : Qn * M + Rn = N := by rw [Nat.mul_comm]; exact hdm
    rw [hQn, hRn] at hq
    have hcv1 : ncmp (Qn * M + Rn) N = 0 := by rw [hsum]; exact ncmp_eq _
    have hcv2 : ncmp Rn M = -1 := ncmp_lt hRl
    have HQ := Lib.hid hq
    have HQL := Lib.hid hQl
    have HRL2 := Lib.hid hRl2
    have HPL := Lib.hid hPl
    have HCV1 := Lib.hid hcv1
    have HCV2 := Lib.hid hcv2
    clear hq hQn hRn hdm hRl hQl hRl2 hPl hsum hcv1 hcv2 h0 ha hb'
    go_wp2_with fail
    refine HQ.out.mono ?_
    rintro e w6 ⟨lq, Aq, nq, cq, lr, Ar, nr, cr, rfl, hsq, hsr, hc, hnq, hnr⟩
    replace hx := hx.later hc (Nat.le_refl _)
    replace hy := hy.later hc (Nat.le_refl _)
    replace hB := hB.trans (hc.mono hB.size)
    clear hc
    have HNQ := Lib.hid hnq
    have HNR := Lib.hid hnr
    clear hnq hnr
    have hlq : nq ≤ 40 := by rw [hsq.len]; exact Nat.le_trans (HNQ.out.length_le (by decide) HQL.out) (by decide)
    have hlr : nr ≤ 40 := by rw [hsr.len]; exact Nat.le_trans (HNR.out.length_le (by decide) HRL2.out) (by decide)
    go_wp2_with fail
    have hfa := from_any w6 _ (Nat.le_refl _) _ _ _ _ hsq HNQ.out.1 (by omega)
    rw [HNQ.out.2.2] at hfa
    refine hfa.mono ?_
    rintro e w7 ⟨zu, hZU, Au, nu, cu, rfl, hu, hc⟩
    replace hx := hx.later hc (Nat.le_refl _)
    replace hy := hy.later hc (Nat.le_refl _)
    replace hsq := hsq.later hc (Nat.le_refl _)
    replace hsr := hsr.later hc (Nat.le_refl _)
    replace hB := hB.trans (hc.mono hB.size)
    clear hc hfa
    have HZU := Lib.hid hZU
    clear hZU
    go_wp2_with fail
    have hfb := from_any w7 _ (Nat.le_refl _) _ _ _ _ hsr HNR.out.1 (by omega)
    rw [HNR.out.2.2] at hfb
    refine hfb.mono ?_
    rintro e w8 ⟨zv, hZV, Av, nv, cv, rfl, hv, hc⟩
    replace hx := hx.later hc (Nat.le_refl _)
    replace hy := hy.later hc (Nat.le_refl _)
    replace hu := hu.later hc (Nat.le_refl _)
    replace hsq := hsq.later hc (Nat.le_refl _)
    replace hsr := hsr.later hc (Nat.le_refl _)
    replace hB := hB.trans (hc.mono hB.size)
    clear hc hfb
    have HZV := Lib.hid hZV
    clear hZV
    have hnu : nu ≤ 40 := by rw [hu.len]; exact len32 (k := 20) HZU.out HQL.out
    have hnv : nv ≤ 40 := by rw [hv.len]; exact len32 (k := 20) HZV.out HRL2.out
    go_wp2_with fail
    have hmu := rmul_any w8 _ (Nat.le_refl _) _ _ _ _ hu _ _ _ _ hy HZU.out.1 HZY.out.1 (by omega) (by omega)
    rw [HZU.out.2.2, HZY.out.2.2] at hmu
    refine hmu.mono ?_
    rintro e w9 ⟨zp, hZP, Ap, np, cp, rfl, hp, hc⟩
    replace hx := hx.later hc (Nat.le_refl _)
    replace hy := hy.later hc (Nat.le_refl _)
    replace hu := hu.later hc (Nat.le_refl _)
    replace hv := hv.later hc (Nat.le_refl _)
    replace hsq := hsq.later hc (Nat.le_refl _)
    replace hsr := hsr.later hc (Nat.le_refl _)
    replace hB := hB.trans (hc.mono hB.size)
    clear hc hmu
    have HZP := Lib.hid hZP
    clear hZP
    have hnp : np ≤ 40 := by rw [hp.len]; exact len32 (k := 20) HZP.out HPL.out
    go_wp2_with fail
    have had := radd_any w9 _ (Nat.le_refl _) _ _ _ _ hp _ _ _ _ hv HZP.out.1 HZV.out.1 (by omega) (by omega)
    rw [HZP.out.2.2, HZV.out.2.2] at had
    refine had.mono ?_
    rintro e w10 ⟨zs, hZS, As, ns, cs, rfl, hs, hc⟩
    replace hx := hx.later hc (Nat.le_refl _)
    replace hy := hy.later hc (Nat.le_refl _)
    replace hu := hu.later hc (Nat.le_refl _)
    replace hv := hv.later hc (Nat.le_refl _)
    replace hsq := hsq.later hc (Nat.le_refl _)
    replace hsr := hsr.later hc (Nat.le_refl _)
    replace hB := hB.trans (hc.mono hB.size)
    clear hc had
    have HZS := Lib.hid hZS
    clear hZS
    go_wp2_with fail
    have hcm := rcmp_ret w10 _ _ _ _ _ hs _ _ _ _ _ hx _ _ HZS.out HZX.out
    rw [HCV1.out] at hcm
    refine hcm.mono ?_
    rintro e w11 ⟨rfl, hc⟩
    replace hx := hx.later hc (Nat.le_refl _)
    replace hy := hy.later hc (Nat.le_refl _)
    replace hu := hu.later hc (Nat.le_refl _)
    replace hv := hv.later hc (Nat.le_refl _)
    replace hsq := hsq.later hc (Nat.le_refl _)
    replace hsr := hsr.later hc (Nat.le_refl _)
    replace hB := hB.trans (hc.mono hB.size)
    clear hc hcm
    go_wp2_with fail
    have hcm := rcmp_ret w11 _ _ _ _ _ hv _ _ _ _ _ hy _ _ HZV.out HZY.out
    rw [HCV2.out] at hcm
    refine hcm.mono ?_
    rintro e w12 ⟨rfl, hc⟩
    replace hu := hu.later hc (Nat.le_refl _)
    replace hv := hv.later hc (Nat.le_refl _)
    replace hsq := hsq.later hc (Nat.le_refl _)
    replace hsr := hsr.later hc (Nat.le_refl _)
    replace hB := hB.trans (hc.mono hB.size)
    clear hc hcm
    go_wp2_with fail
    refine (is_any w12 _ (Nat.le_refl _) _ _ _ _ hsq _ _ _ _ hu _ HNQ.out HZU.out (by omega)).mono ?_
    rintro e w13 ⟨rfl, hc⟩
    replace hv := hv.later hc (Nat.le_refl _)
    replace hsr := hsr.later hc (Nat.le_refl _)
    replace hB := hB.trans (hc.mono hB.size)
    clear hc
    go_wp2_with fail
    refine (is_any w13 _ (Nat.le_refl _) _ _ _ _ hsr _ _ _ _ hv _ HNR.out HZV.out (by omega)).mono ?_
    rintro e w14 ⟨rfl, hc⟩
    replace hB := hB.trans (hc.mono hB.size)
    clear hc
    go_wp2
    go_ret
    exact ⟨rfl, hB⟩
end Go.Proofs.Ytfiakaenenbhpaa
