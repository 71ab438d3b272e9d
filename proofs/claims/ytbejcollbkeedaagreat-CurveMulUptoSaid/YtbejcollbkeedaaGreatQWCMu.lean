/- CurveMul, walked. -/
import Derived.Test.YtbejcollbkeedaaGreatPileAR1
set_option linter.unusedVariables false
set_option linter.unusedSimpArgs false
set_option linter.unusedSectionVars false
set_option maxRecDepth 100000
set_option maxHeartbeats 8000000
open Go.Lib (hid)
namespace Go.Proofs.YtbejcollbkeedaaGreat
open Go.RowKit
attribute [local go_sem] Oper.semAt_some
theorem mul9_none (w : World) (c : Int) (hc : crvOf c = none) (Ak Aa : Option Addr) (nk ck na ca : Nat) (xs ys : List Nat) (hk : CutS w (.slice Ak nk ck) xs) (hkd : Dg b64 xs) (ha : CutS w (.slice Aa na ca) ys) (had : Dg b64 ys) (hal : na ≤ 1048576) (sp : Bool) : Calls Tryz.prog 4 #[.int .i64 c, .slice Ak nk ck, .slice Aa na ca, .bool sp] w fun e w' => RetV w (.bool true) e w' := by
 have HC := hid hc
 have hmx : Tryz.prog.follows .mixedOrders = true := by kernel_rfl
 have HKD := hid hkd
 have HAD := hid had
 have HAL := hid hal
 have HB := hid (Below.refl w.heap.size w)
 have Hks := hid hk
 have Has := hid ha
 clear hc hkd had hk ha hal
 have HBG := hid (begun9_any w)
 go_enter Tryz.func4, Tryz.ntmps4
 go_wp2_with fail
 refine (begun9_any w).mono ?_
 rintro e w1 ⟨rfl, hb⟩
 replace Hks := hid (Hks.out.later hb)
 replace Has := hid (Has.out.later hb)
 replace HB := hid (HB.out.trans (hb.mono HB.out.size))
 clear hb HBG
 go_wp2_with fail
 obtain ⟨A1, n1, c1, e1, hs1⟩ := Hks.out
 cases e1
 refine (cut_c w1 _ _ _ xs hs1 7 (by decide)).mono ?_
 rintro e w2 ⟨vk, rfl, hkc, hb⟩
 replace Hks := hid (Hks.out.later hb)
 replace Has := hid (Has.out.later hb)
 replace HB := hid (HB.out.trans (hb.mono HB.out.size))
 have Hkc := hid (hkc)
 clear hb hs1 hkc
 obtain ⟨Ac, nc, cc, rfl, -⟩ : ∃ A n c, vk = .slice A n c ∧ True := (by obtain ⟨A, n, c, e, -⟩ := Hkc.out; exact ⟨A, n, c, e, trivial⟩)
 have Hkn := hid (Hkc.out.num (HKD.out.take 7) (by rw [List.length_take]; omega))
 obtain ⟨kN, hkN⟩ : ∃ k, V b64 (xs.take 7) = k := ⟨_, rfl⟩
 rw [hkN] at Hkn
 clear hkN Hkc
 go_wp2_with fail
 refine (pt9_none w2 c HC.out _ _ _ sp).mono ?_
 rintro e w3 ⟨rfl, hb⟩
 replace Hks := hid (Hks.out.later hb)
 replace Has := hid (Has.out.later hb)
 replace Hkn := hid (Hkn.out.later hb)
 replace HB := hid (HB.out.trans (hb.mono HB.out.size))
 clear hb
 obtain ⟨W4, e4, r4, b4, s4⟩ := newS w3 26 [.bool false, .slice none 0 0, .slice none 0 0] _ rfl
 obtain ⟨gp, hqp⟩ : ∃ x, w3.heap.size = x := ⟨_, rfl⟩
 rw [hqp] at r4
 have HLp := hid (show w.heap.size ≤ gp by have := HB.out.size; omega)
 have HNp := hid (NoU.of_row r4 (noU3 nofun nofun nofun))
 replace Hks := hid (Hks.out.later b4)
 replace Has := hid (Has.out.later b4)
 replace Hkn := hid (Hkn.out.later b4)
 replace HB := hid (HB.out.trans (b4.mono HB.out.size))
 clear b4 s4
 go_wp2_with ((with_reducible show wpList _ _ _ (⟨none, _, _, _, _, _⟩ :: _) _ _); refine wlS_store rfl 26 3 Tryz.sizePt _ _ rfl gp [.bool false, .slice Aa na ca, .slice Aa na ca] rfl rfl 26 _ r4 rfl rfl (ones3 rfl rfl rfl) ?_; intro w4 hrp hgp hzp)
 have hsb : Sb W4 w4 := ⟨gp, HNp.out, hgp⟩
 replace Hks := hid (Hks.out.sb hsb)
 replace Has := hid (Has.out.sb hsb)
 replace Hkn := hid (Hkn.out.sb hsb)
 replace HB := hid (below_grown HB.out hgp HLp.out HB.out.size)
 have RWp := hid hrp
 clear hsb hrp hgp hzp e4 r4 hqp HNp
 refine (rOf9_no w4 c HC.out).mono ?_
 rintro e w5 ⟨rfl, hb⟩
 replace Hks := hid (Hks.out.later hb)
 replace Has := hid (Has.out.later hb)
 replace Hkn := hid (Hkn.out.later hb)
 replace RWp := hid (RWp.out.later hb)
 replace HB := hid (HB.out.trans (hb.mono HB.out.size))
 clear hb
 obtain ⟨W6, e6, r6, b6, s6⟩ := newS w5 30 [.slice none 0 0, .slice none 0 0, .slice none 0 0, .slice none 0 0, .slice none 0 0, .int .i64 0] _ rfl
 obtain ⟨gx, hqx⟩ : ∃ x, w5.heap.size = x := ⟨_, rfl⟩
 rw [hqx] at r6
 have HLx := hid (show w.heap.size ≤ gx by have := HB.out.size; omega)
 have HNEpx := hid (show gp ≠ gx by have := RWp.out.lt; omega)
 have HNx := hid (NoU.of_row r6 (noU6 nofun nofun nofun nofun nofun))
 replace Hks := hid (Hks.out.later b6)
 replace Has := hid (Has.out.later b6)
 replace Hkn := hid (Hkn.out.later b6)
 replace RWp := hid (RWp.out.later b6)
 replace HB := hid (HB.out.trans (b6.mono HB.out.size))
 clear b6 s6
 go_wp2_with ((with_reducible show wpList _ _ _ (⟨none, _, _, _, _, _⟩ :: _) _ _); refine wlS_store rfl 30 6 Tryz.sizeCr _ _ rfl gx [.slice none 0 0, .slice none 0 0, .slice none 0 0, .slice none 0 0, .slice none 0 0, .int .i64 0] rfl rfl 30 _ r6 rfl rfl (ones6 rfl rfl rfl rfl rfl rfl) ?_; intro w6 hrx hgx hzx; have p0 := (RWp.out.grown hgx HNEpx.out).at_ (i := 0) rfl; have p1 := (RWp.out.grown hgx HNEpx.out).at_ (i := 1) rfl; have p2 := (RWp.out.grown hgx HNEpx.out).at_ (i := 2) rfl)
 have hsb : Sb W6 w6 := ⟨gx, HNx.out, hgx⟩
 replace Hks := hid (Hks.out.sb hsb)
 replace Has := hid (Has.out.sb hsb)
 replace Hkn := hid (Hkn.out.sb hsb)
 replace RWp := hid (RWp.out.grown hgx HNEpx.out)
 replace HB := hid (below_grown HB.out hgx HLx.out HB.out.size)
 have RWx := hid hrx
 clear hsb hrx hgx hzx e6 r6 hqx HNx p0 p1 p2
 obtain ⟨A1, n1, c1, e1, hs1⟩ := Has.out
 cases e1
 refine (rFrom9_gen w6 _ _ .any .any (.any hs1 HAD.out (by have := HAL.out; omega)) (.any hs1 HAD.out (by have := HAL.out; omega))).mono ?_
 rintro e w7 ⟨v, rfl, hu, hb⟩
 obtain ⟨a1, a2, rfl, ⟨-, Au, nu, cu, rfl⟩, -, Bu, mu, du, rfl⟩ := id hu
 replace Hks := hid (Hks.out.later hb)
 replace Has := hid (Has.out.later hb)
 replace Hkn := hid (Hkn.out.later hb)
 replace RWp := hid (RWp.out.later hb)
 replace RWx := hid (RWx.out.later hb)
 replace HB := hid (HB.out.trans (hb.mono HB.out.size))
 clear hb hu hs1
 obtain ⟨W8, e8, r8, b8, s8⟩ := newS w7 33 [.bool false, .slice none 0 0, .slice none 0 0] _ rfl
 obtain ⟨gu, hqu⟩ : ∃ x, w7.heap.size = x := ⟨_, rfl⟩
 rw [hqu] at r8
 have HLu := hid (show w.heap.size ≤ gu by have := HB.out.size; omega)
 have HNEpu := hid (show gp ≠ gu by have := RWp.out.lt; omega)
 have HNExu := hid (show gx ≠ gu by have := RWx.out.lt; omega)
 have HNu := hid (NoU.of_row r8 (noU3 nofun nofun nofun))
 replace Hks := hid (Hks.out.later b8)
 replace Has := hid (Has.out.later b8)
 replace Hkn := hid (Hkn.out.later b8)
 replace RWp := hid (RWp.out.later b8)
 replace RWx := hid (RWx.out.later b8)
 replace HB := hid (HB.out.trans (b8.mono HB.out.size))
 clear b8 s8
 go_wp2_with ((with_reducible show wpList _ _ _ (⟨none, _, _, _, _, _⟩ :: _) _ _); refine wlS_store rfl 33 3 Tryz.sizeRp _ _ rfl gu [.bool false, .slice Au nu cu, .slice Bu mu du] rfl rfl 33 _ r8 rfl rfl (ones3 rfl rfl rfl) ?_; intro w8 hru hgu hzu; have p0 := (RWp.out.grown hgu HNEpu.out).at_ (i := 0) rfl; have p1 := (RWp.out.grown hgu HNEpu.out).at_ (i := 1) rfl; have p2 := (RWp.out.grown hgu HNEpu.out).at_ (i := 2) rfl)
 have hsb : Sb W8 w8 := ⟨gu, HNu.out, hgu⟩
 replace Hks := hid (Hks.out.sb hsb)
 replace Has := hid (Has.out.sb hsb)
 replace Hkn := hid (Hkn.out.sb hsb)
 replace RWp := hid (RWp.out.grown hgu HNEpu.out)
 replace RWx := hid (RWx.out.grown hgu HNExu.out)
 replace HB := hid (below_grown HB.out hgu HLu.out HB.out.size)
 have RWu := hid hru
 clear hsb hru hgu hzu e8 r8 hqu HNu p0 p1 p2
 refine (cMul_none w8 c HC.out _ _ ⟨_, _, _, rfl, rfl, rfl, rfl⟩).mono ?_
 rintro e w9 ⟨rfl, hb⟩
 replace Hks := hid (Hks.out.later hb)
 replace Has := hid (Has.out.later hb)
 replace Hkn := hid (Hkn.out.later hb)
 replace RWp := hid (RWp.out.later hb)
 replace RWx := hid (RWx.out.later hb)
 replace RWu := hid (RWu.out.later hb)
 replace HB := hid (HB.out.trans (hb.mono HB.out.size))
 clear hb
 obtain ⟨W10, e10, r10, b10, s10⟩ := newS w9 26 [.bool false, .slice none 0 0, .slice none 0 0] _ rfl
 obtain ⟨gm, hqm⟩ : ∃ x, w9.heap.size = x := ⟨_, rfl⟩
 rw [hqm] at r10
 have HLm := hid (show w.heap.size ≤ gm by have := HB.out.size; omega)
 have HNEpm := hid (show gp ≠ gm by have := RWp.out.lt; omega)
 have HNExm := hid (show gx ≠ gm by have := RWx.out.lt; omega)
 have HNEum := hid (show gu ≠ gm by have := RWu.out.lt; omega)
 have HNm := hid (NoU.of_row r10 (noU3 nofun nofun nofun))
 replace Hks := hid (Hks.out.later b10)
 replace Has := hid (Has.out.later b10)
 replace Hkn := hid (Hkn.out.later b10)
 replace RWp := hid (RWp.out.later b10)
 replace RWx := hid (RWx.out.later b10)
 replace RWu := hid (RWu.out.later b10)
 replace HB := hid (HB.out.trans (b10.mono HB.out.size))
 clear b10 s10
 go_wp2_with ((with_reducible show wpList _ _ _ (⟨none, _, _, _, _, _⟩ :: _) _ _); refine wlS_store rfl 26 3 Tryz.sizePt _ _ rfl gm [.bool true, .slice none 0 0, .slice none 0 0] rfl rfl 26 _ r10 rfl rfl (ones3 rfl rfl rfl) ?_; intro w10 hrm hgm hzm; have c0 := (RWx.out.grown hgm HNExm.out).at_ (i := 0) rfl; have c1 := (RWx.out.grown hgm HNExm.out).at_ (i := 1) rfl; have c2 := (RWx.out.grown hgm HNExm.out).at_ (i := 2) rfl; have c3 := (RWx.out.grown hgm HNExm.out).at_ (i := 3) rfl; have c4 := (RWx.out.grown hgm HNExm.out).at_ (i := 4) rfl; have c5 := (RWx.out.grown hgm HNExm.out).at_ (i := 5) rfl; have u0 := (RWu.out.grown hgm HNEum.out).at_ (i := 0) rfl; have u1 := (RWu.out.grown hgm HNEum.out).at_ (i := 1) rfl; have u2 := (RWu.out.grown hgm HNEum.out).at_ (i := 2) rfl)
 have hsb : Sb W10 w10 := ⟨gm, HNm.out, hgm⟩
 replace Hks := hid (Hks.out.sb hsb)
 replace Has := hid (Has.out.sb hsb)
 replace Hkn := hid (Hkn.out.sb hsb)
 replace RWp := hid (RWp.out.grown hgm HNEpm.out)
 replace RWx := hid (RWx.out.grown hgm HNExm.out)
 replace RWu := hid (RWu.out.grown hgm HNEum.out)
 replace HB := hid (below_grown HB.out hgm HLm.out HB.out.size)
 have RWm := hid hrm
 clear hsb hrm hgm hzm e10 r10 hqm HNm c0 c1 c2 c3 c4 c5 u0 u1 u2
 refine (rOn9_zero w10 _ _ _ _ _ _ _ _).mono ?_
 rintro e w11 ⟨rfl, hb⟩
 replace Hks := hid (Hks.out.later hb)
 replace Has := hid (Has.out.later hb)
 replace Hkn := hid (Hkn.out.later hb)
 replace RWp := hid (RWp.out.later hb)
 replace RWx := hid (RWx.out.later hb)
 replace RWu := hid (RWu.out.later hb)
 replace RWm := hid (RWm.out.later hb)
 replace HB := hid (HB.out.trans (hb.mono HB.out.size))
 clear hb
 have m0 := RWm.out.at_ (i := 0) rfl
 have m1 := RWm.out.at_ (i := 1) rfl
 go_wp2
 go_ret
 exact ⟨rfl, HB.out⟩
theorem mul9_yes (w : World) (c : Int) (D : Crv) (hc : crvOf c = some D) (Ak Aa : Option Addr) (nk ck na ca : Nat) (xs ys : List Nat) (hk : CutS w (.slice Ak nk ck) xs) (hkd : Dg b64 xs) (ha : CutS w (.slice Aa na ca) ys) (had : Dg b64 ys) (hal : na ≤ 1048576) (sp : Bool) : Calls Tryz.prog 4 #[.int .i64 c, .slice Ak nk ck, .slice Aa na ca, .bool sp] w fun e w' => RetV w (.bool true) e w' := by
 have HC := hid hc
 have hmx : Tryz.prog.follows .mixedOrders = true := by kernel_rfl
 have HKD := hid hkd
 have HAD := hid had
 have HAL := hid hal
 have HB := hid (Below.refl w.heap.size w)
 have Hks := hid hk
 have Has := hid ha
 clear hc hkd had hk ha hal
 have HBG := hid (begun9_any w)
 go_enter Tryz.func4, Tryz.ntmps4
 go_wp2_with fail
 refine (begun9_any w).mono ?_
 rintro e w1 ⟨rfl, hb⟩
 replace Hks := hid (Hks.out.later hb)
 replace Has := hid (Has.out.later hb)
 replace HB := hid (HB.out.trans (hb.mono HB.out.size))
 clear hb HBG
 go_wp2_with fail
 obtain ⟨A1, n1, c1, e1, hs1⟩ := Hks.out
 cases e1
 refine (cut_c w1 _ _ _ xs hs1 7 (by decide)).mono ?_
 rintro e w2 ⟨vk, rfl, hkc, hb⟩
 replace Hks := hid (Hks.out.later hb)
 replace Has := hid (Has.out.later hb)
 replace HB := hid (HB.out.trans (hb.mono HB.out.size))
 have Hkc := hid (hkc)
 clear hb hs1 hkc
 obtain ⟨Ac, nc, cc, rfl, -⟩ : ∃ A n c, vk = .slice A n c ∧ True := (by obtain ⟨A, n, c, e, -⟩ := Hkc.out; exact ⟨A, n, c, e, trivial⟩)
 have Hkn := hid (Hkc.out.num (HKD.out.take 7) (by rw [List.length_take]; omega))
 obtain ⟨kN, hkN⟩ : ∃ k, V b64 (xs.take 7) = k := ⟨_, rfl⟩
 rw [hkN] at Hkn
 clear hkN Hkc
 go_wp2_with fail
 obtain ⟨A1, n1, c1, e1, hs1⟩ := Has.out
 cases e1
 refine (pt9_yes w2 c D HC.out _ _ _ ys hs1 HAD.out _ rfl sp).mono ?_
 rintro e w3 ⟨v, P, MP, rfl, hbp, hso, hpg, hb⟩
 have HBP := hid hbp
 have HSO := hid hso
 obtain ⟨t0, a0, d0, rfl, o1, o2⟩ := hpg.form
 clear hbp hso
 replace Hks := hid (Hks.out.later hb)
 replace Has := hid (Has.out.later hb)
 replace Hkn := hid (Hkn.out.later hb)
 replace HB := hid (HB.out.trans (hb.mono HB.out.size))
 have Hpg := hid (hpg)
 clear hb hs1 hpg
 by_cases has : hasN D.p D.b P
 ·have HAS := hid has
  clear has
  obtain ⟨W4, e4, r4, b4, s4⟩ := newS w3 26 [.bool false, .slice none 0 0, .slice none 0 0] _ rfl
  obtain ⟨gp, hqp⟩ : ∃ x, w3.heap.size = x := ⟨_, rfl⟩
  rw [hqp] at r4
  have HLp := hid (show w.heap.size ≤ gp by have := HB.out.size; omega)
  have HNp := hid (NoU.of_row r4 (noU3 nofun nofun nofun))
  replace Hks := hid (Hks.out.later b4)
  replace Has := hid (Has.out.later b4)
  replace Hkn := hid (Hkn.out.later b4)
  replace Hpg := hid (Hpg.out.later b4)
  replace HB := hid (HB.out.trans (b4.mono HB.out.size))
  clear b4 s4
  go_wp2_with ((with_reducible show wpList _ _ _ (⟨none, _, _, _, _, _⟩ :: _) _ _); refine wlS_store rfl 26 3 Tryz.sizePt _ _ rfl gp [.bool t0, a0, d0] rfl rfl 26 _ r4 rfl rfl (ones3 rfl o1 o2) ?_; intro w4 hrp hgp hzp)
  have hsb : Sb W4 w4 := ⟨gp, HNp.out, hgp⟩
  replace Hks := hid (Hks.out.sb hsb)
  replace Has := hid (Has.out.sb hsb)
  replace Hkn := hid (Hkn.out.sb hsb)
  replace Hpg := hid (Hpg.out.sb hsb)
  replace HB := hid (below_grown HB.out hgp HLp.out HB.out.size)
  have RWp := hid hrp
  clear hsb hrp hgp hzp e4 r4 hqp HNp
  refine (rOf9_yes w4 c D HC.out).mono ?_
  rintro e w5 ⟨v, rfl, hcr, hb⟩
  obtain ⟨vp, vn, vb, vx, vy, rfl, k1, k2, k3, k4, k5⟩ := hcr
  obtain ⟨Ap, np, cp, rfl⟩ := k1.sl
  obtain ⟨An, nn, cn, rfl⟩ := k2.sl
  obtain ⟨Ab, nb, cb, rfl⟩ := k3.sl
  obtain ⟨Ax, nx, cx, rfl⟩ := k4.sl
  obtain ⟨Ay, ny, cy, rfl⟩ := k5.sl
  replace Hks := hid (Hks.out.later hb)
  replace Has := hid (Has.out.later hb)
  replace Hkn := hid (Hkn.out.later hb)
  replace Hpg := hid (Hpg.out.later hb)
  replace RWp := hid (RWp.out.later hb)
  replace HB := hid (HB.out.trans (hb.mono HB.out.size))
  have Hcr := hid (show Cr _ _ D from ⟨_, _, _, _, _, rfl, k1, k2, k3, k4, k5⟩)
  clear hb k1 k2 k3 k4 k5
  obtain ⟨W6, e6, r6, b6, s6⟩ := newS w5 30 [.slice none 0 0, .slice none 0 0, .slice none 0 0, .slice none 0 0, .slice none 0 0, .int .i64 0] _ rfl
  obtain ⟨gx, hqx⟩ : ∃ x, w5.heap.size = x := ⟨_, rfl⟩
  rw [hqx] at r6
  have HLx := hid (show w.heap.size ≤ gx by have := HB.out.size; omega)
  have HNEpx := hid (show gp ≠ gx by have := RWp.out.lt; omega)
  have HNx := hid (NoU.of_row r6 (noU6 nofun nofun nofun nofun nofun))
  replace Hks := hid (Hks.out.later b6)
  replace Has := hid (Has.out.later b6)
  replace Hkn := hid (Hkn.out.later b6)
  replace Hpg := hid (Hpg.out.later b6)
  replace Hcr := hid (Hcr.out.later b6)
  replace RWp := hid (RWp.out.later b6)
  replace HB := hid (HB.out.trans (b6.mono HB.out.size))
  clear b6 s6
  go_wp2_with ((with_reducible show wpList _ _ _ (⟨none, _, _, _, _, _⟩ :: _) _ _); refine wlS_store rfl 30 6 Tryz.sizeCr _ _ rfl gx [.slice Ap np cp, .slice An nn cn, .slice Ab nb cb, .slice Ax nx cx, .slice Ay ny cy, .int .i64 (D.size : Int)] rfl rfl 30 _ r6 rfl rfl (ones6 rfl rfl rfl rfl rfl rfl) ?_; intro w6 hrx hgx hzx; have p0 := (RWp.out.grown hgx HNEpx.out).at_ (i := 0) rfl; have p1 := (RWp.out.grown hgx HNEpx.out).at_ (i := 1) rfl; have p2 := (RWp.out.grown hgx HNEpx.out).at_ (i := 2) rfl)
  have hsb : Sb W6 w6 := ⟨gx, HNx.out, hgx⟩
  replace Hks := hid (Hks.out.sb hsb)
  replace Has := hid (Has.out.sb hsb)
  replace Hkn := hid (Hkn.out.sb hsb)
  replace Hpg := hid (Hpg.out.sb hsb)
  replace Hcr := hid (Hcr.out.sb hsb)
  replace RWp := hid (RWp.out.grown hgx HNEpx.out)
  replace HB := hid (below_grown HB.out hgx HLx.out HB.out.size)
  have RWx := hid hrx
  clear hsb hrx hgx hzx e6 r6 hqx HNx p0 p1 p2
  refine (rFrom9_pg w6 _ P Hpg.out).mono ?_
  rintro e w7 ⟨v, rfl, hu, hb⟩
  obtain ⟨tu, Au, nu, cu, Bu, mu, du, rfl⟩ := hu.three
  replace Hks := hid (Hks.out.later hb)
  replace Has := hid (Has.out.later hb)
  replace Hkn := hid (Hkn.out.later hb)
  replace Hpg := hid (Hpg.out.later hb)
  replace Hcr := hid (Hcr.out.later hb)
  replace RWp := hid (RWp.out.later hb)
  replace RWx := hid (RWx.out.later hb)
  replace HB := hid (HB.out.trans (hb.mono HB.out.size))
  have Hu := hid (hu)
  clear hb hu
  obtain ⟨W8, e8, r8, b8, s8⟩ := newS w7 33 [.bool false, .slice none 0 0, .slice none 0 0] _ rfl
  obtain ⟨gu, hqu⟩ : ∃ x, w7.heap.size = x := ⟨_, rfl⟩
  rw [hqu] at r8
  have HLu := hid (show w.heap.size ≤ gu by have := HB.out.size; omega)
  have HNEpu := hid (show gp ≠ gu by have := RWp.out.lt; omega)
  have HNExu := hid (show gx ≠ gu by have := RWx.out.lt; omega)
  have HNu := hid (NoU.of_row r8 (noU3 nofun nofun nofun))
  replace Hks := hid (Hks.out.later b8)
  replace Has := hid (Has.out.later b8)
  replace Hkn := hid (Hkn.out.later b8)
  replace Hpg := hid (Hpg.out.later b8)
  replace Hcr := hid (Hcr.out.later b8)
  replace Hu := hid (Hu.out.later b8)
  replace RWp := hid (RWp.out.later b8)
  replace RWx := hid (RWx.out.later b8)
  replace HB := hid (HB.out.trans (b8.mono HB.out.size))
  clear b8 s8
  go_wp2_with ((with_reducible show wpList _ _ _ (⟨none, _, _, _, _, _⟩ :: _) _ _); refine wlS_store rfl 33 3 Tryz.sizeRp _ _ rfl gu [.bool tu, .slice Au nu cu, .slice Bu mu du] rfl rfl 33 _ r8 rfl rfl (ones3 rfl rfl rfl) ?_; intro w8 hru hgu hzu; have p0 := (RWp.out.grown hgu HNEpu.out).at_ (i := 0) rfl; have p1 := (RWp.out.grown hgu HNEpu.out).at_ (i := 1) rfl; have p2 := (RWp.out.grown hgu HNEpu.out).at_ (i := 2) rfl)
  have hsb : Sb W8 w8 := ⟨gu, HNu.out, hgu⟩
  replace Hks := hid (Hks.out.sb hsb)
  replace Has := hid (Has.out.sb hsb)
  replace Hkn := hid (Hkn.out.sb hsb)
  replace Hpg := hid (Hpg.out.sb hsb)
  replace Hcr := hid (Hcr.out.sb hsb)
  replace Hu := hid (Hu.out.sb hsb)
  replace RWp := hid (RWp.out.grown hgu HNEpu.out)
  replace RWx := hid (RWx.out.grown hgu HNExu.out)
  replace HB := hid (below_grown HB.out hgu HLu.out HB.out.size)
  have RWu := hid hru
  clear hsb hru hgu hzu e8 r8 hqu HNu p0 p1 p2
  refine (cmul_is w8 c D HC.out _ _ kN Hkn.out P Hpg.out HAS.out).mono ?_
  rintro e w9 ⟨v, R, k0, rfl, hk0, hR, hm, hb⟩
  obtain ⟨tm, Am, nm, cm, Bm, mm, dm, rfl⟩ := hm.three'
  have HK0 := hid hk0
  have HR := hid hR
  replace Hks := hid (Hks.out.later hb)
  replace Has := hid (Has.out.later hb)
  replace Hkn := hid (Hkn.out.later hb)
  replace Hpg := hid (Hpg.out.later hb)
  replace Hcr := hid (Hcr.out.later hb)
  replace Hu := hid (Hu.out.later hb)
  replace RWp := hid (RWp.out.later hb)
  replace RWx := hid (RWx.out.later hb)
  replace RWu := hid (RWu.out.later hb)
  replace HB := hid (HB.out.trans (hb.mono HB.out.size))
  have Hm := hid (hm)
  clear hb hm hk0 hR
  obtain ⟨W10, e10, r10, b10, s10⟩ := newS w9 26 [.bool false, .slice none 0 0, .slice none 0 0] _ rfl
  obtain ⟨gm, hqm⟩ : ∃ x, w9.heap.size = x := ⟨_, rfl⟩
  rw [hqm] at r10
  have HLm := hid (show w.heap.size ≤ gm by have := HB.out.size; omega)
  have HNEpm := hid (show gp ≠ gm by have := RWp.out.lt; omega)
  have HNExm := hid (show gx ≠ gm by have := RWx.out.lt; omega)
  have HNEum := hid (show gu ≠ gm by have := RWu.out.lt; omega)
  have HNm := hid (NoU.of_row r10 (noU3 nofun nofun nofun))
  replace Hks := hid (Hks.out.later b10)
  replace Has := hid (Has.out.later b10)
  replace Hkn := hid (Hkn.out.later b10)
  replace Hpg := hid (Hpg.out.later b10)
  replace Hcr := hid (Hcr.out.later b10)
  replace Hu := hid (Hu.out.later b10)
  replace Hm := hid (Hm.out.later b10)
  replace RWp := hid (RWp.out.later b10)
  replace RWx := hid (RWx.out.later b10)
  replace RWu := hid (RWu.out.later b10)
  replace HB := hid (HB.out.trans (b10.mono HB.out.size))
  clear b10 s10
  go_wp2_with ((with_reducible show wpList _ _ _ (⟨none, _, _, _, _, _⟩ :: _) _ _); refine wlS_store rfl 26 3 Tryz.sizePt _ _ rfl gm [.bool tm, .slice Am nm cm, .slice Bm mm dm] rfl rfl 26 _ r10 rfl rfl (ones3 rfl rfl rfl) ?_; intro w10 hrm hgm hzm; have c0 := (RWx.out.grown hgm HNExm.out).at_ (i := 0) rfl; have c1 := (RWx.out.grown hgm HNExm.out).at_ (i := 1) rfl; have c2 := (RWx.out.grown hgm HNExm.out).at_ (i := 2) rfl; have c3 := (RWx.out.grown hgm HNExm.out).at_ (i := 3) rfl; have c4 := (RWx.out.grown hgm HNExm.out).at_ (i := 4) rfl; have c5 := (RWx.out.grown hgm HNExm.out).at_ (i := 5) rfl; have u0 := (RWu.out.grown hgm HNEum.out).at_ (i := 0) rfl; have u1 := (RWu.out.grown hgm HNEum.out).at_ (i := 1) rfl; have u2 := (RWu.out.grown hgm HNEum.out).at_ (i := 2) rfl)
  have hsb : Sb W10 w10 := ⟨gm, HNm.out, hgm⟩
  replace Hks := hid (Hks.out.sb hsb)
  replace Has := hid (Has.out.sb hsb)
  replace Hkn := hid (Hkn.out.sb hsb)
  replace Hpg := hid (Hpg.out.sb hsb)
  replace Hcr := hid (Hcr.out.sb hsb)
  replace Hu := hid (Hu.out.sb hsb)
  replace Hm := hid (Hm.out.sb hsb)
  replace RWp := hid (RWp.out.grown hgm HNEpm.out)
  replace RWx := hid (RWx.out.grown hgm HNExm.out)
  replace RWu := hid (RWu.out.grown hgm HNEum.out)
  replace HB := hid (below_grown HB.out hgm HLm.out HB.out.size)
  have RWm := hid hrm
  clear hsb hrm hgm hzm e10 r10 hqm HNm c0 c1 c2 c3 c4 c5 u0 u1 u2
  refine (on9_yes w10 c D HC.out _ _ P Hcr.out Hu.out).mono ?_
  rintro e w11 ⟨rfl, hb⟩
  have hdec : decide (hasN D.p D.b P) = true := decide_eq_true HAS.out
  rw [hdec]
  clear hdec
  replace Hks := hid (Hks.out.later hb)
  replace Has := hid (Has.out.later hb)
  replace Hkn := hid (Hkn.out.later hb)
  replace Hpg := hid (Hpg.out.later hb)
  replace Hcr := hid (Hcr.out.later hb)
  replace Hu := hid (Hu.out.later hb)
  replace Hm := hid (Hm.out.later hb)
  replace RWp := hid (RWp.out.later hb)
  replace RWx := hid (RWx.out.later hb)
  replace RWu := hid (RWu.out.later hb)
  replace RWm := hid (RWm.out.later hb)
  replace HB := hid (HB.out.trans (hb.mono HB.out.size))
  clear hb
  go_wp2_with fail
  refine (wpIn_wide (n := 9)).1 (wpIn_region_numG rfl hmx [(52, .val (.bool true)), (53, .val (.bool true)), (54, .val (.bool true)), (55, .val (.bool true)), (56, .val (.bool true)), (57, .val (.agg #[.bool tm, .slice Am nm cm, .slice Bm mm dm])), (58, .val (.agg #[.slice Ap np cp, .slice An nn cn, .slice Ab nb cb, .slice Ax nx cx, .slice Ay ny cy, .int .i64 (D.size : Int)])), (59, .val (.slice Ac nc cc)), (60, .nb kN), (61, .val (.agg #[.bool tu, .slice Au nu cu, .slice Bu mu du])), (62, .rp R), (63, .val (.bool true)), (64, .val (.bool true)), (8, .val (.bool true))] [(53, true), (56, true)] (by kernel_rfl) (by kernel_rfl) (by kernel_rfl) (by kernel_rfl) (by rfl) (by kernel_rfl) (by rfl) ?hgv ?hops ?hend)
  case hgv =>
   intro p hp v V h
   simp only [List.mem_cons, List.not_mem_nil, or_false] at hp
   rcases hp with rfl | rfl <;> exact h
  case hops =>
   intro i o a' V hB ho hev hrd
   have his : i < 14 := by have := (Array.getElem?_eq_some_iff.1 ho).1; simpa using this
   have rm := RWm.out.later hB
   have rx := RWx.out.later hB
   have ru := RWu.out.later hB
   have hkn := Hkn.out.later hB
   have hcr := Hcr.out.later hB
   have hu := Hu.out.later hB
   have hm := Hm.out.later hB
   have hcase : i = 0 ∨ i = 1 ∨ i = 2 ∨ i = 3 ∨ i = 4 ∨ i = 5 ∨ i = 6 ∨ i = 7 ∨ i = 8 ∨ i = 9 ∨ i = 10 ∨ i = 11 ∨ i = 12 ∨ i = 13 := by omega
   rcases hcase with rfl | rfl | rfl | rfl | rfl | rfl | rfl | rfl | rfl | rfl | rfl | rfl | rfl | rfl
   ·simp at ho
    subst ho
    have r9 := hev 9 rfl
    simp [Act.eval] at r9
    refine ⟨nofun, fun _ _ => trivial, nofun, .inl ⟨.bool true, V, ?_, Below.refl _ _, fun t ht => by cases ht; rfl⟩⟩
    simp [execOp, Act.eval, go_sem, r9]
   ·simp at ho
    subst ho
    have r52 : a'.eval (.tmp 52) = .bool true := hrd 52 rfl rfl
    simp [Act.eval] at r52
    refine ⟨nofun, fun _ _ => trivial, nofun, .inl ⟨.bool true, V, ?_, Below.refl _ _, fun t ht => by cases ht; rfl⟩⟩
    simp [execOp, Act.eval, go_sem, r52]
   ·simp at ho
    subst ho
    have r14 := hev 14 rfl
    simp [Act.eval] at r14
    refine ⟨nofun, fun _ _ => trivial, nofun, .inl ⟨.bool true, V, ?_, Below.refl _ _, fun t ht => by cases ht; rfl⟩⟩
    simp [execOp, Act.eval, go_sem, r14]
   ·simp at ho
    subst ho
    have r53 : a'.eval (.tmp 53) = .bool true := hrd 53 rfl rfl
    simp [Act.eval] at r53
    have r54 : a'.eval (.tmp 54) = .bool true := hrd 54 rfl rfl
    simp [Act.eval] at r54
    refine ⟨nofun, fun _ _ => trivial, nofun, .inl ⟨.bool true, V, ?_, Below.refl _ _, fun t ht => by cases ht; rfl⟩⟩
    simp [execOp, Act.eval, go_sem, r53, r54]
   ·simp at ho
    subst ho
    have r55 : a'.eval (.tmp 55) = .bool true := hrd 55 rfl rfl
    simp [Act.eval] at r55
    refine ⟨nofun, fun _ _ => trivial, nofun, .inl ⟨.bool true, V, ?_, Below.refl _ _, fun t ht => by cases ht; rfl⟩⟩
    simp [execOp, Act.eval, go_sem, r55]
   ·simp at ho
    subst ho
    have r13 := hev 13 rfl
    simp [Act.eval] at r13
    try simp [Act.put] at r13
    refine ⟨nofun, fun _ _ => trivial, nofun, .inl ⟨.agg #[.bool tm, .slice Am nm cm, .slice Bm mm dm], V, exec_load 26 3 _ Tryz.underlying26 rfl Tryz.sizePt _ rfl gm [.bool tm, .slice Am nm cm, .slice Bm mm dm] (by simpa [Act.eval] using r13) 26 rm rfl, Below.refl _ _, fun t ht => by cases ht; rfl⟩⟩
   ·simp at ho
    subst ho
    have r11 := hev 11 rfl
    simp [Act.eval] at r11
    try simp [Act.put] at r11
    refine ⟨nofun, fun _ _ => trivial, nofun, .inl ⟨.agg #[.slice Ap np cp, .slice An nn cn, .slice Ab nb cb, .slice Ax nx cx, .slice Ay ny cy, .int .i64 (D.size : Int)], V, exec_load 30 6 _ Tryz.underlying30 rfl Tryz.sizeCr _ rfl gx [.slice Ap np cp, .slice An nn cn, .slice Ab nb cb, .slice Ax nx cx, .slice Ay ny cy, .int .i64 (D.size : Int)] (by simpa [Act.eval] using r11) 30 rx rfl, Below.refl _ _, fun t ht => by cases ht; rfl⟩⟩
   ·simp at ho
    subst ho
    have r1 := hev 1 rfl
    simp [Act.eval] at r1
    refine ⟨nofun, fun _ _ => trivial, nofun, .inl ⟨.slice Ac nc cc, V, ?_, Below.refl _ _, fun t ht => by cases ht; rfl⟩⟩
    simp [execOp, Act.eval, go_sem, r1]
   ·simp at ho
    subst ho
    have r59 : a'.eval (.tmp 59) = .slice Ac nc cc := hrd 59 rfl rfl
    simp [Act.eval] at r59
    refine ⟨nofun, fun _ _ => trivial, nofun, .inr ⟨22, #[.slice Ac nc cc], ?_, (callsIn_wide.2 (from_u V _ kN hkn)).mono ?_⟩⟩
    ·simp [execOp, Act.eval, r59, resolve, invoke, Deferred.ofValue]
    ·rintro e w' ⟨v, rfl, hv, hB2⟩
     exact ⟨_, rfl, hB2, fun t ht => by cases ht; exact hv⟩
   ·simp at ho
    subst ho
    have r12 := hev 12 rfl
    simp [Act.eval] at r12
    try simp [Act.put] at r12
    refine ⟨nofun, fun _ _ => trivial, nofun, .inl ⟨.agg #[.bool tu, .slice Au nu cu, .slice Bu mu du], V, exec_load 33 3 _ Tryz.underlying33 rfl Tryz.sizeRp _ rfl gu [.bool tu, .slice Au nu cu, .slice Bu mu du] (by simpa [Act.eval] using r12) 33 ru rfl, Below.refl _ _, fun t ht => by cases ht; rfl⟩⟩
   ·simp at ho
    subst ho
    have r58 : a'.eval (.tmp 58) = .agg #[.slice Ap np cp, .slice An nn cn, .slice Ab nb cb, .slice Ax nx cx, .slice Ay ny cy, .int .i64 (D.size : Int)] := hrd 58 rfl rfl
    simp [Act.eval] at r58
    have r60 : Nb V (a'.eval (.tmp 60)) kN := hrd 60 rfl rfl
    have r61 : a'.eval (.tmp 61) = .agg #[.bool tu, .slice Au nu cu, .slice Bu mu du] := hrd 61 rfl rfl
    simp [Act.eval] at r61
    refine ⟨nofun, fun _ _ => trivial, nofun, .inr ⟨21, #[.agg #[.slice Ap np cp, .slice An nn cn, .slice Ab nb cb, .slice Ax nx cx, .slice Ay ny cy, .int .i64 (D.size : Int)], a'.eval (.tmp 60), .agg #[.bool tu, .slice Au nu cu, .slice Bu mu du]], ?_, (callsIn_wide.2 (rmul_ref V c D HC.out _ _ _ hcr kN r60 P hu (hasN.inp HC.out HAS.out))).mono ?_⟩⟩
    ·simp [execOp, Act.eval, r58, r61, resolve, invoke, Deferred.ofValue]
    ·rintro e w' ⟨v, Q, rfl, hQ, hv, hB2⟩
     rw [mul_same HC.out HBP.out HSO.out HAS.out HK0.out HR.out hQ] at hv
     exact ⟨_, rfl, hB2, fun t ht => by cases ht; exact hv⟩
   ·simp at ho
    subst ho
    have r57 : a'.eval (.tmp 57) = .agg #[.bool tm, .slice Am nm cm, .slice Bm mm dm] := hrd 57 rfl rfl
    simp [Act.eval] at r57
    have r62 : Rp V (a'.eval (.tmp 62)) R := hrd 62 rfl rfl
    refine ⟨nofun, fun _ _ => trivial, nofun, .inr ⟨16, #[.agg #[.bool tm, .slice Am nm cm, .slice Bm mm dm], a'.eval (.tmp 62)], ?_, (callsIn_wide.2 (is9_any V _ _ R hm r62)).mono ?_⟩⟩
    ·simp [execOp, Act.eval, r57, resolve, invoke, Deferred.ofValue]
    ·rintro e w' ⟨rfl, hB2⟩
     have hv : Value.bool true = Value.bool true := rfl
     exact ⟨_, rfl, hB2, fun t ht => by cases ht; exact hv⟩
   ·simp at ho
    subst ho
    have r56 : a'.eval (.tmp 56) = .bool true := hrd 56 rfl rfl
    simp [Act.eval] at r56
    have r63 : a'.eval (.tmp 63) = .bool true := hrd 63 rfl rfl
    simp [Act.eval] at r63
    refine ⟨nofun, fun _ _ => trivial, nofun, .inl ⟨.bool true, V, ?_, Below.refl _ _, fun t ht => by cases ht; rfl⟩⟩
    simp [execOp, Act.eval, go_sem, r56, r63]
   ·simp at ho
    subst ho
    have r64 : a'.eval (.tmp 64) = .bool true := hrd 64 rfl rfl
    simp [Act.eval] at r64
    refine ⟨nofun, fun _ _ => trivial, nofun, .inl ⟨.bool true, V, ?_, Below.refl _ _, fun t ht => by cases ht; rfl⟩⟩
    simp [execOp, Act.eval, go_sem, r64]
  case hend =>
   intro vals V hB hP
   have hz : vals 13 = .bool true := hP 13 8 _ rfl rfl
   have HBE := hid (HB.out.trans (hB.mono HB.out.size))
   clear hP hB
   simp [wrote, Act.put]
   go_wp2
   go_ret
   exact ⟨by simp [hz], HBE.out⟩
 ·have HAS := hid has
  clear has
  obtain ⟨W4, e4, r4, b4, s4⟩ := newS w3 26 [.bool false, .slice none 0 0, .slice none 0 0] _ rfl
  obtain ⟨gp, hqp⟩ : ∃ x, w3.heap.size = x := ⟨_, rfl⟩
  rw [hqp] at r4
  have HLp := hid (show w.heap.size ≤ gp by have := HB.out.size; omega)
  have HNp := hid (NoU.of_row r4 (noU3 nofun nofun nofun))
  replace Hks := hid (Hks.out.later b4)
  replace Has := hid (Has.out.later b4)
  replace Hkn := hid (Hkn.out.later b4)
  replace Hpg := hid (Hpg.out.later b4)
  replace HB := hid (HB.out.trans (b4.mono HB.out.size))
  clear b4 s4
  go_wp2_with ((with_reducible show wpList _ _ _ (⟨none, _, _, _, _, _⟩ :: _) _ _); refine wlS_store rfl 26 3 Tryz.sizePt _ _ rfl gp [.bool t0, a0, d0] rfl rfl 26 _ r4 rfl rfl (ones3 rfl o1 o2) ?_; intro w4 hrp hgp hzp)
  have hsb : Sb W4 w4 := ⟨gp, HNp.out, hgp⟩
  replace Hks := hid (Hks.out.sb hsb)
  replace Has := hid (Has.out.sb hsb)
  replace Hkn := hid (Hkn.out.sb hsb)
  replace Hpg := hid (Hpg.out.sb hsb)
  replace HB := hid (below_grown HB.out hgp HLp.out HB.out.size)
  have RWp := hid hrp
  clear hsb hrp hgp hzp e4 r4 hqp HNp
  refine (rOf9_yes w4 c D HC.out).mono ?_
  rintro e w5 ⟨v, rfl, hcr, hb⟩
  obtain ⟨vp, vn, vb, vx, vy, rfl, k1, k2, k3, k4, k5⟩ := hcr
  obtain ⟨Ap, np, cp, rfl⟩ := k1.sl
  obtain ⟨An, nn, cn, rfl⟩ := k2.sl
  obtain ⟨Ab, nb, cb, rfl⟩ := k3.sl
  obtain ⟨Ax, nx, cx, rfl⟩ := k4.sl
  obtain ⟨Ay, ny, cy, rfl⟩ := k5.sl
  replace Hks := hid (Hks.out.later hb)
  replace Has := hid (Has.out.later hb)
  replace Hkn := hid (Hkn.out.later hb)
  replace Hpg := hid (Hpg.out.later hb)
  replace RWp := hid (RWp.out.later hb)
  replace HB := hid (HB.out.trans (hb.mono HB.out.size))
  have Hcr := hid (show Cr _ _ D from ⟨_, _, _, _, _, rfl, k1, k2, k3, k4, k5⟩)
  clear hb k1 k2 k3 k4 k5
  obtain ⟨W6, e6, r6, b6, s6⟩ := newS w5 30 [.slice none 0 0, .slice none 0 0, .slice none 0 0, .slice none 0 0, .slice none 0 0, .int .i64 0] _ rfl
  obtain ⟨gx, hqx⟩ : ∃ x, w5.heap.size = x := ⟨_, rfl⟩
  rw [hqx] at r6
  have HLx := hid (show w.heap.size ≤ gx by have := HB.out.size; omega)
  have HNEpx := hid (show gp ≠ gx by have := RWp.out.lt; omega)
  have HNx := hid (NoU.of_row r6 (noU6 nofun nofun nofun nofun nofun))
  replace Hks := hid (Hks.out.later b6)
  replace Has := hid (Has.out.later b6)
  replace Hkn := hid (Hkn.out.later b6)
  replace Hpg := hid (Hpg.out.later b6)
  replace Hcr := hid (Hcr.out.later b6)
  replace RWp := hid (RWp.out.later b6)
  replace HB := hid (HB.out.trans (b6.mono HB.out.size))
  clear b6 s6
  go_wp2_with ((with_reducible show wpList _ _ _ (⟨none, _, _, _, _, _⟩ :: _) _ _); refine wlS_store rfl 30 6 Tryz.sizeCr _ _ rfl gx [.slice Ap np cp, .slice An nn cn, .slice Ab nb cb, .slice Ax nx cx, .slice Ay ny cy, .int .i64 (D.size : Int)] rfl rfl 30 _ r6 rfl rfl (ones6 rfl rfl rfl rfl rfl rfl) ?_; intro w6 hrx hgx hzx; have p0 := (RWp.out.grown hgx HNEpx.out).at_ (i := 0) rfl; have p1 := (RWp.out.grown hgx HNEpx.out).at_ (i := 1) rfl; have p2 := (RWp.out.grown hgx HNEpx.out).at_ (i := 2) rfl)
  have hsb : Sb W6 w6 := ⟨gx, HNx.out, hgx⟩
  replace Hks := hid (Hks.out.sb hsb)
  replace Has := hid (Has.out.sb hsb)
  replace Hkn := hid (Hkn.out.sb hsb)
  replace Hpg := hid (Hpg.out.sb hsb)
  replace Hcr := hid (Hcr.out.sb hsb)
  replace RWp := hid (RWp.out.grown hgx HNEpx.out)
  replace HB := hid (below_grown HB.out hgx HLx.out HB.out.size)
  have RWx := hid hrx
  clear hsb hrx hgx hzx e6 r6 hqx HNx p0 p1 p2
  refine (rFrom9_pg w6 _ P Hpg.out).mono ?_
  rintro e w7 ⟨v, rfl, hu, hb⟩
  obtain ⟨tu, Au, nu, cu, Bu, mu, du, rfl⟩ := hu.three
  replace Hks := hid (Hks.out.later hb)
  replace Has := hid (Has.out.later hb)
  replace Hkn := hid (Hkn.out.later hb)
  replace Hpg := hid (Hpg.out.later hb)
  replace Hcr := hid (Hcr.out.later hb)
  replace RWp := hid (RWp.out.later hb)
  replace RWx := hid (RWx.out.later hb)
  replace HB := hid (HB.out.trans (hb.mono HB.out.size))
  have Hu := hid (hu)
  clear hb hu
  obtain ⟨W8, e8, r8, b8, s8⟩ := newS w7 33 [.bool false, .slice none 0 0, .slice none 0 0] _ rfl
  obtain ⟨gu, hqu⟩ : ∃ x, w7.heap.size = x := ⟨_, rfl⟩
  rw [hqu] at r8
  have HLu := hid (show w.heap.size ≤ gu by have := HB.out.size; omega)
  have HNEpu := hid (show gp ≠ gu by have := RWp.out.lt; omega)
  have HNExu := hid (show gx ≠ gu by have := RWx.out.lt; omega)
  have HNu := hid (NoU.of_row r8 (noU3 nofun nofun nofun))
  replace Hks := hid (Hks.out.later b8)
  replace Has := hid (Has.out.later b8)
  replace Hkn := hid (Hkn.out.later b8)
  replace Hpg := hid (Hpg.out.later b8)
  replace Hcr := hid (Hcr.out.later b8)
  replace Hu := hid (Hu.out.later b8)
  replace RWp := hid (RWp.out.later b8)
  replace RWx := hid (RWx.out.later b8)
  replace HB := hid (HB.out.trans (b8.mono HB.out.size))
  clear b8 s8
  go_wp2_with ((with_reducible show wpList _ _ _ (⟨none, _, _, _, _, _⟩ :: _) _ _); refine wlS_store rfl 33 3 Tryz.sizeRp _ _ rfl gu [.bool tu, .slice Au nu cu, .slice Bu mu du] rfl rfl 33 _ r8 rfl rfl (ones3 rfl rfl rfl) ?_; intro w8 hru hgu hzu; have p0 := (RWp.out.grown hgu HNEpu.out).at_ (i := 0) rfl; have p1 := (RWp.out.grown hgu HNEpu.out).at_ (i := 1) rfl; have p2 := (RWp.out.grown hgu HNEpu.out).at_ (i := 2) rfl)
  have hsb : Sb W8 w8 := ⟨gu, HNu.out, hgu⟩
  replace Hks := hid (Hks.out.sb hsb)
  replace Has := hid (Has.out.sb hsb)
  replace Hkn := hid (Hkn.out.sb hsb)
  replace Hpg := hid (Hpg.out.sb hsb)
  replace Hcr := hid (Hcr.out.sb hsb)
  replace Hu := hid (Hu.out.sb hsb)
  replace RWp := hid (RWp.out.grown hgu HNEpu.out)
  replace RWx := hid (RWx.out.grown hgu HNExu.out)
  replace HB := hid (below_grown HB.out hgu HLu.out HB.out.size)
  have RWu := hid hru
  clear hsb hru hgu hzu e8 r8 hqu HNu p0 p1 p2
  refine (cMul_no w8 c D HC.out _ _ P Hpg.out HAS.out).mono ?_
  rintro e w9 ⟨rfl, hb⟩
  replace Hks := hid (Hks.out.later hb)
  replace Has := hid (Has.out.later hb)
  replace Hkn := hid (Hkn.out.later hb)
  replace Hpg := hid (Hpg.out.later hb)
  replace Hcr := hid (Hcr.out.later hb)
  replace Hu := hid (Hu.out.later hb)
  replace RWp := hid (RWp.out.later hb)
  replace RWx := hid (RWx.out.later hb)
  replace RWu := hid (RWu.out.later hb)
  replace HB := hid (HB.out.trans (hb.mono HB.out.size))
  clear hb
  obtain ⟨W10, e10, r10, b10, s10⟩ := newS w9 26 [.bool false, .slice none 0 0, .slice none 0 0] _ rfl
  obtain ⟨gm, hqm⟩ : ∃ x, w9.heap.size = x := ⟨_, rfl⟩
  rw [hqm] at r10
  have HLm := hid (show w.heap.size ≤ gm by have := HB.out.size; omega)
  have HNEpm := hid (show gp ≠ gm by have := RWp.out.lt; omega)
  have HNExm := hid (show gx ≠ gm by have := RWx.out.lt; omega)
  have HNEum := hid (show gu ≠ gm by have := RWu.out.lt; omega)
  have HNm := hid (NoU.of_row r10 (noU3 nofun nofun nofun))
  replace Hks := hid (Hks.out.later b10)
  replace Has := hid (Has.out.later b10)
  replace Hkn := hid (Hkn.out.later b10)
  replace Hpg := hid (Hpg.out.later b10)
  replace Hcr := hid (Hcr.out.later b10)
  replace Hu := hid (Hu.out.later b10)
  replace RWp := hid (RWp.out.later b10)
  replace RWx := hid (RWx.out.later b10)
  replace RWu := hid (RWu.out.later b10)
  replace HB := hid (HB.out.trans (b10.mono HB.out.size))
  clear b10 s10
  go_wp2_with ((with_reducible show wpList _ _ _ (⟨none, _, _, _, _, _⟩ :: _) _ _); refine wlS_store rfl 26 3 Tryz.sizePt _ _ rfl gm [.bool true, .slice none 0 0, .slice none 0 0] rfl rfl 26 _ r10 rfl rfl (ones3 rfl rfl rfl) ?_; intro w10 hrm hgm hzm; have c0 := (RWx.out.grown hgm HNExm.out).at_ (i := 0) rfl; have c1 := (RWx.out.grown hgm HNExm.out).at_ (i := 1) rfl; have c2 := (RWx.out.grown hgm HNExm.out).at_ (i := 2) rfl; have c3 := (RWx.out.grown hgm HNExm.out).at_ (i := 3) rfl; have c4 := (RWx.out.grown hgm HNExm.out).at_ (i := 4) rfl; have c5 := (RWx.out.grown hgm HNExm.out).at_ (i := 5) rfl; have u0 := (RWu.out.grown hgm HNEum.out).at_ (i := 0) rfl; have u1 := (RWu.out.grown hgm HNEum.out).at_ (i := 1) rfl; have u2 := (RWu.out.grown hgm HNEum.out).at_ (i := 2) rfl)
  have hsb : Sb W10 w10 := ⟨gm, HNm.out, hgm⟩
  replace Hks := hid (Hks.out.sb hsb)
  replace Has := hid (Has.out.sb hsb)
  replace Hkn := hid (Hkn.out.sb hsb)
  replace Hpg := hid (Hpg.out.sb hsb)
  replace Hcr := hid (Hcr.out.sb hsb)
  replace Hu := hid (Hu.out.sb hsb)
  replace RWp := hid (RWp.out.grown hgm HNEpm.out)
  replace RWx := hid (RWx.out.grown hgm HNExm.out)
  replace RWu := hid (RWu.out.grown hgm HNEum.out)
  replace HB := hid (below_grown HB.out hgm HLm.out HB.out.size)
  have RWm := hid hrm
  clear hsb hrm hgm hzm e10 r10 hqm HNm c0 c1 c2 c3 c4 c5 u0 u1 u2
  refine (on9_yes w10 c D HC.out _ _ P Hcr.out Hu.out).mono ?_
  rintro e w11 ⟨rfl, hb⟩
  have hdec : decide (hasN D.p D.b P) = false := decide_eq_false HAS.out
  rw [hdec]
  clear hdec
  replace Hks := hid (Hks.out.later hb)
  replace Has := hid (Has.out.later hb)
  replace Hkn := hid (Hkn.out.later hb)
  replace Hpg := hid (Hpg.out.later hb)
  replace Hcr := hid (Hcr.out.later hb)
  replace Hu := hid (Hu.out.later hb)
  replace RWp := hid (RWp.out.later hb)
  replace RWx := hid (RWx.out.later hb)
  replace RWu := hid (RWu.out.later hb)
  replace RWm := hid (RWm.out.later hb)
  replace HB := hid (HB.out.trans (hb.mono HB.out.size))
  clear hb
  have m0 := RWm.out.at_ (i := 0) rfl
  have m1 := RWm.out.at_ (i := 1) rfl
  go_wp2
  go_ret
  exact ⟨rfl, HB.out⟩
theorem mul9_walk (w : World) (c : Int) (Ak Aa : Option Addr) (nk ck na ca : Nat) (xs ys : List Nat) (hk : CutS w (.slice Ak nk ck) xs) (hkd : Dg b64 xs) (ha : CutS w (.slice Aa na ca) ys) (had : Dg b64 ys) (hal : na ≤ 1048576) (sp : Bool) : Calls Tryz.prog 4 #[.int .i64 c, .slice Ak nk ck, .slice Aa na ca, .bool sp] w fun e w' => RetV w (.bool true) e w' := by
 rcases h : crvOf c with _ | D
 ·exact mul9_none w c h Ak Aa nk ck na ca xs ys hk hkd ha had hal sp
 ·exact mul9_yes w c D h Ak Aa nk ck na ca xs ys hk hkd ha had hal sp
end Go.Proofs.YtbejcollbkeedaaGreat
