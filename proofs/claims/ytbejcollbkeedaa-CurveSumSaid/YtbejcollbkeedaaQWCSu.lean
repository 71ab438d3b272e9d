/- CurveSum, walked. -/
import Derived.Test.YtbejcollbkeedaaPileS9
set_option linter.unusedVariables false
set_option linter.unusedSimpArgs false
set_option linter.unusedSectionVars false
set_option maxRecDepth 100000
set_option maxHeartbeats 8000000
open Go.Lib (hid)
namespace Go.Proofs.Ytbejcollbkeedaa
open Go.RowKit
attribute [local go_sem] Oper.semAt_some
theorem sum9_none (w : World) (c : Int) (hc : crvOf c = none) (Aa Ab : Option Addr) (na ca nb cb : Nat) (xs ys : List Nat) (ha : CutS w (.slice Aa na ca) xs) (had : Dg b64 xs) (hb : CutS w (.slice Ab nb cb) ys) (hbd : Dg b64 ys) : Calls Try.prog 3 #[.int .i64 c, .slice Aa na ca, .slice Ab nb cb] w fun e w' => RetV w (.bool true) e w' := by
 have HC := hid hc
 have hmx : Try.prog.follows .mixedOrders = true := by kernel_rfl
 have HAD := hid had
 have HBD := hid hbd
 have HB := hid (Below.refl w.heap.size w)
 have Hxs := hid ha
 have Hys := hid hb
 clear hc had ha hbd hb
 go_enter Try.func3, Try.ntmps3
 go_wp2_with fail
 refine (begun9_any w).mono ?_
 rintro e w1 ⟨rfl, hb⟩
 replace Hxs := hid (Hxs.out.later hb)
 replace Hys := hid (Hys.out.later hb)
 replace HB := hid (HB.out.trans (hb.mono HB.out.size))
 clear hb
 go_wp2_with fail
 obtain ⟨A1, n1, c1, e1, hs1⟩ := Hxs.out
 cases e1
 refine (cut_c w1 _ _ _ xs hs1 4 (by decide)).mono ?_
 rintro e w2 ⟨vj, rfl, hkc, hb⟩
 replace Hxs := hid (Hxs.out.later hb)
 replace Hys := hid (Hys.out.later hb)
 replace HB := hid (HB.out.trans (hb.mono HB.out.size))
 have Hkc := hid (hkc)
 clear hb hs1 hkc
 obtain ⟨Aj, nj, cj, rfl, -⟩ : ∃ A n c, vj = .slice A n c ∧ True := (by obtain ⟨A, n, c, e, -⟩ := Hkc.out; exact ⟨A, n, c, e, trivial⟩)
 have Hkj := hid (Hkc.out.num (HAD.out.take 4) (by rw [List.length_take]; omega))
 obtain ⟨jN, hkN⟩ : ∃ k, V b64 (xs.take 4) = k := ⟨_, rfl⟩
 rw [hkN] at Hkj
 have HLj := hid (show jN < b64 ^ 4 by rw [← hkN]; exact Nat.lt_of_lt_of_le (V_lt _ (HAD.out.take 4)) (Nat.pow_le_pow_right (by decide) (by rw [List.length_take]; omega)))
 clear hkN Hkc
 go_wp2_with fail
 obtain ⟨A1, n1, c1, e1, hs1⟩ := Hys.out
 cases e1
 refine (cut_c w2 _ _ _ ys hs1 4 (by decide)).mono ?_
 rintro e w3 ⟨vk, rfl, hkc, hb⟩
 replace Hxs := hid (Hxs.out.later hb)
 replace Hys := hid (Hys.out.later hb)
 replace Hkj := hid (Hkj.out.later hb)
 replace HB := hid (HB.out.trans (hb.mono HB.out.size))
 have Hkc := hid (hkc)
 clear hb hs1 hkc
 obtain ⟨Ak, nk, ck, rfl, -⟩ : ∃ A n c, vk = .slice A n c ∧ True := (by obtain ⟨A, n, c, e, -⟩ := Hkc.out; exact ⟨A, n, c, e, trivial⟩)
 have Hkk := hid (Hkc.out.num (HBD.out.take 4) (by rw [List.length_take]; omega))
 obtain ⟨kN, hkN⟩ : ∃ k, V b64 (ys.take 4) = k := ⟨_, rfl⟩
 rw [hkN] at Hkk
 have HLk := hid (show kN < b64 ^ 4 by rw [← hkN]; exact Nat.lt_of_lt_of_le (V_lt _ (HBD.out.take 4)) (Nat.pow_le_pow_right (by decide) (by rw [List.length_take]; omega)))
 clear hkN Hkc
 go_wp2_with fail
 refine (rOf9_no w3 c HC.out).mono ?_
 rintro e w4 ⟨rfl, hb⟩
 replace Hxs := hid (Hxs.out.later hb)
 replace Hys := hid (Hys.out.later hb)
 replace Hkj := hid (Hkj.out.later hb)
 replace Hkk := hid (Hkk.out.later hb)
 replace HB := hid (HB.out.trans (hb.mono HB.out.size))
 clear hb
 obtain ⟨W5, e5, r5, b5, s5⟩ := newS w4 28 [.slice none 0 0, .slice none 0 0, .slice none 0 0, .slice none 0 0, .slice none 0 0, .int .i64 0] _ rfl
 obtain ⟨gx, hqx⟩ : ∃ x, w4.heap.size = x := ⟨_, rfl⟩
 rw [hqx] at r5
 have HLx := hid (show w.heap.size ≤ gx by have := HB.out.size; omega)
 have HNx := hid (NoU.of_row r5 (noU6 nofun nofun nofun nofun nofun))
 replace Hxs := hid (Hxs.out.later b5)
 replace Hys := hid (Hys.out.later b5)
 replace Hkj := hid (Hkj.out.later b5)
 replace Hkk := hid (Hkk.out.later b5)
 replace HB := hid (HB.out.trans (b5.mono HB.out.size))
 clear b5 s5
 go_wp2_with ((with_reducible show wpList _ _ _ (⟨none, _, _, _, _, _⟩ :: _) _ _); refine wlS_store rfl 28 6 Try.sizeCr _ _ rfl gx [.slice none 0 0, .slice none 0 0, .slice none 0 0, .slice none 0 0, .slice none 0 0, .int .i64 0] rfl rfl 28 _ r5 rfl rfl (ones6 rfl rfl rfl rfl rfl rfl) ?_; intro w5 hrx hgx hzx; have c5 := hrx.at_ (i := 5) rfl)
 go_ret
 exact ⟨rfl, below_grown HB.out hgx HLx.out HB.out.size⟩
theorem sum9_yes (w : World) (c : Int) (D : Crv) (hc : crvOf c = some D) (Aa Ab : Option Addr) (na ca nb cb : Nat) (xs ys : List Nat) (ha : CutS w (.slice Aa na ca) xs) (had : Dg b64 xs) (hb : CutS w (.slice Ab nb cb) ys) (hbd : Dg b64 ys) : Calls Try.prog 3 #[.int .i64 c, .slice Aa na ca, .slice Ab nb cb] w fun e w' => RetV w (.bool true) e w' := by
 have HC := hid hc
 have hmx : Try.prog.follows .mixedOrders = true := by kernel_rfl
 have HAD := hid had
 have HBD := hid hbd
 have HB := hid (Below.refl w.heap.size w)
 have Hxs := hid ha
 have Hys := hid hb
 clear hc had ha hbd hb
 have HLIM := hid (crv_lims HC.out)
 have hz5 := HLIM.out.2.2.2.2.2.2.2.2.2
 go_enter Try.func3, Try.ntmps3
 go_wp2_with fail
 refine (begun9_any w).mono ?_
 rintro e w1 ⟨rfl, hb⟩
 replace Hxs := hid (Hxs.out.later hb)
 replace Hys := hid (Hys.out.later hb)
 replace HB := hid (HB.out.trans (hb.mono HB.out.size))
 clear hb
 go_wp2_with fail
 obtain ⟨A1, n1, c1, e1, hs1⟩ := Hxs.out
 cases e1
 refine (cut_c w1 _ _ _ xs hs1 4 (by decide)).mono ?_
 rintro e w2 ⟨vj, rfl, hkc, hb⟩
 replace Hxs := hid (Hxs.out.later hb)
 replace Hys := hid (Hys.out.later hb)
 replace HB := hid (HB.out.trans (hb.mono HB.out.size))
 have Hkc := hid (hkc)
 clear hb hs1 hkc
 obtain ⟨Aj, nj, cj, rfl, -⟩ : ∃ A n c, vj = .slice A n c ∧ True := (by obtain ⟨A, n, c, e, -⟩ := Hkc.out; exact ⟨A, n, c, e, trivial⟩)
 have Hkj := hid (Hkc.out.num (HAD.out.take 4) (by rw [List.length_take]; omega))
 obtain ⟨jN, hkN⟩ : ∃ k, V b64 (xs.take 4) = k := ⟨_, rfl⟩
 rw [hkN] at Hkj
 have HLj := hid (show jN < b64 ^ 4 by rw [← hkN]; exact Nat.lt_of_lt_of_le (V_lt _ (HAD.out.take 4)) (Nat.pow_le_pow_right (by decide) (by rw [List.length_take]; omega)))
 clear hkN Hkc
 go_wp2_with fail
 obtain ⟨A1, n1, c1, e1, hs1⟩ := Hys.out
 cases e1
 refine (cut_c w2 _ _ _ ys hs1 4 (by decide)).mono ?_
 rintro e w3 ⟨vk, rfl, hkc, hb⟩
 replace Hxs := hid (Hxs.out.later hb)
 replace Hys := hid (Hys.out.later hb)
 replace Hkj := hid (Hkj.out.later hb)
 replace HB := hid (HB.out.trans (hb.mono HB.out.size))
 have Hkc := hid (hkc)
 clear hb hs1 hkc
 obtain ⟨Ak, nk, ck, rfl, -⟩ : ∃ A n c, vk = .slice A n c ∧ True := (by obtain ⟨A, n, c, e, -⟩ := Hkc.out; exact ⟨A, n, c, e, trivial⟩)
 have Hkk := hid (Hkc.out.num (HBD.out.take 4) (by rw [List.length_take]; omega))
 obtain ⟨kN, hkN⟩ : ∃ k, V b64 (ys.take 4) = k := ⟨_, rfl⟩
 rw [hkN] at Hkk
 have HLk := hid (show kN < b64 ^ 4 by rw [← hkN]; exact Nat.lt_of_lt_of_le (V_lt _ (HBD.out.take 4)) (Nat.pow_le_pow_right (by decide) (by rw [List.length_take]; omega)))
 clear hkN Hkc
 go_wp2_with fail
 refine (rOf9_yes w3 c D HC.out).mono ?_
 rintro e w4 ⟨v, rfl, hcr, hb⟩
 obtain ⟨vp, vn, vb, vx, vy, rfl, k1, k2, k3, k4, k5⟩ := hcr
 obtain ⟨Ap, np, cp, rfl⟩ := k1.sl
 obtain ⟨An, nn, cn, rfl⟩ := k2.sl
 obtain ⟨Abb, nbb, cbb, rfl⟩ := k3.sl
 obtain ⟨Ax, nx, cx, rfl⟩ := k4.sl
 obtain ⟨Ay, ny, cy, rfl⟩ := k5.sl
 replace Hxs := hid (Hxs.out.later hb)
 replace Hys := hid (Hys.out.later hb)
 replace Hkj := hid (Hkj.out.later hb)
 replace Hkk := hid (Hkk.out.later hb)
 replace HB := hid (HB.out.trans (hb.mono HB.out.size))
 clear hb k1 k2 k3 k4 k5
 obtain ⟨W5, e5, r5, b5, s5⟩ := newS w4 28 [.slice none 0 0, .slice none 0 0, .slice none 0 0, .slice none 0 0, .slice none 0 0, .int .i64 0] _ rfl
 obtain ⟨gx, hqx⟩ : ∃ x, w4.heap.size = x := ⟨_, rfl⟩
 rw [hqx] at r5
 have HLx := hid (show w.heap.size ≤ gx by have := HB.out.size; omega)
 have HNx := hid (NoU.of_row r5 (noU6 nofun nofun nofun nofun nofun))
 replace Hxs := hid (Hxs.out.later b5)
 replace Hys := hid (Hys.out.later b5)
 replace Hkj := hid (Hkj.out.later b5)
 replace Hkk := hid (Hkk.out.later b5)
 replace HB := hid (HB.out.trans (b5.mono HB.out.size))
 clear b5 s5
 go_wp2_with ((with_reducible show wpList _ _ _ (⟨none, _, _, _, _, _⟩ :: _) _ _); refine wlS_store rfl 28 6 Try.sizeCr _ _ rfl gx [.slice Ap np cp, .slice An nn cn, .slice Abb nbb cbb, .slice Ax nx cx, .slice Ay ny cy, .int .i64 (D.size : Int)] rfl rfl 28 _ r5 rfl rfl (ones6 rfl rfl rfl rfl rfl rfl) ?_; intro w5 hrx hgx hzx; have c5 := hrx.at_ (i := 5) rfl)
 have hsb : Sb W5 w5 := ⟨gx, HNx.out, hgx⟩
 replace Hxs := hid (Hxs.out.sb hsb)
 replace Hys := hid (Hys.out.sb hsb)
 replace Hkj := hid (Hkj.out.sb hsb)
 replace Hkk := hid (Hkk.out.sb hsb)
 replace HB := hid (below_grown HB.out hgx HLx.out HB.out.size)
 have RWx := hid hrx
 clear hsb hrx hgx hzx e5 r5 hqx HNx
 clear c5
 refine (cBase_yes w5 c D HC.out).mono ?_
 rintro e w6 ⟨v, rfl, hm, hb⟩
 obtain ⟨t0, A0, n0, c0, B0, m0, d0, rfl⟩ := hm.three'
 replace Hxs := hid (Hxs.out.later hb)
 replace Hys := hid (Hys.out.later hb)
 replace Hkj := hid (Hkj.out.later hb)
 replace Hkk := hid (Hkk.out.later hb)
 replace RWx := hid (RWx.out.later hb)
 replace HB := hid (HB.out.trans (hb.mono HB.out.size))
 have Hb := hid (hm)
 clear hb hm
 obtain ⟨W7, e7, r7, b7, s7⟩ := newS w6 31 [.bool false, .slice none 0 0, .slice none 0 0] _ rfl
 obtain ⟨gb, hqb⟩ : ∃ x, w6.heap.size = x := ⟨_, rfl⟩
 rw [hqb] at r7
 have HLb := hid (show w.heap.size ≤ gb by have := HB.out.size; omega)
 have HNExb := hid (show gx ≠ gb by have := RWx.out.lt; omega)
 have HNb := hid (NoU.of_row r7 (noU3 nofun nofun nofun))
 replace Hxs := hid (Hxs.out.later b7)
 replace Hys := hid (Hys.out.later b7)
 replace Hkj := hid (Hkj.out.later b7)
 replace Hkk := hid (Hkk.out.later b7)
 replace Hb := hid (Hb.out.later b7)
 replace RWx := hid (RWx.out.later b7)
 replace HB := hid (HB.out.trans (b7.mono HB.out.size))
 clear b7 s7
 go_wp2_with ((with_reducible show wpList _ _ _ (⟨none, _, _, _, _, _⟩ :: _) _ _); refine wlS_store rfl 31 3 Try.sizePt _ _ rfl gb [.bool t0, .slice A0 n0 c0, .slice B0 m0 d0] rfl rfl 31 _ r7 rfl rfl (ones3 rfl rfl rfl) ?_; intro w7 hrb hgb hzb; have p0 := hrb.at_ (i := 0) rfl; have p1 := hrb.at_ (i := 1) rfl; have p2 := hrb.at_ (i := 2) rfl)
 have hsb : Sb W7 w7 := ⟨gb, HNb.out, hgb⟩
 replace Hxs := hid (Hxs.out.sb hsb)
 replace Hys := hid (Hys.out.sb hsb)
 replace Hkj := hid (Hkj.out.sb hsb)
 replace Hkk := hid (Hkk.out.sb hsb)
 replace Hb := hid (Hb.out.sb hsb)
 replace RWx := hid (RWx.out.grown hgb HNExb.out)
 replace HB := hid (below_grown HB.out hgb HLb.out HB.out.size)
 have RWb := hid hrb
 clear hsb hrb hgb hzb e7 r7 hqb HNb
 refine (cmul_is w7 c D HC.out _ _ jN Hkj.out (some (D.gx, D.gy)) Hb.out.pg (has_base HC.out)).mono ?_
 rintro e w8 ⟨v, R1, k0, rfl, hk0, hR, hm, hb⟩
 obtain ⟨tp, Ap, np, cp, Bp, mp, dp, rfl⟩ := hm.three'
 have HMp := hid (base_mult HC.out jN hk0 hR)
 replace Hxs := hid (Hxs.out.later hb)
 replace Hys := hid (Hys.out.later hb)
 replace Hkj := hid (Hkj.out.later hb)
 replace Hkk := hid (Hkk.out.later hb)
 replace Hb := hid (Hb.out.later hb)
 replace RWx := hid (RWx.out.later hb)
 replace RWb := hid (RWb.out.later hb)
 replace HB := hid (HB.out.trans (hb.mono HB.out.size))
 have Hp := hid (hm)
 clear hb hm hk0 hR p0 p1 p2
 obtain ⟨W9, e9, r9, b9, s9⟩ := newS w8 31 [.bool false, .slice none 0 0, .slice none 0 0] _ rfl
 obtain ⟨gp, hqp⟩ : ∃ x, w8.heap.size = x := ⟨_, rfl⟩
 rw [hqp] at r9
 have HLp := hid (show w.heap.size ≤ gp by have := HB.out.size; omega)
 have HNExp := hid (show gx ≠ gp by have := RWx.out.lt; omega)
 have HNEbp := hid (show gb ≠ gp by have := RWb.out.lt; omega)
 have HNp := hid (NoU.of_row r9 (noU3 nofun nofun nofun))
 replace Hxs := hid (Hxs.out.later b9)
 replace Hys := hid (Hys.out.later b9)
 replace Hkj := hid (Hkj.out.later b9)
 replace Hkk := hid (Hkk.out.later b9)
 replace Hb := hid (Hb.out.later b9)
 replace Hp := hid (Hp.out.later b9)
 replace RWx := hid (RWx.out.later b9)
 replace RWb := hid (RWb.out.later b9)
 replace HB := hid (HB.out.trans (b9.mono HB.out.size))
 clear b9 s9
 go_wp2_with ((with_reducible show wpList _ _ _ (⟨none, _, _, _, _, _⟩ :: _) _ _); refine wlS_store rfl 31 3 Try.sizePt _ _ rfl gp [.bool tp, .slice Ap np cp, .slice Bp mp dp] rfl rfl 31 _ r9 rfl rfl (ones3 rfl rfl rfl) ?_; intro w9 hrp hgp hzp; have p0 := (RWb.out.grown hgp HNEbp.out).at_ (i := 0) rfl; have p1 := (RWb.out.grown hgp HNEbp.out).at_ (i := 1) rfl; have p2 := (RWb.out.grown hgp HNEbp.out).at_ (i := 2) rfl)
 have hsb : Sb W9 w9 := ⟨gp, HNp.out, hgp⟩
 replace Hxs := hid (Hxs.out.sb hsb)
 replace Hys := hid (Hys.out.sb hsb)
 replace Hkj := hid (Hkj.out.sb hsb)
 replace Hkk := hid (Hkk.out.sb hsb)
 replace Hb := hid (Hb.out.sb hsb)
 replace Hp := hid (Hp.out.sb hsb)
 replace RWx := hid (RWx.out.grown hgp HNExp.out)
 replace RWb := hid (RWb.out.grown hgp HNEbp.out)
 replace HB := hid (below_grown HB.out hgp HLp.out HB.out.size)
 have RWp := hid hrp
 clear hsb hrp hgp hzp e9 r9 hqp HNp
 refine (cmul_is w9 c D HC.out _ _ kN Hkk.out (some (D.gx, D.gy)) Hb.out.pg (has_base HC.out)).mono ?_
 rintro e w10 ⟨v, R2, k0, rfl, hk0, hR, hm, hb⟩
 obtain ⟨tq, Aq, nq, cq, Bq, mq, dq, rfl⟩ := hm.three'
 have HMq := hid (base_mult HC.out kN hk0 hR)
 replace Hxs := hid (Hxs.out.later hb)
 replace Hys := hid (Hys.out.later hb)
 replace Hkj := hid (Hkj.out.later hb)
 replace Hkk := hid (Hkk.out.later hb)
 replace Hb := hid (Hb.out.later hb)
 replace Hp := hid (Hp.out.later hb)
 replace RWx := hid (RWx.out.later hb)
 replace RWb := hid (RWb.out.later hb)
 replace RWp := hid (RWp.out.later hb)
 replace HB := hid (HB.out.trans (hb.mono HB.out.size))
 have Hq := hid (hm)
 clear hb hm hk0 hR p0 p1 p2
 obtain ⟨W11, e11, r11, b11, s11⟩ := newS w10 31 [.bool false, .slice none 0 0, .slice none 0 0] _ rfl
 obtain ⟨gq, hqq⟩ : ∃ x, w10.heap.size = x := ⟨_, rfl⟩
 rw [hqq] at r11
 have HLq := hid (show w.heap.size ≤ gq by have := HB.out.size; omega)
 have HNExq := hid (show gx ≠ gq by have := RWx.out.lt; omega)
 have HNEbq := hid (show gb ≠ gq by have := RWb.out.lt; omega)
 have HNEpq := hid (show gp ≠ gq by have := RWp.out.lt; omega)
 have HNq := hid (NoU.of_row r11 (noU3 nofun nofun nofun))
 replace Hxs := hid (Hxs.out.later b11)
 replace Hys := hid (Hys.out.later b11)
 replace Hkj := hid (Hkj.out.later b11)
 replace Hkk := hid (Hkk.out.later b11)
 replace Hb := hid (Hb.out.later b11)
 replace Hp := hid (Hp.out.later b11)
 replace Hq := hid (Hq.out.later b11)
 replace RWx := hid (RWx.out.later b11)
 replace RWb := hid (RWb.out.later b11)
 replace RWp := hid (RWp.out.later b11)
 replace HB := hid (HB.out.trans (b11.mono HB.out.size))
 clear b11 s11
 go_wp2_with ((with_reducible show wpList _ _ _ (⟨none, _, _, _, _, _⟩ :: _) _ _); refine wlS_store rfl 31 3 Try.sizePt _ _ rfl gq [.bool tq, .slice Aq nq cq, .slice Bq mq dq] rfl rfl 31 _ r11 rfl rfl (ones3 rfl rfl rfl) ?_; intro w11 hrq hgq hzq; have p0 := (RWp.out.grown hgq HNEpq.out).at_ (i := 0) rfl; have p1 := (RWp.out.grown hgq HNEpq.out).at_ (i := 1) rfl; have p2 := (RWp.out.grown hgq HNEpq.out).at_ (i := 2) rfl; have q0 := hrq.at_ (i := 0) rfl; have q1 := hrq.at_ (i := 1) rfl; have q2 := hrq.at_ (i := 2) rfl)
 have hsb : Sb W11 w11 := ⟨gq, HNq.out, hgq⟩
 replace Hxs := hid (Hxs.out.sb hsb)
 replace Hys := hid (Hys.out.sb hsb)
 replace Hkj := hid (Hkj.out.sb hsb)
 replace Hkk := hid (Hkk.out.sb hsb)
 replace Hb := hid (Hb.out.sb hsb)
 replace Hp := hid (Hp.out.sb hsb)
 replace Hq := hid (Hq.out.sb hsb)
 replace RWx := hid (RWx.out.grown hgq HNExq.out)
 replace RWb := hid (RWb.out.grown hgq HNEbq.out)
 replace RWp := hid (RWp.out.grown hgq HNEpq.out)
 replace HB := hid (below_grown HB.out hgq HLq.out HB.out.size)
 have RWq := hid hrq
 clear hsb hrq hgq hzq e11 r11 hqq HNq
 refine (cadd_is w11 c D HC.out _ _ R1 R2 Hp.out.pg Hq.out.pg HMp.out.1 HMq.out.1).mono ?_
 rintro e w12 ⟨v, S, rfl, hR, hm, hb⟩
 obtain ⟨ts, As, ns, cs, Bs, ms, ds, rfl⟩ := hm.three'
 have HS := hid (sum_mult HC.out HMp.out.2 HMq.out.2 (add_lf HC.out HMp.out.1 HMq.out.1 hR))
 replace Hxs := hid (Hxs.out.later hb)
 replace Hys := hid (Hys.out.later hb)
 replace Hkj := hid (Hkj.out.later hb)
 replace Hkk := hid (Hkk.out.later hb)
 replace Hb := hid (Hb.out.later hb)
 replace Hp := hid (Hp.out.later hb)
 replace Hq := hid (Hq.out.later hb)
 replace RWx := hid (RWx.out.later hb)
 replace RWb := hid (RWb.out.later hb)
 replace RWp := hid (RWp.out.later hb)
 replace RWq := hid (RWq.out.later hb)
 replace HB := hid (HB.out.trans (hb.mono HB.out.size))
 have Hs := hid (hm)
 clear hb hm hR p0 p1 p2 q0 q1 q2
 obtain ⟨W13, e13, r13, b13, s13⟩ := newS w12 31 [.bool false, .slice none 0 0, .slice none 0 0] _ rfl
 obtain ⟨gs, hqs⟩ : ∃ x, w12.heap.size = x := ⟨_, rfl⟩
 rw [hqs] at r13
 have HLs := hid (show w.heap.size ≤ gs by have := HB.out.size; omega)
 have HNExs := hid (show gx ≠ gs by have := RWx.out.lt; omega)
 have HNEbs := hid (show gb ≠ gs by have := RWb.out.lt; omega)
 have HNEps := hid (show gp ≠ gs by have := RWp.out.lt; omega)
 have HNEqs := hid (show gq ≠ gs by have := RWq.out.lt; omega)
 have HNs := hid (NoU.of_row r13 (noU3 nofun nofun nofun))
 replace Hxs := hid (Hxs.out.later b13)
 replace Hys := hid (Hys.out.later b13)
 replace Hkj := hid (Hkj.out.later b13)
 replace Hkk := hid (Hkk.out.later b13)
 replace Hb := hid (Hb.out.later b13)
 replace Hp := hid (Hp.out.later b13)
 replace Hq := hid (Hq.out.later b13)
 replace Hs := hid (Hs.out.later b13)
 replace RWx := hid (RWx.out.later b13)
 replace RWb := hid (RWb.out.later b13)
 replace RWp := hid (RWp.out.later b13)
 replace RWq := hid (RWq.out.later b13)
 replace HB := hid (HB.out.trans (b13.mono HB.out.size))
 clear b13 s13
 go_wp2_with ((with_reducible show wpList _ _ _ (⟨none, _, _, _, _, _⟩ :: _) _ _); refine wlS_store rfl 31 3 Try.sizePt _ _ rfl gs [.bool ts, .slice As ns cs, .slice Bs ms ds] rfl rfl 31 _ r13 rfl rfl (ones3 rfl rfl rfl) ?_; intro w13 hrs hgs hzs)
 have hsb : Sb W13 w13 := ⟨gs, HNs.out, hgs⟩
 replace Hxs := hid (Hxs.out.sb hsb)
 replace Hys := hid (Hys.out.sb hsb)
 replace Hkj := hid (Hkj.out.sb hsb)
 replace Hkk := hid (Hkk.out.sb hsb)
 replace Hb := hid (Hb.out.sb hsb)
 replace Hp := hid (Hp.out.sb hsb)
 replace Hq := hid (Hq.out.sb hsb)
 replace Hs := hid (Hs.out.sb hsb)
 replace RWx := hid (RWx.out.grown hgs HNExs.out)
 replace RWb := hid (RWb.out.grown hgs HNEbs.out)
 replace RWp := hid (RWp.out.grown hgs HNEps.out)
 replace RWq := hid (RWq.out.grown hgs HNEqs.out)
 replace HB := hid (below_grown HB.out hgs HLs.out HB.out.size)
 have RWs := hid hrs
 clear hsb hrs hgs hzs e13 r13 hqs HNs
 refine (wpIn_wide (n := 9)).1 (wpIn_region_numS rfl hmx (fun _ => trivial) [(55, .val (.int .i64 c)), (56, .val (.slice Aj nj cj)), (57, .nb jN), (58, .val (.slice Ak nk ck)), (59, .nb kN), (60, .nb (jN + kN)), (61, .num (jN + kN)), (62, .val (.agg #[.bool t0, .slice A0 n0 c0, .slice B0 m0 d0])), (63, .ptT (S)), (54, .ptT (S)), (64, .pt' (S)), (65, .val (.bool true)), (16, .any), (17, .val (.bool true))] (by kernel_rfl) (by kernel_rfl) (by kernel_rfl) (by kernel_rfl) (by rfl) [⟨12, 13, 10, 16, 64, 31, 3, [.bool false, .slice none 0 0, .slice none 0 0]⟩] ?has10 ?hpw10 ?hops10 ?hend10)
 case has10 =>
  intro A hA
  simp only [List.mem_cons, List.not_mem_nil, or_false] at hA
  rcases hA with rfl
  exact ⟨⟨⟨_, rfl, rfl, rfl⟩, ⟨_, rfl, rfl, rfl⟩, ⟨_, rfl, rfl⟩, by decide, Try.sizePt, rfl, noU3 nofun nofun nofun, (fun ev o V h => by simp [execOp, h, go_sem]), (fun v V => trivial), fun v V h => Spc.pt_form v V h⟩, by rfl, by rfl⟩
 case hpw10 =>
  intro A hA A' hA'
  simp only [List.mem_cons, List.not_mem_nil, or_false] at hA hA'
  rcases hA with rfl <;> rcases hA' with rfl <;> simp
 case hops10 =>
  intro i o a' V hno hB ho hev hrd
  have n4 := hno _ (.head _)
  simp only at n4
  have his : i < 15 := by have := (Array.getElem?_eq_some_iff.1 ho).1; simpa using this
  have rb := RWb.out.later hB
  have hkj := Hkj.out.later hB
  have hkk := Hkk.out.later hB
  have hb := Hb.out.later hB
  have hcase : i = 0 ∨ i = 1 ∨ i = 2 ∨ i = 3 ∨ i = 4 ∨ i = 5 ∨ i = 6 ∨ i = 7 ∨ i = 8 ∨ i = 9 ∨ i = 10 ∨ i = 11 ∨ i = 12 ∨ i = 13 ∨ i = 14 := by omega
  rcases hcase with rfl | rfl | rfl | rfl | rfl | rfl | rfl | rfl | rfl | rfl | rfl | rfl | rfl | rfl | rfl
  ·simp at ho
   subst ho
   have r0 := hev 0 rfl
   simp [Act.eval] at r0
   refine ⟨nofun, fun _ _ => trivial, nofun, .inl ⟨.int .i64 c, V, ?_, Below.refl _ _, fun t ht => by cases ht; rfl⟩⟩
   simp [execOp, Act.eval, go_sem, r0]
  ·simp at ho
   subst ho
   have r1 := hev 1 rfl
   simp [Act.eval] at r1
   refine ⟨nofun, fun _ _ => trivial, nofun, .inl ⟨.slice Aj nj cj, V, ?_, Below.refl _ _, fun t ht => by cases ht; rfl⟩⟩
   simp [execOp, Act.eval, go_sem, r1]
  ·simp at ho
   subst ho
   have r56 : a'.eval (.tmp 56) = .slice Aj nj cj := hrd 56 rfl rfl
   simp [Act.eval] at r56
   refine ⟨nofun, fun _ _ => trivial, nofun, .inr ⟨12, #[.slice Aj nj cj], ?_, (callsIn_wide.2 (from_u V _ jN hkj)).mono ?_⟩⟩
   ·simp [execOp, Act.eval, r56, resolve, invoke, Deferred.ofValue]
   ·rintro e w' ⟨v, rfl, hv, hB2⟩
    exact ⟨_, rfl, hB2, fun t ht => by cases ht; exact hv⟩
  ·simp at ho
   subst ho
   have r2 := hev 2 rfl
   simp [Act.eval] at r2
   refine ⟨nofun, fun _ _ => trivial, nofun, .inl ⟨.slice Ak nk ck, V, ?_, Below.refl _ _, fun t ht => by cases ht; rfl⟩⟩
   simp [execOp, Act.eval, go_sem, r2]
  ·simp at ho
   subst ho
   have r58 : a'.eval (.tmp 58) = .slice Ak nk ck := hrd 58 rfl rfl
   simp [Act.eval] at r58
   refine ⟨nofun, fun _ _ => trivial, nofun, .inr ⟨12, #[.slice Ak nk ck], ?_, (callsIn_wide.2 (from_u V _ kN hkk)).mono ?_⟩⟩
   ·simp [execOp, Act.eval, r58, resolve, invoke, Deferred.ofValue]
   ·rintro e w' ⟨v, rfl, hv, hB2⟩
    exact ⟨_, rfl, hB2, fun t ht => by cases ht; exact hv⟩
  ·simp at ho
   subst ho
   have r57 : Nb V (a'.eval (.tmp 57)) jN := hrd 57 rfl rfl
   have r59 : Nb V (a'.eval (.tmp 59)) kN := hrd 59 rfl rfl
   refine ⟨nofun, fun _ _ => trivial, nofun, .inr ⟨11, #[a'.eval (.tmp 57), a'.eval (.tmp 59)], ?_, (callsIn_wide.2 (radd_b V _ _ jN kN r57 r59 (by have h1 := HLj.out; have h2 := HLk.out; have h3 : b64 ^ 4 + b64 ^ 4 < b32 ^ 4096 := (by decide +kernel); omega))).mono ?_⟩⟩
   ·simp [execOp, Act.eval, resolve, invoke, Deferred.ofValue]
   ·rintro e w' ⟨v, rfl, hv, hB2⟩
    exact ⟨_, rfl, hB2, fun t ht => by cases ht; exact hv⟩
  ·simp at ho
   subst ho
   have r60 : Nb V (a'.eval (.tmp 60)) (jN + kN) := hrd 60 rfl rfl
   refine ⟨nofun, fun _ _ => trivial, nofun, .inr ⟨10, #[a'.eval (.tmp 60)], ?_, (callsIn_wide.2 (to_u V _ (jN + kN) r60 (by have h1 := HLj.out; have h2 := HLk.out; have h3 : b64 ^ 4 + b64 ^ 4 < b64 ^ 64 := (by decide +kernel); omega))).mono ?_⟩⟩
   ·simp [execOp, Act.eval, resolve, invoke, Deferred.ofValue]
   ·rintro e w' ⟨v, rfl, hv, hB2⟩
    exact ⟨_, rfl, hB2, fun t ht => by cases ht; exact hv⟩
  ·simp at ho
   subst ho
   have r9 := hev 9 rfl
   simp [Act.eval] at r9
   try simp [Act.put] at r9
   refine ⟨nofun, fun _ _ => trivial, nofun, .inl ⟨.agg #[.bool t0, .slice A0 n0 c0, .slice B0 m0 d0], V, exec_load 31 3 _ Try.underlying31 rfl Try.sizePt _ rfl gb [.bool t0, .slice A0 n0 c0, .slice B0 m0 d0] (by simpa [Act.eval] using r9) 31 rb rfl, Below.refl _ _, fun t ht => by cases ht; rfl⟩⟩
  ·simp at ho
   subst ho
   have r55 : a'.eval (.tmp 55) = .int .i64 c := hrd 55 rfl rfl
   simp [Act.eval] at r55
   have r61 : Nu V (a'.eval (.tmp 61)) (jN + kN) := hrd 61 rfl rfl
   have r62 : a'.eval (.tmp 62) = .agg #[.bool t0, .slice A0 n0 c0, .slice B0 m0 d0] := hrd 62 rfl rfl
   simp [Act.eval] at r62
   refine ⟨nofun, fun _ _ => trivial, nofun, .inr ⟨8, #[.int .i64 c, a'.eval (.tmp 61), .agg #[.bool t0, .slice A0 n0 c0, .slice B0 m0 d0]], ?_, (callsIn_wide.2 (cmul_to V c D HC.out _ _ (jN + kN) r61.gu (some (D.gx, D.gy)) S hb.pg (has_base HC.out) HS.out.1 HS.out.2)).mono ?_⟩⟩
   ·simp [execOp, Act.eval, r55, r62, resolve, invoke, Deferred.ofValue]
   ·rintro e w' ⟨v, rfl, hv', hB2⟩
    have hv : (Spc.ptT (S)).P (.tuple #[v, .bool true]) w' := ⟨_, rfl, hv'⟩
    exact ⟨_, rfl, hB2, fun t ht => by cases ht; exact hv⟩
  ·simp at ho
   subst ho
   have r63 : (Spc.ptT (S)).P (a'.eval (.tmp 63)) V := hrd 63 rfl rfl
   refine ⟨nofun, fun _ _ => trivial, nofun, .inl ⟨a'.eval (.tmp 63), V, ?_, Below.refl _ _, fun t ht => by cases ht; exact r63⟩⟩
   simp [execOp]
  ·simp at ho
   subst ho
   have r54 : (Spc.ptT (S)).P (a'.eval (.tmp 54)) V := hrd 54 rfl rfl
   obtain ⟨u, hu1, hu2⟩ := r54
   simp [Act.eval] at hu1
   refine ⟨nofun, fun _ _ => trivial, nofun, .inl ⟨u, V, ?_, Below.refl _ _, fun t ht => by cases ht; exact hu2⟩⟩
   simp [execOp, Act.eval, go_sem, hu1]
  ·simp at ho
   subst ho
   have r54 : (Spc.ptT (S)).P (a'.eval (.tmp 54)) V := hrd 54 rfl rfl
   obtain ⟨u, hu1, hu2⟩ := r54
   simp [Act.eval] at hu1
   refine ⟨nofun, fun _ _ => trivial, nofun, .inl ⟨.bool true, V, ?_, Below.refl _ _, fun t ht => by cases ht; rfl⟩⟩
   simp [execOp, Act.eval, go_sem, hu1]
  ·simp at ho
   subst ho
   exact absurd rfl n4.1
  ·simp at ho
   subst ho
   exact absurd rfl n4.2
  ·simp at ho
   subst ho
   have r65 : a'.eval (.tmp 65) = .bool true := hrd 65 rfl rfl
   simp [Act.eval] at r65
   refine ⟨nofun, fun _ _ => trivial, nofun, .inl ⟨.bool true, V, ?_, Below.refl _ _, fun t ht => by cases ht; rfl⟩⟩
   simp [execOp, Act.eval, go_sem, r65]
 case hend10 =>
  intro vals10 V10 hb hP10 hrow10 hnex
  clear hnex
  have hm10 : Pt V10 (vals10 10) (S) := hP10 10 64 _ rfl rfl
  have hz : vals10 14 = .bool true := hP10 14 17 _ rfl rfl
  obtain ⟨tm, Am, nm, cm, Bm, mm, dm, eu⟩ := hm10.three'
  obtain ⟨gm, vu, eg, hg, hr, ec⟩ := hrow10 _ (.head _)
  simp only at eg ec hg hr
  obtain rfl := agg3 (ec.symm.trans eu)
  rw [eu] at hm10
  have HNExm := hid (show gx ≠ gm by have := RWx.out.lt; omega)
  have HNEbm := hid (show gb ≠ gm by have := RWb.out.lt; omega)
  have HNEpm := hid (show gp ≠ gm by have := RWp.out.lt; omega)
  have HNEqm := hid (show gq ≠ gm by have := RWq.out.lt; omega)
  have HNEsm := hid (show gs ≠ gm by have := RWs.out.lt; omega)
  replace Hxs := hid (Hxs.out.later hb)
  replace Hys := hid (Hys.out.later hb)
  replace Hkj := hid (Hkj.out.later hb)
  replace Hkk := hid (Hkk.out.later hb)
  replace Hb := hid (Hb.out.later hb)
  replace Hp := hid (Hp.out.later hb)
  replace Hq := hid (Hq.out.later hb)
  replace Hs := hid (Hs.out.later hb)
  replace RWx := hid (RWx.out.later hb)
  replace RWb := hid (RWb.out.later hb)
  replace RWp := hid (RWp.out.later hb)
  replace RWq := hid (RWq.out.later hb)
  replace RWs := hid (RWs.out.later hb)
  replace HB := hid (HB.out.trans (hb.mono HB.out.size))
  have RWm := hid hr
  have Hm := hid hm10
  clear hm10 hP10 hrow10 hr ec hg hb
  simp [wrote, Act.put]
  rw [eg, hz]
  clear eg eu
  go_wp2_with fail
  refine (wpIn_wide (n := 9)).1 (wpIn_region_numS rfl hmx (fun _ => trivial) [(67, .val (.int .i64 c)), (68, .val (.int .i64 c)), (69, .num (D.n)), (70, .val (.agg #[.bool t0, .slice A0 n0 c0, .slice B0 m0 d0])), (71, .ptT (none)), (66, .ptT (none)), (72, .pt' (none)), (73, .val (.bool true)), (18, .any), (19, .val (.bool true))] (by kernel_rfl) (by kernel_rfl) (by kernel_rfl) (by kernel_rfl) (by rfl) [⟨8, 9, 6, 18, 72, 31, 3, [.bool false, .slice none 0 0, .slice none 0 0]⟩] ?has11 ?hpw11 ?hops11 ?hend11)
  case has11 =>
   intro A hA
   simp only [List.mem_cons, List.not_mem_nil, or_false] at hA
   rcases hA with rfl
   exact ⟨⟨⟨_, rfl, rfl, rfl⟩, ⟨_, rfl, rfl, rfl⟩, ⟨_, rfl, rfl⟩, by decide, Try.sizePt, rfl, noU3 nofun nofun nofun, (fun ev o V h => by simp [execOp, h, go_sem]), (fun v V => trivial), fun v V h => Spc.pt_form v V h⟩, by rfl, by rfl⟩
  case hpw11 =>
   intro A hA A' hA'
   simp only [List.mem_cons, List.not_mem_nil, or_false] at hA hA'
   rcases hA with rfl <;> rcases hA' with rfl <;> simp
  case hops11 =>
   intro i o a' V hno hB ho hev hrd
   have n4 := hno _ (.head _)
   simp only at n4
   have his : i < 11 := by have := (Array.getElem?_eq_some_iff.1 ho).1; simpa using this
   have rb := RWb.out.later hB
   have hb := Hb.out.later hB
   have hcase : i = 0 ∨ i = 1 ∨ i = 2 ∨ i = 3 ∨ i = 4 ∨ i = 5 ∨ i = 6 ∨ i = 7 ∨ i = 8 ∨ i = 9 ∨ i = 10 := by omega
   rcases hcase with rfl | rfl | rfl | rfl | rfl | rfl | rfl | rfl | rfl | rfl | rfl
   ·simp at ho
    subst ho
    have r0 := hev 0 rfl
    simp [Act.eval] at r0
    refine ⟨nofun, fun _ _ => trivial, nofun, .inl ⟨.int .i64 c, V, ?_, Below.refl _ _, fun t ht => by cases ht; rfl⟩⟩
    simp [execOp, Act.eval, go_sem, r0]
   ·simp at ho
    subst ho
    have r0 := hev 0 rfl
    simp [Act.eval] at r0
    refine ⟨nofun, fun _ _ => trivial, nofun, .inl ⟨.int .i64 c, V, ?_, Below.refl _ _, fun t ht => by cases ht; rfl⟩⟩
    simp [execOp, Act.eval, go_sem, r0]
   ·simp at ho
    subst ho
    have r68 : a'.eval (.tmp 68) = .int .i64 c := hrd 68 rfl rfl
    simp [Act.eval] at r68
    refine ⟨nofun, fun _ _ => trivial, nofun, .inr ⟨13, #[.int .i64 c], ?_, (callsIn_wide.2 (cOrder_yes V c D HC.out)).mono ?_⟩⟩
    ·simp [execOp, Act.eval, r68, resolve, invoke, Deferred.ofValue]
    ·rintro e w' ⟨v, rfl, hv, hB2⟩
     exact ⟨_, rfl, hB2, fun t ht => by cases ht; exact hv⟩
   ·simp at ho
    subst ho
    have r9 := hev 9 rfl
    simp [Act.eval] at r9
    try simp [Act.put] at r9
    refine ⟨nofun, fun _ _ => trivial, nofun, .inl ⟨.agg #[.bool t0, .slice A0 n0 c0, .slice B0 m0 d0], V, exec_load 31 3 _ Try.underlying31 rfl Try.sizePt _ rfl gb [.bool t0, .slice A0 n0 c0, .slice B0 m0 d0] (by simpa [Act.eval] using r9) 31 rb rfl, Below.refl _ _, fun t ht => by cases ht; rfl⟩⟩
   ·simp at ho
    subst ho
    have r67 : a'.eval (.tmp 67) = .int .i64 c := hrd 67 rfl rfl
    simp [Act.eval] at r67
    have r69 : Nu V (a'.eval (.tmp 69)) (D.n) := hrd 69 rfl rfl
    have r70 : a'.eval (.tmp 70) = .agg #[.bool t0, .slice A0 n0 c0, .slice B0 m0 d0] := hrd 70 rfl rfl
    simp [Act.eval] at r70
    refine ⟨nofun, fun _ _ => trivial, nofun, .inr ⟨8, #[.int .i64 c, a'.eval (.tmp 69), .agg #[.bool t0, .slice A0 n0 c0, .slice B0 m0 d0]], ?_, (callsIn_wide.2 (cmul_to V c D HC.out _ _ D.n r69.gu (some (D.gx, D.gy)) none hb.pg (has_base HC.out) (ord_none HC.out).1 (ord_none HC.out).2)).mono ?_⟩⟩
    ·simp [execOp, Act.eval, r67, r70, resolve, invoke, Deferred.ofValue]
    ·rintro e w' ⟨v, rfl, hv', hB2⟩
     have hv : (Spc.ptT (none)).P (.tuple #[v, .bool true]) w' := ⟨_, rfl, hv'⟩
     exact ⟨_, rfl, hB2, fun t ht => by cases ht; exact hv⟩
   ·simp at ho
    subst ho
    have r71 : (Spc.ptT (none)).P (a'.eval (.tmp 71)) V := hrd 71 rfl rfl
    refine ⟨nofun, fun _ _ => trivial, nofun, .inl ⟨a'.eval (.tmp 71), V, ?_, Below.refl _ _, fun t ht => by cases ht; exact r71⟩⟩
    simp [execOp]
   ·simp at ho
    subst ho
    have r66 : (Spc.ptT (none)).P (a'.eval (.tmp 66)) V := hrd 66 rfl rfl
    obtain ⟨u, hu1, hu2⟩ := r66
    simp [Act.eval] at hu1
    refine ⟨nofun, fun _ _ => trivial, nofun, .inl ⟨u, V, ?_, Below.refl _ _, fun t ht => by cases ht; exact hu2⟩⟩
    simp [execOp, Act.eval, go_sem, hu1]
   ·simp at ho
    subst ho
    have r66 : (Spc.ptT (none)).P (a'.eval (.tmp 66)) V := hrd 66 rfl rfl
    obtain ⟨u, hu1, hu2⟩ := r66
    simp [Act.eval] at hu1
    refine ⟨nofun, fun _ _ => trivial, nofun, .inl ⟨.bool true, V, ?_, Below.refl _ _, fun t ht => by cases ht; rfl⟩⟩
    simp [execOp, Act.eval, go_sem, hu1]
   ·simp at ho
    subst ho
    exact absurd rfl n4.1
   ·simp at ho
    subst ho
    exact absurd rfl n4.2
   ·simp at ho
    subst ho
    have r73 : a'.eval (.tmp 73) = .bool true := hrd 73 rfl rfl
    simp [Act.eval] at r73
    refine ⟨nofun, fun _ _ => trivial, nofun, .inl ⟨.bool true, V, ?_, Below.refl _ _, fun t ht => by cases ht; rfl⟩⟩
    simp [execOp, Act.eval, go_sem, r73]
  case hend11 =>
   intro vals11 V11 hb hP11 hrow11 hnex
   clear hnex
   have hm11 : Pt V11 (vals11 6) (none) := hP11 6 72 _ rfl rfl
   have hz : vals11 10 = .bool true := hP11 10 19 _ rfl rfl
   obtain ⟨ty, Ay, ny, cy, By, my, dy, eu⟩ := hm11.three'
   obtain ⟨gy, vu, eg, hg, hr, ec⟩ := hrow11 _ (.head _)
   simp only at eg ec hg hr
   obtain rfl := agg3 (ec.symm.trans eu)
   rw [eu] at hm11
   have HNExy := hid (show gx ≠ gy by have := RWx.out.lt; omega)
   have HNEby := hid (show gb ≠ gy by have := RWb.out.lt; omega)
   have HNEpy := hid (show gp ≠ gy by have := RWp.out.lt; omega)
   have HNEqy := hid (show gq ≠ gy by have := RWq.out.lt; omega)
   have HNEsy := hid (show gs ≠ gy by have := RWs.out.lt; omega)
   have HNEmy := hid (show gm ≠ gy by have := RWm.out.lt; omega)
   replace Hxs := hid (Hxs.out.later hb)
   replace Hys := hid (Hys.out.later hb)
   replace Hkj := hid (Hkj.out.later hb)
   replace Hkk := hid (Hkk.out.later hb)
   replace Hb := hid (Hb.out.later hb)
   replace Hp := hid (Hp.out.later hb)
   replace Hq := hid (Hq.out.later hb)
   replace Hs := hid (Hs.out.later hb)
   replace Hm := hid (Hm.out.later hb)
   replace RWx := hid (RWx.out.later hb)
   replace RWb := hid (RWb.out.later hb)
   replace RWp := hid (RWp.out.later hb)
   replace RWq := hid (RWq.out.later hb)
   replace RWs := hid (RWs.out.later hb)
   replace RWm := hid (RWm.out.later hb)
   replace HB := hid (HB.out.trans (hb.mono HB.out.size))
   have RWy := hid hr
   have Hy := hid hm11
   clear hm11 hP11 hrow11 hr ec hg hb
   simp [wrote, Act.put]
   rw [eg, hz]
   clear eg eu
   go_wp2_with fail
   obtain ⟨z1, z2, e1, -, -⟩ := Hy.out
   cases e1
   refine (wpIn_wide (n := 9)).1 (wpIn_region_numG rfl hmx [(74, .val (.bool true)), (75, .val (.bool true)), (76, .val (.bool true)), (77, .val (.bool true)), (78, .val (.bool true)), (79, .val (.bool true)), (80, .val (.bool true)), (81, .val (.bool true)), (82, .val (.bool true)), (83, .val (.bool true)), (84, .val (.bool true)), (85, .val (.bool true)), (86, .val (.bool true)), (87, .val (.bool true)), (88, .val (.bool true)), (89, .val (.bool true)), (90, .val (.bool true)), (91, .val (.agg #[.bool ts, .slice As ns cs, .slice Bs ms ds])), (92, .val (.agg #[.bool tm, .slice Am nm cm, .slice Bm mm dm])), (93, .rp S), (94, .val (.bool true)), (95, .val (.bool true)), (96, .val (.bool true)), (97, .val (.pointer (some ⟨gy, 0, none⟩))), (98, .val (.bool true)), (99, .val (.bool true)), (6, .val (.bool true))] [(75, true), (78, true), (81, true), (84, true), (87, true), (90, true), (96, true)] (by kernel_rfl) (by kernel_rfl) (by kernel_rfl) (by kernel_rfl) (by rfl) (by kernel_rfl) (by rfl) ?hgv12 ?hops12 ?hend12)
   case hgv12 =>
    intro p hp v V h
    simp only [List.mem_cons, List.not_mem_nil, or_false] at hp
    rcases hp with rfl | rfl | rfl | rfl | rfl | rfl | rfl
    all_goals exact h
   case hops12 =>
    intro i o a' V hB ho hev hrd
    have his : i < 27 := by have := (Array.getElem?_eq_some_iff.1 ho).1; simpa using this
    have rs := RWs.out.later hB
    have rm := RWm.out.later hB
    have ry := RWy.out.later hB
    have hs := Hs.out.later hB
    have hm := Hm.out.later hB
    have o0 := ry.at_ (i := 0) rfl
    have hcase : i = 0 ∨ i = 1 ∨ i = 2 ∨ i = 3 ∨ i = 4 ∨ i = 5 ∨ i = 6 ∨ i = 7 ∨ i = 8 ∨ i = 9 ∨ i = 10 ∨ i = 11 ∨ i = 12 ∨ i = 13 ∨ i = 14 ∨ i = 15 ∨ i = 16 ∨ i = 17 ∨ i = 18 ∨ i = 19 ∨ i = 20 ∨ i = 21 ∨ i = 22 ∨ i = 23 ∨ i = 24 ∨ i = 25 ∨ i = 26 := by omega
    rcases hcase with rfl | rfl | rfl | rfl | rfl | rfl | rfl | rfl | rfl | rfl | rfl | rfl | rfl | rfl | rfl | rfl | rfl | rfl | rfl | rfl | rfl | rfl | rfl | rfl | rfl | rfl | rfl
    ·simp at ho
     subst ho
     have r7 := hev 7 rfl
     simp [Act.eval] at r7
     refine ⟨nofun, fun _ _ => trivial, nofun, .inl ⟨.bool true, V, ?_, Below.refl _ _, fun t ht => by cases ht; rfl⟩⟩
     simp [execOp, Act.eval, go_sem, r7, o0]
    ·simp at ho
     subst ho
     have r74 : a'.eval (.tmp 74) = .bool true := hrd 74 rfl rfl
     simp [Act.eval] at r74
     refine ⟨nofun, fun _ _ => trivial, nofun, .inl ⟨.bool true, V, ?_, Below.refl _ _, fun t ht => by cases ht; rfl⟩⟩
     simp [execOp, Act.eval, go_sem, r74, o0]
    ·simp at ho
     subst ho
     have r11 := hev 11 rfl
     simp [Act.eval] at r11
     refine ⟨nofun, fun _ _ => trivial, nofun, .inl ⟨.bool true, V, ?_, Below.refl _ _, fun t ht => by cases ht; rfl⟩⟩
     simp [execOp, Act.eval, go_sem, r11, o0]
    ·simp at ho
     subst ho
     have r75 : a'.eval (.tmp 75) = .bool true := hrd 75 rfl rfl
     simp [Act.eval] at r75
     have r76 : a'.eval (.tmp 76) = .bool true := hrd 76 rfl rfl
     simp [Act.eval] at r76
     refine ⟨nofun, fun _ _ => trivial, nofun, .inl ⟨.bool true, V, ?_, Below.refl _ _, fun t ht => by cases ht; rfl⟩⟩
     simp [execOp, Act.eval, go_sem, r75, r76, o0]
    ·simp at ho
     subst ho
     have r77 : a'.eval (.tmp 77) = .bool true := hrd 77 rfl rfl
     simp [Act.eval] at r77
     refine ⟨nofun, fun _ _ => trivial, nofun, .inl ⟨.bool true, V, ?_, Below.refl _ _, fun t ht => by cases ht; rfl⟩⟩
     simp [execOp, Act.eval, go_sem, r77, o0]
    ·simp at ho
     subst ho
     have r13 := hev 13 rfl
     simp [Act.eval] at r13
     refine ⟨nofun, fun _ _ => trivial, nofun, .inl ⟨.bool true, V, ?_, Below.refl _ _, fun t ht => by cases ht; rfl⟩⟩
     simp [execOp, Act.eval, go_sem, r13, o0]
    ·simp at ho
     subst ho
     have r78 : a'.eval (.tmp 78) = .bool true := hrd 78 rfl rfl
     simp [Act.eval] at r78
     have r79 : a'.eval (.tmp 79) = .bool true := hrd 79 rfl rfl
     simp [Act.eval] at r79
     refine ⟨nofun, fun _ _ => trivial, nofun, .inl ⟨.bool true, V, ?_, Below.refl _ _, fun t ht => by cases ht; rfl⟩⟩
     simp [execOp, Act.eval, go_sem, r78, r79, o0]
    ·simp at ho
     subst ho
     have r80 : a'.eval (.tmp 80) = .bool true := hrd 80 rfl rfl
     simp [Act.eval] at r80
     refine ⟨nofun, fun _ _ => trivial, nofun, .inl ⟨.bool true, V, ?_, Below.refl _ _, fun t ht => by cases ht; rfl⟩⟩
     simp [execOp, Act.eval, go_sem, r80, o0]
    ·simp at ho
     subst ho
     have r15 := hev 15 rfl
     simp [Act.eval] at r15
     refine ⟨nofun, fun _ _ => trivial, nofun, .inl ⟨.bool true, V, ?_, Below.refl _ _, fun t ht => by cases ht; rfl⟩⟩
     simp [execOp, Act.eval, go_sem, r15, o0]
    ·simp at ho
     subst ho
     have r81 : a'.eval (.tmp 81) = .bool true := hrd 81 rfl rfl
     simp [Act.eval] at r81
     have r82 : a'.eval (.tmp 82) = .bool true := hrd 82 rfl rfl
     simp [Act.eval] at r82
     refine ⟨nofun, fun _ _ => trivial, nofun, .inl ⟨.bool true, V, ?_, Below.refl _ _, fun t ht => by cases ht; rfl⟩⟩
     simp [execOp, Act.eval, go_sem, r81, r82, o0]
    ·simp at ho
     subst ho
     have r83 : a'.eval (.tmp 83) = .bool true := hrd 83 rfl rfl
     simp [Act.eval] at r83
     refine ⟨nofun, fun _ _ => trivial, nofun, .inl ⟨.bool true, V, ?_, Below.refl _ _, fun t ht => by cases ht; rfl⟩⟩
     simp [execOp, Act.eval, go_sem, r83, o0]
    ·simp at ho
     subst ho
     have r17 := hev 17 rfl
     simp [Act.eval] at r17
     refine ⟨nofun, fun _ _ => trivial, nofun, .inl ⟨.bool true, V, ?_, Below.refl _ _, fun t ht => by cases ht; rfl⟩⟩
     simp [execOp, Act.eval, go_sem, r17, o0]
    ·simp at ho
     subst ho
     have r84 : a'.eval (.tmp 84) = .bool true := hrd 84 rfl rfl
     simp [Act.eval] at r84
     have r85 : a'.eval (.tmp 85) = .bool true := hrd 85 rfl rfl
     simp [Act.eval] at r85
     refine ⟨nofun, fun _ _ => trivial, nofun, .inl ⟨.bool true, V, ?_, Below.refl _ _, fun t ht => by cases ht; rfl⟩⟩
     simp [execOp, Act.eval, go_sem, r84, r85, o0]
    ·simp at ho
     subst ho
     have r86 : a'.eval (.tmp 86) = .bool true := hrd 86 rfl rfl
     simp [Act.eval] at r86
     refine ⟨nofun, fun _ _ => trivial, nofun, .inl ⟨.bool true, V, ?_, Below.refl _ _, fun t ht => by cases ht; rfl⟩⟩
     simp [execOp, Act.eval, go_sem, r86, o0]
    ·simp at ho
     subst ho
     have r19 := hev 19 rfl
     simp [Act.eval] at r19
     refine ⟨nofun, fun _ _ => trivial, nofun, .inl ⟨.bool true, V, ?_, Below.refl _ _, fun t ht => by cases ht; rfl⟩⟩
     simp [execOp, Act.eval, go_sem, r19, o0]
    ·simp at ho
     subst ho
     have r87 : a'.eval (.tmp 87) = .bool true := hrd 87 rfl rfl
     simp [Act.eval] at r87
     have r88 : a'.eval (.tmp 88) = .bool true := hrd 88 rfl rfl
     simp [Act.eval] at r88
     refine ⟨nofun, fun _ _ => trivial, nofun, .inl ⟨.bool true, V, ?_, Below.refl _ _, fun t ht => by cases ht; rfl⟩⟩
     simp [execOp, Act.eval, go_sem, r87, r88, o0]
    ·simp at ho
     subst ho
     have r89 : a'.eval (.tmp 89) = .bool true := hrd 89 rfl rfl
     simp [Act.eval] at r89
     refine ⟨nofun, fun _ _ => trivial, nofun, .inl ⟨.bool true, V, ?_, Below.refl _ _, fun t ht => by cases ht; rfl⟩⟩
     simp [execOp, Act.eval, go_sem, r89, o0]
    ·simp at ho
     subst ho
     have r14 := hev 14 rfl
     simp [Act.eval] at r14
     try simp [Act.put] at r14
     refine ⟨nofun, fun _ _ => trivial, nofun, .inl ⟨.agg #[.bool ts, .slice As ns cs, .slice Bs ms ds], V, exec_load 31 3 _ Try.underlying31 rfl Try.sizePt _ rfl gs [.bool ts, .slice As ns cs, .slice Bs ms ds] (by simpa [Act.eval] using r14) 31 rs rfl, Below.refl _ _, fun t ht => by cases ht; rfl⟩⟩
    ·simp at ho
     subst ho
     have r16 := hev 16 rfl
     simp [Act.eval] at r16
     try simp [Act.put] at r16
     refine ⟨nofun, fun _ _ => trivial, nofun, .inl ⟨.agg #[.bool tm, .slice Am nm cm, .slice Bm mm dm], V, exec_load 31 3 _ Try.underlying31 rfl Try.sizePt _ rfl gm [.bool tm, .slice Am nm cm, .slice Bm mm dm] (by simpa [Act.eval] using r16) 31 rm rfl, Below.refl _ _, fun t ht => by cases ht; rfl⟩⟩
    ·simp at ho
     subst ho
     have r92 : a'.eval (.tmp 92) = .agg #[.bool tm, .slice Am nm cm, .slice Bm mm dm] := hrd 92 rfl rfl
     simp [Act.eval] at r92
     refine ⟨nofun, fun _ _ => trivial, nofun, .inr ⟨15, #[.agg #[.bool tm, .slice Am nm cm, .slice Bm mm dm]], ?_, (callsIn_wide.2 (rFrom9_pg V _ S hm.pg)).mono ?_⟩⟩
     ·simp [execOp, Act.eval, r92, resolve, invoke, Deferred.ofValue]
     ·rintro e w' ⟨v, rfl, hv, hB2⟩
      exact ⟨_, rfl, hB2, fun t ht => by cases ht; exact hv⟩
    ·simp at ho
     subst ho
     have r91 : a'.eval (.tmp 91) = .agg #[.bool ts, .slice As ns cs, .slice Bs ms ds] := hrd 91 rfl rfl
     simp [Act.eval] at r91
     have r93 : Rp V (a'.eval (.tmp 93)) S := hrd 93 rfl rfl
     refine ⟨nofun, fun _ _ => trivial, nofun, .inr ⟨14, #[.agg #[.bool ts, .slice As ns cs, .slice Bs ms ds], a'.eval (.tmp 93)], ?_, (callsIn_wide.2 (is9_any V _ _ _ hs r93)).mono ?_⟩⟩
     ·simp [execOp, Act.eval, r91, resolve, invoke, Deferred.ofValue]
     ·rintro e w' ⟨rfl, hB2⟩
      have hv : Value.bool true = Value.bool true := rfl
      exact ⟨_, rfl, hB2, fun t ht => by cases ht; exact hv⟩
    ·simp at ho
     subst ho
     have r90 : a'.eval (.tmp 90) = .bool true := hrd 90 rfl rfl
     simp [Act.eval] at r90
     have r94 : a'.eval (.tmp 94) = .bool true := hrd 94 rfl rfl
     simp [Act.eval] at r94
     refine ⟨nofun, fun _ _ => trivial, nofun, .inl ⟨.bool true, V, ?_, Below.refl _ _, fun t ht => by cases ht; rfl⟩⟩
     simp [execOp, Act.eval, go_sem, r90, r94, o0]
    ·simp at ho
     subst ho
     have r95 : a'.eval (.tmp 95) = .bool true := hrd 95 rfl rfl
     simp [Act.eval] at r95
     refine ⟨nofun, fun _ _ => trivial, nofun, .inl ⟨.bool true, V, ?_, Below.refl _ _, fun t ht => by cases ht; rfl⟩⟩
     simp [execOp, Act.eval, go_sem, r95, o0]
    ·simp at ho
     subst ho
     have r18 := hev 18 rfl
     simp [Act.eval] at r18
     refine ⟨nofun, fun _ _ => trivial, nofun, .inl ⟨.pointer (some ⟨gy, 0, none⟩), V, ?_, Below.refl _ _, fun t ht => by cases ht; rfl⟩⟩
     simp [execOp, Act.eval, go_sem, r18, o0]
    ·simp at ho
     subst ho
     have r97 : a'.eval (.tmp 97) = .pointer (some ⟨gy, 0, none⟩) := hrd 97 rfl rfl
     simp [Act.eval] at r97
     refine ⟨nofun, fun _ _ => trivial, nofun, .inl ⟨.bool true, V, ?_, Below.refl _ _, fun t ht => by cases ht; rfl⟩⟩
     simp [execOp, Act.eval, go_sem, r97, o0]
    ·simp at ho
     subst ho
     have r96 : a'.eval (.tmp 96) = .bool true := hrd 96 rfl rfl
     simp [Act.eval] at r96
     have r98 : a'.eval (.tmp 98) = .bool true := hrd 98 rfl rfl
     simp [Act.eval] at r98
     refine ⟨nofun, fun _ _ => trivial, nofun, .inl ⟨.bool true, V, ?_, Below.refl _ _, fun t ht => by cases ht; rfl⟩⟩
     simp [execOp, Act.eval, go_sem, r96, r98, o0]
    ·simp at ho
     subst ho
     have r99 : a'.eval (.tmp 99) = .bool true := hrd 99 rfl rfl
     simp [Act.eval] at r99
     refine ⟨nofun, fun _ _ => trivial, nofun, .inl ⟨.bool true, V, ?_, Below.refl _ _, fun t ht => by cases ht; rfl⟩⟩
     simp [execOp, Act.eval, go_sem, r99, o0]
   case hend12 =>
    intro vals12 V12 hb hP12
    have hz : vals12 26 = .bool true := hP12 26 6 _ rfl rfl
    replace HB := hid (HB.out.trans (hb.mono HB.out.size))
    clear hb hP12
    simp [wrote, Act.put]
    rw [hz]
    go_wp2
    go_ret
    exact ⟨rfl, HB.out⟩
theorem sum9_walk (w : World) (c : Int) (Aa Ab : Option Addr) (na ca nb cb : Nat) (xs ys : List Nat) (ha : CutS w (.slice Aa na ca) xs) (had : Dg b64 xs) (hb : CutS w (.slice Ab nb cb) ys) (hbd : Dg b64 ys) : Calls Try.prog 3 #[.int .i64 c, .slice Aa na ca, .slice Ab nb cb] w fun e w' => RetV w (.bool true) e w' := by
 rcases h : crvOf c with _ | D
 ·exact sum9_none w c h Aa Ab na ca nb cb xs ys ha had hb hbd
 ·exact sum9_yes w c D h Aa Ab na ca nb cb xs ys ha had hb hbd
end Go.Proofs.Ytbejcollbkeedaa
