/- CurveCode, walked. -/
import Derived.Test.YtbejcollbkeedaaGreatPileC14
set_option linter.unusedVariables false
set_option linter.unusedSimpArgs false
set_option linter.unusedSectionVars false
set_option maxRecDepth 100000
set_option maxHeartbeats 8000000
open Go.Lib (hid)
namespace Go.Proofs.YtbejcollbkeedaaGreat
open Go.RowKit
attribute [local go_sem] Oper.semAt_some
theorem BytesV.lt {w : World} {v : Value} {bs : List (BitVec 8)} (h : BytesV w v bs) {b off n c : Nat} {s : Option Nat} (e : v = .slice (some ⟨b, off, s⟩) n c) (hn : 0 < n) : b < w.heap.size := by
 obtain ⟨A, n', c', e', hs⟩ := h
 rw [e] at e'
 cases e'
 obtain ⟨b', off', e2, hb, -⟩ := hs.2.2.2 (by intro h0; have := hs.len; rw [h0] at this; simp at this; omega)
 cases e2
 exact hb
theorem BytesV.off {w w' : World} {g : Nat} {v : Value} {bs : List (BitVec 8)} (h : BytesV w v bs) (hg : w.grownBy w' (some g)) (hne : ∀ b off s n c, v = .slice (some ⟨b, off, s⟩) n c → 0 < n → b ≠ g) : BytesV w' v bs := by
 obtain ⟨A, n, c, rfl, h1, h2, h3, h4⟩ := h
 refine ⟨A, n, c, rfl, h1, h2, h3, fun hn => ?_⟩
 obtain ⟨b, off, e, hb, hc⟩ := h4 hn
 have hn0 : 0 < n := by
  rw [h1]
  exact List.length_pos_iff.2 hn
 exact ⟨b, off, e, Nat.lt_of_lt_of_le hb hg.size, fun k x hx => (cell_grown hg (p := ⟨b, off + k, none⟩) hb (hne b off none n c (by rw [e]) hn0)).trans (hc k x hx)⟩
theorem code9_none (w : World) (c : Int) (hc : crvOf c = none) (Aa Ab : Option Addr) (na ca nb cb : Nat) (xs : List Nat) (bs : List (BitVec 8)) (ha : CutS w (.slice Aa na ca) xs) (had : Dg b64 xs) (hal : na ≤ 1048576) (hb : SlV w w.heap.size Ab nb cb (bs.map W8)) (sp : Bool) : Calls Tryz.prog 5 #[.int .i64 c, .slice Aa na ca, .bool sp, .slice Ab nb cb] w fun e w' => RetV w (.bool true) e w' := by
 have HC := hid hc
 have hmx : Tryz.prog.follows .mixedOrders = true := by kernel_rfl
 have HAD := hid had
 have HAL := hid hal
 have HB := hid (Below.refl w.heap.size w)
 have Has := hid ha
 have HBS := hid hb
 clear hc had ha hal hb
 go_enter Tryz.func5, Tryz.ntmps5
 go_wp2_with fail
 refine (begun9_any w).mono ?_
 rintro e w1 ⟨rfl, hb⟩
 replace Has := hid (Has.out.later hb)
 replace HB := hid (HB.out.trans (hb.mono HB.out.size))
 clear hb
 go_wp2_with fail
 refine (short_any w1 w.heap.size Ab nb cb bs (HBS.out.below HB.out) 120 (by decide)).mono ?_
 rintro e wq ⟨rfl, rfl⟩
 obtain ⟨mb, hmb⟩ : ∃ m, min nb 120 = m := ⟨_, rfl⟩
 rw [hmb]
 have HMB := hid (show mb ≤ 120 by rw [← hmb]; exact Nat.min_le_right _ _)
 have HSB := hid (show SlV w w.heap.size Ab mb cb ((bs.take mb).map W8) by rw [← hmb, List.map_take]; exact HBS.out.take (Nat.min_le_left _ _))
 clear hmb HBS
 go_wp2_with fail
 refine (pt9_none w1 c HC.out _ _ _ sp).mono ?_
 rintro e w2 ⟨rfl, hb⟩
 replace Has := hid (Has.out.later hb)
 replace HB := hid (HB.out.trans (hb.mono HB.out.size))
 clear hb
 obtain ⟨W3, e3, r3, b3, s3⟩ := newS w2 26 [.bool false, .slice none 0 0, .slice none 0 0] _ rfl
 obtain ⟨gp, hqp⟩ : ∃ x, w2.heap.size = x := ⟨_, rfl⟩
 rw [hqp] at r3
 have HLp := hid (show w.heap.size ≤ gp by have := HB.out.size; omega)
 have HNp := hid (NoU.of_row r3 (noU3 nofun nofun nofun))
 replace Has := hid (Has.out.later b3)
 replace HB := hid (HB.out.trans (b3.mono HB.out.size))
 clear b3 s3
 go_wp2_with ((with_reducible show wpList _ _ _ (⟨none, _, _, _, _, _⟩ :: _) _ _); refine wlS_store rfl 26 3 Tryz.sizePt _ _ rfl gp [.bool false, .slice Aa na ca, .slice Aa na ca] rfl rfl 26 _ r3 rfl rfl (ones3 rfl rfl rfl) ?_; intro w3 hrp hgp hzp)
 have hsb : Sb W3 w3 := ⟨gp, HNp.out, hgp⟩
 replace Has := hid (Has.out.sb hsb)
 replace HB := hid (below_grown HB.out hgp HLp.out HB.out.size)
 have RWp := hid hrp
 clear hsb hrp hgp hzp e3 r3 hqp HNp
 refine (rOf9_no w3 c HC.out).mono ?_
 rintro e w4 ⟨rfl, hb⟩
 replace Has := hid (Has.out.later hb)
 replace RWp := hid (RWp.out.later hb)
 replace HB := hid (HB.out.trans (hb.mono HB.out.size))
 clear hb
 obtain ⟨W5, e5, r5, b5, s5⟩ := newS w4 30 [.slice none 0 0, .slice none 0 0, .slice none 0 0, .slice none 0 0, .slice none 0 0, .int .i64 0] _ rfl
 obtain ⟨gx, hqx⟩ : ∃ x, w4.heap.size = x := ⟨_, rfl⟩
 rw [hqx] at r5
 have HLx := hid (show w.heap.size ≤ gx by have := HB.out.size; omega)
 have HNEpx := hid (show gp ≠ gx by have := RWp.out.lt; omega)
 have HNx := hid (NoU.of_row r5 (noU6 nofun nofun nofun nofun nofun))
 replace Has := hid (Has.out.later b5)
 replace RWp := hid (RWp.out.later b5)
 replace HB := hid (HB.out.trans (b5.mono HB.out.size))
 clear b5 s5
 go_wp2_with ((with_reducible show wpList _ _ _ (⟨none, _, _, _, _, _⟩ :: _) _ _); refine wlS_store rfl 30 6 Tryz.sizeCr _ _ rfl gx [.slice none 0 0, .slice none 0 0, .slice none 0 0, .slice none 0 0, .slice none 0 0, .int .i64 0] rfl rfl 30 _ r5 rfl rfl (ones6 rfl rfl rfl rfl rfl rfl) ?_; intro w5 hrx hgx hzx; have p0 := (RWp.out.grown hgx HNEpx.out).at_ (i := 0) rfl; have p1 := (RWp.out.grown hgx HNEpx.out).at_ (i := 1) rfl; have p2 := (RWp.out.grown hgx HNEpx.out).at_ (i := 2) rfl)
 have hsb : Sb W5 w5 := ⟨gx, HNx.out, hgx⟩
 replace Has := hid (Has.out.sb hsb)
 replace RWp := hid (RWp.out.grown hgx HNEpx.out)
 replace HB := hid (below_grown HB.out hgx HLx.out HB.out.size)
 have RWx := hid hrx
 clear hsb hrx hgx hzx e5 r5 hqx HNx p0 p1 p2
 obtain ⟨A1, n1, c1, e1, hs1⟩ := Has.out
 cases e1
 refine (rFrom9_gen w5 _ _ .any .any (.any hs1 HAD.out (by have := HAL.out; omega)) (.any hs1 HAD.out (by have := HAL.out; omega))).mono ?_
 rintro e w6 ⟨v, rfl, hu, hb⟩
 obtain ⟨a1, a2, rfl, ⟨-, Au, nu, cu, rfl⟩, -, Bu, mu, du, rfl⟩ := id hu
 replace Has := hid (Has.out.later hb)
 replace RWp := hid (RWp.out.later hb)
 replace RWx := hid (RWx.out.later hb)
 replace HB := hid (HB.out.trans (hb.mono HB.out.size))
 clear hb hu hs1
 obtain ⟨W7, e7, r7, b7, s7⟩ := newS w6 33 [.bool false, .slice none 0 0, .slice none 0 0] _ rfl
 obtain ⟨gu, hqu⟩ : ∃ x, w6.heap.size = x := ⟨_, rfl⟩
 rw [hqu] at r7
 have HLu := hid (show w.heap.size ≤ gu by have := HB.out.size; omega)
 have HNEpu := hid (show gp ≠ gu by have := RWp.out.lt; omega)
 have HNExu := hid (show gx ≠ gu by have := RWx.out.lt; omega)
 have HNu := hid (NoU.of_row r7 (noU3 nofun nofun nofun))
 replace Has := hid (Has.out.later b7)
 replace RWp := hid (RWp.out.later b7)
 replace RWx := hid (RWx.out.later b7)
 replace HB := hid (HB.out.trans (b7.mono HB.out.size))
 clear b7 s7
 go_wp2_with ((with_reducible show wpList _ _ _ (⟨none, _, _, _, _, _⟩ :: _) _ _); refine wlS_store rfl 33 3 Tryz.sizeRp _ _ rfl gu [.bool false, .slice Au nu cu, .slice Bu mu du] rfl rfl 33 _ r7 rfl rfl (ones3 rfl rfl rfl) ?_; intro w7 hru hgu hzu; have p0 := (RWp.out.grown hgu HNEpu.out).at_ (i := 0) rfl; have p1 := (RWp.out.grown hgu HNEpu.out).at_ (i := 1) rfl; have p2 := (RWp.out.grown hgu HNEpu.out).at_ (i := 2) rfl)
 have hsb : Sb W7 w7 := ⟨gu, HNu.out, hgu⟩
 replace Has := hid (Has.out.sb hsb)
 replace RWp := hid (RWp.out.grown hgu HNEpu.out)
 replace RWx := hid (RWx.out.grown hgu HNExu.out)
 replace HB := hid (below_grown HB.out hgu HLu.out HB.out.size)
 have RWu := hid hru
 clear hsb hru hgu hzu e7 r7 hqu HNu p0 p1 p2
 refine (cEnc_none w7 c HC.out _ ⟨_, _, _, rfl, rfl, rfl, rfl⟩).mono ?_
 rintro e w8 ⟨rfl, hb⟩
 replace Has := hid (Has.out.later hb)
 replace RWp := hid (RWp.out.later hb)
 replace RWx := hid (RWx.out.later hb)
 replace RWu := hid (RWu.out.later hb)
 replace HB := hid (HB.out.trans (hb.mono HB.out.size))
 clear hb
 go_wp2_with fail
 refine (cDec_none w8 c HC.out Ab mb cb (bs.take mb) (HSB.out.later HB.out (Nat.le_refl _)) (by have := HMB.out; omega)).mono ?_
 rintro e w9 ⟨rfl, hb⟩
 replace Has := hid (Has.out.later hb)
 replace RWp := hid (RWp.out.later hb)
 replace RWx := hid (RWx.out.later hb)
 replace RWu := hid (RWu.out.later hb)
 replace HB := hid (HB.out.trans (hb.mono HB.out.size))
 clear hb
 obtain ⟨W10, e10, r10, b10, s10⟩ := newS w9 26 [.bool false, .slice none 0 0, .slice none 0 0] _ rfl
 obtain ⟨gq, hqq⟩ : ∃ x, w9.heap.size = x := ⟨_, rfl⟩
 rw [hqq] at r10
 have HLq := hid (show w.heap.size ≤ gq by have := HB.out.size; omega)
 have HNEpq := hid (show gp ≠ gq by have := RWp.out.lt; omega)
 have HNExq := hid (show gx ≠ gq by have := RWx.out.lt; omega)
 have HNEuq := hid (show gu ≠ gq by have := RWu.out.lt; omega)
 have HNq := hid (NoU.of_row r10 (noU3 nofun nofun nofun))
 replace Has := hid (Has.out.later b10)
 replace RWp := hid (RWp.out.later b10)
 replace RWx := hid (RWx.out.later b10)
 replace RWu := hid (RWu.out.later b10)
 replace HB := hid (HB.out.trans (b10.mono HB.out.size))
 clear b10 s10
 go_wp2_with ((with_reducible show wpList _ _ _ (⟨none, _, _, _, _, _⟩ :: _) _ _); refine wlS_store rfl 26 3 Tryz.sizePt _ _ rfl gq [.bool true, .slice none 0 0, .slice none 0 0] rfl rfl 26 _ r10 rfl rfl (ones3 rfl rfl rfl) ?_; intro w10 hrq hgq hzq; have c0 := (RWx.out.grown hgq HNExq.out).at_ (i := 0) rfl; have c1 := (RWx.out.grown hgq HNExq.out).at_ (i := 1) rfl; have c2 := (RWx.out.grown hgq HNExq.out).at_ (i := 2) rfl; have c3 := (RWx.out.grown hgq HNExq.out).at_ (i := 3) rfl; have c4 := (RWx.out.grown hgq HNExq.out).at_ (i := 4) rfl; have c5 := (RWx.out.grown hgq HNExq.out).at_ (i := 5) rfl)
 have hsb : Sb W10 w10 := ⟨gq, HNq.out, hgq⟩
 replace Has := hid (Has.out.sb hsb)
 replace RWp := hid (RWp.out.grown hgq HNEpq.out)
 replace RWx := hid (RWx.out.grown hgq HNExq.out)
 replace RWu := hid (RWu.out.grown hgq HNEuq.out)
 replace HB := hid (below_grown HB.out hgq HLq.out HB.out.size)
 have RWq := hid hrq
 clear hsb hrq hgq hzq e10 r10 hqq HNq c0 c1 c2 c3 c4 c5
 refine (rDec9_none w10 _ _ _ _ _ Ab mb cb).mono ?_
 rintro e w11 ⟨rfl, hb⟩
 replace Has := hid (Has.out.later hb)
 replace RWp := hid (RWp.out.later hb)
 replace RWx := hid (RWx.out.later hb)
 replace RWu := hid (RWu.out.later hb)
 replace RWq := hid (RWq.out.later hb)
 replace HB := hid (HB.out.trans (hb.mono HB.out.size))
 clear hb
 obtain ⟨W12, e12, r12, b12, s12⟩ := newS w11 33 [.bool false, .slice none 0 0, .slice none 0 0] _ rfl
 obtain ⟨gv, hqv⟩ : ∃ x, w11.heap.size = x := ⟨_, rfl⟩
 rw [hqv] at r12
 have HLv := hid (show w.heap.size ≤ gv by have := HB.out.size; omega)
 have HNEpv := hid (show gp ≠ gv by have := RWp.out.lt; omega)
 have HNExv := hid (show gx ≠ gv by have := RWx.out.lt; omega)
 have HNEuv := hid (show gu ≠ gv by have := RWu.out.lt; omega)
 have HNEqv := hid (show gq ≠ gv by have := RWq.out.lt; omega)
 have HNv := hid (NoU.of_row r12 (noU3 nofun nofun nofun))
 replace Has := hid (Has.out.later b12)
 replace RWp := hid (RWp.out.later b12)
 replace RWx := hid (RWx.out.later b12)
 replace RWu := hid (RWu.out.later b12)
 replace RWq := hid (RWq.out.later b12)
 replace HB := hid (HB.out.trans (b12.mono HB.out.size))
 clear b12 s12
 go_wp2_with ((with_reducible show wpList _ _ _ (⟨none, _, _, _, _, _⟩ :: _) _ _); refine wlS_store rfl 33 3 Tryz.sizeRp _ _ rfl gv [.bool true, .slice none 0 0, .slice none 0 0] rfl rfl 33 _ r12 rfl rfl (ones3 rfl rfl rfl) ?_; intro w12 hrv hgv hzv; have q0 := (RWq.out.grown hgv HNEqv.out).at_ (i := 0) rfl; have q1 := (RWq.out.grown hgv HNEqv.out).at_ (i := 1) rfl; have q2 := (RWq.out.grown hgv HNEqv.out).at_ (i := 2) rfl; have v0 := hrv.at_ (i := 0) rfl; have v1 := hrv.at_ (i := 1) rfl; have v2 := hrv.at_ (i := 2) rfl)
 have hsb : Sb W12 w12 := ⟨gv, HNv.out, hgv⟩
 replace Has := hid (Has.out.sb hsb)
 replace RWp := hid (RWp.out.grown hgv HNEpv.out)
 replace RWx := hid (RWx.out.grown hgv HNExv.out)
 replace RWu := hid (RWu.out.grown hgv HNEuv.out)
 replace RWq := hid (RWq.out.grown hgv HNEqv.out)
 replace HB := hid (below_grown HB.out hgv HLv.out HB.out.size)
 have RWv := hid hrv
 clear hsb hrv hgv hzv e12 r12 hqv HNv
 refine (is9_any w12 _ _ none ⟨_, _, rfl, Nu.nil _, Nu.nil _⟩ ⟨_, _, rfl, Nb.nil _, Nb.nil _⟩).mono ?_
 rintro e w13 ⟨rfl, hb⟩
 replace Has := hid (Has.out.later hb)
 replace RWp := hid (RWp.out.later hb)
 replace RWx := hid (RWx.out.later hb)
 replace RWu := hid (RWu.out.later hb)
 replace RWq := hid (RWq.out.later hb)
 replace RWv := hid (RWv.out.later hb)
 replace HB := hid (HB.out.trans (hb.mono HB.out.size))
 clear hb q0 q1 q2 v0 v1 v2
 have x0 := RWx.out.at_ (i := 0) rfl
 have x1 := RWx.out.at_ (i := 1) rfl
 have x2 := RWx.out.at_ (i := 2) rfl
 have x3 := RWx.out.at_ (i := 3) rfl
 have x4 := RWx.out.at_ (i := 4) rfl
 have x5 := RWx.out.at_ (i := 5) rfl
 have u0 := RWu.out.at_ (i := 0) rfl
 have u1 := RWu.out.at_ (i := 1) rfl
 have u2 := RWu.out.at_ (i := 2) rfl
 go_wp2_with fail
 refine (rOn9_zero w13 _ _ _ _ _ _ _ _).mono ?_
 rintro e w14 ⟨rfl, hb⟩
 replace Has := hid (Has.out.later hb)
 replace RWp := hid (RWp.out.later hb)
 replace RWx := hid (RWx.out.later hb)
 replace RWu := hid (RWu.out.later hb)
 replace RWq := hid (RWq.out.later hb)
 replace RWv := hid (RWv.out.later hb)
 replace HB := hid (HB.out.trans (hb.mono HB.out.size))
 clear hb x0 x1 x2 x3 x4 x5 u0 u1 u2
 go_wp2
 go_ret
 exact ⟨rfl, HB.out⟩
theorem code9_yes (w : World) (c : Int) (D : Crv) (hc : crvOf c = some D) (Aa Ab : Option Addr) (na ca nb cb : Nat) (xs : List Nat) (bs : List (BitVec 8)) (ha : CutS w (.slice Aa na ca) xs) (had : Dg b64 xs) (hal : na ≤ 1048576) (hb : SlV w w.heap.size Ab nb cb (bs.map W8)) (sp : Bool) : Calls Tryz.prog 5 #[.int .i64 c, .slice Aa na ca, .bool sp, .slice Ab nb cb] w fun e w' => RetV w (.bool true) e w' := by
 have HC := hid hc
 have hmx : Tryz.prog.follows .mixedOrders = true := by kernel_rfl
 have HAD := hid had
 have HAL := hid hal
 have HB := hid (Below.refl w.heap.size w)
 have Has := hid ha
 have HBS := hid hb
 clear hc had ha hal hb
 go_enter Tryz.func5, Tryz.ntmps5
 go_wp2_with fail
 refine (begun9_any w).mono ?_
 rintro e w1 ⟨rfl, hb⟩
 replace Has := hid (Has.out.later hb)
 replace HB := hid (HB.out.trans (hb.mono HB.out.size))
 clear hb
 go_wp2_with fail
 refine (short_any w1 w.heap.size Ab nb cb bs (HBS.out.below HB.out) 120 (by decide)).mono ?_
 rintro e wq ⟨rfl, rfl⟩
 obtain ⟨mb, hmb⟩ : ∃ m, min nb 120 = m := ⟨_, rfl⟩
 rw [hmb]
 have HMB := hid (show mb ≤ 120 by rw [← hmb]; exact Nat.min_le_right _ _)
 have HSB := hid (show SlV w w.heap.size Ab mb cb ((bs.take mb).map W8) by rw [← hmb, List.map_take]; exact HBS.out.take (Nat.min_le_left _ _))
 clear hmb HBS
 go_wp2_with fail
 obtain ⟨A1, n1, c1, e1, hs1⟩ := Has.out
 cases e1
 refine (pt9_yes w1 c D HC.out _ _ _ xs hs1 HAD.out _ rfl sp).mono ?_
 rintro e w2 ⟨v, P, MP, rfl, hbp, hso, hpg, hb⟩
 obtain ⟨t0, a0, d0, rfl, o1, o2⟩ := hpg.form
 clear hbp hso
 replace Has := hid (Has.out.later hb)
 replace HB := hid (HB.out.trans (hb.mono HB.out.size))
 have Hpg := hid (hpg)
 clear hb hs1 hpg
 by_cases has : hasN D.p D.b P
 ·have HAS := hid has
  clear has
  obtain ⟨W3, e3, r3, b3, s3⟩ := newS w2 26 [.bool false, .slice none 0 0, .slice none 0 0] _ rfl
  obtain ⟨gp, hqp⟩ : ∃ x, w2.heap.size = x := ⟨_, rfl⟩
  rw [hqp] at r3
  have HLp := hid (show w.heap.size ≤ gp by have := HB.out.size; omega)
  have HNp := hid (NoU.of_row r3 (noU3 nofun nofun nofun))
  replace Has := hid (Has.out.later b3)
  replace Hpg := hid (Hpg.out.later b3)
  replace HB := hid (HB.out.trans (b3.mono HB.out.size))
  clear b3 s3
  go_wp2_with ((with_reducible show wpList _ _ _ (⟨none, _, _, _, _, _⟩ :: _) _ _); refine wlS_store rfl 26 3 Tryz.sizePt _ _ rfl gp [.bool t0, a0, d0] rfl rfl 26 _ r3 rfl rfl (ones3 rfl o1 o2) ?_; intro w3 hrp hgp hzp)
  have hsb : Sb W3 w3 := ⟨gp, HNp.out, hgp⟩
  replace Has := hid (Has.out.sb hsb)
  replace Hpg := hid (Hpg.out.sb hsb)
  replace HB := hid (below_grown HB.out hgp HLp.out HB.out.size)
  have RWp := hid hrp
  clear hsb hrp hgp hzp e3 r3 hqp HNp
  refine (rOf9_yes w3 c D HC.out).mono ?_
  rintro e w4 ⟨v, rfl, hcr, hb⟩
  obtain ⟨vp, vn, vb, vx, vy, rfl, k1, k2, k3, k4, k5⟩ := hcr
  obtain ⟨Ap, np, cp, rfl⟩ := k1.sl
  obtain ⟨An, nn, cn, rfl⟩ := k2.sl
  obtain ⟨Abb, nbb, cbb, rfl⟩ := k3.sl
  obtain ⟨Ax, nx, cx, rfl⟩ := k4.sl
  obtain ⟨Ay, ny, cy, rfl⟩ := k5.sl
  replace Has := hid (Has.out.later hb)
  replace Hpg := hid (Hpg.out.later hb)
  replace RWp := hid (RWp.out.later hb)
  replace HB := hid (HB.out.trans (hb.mono HB.out.size))
  have Hcr := hid (show Cr _ _ D from ⟨_, _, _, _, _, rfl, k1, k2, k3, k4, k5⟩)
  clear hb k1 k2 k3 k4 k5
  obtain ⟨W5, e5, r5, b5, s5⟩ := newS w4 30 [.slice none 0 0, .slice none 0 0, .slice none 0 0, .slice none 0 0, .slice none 0 0, .int .i64 0] _ rfl
  obtain ⟨gx, hqx⟩ : ∃ x, w4.heap.size = x := ⟨_, rfl⟩
  rw [hqx] at r5
  have HLx := hid (show w.heap.size ≤ gx by have := HB.out.size; omega)
  have HNEpx := hid (show gp ≠ gx by have := RWp.out.lt; omega)
  have HNx := hid (NoU.of_row r5 (noU6 nofun nofun nofun nofun nofun))
  replace Has := hid (Has.out.later b5)
  replace Hpg := hid (Hpg.out.later b5)
  replace Hcr := hid (Hcr.out.later b5)
  replace RWp := hid (RWp.out.later b5)
  replace HB := hid (HB.out.trans (b5.mono HB.out.size))
  clear b5 s5
  go_wp2_with ((with_reducible show wpList _ _ _ (⟨none, _, _, _, _, _⟩ :: _) _ _); refine wlS_store rfl 30 6 Tryz.sizeCr _ _ rfl gx [.slice Ap np cp, .slice An nn cn, .slice Abb nbb cbb, .slice Ax nx cx, .slice Ay ny cy, .int .i64 (D.size : Int)] rfl rfl 30 _ r5 rfl rfl (ones6 rfl rfl rfl rfl rfl rfl) ?_; intro w5 hrx hgx hzx; have p0 := (RWp.out.grown hgx HNEpx.out).at_ (i := 0) rfl; have p1 := (RWp.out.grown hgx HNEpx.out).at_ (i := 1) rfl; have p2 := (RWp.out.grown hgx HNEpx.out).at_ (i := 2) rfl)
  have hsb : Sb W5 w5 := ⟨gx, HNx.out, hgx⟩
  replace Has := hid (Has.out.sb hsb)
  replace Hpg := hid (Hpg.out.sb hsb)
  replace Hcr := hid (Hcr.out.sb hsb)
  replace RWp := hid (RWp.out.grown hgx HNEpx.out)
  replace HB := hid (below_grown HB.out hgx HLx.out HB.out.size)
  have RWx := hid hrx
  clear hsb hrx hgx hzx e5 r5 hqx HNx p0 p1 p2
  refine (rFrom9_pg w5 _ P Hpg.out).mono ?_
  rintro e w6 ⟨v, rfl, hu, hb⟩
  obtain ⟨tu, Au, nu, cu, Bu, mu, du, rfl⟩ := hu.three
  replace Has := hid (Has.out.later hb)
  replace Hpg := hid (Hpg.out.later hb)
  replace Hcr := hid (Hcr.out.later hb)
  replace RWp := hid (RWp.out.later hb)
  replace RWx := hid (RWx.out.later hb)
  replace HB := hid (HB.out.trans (hb.mono HB.out.size))
  have Hu := hid (hu)
  clear hb hu
  obtain ⟨W7, e7, r7, b7, s7⟩ := newS w6 33 [.bool false, .slice none 0 0, .slice none 0 0] _ rfl
  obtain ⟨gu, hqu⟩ : ∃ x, w6.heap.size = x := ⟨_, rfl⟩
  rw [hqu] at r7
  have HLu := hid (show w.heap.size ≤ gu by have := HB.out.size; omega)
  have HNEpu := hid (show gp ≠ gu by have := RWp.out.lt; omega)
  have HNExu := hid (show gx ≠ gu by have := RWx.out.lt; omega)
  have HNu := hid (NoU.of_row r7 (noU3 nofun nofun nofun))
  replace Has := hid (Has.out.later b7)
  replace Hpg := hid (Hpg.out.later b7)
  replace Hcr := hid (Hcr.out.later b7)
  replace Hu := hid (Hu.out.later b7)
  replace RWp := hid (RWp.out.later b7)
  replace RWx := hid (RWx.out.later b7)
  replace HB := hid (HB.out.trans (b7.mono HB.out.size))
  clear b7 s7
  go_wp2_with ((with_reducible show wpList _ _ _ (⟨none, _, _, _, _, _⟩ :: _) _ _); refine wlS_store rfl 33 3 Tryz.sizeRp _ _ rfl gu [.bool tu, .slice Au nu cu, .slice Bu mu du] rfl rfl 33 _ r7 rfl rfl (ones3 rfl rfl rfl) ?_; intro w7 hru hgu hzu; have p0 := (RWp.out.grown hgu HNEpu.out).at_ (i := 0) rfl; have p1 := (RWp.out.grown hgu HNEpu.out).at_ (i := 1) rfl; have p2 := (RWp.out.grown hgu HNEpu.out).at_ (i := 2) rfl)
  have hsb : Sb W7 w7 := ⟨gu, HNu.out, hgu⟩
  replace Has := hid (Has.out.sb hsb)
  replace Hpg := hid (Hpg.out.sb hsb)
  replace Hcr := hid (Hcr.out.sb hsb)
  replace Hu := hid (Hu.out.sb hsb)
  replace RWp := hid (RWp.out.grown hgu HNEpu.out)
  replace RWx := hid (RWx.out.grown hgu HNExu.out)
  replace HB := hid (below_grown HB.out hgu HLu.out HB.out.size)
  have RWu := hid hru
  clear hsb hru hgu hzu e7 r7 hqu HNu p0 p1 p2
  refine (cenc_is w7 c D HC.out _ P Hpg.out HAS.out).mono ?_
  rintro e w8 ⟨v, rfl, he, hb⟩
  have HEB := hid he
  obtain ⟨Ae, ne, ce, rfl, -⟩ : ∃ A n c, v = .slice A n c ∧ True := (by obtain ⟨A, n, c, e, -⟩ := he; exact ⟨A, n, c, e, trivial⟩)
  replace Has := hid (Has.out.later hb)
  replace Hpg := hid (Hpg.out.later hb)
  replace Hcr := hid (Hcr.out.later hb)
  replace Hu := hid (Hu.out.later hb)
  replace RWp := hid (RWp.out.later hb)
  replace RWx := hid (RWx.out.later hb)
  replace RWu := hid (RWu.out.later hb)
  replace HB := hid (HB.out.trans (hb.mono HB.out.size))
  clear hb he
  go_wp2_with fail
  refine (cdec_is w8 c D HC.out Ab mb cb (bs.take mb) (HSB.out.later HB.out (Nat.le_refl _)) (by have := HMB.out; omega)).mono ?_
  rintro e w9 ⟨v, rfl, hm, hb⟩
  obtain ⟨tq, Aq, nq, cq, Bq, mq, dq, rfl⟩ := hm.three'
  obtain ⟨bd, hbd⟩ : ∃ b, (decN D (bs.take mb)).isSome = b := ⟨_, rfl⟩
  obtain ⟨RD, hRD⟩ : ∃ R, (decN D (bs.take mb)).getD none = R := ⟨_, rfl⟩
  rw [hbd]
  rw [hRD] at hm
  have HBD := hid hbd
  have HRD := hid hRD
  clear hbd hRD
  replace Has := hid (Has.out.later hb)
  replace Hpg := hid (Hpg.out.later hb)
  replace Hcr := hid (Hcr.out.later hb)
  replace Hu := hid (Hu.out.later hb)
  replace RWp := hid (RWp.out.later hb)
  replace RWx := hid (RWx.out.later hb)
  replace RWu := hid (RWu.out.later hb)
  replace HEB := hid (HEB.out.later hb)
  replace HB := hid (HB.out.trans (hb.mono HB.out.size))
  have Hq := hid (hm)
  clear hb hm
  obtain ⟨W10, e10, r10, b10, s10⟩ := newS w9 26 [.bool false, .slice none 0 0, .slice none 0 0] _ rfl
  obtain ⟨gq, hqq⟩ : ∃ x, w9.heap.size = x := ⟨_, rfl⟩
  have HENq := hid (show ∀ b off s n c, (.slice Ae ne ce : Value) = .slice (some ⟨b, off, s⟩) n c → 0 < n → b ≠ gq by intro b off s n c e hn; have := HEB.out.lt e hn; omega)
  rw [hqq] at r10
  have HLq := hid (show w.heap.size ≤ gq by have := HB.out.size; omega)
  have HNEpq := hid (show gp ≠ gq by have := RWp.out.lt; omega)
  have HNExq := hid (show gx ≠ gq by have := RWx.out.lt; omega)
  have HNEuq := hid (show gu ≠ gq by have := RWu.out.lt; omega)
  have HNq := hid (NoU.of_row r10 (noU3 nofun nofun nofun))
  replace Has := hid (Has.out.later b10)
  replace Hpg := hid (Hpg.out.later b10)
  replace Hcr := hid (Hcr.out.later b10)
  replace Hu := hid (Hu.out.later b10)
  replace Hq := hid (Hq.out.later b10)
  replace RWp := hid (RWp.out.later b10)
  replace RWx := hid (RWx.out.later b10)
  replace RWu := hid (RWu.out.later b10)
  replace HEB := hid (HEB.out.later b10)
  replace HB := hid (HB.out.trans (b10.mono HB.out.size))
  clear b10 s10
  go_wp2_with ((with_reducible show wpList _ _ _ (⟨none, _, _, _, _, _⟩ :: _) _ _); refine wlS_store rfl 26 3 Tryz.sizePt _ _ rfl gq [.bool tq, .slice Aq nq cq, .slice Bq mq dq] rfl rfl 26 _ r10 rfl rfl (ones3 rfl rfl rfl) ?_; intro w10 hrq hgq hzq; have c0 := (RWx.out.grown hgq HNExq.out).at_ (i := 0) rfl; have c1 := (RWx.out.grown hgq HNExq.out).at_ (i := 1) rfl; have c2 := (RWx.out.grown hgq HNExq.out).at_ (i := 2) rfl; have c3 := (RWx.out.grown hgq HNExq.out).at_ (i := 3) rfl; have c4 := (RWx.out.grown hgq HNExq.out).at_ (i := 4) rfl; have c5 := (RWx.out.grown hgq HNExq.out).at_ (i := 5) rfl)
  replace HEB := hid (HEB.out.off hgq HENq.out)
  have hsb : Sb W10 w10 := ⟨gq, HNq.out, hgq⟩
  replace Has := hid (Has.out.sb hsb)
  replace Hpg := hid (Hpg.out.sb hsb)
  replace Hcr := hid (Hcr.out.sb hsb)
  replace Hu := hid (Hu.out.sb hsb)
  replace Hq := hid (Hq.out.sb hsb)
  replace RWp := hid (RWp.out.grown hgq HNEpq.out)
  replace RWx := hid (RWx.out.grown hgq HNExq.out)
  replace RWu := hid (RWu.out.grown hgq HNEuq.out)
  replace HB := hid (below_grown HB.out hgq HLq.out HB.out.size)
  have RWq := hid hrq
  clear hsb hrq hgq hzq e10 r10 hqq HNq c0 c1 c2 c3 c4 c5
  refine (rdec_is w10 c D HC.out _ Hcr.out Ab mb cb (bs.take mb) (HSB.out.later HB.out (Nat.le_refl _)) (by have := HMB.out; omega)).mono ?_
  rintro e w11 ⟨v, rfl, hm, hb⟩
  obtain ⟨tv, Av, nv, cv, Bv, mv, dv, rfl⟩ := hm.three
  rw [HBD.out]
  rw [HRD.out] at hm
  replace Has := hid (Has.out.later hb)
  replace Hpg := hid (Hpg.out.later hb)
  replace Hcr := hid (Hcr.out.later hb)
  replace Hu := hid (Hu.out.later hb)
  replace Hq := hid (Hq.out.later hb)
  replace RWp := hid (RWp.out.later hb)
  replace RWx := hid (RWx.out.later hb)
  replace RWu := hid (RWu.out.later hb)
  replace RWq := hid (RWq.out.later hb)
  replace HEB := hid (HEB.out.later hb)
  replace HB := hid (HB.out.trans (hb.mono HB.out.size))
  have Hv := hid (hm)
  clear hb hm
  obtain ⟨W12, e12, r12, b12, s12⟩ := newS w11 33 [.bool false, .slice none 0 0, .slice none 0 0] _ rfl
  obtain ⟨gv, hqv⟩ : ∃ x, w11.heap.size = x := ⟨_, rfl⟩
  have HENv := hid (show ∀ b off s n c, (.slice Ae ne ce : Value) = .slice (some ⟨b, off, s⟩) n c → 0 < n → b ≠ gv by intro b off s n c e hn; have := HEB.out.lt e hn; omega)
  rw [hqv] at r12
  have HLv := hid (show w.heap.size ≤ gv by have := HB.out.size; omega)
  have HNEpv := hid (show gp ≠ gv by have := RWp.out.lt; omega)
  have HNExv := hid (show gx ≠ gv by have := RWx.out.lt; omega)
  have HNEuv := hid (show gu ≠ gv by have := RWu.out.lt; omega)
  have HNEqv := hid (show gq ≠ gv by have := RWq.out.lt; omega)
  have HNv := hid (NoU.of_row r12 (noU3 nofun nofun nofun))
  replace Has := hid (Has.out.later b12)
  replace Hpg := hid (Hpg.out.later b12)
  replace Hcr := hid (Hcr.out.later b12)
  replace Hu := hid (Hu.out.later b12)
  replace Hq := hid (Hq.out.later b12)
  replace Hv := hid (Hv.out.later b12)
  replace RWp := hid (RWp.out.later b12)
  replace RWx := hid (RWx.out.later b12)
  replace RWu := hid (RWu.out.later b12)
  replace RWq := hid (RWq.out.later b12)
  replace HEB := hid (HEB.out.later b12)
  replace HB := hid (HB.out.trans (b12.mono HB.out.size))
  clear b12 s12
  go_wp2_with ((with_reducible show wpList _ _ _ (⟨none, _, _, _, _, _⟩ :: _) _ _); refine wlS_store rfl 33 3 Tryz.sizeRp _ _ rfl gv [.bool tv, .slice Av nv cv, .slice Bv mv dv] rfl rfl 33 _ r12 rfl rfl (ones3 rfl rfl rfl) ?_; intro w12 hrv hgv hzv; have q0 := (RWq.out.grown hgv HNEqv.out).at_ (i := 0) rfl; have q1 := (RWq.out.grown hgv HNEqv.out).at_ (i := 1) rfl; have q2 := (RWq.out.grown hgv HNEqv.out).at_ (i := 2) rfl; have v0 := hrv.at_ (i := 0) rfl; have v1 := hrv.at_ (i := 1) rfl; have v2 := hrv.at_ (i := 2) rfl)
  replace HEB := hid (HEB.out.off hgv HENv.out)
  have hsb : Sb W12 w12 := ⟨gv, HNv.out, hgv⟩
  replace Has := hid (Has.out.sb hsb)
  replace Hpg := hid (Hpg.out.sb hsb)
  replace Hcr := hid (Hcr.out.sb hsb)
  replace Hu := hid (Hu.out.sb hsb)
  replace Hq := hid (Hq.out.sb hsb)
  replace Hv := hid (Hv.out.sb hsb)
  replace RWp := hid (RWp.out.grown hgv HNEpv.out)
  replace RWx := hid (RWx.out.grown hgv HNExv.out)
  replace RWu := hid (RWu.out.grown hgv HNEuv.out)
  replace RWq := hid (RWq.out.grown hgv HNEqv.out)
  replace HB := hid (below_grown HB.out hgv HLv.out HB.out.size)
  have RWv := hid hrv
  clear hsb hrv hgv hzv e12 r12 hqv HNv
  refine (is9_any w12 _ _ RD Hq.out Hv.out).mono ?_
  rintro e w13 ⟨rfl, hb⟩
  replace Has := hid (Has.out.later hb)
  replace Hpg := hid (Hpg.out.later hb)
  replace Hcr := hid (Hcr.out.later hb)
  replace Hu := hid (Hu.out.later hb)
  replace Hq := hid (Hq.out.later hb)
  replace Hv := hid (Hv.out.later hb)
  replace RWp := hid (RWp.out.later hb)
  replace RWx := hid (RWx.out.later hb)
  replace RWu := hid (RWu.out.later hb)
  replace RWq := hid (RWq.out.later hb)
  replace RWv := hid (RWv.out.later hb)
  replace HEB := hid (HEB.out.later hb)
  replace HB := hid (HB.out.trans (hb.mono HB.out.size))
  clear hb q0 q1 q2 v0 v1 v2
  have x0 := RWx.out.at_ (i := 0) rfl
  have x1 := RWx.out.at_ (i := 1) rfl
  have x2 := RWx.out.at_ (i := 2) rfl
  have x3 := RWx.out.at_ (i := 3) rfl
  have x4 := RWx.out.at_ (i := 4) rfl
  have x5 := RWx.out.at_ (i := 5) rfl
  have u0 := RWu.out.at_ (i := 0) rfl
  have u1 := RWu.out.at_ (i := 1) rfl
  have u2 := RWu.out.at_ (i := 2) rfl
  go_wp2_with fail
  refine (on9_yes w13 c D HC.out _ _ P Hcr.out Hu.out).mono ?_
  rintro e w14 ⟨rfl, hb⟩
  rw [show decide (hasN D.p D.b P) = true from decide_eq_true HAS.out]
  replace Has := hid (Has.out.later hb)
  replace Hpg := hid (Hpg.out.later hb)
  replace Hcr := hid (Hcr.out.later hb)
  replace Hu := hid (Hu.out.later hb)
  replace Hq := hid (Hq.out.later hb)
  replace Hv := hid (Hv.out.later hb)
  replace RWp := hid (RWp.out.later hb)
  replace RWx := hid (RWx.out.later hb)
  replace RWu := hid (RWu.out.later hb)
  replace RWq := hid (RWq.out.later hb)
  replace RWv := hid (RWv.out.later hb)
  replace HEB := hid (HEB.out.later hb)
  replace HB := hid (HB.out.trans (hb.mono HB.out.size))
  clear hb x0 x1 x2 x3 x4 x5 u0 u1 u2
  go_wp2_with fail
  obtain ⟨A2, n2, c2, e2, hse⟩ := HEB.out
  cases e2
  refine (cdec_is w14 c D HC.out _ _ _ (encN D.size P) hse (by rw [show ne = (encN D.size P).length by simpa using hse.len]; exact enc_len HC.out P)).mono ?_
  rintro e w15 ⟨v, rfl, hm, hb⟩
  rw [dec_enc HC.out HAS.out] at hm
  rw [dec_enc HC.out HAS.out]
  obtain ⟨td, Ad, nd, cd, Bd, md, dd, rfl⟩ := Pt.three' (P := P) hm
  replace Has := hid (Has.out.later hb)
  replace Hpg := hid (Hpg.out.later hb)
  replace Hcr := hid (Hcr.out.later hb)
  replace Hu := hid (Hu.out.later hb)
  replace Hq := hid (Hq.out.later hb)
  replace Hv := hid (Hv.out.later hb)
  replace RWp := hid (RWp.out.later hb)
  replace RWx := hid (RWx.out.later hb)
  replace RWu := hid (RWu.out.later hb)
  replace RWq := hid (RWq.out.later hb)
  replace RWv := hid (RWv.out.later hb)
  replace HEB := hid (HEB.out.later hb)
  replace HB := hid (HB.out.trans (hb.mono HB.out.size))
  have Hd := hid (hm)
  clear hb hm hse
  obtain ⟨W16, e16, r16, b16, s16⟩ := newS w15 26 [.bool false, .slice none 0 0, .slice none 0 0] _ rfl
  obtain ⟨gd, hqd⟩ : ∃ x, w15.heap.size = x := ⟨_, rfl⟩
  have HENd := hid (show ∀ b off s n c, (.slice Ae ne ce : Value) = .slice (some ⟨b, off, s⟩) n c → 0 < n → b ≠ gd by intro b off s n c e hn; have := HEB.out.lt e hn; omega)
  rw [hqd] at r16
  have HLd := hid (show w.heap.size ≤ gd by have := HB.out.size; omega)
  have HNEpd := hid (show gp ≠ gd by have := RWp.out.lt; omega)
  have HNExd := hid (show gx ≠ gd by have := RWx.out.lt; omega)
  have HNEud := hid (show gu ≠ gd by have := RWu.out.lt; omega)
  have HNEqd := hid (show gq ≠ gd by have := RWq.out.lt; omega)
  have HNEvd := hid (show gv ≠ gd by have := RWv.out.lt; omega)
  have HNd := hid (NoU.of_row r16 (noU3 nofun nofun nofun))
  replace Has := hid (Has.out.later b16)
  replace Hpg := hid (Hpg.out.later b16)
  replace Hcr := hid (Hcr.out.later b16)
  replace Hu := hid (Hu.out.later b16)
  replace Hq := hid (Hq.out.later b16)
  replace Hv := hid (Hv.out.later b16)
  replace Hd := hid (Hd.out.later b16)
  replace RWp := hid (RWp.out.later b16)
  replace RWx := hid (RWx.out.later b16)
  replace RWu := hid (RWu.out.later b16)
  replace RWq := hid (RWq.out.later b16)
  replace RWv := hid (RWv.out.later b16)
  replace HEB := hid (HEB.out.later b16)
  replace HB := hid (HB.out.trans (b16.mono HB.out.size))
  clear b16 s16
  go_wp2_with ((with_reducible show wpList _ _ _ (⟨none, _, _, _, _, _⟩ :: _) _ _); refine wlS_store rfl 26 3 Tryz.sizePt _ _ rfl gd [.bool td, .slice Ad nd cd, .slice Bd md dd] rfl rfl 26 _ r16 rfl rfl (ones3 rfl rfl rfl) ?_; intro w16 hrd hgd hzd)
  replace HEB := hid (HEB.out.off hgd HENd.out)
  have hsb : Sb W16 w16 := ⟨gd, HNd.out, hgd⟩
  replace Has := hid (Has.out.sb hsb)
  replace Hpg := hid (Hpg.out.sb hsb)
  replace Hcr := hid (Hcr.out.sb hsb)
  replace Hu := hid (Hu.out.sb hsb)
  replace Hq := hid (Hq.out.sb hsb)
  replace Hv := hid (Hv.out.sb hsb)
  replace Hd := hid (Hd.out.sb hsb)
  replace RWp := hid (RWp.out.grown hgd HNEpd.out)
  replace RWx := hid (RWx.out.grown hgd HNExd.out)
  replace RWu := hid (RWu.out.grown hgd HNEud.out)
  replace RWq := hid (RWq.out.grown hgd HNEqd.out)
  replace RWv := hid (RWv.out.grown hgd HNEvd.out)
  replace HB := hid (below_grown HB.out hgd HLd.out HB.out.size)
  have RWd := hid hrd
  clear hsb hrd hgd hzd e16 r16 hqd HNd
  replace Hd := hid (show Pt _ _ P from Hd.out)
  refine (wpIn_wide (n := 9)).1 (wpIn_region_numGB rfl hmx [(79, .val (.bool true)), (80, .val (.bool true)), (81, .val (.bool true)), (82, .val (.bool true)), (83, .val (.bool true)), (84, .val (.slice Ae ne ce)), (85, .val (strV (encN D.size P))), (86, .val (.agg #[.slice Ap np cp, .slice An nn cn, .slice Abb nbb cbb, .slice Ax nx cx, .slice Ay ny cy, .int .i64 (D.size : Int)])), (87, .val (.agg #[.bool tu, .slice Au nu cu, .slice Bu mu du])), (88, .bytes (encN D.size P)), (89, .val (strV (encN D.size P))), (90, .val (.bool true)), (91, .val (.bool true)), (92, .val (.bool true)), (93, .val (.bool true)), (94, .val (.bool true)), (95, .val (.bool true)), (96, .val (.agg #[.bool td, .slice Ad nd cd, .slice Bd md dd])), (97, .val (.agg #[.bool tu, .slice Au nu cu, .slice Bu mu du])), (98, .val (.bool true)), (99, .val (.bool true)), (8, .val (.bool true))] [(80, true), (83, true), (92, true), (95, true)] (by kernel_rfl) (by kernel_rfl) (by kernel_rfl) (by kernel_rfl) (by rfl) (by kernel_rfl) (by rfl) ?hgv ?hops ?hend)
  case hgv =>
   intro p hp v V h
   simp only [List.mem_cons, List.not_mem_nil, or_false] at hp
   rcases hp with rfl | rfl | rfl | rfl
   all_goals exact h
  case hops =>
   intro i o a' V hB ho hev hrd
   have his : i < 22 := by have := (Array.getElem?_eq_some_iff.1 ho).1; simpa using this
   have rx := RWx.out.later hB
   have ru := RWu.out.later hB
   have rd := RWd.out.later hB
   have hcr := Hcr.out.later hB
   have hu := Hu.out.later hB
   have hd := Hd.out.later hB
   obtain ⟨A5, n5, c5, e5, heb⟩ := HEB.out.later hB
   cases e5
   have hcase : i = 0 ∨ i = 1 ∨ i = 2 ∨ i = 3 ∨ i = 4 ∨ i = 5 ∨ i = 6 ∨ i = 7 ∨ i = 8 ∨ i = 9 ∨ i = 10 ∨ i = 11 ∨ i = 12 ∨ i = 13 ∨ i = 14 ∨ i = 15 ∨ i = 16 ∨ i = 17 ∨ i = 18 ∨ i = 19 ∨ i = 20 ∨ i = 21 := by omega
   rcases hcase with rfl | rfl | rfl | rfl | rfl | rfl | rfl | rfl | rfl | rfl | rfl | rfl | rfl | rfl | rfl | rfl | rfl | rfl | rfl | rfl | rfl | rfl
   ·simp at ho
    subst ho
    have r9 := hev 9 rfl
    simp [Act.eval] at r9
    refine ⟨nofun, fun _ _ => trivial, nofun, .inl ⟨.bool true, V, ?_, Below.refl _ _, fun t ht => by cases ht; rfl⟩⟩
    simp [execOp, Act.eval, go_sem, r9]
   ·simp at ho
    subst ho
    have r79 : a'.eval (.tmp 79) = .bool true := hrd 79 rfl rfl
    simp [Act.eval] at r79
    refine ⟨nofun, fun _ _ => trivial, nofun, .inl ⟨.bool true, V, ?_, Below.refl _ _, fun t ht => by cases ht; rfl⟩⟩
    simp [execOp, Act.eval, go_sem, r79]
   ·simp at ho
    subst ho
    have r14 := hev 14 rfl
    simp [Act.eval] at r14
    refine ⟨nofun, fun _ _ => trivial, nofun, .inl ⟨.bool true, V, ?_, Below.refl _ _, fun t ht => by cases ht; rfl⟩⟩
    simp [execOp, Act.eval, go_sem, r14]
   ·simp at ho
    subst ho
    have r80 : a'.eval (.tmp 80) = .bool true := hrd 80 rfl rfl
    simp [Act.eval] at r80
    have r81 : a'.eval (.tmp 81) = .bool true := hrd 81 rfl rfl
    simp [Act.eval] at r81
    refine ⟨nofun, fun _ _ => trivial, nofun, .inl ⟨.bool true, V, ?_, Below.refl _ _, fun t ht => by cases ht; rfl⟩⟩
    simp [execOp, Act.eval, go_sem, r80, r81]
   ·simp at ho
    subst ho
    have r82 : a'.eval (.tmp 82) = .bool true := hrd 82 rfl rfl
    simp [Act.eval] at r82
    refine ⟨nofun, fun _ _ => trivial, nofun, .inl ⟨.bool true, V, ?_, Below.refl _ _, fun t ht => by cases ht; rfl⟩⟩
    simp [execOp, Act.eval, go_sem, r82]
   ·simp at ho
    subst ho
    have r13 := hev 13 rfl
    simp [Act.eval] at r13
    refine ⟨nofun, fun _ _ => trivial, nofun, .inl ⟨.slice Ae ne ce, V, ?_, Below.refl _ _, fun t ht => by cases ht; rfl⟩⟩
    simp [execOp, Act.eval, go_sem, r13]
   ·simp at ho
    subst ho
    have r84 : a'.eval (.tmp 84) = .slice Ae ne ce := hrd 84 rfl rfl
    simp [Act.eval] at r84
    refine ⟨nofun, fun _ _ => trivial, nofun, .inl ⟨strV (encN D.size P), V, ?_, Below.refl _ _, fun t ht => by cases ht; rfl⟩⟩
    have hcv := conv_str heb
    simp [execOp, Act.eval, r84, hcv, Result.andThen]
   ·simp at ho
    subst ho
    have r11 := hev 11 rfl
    simp [Act.eval] at r11
    try simp [Act.put] at r11
    refine ⟨nofun, fun _ _ => trivial, nofun, .inl ⟨.agg #[.slice Ap np cp, .slice An nn cn, .slice Abb nbb cbb, .slice Ax nx cx, .slice Ay ny cy, .int .i64 (D.size : Int)], V, exec_load 30 6 _ Tryz.underlying30 rfl Tryz.sizeCr _ rfl gx [.slice Ap np cp, .slice An nn cn, .slice Abb nbb cbb, .slice Ax nx cx, .slice Ay ny cy, .int .i64 (D.size : Int)] (by simpa [Act.eval] using r11) 30 rx rfl, Below.refl _ _, fun t ht => by cases ht; rfl⟩⟩
   ·simp at ho
    subst ho
    have r12 := hev 12 rfl
    simp [Act.eval] at r12
    try simp [Act.put] at r12
    refine ⟨nofun, fun _ _ => trivial, nofun, .inl ⟨.agg #[.bool tu, .slice Au nu cu, .slice Bu mu du], V, exec_load 33 3 _ Tryz.underlying33 rfl Tryz.sizeRp _ rfl gu [.bool tu, .slice Au nu cu, .slice Bu mu du] (by simpa [Act.eval] using r12) 33 ru rfl, Below.refl _ _, fun t ht => by cases ht; rfl⟩⟩
   ·simp at ho
    subst ho
    have r86 : a'.eval (.tmp 86) = .agg #[.slice Ap np cp, .slice An nn cn, .slice Abb nbb cbb, .slice Ax nx cx, .slice Ay ny cy, .int .i64 (D.size : Int)] := hrd 86 rfl rfl
    simp [Act.eval] at r86
    have r87 : a'.eval (.tmp 87) = .agg #[.bool tu, .slice Au nu cu, .slice Bu mu du] := hrd 87 rfl rfl
    simp [Act.eval] at r87
    refine ⟨nofun, fun _ _ => trivial, nofun, .inr ⟨27, #[.agg #[.slice Ap np cp, .slice An nn cn, .slice Abb nbb cbb, .slice Ax nx cx, .slice Ay ny cy, .int .i64 (D.size : Int)], .agg #[.bool tu, .slice Au nu cu, .slice Bu mu du]], ?_, (callsIn_wide.2 (renc_is V c D HC.out _ _ hcr P hu HAS.out)).mono ?_⟩⟩
    ·simp [execOp, Act.eval, r86, r87, resolve, invoke, Deferred.ofValue]
    ·rintro e w' ⟨v, rfl, hv, hB2⟩
     exact ⟨_, rfl, hB2, fun t ht => by cases ht; exact hv⟩
   ·simp at ho
    subst ho
    have r88 : BytesV V (a'.eval (.tmp 88)) (encN D.size P) := hrd 88 rfl rfl
    obtain ⟨A88, n88, c88, h88, hs88⟩ := r88
    simp [Act.eval] at h88
    refine ⟨nofun, fun _ _ => trivial, nofun, .inl ⟨strV (encN D.size P), V, ?_, Below.refl _ _, fun t ht => by cases ht; rfl⟩⟩
    have hcv := conv_str hs88
    simp [execOp, Act.eval, h88, hcv, Result.andThen]
   ·simp at ho
    subst ho
    have r85 : a'.eval (.tmp 85) = strV (encN D.size P) := hrd 85 rfl rfl
    simp [Act.eval] at r85
    have r89 : a'.eval (.tmp 89) = strV (encN D.size P) := hrd 89 rfl rfl
    simp [Act.eval] at r89
    refine ⟨nofun, fun _ _ => trivial, nofun, .inl ⟨.bool true, V, ?_, Below.refl _ _, fun t ht => by cases ht; rfl⟩⟩
    have hq := eql_str (P := Tryz.prog) V 9 (encN D.size P) (encN D.size P)
    rw [decide_eq_true rfl] at hq
    simp [execOp, Act.eval, r85, r89, eqGuard_str, hq, Sem.run_bind]
   ·simp at ho
    subst ho
    have r83 : a'.eval (.tmp 83) = .bool true := hrd 83 rfl rfl
    simp [Act.eval] at r83
    have r90 : a'.eval (.tmp 90) = .bool true := hrd 90 rfl rfl
    simp [Act.eval] at r90
    refine ⟨nofun, fun _ _ => trivial, nofun, .inl ⟨.bool true, V, ?_, Below.refl _ _, fun t ht => by cases ht; rfl⟩⟩
    simp [execOp, Act.eval, go_sem, r83, r90]
   ·simp at ho
    subst ho
    have r91 : a'.eval (.tmp 91) = .bool true := hrd 91 rfl rfl
    simp [Act.eval] at r91
    refine ⟨nofun, fun _ _ => trivial, nofun, .inl ⟨.bool true, V, ?_, Below.refl _ _, fun t ht => by cases ht; rfl⟩⟩
    simp [execOp, Act.eval, go_sem, r91]
   ·simp at ho
    subst ho
    have r20 := hev 20 rfl
    simp [Act.eval] at r20
    refine ⟨nofun, fun _ _ => trivial, nofun, .inl ⟨.bool true, V, ?_, Below.refl _ _, fun t ht => by cases ht; rfl⟩⟩
    simp [execOp, Act.eval, go_sem, r20]
   ·simp at ho
    subst ho
    have r92 : a'.eval (.tmp 92) = .bool true := hrd 92 rfl rfl
    simp [Act.eval] at r92
    have r93 : a'.eval (.tmp 93) = .bool true := hrd 93 rfl rfl
    simp [Act.eval] at r93
    refine ⟨nofun, fun _ _ => trivial, nofun, .inl ⟨.bool true, V, ?_, Below.refl _ _, fun t ht => by cases ht; rfl⟩⟩
    simp [execOp, Act.eval, go_sem, r92, r93]
   ·simp at ho
    subst ho
    have r94 : a'.eval (.tmp 94) = .bool true := hrd 94 rfl rfl
    simp [Act.eval] at r94
    refine ⟨nofun, fun _ _ => trivial, nofun, .inl ⟨.bool true, V, ?_, Below.refl _ _, fun t ht => by cases ht; rfl⟩⟩
    simp [execOp, Act.eval, go_sem, r94]
   ·simp at ho
    subst ho
    have r19 := hev 19 rfl
    simp [Act.eval] at r19
    try simp [Act.put] at r19
    refine ⟨nofun, fun _ _ => trivial, nofun, .inl ⟨.agg #[.bool td, .slice Ad nd cd, .slice Bd md dd], V, exec_load 26 3 _ Tryz.underlying26 rfl Tryz.sizePt _ rfl gd [.bool td, .slice Ad nd cd, .slice Bd md dd] (by simpa [Act.eval] using r19) 26 rd rfl, Below.refl _ _, fun t ht => by cases ht; rfl⟩⟩
   ·simp at ho
    subst ho
    have r12 := hev 12 rfl
    simp [Act.eval] at r12
    try simp [Act.put] at r12
    refine ⟨nofun, fun _ _ => trivial, nofun, .inl ⟨.agg #[.bool tu, .slice Au nu cu, .slice Bu mu du], V, exec_load 33 3 _ Tryz.underlying33 rfl Tryz.sizeRp _ rfl gu [.bool tu, .slice Au nu cu, .slice Bu mu du] (by simpa [Act.eval] using r12) 33 ru rfl, Below.refl _ _, fun t ht => by cases ht; rfl⟩⟩
   ·simp at ho
    subst ho
    have r96 : a'.eval (.tmp 96) = .agg #[.bool td, .slice Ad nd cd, .slice Bd md dd] := hrd 96 rfl rfl
    simp [Act.eval] at r96
    have r97 : a'.eval (.tmp 97) = .agg #[.bool tu, .slice Au nu cu, .slice Bu mu du] := hrd 97 rfl rfl
    simp [Act.eval] at r97
    refine ⟨nofun, fun _ _ => trivial, nofun, .inr ⟨16, #[.agg #[.bool td, .slice Ad nd cd, .slice Bd md dd], .agg #[.bool tu, .slice Au nu cu, .slice Bu mu du]], ?_, (callsIn_wide.2 (is9_any V _ _ P hd hu)).mono ?_⟩⟩
    ·simp [execOp, Act.eval, r96, r97, resolve, invoke, Deferred.ofValue]
    ·rintro e w' ⟨rfl, hB2⟩
     have hv : Value.bool true = Value.bool true := rfl
     exact ⟨_, rfl, hB2, fun t ht => by cases ht; exact hv⟩
   ·simp at ho
    subst ho
    have r95 : a'.eval (.tmp 95) = .bool true := hrd 95 rfl rfl
    simp [Act.eval] at r95
    have r98 : a'.eval (.tmp 98) = .bool true := hrd 98 rfl rfl
    simp [Act.eval] at r98
    refine ⟨nofun, fun _ _ => trivial, nofun, .inl ⟨.bool true, V, ?_, Below.refl _ _, fun t ht => by cases ht; rfl⟩⟩
    simp [execOp, Act.eval, go_sem, r95, r98]
   ·simp at ho
    subst ho
    have r99 : a'.eval (.tmp 99) = .bool true := hrd 99 rfl rfl
    simp [Act.eval] at r99
    refine ⟨nofun, fun _ _ => trivial, nofun, .inl ⟨.bool true, V, ?_, Below.refl _ _, fun t ht => by cases ht; rfl⟩⟩
    simp [execOp, Act.eval, go_sem, r99]
  case hend =>
   intro vals V hB hP
   have hz : vals 21 = .bool true := hP 21 8 _ rfl rfl
   have HBE := hid (HB.out.trans (hB.mono HB.out.size))
   clear hP hB
   simp [wrote, Act.put]
   rw [hz]
   go_wp2
   go_ret
   exact ⟨rfl, HBE.out⟩
 ·have HAS := hid has
  clear has
  obtain ⟨W3, e3, r3, b3, s3⟩ := newS w2 26 [.bool false, .slice none 0 0, .slice none 0 0] _ rfl
  obtain ⟨gp, hqp⟩ : ∃ x, w2.heap.size = x := ⟨_, rfl⟩
  rw [hqp] at r3
  have HLp := hid (show w.heap.size ≤ gp by have := HB.out.size; omega)
  have HNp := hid (NoU.of_row r3 (noU3 nofun nofun nofun))
  replace Has := hid (Has.out.later b3)
  replace Hpg := hid (Hpg.out.later b3)
  replace HB := hid (HB.out.trans (b3.mono HB.out.size))
  clear b3 s3
  go_wp2_with ((with_reducible show wpList _ _ _ (⟨none, _, _, _, _, _⟩ :: _) _ _); refine wlS_store rfl 26 3 Tryz.sizePt _ _ rfl gp [.bool t0, a0, d0] rfl rfl 26 _ r3 rfl rfl (ones3 rfl o1 o2) ?_; intro w3 hrp hgp hzp)
  have hsb : Sb W3 w3 := ⟨gp, HNp.out, hgp⟩
  replace Has := hid (Has.out.sb hsb)
  replace Hpg := hid (Hpg.out.sb hsb)
  replace HB := hid (below_grown HB.out hgp HLp.out HB.out.size)
  have RWp := hid hrp
  clear hsb hrp hgp hzp e3 r3 hqp HNp
  refine (rOf9_yes w3 c D HC.out).mono ?_
  rintro e w4 ⟨v, rfl, hcr, hb⟩
  obtain ⟨vp, vn, vb, vx, vy, rfl, k1, k2, k3, k4, k5⟩ := hcr
  obtain ⟨Ap, np, cp, rfl⟩ := k1.sl
  obtain ⟨An, nn, cn, rfl⟩ := k2.sl
  obtain ⟨Abb, nbb, cbb, rfl⟩ := k3.sl
  obtain ⟨Ax, nx, cx, rfl⟩ := k4.sl
  obtain ⟨Ay, ny, cy, rfl⟩ := k5.sl
  replace Has := hid (Has.out.later hb)
  replace Hpg := hid (Hpg.out.later hb)
  replace RWp := hid (RWp.out.later hb)
  replace HB := hid (HB.out.trans (hb.mono HB.out.size))
  have Hcr := hid (show Cr _ _ D from ⟨_, _, _, _, _, rfl, k1, k2, k3, k4, k5⟩)
  clear hb k1 k2 k3 k4 k5
  obtain ⟨W5, e5, r5, b5, s5⟩ := newS w4 30 [.slice none 0 0, .slice none 0 0, .slice none 0 0, .slice none 0 0, .slice none 0 0, .int .i64 0] _ rfl
  obtain ⟨gx, hqx⟩ : ∃ x, w4.heap.size = x := ⟨_, rfl⟩
  rw [hqx] at r5
  have HLx := hid (show w.heap.size ≤ gx by have := HB.out.size; omega)
  have HNEpx := hid (show gp ≠ gx by have := RWp.out.lt; omega)
  have HNx := hid (NoU.of_row r5 (noU6 nofun nofun nofun nofun nofun))
  replace Has := hid (Has.out.later b5)
  replace Hpg := hid (Hpg.out.later b5)
  replace Hcr := hid (Hcr.out.later b5)
  replace RWp := hid (RWp.out.later b5)
  replace HB := hid (HB.out.trans (b5.mono HB.out.size))
  clear b5 s5
  go_wp2_with ((with_reducible show wpList _ _ _ (⟨none, _, _, _, _, _⟩ :: _) _ _); refine wlS_store rfl 30 6 Tryz.sizeCr _ _ rfl gx [.slice Ap np cp, .slice An nn cn, .slice Abb nbb cbb, .slice Ax nx cx, .slice Ay ny cy, .int .i64 (D.size : Int)] rfl rfl 30 _ r5 rfl rfl (ones6 rfl rfl rfl rfl rfl rfl) ?_; intro w5 hrx hgx hzx; have p0 := (RWp.out.grown hgx HNEpx.out).at_ (i := 0) rfl; have p1 := (RWp.out.grown hgx HNEpx.out).at_ (i := 1) rfl; have p2 := (RWp.out.grown hgx HNEpx.out).at_ (i := 2) rfl)
  have hsb : Sb W5 w5 := ⟨gx, HNx.out, hgx⟩
  replace Has := hid (Has.out.sb hsb)
  replace Hpg := hid (Hpg.out.sb hsb)
  replace Hcr := hid (Hcr.out.sb hsb)
  replace RWp := hid (RWp.out.grown hgx HNEpx.out)
  replace HB := hid (below_grown HB.out hgx HLx.out HB.out.size)
  have RWx := hid hrx
  clear hsb hrx hgx hzx e5 r5 hqx HNx p0 p1 p2
  refine (rFrom9_pg w5 _ P Hpg.out).mono ?_
  rintro e w6 ⟨v, rfl, hu, hb⟩
  obtain ⟨tu, Au, nu, cu, Bu, mu, du, rfl⟩ := hu.three
  replace Has := hid (Has.out.later hb)
  replace Hpg := hid (Hpg.out.later hb)
  replace Hcr := hid (Hcr.out.later hb)
  replace RWp := hid (RWp.out.later hb)
  replace RWx := hid (RWx.out.later hb)
  replace HB := hid (HB.out.trans (hb.mono HB.out.size))
  have Hu := hid (hu)
  clear hb hu
  obtain ⟨W7, e7, r7, b7, s7⟩ := newS w6 33 [.bool false, .slice none 0 0, .slice none 0 0] _ rfl
  obtain ⟨gu, hqu⟩ : ∃ x, w6.heap.size = x := ⟨_, rfl⟩
  rw [hqu] at r7
  have HLu := hid (show w.heap.size ≤ gu by have := HB.out.size; omega)
  have HNEpu := hid (show gp ≠ gu by have := RWp.out.lt; omega)
  have HNExu := hid (show gx ≠ gu by have := RWx.out.lt; omega)
  have HNu := hid (NoU.of_row r7 (noU3 nofun nofun nofun))
  replace Has := hid (Has.out.later b7)
  replace Hpg := hid (Hpg.out.later b7)
  replace Hcr := hid (Hcr.out.later b7)
  replace Hu := hid (Hu.out.later b7)
  replace RWp := hid (RWp.out.later b7)
  replace RWx := hid (RWx.out.later b7)
  replace HB := hid (HB.out.trans (b7.mono HB.out.size))
  clear b7 s7
  go_wp2_with ((with_reducible show wpList _ _ _ (⟨none, _, _, _, _, _⟩ :: _) _ _); refine wlS_store rfl 33 3 Tryz.sizeRp _ _ rfl gu [.bool tu, .slice Au nu cu, .slice Bu mu du] rfl rfl 33 _ r7 rfl rfl (ones3 rfl rfl rfl) ?_; intro w7 hru hgu hzu; have p0 := (RWp.out.grown hgu HNEpu.out).at_ (i := 0) rfl; have p1 := (RWp.out.grown hgu HNEpu.out).at_ (i := 1) rfl; have p2 := (RWp.out.grown hgu HNEpu.out).at_ (i := 2) rfl)
  have hsb : Sb W7 w7 := ⟨gu, HNu.out, hgu⟩
  replace Has := hid (Has.out.sb hsb)
  replace Hpg := hid (Hpg.out.sb hsb)
  replace Hcr := hid (Hcr.out.sb hsb)
  replace Hu := hid (Hu.out.sb hsb)
  replace RWp := hid (RWp.out.grown hgu HNEpu.out)
  replace RWx := hid (RWx.out.grown hgu HNExu.out)
  replace HB := hid (below_grown HB.out hgu HLu.out HB.out.size)
  have RWu := hid hru
  clear hsb hru hgu hzu e7 r7 hqu HNu p0 p1 p2
  refine (cEnc_no w7 c D HC.out _ P Hpg.out HAS.out).mono ?_
  rintro e w8 ⟨rfl, hb⟩
  replace Has := hid (Has.out.later hb)
  replace Hpg := hid (Hpg.out.later hb)
  replace Hcr := hid (Hcr.out.later hb)
  replace Hu := hid (Hu.out.later hb)
  replace RWp := hid (RWp.out.later hb)
  replace RWx := hid (RWx.out.later hb)
  replace RWu := hid (RWu.out.later hb)
  replace HB := hid (HB.out.trans (hb.mono HB.out.size))
  clear hb
  go_wp2_with fail
  refine (cdec_is w8 c D HC.out Ab mb cb (bs.take mb) (HSB.out.later HB.out (Nat.le_refl _)) (by have := HMB.out; omega)).mono ?_
  rintro e w9 ⟨v, rfl, hm, hb⟩
  obtain ⟨tq, Aq, nq, cq, Bq, mq, dq, rfl⟩ := hm.three'
  obtain ⟨bd, hbd⟩ : ∃ b, (decN D (bs.take mb)).isSome = b := ⟨_, rfl⟩
  obtain ⟨RD, hRD⟩ : ∃ R, (decN D (bs.take mb)).getD none = R := ⟨_, rfl⟩
  rw [hbd]
  rw [hRD] at hm
  have HBD := hid hbd
  have HRD := hid hRD
  clear hbd hRD
  replace Has := hid (Has.out.later hb)
  replace Hpg := hid (Hpg.out.later hb)
  replace Hcr := hid (Hcr.out.later hb)
  replace Hu := hid (Hu.out.later hb)
  replace RWp := hid (RWp.out.later hb)
  replace RWx := hid (RWx.out.later hb)
  replace RWu := hid (RWu.out.later hb)
  replace HB := hid (HB.out.trans (hb.mono HB.out.size))
  have Hq := hid (hm)
  clear hb hm
  obtain ⟨W10, e10, r10, b10, s10⟩ := newS w9 26 [.bool false, .slice none 0 0, .slice none 0 0] _ rfl
  obtain ⟨gq, hqq⟩ : ∃ x, w9.heap.size = x := ⟨_, rfl⟩
  rw [hqq] at r10
  have HLq := hid (show w.heap.size ≤ gq by have := HB.out.size; omega)
  have HNEpq := hid (show gp ≠ gq by have := RWp.out.lt; omega)
  have HNExq := hid (show gx ≠ gq by have := RWx.out.lt; omega)
  have HNEuq := hid (show gu ≠ gq by have := RWu.out.lt; omega)
  have HNq := hid (NoU.of_row r10 (noU3 nofun nofun nofun))
  replace Has := hid (Has.out.later b10)
  replace Hpg := hid (Hpg.out.later b10)
  replace Hcr := hid (Hcr.out.later b10)
  replace Hu := hid (Hu.out.later b10)
  replace Hq := hid (Hq.out.later b10)
  replace RWp := hid (RWp.out.later b10)
  replace RWx := hid (RWx.out.later b10)
  replace RWu := hid (RWu.out.later b10)
  replace HB := hid (HB.out.trans (b10.mono HB.out.size))
  clear b10 s10
  go_wp2_with ((with_reducible show wpList _ _ _ (⟨none, _, _, _, _, _⟩ :: _) _ _); refine wlS_store rfl 26 3 Tryz.sizePt _ _ rfl gq [.bool tq, .slice Aq nq cq, .slice Bq mq dq] rfl rfl 26 _ r10 rfl rfl (ones3 rfl rfl rfl) ?_; intro w10 hrq hgq hzq; have c0 := (RWx.out.grown hgq HNExq.out).at_ (i := 0) rfl; have c1 := (RWx.out.grown hgq HNExq.out).at_ (i := 1) rfl; have c2 := (RWx.out.grown hgq HNExq.out).at_ (i := 2) rfl; have c3 := (RWx.out.grown hgq HNExq.out).at_ (i := 3) rfl; have c4 := (RWx.out.grown hgq HNExq.out).at_ (i := 4) rfl; have c5 := (RWx.out.grown hgq HNExq.out).at_ (i := 5) rfl)
  have hsb : Sb W10 w10 := ⟨gq, HNq.out, hgq⟩
  replace Has := hid (Has.out.sb hsb)
  replace Hpg := hid (Hpg.out.sb hsb)
  replace Hcr := hid (Hcr.out.sb hsb)
  replace Hu := hid (Hu.out.sb hsb)
  replace Hq := hid (Hq.out.sb hsb)
  replace RWp := hid (RWp.out.grown hgq HNEpq.out)
  replace RWx := hid (RWx.out.grown hgq HNExq.out)
  replace RWu := hid (RWu.out.grown hgq HNEuq.out)
  replace HB := hid (below_grown HB.out hgq HLq.out HB.out.size)
  have RWq := hid hrq
  clear hsb hrq hgq hzq e10 r10 hqq HNq c0 c1 c2 c3 c4 c5
  refine (rdec_is w10 c D HC.out _ Hcr.out Ab mb cb (bs.take mb) (HSB.out.later HB.out (Nat.le_refl _)) (by have := HMB.out; omega)).mono ?_
  rintro e w11 ⟨v, rfl, hm, hb⟩
  obtain ⟨tv, Av, nv, cv, Bv, mv, dv, rfl⟩ := hm.three
  rw [HBD.out]
  rw [HRD.out] at hm
  replace Has := hid (Has.out.later hb)
  replace Hpg := hid (Hpg.out.later hb)
  replace Hcr := hid (Hcr.out.later hb)
  replace Hu := hid (Hu.out.later hb)
  replace Hq := hid (Hq.out.later hb)
  replace RWp := hid (RWp.out.later hb)
  replace RWx := hid (RWx.out.later hb)
  replace RWu := hid (RWu.out.later hb)
  replace RWq := hid (RWq.out.later hb)
  replace HB := hid (HB.out.trans (hb.mono HB.out.size))
  have Hv := hid (hm)
  clear hb hm
  obtain ⟨W12, e12, r12, b12, s12⟩ := newS w11 33 [.bool false, .slice none 0 0, .slice none 0 0] _ rfl
  obtain ⟨gv, hqv⟩ : ∃ x, w11.heap.size = x := ⟨_, rfl⟩
  rw [hqv] at r12
  have HLv := hid (show w.heap.size ≤ gv by have := HB.out.size; omega)
  have HNEpv := hid (show gp ≠ gv by have := RWp.out.lt; omega)
  have HNExv := hid (show gx ≠ gv by have := RWx.out.lt; omega)
  have HNEuv := hid (show gu ≠ gv by have := RWu.out.lt; omega)
  have HNEqv := hid (show gq ≠ gv by have := RWq.out.lt; omega)
  have HNv := hid (NoU.of_row r12 (noU3 nofun nofun nofun))
  replace Has := hid (Has.out.later b12)
  replace Hpg := hid (Hpg.out.later b12)
  replace Hcr := hid (Hcr.out.later b12)
  replace Hu := hid (Hu.out.later b12)
  replace Hq := hid (Hq.out.later b12)
  replace Hv := hid (Hv.out.later b12)
  replace RWp := hid (RWp.out.later b12)
  replace RWx := hid (RWx.out.later b12)
  replace RWu := hid (RWu.out.later b12)
  replace RWq := hid (RWq.out.later b12)
  replace HB := hid (HB.out.trans (b12.mono HB.out.size))
  clear b12 s12
  go_wp2_with ((with_reducible show wpList _ _ _ (⟨none, _, _, _, _, _⟩ :: _) _ _); refine wlS_store rfl 33 3 Tryz.sizeRp _ _ rfl gv [.bool tv, .slice Av nv cv, .slice Bv mv dv] rfl rfl 33 _ r12 rfl rfl (ones3 rfl rfl rfl) ?_; intro w12 hrv hgv hzv; have q0 := (RWq.out.grown hgv HNEqv.out).at_ (i := 0) rfl; have q1 := (RWq.out.grown hgv HNEqv.out).at_ (i := 1) rfl; have q2 := (RWq.out.grown hgv HNEqv.out).at_ (i := 2) rfl; have v0 := hrv.at_ (i := 0) rfl; have v1 := hrv.at_ (i := 1) rfl; have v2 := hrv.at_ (i := 2) rfl)
  have hsb : Sb W12 w12 := ⟨gv, HNv.out, hgv⟩
  replace Has := hid (Has.out.sb hsb)
  replace Hpg := hid (Hpg.out.sb hsb)
  replace Hcr := hid (Hcr.out.sb hsb)
  replace Hu := hid (Hu.out.sb hsb)
  replace Hq := hid (Hq.out.sb hsb)
  replace Hv := hid (Hv.out.sb hsb)
  replace RWp := hid (RWp.out.grown hgv HNEpv.out)
  replace RWx := hid (RWx.out.grown hgv HNExv.out)
  replace RWu := hid (RWu.out.grown hgv HNEuv.out)
  replace RWq := hid (RWq.out.grown hgv HNEqv.out)
  replace HB := hid (below_grown HB.out hgv HLv.out HB.out.size)
  have RWv := hid hrv
  clear hsb hrv hgv hzv e12 r12 hqv HNv
  refine (is9_any w12 _ _ RD Hq.out Hv.out).mono ?_
  rintro e w13 ⟨rfl, hb⟩
  replace Has := hid (Has.out.later hb)
  replace Hpg := hid (Hpg.out.later hb)
  replace Hcr := hid (Hcr.out.later hb)
  replace Hu := hid (Hu.out.later hb)
  replace Hq := hid (Hq.out.later hb)
  replace Hv := hid (Hv.out.later hb)
  replace RWp := hid (RWp.out.later hb)
  replace RWx := hid (RWx.out.later hb)
  replace RWu := hid (RWu.out.later hb)
  replace RWq := hid (RWq.out.later hb)
  replace RWv := hid (RWv.out.later hb)
  replace HB := hid (HB.out.trans (hb.mono HB.out.size))
  clear hb q0 q1 q2 v0 v1 v2
  have x0 := RWx.out.at_ (i := 0) rfl
  have x1 := RWx.out.at_ (i := 1) rfl
  have x2 := RWx.out.at_ (i := 2) rfl
  have x3 := RWx.out.at_ (i := 3) rfl
  have x4 := RWx.out.at_ (i := 4) rfl
  have x5 := RWx.out.at_ (i := 5) rfl
  have u0 := RWu.out.at_ (i := 0) rfl
  have u1 := RWu.out.at_ (i := 1) rfl
  have u2 := RWu.out.at_ (i := 2) rfl
  go_wp2_with fail
  refine (on9_yes w13 c D HC.out _ _ P Hcr.out Hu.out).mono ?_
  rintro e w14 ⟨rfl, hb⟩
  rw [show decide (hasN D.p D.b P) = false from decide_eq_false HAS.out]
  replace Has := hid (Has.out.later hb)
  replace Hpg := hid (Hpg.out.later hb)
  replace Hcr := hid (Hcr.out.later hb)
  replace Hu := hid (Hu.out.later hb)
  replace Hq := hid (Hq.out.later hb)
  replace Hv := hid (Hv.out.later hb)
  replace RWp := hid (RWp.out.later hb)
  replace RWx := hid (RWx.out.later hb)
  replace RWu := hid (RWu.out.later hb)
  replace RWq := hid (RWq.out.later hb)
  replace RWv := hid (RWv.out.later hb)
  replace HB := hid (HB.out.trans (hb.mono HB.out.size))
  clear hb x0 x1 x2 x3 x4 x5 u0 u1 u2
  go_wp2
  go_ret
  exact ⟨rfl, HB.out⟩
theorem code9_walk (w : World) (c : Int) (Aa Ab : Option Addr) (na ca nb cb : Nat) (xs : List Nat) (bs : List (BitVec 8)) (ha : CutS w (.slice Aa na ca) xs) (had : Dg b64 xs) (hal : na ≤ 1048576) (hb : SlV w w.heap.size Ab nb cb (bs.map W8)) (sp : Bool) : Calls Tryz.prog 5 #[.int .i64 c, .slice Aa na ca, .bool sp, .slice Ab nb cb] w fun e w' => RetV w (.bool true) e w' := by
 rcases h : crvOf c with _ | D
 ·exact code9_none w c h Aa Ab na ca nb cb xs bs ha had hal hb sp
 ·exact code9_yes w c D h Aa Ab na ca nb cb xs bs ha had hal hb sp
end Go.Proofs.YtbejcollbkeedaaGreat
