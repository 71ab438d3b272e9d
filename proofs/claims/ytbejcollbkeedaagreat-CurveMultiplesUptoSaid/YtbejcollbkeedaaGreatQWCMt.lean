/- CurveMultiples, walked. -/
import Derived.Test.YtbejcollbkeedaaGreatPileM14
set_option linter.unusedVariables false
set_option linter.unusedSimpArgs false
set_option linter.unusedSectionVars false
set_option maxRecDepth 100000
set_option maxHeartbeats 8000000
open Go.Lib (hid)
namespace Go.Proofs.YtbejcollbkeedaaGreat
open Go.RowKit Go.Shelf Cw
attribute [local go_sem] Oper.semAt_some
theorem mt9_none (w : World) (c : Int) (hc : crvOf c = none) (Aa : Option Addr) (na ca : Nat) (ys : List Nat) (ha : CutS w (.slice Aa na ca) ys) (had : Dg b64 ys) (hal : na ≤ 1048576) (sp : Bool) (N : Int) (hN1 : -9223372036854775808 ≤ N) (hN2 : N ≤ 9223372036854775807) : Calls Tryz.prog 6 #[.int .i64 c, .slice Aa na ca, .bool sp, .int .i64 N] w fun e w' => RetV w (.bool true) e w' := by
 have HC := hid hc
 have hmx : Tryz.prog.follows .mixedOrders = true := by kernel_rfl
 have HAD := hid had
 have HAL := hid hal
 have HB := hid (Below.refl w.heap.size w)
 have Has := hid ha
 have HNN := hid (And.intro hN1 hN2)
 clear hc had ha hal hN1 hN2
 obtain ⟨W1, e1, r1, b1, s1⟩ := newS w 3 [.int .i64 N] _ rfl
 obtain ⟨g7, hq7⟩ : ∃ x, w.heap.size = x := ⟨_, rfl⟩
 rw [hq7] at r1
 have HL7 := hid (show w.heap.size ≤ g7 by have := HB.out.size; omega)
 have HN7 := hid (NoU.of_row r1 (by intro v hv x; simp only [List.mem_cons, List.not_mem_nil, or_false] at hv; subst hv; intro h; cases h))
 replace Has := hid (Has.out.later b1)
 replace HB := hid (HB.out.trans (b1.mono HB.out.size))
 clear b1 s1
 have RW7 := hid r1
 clear r1 HN7
 obtain ⟨W2, e2, r2, b2, s2⟩ := newS W1 4 [.bool false] _ rfl
 obtain ⟨g8, hq8⟩ : ∃ x, W1.heap.size = x := ⟨_, rfl⟩
 rw [hq8] at r2
 have HL8 := hid (show w.heap.size ≤ g8 by have := HB.out.size; omega)
 have HNE78 := hid (show g7 ≠ g8 by have := RW7.out.lt; omega)
 have HN8 := hid (NoU.of_row r2 (by intro v hv x; simp only [List.mem_cons, List.not_mem_nil, or_false] at hv; subst hv; intro h; cases h))
 replace Has := hid (Has.out.later b2)
 replace RW7 := hid (RW7.out.later b2)
 replace HB := hid (HB.out.trans (b2.mono HB.out.size))
 clear b2 s2
 have RW8 := hid r2
 clear r2 HN8
 refine (callsIn_wide (n := 9)).1 ?_
 refine callsIn_of_wp_marks Tryz.func6 rfl trivial ?_ rfl
 simp only [Tryz.ntmps6, List.size_toArray, List.length_cons, List.length_nil, Nat.reduceAdd, Nat.reduceSub, Array.replicate_succ, Array.replicate_zero, List.push_toArray, List.append_toArray, List.nil_append, List.cons_append]
 gi_wp2_with fail
 clear e1 e2 hq7 hq8
 refine ⟨trivial, (callsIn_wide.2 (begun9_any W2)).mono ?_⟩
 rintro e w3 ⟨rfl, hb⟩
 replace Has := hid (Has.out.later hb)
 replace RW7 := hid (RW7.out.later hb)
 replace RW8 := hid (RW8.out.later hb)
 replace HB := hid (HB.out.trans (hb.mono HB.out.size))
 clear hb
 gi_wp2_with fail
 refine ⟨trivial, (callsIn_wide.2 (pt9_none w3 c HC.out _ _ _ sp)).mono ?_⟩
 rintro e w4 ⟨rfl, hb⟩
 replace Has := hid (Has.out.later hb)
 replace RW7 := hid (RW7.out.later hb)
 replace RW8 := hid (RW8.out.later hb)
 replace HB := hid (HB.out.trans (hb.mono HB.out.size))
 clear hb
 obtain ⟨W5, e5, r5, b5, s5⟩ := newS w4 26 [.bool false, .slice none 0 0, .slice none 0 0] _ rfl
 obtain ⟨gp, hqp⟩ : ∃ x, w4.heap.size = x := ⟨_, rfl⟩
 rw [hqp] at r5
 have HLp := hid (show w.heap.size ≤ gp by have := HB.out.size; omega)
 have HNE7p := hid (show g7 ≠ gp by have := RW7.out.lt; omega)
 have HNE8p := hid (show g8 ≠ gp by have := RW8.out.lt; omega)
 have HNp := hid (NoU.of_row r5 (noU3 nofun nofun nofun))
 replace Has := hid (Has.out.later b5)
 replace RW7 := hid (RW7.out.later b5)
 replace RW8 := hid (RW8.out.later b5)
 replace HB := hid (HB.out.trans (b5.mono HB.out.size))
 clear b5 s5
 gi_wp2_with ((with_reducible show wpListIn _ _ _ _ _ (⟨none, _, _, _, _, _⟩ :: _) _ _); refine wlSI_store rfl 26 3 Tryz.sizePt _ _ rfl gp [.bool false, .slice Aa na ca, .slice Aa na ca] rfl rfl 26 _ r5 rfl rfl (ones3 rfl rfl rfl) ?_; intro w5 hrp hgp hzp)
 have hsb : Sb W5 w5 := ⟨gp, HNp.out, hgp⟩
 replace Has := hid (Has.out.sb hsb)
 replace RW7 := hid (RW7.out.grown hgp HNE7p.out)
 replace RW8 := hid (RW8.out.grown hgp HNE8p.out)
 replace HB := hid (below_grown HB.out hgp HLp.out HB.out.size)
 clear hsb
 have RWp := hid hrp
 clear hrp hgp hzp e5 r5 hqp HNp
 refine ⟨trivial, (callsIn_wide.2 (rOf9_no w5 c HC.out)).mono ?_⟩
 rintro e w6 ⟨rfl, hb⟩
 replace Has := hid (Has.out.later hb)
 replace RW7 := hid (RW7.out.later hb)
 replace RW8 := hid (RW8.out.later hb)
 replace RWp := hid (RWp.out.later hb)
 replace HB := hid (HB.out.trans (hb.mono HB.out.size))
 clear hb
 obtain ⟨W7, e7, r7, b7, s7⟩ := newS w6 30 [.slice none 0 0, .slice none 0 0, .slice none 0 0, .slice none 0 0, .slice none 0 0, .int .i64 0] _ rfl
 obtain ⟨gx, hqx⟩ : ∃ x, w6.heap.size = x := ⟨_, rfl⟩
 rw [hqx] at r7
 have HLx := hid (show w.heap.size ≤ gx by have := HB.out.size; omega)
 have HNE7x := hid (show g7 ≠ gx by have := RW7.out.lt; omega)
 have HNE8x := hid (show g8 ≠ gx by have := RW8.out.lt; omega)
 have HNEpx := hid (show gp ≠ gx by have := RWp.out.lt; omega)
 have HNx := hid (NoU.of_row r7 (noU6 nofun nofun nofun nofun nofun))
 replace Has := hid (Has.out.later b7)
 replace RW7 := hid (RW7.out.later b7)
 replace RW8 := hid (RW8.out.later b7)
 replace RWp := hid (RWp.out.later b7)
 replace HB := hid (HB.out.trans (b7.mono HB.out.size))
 clear b7 s7
 gi_wp2_with ((with_reducible show wpListIn _ _ _ _ _ (⟨none, _, _, _, _, _⟩ :: _) _ _); refine wlSI_store rfl 30 6 Tryz.sizeCr _ _ rfl gx [.slice none 0 0, .slice none 0 0, .slice none 0 0, .slice none 0 0, .slice none 0 0, .int .i64 0] rfl rfl 30 _ r7 rfl rfl (ones6 rfl rfl rfl rfl rfl rfl) ?_; intro w7 hrx hgx hzx; have p0 := (RWp.out.grown hgx HNEpx.out).at_ (i := 0) rfl; have p1 := (RWp.out.grown hgx HNEpx.out).at_ (i := 1) rfl; have p2 := (RWp.out.grown hgx HNEpx.out).at_ (i := 2) rfl)
 have hsb : Sb W7 w7 := ⟨gx, HNx.out, hgx⟩
 replace Has := hid (Has.out.sb hsb)
 replace RW7 := hid (RW7.out.grown hgx HNE7x.out)
 replace RW8 := hid (RW8.out.grown hgx HNE8x.out)
 replace RWp := hid (RWp.out.grown hgx HNEpx.out)
 replace HB := hid (below_grown HB.out hgx HLx.out HB.out.size)
 clear hsb
 have RWx := hid hrx
 clear hrx hgx hzx e7 r7 hqx HNx p0 p1 p2
 obtain ⟨A1, n1, c1, e1, hs1⟩ := Has.out
 cases e1
 refine ⟨trivial, (callsIn_wide.2 (rFrom9_gen w7 _ _ .any .any (.any hs1 HAD.out (by have := HAL.out; omega)) (.any hs1 HAD.out (by have := HAL.out; omega)))).mono ?_⟩
 rintro e w8 ⟨v, rfl, hu, hb⟩
 obtain ⟨a1, a2, rfl, ⟨-, Au, nu, cu, rfl⟩, -, Bu, mu, du, rfl⟩ := id hu
 replace Has := hid (Has.out.later hb)
 replace RW7 := hid (RW7.out.later hb)
 replace RW8 := hid (RW8.out.later hb)
 replace RWp := hid (RWp.out.later hb)
 replace RWx := hid (RWx.out.later hb)
 replace HB := hid (HB.out.trans (hb.mono HB.out.size))
 clear hb hu hs1
 obtain ⟨W9, e9, r9, b9, s9⟩ := newS w8 33 [.bool false, .slice none 0 0, .slice none 0 0] _ rfl
 obtain ⟨gu, hqu⟩ : ∃ x, w8.heap.size = x := ⟨_, rfl⟩
 rw [hqu] at r9
 have HLu := hid (show w.heap.size ≤ gu by have := HB.out.size; omega)
 have HNE7u := hid (show g7 ≠ gu by have := RW7.out.lt; omega)
 have HNE8u := hid (show g8 ≠ gu by have := RW8.out.lt; omega)
 have HNEpu := hid (show gp ≠ gu by have := RWp.out.lt; omega)
 have HNExu := hid (show gx ≠ gu by have := RWx.out.lt; omega)
 have HNu := hid (NoU.of_row r9 (noU3 nofun nofun nofun))
 replace Has := hid (Has.out.later b9)
 replace RW7 := hid (RW7.out.later b9)
 replace RW8 := hid (RW8.out.later b9)
 replace RWp := hid (RWp.out.later b9)
 replace RWx := hid (RWx.out.later b9)
 replace HB := hid (HB.out.trans (b9.mono HB.out.size))
 clear b9 s9
 gi_wp2_with ((with_reducible show wpListIn _ _ _ _ _ (⟨none, _, _, _, _, _⟩ :: _) _ _); refine wlSI_store rfl 33 3 Tryz.sizeRp _ _ rfl gu [.bool false, .slice Au nu cu, .slice Bu mu du] rfl rfl 33 _ r9 rfl rfl (ones3 rfl rfl rfl) ?_; intro w9 hru hgu hzu; have p0 := (RWp.out.grown hgu HNEpu.out).at_ (i := 0) rfl; have p1 := (RWp.out.grown hgu HNEpu.out).at_ (i := 1) rfl; have p2 := (RWp.out.grown hgu HNEpu.out).at_ (i := 2) rfl)
 have hsb : Sb W9 w9 := ⟨gu, HNu.out, hgu⟩
 replace Has := hid (Has.out.sb hsb)
 replace RW7 := hid (RW7.out.grown hgu HNE7u.out)
 replace RW8 := hid (RW8.out.grown hgu HNE8u.out)
 replace RWp := hid (RWp.out.grown hgu HNEpu.out)
 replace RWx := hid (RWx.out.grown hgu HNExu.out)
 replace HB := hid (below_grown HB.out hgu HLu.out HB.out.size)
 clear hsb
 have RWu := hid hru
 clear hru hgu hzu e9 r9 hqu HNu p0 p1 p2
 refine ⟨trivial, (callsIn_wide.2 (cMult_none w9 c HC.out _ ⟨_, _, _, rfl, rfl, rfl, rfl⟩)).mono ?_⟩
 rintro e w10 ⟨rfl, hb⟩
 replace Has := hid (Has.out.later hb)
 replace RW7 := hid (RW7.out.later hb)
 replace RW8 := hid (RW8.out.later hb)
 replace RWp := hid (RWp.out.later hb)
 replace RWx := hid (RWx.out.later hb)
 replace RWu := hid (RWu.out.later hb)
 replace HB := hid (HB.out.trans (hb.mono HB.out.size))
 clear hb
 have hnil := eq_nilIt1
 have hv3 : N < 1 ∨ (¬ N < 1 ∧ 6 < N) ∨ (¬ N < 1 ∧ ¬ 6 < N) := by omega
 rcases hv3 with hk1 | ⟨hk1, hk6⟩ | ⟨hk1, hk6⟩
 iterate 2
  focus
   have hnn := HNN.out
   have n7 := RW7.out.at_ (i := 0) rfl
   obtain ⟨w11, e11⟩ : ∃ V, w10.setCell ⟨g7, 0, none⟩ (.int .i64 6) = V := ⟨_, rfl⟩
   have hg7 : w10.grownBy w11 (some g7) := by rw [← e11]; exact grown_set0 _ _ _ _
   have hr7 : RowV 3 w11 g7 [.int .i64 6] := by rw [← e11]; exact RW7.out.set 0 _
   have HN7 := hid (NoU.of_row RW7.out (by intro v hv x; simp only [List.mem_cons, List.not_mem_nil, or_false] at hv; subst hv; intro h; cases h))
   have o7 := RW7.out.at_ (i := 0) rfl
   have f7 := RW7.out.frozen 0
   have hsb : Sb w10 w11 := ⟨g7, HN7.out, hg7⟩
   replace Has := hid (Has.out.sb hsb)
   replace RW8 := hid (RW8.out.grown hg7 HNE78.out.symm)
   replace RWp := hid (RWp.out.grown hg7 HNE7p.out.symm)
   replace RWx := hid (RWx.out.grown hg7 HNE7x.out.symm)
   replace RWu := hid (RWu.out.grown hg7 HNE7u.out.symm)
   replace HB := hid (below_grown HB.out hg7 HL7.out HB.out.size)
   clear hsb
   replace RW7 := hid hr7
   clear hr7 hg7 HN7
   obtain ⟨W12, e12, r12, b12, s12⟩ := newS w11 3 [.int .i64 0] _ rfl
   obtain ⟨gk, hqk⟩ : ∃ x, w11.heap.size = x := ⟨_, rfl⟩
   rw [hqk] at r12
   have HLk := hid (show w.heap.size ≤ gk by have := HB.out.size; omega)
   have HNE7k := hid (show g7 ≠ gk by have := RW7.out.lt; omega)
   have HNE8k := hid (show g8 ≠ gk by have := RW8.out.lt; omega)
   have HNEpk := hid (show gp ≠ gk by have := RWp.out.lt; omega)
   have HNExk := hid (show gx ≠ gk by have := RWx.out.lt; omega)
   have HNEuk := hid (show gu ≠ gk by have := RWu.out.lt; omega)
   have HNk := hid (NoU.of_row r12 (by intro v hv x; simp only [List.mem_cons, List.not_mem_nil, or_false] at hv; subst hv; intro h; cases h))
   replace Has := hid (Has.out.later b12)
   replace RW7 := hid (RW7.out.later b12)
   replace RW8 := hid (RW8.out.later b12)
   replace RWp := hid (RWp.out.later b12)
   replace RWx := hid (RWx.out.later b12)
   replace RWu := hid (RWu.out.later b12)
   replace HB := hid (HB.out.trans (b12.mono HB.out.size))
   clear b12 s12
   have RWk := hid r12
   clear r12 HNk
   obtain ⟨w13, e13⟩ : ∃ V, W12.setCell ⟨gk, 0, none⟩ (.int .i64 0) = V := ⟨_, rfl⟩
   have hgk : W12.grownBy w13 (some gk) := by rw [← e13]; exact grown_set0 _ _ _ _
   have hrk : RowV 3 w13 gk [.int .i64 0] := by rw [← e13]; exact RWk.out.set 0 _
   have HNk := hid (NoU.of_row RWk.out (by intro v hv x; simp only [List.mem_cons, List.not_mem_nil, or_false] at hv; subst hv; intro h; cases h))
   have ok := RWk.out.at_ (i := 0) rfl
   have fk := RWk.out.frozen 0
   have hsb : Sb W12 w13 := ⟨gk, HNk.out, hgk⟩
   replace Has := hid (Has.out.sb hsb)
   replace RW7 := hid (RW7.out.grown hgk HNE7k.out)
   replace RW8 := hid (RW8.out.grown hgk HNE8k.out)
   replace RWp := hid (RWp.out.grown hgk HNEpk.out)
   replace RWx := hid (RWx.out.grown hgk HNExk.out)
   replace RWu := hid (RWu.out.grown hgk HNEuk.out)
   replace HB := hid (below_grown HB.out hgk HLk.out HB.out.size)
   clear hsb
   replace RWk := hid hrk
   clear hrk hgk HNk
   obtain ⟨W14, e14, r14, b14, s14⟩ := newS w13 33 [.bool false, .slice none 0 0, .slice none 0 0] _ rfl
   obtain ⟨gs, hqs⟩ : ∃ x, w13.heap.size = x := ⟨_, rfl⟩
   rw [hqs] at r14
   have HLs := hid (show w.heap.size ≤ gs by have := HB.out.size; omega)
   have HNE7s := hid (show g7 ≠ gs by have := RW7.out.lt; omega)
   have HNE8s := hid (show g8 ≠ gs by have := RW8.out.lt; omega)
   have HNEps := hid (show gp ≠ gs by have := RWp.out.lt; omega)
   have HNExs := hid (show gx ≠ gs by have := RWx.out.lt; omega)
   have HNEus := hid (show gu ≠ gs by have := RWu.out.lt; omega)
   have HNEks := hid (show gk ≠ gs by have := RWk.out.lt; omega)
   have HNs := hid (NoU.of_row r14 (noU3 nofun nofun nofun))
   replace Has := hid (Has.out.later b14)
   replace RW7 := hid (RW7.out.later b14)
   replace RW8 := hid (RW8.out.later b14)
   replace RWp := hid (RWp.out.later b14)
   replace RWx := hid (RWx.out.later b14)
   replace RWu := hid (RWu.out.later b14)
   replace RWk := hid (RWk.out.later b14)
   replace HB := hid (HB.out.trans (b14.mono HB.out.size))
   clear b14 s14
   gi_wp2_with ((with_reducible show wpListIn _ _ _ _ _ (⟨none, _, _, _, _, _⟩ :: _) _ _); refine wlSI_store rfl 33 3 Tryz.sizeRp _ _ rfl gs [.bool true, .slice none 0 0, .slice none 0 0] rfl rfl 33 _ r14 rfl rfl (ones3 rfl rfl rfl) ?_; intro w14 hrs hgs hzs)
   have hsb : Sb W14 w14 := ⟨gs, HNs.out, hgs⟩
   replace Has := hid (Has.out.sb hsb)
   replace RW7 := hid (RW7.out.grown hgs HNE7s.out)
   replace RW8 := hid (RW8.out.grown hgs HNE8s.out)
   replace RWp := hid (RWp.out.grown hgs HNEps.out)
   replace RWx := hid (RWx.out.grown hgs HNExs.out)
   replace RWu := hid (RWu.out.grown hgs HNEus.out)
   replace RWk := hid (RWk.out.grown hgs HNEks.out)
   replace HB := hid (below_grown HB.out hgs HLs.out HB.out.size)
   clear hsb
   have RWs := hid hrs
   clear hrs hgs hzs e14 r14 hqs HNs
   obtain ⟨M, hM⟩ : ∃ M : Int, (6 : Int) = M := ⟨_, rfl⟩
   rw [hM] at RW7
   have HNV := hid (show 1 ≤ M ∧ M ≤ 6 by omega)
   clear hM hnn n7 hk1
  rotate_left
 focus
  have hnn := HNN.out
  have n7 := RW7.out.at_ (i := 0) rfl
  obtain ⟨W12, e12, r12, b12, s12⟩ := newS w10 3 [.int .i64 0] _ rfl
  obtain ⟨gk, hqk⟩ : ∃ x, w10.heap.size = x := ⟨_, rfl⟩
  rw [hqk] at r12
  have HLk := hid (show w.heap.size ≤ gk by have := HB.out.size; omega)
  have HNE7k := hid (show g7 ≠ gk by have := RW7.out.lt; omega)
  have HNE8k := hid (show g8 ≠ gk by have := RW8.out.lt; omega)
  have HNEpk := hid (show gp ≠ gk by have := RWp.out.lt; omega)
  have HNExk := hid (show gx ≠ gk by have := RWx.out.lt; omega)
  have HNEuk := hid (show gu ≠ gk by have := RWu.out.lt; omega)
  have HNk := hid (NoU.of_row r12 (by intro v hv x; simp only [List.mem_cons, List.not_mem_nil, or_false] at hv; subst hv; intro h; cases h))
  replace Has := hid (Has.out.later b12)
  replace RW7 := hid (RW7.out.later b12)
  replace RW8 := hid (RW8.out.later b12)
  replace RWp := hid (RWp.out.later b12)
  replace RWx := hid (RWx.out.later b12)
  replace RWu := hid (RWu.out.later b12)
  replace HB := hid (HB.out.trans (b12.mono HB.out.size))
  clear b12 s12
  have RWk := hid r12
  clear r12 HNk
  obtain ⟨w13, e13⟩ : ∃ V, W12.setCell ⟨gk, 0, none⟩ (.int .i64 0) = V := ⟨_, rfl⟩
  have hgk : W12.grownBy w13 (some gk) := by rw [← e13]; exact grown_set0 _ _ _ _
  have hrk : RowV 3 w13 gk [.int .i64 0] := by rw [← e13]; exact RWk.out.set 0 _
  have HNk := hid (NoU.of_row RWk.out (by intro v hv x; simp only [List.mem_cons, List.not_mem_nil, or_false] at hv; subst hv; intro h; cases h))
  have ok := RWk.out.at_ (i := 0) rfl
  have fk := RWk.out.frozen 0
  have hsb : Sb W12 w13 := ⟨gk, HNk.out, hgk⟩
  replace Has := hid (Has.out.sb hsb)
  replace RW7 := hid (RW7.out.grown hgk HNE7k.out)
  replace RW8 := hid (RW8.out.grown hgk HNE8k.out)
  replace RWp := hid (RWp.out.grown hgk HNEpk.out)
  replace RWx := hid (RWx.out.grown hgk HNExk.out)
  replace RWu := hid (RWu.out.grown hgk HNEuk.out)
  replace HB := hid (below_grown HB.out hgk HLk.out HB.out.size)
  clear hsb
  replace RWk := hid hrk
  clear hrk hgk HNk
  obtain ⟨W14, e14, r14, b14, s14⟩ := newS w13 33 [.bool false, .slice none 0 0, .slice none 0 0] _ rfl
  obtain ⟨gs, hqs⟩ : ∃ x, w13.heap.size = x := ⟨_, rfl⟩
  rw [hqs] at r14
  have HLs := hid (show w.heap.size ≤ gs by have := HB.out.size; omega)
  have HNE7s := hid (show g7 ≠ gs by have := RW7.out.lt; omega)
  have HNE8s := hid (show g8 ≠ gs by have := RW8.out.lt; omega)
  have HNEps := hid (show gp ≠ gs by have := RWp.out.lt; omega)
  have HNExs := hid (show gx ≠ gs by have := RWx.out.lt; omega)
  have HNEus := hid (show gu ≠ gs by have := RWu.out.lt; omega)
  have HNEks := hid (show gk ≠ gs by have := RWk.out.lt; omega)
  have HNs := hid (NoU.of_row r14 (noU3 nofun nofun nofun))
  replace Has := hid (Has.out.later b14)
  replace RW7 := hid (RW7.out.later b14)
  replace RW8 := hid (RW8.out.later b14)
  replace RWp := hid (RWp.out.later b14)
  replace RWx := hid (RWx.out.later b14)
  replace RWu := hid (RWu.out.later b14)
  replace RWk := hid (RWk.out.later b14)
  replace HB := hid (HB.out.trans (b14.mono HB.out.size))
  clear b14 s14
  gi_wp2_with ((with_reducible show wpListIn _ _ _ _ _ (⟨none, _, _, _, _, _⟩ :: _) _ _); refine wlSI_store rfl 33 3 Tryz.sizeRp _ _ rfl gs [.bool true, .slice none 0 0, .slice none 0 0] rfl rfl 33 _ r14 rfl rfl (ones3 rfl rfl rfl) ?_; intro w14 hrs hgs hzs)
  have hsb : Sb W14 w14 := ⟨gs, HNs.out, hgs⟩
  replace Has := hid (Has.out.sb hsb)
  replace RW7 := hid (RW7.out.grown hgs HNE7s.out)
  replace RW8 := hid (RW8.out.grown hgs HNE8s.out)
  replace RWp := hid (RWp.out.grown hgs HNEps.out)
  replace RWx := hid (RWx.out.grown hgs HNExs.out)
  replace RWu := hid (RWu.out.grown hgs HNEus.out)
  replace RWk := hid (RWk.out.grown hgs HNEks.out)
  replace HB := hid (below_grown HB.out hgs HLs.out HB.out.size)
  clear hsb
  have RWs := hid hrs
  clear hrs hgs hzs e14 r14 hqs HNs
  obtain ⟨M, hM⟩ : ∃ M : Int, N = M := ⟨_, rfl⟩
  rw [hM] at RW7
  have HNV := hid (show 1 ≤ M ∧ M ≤ 6 by omega)
  clear hM hnn n7 hk1
 rotate_left
 all_goals
  have HLT := hid (And.intro RW7.out.lt (And.intro RW8.out.lt (And.intro RWx.out.lt (And.intro RWu.out.lt RWk.out.lt))))
  refine act_name fun a0 ha0 => ?_
  refine wpIn_rangeS (α := Value) rfl (by decide) (gf := 66) (lb := #[]) (by rw [ha0]; rfl) trivial (enters_of Tryz.func66 (by kernel_rfl) rfl) (mult1_in 8 (by decide) w14 (fun v => #[v]) (fun _ _ _ => False) (fun _ _ => True) 1) (fun _ _ => trivial) (fun _ _ _ _ _ _ _ _ => trivial) (fun _ => rfl) (fun pre W => pre = [] ∧ MtB w M g7 g8 gx gu [.slice none 0 0, .slice none 0 0, .slice none 0 0, .slice none 0 0, .slice none 0 0, .int .i64 0] [.bool false, .slice Au nu cu, .slice Bu mu du] W ∧ RowV 3 W gk [.int .i64 0]) (fun _ _ _ => True) ?hI ?hIg ?hIN ?hIx ?hR ?hI0 ?hKB (fun _ _ _ _ => True) ?assign ?hAx ?body ?done ?stop
  case hI =>
   rintro s W W' row ⟨h0, h1, h2⟩ hg hr
   have hc := fun r e => (hr r e).2
   exact ⟨h0, h1.kept hg (fun r e => ⟨Nat.le_trans HB.out.size (hr r e).1, (hr r e).2⟩), h2.kept hg hc⟩
  case hIg =>
   rintro s A B g hgW hno ⟨h0, h1, h2⟩ hg
   have hz := HB.out.size
   have hl := HLT.out
   exact ⟨h0, h1.grown hg (by omega) (by omega) (by omega) (by omega) (by omega), h2.grown hg (by omega)⟩
  case hIN =>
   rintro s A ⟨rfl, -⟩
   decide
  case hIx =>
   intro c s W W' row h hg hr
   trivial
  case hR =>
   intro pre s W W' row h hg hr
   exact h
  case hI0 =>
   exact ⟨rfl, ⟨HB.out, RW7.out, RW8.out, RWx.out, RWu.out⟩, RWk.out⟩
  case hKB =>
   intro A B _ _
   trivial
  case assign =>
   intro l pre x W K _ h
   exact h.elim
  case hAx =>
   intros
   trivial
  case body =>
   intro l pre x W0 a' W _ _ _ h
   exact h.elim
  case stop =>
   intro DB c pre W _ h
   exact h.elim
  case done =>
   rintro DB xs W hD - ⟨-, ⟨h1, h2, h3, h4, h5⟩, h6⟩ hDK
   have HLTD := hid (show w.heap.size < DB ∧ g8 < DB by have := HLT.out; have := HL8.out; omega)
   have HDK := hid hDK
   have HB := hid h1
   have RW7 := hid h2
   have RW8 := hid h3
   have RWx := hid h4
   have RWu := hid h5
   have RWk := hid h6
   have hnv := HNV.out
   have hN0 : ((0 : Int) == M) = false := by first | (simp; done) | (simp; omega)
   have hN0b : ¬ (0 : Int) = M := by omega
   clear h1 h2 h3 h4 h5 h6 hD hDK hnv
   subst ha0
   have HN8 := hid (NoU.of_row RW8.out (by intro v hv x; simp only [List.mem_cons, List.not_mem_nil, or_false] at hv; subst hv; intro h; cases h))
   have HNEx8 := hid HNE8x.out.symm
   have HNEu8 := hid HNE8u.out.symm
   have HNEk8 := hid HNE8k.out.symm
   gi_wp2_with fail
   refine wpIn_region_numGS rfl hmx [(57, .val (.bool true)), (58, .val (.bool true)), (59, .val (.int .i64 0)), (60, .val (.int .i64 M)), (61, .val (.bool false)), (62, .val (.agg #[.slice none 0 0, .slice none 0 0, .slice none 0 0, .slice none 0 0, .slice none 0 0, .int .i64 0])), (63, .val (.agg #[.bool false, .slice Au nu cu, .slice Bu mu du])), (64, .val (.bool false)), (65, .val (.bool true)), (66, .val (.bool true))] [(58, true)] (by kernel_rfl) (by kernel_rfl) (by kernel_rfl) (by kernel_rfl) (by rfl) (by kernel_rfl) (by rfl) ?hgv g8 10 ⟨_, rfl, rfl⟩ RW8.out.lt HN8.out 4 1 ⟨_, RW8.out, rfl⟩ (fun V => RowV 4 V g8 [.bool true]) ?hPs ?hops ?hs ?hend
   case hgv =>
    intro p hp v V h
    simp only [List.mem_cons, List.not_mem_nil, or_false] at hp
    rcases hp with rfl
    exact h
   case hPs =>
    intro V V' hlt hb hr
    exact hr.later hb
   case hops =>
    intro i o a' V hns hB ho hev hrd
    have his : i < 11 := by have := (Array.getElem?_eq_some_iff.1 ho).1; simpa using this
    have rx := RWx.out.grown hB HNEx8.out
    have ru := RWu.out.grown hB HNEu8.out
    have k7 := (RW7.out.grown hB HNE78.out).at_ (i := 0) rfl
    have kk := (RWk.out.grown hB HNEk8.out).at_ (i := 0) rfl
    have hcase : i = 0 ∨ i = 1 ∨ i = 2 ∨ i = 3 ∨ i = 4 ∨ i = 5 ∨ i = 6 ∨ i = 7 ∨ i = 8 ∨ i = 9 ∨ i = 10 := by omega
    rcases hcase with rfl | rfl | rfl | rfl | rfl | rfl | rfl | rfl | rfl | rfl | rfl
    ·simp at ho
     subst ho
     have r9 := hev 9 rfl
     simp [Act.eval] at r9
     refine ⟨nofun, fun _ _ => trivial, nofun, .inl ⟨.bool true, V, ?_, Below.refl _ _, fun t ht => by cases ht; rfl⟩⟩
     simp [execOp, Act.eval, go_sem, r9, k7, kk, hN0, hN0b]
    ·simp at ho
     subst ho
     have r57 : a'.eval (.tmp 57) = .bool true := hrd 57 rfl rfl
     simp [Act.eval] at r57
     refine ⟨nofun, fun _ _ => trivial, nofun, .inl ⟨.bool true, V, ?_, Below.refl _ _, fun t ht => by cases ht; rfl⟩⟩
     simp [execOp, Act.eval, go_sem, r57, k7, kk, hN0, hN0b]
    ·simp at ho
     subst ho
     have r14 := hev 14 rfl
     simp [Act.eval] at r14
     refine ⟨nofun, fun _ _ => trivial, nofun, .inl ⟨.int .i64 0, V, ?_, Below.refl _ _, fun t ht => by cases ht; rfl⟩⟩
     simp [execOp, Act.eval, go_sem, r14, k7, kk, hN0, hN0b]
    ·simp at ho
     subst ho
     have r7 := hev 7 rfl
     simp [Act.eval] at r7
     refine ⟨nofun, fun _ _ => trivial, nofun, .inl ⟨.int .i64 M, V, ?_, Below.refl _ _, fun t ht => by cases ht; rfl⟩⟩
     simp [execOp, Act.eval, go_sem, r7, k7, kk, hN0, hN0b]
    ·simp at ho
     subst ho
     have r59 : a'.eval (.tmp 59) = .int .i64 0 := hrd 59 rfl rfl
     simp [Act.eval] at r59
     have r60 : a'.eval (.tmp 60) = .int .i64 M := hrd 60 rfl rfl
     simp [Act.eval] at r60
     refine ⟨nofun, fun _ _ => trivial, nofun, .inl ⟨.bool false, V, ?_, Below.refl _ _, fun t ht => by cases ht; rfl⟩⟩
     simp [execOp, Act.eval, go_sem, r59, r60, k7, kk, hN0, hN0b]
    ·simp at ho
     subst ho
     have r11 := hev 11 rfl
     simp [Act.eval] at r11
     try simp [Act.put] at r11
     refine ⟨nofun, fun _ _ => trivial, nofun, .inl ⟨.agg #[.slice none 0 0, .slice none 0 0, .slice none 0 0, .slice none 0 0, .slice none 0 0, .int .i64 0], V, exec_load 30 6 _ Tryz.underlying30 rfl Tryz.sizeCr _ rfl gx [.slice none 0 0, .slice none 0 0, .slice none 0 0, .slice none 0 0, .slice none 0 0, .int .i64 0] (by simpa [Act.eval] using r11) 30 rx rfl, Below.refl _ _, fun t ht => by cases ht; rfl⟩⟩
    ·simp at ho
     subst ho
     have r12 := hev 12 rfl
     simp [Act.eval] at r12
     try simp [Act.put] at r12
     refine ⟨nofun, fun _ _ => trivial, nofun, .inl ⟨.agg #[.bool false, .slice Au nu cu, .slice Bu mu du], V, exec_load 33 3 _ Tryz.underlying33 rfl Tryz.sizeRp _ rfl gu [.bool false, .slice Au nu cu, .slice Bu mu du] (by simpa [Act.eval] using r12) 33 ru rfl, Below.refl _ _, fun t ht => by cases ht; rfl⟩⟩
    ·simp at ho
     subst ho
     have r62 : a'.eval (.tmp 62) = .agg #[.slice none 0 0, .slice none 0 0, .slice none 0 0, .slice none 0 0, .slice none 0 0, .int .i64 0] := hrd 62 rfl rfl
     simp [Act.eval] at r62
     have r63 : a'.eval (.tmp 63) = .agg #[.bool false, .slice Au nu cu, .slice Bu mu du] := hrd 63 rfl rfl
     simp [Act.eval] at r63
     refine ⟨nofun, fun _ _ => trivial, nofun, .inr ⟨15, #[.agg #[.slice none 0 0, .slice none 0 0, .slice none 0 0, .slice none 0 0, .slice none 0 0, .int .i64 0], .agg #[.bool false, .slice Au nu cu, .slice Bu mu du]], ?_, (callsIn_wide.2 (rOn9_zero V _ _ _ _ _ _ _ _)).mono ?_⟩⟩
     ·simp [execOp, Act.eval, r62, r63, resolve, invoke, Deferred.ofValue]
     ·rintro e w' ⟨rfl, hB2⟩
      have hv : Value.bool false = Value.bool false := rfl
      exact ⟨_, rfl, hB2, fun t ht => by cases ht; exact hv⟩
    ·simp at ho
     subst ho
     have r61 : a'.eval (.tmp 61) = .bool false := hrd 61 rfl rfl
     simp [Act.eval] at r61
     have r64 : a'.eval (.tmp 64) = .bool false := hrd 64 rfl rfl
     simp [Act.eval] at r64
     refine ⟨nofun, fun _ _ => trivial, nofun, .inl ⟨.bool true, V, ?_, Below.refl _ _, fun t ht => by cases ht; rfl⟩⟩
     simp [execOp, Act.eval, go_sem, r61, r64, k7, kk, hN0, hN0b]
    ·simp at ho
     subst ho
     have r58 : a'.eval (.tmp 58) = .bool true := hrd 58 rfl rfl
     simp [Act.eval] at r58
     have r65 : a'.eval (.tmp 65) = .bool true := hrd 65 rfl rfl
     simp [Act.eval] at r65
     refine ⟨nofun, fun _ _ => trivial, nofun, .inl ⟨.bool true, V, ?_, Below.refl _ _, fun t ht => by cases ht; rfl⟩⟩
     simp [execOp, Act.eval, go_sem, r58, r65, k7, kk, hN0, hN0b]
    ·simp at ho
     subst ho
     exact absurd rfl hns
   case hs =>
    intro o a' V hG hN hshp ho hev hrd
    simp at ho
    have o8 := hev 8 rfl
    have r66 : a'.eval (.tmp 66) = .bool true := hrd 66 (by subst ho; rfl) (by rfl)
    obtain ⟨vs, hrv, hvl⟩ := hshp
    obtain ⟨v, rfl⟩ : ∃ v, vs = [v] := List.length_eq_one_iff.1 hvl
    subst ho
    simp [Act.eval] at o8 r66
    have q8 := hrv.at_ (i := 0) rfl
    have f8 := hrv.frozen 0
    have hset : RowV 4 (V.setCell ⟨g8, 0, none⟩ (.bool true)) g8 [.bool true] := hrv.set 0 _
    refine ⟨nofun, fun _ _ => trivial, rfl, V.setCell ⟨g8, 0, none⟩ (.bool true), ?_, grown_set0 _ _ _ _, NoU.of_row hset (by intro v hv x; simp only [List.mem_cons, List.not_mem_nil, or_false] at hv; subst hv; intro h; cases h), ⟨_, hset, rfl⟩, hset⟩
    simp [execOp, Act.eval, go_sem, o8, r66, q8, f8]
   case hend =>
    intro vals V hG hN hP hQ
    simp [wrote, Act.put]
    have hDl := (Array.getElem?_eq_some_iff.1 HDK.out).1
    have hK5 : V.heap[DB]? = some (.deferred (some [])) := (hG.block DB hDl (fun e => by injection e; have := HLTD.out; omega)).trans HDK.out
    have hfin := below_grown HB.out hG HL8.out HB.out.size
    have hgr := grownBy_putObj' V DB (.deferred none)
    have hnc : ∀ r, some DB = some r → ∃ ob : Obj, V.heap[r]? = some ob ∧ ob.isCells = false := fun r e => by cases e; exact ⟨_, hK5, rfl⟩
    have b6 := (hQ.kept hgr hnc).at_ (i := 0) rfl
    have hfin2 := hfin.grown hgr hfin.size (fun r e => by injection e; have := HLTD.out; have := HL8.out; omega)
    have HFIN := hid hfin2
    have HK5 := hid hK5
    have HB6 := hid b6
    clear hfin hfin2 hK5 hgr hnc b6 hQ hP hN hG
    gi_wp2
    refine ⟨by simp, .inl ⟨_, _, rfl, run_takeDeferred HK5.out, ?_⟩⟩
    refine ⟨.bool true, ?_, rfl, HFIN.out⟩
    have h6 := HB6.out
    simp [results, Tryz.f6, h6, go_sem]
theorem mt9_yes (w : World) (c : Int) (D : Crv) (hc : crvOf c = some D) (Aa : Option Addr) (na ca : Nat) (ys : List Nat) (ha : CutS w (.slice Aa na ca) ys) (had : Dg b64 ys) (hal : na ≤ 1048576) (sp : Bool) (N : Int) (hN1 : -9223372036854775808 ≤ N) (hN2 : N ≤ 9223372036854775807) : Calls Tryz.prog 6 #[.int .i64 c, .slice Aa na ca, .bool sp, .int .i64 N] w fun e w' => RetV w (.bool true) e w' := by
 have HC := hid hc
 have hmx : Tryz.prog.follows .mixedOrders = true := by kernel_rfl
 have HAD := hid had
 have HAL := hid hal
 have HB := hid (Below.refl w.heap.size w)
 have Has := hid ha
 have HNN := hid (And.intro hN1 hN2)
 clear hc had ha hal hN1 hN2
 obtain ⟨W1, e1, r1, b1, s1⟩ := newS w 3 [.int .i64 N] _ rfl
 obtain ⟨g7, hq7⟩ : ∃ x, w.heap.size = x := ⟨_, rfl⟩
 rw [hq7] at r1
 have HL7 := hid (show w.heap.size ≤ g7 by have := HB.out.size; omega)
 have HN7 := hid (NoU.of_row r1 (by intro v hv x; simp only [List.mem_cons, List.not_mem_nil, or_false] at hv; subst hv; intro h; cases h))
 replace Has := hid (Has.out.later b1)
 replace HB := hid (HB.out.trans (b1.mono HB.out.size))
 clear b1 s1
 have RW7 := hid r1
 clear r1 HN7
 obtain ⟨W2, e2, r2, b2, s2⟩ := newS W1 4 [.bool false] _ rfl
 obtain ⟨g8, hq8⟩ : ∃ x, W1.heap.size = x := ⟨_, rfl⟩
 rw [hq8] at r2
 have HL8 := hid (show w.heap.size ≤ g8 by have := HB.out.size; omega)
 have HNE78 := hid (show g7 ≠ g8 by have := RW7.out.lt; omega)
 have HN8 := hid (NoU.of_row r2 (by intro v hv x; simp only [List.mem_cons, List.not_mem_nil, or_false] at hv; subst hv; intro h; cases h))
 replace Has := hid (Has.out.later b2)
 replace RW7 := hid (RW7.out.later b2)
 replace HB := hid (HB.out.trans (b2.mono HB.out.size))
 clear b2 s2
 have RW8 := hid r2
 clear r2 HN8
 refine (callsIn_wide (n := 9)).1 ?_
 refine callsIn_of_wp_marks Tryz.func6 rfl trivial ?_ rfl
 simp only [Tryz.ntmps6, List.size_toArray, List.length_cons, List.length_nil, Nat.reduceAdd, Nat.reduceSub, Array.replicate_succ, Array.replicate_zero, List.push_toArray, List.append_toArray, List.nil_append, List.cons_append]
 gi_wp2_with fail
 clear e1 e2 hq7 hq8
 refine ⟨trivial, (callsIn_wide.2 (begun9_any W2)).mono ?_⟩
 rintro e w3 ⟨rfl, hb⟩
 replace Has := hid (Has.out.later hb)
 replace RW7 := hid (RW7.out.later hb)
 replace RW8 := hid (RW8.out.later hb)
 replace HB := hid (HB.out.trans (hb.mono HB.out.size))
 clear hb
 gi_wp2_with fail
 obtain ⟨A1, n1, c1, e1, hs1⟩ := Has.out
 cases e1
 refine ⟨trivial, (callsIn_wide.2 (pt9_yes w3 c D HC.out _ _ _ ys hs1 HAD.out _ rfl sp)).mono ?_⟩
 rintro e w4 ⟨v, P, MP, rfl, hbp, hso, hpg, hb⟩
 obtain ⟨t0, a0, d0, rfl, o1, o2⟩ := hpg.form
 replace Has := hid (Has.out.later hb)
 replace RW7 := hid (RW7.out.later hb)
 replace RW8 := hid (RW8.out.later hb)
 replace HB := hid (HB.out.trans (hb.mono HB.out.size))
 have Hpg := hid (hpg)
 clear hb hs1 hpg hbp hso
 by_cases has : hasN D.p D.b P
 ·have HAS := hid has
  clear has
  obtain ⟨W5, e5, r5, b5, s5⟩ := newS w4 26 [.bool false, .slice none 0 0, .slice none 0 0] _ rfl
  obtain ⟨gp, hqp⟩ : ∃ x, w4.heap.size = x := ⟨_, rfl⟩
  rw [hqp] at r5
  have HLp := hid (show w.heap.size ≤ gp by have := HB.out.size; omega)
  have HNE7p := hid (show g7 ≠ gp by have := RW7.out.lt; omega)
  have HNE8p := hid (show g8 ≠ gp by have := RW8.out.lt; omega)
  have HNp := hid (NoU.of_row r5 (noU3 nofun nofun nofun))
  replace Has := hid (Has.out.later b5)
  replace Hpg := hid (Hpg.out.later b5)
  replace RW7 := hid (RW7.out.later b5)
  replace RW8 := hid (RW8.out.later b5)
  replace HB := hid (HB.out.trans (b5.mono HB.out.size))
  clear b5 s5
  gi_wp2_with ((with_reducible show wpListIn _ _ _ _ _ (⟨none, _, _, _, _, _⟩ :: _) _ _); refine wlSI_store rfl 26 3 Tryz.sizePt _ _ rfl gp [.bool t0, a0, d0] rfl rfl 26 _ r5 rfl rfl (ones3 rfl o1 o2) ?_; intro w5 hrp hgp hzp)
  have hsb : Sb W5 w5 := ⟨gp, HNp.out, hgp⟩
  replace Has := hid (Has.out.sb hsb)
  replace Hpg := hid (Hpg.out.sb hsb)
  replace RW7 := hid (RW7.out.grown hgp HNE7p.out)
  replace RW8 := hid (RW8.out.grown hgp HNE8p.out)
  replace HB := hid (below_grown HB.out hgp HLp.out HB.out.size)
  clear hsb
  have RWp := hid hrp
  clear hrp hgp hzp e5 r5 hqp HNp
  refine ⟨trivial, (callsIn_wide.2 (rOf9_yes w5 c D HC.out)).mono ?_⟩
  rintro e w6 ⟨v, rfl, hcr, hb⟩
  obtain ⟨vp, vn, vb, vx, vy, rfl, k1, k2, k3, k4, k5⟩ := hcr
  obtain ⟨Ap, np, cp, rfl⟩ := k1.sl
  obtain ⟨An, nn, cn, rfl⟩ := k2.sl
  obtain ⟨Ab, nb, cb, rfl⟩ := k3.sl
  obtain ⟨Ax, nx, cx, rfl⟩ := k4.sl
  obtain ⟨Ay, ny, cy, rfl⟩ := k5.sl
  replace Has := hid (Has.out.later hb)
  replace Hpg := hid (Hpg.out.later hb)
  replace RW7 := hid (RW7.out.later hb)
  replace RW8 := hid (RW8.out.later hb)
  replace RWp := hid (RWp.out.later hb)
  replace HB := hid (HB.out.trans (hb.mono HB.out.size))
  have Hcr := hid (show Cr _ _ D from ⟨_, _, _, _, _, rfl, k1, k2, k3, k4, k5⟩)
  clear hb k1 k2 k3 k4 k5
  obtain ⟨W7, e7, r7, b7, s7⟩ := newS w6 30 [.slice none 0 0, .slice none 0 0, .slice none 0 0, .slice none 0 0, .slice none 0 0, .int .i64 0] _ rfl
  obtain ⟨gx, hqx⟩ : ∃ x, w6.heap.size = x := ⟨_, rfl⟩
  rw [hqx] at r7
  have HLx := hid (show w.heap.size ≤ gx by have := HB.out.size; omega)
  have HNE7x := hid (show g7 ≠ gx by have := RW7.out.lt; omega)
  have HNE8x := hid (show g8 ≠ gx by have := RW8.out.lt; omega)
  have HNEpx := hid (show gp ≠ gx by have := RWp.out.lt; omega)
  have HNx := hid (NoU.of_row r7 (noU6 nofun nofun nofun nofun nofun))
  replace Has := hid (Has.out.later b7)
  replace Hpg := hid (Hpg.out.later b7)
  replace Hcr := hid (Hcr.out.later b7)
  replace RW7 := hid (RW7.out.later b7)
  replace RW8 := hid (RW8.out.later b7)
  replace RWp := hid (RWp.out.later b7)
  replace HB := hid (HB.out.trans (b7.mono HB.out.size))
  clear b7 s7
  gi_wp2_with ((with_reducible show wpListIn _ _ _ _ _ (⟨none, _, _, _, _, _⟩ :: _) _ _); refine wlSI_store rfl 30 6 Tryz.sizeCr _ _ rfl gx [.slice Ap np cp, .slice An nn cn, .slice Ab nb cb, .slice Ax nx cx, .slice Ay ny cy, .int .i64 (D.size : Int)] rfl rfl 30 _ r7 rfl rfl (ones6 rfl rfl rfl rfl rfl rfl) ?_; intro w7 hrx hgx hzx; have p0 := (RWp.out.grown hgx HNEpx.out).at_ (i := 0) rfl; have p1 := (RWp.out.grown hgx HNEpx.out).at_ (i := 1) rfl; have p2 := (RWp.out.grown hgx HNEpx.out).at_ (i := 2) rfl)
  have hsb : Sb W7 w7 := ⟨gx, HNx.out, hgx⟩
  replace Has := hid (Has.out.sb hsb)
  replace Hpg := hid (Hpg.out.sb hsb)
  replace Hcr := hid (Hcr.out.sb hsb)
  replace RW7 := hid (RW7.out.grown hgx HNE7x.out)
  replace RW8 := hid (RW8.out.grown hgx HNE8x.out)
  replace RWp := hid (RWp.out.grown hgx HNEpx.out)
  replace HB := hid (below_grown HB.out hgx HLx.out HB.out.size)
  clear hsb
  have RWx := hid hrx
  clear hrx hgx hzx e7 r7 hqx HNx p0 p1 p2
  refine ⟨trivial, (callsIn_wide.2 (rFrom9_pg w7 _ P Hpg.out)).mono ?_⟩
  rintro e w8 ⟨v, rfl, hu, hb⟩
  obtain ⟨tu, Au, nu, cu, Bu, mu, du, rfl⟩ := hu.three
  replace Has := hid (Has.out.later hb)
  replace Hpg := hid (Hpg.out.later hb)
  replace Hcr := hid (Hcr.out.later hb)
  replace RW7 := hid (RW7.out.later hb)
  replace RW8 := hid (RW8.out.later hb)
  replace RWp := hid (RWp.out.later hb)
  replace RWx := hid (RWx.out.later hb)
  replace HB := hid (HB.out.trans (hb.mono HB.out.size))
  have Hu := hid (hu)
  clear hb hu
  obtain ⟨W9, e9, r9, b9, s9⟩ := newS w8 33 [.bool false, .slice none 0 0, .slice none 0 0] _ rfl
  obtain ⟨gu, hqu⟩ : ∃ x, w8.heap.size = x := ⟨_, rfl⟩
  rw [hqu] at r9
  have HLu := hid (show w.heap.size ≤ gu by have := HB.out.size; omega)
  have HNE7u := hid (show g7 ≠ gu by have := RW7.out.lt; omega)
  have HNE8u := hid (show g8 ≠ gu by have := RW8.out.lt; omega)
  have HNEpu := hid (show gp ≠ gu by have := RWp.out.lt; omega)
  have HNExu := hid (show gx ≠ gu by have := RWx.out.lt; omega)
  have HNu := hid (NoU.of_row r9 (noU3 nofun nofun nofun))
  replace Has := hid (Has.out.later b9)
  replace Hpg := hid (Hpg.out.later b9)
  replace Hcr := hid (Hcr.out.later b9)
  replace Hu := hid (Hu.out.later b9)
  replace RW7 := hid (RW7.out.later b9)
  replace RW8 := hid (RW8.out.later b9)
  replace RWp := hid (RWp.out.later b9)
  replace RWx := hid (RWx.out.later b9)
  replace HB := hid (HB.out.trans (b9.mono HB.out.size))
  clear b9 s9
  gi_wp2_with ((with_reducible show wpListIn _ _ _ _ _ (⟨none, _, _, _, _, _⟩ :: _) _ _); refine wlSI_store rfl 33 3 Tryz.sizeRp _ _ rfl gu [.bool tu, .slice Au nu cu, .slice Bu mu du] rfl rfl 33 _ r9 rfl rfl (ones3 rfl rfl rfl) ?_; intro w9 hru hgu hzu; have p0 := (RWp.out.grown hgu HNEpu.out).at_ (i := 0) rfl; have p1 := (RWp.out.grown hgu HNEpu.out).at_ (i := 1) rfl; have p2 := (RWp.out.grown hgu HNEpu.out).at_ (i := 2) rfl)
  have hsb : Sb W9 w9 := ⟨gu, HNu.out, hgu⟩
  replace Has := hid (Has.out.sb hsb)
  replace Hpg := hid (Hpg.out.sb hsb)
  replace Hcr := hid (Hcr.out.sb hsb)
  replace Hu := hid (Hu.out.sb hsb)
  replace RW7 := hid (RW7.out.grown hgu HNE7u.out)
  replace RW8 := hid (RW8.out.grown hgu HNE8u.out)
  replace RWp := hid (RWp.out.grown hgu HNEpu.out)
  replace RWx := hid (RWx.out.grown hgu HNExu.out)
  replace HB := hid (below_grown HB.out hgu HLu.out HB.out.size)
  clear hsb
  have RWu := hid hru
  clear hru hgu hzu e9 r9 hqu HNu p0 p1 p2
  have hz7 := RW7.out.lt
  refine ⟨trivial, (callsIn_wide.2 (cMult_yes w9 c D HC.out _ P Hpg.out HAS.out)).mono ?_⟩
  rintro e w10 ⟨gm, gd, ra, rb, rd, dd, rfl, q7, qr, q5, qd, l7, l5, hb⟩
  replace Has := hid (Has.out.later hb)
  replace Hpg := hid (Hpg.out.later hb)
  replace Hcr := hid (Hcr.out.later hb)
  replace Hu := hid (Hu.out.later hb)
  replace RW7 := hid (RW7.out.later hb)
  replace RW8 := hid (RW8.out.later hb)
  replace RWp := hid (RWp.out.later hb)
  replace RWx := hid (RWx.out.later hb)
  replace RWu := hid (RWu.out.later hb)
  replace HB := hid (HB.out.trans (hb.mono HB.out.size))
  clear hb
  have RWm := hid q7
  have HQR := hid qr
  have RWd := hid q5
  have HQD := hid qd
  have HNE7m := hid (show g7 ≠ gm by omega)
  have HNE7d := hid (show g7 ≠ gd by omega)
  have hnil := eq_nilIt2 gm gd
  clear q7 qr q5 qd l7 l5 hz7
  have hv3 : N < 1 ∨ (¬ N < 1 ∧ 6 < N) ∨ (¬ N < 1 ∧ ¬ 6 < N) := by omega
  rcases hv3 with hk1 | ⟨hk1, hk6⟩ | ⟨hk1, hk6⟩
  iterate 2
   focus
    have hnn := HNN.out
    have n7 := RW7.out.at_ (i := 0) rfl
    obtain ⟨w11, e11⟩ : ∃ V, w10.setCell ⟨g7, 0, none⟩ (.int .i64 6) = V := ⟨_, rfl⟩
    have hg7 : w10.grownBy w11 (some g7) := by rw [← e11]; exact grown_set0 _ _ _ _
    have hr7 : RowV 3 w11 g7 [.int .i64 6] := by rw [← e11]; exact RW7.out.set 0 _
    have HN7 := hid (NoU.of_row RW7.out (by intro v hv x; simp only [List.mem_cons, List.not_mem_nil, or_false] at hv; subst hv; intro h; cases h))
    have o7 := RW7.out.at_ (i := 0) rfl
    have f7 := RW7.out.frozen 0
    have hsb : Sb w10 w11 := ⟨g7, HN7.out, hg7⟩
    replace Has := hid (Has.out.sb hsb)
    replace Hpg := hid (Hpg.out.sb hsb)
    replace Hcr := hid (Hcr.out.sb hsb)
    replace Hu := hid (Hu.out.sb hsb)
    replace HQR := hid (HQR.out.sb hsb)
    replace HQD := hid (HQD.out.sb hsb)
    replace RW8 := hid (RW8.out.grown hg7 HNE78.out.symm)
    replace RWp := hid (RWp.out.grown hg7 HNE7p.out.symm)
    replace RWx := hid (RWx.out.grown hg7 HNE7x.out.symm)
    replace RWu := hid (RWu.out.grown hg7 HNE7u.out.symm)
    replace RWm := hid (RWm.out.grown hg7 HNE7m.out.symm)
    replace RWd := hid (RWd.out.grown hg7 HNE7d.out.symm)
    replace HB := hid (below_grown HB.out hg7 HL7.out HB.out.size)
    clear hsb
    replace RW7 := hid hr7
    clear hr7 hg7 HN7
    obtain ⟨W12, e12, r12, b12, s12⟩ := newS w11 3 [.int .i64 0] _ rfl
    obtain ⟨gk, hqk⟩ : ∃ x, w11.heap.size = x := ⟨_, rfl⟩
    rw [hqk] at r12
    have HLk := hid (show w.heap.size ≤ gk by have := HB.out.size; omega)
    have HNE7k := hid (show g7 ≠ gk by have := RW7.out.lt; omega)
    have HNE8k := hid (show g8 ≠ gk by have := RW8.out.lt; omega)
    have HNEpk := hid (show gp ≠ gk by have := RWp.out.lt; omega)
    have HNExk := hid (show gx ≠ gk by have := RWx.out.lt; omega)
    have HNEuk := hid (show gu ≠ gk by have := RWu.out.lt; omega)
    have HNEmk := hid (show gm ≠ gk by have := RWm.out.lt; omega)
    have HNEdk := hid (show gd ≠ gk by have := RWd.out.lt; omega)
    have HNk := hid (NoU.of_row r12 (by intro v hv x; simp only [List.mem_cons, List.not_mem_nil, or_false] at hv; subst hv; intro h; cases h))
    replace Has := hid (Has.out.later b12)
    replace Hpg := hid (Hpg.out.later b12)
    replace Hcr := hid (Hcr.out.later b12)
    replace Hu := hid (Hu.out.later b12)
    replace HQR := hid (HQR.out.later b12)
    replace HQD := hid (HQD.out.later b12)
    replace RW7 := hid (RW7.out.later b12)
    replace RW8 := hid (RW8.out.later b12)
    replace RWp := hid (RWp.out.later b12)
    replace RWx := hid (RWx.out.later b12)
    replace RWu := hid (RWu.out.later b12)
    replace RWm := hid (RWm.out.later b12)
    replace RWd := hid (RWd.out.later b12)
    replace HB := hid (HB.out.trans (b12.mono HB.out.size))
    clear b12 s12
    have RWk := hid r12
    clear r12 HNk
    obtain ⟨w13, e13⟩ : ∃ V, W12.setCell ⟨gk, 0, none⟩ (.int .i64 0) = V := ⟨_, rfl⟩
    have hgk : W12.grownBy w13 (some gk) := by rw [← e13]; exact grown_set0 _ _ _ _
    have hrk : RowV 3 w13 gk [.int .i64 0] := by rw [← e13]; exact RWk.out.set 0 _
    have HNk := hid (NoU.of_row RWk.out (by intro v hv x; simp only [List.mem_cons, List.not_mem_nil, or_false] at hv; subst hv; intro h; cases h))
    have ok := RWk.out.at_ (i := 0) rfl
    have fk := RWk.out.frozen 0
    have hsb : Sb W12 w13 := ⟨gk, HNk.out, hgk⟩
    replace Has := hid (Has.out.sb hsb)
    replace Hpg := hid (Hpg.out.sb hsb)
    replace Hcr := hid (Hcr.out.sb hsb)
    replace Hu := hid (Hu.out.sb hsb)
    replace HQR := hid (HQR.out.sb hsb)
    replace HQD := hid (HQD.out.sb hsb)
    replace RW7 := hid (RW7.out.grown hgk HNE7k.out)
    replace RW8 := hid (RW8.out.grown hgk HNE8k.out)
    replace RWp := hid (RWp.out.grown hgk HNEpk.out)
    replace RWx := hid (RWx.out.grown hgk HNExk.out)
    replace RWu := hid (RWu.out.grown hgk HNEuk.out)
    replace RWm := hid (RWm.out.grown hgk HNEmk.out)
    replace RWd := hid (RWd.out.grown hgk HNEdk.out)
    replace HB := hid (below_grown HB.out hgk HLk.out HB.out.size)
    clear hsb
    replace RWk := hid hrk
    clear hrk hgk HNk
    obtain ⟨W14, e14, r14, b14, s14⟩ := newS w13 33 [.bool false, .slice none 0 0, .slice none 0 0] _ rfl
    obtain ⟨gs, hqs⟩ : ∃ x, w13.heap.size = x := ⟨_, rfl⟩
    rw [hqs] at r14
    have HLs := hid (show w.heap.size ≤ gs by have := HB.out.size; omega)
    have HNE7s := hid (show g7 ≠ gs by have := RW7.out.lt; omega)
    have HNE8s := hid (show g8 ≠ gs by have := RW8.out.lt; omega)
    have HNEps := hid (show gp ≠ gs by have := RWp.out.lt; omega)
    have HNExs := hid (show gx ≠ gs by have := RWx.out.lt; omega)
    have HNEus := hid (show gu ≠ gs by have := RWu.out.lt; omega)
    have HNEms := hid (show gm ≠ gs by have := RWm.out.lt; omega)
    have HNEds := hid (show gd ≠ gs by have := RWd.out.lt; omega)
    have HNEks := hid (show gk ≠ gs by have := RWk.out.lt; omega)
    have HNs := hid (NoU.of_row r14 (noU3 nofun nofun nofun))
    replace Has := hid (Has.out.later b14)
    replace Hpg := hid (Hpg.out.later b14)
    replace Hcr := hid (Hcr.out.later b14)
    replace Hu := hid (Hu.out.later b14)
    replace HQR := hid (HQR.out.later b14)
    replace HQD := hid (HQD.out.later b14)
    replace RW7 := hid (RW7.out.later b14)
    replace RW8 := hid (RW8.out.later b14)
    replace RWp := hid (RWp.out.later b14)
    replace RWx := hid (RWx.out.later b14)
    replace RWu := hid (RWu.out.later b14)
    replace RWm := hid (RWm.out.later b14)
    replace RWd := hid (RWd.out.later b14)
    replace RWk := hid (RWk.out.later b14)
    replace HB := hid (HB.out.trans (b14.mono HB.out.size))
    clear b14 s14
    gi_wp2_with ((with_reducible show wpListIn _ _ _ _ _ (⟨none, _, _, _, _, _⟩ :: _) _ _); refine wlSI_store rfl 33 3 Tryz.sizeRp _ _ rfl gs [.bool true, .slice none 0 0, .slice none 0 0] rfl rfl 33 _ r14 rfl rfl (ones3 rfl rfl rfl) ?_; intro w14 hrs hgs hzs)
    have hsb : Sb W14 w14 := ⟨gs, HNs.out, hgs⟩
    replace Has := hid (Has.out.sb hsb)
    replace Hpg := hid (Hpg.out.sb hsb)
    replace Hcr := hid (Hcr.out.sb hsb)
    replace Hu := hid (Hu.out.sb hsb)
    replace HQR := hid (HQR.out.sb hsb)
    replace HQD := hid (HQD.out.sb hsb)
    replace RW7 := hid (RW7.out.grown hgs HNE7s.out)
    replace RW8 := hid (RW8.out.grown hgs HNE8s.out)
    replace RWp := hid (RWp.out.grown hgs HNEps.out)
    replace RWx := hid (RWx.out.grown hgs HNExs.out)
    replace RWu := hid (RWu.out.grown hgs HNEus.out)
    replace RWm := hid (RWm.out.grown hgs HNEms.out)
    replace RWd := hid (RWd.out.grown hgs HNEds.out)
    replace RWk := hid (RWk.out.grown hgs HNEks.out)
    replace HB := hid (below_grown HB.out hgs HLs.out HB.out.size)
    clear hsb
    have RWs := hid hrs
    clear hrs hgs hzs e14 r14 hqs HNs
    obtain ⟨M, hM⟩ : ∃ M : Int, (6 : Int) = M := ⟨_, rfl⟩
    rw [hM] at RW7
    have HNV := hid (show 1 ≤ M ∧ M ≤ 6 by omega)
    clear hM hnn n7 hk1
   rotate_left
  focus
   have hnn := HNN.out
   have n7 := RW7.out.at_ (i := 0) rfl
   obtain ⟨W12, e12, r12, b12, s12⟩ := newS w10 3 [.int .i64 0] _ rfl
   obtain ⟨gk, hqk⟩ : ∃ x, w10.heap.size = x := ⟨_, rfl⟩
   rw [hqk] at r12
   have HLk := hid (show w.heap.size ≤ gk by have := HB.out.size; omega)
   have HNE7k := hid (show g7 ≠ gk by have := RW7.out.lt; omega)
   have HNE8k := hid (show g8 ≠ gk by have := RW8.out.lt; omega)
   have HNEpk := hid (show gp ≠ gk by have := RWp.out.lt; omega)
   have HNExk := hid (show gx ≠ gk by have := RWx.out.lt; omega)
   have HNEuk := hid (show gu ≠ gk by have := RWu.out.lt; omega)
   have HNEmk := hid (show gm ≠ gk by have := RWm.out.lt; omega)
   have HNEdk := hid (show gd ≠ gk by have := RWd.out.lt; omega)
   have HNk := hid (NoU.of_row r12 (by intro v hv x; simp only [List.mem_cons, List.not_mem_nil, or_false] at hv; subst hv; intro h; cases h))
   replace Has := hid (Has.out.later b12)
   replace Hpg := hid (Hpg.out.later b12)
   replace Hcr := hid (Hcr.out.later b12)
   replace Hu := hid (Hu.out.later b12)
   replace HQR := hid (HQR.out.later b12)
   replace HQD := hid (HQD.out.later b12)
   replace RW7 := hid (RW7.out.later b12)
   replace RW8 := hid (RW8.out.later b12)
   replace RWp := hid (RWp.out.later b12)
   replace RWx := hid (RWx.out.later b12)
   replace RWu := hid (RWu.out.later b12)
   replace RWm := hid (RWm.out.later b12)
   replace RWd := hid (RWd.out.later b12)
   replace HB := hid (HB.out.trans (b12.mono HB.out.size))
   clear b12 s12
   have RWk := hid r12
   clear r12 HNk
   obtain ⟨w13, e13⟩ : ∃ V, W12.setCell ⟨gk, 0, none⟩ (.int .i64 0) = V := ⟨_, rfl⟩
   have hgk : W12.grownBy w13 (some gk) := by rw [← e13]; exact grown_set0 _ _ _ _
   have hrk : RowV 3 w13 gk [.int .i64 0] := by rw [← e13]; exact RWk.out.set 0 _
   have HNk := hid (NoU.of_row RWk.out (by intro v hv x; simp only [List.mem_cons, List.not_mem_nil, or_false] at hv; subst hv; intro h; cases h))
   have ok := RWk.out.at_ (i := 0) rfl
   have fk := RWk.out.frozen 0
   have hsb : Sb W12 w13 := ⟨gk, HNk.out, hgk⟩
   replace Has := hid (Has.out.sb hsb)
   replace Hpg := hid (Hpg.out.sb hsb)
   replace Hcr := hid (Hcr.out.sb hsb)
   replace Hu := hid (Hu.out.sb hsb)
   replace HQR := hid (HQR.out.sb hsb)
   replace HQD := hid (HQD.out.sb hsb)
   replace RW7 := hid (RW7.out.grown hgk HNE7k.out)
   replace RW8 := hid (RW8.out.grown hgk HNE8k.out)
   replace RWp := hid (RWp.out.grown hgk HNEpk.out)
   replace RWx := hid (RWx.out.grown hgk HNExk.out)
   replace RWu := hid (RWu.out.grown hgk HNEuk.out)
   replace RWm := hid (RWm.out.grown hgk HNEmk.out)
   replace RWd := hid (RWd.out.grown hgk HNEdk.out)
   replace HB := hid (below_grown HB.out hgk HLk.out HB.out.size)
   clear hsb
   replace RWk := hid hrk
   clear hrk hgk HNk
   obtain ⟨W14, e14, r14, b14, s14⟩ := newS w13 33 [.bool false, .slice none 0 0, .slice none 0 0] _ rfl
   obtain ⟨gs, hqs⟩ : ∃ x, w13.heap.size = x := ⟨_, rfl⟩
   rw [hqs] at r14
   have HLs := hid (show w.heap.size ≤ gs by have := HB.out.size; omega)
   have HNE7s := hid (show g7 ≠ gs by have := RW7.out.lt; omega)
   have HNE8s := hid (show g8 ≠ gs by have := RW8.out.lt; omega)
   have HNEps := hid (show gp ≠ gs by have := RWp.out.lt; omega)
   have HNExs := hid (show gx ≠ gs by have := RWx.out.lt; omega)
   have HNEus := hid (show gu ≠ gs by have := RWu.out.lt; omega)
   have HNEms := hid (show gm ≠ gs by have := RWm.out.lt; omega)
   have HNEds := hid (show gd ≠ gs by have := RWd.out.lt; omega)
   have HNEks := hid (show gk ≠ gs by have := RWk.out.lt; omega)
   have HNs := hid (NoU.of_row r14 (noU3 nofun nofun nofun))
   replace Has := hid (Has.out.later b14)
   replace Hpg := hid (Hpg.out.later b14)
   replace Hcr := hid (Hcr.out.later b14)
   replace Hu := hid (Hu.out.later b14)
   replace HQR := hid (HQR.out.later b14)
   replace HQD := hid (HQD.out.later b14)
   replace RW7 := hid (RW7.out.later b14)
   replace RW8 := hid (RW8.out.later b14)
   replace RWp := hid (RWp.out.later b14)
   replace RWx := hid (RWx.out.later b14)
   replace RWu := hid (RWu.out.later b14)
   replace RWm := hid (RWm.out.later b14)
   replace RWd := hid (RWd.out.later b14)
   replace RWk := hid (RWk.out.later b14)
   replace HB := hid (HB.out.trans (b14.mono HB.out.size))
   clear b14 s14
   gi_wp2_with ((with_reducible show wpListIn _ _ _ _ _ (⟨none, _, _, _, _, _⟩ :: _) _ _); refine wlSI_store rfl 33 3 Tryz.sizeRp _ _ rfl gs [.bool true, .slice none 0 0, .slice none 0 0] rfl rfl 33 _ r14 rfl rfl (ones3 rfl rfl rfl) ?_; intro w14 hrs hgs hzs)
   have hsb : Sb W14 w14 := ⟨gs, HNs.out, hgs⟩
   replace Has := hid (Has.out.sb hsb)
   replace Hpg := hid (Hpg.out.sb hsb)
   replace Hcr := hid (Hcr.out.sb hsb)
   replace Hu := hid (Hu.out.sb hsb)
   replace HQR := hid (HQR.out.sb hsb)
   replace HQD := hid (HQD.out.sb hsb)
   replace RW7 := hid (RW7.out.grown hgs HNE7s.out)
   replace RW8 := hid (RW8.out.grown hgs HNE8s.out)
   replace RWp := hid (RWp.out.grown hgs HNEps.out)
   replace RWx := hid (RWx.out.grown hgs HNExs.out)
   replace RWu := hid (RWu.out.grown hgs HNEus.out)
   replace RWm := hid (RWm.out.grown hgs HNEms.out)
   replace RWd := hid (RWd.out.grown hgs HNEds.out)
   replace RWk := hid (RWk.out.grown hgs HNEks.out)
   replace HB := hid (below_grown HB.out hgs HLs.out HB.out.size)
   clear hsb
   have RWs := hid hrs
   clear hrs hgs hzs e14 r14 hqs HNs
   obtain ⟨M, hM⟩ : ∃ M : Int, N = M := ⟨_, rfl⟩
   rw [hM] at RW7
   have HNV := hid (show 1 ≤ M ∧ M ≤ 6 by omega)
   clear hM hnn n7 hk1
  rotate_left
  all_goals
   have HLT := hid (And.intro RW7.out.lt (And.intro RW8.out.lt (And.intro RWx.out.lt (And.intro RWu.out.lt (And.intro RWk.out.lt RWs.out.lt)))))
   have HLTs := hid RWs.out.lt
   have HLTk := hid RWk.out.lt
   have hseq := mult2_in 8 (by decide) w14 c D HC.out P HAS.out gm gd ra rb rd dd RWm.out HQR.out RWd.out HQD.out 7 (by decide)
   obtain ⟨BB, hBB⟩ : ∃ B, w14.heap.size = B := ⟨_, rfl⟩
   have HBB := hid hBB
   have HSEQ := hid hseq
   clear hseq hBB
   refine act_name fun a0 ha0 => ?_
   refine wpIn_rangeS (α := Value) rfl (by decide) (gf := 67) (lb := #[.pointer (some ⟨gm, 0, none⟩), .pointer (some ⟨gd, 0, none⟩)]) (by rw [ha0]; rfl) trivial (enters_of Tryz.func67 (by kernel_rfl) rfl) HSEQ.out (fun a b => a.trans b) (fun W l ob ob' _ hl hc _ => KpM.put hl hc ob') (fun _ => rfl)
    (fun pre W => (pre.length : Int) < M ∧ MtI w D P M g7 g8 gx gu gk gs [.slice Ap np cp, .slice An nn cn, .slice Ab nb cb, .slice Ax nx cx, .slice Ay ny cy, .int .i64 (D.size : Int)] [.bool tu, .slice Au nu cu, .slice Bu mu du] pre W) (fun cd pre W => cd = .exit 0 ∧ (pre.length : Int) = M ∧ MtI w D P M g7 g8 gx gu gk gs [.slice Ap np cp, .slice An nn cn, .slice Ab nb cb, .slice Ax nx cx, .slice Ay ny cy, .int .i64 (D.size : Int)] [.bool tu, .slice Au nu cu, .slice Bu mu du] pre W) ?hI ?hIg ?hIN ?hIx (fun pre => MuR.own D P _ pre) ?hI0 (fun A B _ hb => KpM.below hb)
    (fun x W a' W' => ∃ gq x0 x1 x2, x = .agg #[x0, x1, x2] ∧ W.heap.size ≤ gq ∧ RowV 26 W' gq [x0, x1, x2] ∧ a' = { tmps := (a0.tmps.setIfInBounds 39 x).setIfInBounds 16 (.pointer (some ⟨gq, 0, none⟩)), defers := [] }) ?assign ?hAx ?body ?done ?stop
   case hI =>
    rintro s W W' row ⟨h1, h2⟩ hg hr
    exact ⟨h1, MtI.own HB.out.size s W W' row h2 hg hr⟩
   case hIg =>
    rintro s A B g hgW hno ⟨h1, h2⟩ hg
    have hz := HB.out.size
    have hl := HLT.out
    exact ⟨h1, h2.grown hno hg (by omega) (by omega) (by omega) (by omega) (by omega) (by omega) (by omega)⟩
   case hIN =>
    rintro s A ⟨h, -⟩
    have hnv := HNV.out
    omega
   case hIx =>
    rintro cd s W W' row ⟨h0, h1, h2⟩ hg hr
    exact ⟨h0, h1, MtI.own HB.out.size s W W' row h2 hg hr⟩
   case hI0 =>
    have hnv := HNV.out
    refine ⟨by show ((0 : Nat) : Int) < M; omega, ⟨HB.out, RW7.out, RW8.out, RWx.out, RWu.out⟩, Hcr.out, Hu.out, RWk.out, _, none, RWs.out, ?_, IsMu.zero D P⟩
    exact ⟨_, _, rfl, Nb.nil _, Nb.nil _⟩
   case assign =>
    rintro l pre x W K hW ⟨R, hmR, hpt⟩ hK
    obtain ⟨x0, x1, x2, rfl, i0, i1, i2, -⟩ := hpt.three
    obtain ⟨Wq, eq, rq, bq, sq⟩ := newS W 26 [.bool false, .slice none 0 0, .slice none 0 0] _ rfl
    obtain ⟨gq, hqq⟩ : ∃ x, W.heap.size = x := ⟨_, rfl⟩
    rw [hqq] at rq
    have HQQ := hid hqq
    have HKK := hid hK
    have HBQ := hid bq
    clear hK bq sq hpt hmR hW
    subst ha0
    gi_wp2_with ((with_reducible show wpListIn _ _ _ _ _ (⟨none, _, _, _, _, _⟩ :: _) _ _); refine wlSI_store rfl 26 3 Tryz.sizePt _ _ rfl gq [x0, x1, x2] rfl rfl 26 _ rq rfl rfl (ones3 i0 i1 i2) ?_; intro wq hrq hgq hzq)
    exact HKK.out _ _ (below_grown HBQ.out hgq (Nat.le_of_eq HQQ.out) HBQ.out.size) ⟨gq, _, _, _, rfl, Nat.le_of_eq HQQ.out, hrq, rfl⟩
   case hAx =>
    rintro x W a' W' o' ⟨gq, x0, x1, x2, h1, h2, h3, h4⟩ l ob _ hl ho hc
    exact ⟨gq, x0, x1, x2, h1, h2, (World.putObj_heap_other (by omega)).trans h3, h4⟩
   case done =>
    intro DB xs W _ h
    exact h.elim
   case body =>
    rintro l pre x W0 a' W hW0 ⟨gq, x0, x1, x2, rfl, hgq, hrq, rfl⟩ ⟨hlt, ⟨h1, h2, h3, h4, h5⟩, hcr, hu, hk, sv, S, hs, hsp, hmu⟩ ⟨R, hmR, hpt⟩
    obtain ⟨ts, As, ns, cs, Bs, ms, ds, es⟩ := hsp.three
    obtain rfl := agg3 es
    obtain ⟨tq, Aq, nq, cq, Bq, mq, dq, eqq⟩ := hpt.three'
    injection eqq with eqq
    have eqq := congrArg Array.toList eqq
    simp only [List.cons.injEq, and_true] at eqq
    obtain ⟨rfl, rfl, rfl⟩ := eqq
    have hbb := HBB.out
    have hltk := HLTk.out
    have hlts := HLTs.out
    have HNEsq := hid (show gs ≠ gq by omega)
    have HNEkq := hid (show gk ≠ gq by omega)
    have HLTk := hid (show gk < BB by omega)
    have HLTs := hid (show gs < BB by omega)
    have HB := hid h1
    have RW7 := hid h2
    have RW8 := hid h3
    have RWx := hid h4
    have RWu := hid h5
    have RWk := hid hk
    have RWs := hid hs
    have RWq := hid hrq
    have Hcr := hid hcr
    have Hu := hid hu
    have Hsp := hid hsp
    have Hpt := hid hpt
    have HMU := hid hmu
    have HMR := hid hmR
    have HJL := hid hlt
    have HKF := hid (KeepsFrom.refl BB W)
    have HKP := hid (show KpM W W from KpM.below (Below.refl _ W))
    clear h1 h2 h3 h4 h5 hcr hu hk hs hsp hmu hmR hpt hlt hrq hgq hbb hltk hlts hW0 es
    subst ha0
    have c0 := RWx.out.at_ (i := 0) rfl
    have c1 := RWx.out.at_ (i := 1) rfl
    have c2 := RWx.out.at_ (i := 2) rfl
    have c3 := RWx.out.at_ (i := 3) rfl
    have c4 := RWx.out.at_ (i := 4) rfl
    have c5 := RWx.out.at_ (i := 5) rfl
    have u0 := RWu.out.at_ (i := 0) rfl
    have u1 := RWu.out.at_ (i := 1) rfl
    have u2 := RWu.out.at_ (i := 2) rfl
    gi_wp2_with fail
    refine ⟨trivial, (CallsIn.inRound l (callsIn_wide.2 (on9_yes W c D HC.out _ _ P Hcr.out Hu.out))).mono ?_⟩
    rintro e w115 ⟨rfl, hb⟩
    have hdec : decide (hasN D.p D.b P) = true := decide_eq_true HAS.out
    rw [hdec]
    clear hdec
    replace Hcr := hid (Hcr.out.later hb)
    replace Hu := hid (Hu.out.later hb)
    replace Hsp := hid (Hsp.out.later hb)
    replace Hpt := hid (Hpt.out.later hb)
    replace RW7 := hid (RW7.out.later hb)
    replace RW8 := hid (RW8.out.later hb)
    replace RWx := hid (RWx.out.later hb)
    replace RWu := hid (RWu.out.later hb)
    replace RWk := hid (RWk.out.later hb)
    replace RWs := hid (RWs.out.later hb)
    replace RWq := hid (RWq.out.later hb)
    replace HB := hid (HB.out.trans (hb.mono HB.out.size))
    replace HKF := hid (HKF.out.trans (KeepsFrom.of_grownBy (grown_no hb) (fun r e => by cases e)))
    replace HKP := hid (HKP.out.trans (KpM.below hb))
    clear hb c0 c1 c2 c3 c4 c5 u0 u1 u2
    have c0 := RWx.out.at_ (i := 0) rfl
    have c1 := RWx.out.at_ (i := 1) rfl
    have c2 := RWx.out.at_ (i := 2) rfl
    have c3 := RWx.out.at_ (i := 3) rfl
    have c4 := RWx.out.at_ (i := 4) rfl
    have c5 := RWx.out.at_ (i := 5) rfl
    have u0 := RWu.out.at_ (i := 0) rfl
    have u1 := RWu.out.at_ (i := 1) rfl
    have u2 := RWu.out.at_ (i := 2) rfl
    have t0 := RWs.out.at_ (i := 0) rfl
    have t1 := RWs.out.at_ (i := 1) rfl
    have t2 := RWs.out.at_ (i := 2) rfl
    gi_wp2_with fail
    refine ⟨trivial, (CallsIn.inRound l (callsIn_wide.2 (add_mu w115 c D HC.out _ _ _ Hcr.out P S R HAS.out Hu.out Hsp.out pre.length HMU.out HMR.out))).mono ?_⟩
    rintro e w116 ⟨v, rfl, hsp, hb⟩
    obtain ⟨tz, Az, nz, cz, Bz, mz, dz, rfl⟩ := hsp.three
    replace Hcr := hid (Hcr.out.later hb)
    replace Hu := hid (Hu.out.later hb)
    replace Hsp := hid (Hsp.out.later hb)
    replace Hpt := hid (Hpt.out.later hb)
    replace RW7 := hid (RW7.out.later hb)
    replace RW8 := hid (RW8.out.later hb)
    replace RWx := hid (RWx.out.later hb)
    replace RWu := hid (RWu.out.later hb)
    replace RWk := hid (RWk.out.later hb)
    replace RWs := hid (RWs.out.later hb)
    replace RWq := hid (RWq.out.later hb)
    replace HB := hid (HB.out.trans (hb.mono HB.out.size))
    replace HKF := hid (HKF.out.trans (KeepsFrom.of_grownBy (grown_no hb) (fun r e => by cases e)))
    replace HKP := hid (HKP.out.trans (KpM.below hb))
    clear hb c0 c1 c2 c3 c4 c5 u0 u1 u2 t0 t1 t2
    replace Hsp := hid hsp
    clear hsp
    have HNs := hid (NoU.of_row RWs.out (noU3 nofun nofun nofun))
    gi_wp2_with ((with_reducible show wpListIn _ _ _ _ _ (⟨none, _, _, _, _, _⟩ :: _) _ _); refine wlSI_store rfl 33 3 Tryz.sizeRp _ _ rfl gs [.bool tz, .slice Az nz cz, .slice Bz mz dz] rfl rfl 33 _ RWs.out rfl rfl (ones3 rfl rfl rfl) ?_; intro w117 hrs hgs hzs; have s0 := hrs.at_ (i := 0) rfl; have s1 := hrs.at_ (i := 1) rfl; have s2 := hrs.at_ (i := 2) rfl; have q0 := (RWq.out.grown hgs HNEsq.out.symm).at_ (i := 0) rfl; have q1 := (RWq.out.grown hgs HNEsq.out.symm).at_ (i := 1) rfl; have q2 := (RWq.out.grown hgs HNEsq.out.symm).at_ (i := 2) rfl)
    have hsb : Sb w116 w117 := ⟨gs, HNs.out, hgs⟩
    replace Hcr := hid (Hcr.out.sb hsb)
    replace Hu := hid (Hu.out.sb hsb)
    replace Hsp := hid (Hsp.out.sb hsb)
    replace Hpt := hid (Hpt.out.sb hsb)
    replace RW7 := hid (RW7.out.grown hgs HNE7s.out)
    replace RW8 := hid (RW8.out.grown hgs HNE8s.out)
    replace RWx := hid (RWx.out.grown hgs HNExs.out)
    replace RWu := hid (RWu.out.grown hgs HNEus.out)
    replace RWk := hid (RWk.out.grown hgs HNEks.out)
    replace RWq := hid (RWq.out.grown hgs HNEsq.out.symm)
    replace HB := hid (below_grown HB.out hgs HLs.out HB.out.size)
    clear hsb
    replace HKF := hid (HKF.out.trans (KeepsFrom.of_grownBy hgs (fun r e => by have := HLTs.out; injection e; omega)))
    replace HKP := hid (HKP.out.trans (KpM.row RWs.out HNs.out hgs (by decide) (by decide)))
    replace RWs := hid hrs
    clear hrs hgs hzs s0 s1 s2 q0 q1 q2 HNs
    refine ⟨trivial, (CallsIn.inRound l (callsIn_wide.2 (is9_any w117 _ _ R Hpt.out Hsp.out))).mono ?_⟩
    rintro e w118 ⟨rfl, hb⟩
    replace Hcr := hid (Hcr.out.later hb)
    replace Hu := hid (Hu.out.later hb)
    replace Hsp := hid (Hsp.out.later hb)
    replace Hpt := hid (Hpt.out.later hb)
    replace RW7 := hid (RW7.out.later hb)
    replace RW8 := hid (RW8.out.later hb)
    replace RWx := hid (RWx.out.later hb)
    replace RWu := hid (RWu.out.later hb)
    replace RWk := hid (RWk.out.later hb)
    replace RWs := hid (RWs.out.later hb)
    replace RWq := hid (RWq.out.later hb)
    replace HB := hid (HB.out.trans (hb.mono HB.out.size))
    replace HKF := hid (HKF.out.trans (KeepsFrom.of_grownBy (grown_no hb) (fun r e => by cases e)))
    replace HKP := hid (HKP.out.trans (KpM.below hb))
    clear hb
    obtain ⟨j, hj⟩ : ∃ j, pre.length = j := ⟨_, rfl⟩
    have hlt := HJL.out
    rw [hj] at RWk hlt
    have hnv := HNV.out
    have kj1 : (j : Int) + 1 ≤ 7 := by omega
    have HJJ := hid hj
    have HLT1 := hid hlt
    clear hj hlt hnv
    obtain ⟨w119, e119⟩ : ∃ V, w118.setCell ⟨gk, 0, none⟩ (.int .i64 ((j : Int) + 1)) = V := ⟨_, rfl⟩
    have hgk : w118.grownBy w119 (some gk) := by rw [← e119]; exact grown_set0 _ _ _ _
    have hrk : RowV 3 w119 gk [.int .i64 ((j : Int) + 1)] := by rw [← e119]; exact RWk.out.set 0 _
    have HNk := hid (NoU.of_row RWk.out (by intro v hv x; simp only [List.mem_cons, List.not_mem_nil, or_false] at hv; subst hv; intro h; cases h))
    have ok := RWk.out.at_ (i := 0) rfl
    have fk := RWk.out.frozen 0
    have hsb : Sb w118 w119 := ⟨gk, HNk.out, hgk⟩
    replace Hcr := hid (Hcr.out.sb hsb)
    replace Hu := hid (Hu.out.sb hsb)
    replace Hsp := hid (Hsp.out.sb hsb)
    replace Hpt := hid (Hpt.out.sb hsb)
    replace RW7 := hid (RW7.out.grown hgk HNE7k.out)
    replace RW8 := hid (RW8.out.grown hgk HNE8k.out)
    replace RWx := hid (RWx.out.grown hgk HNExk.out)
    replace RWu := hid (RWu.out.grown hgk HNEuk.out)
    replace RWs := hid (RWs.out.grown hgk HNEks.out.symm)
    replace RWq := hid (RWq.out.grown hgk HNEkq.out.symm)
    replace HB := hid (below_grown HB.out hgk HLk.out HB.out.size)
    clear hsb
    replace HKF := hid (HKF.out.trans (KeepsFrom.of_grownBy hgk (fun r e => by have := HLTk.out; injection e; omega)))
    replace HKP := hid (HKP.out.trans (KpM.row RWk.out HNk.out hgk (by decide) (by decide)))
    replace RWk := hid hrk
    clear hrk hgk HNk
    have k1 := RWk.out.at_ (i := 0) rfl
    have k7 := RW7.out.at_ (i := 0) rfl
    have hprl : (pre ++ [Value.agg #[.bool tq, .slice Aq nq cq, .slice Bq mq dq]]).length = j + 1 := by rw [List.length_append, List.length_singleton, HJJ.out]
    have hii : MtI w D P M g7 g8 gx gu gk gs [.slice Ap np cp, .slice An nn cn, .slice Ab nb cb, .slice Ax nx cx, .slice Ay ny cy, .int .i64 (D.size : Int)] [.bool tu, .slice Au nu cu, .slice Bu mu du] (pre ++ [Value.agg #[.bool tq, .slice Aq nq cq, .slice Bq mq dq]]) w119 := by
     refine ⟨⟨HB.out, RW7.out, RW8.out, RWx.out, RWu.out⟩, Hcr.out, Hu.out, ?_, _, R, RWs.out, Hsp.out, ?_⟩
     ·rw [hprl]; exact RWk.out
     ·rw [hprl, ← HJJ.out]; exact HMR.out
    have HII := hid hii
    have HPL := hid hprl
    clear hii hprl
    by_cases hjk : (j : Int) + 1 = M
    ·have hjb : ((j : Int) + 1 == M) = true := by simpa using hjk
     have HJK := hid hjk
     clear hjk
     gi_wp2
     exact ⟨by rw [HBB.out]; exact HKF.out, rfl, by rw [HPL.out]; have := HJK.out; omega, HII.out⟩
    ·have hjb : ((j : Int) + 1 == M) = false := by simpa using hjk
     have HJK := hid hjk
     gi_wp2
     exact ⟨by rw [HBB.out]; exact HKF.out, HKP.out, by rw [HPL.out]; have := HJK.out; have := HLT1.out; omega, HII.out⟩
   case stop =>
    rintro DB cd pre W hD - ⟨rfl, hl, ⟨h1, h2, h3, h4, h5⟩, hcr, hu, hk, -⟩ hDK
    rw [hl] at hk
    have HLTD := hid (show w.heap.size < DB ∧ g8 < DB by have := HLT.out; have := HL8.out; omega)
    have HDK := hid hDK
    have HB := hid h1
    have RW7 := hid h2
    have RW8 := hid h3
    have RWx := hid h4
    have RWu := hid h5
    have RWk := hid hk
    have Hcr := hid hcr
    have Hu := hid hu
    clear h1 h2 h3 h4 h5 hcr hu hk hl hD hDK
    subst ha0
    have HN8 := hid (NoU.of_row RW8.out (by intro v hv x; simp only [List.mem_cons, List.not_mem_nil, or_false] at hv; subst hv; intro h; cases h))
    have HNEx8 := hid HNE8x.out.symm
    have HNEu8 := hid HNE8u.out.symm
    have HNEk8 := hid HNE8k.out.symm
    have hdec : decide (hasN D.p D.b P) = true := decide_eq_true HAS.out
    gi_wp2_with fail
    refine wpIn_region_numGS rfl hmx [(57, .val (.bool true)), (58, .val (.bool true)), (59, .val (.int .i64 M)), (60, .val (.int .i64 M)), (61, .val (.bool true)), (62, .val (.agg #[.slice Ap np cp, .slice An nn cn, .slice Ab nb cb, .slice Ax nx cx, .slice Ay ny cy, .int .i64 (D.size : Int)])), (63, .val (.agg #[.bool tu, .slice Au nu cu, .slice Bu mu du])), (64, .val (.bool true)), (65, .val (.bool true)), (66, .val (.bool true))] [(58, true)] (by kernel_rfl) (by kernel_rfl) (by kernel_rfl) (by kernel_rfl) (by rfl) (by kernel_rfl) (by rfl) ?hgv g8 10 ⟨_, rfl, rfl⟩ RW8.out.lt HN8.out 4 1 ⟨_, RW8.out, rfl⟩ (fun V => RowV 4 V g8 [.bool true]) ?hPs ?hops ?hs ?hend
    case hgv =>
     intro p hp v V h
     simp only [List.mem_cons, List.not_mem_nil, or_false] at hp
     rcases hp with rfl
     exact h
    case hPs =>
     intro V V' hlt hb hr
     exact hr.later hb
    case hops =>
     intro i o a' V hns hB ho hev hrd
     have his : i < 11 := by have := (Array.getElem?_eq_some_iff.1 ho).1; simpa using this
     have rx := RWx.out.grown hB HNEx8.out
     have ru := RWu.out.grown hB HNEu8.out
     have k7 := (RW7.out.grown hB HNE78.out).at_ (i := 0) rfl
     have kk := (RWk.out.grown hB HNEk8.out).at_ (i := 0) rfl
     have hcr := Hcr.out.sb ⟨g8, HN8.out, hB⟩
     have hu := Hu.out.sb ⟨g8, HN8.out, hB⟩
     have hcase : i = 0 ∨ i = 1 ∨ i = 2 ∨ i = 3 ∨ i = 4 ∨ i = 5 ∨ i = 6 ∨ i = 7 ∨ i = 8 ∨ i = 9 ∨ i = 10 := by omega
     rcases hcase with rfl | rfl | rfl | rfl | rfl | rfl | rfl | rfl | rfl | rfl | rfl
     ·simp at ho
      subst ho
      have r9 := hev 9 rfl
      simp [Act.eval] at r9
      refine ⟨nofun, fun _ _ => trivial, nofun, .inl ⟨.bool true, V, ?_, Below.refl _ _, fun t ht => by cases ht; rfl⟩⟩
      simp [execOp, Act.eval, go_sem, r9, k7, kk]
     ·simp at ho
      subst ho
      have r57 : a'.eval (.tmp 57) = .bool true := hrd 57 rfl rfl
      simp [Act.eval] at r57
      refine ⟨nofun, fun _ _ => trivial, nofun, .inl ⟨.bool true, V, ?_, Below.refl _ _, fun t ht => by cases ht; rfl⟩⟩
      simp [execOp, Act.eval, go_sem, r57, k7, kk]
     ·simp at ho
      subst ho
      have r14 := hev 14 rfl
      simp [Act.eval] at r14
      refine ⟨nofun, fun _ _ => trivial, nofun, .inl ⟨.int .i64 M, V, ?_, Below.refl _ _, fun t ht => by cases ht; rfl⟩⟩
      simp [execOp, Act.eval, go_sem, r14, k7, kk]
     ·simp at ho
      subst ho
      have r7 := hev 7 rfl
      simp [Act.eval] at r7
      refine ⟨nofun, fun _ _ => trivial, nofun, .inl ⟨.int .i64 M, V, ?_, Below.refl _ _, fun t ht => by cases ht; rfl⟩⟩
      simp [execOp, Act.eval, go_sem, r7, k7, kk]
     ·simp at ho
      subst ho
      have r59 : a'.eval (.tmp 59) = .int .i64 M := hrd 59 rfl rfl
      simp [Act.eval] at r59
      have r60 : a'.eval (.tmp 60) = .int .i64 M := hrd 60 rfl rfl
      simp [Act.eval] at r60
      refine ⟨nofun, fun _ _ => trivial, nofun, .inl ⟨.bool true, V, ?_, Below.refl _ _, fun t ht => by cases ht; rfl⟩⟩
      simp [execOp, Act.eval, go_sem, r59, r60, k7, kk]
     ·simp at ho
      subst ho
      have r11 := hev 11 rfl
      simp [Act.eval] at r11
      try simp [Act.put] at r11
      refine ⟨nofun, fun _ _ => trivial, nofun, .inl ⟨.agg #[.slice Ap np cp, .slice An nn cn, .slice Ab nb cb, .slice Ax nx cx, .slice Ay ny cy, .int .i64 (D.size : Int)], V, exec_load 30 6 _ Tryz.underlying30 rfl Tryz.sizeCr _ rfl gx [.slice Ap np cp, .slice An nn cn, .slice Ab nb cb, .slice Ax nx cx, .slice Ay ny cy, .int .i64 (D.size : Int)] (by simpa [Act.eval] using r11) 30 rx rfl, Below.refl _ _, fun t ht => by cases ht; rfl⟩⟩
     ·simp at ho
      subst ho
      have r12 := hev 12 rfl
      simp [Act.eval] at r12
      try simp [Act.put] at r12
      refine ⟨nofun, fun _ _ => trivial, nofun, .inl ⟨.agg #[.bool tu, .slice Au nu cu, .slice Bu mu du], V, exec_load 33 3 _ Tryz.underlying33 rfl Tryz.sizeRp _ rfl gu [.bool tu, .slice Au nu cu, .slice Bu mu du] (by simpa [Act.eval] using r12) 33 ru rfl, Below.refl _ _, fun t ht => by cases ht; rfl⟩⟩
     ·simp at ho
      subst ho
      have r62 : a'.eval (.tmp 62) = .agg #[.slice Ap np cp, .slice An nn cn, .slice Ab nb cb, .slice Ax nx cx, .slice Ay ny cy, .int .i64 (D.size : Int)] := hrd 62 rfl rfl
      simp [Act.eval] at r62
      have r63 : a'.eval (.tmp 63) = .agg #[.bool tu, .slice Au nu cu, .slice Bu mu du] := hrd 63 rfl rfl
      simp [Act.eval] at r63
      refine ⟨nofun, fun _ _ => trivial, nofun, .inr ⟨15, #[.agg #[.slice Ap np cp, .slice An nn cn, .slice Ab nb cb, .slice Ax nx cx, .slice Ay ny cy, .int .i64 (D.size : Int)], .agg #[.bool tu, .slice Au nu cu, .slice Bu mu du]], ?_, (callsIn_wide.2 (on9_yes V c D HC.out _ _ P hcr hu)).mono ?_⟩⟩
      ·simp [execOp, Act.eval, r62, r63, resolve, invoke, Deferred.ofValue]
      ·rintro e w' ⟨rfl, hB2⟩
       rw [hdec]
       have hv : Value.bool true = Value.bool true := rfl
       exact ⟨_, rfl, hB2, fun t ht => by cases ht; exact hv⟩
     ·simp at ho
      subst ho
      have r61 : a'.eval (.tmp 61) = .bool true := hrd 61 rfl rfl
      simp [Act.eval] at r61
      have r64 : a'.eval (.tmp 64) = .bool true := hrd 64 rfl rfl
      simp [Act.eval] at r64
      refine ⟨nofun, fun _ _ => trivial, nofun, .inl ⟨.bool true, V, ?_, Below.refl _ _, fun t ht => by cases ht; rfl⟩⟩
      simp [execOp, Act.eval, go_sem, r61, r64, k7, kk]
     ·simp at ho
      subst ho
      have r58 : a'.eval (.tmp 58) = .bool true := hrd 58 rfl rfl
      simp [Act.eval] at r58
      have r65 : a'.eval (.tmp 65) = .bool true := hrd 65 rfl rfl
      simp [Act.eval] at r65
      refine ⟨nofun, fun _ _ => trivial, nofun, .inl ⟨.bool true, V, ?_, Below.refl _ _, fun t ht => by cases ht; rfl⟩⟩
      simp [execOp, Act.eval, go_sem, r58, r65, k7, kk]
     ·simp at ho
      subst ho
      exact absurd rfl hns
    case hs =>
     intro o a' V hG hN hshp ho hev hrd
     simp at ho
     have o8 := hev 8 rfl
     have r66 : a'.eval (.tmp 66) = .bool true := hrd 66 (by subst ho; rfl) (by rfl)
     obtain ⟨vs, hrv, hvl⟩ := hshp
     obtain ⟨v, rfl⟩ : ∃ v, vs = [v] := List.length_eq_one_iff.1 hvl
     subst ho
     simp [Act.eval] at o8 r66
     have q8 := hrv.at_ (i := 0) rfl
     have f8 := hrv.frozen 0
     have hset : RowV 4 (V.setCell ⟨g8, 0, none⟩ (.bool true)) g8 [.bool true] := hrv.set 0 _
     refine ⟨nofun, fun _ _ => trivial, rfl, V.setCell ⟨g8, 0, none⟩ (.bool true), ?_, grown_set0 _ _ _ _, NoU.of_row hset (by intro v hv x; simp only [List.mem_cons, List.not_mem_nil, or_false] at hv; subst hv; intro h; cases h), ⟨_, hset, rfl⟩, hset⟩
     simp [execOp, Act.eval, go_sem, o8, r66, q8, f8]
    case hend =>
     intro vals V hG hN hP hQ
     simp [wrote, Act.put]
     have hDl := (Array.getElem?_eq_some_iff.1 HDK.out).1
     have hK5 : V.heap[DB]? = some (.deferred (some [])) := (hG.block DB hDl (fun e => by injection e; have := HLTD.out; omega)).trans HDK.out
     have hfin := below_grown HB.out hG HL8.out HB.out.size
     have hgr := grownBy_putObj' V DB (.deferred none)
     have hnc : ∀ r, some DB = some r → ∃ ob : Obj, V.heap[r]? = some ob ∧ ob.isCells = false := fun r e => by cases e; exact ⟨_, hK5, rfl⟩
     have b6 := (hQ.kept hgr hnc).at_ (i := 0) rfl
     have hfin2 := hfin.grown hgr hfin.size (fun r e => by injection e; have := HLTD.out; have := HL8.out; omega)
     have HFIN := hid hfin2
     have HK5 := hid hK5
     have HB6 := hid b6
     clear hfin hfin2 hK5 hgr hnc b6 hQ hP hN hG
     gi_wp2
     refine ⟨by simp, .inl ⟨_, _, rfl, run_takeDeferred HK5.out, ?_⟩⟩
     refine ⟨.bool true, ?_, rfl, HFIN.out⟩
     have h6 := HB6.out
     simp [results, Tryz.f6, h6, go_sem]
 ·have HAS := hid has
  clear has
  obtain ⟨W5, e5, r5, b5, s5⟩ := newS w4 26 [.bool false, .slice none 0 0, .slice none 0 0] _ rfl
  obtain ⟨gp, hqp⟩ : ∃ x, w4.heap.size = x := ⟨_, rfl⟩
  rw [hqp] at r5
  have HLp := hid (show w.heap.size ≤ gp by have := HB.out.size; omega)
  have HNE7p := hid (show g7 ≠ gp by have := RW7.out.lt; omega)
  have HNE8p := hid (show g8 ≠ gp by have := RW8.out.lt; omega)
  have HNp := hid (NoU.of_row r5 (noU3 nofun nofun nofun))
  replace Has := hid (Has.out.later b5)
  replace Hpg := hid (Hpg.out.later b5)
  replace RW7 := hid (RW7.out.later b5)
  replace RW8 := hid (RW8.out.later b5)
  replace HB := hid (HB.out.trans (b5.mono HB.out.size))
  clear b5 s5
  gi_wp2_with ((with_reducible show wpListIn _ _ _ _ _ (⟨none, _, _, _, _, _⟩ :: _) _ _); refine wlSI_store rfl 26 3 Tryz.sizePt _ _ rfl gp [.bool t0, a0, d0] rfl rfl 26 _ r5 rfl rfl (ones3 rfl o1 o2) ?_; intro w5 hrp hgp hzp)
  have hsb : Sb W5 w5 := ⟨gp, HNp.out, hgp⟩
  replace Has := hid (Has.out.sb hsb)
  replace Hpg := hid (Hpg.out.sb hsb)
  replace RW7 := hid (RW7.out.grown hgp HNE7p.out)
  replace RW8 := hid (RW8.out.grown hgp HNE8p.out)
  replace HB := hid (below_grown HB.out hgp HLp.out HB.out.size)
  clear hsb
  have RWp := hid hrp
  clear hrp hgp hzp e5 r5 hqp HNp
  refine ⟨trivial, (callsIn_wide.2 (rOf9_yes w5 c D HC.out)).mono ?_⟩
  rintro e w6 ⟨v, rfl, hcr, hb⟩
  obtain ⟨vp, vn, vb, vx, vy, rfl, k1, k2, k3, k4, k5⟩ := hcr
  obtain ⟨Ap, np, cp, rfl⟩ := k1.sl
  obtain ⟨An, nn, cn, rfl⟩ := k2.sl
  obtain ⟨Ab, nb, cb, rfl⟩ := k3.sl
  obtain ⟨Ax, nx, cx, rfl⟩ := k4.sl
  obtain ⟨Ay, ny, cy, rfl⟩ := k5.sl
  replace Has := hid (Has.out.later hb)
  replace Hpg := hid (Hpg.out.later hb)
  replace RW7 := hid (RW7.out.later hb)
  replace RW8 := hid (RW8.out.later hb)
  replace RWp := hid (RWp.out.later hb)
  replace HB := hid (HB.out.trans (hb.mono HB.out.size))
  have Hcr := hid (show Cr _ _ D from ⟨_, _, _, _, _, rfl, k1, k2, k3, k4, k5⟩)
  clear hb k1 k2 k3 k4 k5
  obtain ⟨W7, e7, r7, b7, s7⟩ := newS w6 30 [.slice none 0 0, .slice none 0 0, .slice none 0 0, .slice none 0 0, .slice none 0 0, .int .i64 0] _ rfl
  obtain ⟨gx, hqx⟩ : ∃ x, w6.heap.size = x := ⟨_, rfl⟩
  rw [hqx] at r7
  have HLx := hid (show w.heap.size ≤ gx by have := HB.out.size; omega)
  have HNE7x := hid (show g7 ≠ gx by have := RW7.out.lt; omega)
  have HNE8x := hid (show g8 ≠ gx by have := RW8.out.lt; omega)
  have HNEpx := hid (show gp ≠ gx by have := RWp.out.lt; omega)
  have HNx := hid (NoU.of_row r7 (noU6 nofun nofun nofun nofun nofun))
  replace Has := hid (Has.out.later b7)
  replace Hpg := hid (Hpg.out.later b7)
  replace Hcr := hid (Hcr.out.later b7)
  replace RW7 := hid (RW7.out.later b7)
  replace RW8 := hid (RW8.out.later b7)
  replace RWp := hid (RWp.out.later b7)
  replace HB := hid (HB.out.trans (b7.mono HB.out.size))
  clear b7 s7
  gi_wp2_with ((with_reducible show wpListIn _ _ _ _ _ (⟨none, _, _, _, _, _⟩ :: _) _ _); refine wlSI_store rfl 30 6 Tryz.sizeCr _ _ rfl gx [.slice Ap np cp, .slice An nn cn, .slice Ab nb cb, .slice Ax nx cx, .slice Ay ny cy, .int .i64 (D.size : Int)] rfl rfl 30 _ r7 rfl rfl (ones6 rfl rfl rfl rfl rfl rfl) ?_; intro w7 hrx hgx hzx; have p0 := (RWp.out.grown hgx HNEpx.out).at_ (i := 0) rfl; have p1 := (RWp.out.grown hgx HNEpx.out).at_ (i := 1) rfl; have p2 := (RWp.out.grown hgx HNEpx.out).at_ (i := 2) rfl)
  have hsb : Sb W7 w7 := ⟨gx, HNx.out, hgx⟩
  replace Has := hid (Has.out.sb hsb)
  replace Hpg := hid (Hpg.out.sb hsb)
  replace Hcr := hid (Hcr.out.sb hsb)
  replace RW7 := hid (RW7.out.grown hgx HNE7x.out)
  replace RW8 := hid (RW8.out.grown hgx HNE8x.out)
  replace RWp := hid (RWp.out.grown hgx HNEpx.out)
  replace HB := hid (below_grown HB.out hgx HLx.out HB.out.size)
  clear hsb
  have RWx := hid hrx
  clear hrx hgx hzx e7 r7 hqx HNx p0 p1 p2
  refine ⟨trivial, (callsIn_wide.2 (rFrom9_pg w7 _ P Hpg.out)).mono ?_⟩
  rintro e w8 ⟨v, rfl, hu, hb⟩
  obtain ⟨tu, Au, nu, cu, Bu, mu, du, rfl⟩ := hu.three
  replace Has := hid (Has.out.later hb)
  replace Hpg := hid (Hpg.out.later hb)
  replace Hcr := hid (Hcr.out.later hb)
  replace RW7 := hid (RW7.out.later hb)
  replace RW8 := hid (RW8.out.later hb)
  replace RWp := hid (RWp.out.later hb)
  replace RWx := hid (RWx.out.later hb)
  replace HB := hid (HB.out.trans (hb.mono HB.out.size))
  have Hu := hid (hu)
  clear hb hu
  obtain ⟨W9, e9, r9, b9, s9⟩ := newS w8 33 [.bool false, .slice none 0 0, .slice none 0 0] _ rfl
  obtain ⟨gu, hqu⟩ : ∃ x, w8.heap.size = x := ⟨_, rfl⟩
  rw [hqu] at r9
  have HLu := hid (show w.heap.size ≤ gu by have := HB.out.size; omega)
  have HNE7u := hid (show g7 ≠ gu by have := RW7.out.lt; omega)
  have HNE8u := hid (show g8 ≠ gu by have := RW8.out.lt; omega)
  have HNEpu := hid (show gp ≠ gu by have := RWp.out.lt; omega)
  have HNExu := hid (show gx ≠ gu by have := RWx.out.lt; omega)
  have HNu := hid (NoU.of_row r9 (noU3 nofun nofun nofun))
  replace Has := hid (Has.out.later b9)
  replace Hpg := hid (Hpg.out.later b9)
  replace Hcr := hid (Hcr.out.later b9)
  replace Hu := hid (Hu.out.later b9)
  replace RW7 := hid (RW7.out.later b9)
  replace RW8 := hid (RW8.out.later b9)
  replace RWp := hid (RWp.out.later b9)
  replace RWx := hid (RWx.out.later b9)
  replace HB := hid (HB.out.trans (b9.mono HB.out.size))
  clear b9 s9
  gi_wp2_with ((with_reducible show wpListIn _ _ _ _ _ (⟨none, _, _, _, _, _⟩ :: _) _ _); refine wlSI_store rfl 33 3 Tryz.sizeRp _ _ rfl gu [.bool tu, .slice Au nu cu, .slice Bu mu du] rfl rfl 33 _ r9 rfl rfl (ones3 rfl rfl rfl) ?_; intro w9 hru hgu hzu; have p0 := (RWp.out.grown hgu HNEpu.out).at_ (i := 0) rfl; have p1 := (RWp.out.grown hgu HNEpu.out).at_ (i := 1) rfl; have p2 := (RWp.out.grown hgu HNEpu.out).at_ (i := 2) rfl)
  have hsb : Sb W9 w9 := ⟨gu, HNu.out, hgu⟩
  replace Has := hid (Has.out.sb hsb)
  replace Hpg := hid (Hpg.out.sb hsb)
  replace Hcr := hid (Hcr.out.sb hsb)
  replace Hu := hid (Hu.out.sb hsb)
  replace RW7 := hid (RW7.out.grown hgu HNE7u.out)
  replace RW8 := hid (RW8.out.grown hgu HNE8u.out)
  replace RWp := hid (RWp.out.grown hgu HNEpu.out)
  replace RWx := hid (RWx.out.grown hgu HNExu.out)
  replace HB := hid (below_grown HB.out hgu HLu.out HB.out.size)
  clear hsb
  have RWu := hid hru
  clear hru hgu hzu e9 r9 hqu HNu p0 p1 p2
  refine ⟨trivial, (callsIn_wide.2 (cMult_no w9 c D HC.out _ P Hpg.out HAS.out)).mono ?_⟩
  rintro e w10 ⟨rfl, hb⟩
  replace Has := hid (Has.out.later hb)
  replace Hpg := hid (Hpg.out.later hb)
  replace Hcr := hid (Hcr.out.later hb)
  replace Hu := hid (Hu.out.later hb)
  replace RW7 := hid (RW7.out.later hb)
  replace RW8 := hid (RW8.out.later hb)
  replace RWp := hid (RWp.out.later hb)
  replace RWx := hid (RWx.out.later hb)
  replace RWu := hid (RWu.out.later hb)
  replace HB := hid (HB.out.trans (hb.mono HB.out.size))
  clear hb
  have hnil := eq_nilIt1
  have hv3 : N < 1 ∨ (¬ N < 1 ∧ 6 < N) ∨ (¬ N < 1 ∧ ¬ 6 < N) := by omega
  rcases hv3 with hk1 | ⟨hk1, hk6⟩ | ⟨hk1, hk6⟩
  iterate 2
   focus
    have hnn := HNN.out
    have n7 := RW7.out.at_ (i := 0) rfl
    obtain ⟨w11, e11⟩ : ∃ V, w10.setCell ⟨g7, 0, none⟩ (.int .i64 6) = V := ⟨_, rfl⟩
    have hg7 : w10.grownBy w11 (some g7) := by rw [← e11]; exact grown_set0 _ _ _ _
    have hr7 : RowV 3 w11 g7 [.int .i64 6] := by rw [← e11]; exact RW7.out.set 0 _
    have HN7 := hid (NoU.of_row RW7.out (by intro v hv x; simp only [List.mem_cons, List.not_mem_nil, or_false] at hv; subst hv; intro h; cases h))
    have o7 := RW7.out.at_ (i := 0) rfl
    have f7 := RW7.out.frozen 0
    have hsb : Sb w10 w11 := ⟨g7, HN7.out, hg7⟩
    replace Has := hid (Has.out.sb hsb)
    replace Hpg := hid (Hpg.out.sb hsb)
    replace Hcr := hid (Hcr.out.sb hsb)
    replace Hu := hid (Hu.out.sb hsb)
    replace RW8 := hid (RW8.out.grown hg7 HNE78.out.symm)
    replace RWp := hid (RWp.out.grown hg7 HNE7p.out.symm)
    replace RWx := hid (RWx.out.grown hg7 HNE7x.out.symm)
    replace RWu := hid (RWu.out.grown hg7 HNE7u.out.symm)
    replace HB := hid (below_grown HB.out hg7 HL7.out HB.out.size)
    clear hsb
    replace RW7 := hid hr7
    clear hr7 hg7 HN7
    obtain ⟨W12, e12, r12, b12, s12⟩ := newS w11 3 [.int .i64 0] _ rfl
    obtain ⟨gk, hqk⟩ : ∃ x, w11.heap.size = x := ⟨_, rfl⟩
    rw [hqk] at r12
    have HLk := hid (show w.heap.size ≤ gk by have := HB.out.size; omega)
    have HNE7k := hid (show g7 ≠ gk by have := RW7.out.lt; omega)
    have HNE8k := hid (show g8 ≠ gk by have := RW8.out.lt; omega)
    have HNEpk := hid (show gp ≠ gk by have := RWp.out.lt; omega)
    have HNExk := hid (show gx ≠ gk by have := RWx.out.lt; omega)
    have HNEuk := hid (show gu ≠ gk by have := RWu.out.lt; omega)
    have HNk := hid (NoU.of_row r12 (by intro v hv x; simp only [List.mem_cons, List.not_mem_nil, or_false] at hv; subst hv; intro h; cases h))
    replace Has := hid (Has.out.later b12)
    replace Hpg := hid (Hpg.out.later b12)
    replace Hcr := hid (Hcr.out.later b12)
    replace Hu := hid (Hu.out.later b12)
    replace RW7 := hid (RW7.out.later b12)
    replace RW8 := hid (RW8.out.later b12)
    replace RWp := hid (RWp.out.later b12)
    replace RWx := hid (RWx.out.later b12)
    replace RWu := hid (RWu.out.later b12)
    replace HB := hid (HB.out.trans (b12.mono HB.out.size))
    clear b12 s12
    have RWk := hid r12
    clear r12 HNk
    obtain ⟨w13, e13⟩ : ∃ V, W12.setCell ⟨gk, 0, none⟩ (.int .i64 0) = V := ⟨_, rfl⟩
    have hgk : W12.grownBy w13 (some gk) := by rw [← e13]; exact grown_set0 _ _ _ _
    have hrk : RowV 3 w13 gk [.int .i64 0] := by rw [← e13]; exact RWk.out.set 0 _
    have HNk := hid (NoU.of_row RWk.out (by intro v hv x; simp only [List.mem_cons, List.not_mem_nil, or_false] at hv; subst hv; intro h; cases h))
    have ok := RWk.out.at_ (i := 0) rfl
    have fk := RWk.out.frozen 0
    have hsb : Sb W12 w13 := ⟨gk, HNk.out, hgk⟩
    replace Has := hid (Has.out.sb hsb)
    replace Hpg := hid (Hpg.out.sb hsb)
    replace Hcr := hid (Hcr.out.sb hsb)
    replace Hu := hid (Hu.out.sb hsb)
    replace RW7 := hid (RW7.out.grown hgk HNE7k.out)
    replace RW8 := hid (RW8.out.grown hgk HNE8k.out)
    replace RWp := hid (RWp.out.grown hgk HNEpk.out)
    replace RWx := hid (RWx.out.grown hgk HNExk.out)
    replace RWu := hid (RWu.out.grown hgk HNEuk.out)
    replace HB := hid (below_grown HB.out hgk HLk.out HB.out.size)
    clear hsb
    replace RWk := hid hrk
    clear hrk hgk HNk
    obtain ⟨W14, e14, r14, b14, s14⟩ := newS w13 33 [.bool false, .slice none 0 0, .slice none 0 0] _ rfl
    obtain ⟨gs, hqs⟩ : ∃ x, w13.heap.size = x := ⟨_, rfl⟩
    rw [hqs] at r14
    have HLs := hid (show w.heap.size ≤ gs by have := HB.out.size; omega)
    have HNE7s := hid (show g7 ≠ gs by have := RW7.out.lt; omega)
    have HNE8s := hid (show g8 ≠ gs by have := RW8.out.lt; omega)
    have HNEps := hid (show gp ≠ gs by have := RWp.out.lt; omega)
    have HNExs := hid (show gx ≠ gs by have := RWx.out.lt; omega)
    have HNEus := hid (show gu ≠ gs by have := RWu.out.lt; omega)
    have HNEks := hid (show gk ≠ gs by have := RWk.out.lt; omega)
    have HNs := hid (NoU.of_row r14 (noU3 nofun nofun nofun))
    replace Has := hid (Has.out.later b14)
    replace Hpg := hid (Hpg.out.later b14)
    replace Hcr := hid (Hcr.out.later b14)
    replace Hu := hid (Hu.out.later b14)
    replace RW7 := hid (RW7.out.later b14)
    replace RW8 := hid (RW8.out.later b14)
    replace RWp := hid (RWp.out.later b14)
    replace RWx := hid (RWx.out.later b14)
    replace RWu := hid (RWu.out.later b14)
    replace RWk := hid (RWk.out.later b14)
    replace HB := hid (HB.out.trans (b14.mono HB.out.size))
    clear b14 s14
    gi_wp2_with ((with_reducible show wpListIn _ _ _ _ _ (⟨none, _, _, _, _, _⟩ :: _) _ _); refine wlSI_store rfl 33 3 Tryz.sizeRp _ _ rfl gs [.bool true, .slice none 0 0, .slice none 0 0] rfl rfl 33 _ r14 rfl rfl (ones3 rfl rfl rfl) ?_; intro w14 hrs hgs hzs)
    have hsb : Sb W14 w14 := ⟨gs, HNs.out, hgs⟩
    replace Has := hid (Has.out.sb hsb)
    replace Hpg := hid (Hpg.out.sb hsb)
    replace Hcr := hid (Hcr.out.sb hsb)
    replace Hu := hid (Hu.out.sb hsb)
    replace RW7 := hid (RW7.out.grown hgs HNE7s.out)
    replace RW8 := hid (RW8.out.grown hgs HNE8s.out)
    replace RWp := hid (RWp.out.grown hgs HNEps.out)
    replace RWx := hid (RWx.out.grown hgs HNExs.out)
    replace RWu := hid (RWu.out.grown hgs HNEus.out)
    replace RWk := hid (RWk.out.grown hgs HNEks.out)
    replace HB := hid (below_grown HB.out hgs HLs.out HB.out.size)
    clear hsb
    have RWs := hid hrs
    clear hrs hgs hzs e14 r14 hqs HNs
    obtain ⟨M, hM⟩ : ∃ M : Int, (6 : Int) = M := ⟨_, rfl⟩
    rw [hM] at RW7
    have HNV := hid (show 1 ≤ M ∧ M ≤ 6 by omega)
    clear hM hnn n7 hk1
   rotate_left
  focus
   have hnn := HNN.out
   have n7 := RW7.out.at_ (i := 0) rfl
   obtain ⟨W12, e12, r12, b12, s12⟩ := newS w10 3 [.int .i64 0] _ rfl
   obtain ⟨gk, hqk⟩ : ∃ x, w10.heap.size = x := ⟨_, rfl⟩
   rw [hqk] at r12
   have HLk := hid (show w.heap.size ≤ gk by have := HB.out.size; omega)
   have HNE7k := hid (show g7 ≠ gk by have := RW7.out.lt; omega)
   have HNE8k := hid (show g8 ≠ gk by have := RW8.out.lt; omega)
   have HNEpk := hid (show gp ≠ gk by have := RWp.out.lt; omega)
   have HNExk := hid (show gx ≠ gk by have := RWx.out.lt; omega)
   have HNEuk := hid (show gu ≠ gk by have := RWu.out.lt; omega)
   have HNk := hid (NoU.of_row r12 (by intro v hv x; simp only [List.mem_cons, List.not_mem_nil, or_false] at hv; subst hv; intro h; cases h))
   replace Has := hid (Has.out.later b12)
   replace Hpg := hid (Hpg.out.later b12)
   replace Hcr := hid (Hcr.out.later b12)
   replace Hu := hid (Hu.out.later b12)
   replace RW7 := hid (RW7.out.later b12)
   replace RW8 := hid (RW8.out.later b12)
   replace RWp := hid (RWp.out.later b12)
   replace RWx := hid (RWx.out.later b12)
   replace RWu := hid (RWu.out.later b12)
   replace HB := hid (HB.out.trans (b12.mono HB.out.size))
   clear b12 s12
   have RWk := hid r12
   clear r12 HNk
   obtain ⟨w13, e13⟩ : ∃ V, W12.setCell ⟨gk, 0, none⟩ (.int .i64 0) = V := ⟨_, rfl⟩
   have hgk : W12.grownBy w13 (some gk) := by rw [← e13]; exact grown_set0 _ _ _ _
   have hrk : RowV 3 w13 gk [.int .i64 0] := by rw [← e13]; exact RWk.out.set 0 _
   have HNk := hid (NoU.of_row RWk.out (by intro v hv x; simp only [List.mem_cons, List.not_mem_nil, or_false] at hv; subst hv; intro h; cases h))
   have ok := RWk.out.at_ (i := 0) rfl
   have fk := RWk.out.frozen 0
   have hsb : Sb W12 w13 := ⟨gk, HNk.out, hgk⟩
   replace Has := hid (Has.out.sb hsb)
   replace Hpg := hid (Hpg.out.sb hsb)
   replace Hcr := hid (Hcr.out.sb hsb)
   replace Hu := hid (Hu.out.sb hsb)
   replace RW7 := hid (RW7.out.grown hgk HNE7k.out)
   replace RW8 := hid (RW8.out.grown hgk HNE8k.out)
   replace RWp := hid (RWp.out.grown hgk HNEpk.out)
   replace RWx := hid (RWx.out.grown hgk HNExk.out)
   replace RWu := hid (RWu.out.grown hgk HNEuk.out)
   replace HB := hid (below_grown HB.out hgk HLk.out HB.out.size)
   clear hsb
   replace RWk := hid hrk
   clear hrk hgk HNk
   obtain ⟨W14, e14, r14, b14, s14⟩ := newS w13 33 [.bool false, .slice none 0 0, .slice none 0 0] _ rfl
   obtain ⟨gs, hqs⟩ : ∃ x, w13.heap.size = x := ⟨_, rfl⟩
   rw [hqs] at r14
   have HLs := hid (show w.heap.size ≤ gs by have := HB.out.size; omega)
   have HNE7s := hid (show g7 ≠ gs by have := RW7.out.lt; omega)
   have HNE8s := hid (show g8 ≠ gs by have := RW8.out.lt; omega)
   have HNEps := hid (show gp ≠ gs by have := RWp.out.lt; omega)
   have HNExs := hid (show gx ≠ gs by have := RWx.out.lt; omega)
   have HNEus := hid (show gu ≠ gs by have := RWu.out.lt; omega)
   have HNEks := hid (show gk ≠ gs by have := RWk.out.lt; omega)
   have HNs := hid (NoU.of_row r14 (noU3 nofun nofun nofun))
   replace Has := hid (Has.out.later b14)
   replace Hpg := hid (Hpg.out.later b14)
   replace Hcr := hid (Hcr.out.later b14)
   replace Hu := hid (Hu.out.later b14)
   replace RW7 := hid (RW7.out.later b14)
   replace RW8 := hid (RW8.out.later b14)
   replace RWp := hid (RWp.out.later b14)
   replace RWx := hid (RWx.out.later b14)
   replace RWu := hid (RWu.out.later b14)
   replace RWk := hid (RWk.out.later b14)
   replace HB := hid (HB.out.trans (b14.mono HB.out.size))
   clear b14 s14
   gi_wp2_with ((with_reducible show wpListIn _ _ _ _ _ (⟨none, _, _, _, _, _⟩ :: _) _ _); refine wlSI_store rfl 33 3 Tryz.sizeRp _ _ rfl gs [.bool true, .slice none 0 0, .slice none 0 0] rfl rfl 33 _ r14 rfl rfl (ones3 rfl rfl rfl) ?_; intro w14 hrs hgs hzs)
   have hsb : Sb W14 w14 := ⟨gs, HNs.out, hgs⟩
   replace Has := hid (Has.out.sb hsb)
   replace Hpg := hid (Hpg.out.sb hsb)
   replace Hcr := hid (Hcr.out.sb hsb)
   replace Hu := hid (Hu.out.sb hsb)
   replace RW7 := hid (RW7.out.grown hgs HNE7s.out)
   replace RW8 := hid (RW8.out.grown hgs HNE8s.out)
   replace RWp := hid (RWp.out.grown hgs HNEps.out)
   replace RWx := hid (RWx.out.grown hgs HNExs.out)
   replace RWu := hid (RWu.out.grown hgs HNEus.out)
   replace RWk := hid (RWk.out.grown hgs HNEks.out)
   replace HB := hid (below_grown HB.out hgs HLs.out HB.out.size)
   clear hsb
   have RWs := hid hrs
   clear hrs hgs hzs e14 r14 hqs HNs
   obtain ⟨M, hM⟩ : ∃ M : Int, N = M := ⟨_, rfl⟩
   rw [hM] at RW7
   have HNV := hid (show 1 ≤ M ∧ M ≤ 6 by omega)
   clear hM hnn n7 hk1
  rotate_left
  all_goals
   have HLT := hid (And.intro RW7.out.lt (And.intro RW8.out.lt (And.intro RWx.out.lt (And.intro RWu.out.lt RWk.out.lt))))
   refine act_name fun a0 ha0 => ?_
   refine wpIn_rangeS (α := Value) rfl (by decide) (gf := 66) (lb := #[]) (by rw [ha0]; rfl) trivial (enters_of Tryz.func66 (by kernel_rfl) rfl) (mult1_in 8 (by decide) w14 (fun v => #[v]) (fun _ _ _ => False) (fun _ _ => True) 1) (fun _ _ => trivial) (fun _ _ _ _ _ _ _ _ => trivial) (fun _ => rfl) (fun pre W => pre = [] ∧ MtB w M g7 g8 gx gu [.slice Ap np cp, .slice An nn cn, .slice Ab nb cb, .slice Ax nx cx, .slice Ay ny cy, .int .i64 (D.size : Int)] [.bool tu, .slice Au nu cu, .slice Bu mu du] W ∧ RowV 3 W gk [.int .i64 0] ∧ Cr W (.agg #[.slice Ap np cp, .slice An nn cn, .slice Ab nb cb, .slice Ax nx cx, .slice Ay ny cy, .int .i64 (D.size : Int)]) D ∧ Rp W (.agg #[.bool tu, .slice Au nu cu, .slice Bu mu du]) P) (fun _ _ _ => True) ?hI ?hIg ?hIN ?hIx ?hR ?hI0 ?hKB (fun _ _ _ _ => True) ?assign ?hAx ?body ?done ?stop
   case hI =>
    rintro s W W' row ⟨h0, h1, h2, h3, h4⟩ hg hr
    have hc := fun r e => (hr r e).2
    exact ⟨h0, h1.kept hg (fun r e => ⟨Nat.le_trans HB.out.size (hr r e).1, (hr r e).2⟩), h2.kept hg hc, h3.kept hg hc, h4.kept hg hc⟩
   case hIg =>
    rintro s A B g hgW hno ⟨h0, h1, h2, h3, h4⟩ hg
    have hz := HB.out.size
    have hl := HLT.out
    exact ⟨h0, h1.grown hg (by omega) (by omega) (by omega) (by omega) (by omega), h2.grown hg (by omega), h3.sb ⟨g, hno, hg⟩, h4.sb ⟨g, hno, hg⟩⟩
   case hIN =>
    rintro s A ⟨rfl, -⟩
    decide
   case hIx =>
    intro c s W W' row h hg hr
    trivial
   case hR =>
    intro pre s W W' row h hg hr
    exact h
   case hI0 =>
    exact ⟨rfl, ⟨HB.out, RW7.out, RW8.out, RWx.out, RWu.out⟩, RWk.out, Hcr.out, Hu.out⟩
   case hKB =>
    intro A B _ _
    trivial
   case assign =>
    intro l pre x W K _ h
    exact h.elim
   case hAx =>
    intros
    trivial
   case body =>
    intro l pre x W0 a' W _ _ _ h
    exact h.elim
   case stop =>
    intro DB c pre W _ h
    exact h.elim
   case done =>
    rintro DB xs W hD - ⟨-, ⟨h1, h2, h3, h4, h5⟩, h6, h7, h8⟩ hDK
    have HLTD := hid (show w.heap.size < DB ∧ g8 < DB by have := HLT.out; have := HL8.out; omega)
    have HDK := hid hDK
    have HB := hid h1
    have RW7 := hid h2
    have RW8 := hid h3
    have RWx := hid h4
    have RWu := hid h5
    have RWk := hid h6
    have Hcr := hid h7
    have Hu := hid h8
    have hnv := HNV.out
    have hN0 : ((0 : Int) == M) = false := by first | (simp; done) | (simp; omega)
    have hN0b : ¬ (0 : Int) = M := by omega
    clear h1 h2 h3 h4 h5 h6 hD hDK hnv h7 h8
    subst ha0
    have HN8 := hid (NoU.of_row RW8.out (by intro v hv x; simp only [List.mem_cons, List.not_mem_nil, or_false] at hv; subst hv; intro h; cases h))
    have HNEx8 := hid HNE8x.out.symm
    have HNEu8 := hid HNE8u.out.symm
    have HNEk8 := hid HNE8k.out.symm
    have hdec : decide (hasN D.p D.b P) = false := decide_eq_false HAS.out
    gi_wp2_with fail
    refine wpIn_region_numGS rfl hmx [(57, .val (.bool true)), (58, .val (.bool true)), (59, .val (.int .i64 0)), (60, .val (.int .i64 M)), (61, .val (.bool false)), (62, .val (.agg #[.slice Ap np cp, .slice An nn cn, .slice Ab nb cb, .slice Ax nx cx, .slice Ay ny cy, .int .i64 (D.size : Int)])), (63, .val (.agg #[.bool tu, .slice Au nu cu, .slice Bu mu du])), (64, .val (.bool false)), (65, .val (.bool true)), (66, .val (.bool true))] [(58, true)] (by kernel_rfl) (by kernel_rfl) (by kernel_rfl) (by kernel_rfl) (by rfl) (by kernel_rfl) (by rfl) ?hgv g8 10 ⟨_, rfl, rfl⟩ RW8.out.lt HN8.out 4 1 ⟨_, RW8.out, rfl⟩ (fun V => RowV 4 V g8 [.bool true]) ?hPs ?hops ?hs ?hend
    case hgv =>
     intro p hp v V h
     simp only [List.mem_cons, List.not_mem_nil, or_false] at hp
     rcases hp with rfl
     exact h
    case hPs =>
     intro V V' hlt hb hr
     exact hr.later hb
    case hops =>
     intro i o a' V hns hB ho hev hrd
     have his : i < 11 := by have := (Array.getElem?_eq_some_iff.1 ho).1; simpa using this
     have rx := RWx.out.grown hB HNEx8.out
     have ru := RWu.out.grown hB HNEu8.out
     have k7 := (RW7.out.grown hB HNE78.out).at_ (i := 0) rfl
     have kk := (RWk.out.grown hB HNEk8.out).at_ (i := 0) rfl
     have hcr := Hcr.out.sb ⟨g8, HN8.out, hB⟩
     have hu := Hu.out.sb ⟨g8, HN8.out, hB⟩
     have hcase : i = 0 ∨ i = 1 ∨ i = 2 ∨ i = 3 ∨ i = 4 ∨ i = 5 ∨ i = 6 ∨ i = 7 ∨ i = 8 ∨ i = 9 ∨ i = 10 := by omega
     rcases hcase with rfl | rfl | rfl | rfl | rfl | rfl | rfl | rfl | rfl | rfl | rfl
     ·simp at ho
      subst ho
      have r9 := hev 9 rfl
      simp [Act.eval] at r9
      refine ⟨nofun, fun _ _ => trivial, nofun, .inl ⟨.bool true, V, ?_, Below.refl _ _, fun t ht => by cases ht; rfl⟩⟩
      simp [execOp, Act.eval, go_sem, r9, k7, kk, hN0, hN0b]
     ·simp at ho
      subst ho
      have r57 : a'.eval (.tmp 57) = .bool true := hrd 57 rfl rfl
      simp [Act.eval] at r57
      refine ⟨nofun, fun _ _ => trivial, nofun, .inl ⟨.bool true, V, ?_, Below.refl _ _, fun t ht => by cases ht; rfl⟩⟩
      simp [execOp, Act.eval, go_sem, r57, k7, kk, hN0, hN0b]
     ·simp at ho
      subst ho
      have r14 := hev 14 rfl
      simp [Act.eval] at r14
      refine ⟨nofun, fun _ _ => trivial, nofun, .inl ⟨.int .i64 0, V, ?_, Below.refl _ _, fun t ht => by cases ht; rfl⟩⟩
      simp [execOp, Act.eval, go_sem, r14, k7, kk, hN0, hN0b]
     ·simp at ho
      subst ho
      have r7 := hev 7 rfl
      simp [Act.eval] at r7
      refine ⟨nofun, fun _ _ => trivial, nofun, .inl ⟨.int .i64 M, V, ?_, Below.refl _ _, fun t ht => by cases ht; rfl⟩⟩
      simp [execOp, Act.eval, go_sem, r7, k7, kk, hN0, hN0b]
     ·simp at ho
      subst ho
      have r59 : a'.eval (.tmp 59) = .int .i64 0 := hrd 59 rfl rfl
      simp [Act.eval] at r59
      have r60 : a'.eval (.tmp 60) = .int .i64 M := hrd 60 rfl rfl
      simp [Act.eval] at r60
      refine ⟨nofun, fun _ _ => trivial, nofun, .inl ⟨.bool false, V, ?_, Below.refl _ _, fun t ht => by cases ht; rfl⟩⟩
      simp [execOp, Act.eval, go_sem, r59, r60, k7, kk, hN0, hN0b]
     ·simp at ho
      subst ho
      have r11 := hev 11 rfl
      simp [Act.eval] at r11
      try simp [Act.put] at r11
      refine ⟨nofun, fun _ _ => trivial, nofun, .inl ⟨.agg #[.slice Ap np cp, .slice An nn cn, .slice Ab nb cb, .slice Ax nx cx, .slice Ay ny cy, .int .i64 (D.size : Int)], V, exec_load 30 6 _ Tryz.underlying30 rfl Tryz.sizeCr _ rfl gx [.slice Ap np cp, .slice An nn cn, .slice Ab nb cb, .slice Ax nx cx, .slice Ay ny cy, .int .i64 (D.size : Int)] (by simpa [Act.eval] using r11) 30 rx rfl, Below.refl _ _, fun t ht => by cases ht; rfl⟩⟩
     ·simp at ho
      subst ho
      have r12 := hev 12 rfl
      simp [Act.eval] at r12
      try simp [Act.put] at r12
      refine ⟨nofun, fun _ _ => trivial, nofun, .inl ⟨.agg #[.bool tu, .slice Au nu cu, .slice Bu mu du], V, exec_load 33 3 _ Tryz.underlying33 rfl Tryz.sizeRp _ rfl gu [.bool tu, .slice Au nu cu, .slice Bu mu du] (by simpa [Act.eval] using r12) 33 ru rfl, Below.refl _ _, fun t ht => by cases ht; rfl⟩⟩
     ·simp at ho
      subst ho
      have r62 : a'.eval (.tmp 62) = .agg #[.slice Ap np cp, .slice An nn cn, .slice Ab nb cb, .slice Ax nx cx, .slice Ay ny cy, .int .i64 (D.size : Int)] := hrd 62 rfl rfl
      simp [Act.eval] at r62
      have r63 : a'.eval (.tmp 63) = .agg #[.bool tu, .slice Au nu cu, .slice Bu mu du] := hrd 63 rfl rfl
      simp [Act.eval] at r63
      refine ⟨nofun, fun _ _ => trivial, nofun, .inr ⟨15, #[.agg #[.slice Ap np cp, .slice An nn cn, .slice Ab nb cb, .slice Ax nx cx, .slice Ay ny cy, .int .i64 (D.size : Int)], .agg #[.bool tu, .slice Au nu cu, .slice Bu mu du]], ?_, (callsIn_wide.2 (on9_yes V c D HC.out _ _ P hcr hu)).mono ?_⟩⟩
      ·simp [execOp, Act.eval, r62, r63, resolve, invoke, Deferred.ofValue]
      ·rintro e w' ⟨rfl, hB2⟩
       rw [hdec]
       have hv : Value.bool false = Value.bool false := rfl
       exact ⟨_, rfl, hB2, fun t ht => by cases ht; exact hv⟩
     ·simp at ho
      subst ho
      have r61 : a'.eval (.tmp 61) = .bool false := hrd 61 rfl rfl
      simp [Act.eval] at r61
      have r64 : a'.eval (.tmp 64) = .bool false := hrd 64 rfl rfl
      simp [Act.eval] at r64
      refine ⟨nofun, fun _ _ => trivial, nofun, .inl ⟨.bool true, V, ?_, Below.refl _ _, fun t ht => by cases ht; rfl⟩⟩
      simp [execOp, Act.eval, go_sem, r61, r64, k7, kk, hN0, hN0b]
     ·simp at ho
      subst ho
      have r58 : a'.eval (.tmp 58) = .bool true := hrd 58 rfl rfl
      simp [Act.eval] at r58
      have r65 : a'.eval (.tmp 65) = .bool true := hrd 65 rfl rfl
      simp [Act.eval] at r65
      refine ⟨nofun, fun _ _ => trivial, nofun, .inl ⟨.bool true, V, ?_, Below.refl _ _, fun t ht => by cases ht; rfl⟩⟩
      simp [execOp, Act.eval, go_sem, r58, r65, k7, kk, hN0, hN0b]
     ·simp at ho
      subst ho
      exact absurd rfl hns
    case hs =>
     intro o a' V hG hN hshp ho hev hrd
     simp at ho
     have o8 := hev 8 rfl
     have r66 : a'.eval (.tmp 66) = .bool true := hrd 66 (by subst ho; rfl) (by rfl)
     obtain ⟨vs, hrv, hvl⟩ := hshp
     obtain ⟨v, rfl⟩ : ∃ v, vs = [v] := List.length_eq_one_iff.1 hvl
     subst ho
     simp [Act.eval] at o8 r66
     have q8 := hrv.at_ (i := 0) rfl
     have f8 := hrv.frozen 0
     have hset : RowV 4 (V.setCell ⟨g8, 0, none⟩ (.bool true)) g8 [.bool true] := hrv.set 0 _
     refine ⟨nofun, fun _ _ => trivial, rfl, V.setCell ⟨g8, 0, none⟩ (.bool true), ?_, grown_set0 _ _ _ _, NoU.of_row hset (by intro v hv x; simp only [List.mem_cons, List.not_mem_nil, or_false] at hv; subst hv; intro h; cases h), ⟨_, hset, rfl⟩, hset⟩
     simp [execOp, Act.eval, go_sem, o8, r66, q8, f8]
    case hend =>
     intro vals V hG hN hP hQ
     simp [wrote, Act.put]
     have hDl := (Array.getElem?_eq_some_iff.1 HDK.out).1
     have hK5 : V.heap[DB]? = some (.deferred (some [])) := (hG.block DB hDl (fun e => by injection e; have := HLTD.out; omega)).trans HDK.out
     have hfin := below_grown HB.out hG HL8.out HB.out.size
     have hgr := grownBy_putObj' V DB (.deferred none)
     have hnc : ∀ r, some DB = some r → ∃ ob : Obj, V.heap[r]? = some ob ∧ ob.isCells = false := fun r e => by cases e; exact ⟨_, hK5, rfl⟩
     have b6 := (hQ.kept hgr hnc).at_ (i := 0) rfl
     have hfin2 := hfin.grown hgr hfin.size (fun r e => by injection e; have := HLTD.out; have := HL8.out; omega)
     have HFIN := hid hfin2
     have HK5 := hid hK5
     have HB6 := hid b6
     clear hfin hfin2 hK5 hgr hnc b6 hQ hP hN hG
     gi_wp2
     refine ⟨by simp, .inl ⟨_, _, rfl, run_takeDeferred HK5.out, ?_⟩⟩
     refine ⟨.bool true, ?_, rfl, HFIN.out⟩
     have h6 := HB6.out
     simp [results, Tryz.f6, h6, go_sem]
theorem mt9_walk (w : World) (c : Int) (Aa : Option Addr) (na ca : Nat) (ys : List Nat) (ha : CutS w (.slice Aa na ca) ys) (had : Dg b64 ys) (hal : na ≤ 1048576) (sp : Bool) (N : Int) (hN1 : -9223372036854775808 ≤ N) (hN2 : N ≤ 9223372036854775807) : Calls Tryz.prog 6 #[.int .i64 c, .slice Aa na ca, .bool sp, .int .i64 N] w fun e w' => RetV w (.bool true) e w' := by
 rcases h : crvOf c with _ | D
 ·exact mt9_none w c h Aa na ca ys ha had hal sp N hN1 hN2
 ·exact mt9_yes w c D h Aa na ca ys ha had hal sp N hN1 hN2
end Go.Proofs.YtbejcollbkeedaaGreat
