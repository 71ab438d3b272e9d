/- CurveAdd, walked. -/
import Derived.Test.YtbejcollbkeedaaGreatPileA15
set_option linter.unusedVariables false
set_option linter.unusedSimpArgs false
set_option linter.unusedSectionVars false
set_option maxRecDepth 100000
set_option maxHeartbeats 8000000
open Go.Lib (hid)
namespace Go.Proofs.YtbejcollbkeedaaGreat
open Go.RowKit
attribute [local go_sem] Oper.semAt_some
theorem cadd9_any (w : World) (c : Int) (D : Crv) (hc : crvOf c = some D) (vP vQ : Value) (P Q : Option (Nat × Nat)) (hP : Pg w vP P) (hQ : Pg w vQ Q) :
  Calls Tryz.prog 12 #[.int .i64 c, vP, vQ] w fun e w' => ∃ v R, e = .returned (.tuple #[v, .bool (decide (hasN D.p D.b P ∧ hasN D.p D.b Q))]) ∧ ((hasN D.p D.b P ∧ hasN D.p D.b Q) ∧ PtR D.p (rcbN D.p D.b (rtN P) (rtN Q)) R ∨ ¬ (hasN D.p D.b P ∧ hasN D.p D.b Q) ∧ R = none) ∧ Pt w' v R ∧ Below w.heap.size w w' := by
 by_cases h : hasN D.p D.b P ∧ hasN D.p D.b Q
 ·refine (cadd_is w c D hc vP vQ P Q hP hQ h.1 h.2).mono ?_
  rintro e w' ⟨v, R, rfl, h1, h2, h3⟩
  exact ⟨v, R, by rw [decide_eq_true h], .inl ⟨h, h1⟩, h2, h3⟩
 ·refine (cAdd_no w c D hc vP vQ P Q hP hQ h).mono ?_
  rintro e w' ⟨rfl, hb⟩
  exact ⟨_, none, by rw [decide_eq_false h], .inr ⟨h, rfl⟩, ⟨_, _, rfl, Nu.nil _, Nu.nil _⟩, hb⟩
theorem cneg9_any (w : World) (c : Int) (D : Crv) (hc : crvOf c = some D) (vP : Value) (P : Option (Nat × Nat)) (hP : Pg w vP P) :
  Calls Tryz.prog 13 #[.int .i64 c, vP] w fun e w' => ∃ v R, e = .returned (.tuple #[v, .bool (decide (hasN D.p D.b P))]) ∧ (hasN D.p D.b P ∧ R = ngN D.p P ∨ ¬ hasN D.p D.b P ∧ R = none) ∧ Pt w' v R ∧ Below w.heap.size w w' := by
 by_cases h : hasN D.p D.b P
 ·refine (cneg_is w c D hc vP P hP h).mono ?_
  rintro e w' ⟨v, rfl, h2, h3⟩
  exact ⟨v, _, by rw [decide_eq_true h], .inl ⟨h, rfl⟩, h2, h3⟩
 ·refine (cNeg_no w c D hc vP P hP h).mono ?_
  rintro e w' ⟨rfl, hb⟩
  exact ⟨_, none, by rw [decide_eq_false h], .inr ⟨h, rfl⟩, ⟨_, _, rfl, Nu.nil _, Nu.nil _⟩, hb⟩
theorem add9_none (w : World) (c : Int) (hc : crvOf c = none) (Aa Ab : Option Addr) (na ca nb cb : Nat) (xs ys : List Nat) (ha : CutS w (.slice Aa na ca) xs) (had : Dg b64 xs) (hb : CutS w (.slice Ab nb cb) ys) (hbd : Dg b64 ys) (hal : na ≤ 1048576) (hbl : nb ≤ 1048576) (o1 o2 : Bool) : Calls Tryz.prog 3 #[.int .i64 c, .slice Aa na ca, .slice Ab nb cb, .bool o1, .bool o2] w fun e w' => RetV w (.bool true) e w' := by
 have HC := hid hc
 have hmx : Tryz.prog.follows .mixedOrders = true := by kernel_rfl
 have HAD := hid had
 have HBD := hid hbd
 have HAL := hid (And.intro hal hbl)
 have HB := hid (Below.refl w.heap.size w)
 have Hxs := hid ha
 have Hys := hid hb
 clear hc had hbd ha hb hal hbl
 go_enter Tryz.func3, Tryz.ntmps3
 go_wp2_with fail
 refine (begun9_any w).mono ?_
 rintro e w1 ⟨rfl, hb⟩
 replace Hxs := hid (Hxs.out.later hb)
 replace Hys := hid (Hys.out.later hb)
 replace HB := hid (HB.out.trans (hb.mono HB.out.size))
 clear hb
 go_wp2_with fail
 refine (pt9_none w1 c HC.out _ _ _ o1).mono ?_
 rintro e w2 ⟨rfl, hb⟩
 replace Hxs := hid (Hxs.out.later hb)
 replace Hys := hid (Hys.out.later hb)
 replace HB := hid (HB.out.trans (hb.mono HB.out.size))
 clear hb
 go_wp2_with fail
 refine (pt9_none w2 c HC.out _ _ _ o2).mono ?_
 rintro e w3 ⟨rfl, hb⟩
 replace Hxs := hid (Hxs.out.later hb)
 replace Hys := hid (Hys.out.later hb)
 replace HB := hid (HB.out.trans (hb.mono HB.out.size))
 clear hb
 obtain ⟨W4, e4, r4, b4, s4⟩ := newS w3 26 [.bool false, .slice none 0 0, .slice none 0 0] _ rfl
 obtain ⟨gp, hqp⟩ : ∃ x, w3.heap.size = x := ⟨_, rfl⟩
 rw [hqp] at r4
 have HLp := hid (show w.heap.size ≤ gp by have := HB.out.size; omega)
 have HNp := hid (NoU.of_row r4 (noU3 nofun nofun nofun))
 replace Hxs := hid (Hxs.out.later b4)
 replace Hys := hid (Hys.out.later b4)
 replace HB := hid (HB.out.trans (b4.mono HB.out.size))
 have b4x := b4
 clear b4
 obtain ⟨W5, e5, r5, b5, s5⟩ := newS W4 26 [.bool false, .slice none 0 0, .slice none 0 0] _ rfl
 obtain ⟨gq, hqq⟩ : ∃ x, W4.heap.size = x := ⟨_, rfl⟩
 rw [hqq] at r5
 have HLq := hid (show w.heap.size ≤ gq by have := HB.out.size; omega)
 have HNEpq := hid (show gp ≠ gq by omega)
 have HNq := hid (NoU.of_row r5 (noU3 nofun nofun nofun))
 replace Hxs := hid (Hxs.out.later b5)
 replace Hys := hid (Hys.out.later b5)
 replace HB := hid (HB.out.trans (b5.mono HB.out.size))
 have r4q := r4.later b5
 clear b5 s4 s5
 clear b4x r4
 go_wp2_with (first | ((with_reducible show wpList _ _ _ (⟨none, _, _, _, _, _⟩ :: _) _ _); refine wlS_store rfl 26 3 Tryz.sizePt _ _ rfl gp [.bool false, .slice Aa na ca, .slice Aa na ca] rfl rfl 26 _ r4q rfl rfl (ones3 rfl rfl rfl) ?_; intro wa hra hga hza) | ((with_reducible show wpList _ _ _ (⟨none, _, _, _, _, _⟩ :: _) _ _); refine wlS_store rfl 26 3 Tryz.sizePt _ _ rfl gq [.bool false, .slice Ab nb cb, .slice Ab nb cb] rfl rfl 26 _ (r5.grown hga (Ne.symm HNEpq.out)) rfl rfl (ones3 rfl rfl rfl) ?_; intro wb hrb hgb hzb))
 have hsa : Sb W5 wa := ⟨gp, NoU.of_row r4q (noU3 nofun nofun nofun), hga⟩
 have hsb : Sb wa wb := ⟨gq, NoU.of_row (r5.grown hga (Ne.symm HNEpq.out)) (noU3 nofun nofun nofun), hgb⟩
 replace Hxs := hid ((Hxs.out.sb hsa).sb hsb)
 replace Hys := hid ((Hys.out.sb hsa).sb hsb)
 have hba := below_grown HB.out hga HLp.out HB.out.size
 replace HB := hid (below_grown hba hgb HLq.out hba.size)
 have RWp := hid (hra.grown hgb HNEpq.out)
 have RWq := hid hrb
 clear hsa hsb hba hra hrb hga hgb hza hzb r4q r5 e4 e5 hqp hqq HNp HNq
 refine (rOf9_no wb c HC.out).mono ?_
 rintro e w6 ⟨rfl, hb⟩
 replace Hxs := hid (Hxs.out.later hb)
 replace Hys := hid (Hys.out.later hb)
 replace RWp := hid (RWp.out.later hb)
 replace RWq := hid (RWq.out.later hb)
 replace HB := hid (HB.out.trans (hb.mono HB.out.size))
 clear hb
 obtain ⟨W7, e7, r7, b7, s7⟩ := newS w6 30 [.slice none 0 0, .slice none 0 0, .slice none 0 0, .slice none 0 0, .slice none 0 0, .int .i64 0] _ rfl
 obtain ⟨gx, hqx⟩ : ∃ x, w6.heap.size = x := ⟨_, rfl⟩
 rw [hqx] at r7
 have HLx := hid (show w.heap.size ≤ gx by have := HB.out.size; omega)
 have HNEpx := hid (show gp ≠ gx by have := RWp.out.lt; omega)
 have HNEqx := hid (show gq ≠ gx by have := RWq.out.lt; omega)
 have HNx := hid (NoU.of_row r7 (noU6 nofun nofun nofun nofun nofun))
 replace Hxs := hid (Hxs.out.later b7)
 replace Hys := hid (Hys.out.later b7)
 replace RWp := hid (RWp.out.later b7)
 replace RWq := hid (RWq.out.later b7)
 replace HB := hid (HB.out.trans (b7.mono HB.out.size))
 clear b7 s7
 go_wp2_with ((with_reducible show wpList _ _ _ (⟨none, _, _, _, _, _⟩ :: _) _ _); refine wlS_store rfl 30 6 Tryz.sizeCr _ _ rfl gx [.slice none 0 0, .slice none 0 0, .slice none 0 0, .slice none 0 0, .slice none 0 0, .int .i64 0] rfl rfl 30 _ r7 rfl rfl (ones6 rfl rfl rfl rfl rfl rfl) ?_; intro w7 hrx hgx hzx)
 have hsb : Sb W7 w7 := ⟨gx, HNx.out, hgx⟩
 replace Hxs := hid (Hxs.out.sb hsb)
 replace Hys := hid (Hys.out.sb hsb)
 replace RWp := hid (RWp.out.grown hgx HNEpx.out)
 replace RWq := hid (RWq.out.grown hgx HNEqx.out)
 replace HB := hid (below_grown HB.out hgx HLx.out HB.out.size)
 have RWx := hid hrx
 clear hsb hrx hgx hzx e7 r7 hqx HNx
 refine (wpIn_wide (n := 9)).1 (wpIn_region_numS rfl hmx (fun _ => trivial) [(32, .val (.agg #[.bool false, .slice Aa na ca, .slice Aa na ca])), (33, (.r3 .any .any)), (34, .val (.agg #[.bool false, .slice Ab nb cb, .slice Ab nb cb])), (35, (.r3 .any .any)), (15, .any), (16, .any)] (by kernel_rfl) (by kernel_rfl) (by kernel_rfl) (by kernel_rfl) (by rfl) [⟨4, 6, 1, 15, 33, 33, 3, [.bool false, .slice none 0 0, .slice none 0 0]⟩, ⟨5, 7, 3, 16, 35, 33, 3, [.bool false, .slice none 0 0, .slice none 0 0]⟩] ?has4 ?hpw4 ?hops4 ?hend4)
 case has4 =>
  intro A hA
  simp only [List.mem_cons, List.not_mem_nil, or_false] at hA
  rcases hA with rfl | rfl
  ·exact ⟨⟨⟨_, rfl, rfl, rfl⟩, ⟨_, rfl, rfl, rfl⟩, ⟨_, rfl, rfl⟩, by decide, Tryz.sizeRp, rfl, noU3 nofun nofun nofun, (fun ev o V h => by simp [execOp, h, go_sem]), (fun v V => trivial), fun v V h => Spc.r3_form v V h⟩, by rfl, by rfl⟩
  ·exact ⟨⟨⟨_, rfl, rfl, rfl⟩, ⟨_, rfl, rfl, rfl⟩, ⟨_, rfl, rfl⟩, by decide, Tryz.sizeRp, rfl, noU3 nofun nofun nofun, (fun ev o V h => by simp [execOp, h, go_sem]), (fun v V => trivial), fun v V h => Spc.r3_form v V h⟩, by rfl, by rfl⟩
 case hpw4 =>
  intro A hA A' hA'
  simp only [List.mem_cons, List.not_mem_nil, or_false] at hA hA'
  rcases hA with rfl | rfl <;> rcases hA' with rfl | rfl <;> simp
 case hops4 =>
  intro i o a' V hno hB ho hev hrd
  have n4 := hno _ (.head _)
  have n5 := hno _ (.tail _ (.head _))
  simp only at n4 n5
  have his : i < 8 := by have := (Array.getElem?_eq_some_iff.1 ho).1; simpa using this
  have rp := RWp.out.later hB
  have rq := RWq.out.later hB
  obtain ⟨A1, n1, c1, e1, hs1⟩ := Hxs.out.later hB
  cases e1
  obtain ⟨A2, n2, c2, e2, hs2⟩ := Hys.out.later hB
  cases e2
  have hcase : i = 0 ∨ i = 1 ∨ i = 2 ∨ i = 3 ∨ i = 4 ∨ i = 5 ∨ i = 6 ∨ i = 7 := by omega
  rcases hcase with rfl | rfl | rfl | rfl | rfl | rfl | rfl | rfl
  ·simp at ho
   subst ho
   have r12 := hev 12 rfl
   simp [Act.eval] at r12
   try simp [Act.put] at r12
   refine ⟨nofun, fun _ _ => trivial, nofun, .inl ⟨.agg #[.bool false, .slice Aa na ca, .slice Aa na ca], V, exec_load 26 3 _ Tryz.underlying26 rfl Tryz.sizePt _ rfl gp [.bool false, .slice Aa na ca, .slice Aa na ca] (by simpa [Act.eval] using r12) 26 rp rfl, Below.refl _ _, fun t ht => by cases ht; rfl⟩⟩
  ·simp at ho
   subst ho
   have r32 : a'.eval (.tmp 32) = .agg #[.bool false, .slice Aa na ca, .slice Aa na ca] := hrd 32 rfl rfl
   simp [Act.eval] at r32
   refine ⟨nofun, fun _ _ => trivial, nofun, .inr ⟨11, #[.agg #[.bool false, .slice Aa na ca, .slice Aa na ca]], ?_, (callsIn_wide.2 (rFrom9_gen V _ _ .any .any (.any hs1 HAD.out (by have := HAL.out; omega)) (.any hs1 HAD.out (by have := HAL.out; omega)))).mono ?_⟩⟩
   ·simp [execOp, Act.eval, r32, resolve, invoke, Deferred.ofValue]
   ·rintro e w' ⟨v, rfl, hv, hB2⟩
    exact ⟨_, rfl, hB2, fun t ht => by cases ht; exact hv⟩
  ·simp at ho
   subst ho
   have r13 := hev 13 rfl
   simp [Act.eval] at r13
   try simp [Act.put] at r13
   refine ⟨nofun, fun _ _ => trivial, nofun, .inl ⟨.agg #[.bool false, .slice Ab nb cb, .slice Ab nb cb], V, exec_load 26 3 _ Tryz.underlying26 rfl Tryz.sizePt _ rfl gq [.bool false, .slice Ab nb cb, .slice Ab nb cb] (by simpa [Act.eval] using r13) 26 rq rfl, Below.refl _ _, fun t ht => by cases ht; rfl⟩⟩
  ·simp at ho
   subst ho
   have r34 : a'.eval (.tmp 34) = .agg #[.bool false, .slice Ab nb cb, .slice Ab nb cb] := hrd 34 rfl rfl
   simp [Act.eval] at r34
   refine ⟨nofun, fun _ _ => trivial, nofun, .inr ⟨11, #[.agg #[.bool false, .slice Ab nb cb, .slice Ab nb cb]], ?_, (callsIn_wide.2 (rFrom9_gen V _ _ .any .any (.any hs2 HBD.out (by have := HAL.out; omega)) (.any hs2 HBD.out (by have := HAL.out; omega)))).mono ?_⟩⟩
   ·simp [execOp, Act.eval, r34, resolve, invoke, Deferred.ofValue]
   ·rintro e w' ⟨v, rfl, hv, hB2⟩
    exact ⟨_, rfl, hB2, fun t ht => by cases ht; exact hv⟩
  ·simp at ho
   subst ho
   first | exact absurd rfl n4.1 | exact absurd rfl n5.1
  ·simp at ho
   subst ho
   first | exact absurd rfl n4.1 | exact absurd rfl n5.1
  ·simp at ho
   subst ho
   first | exact absurd rfl n4.2 | exact absurd rfl n5.2
  ·simp at ho
   subst ho
   first | exact absurd rfl n4.2 | exact absurd rfl n5.2
 case hend4 =>
  intro vals4 V4 hb hP4 hrow4 hne4
  obtain ⟨a1, a2, eu, ⟨-, Au, nu, cu, rfl⟩, -, Bu, mu, du, rfl⟩ : (Spc.r3 .any .any).P (vals4 1) V4 := hP4 1 33 _ rfl rfl
  obtain ⟨a3, a4, ev, ⟨-, Av, nv, cv, rfl⟩, -, Bv, mv, dv, rfl⟩ : (Spc.r3 .any .any).P (vals4 3) V4 := hP4 3 35 _ rfl rfl
  obtain ⟨gu, vu, eg1, hgu, hru, ec1⟩ := hrow4 _ (.head _)
  obtain ⟨gv, vv, eg2, hgv, hrv, ec2⟩ := hrow4 _ (.tail _ (.head _))
  have hnuv := hne4 _ (.head _) _ (.tail _ (.head _)) (by decide)
  simp only at eg1 eg2 ec1 ec2 hgu hgv hru hrv hnuv
  obtain rfl := agg3 (ec1.symm.trans eu)
  obtain rfl := agg3 (ec2.symm.trans ev)
  have HNEuv := hid (show gu ≠ gv by rintro rfl; exact hnuv (eg1.trans eg2.symm))
  have HNEpu := hid (show gp ≠ gu by have := RWp.out.lt; omega)
  have HNEpv := hid (show gp ≠ gv by have := RWp.out.lt; omega)
  have HNEqu := hid (show gq ≠ gu by have := RWq.out.lt; omega)
  have HNEqv := hid (show gq ≠ gv by have := RWq.out.lt; omega)
  have HNExu := hid (show gx ≠ gu by have := RWx.out.lt; omega)
  have HNExv := hid (show gx ≠ gv by have := RWx.out.lt; omega)
  replace Hxs := hid (Hxs.out.later hb)
  replace Hys := hid (Hys.out.later hb)
  replace RWp := hid (RWp.out.later hb)
  replace RWq := hid (RWq.out.later hb)
  replace RWx := hid (RWx.out.later hb)
  have HLu := hid (show w.heap.size ≤ gu by have := HB.out.size; omega)
  have HLv := hid (show w.heap.size ≤ gv by have := HB.out.size; omega)
  replace HB := hid (HB.out.trans (hb.mono HB.out.size))
  have RWu := hid hru
  have RWv := hid hrv
  clear hP4 hrow4 hne4 hru hrv hnuv ec1 ec2 hgu hgv hb
  simp [wrote, Act.put]
  rw [eg1, eg2]
  clear eg1 eg2 eu ev
  have p0 := RWp.out.at_ (i := 0) rfl
  have p1 := RWp.out.at_ (i := 1) rfl
  have p2 := RWp.out.at_ (i := 2) rfl
  have q0 := RWq.out.at_ (i := 0) rfl
  have q1 := RWq.out.at_ (i := 1) rfl
  have q2 := RWq.out.at_ (i := 2) rfl
  go_wp2_with fail
  refine (cAdd_none V4 c HC.out _ _ ⟨_, _, _, rfl, rfl, rfl, rfl⟩ ⟨_, _, _, rfl, rfl, rfl, rfl⟩).mono ?_
  rintro e w8 ⟨rfl, hb⟩
  replace Hxs := hid (Hxs.out.later hb)
  replace Hys := hid (Hys.out.later hb)
  replace RWp := hid (RWp.out.later hb)
  replace RWq := hid (RWq.out.later hb)
  replace RWx := hid (RWx.out.later hb)
  replace RWu := hid (RWu.out.later hb)
  replace RWv := hid (RWv.out.later hb)
  replace HB := hid (HB.out.trans (hb.mono HB.out.size))
  clear hb p0 p1 p2 q0 q1 q2
  obtain ⟨W9, e9, r9, b9, s9⟩ := newS w8 26 [.bool false, .slice none 0 0, .slice none 0 0] _ rfl
  obtain ⟨gs, hqs⟩ : ∃ x, w8.heap.size = x := ⟨_, rfl⟩
  rw [hqs] at r9
  have HLs := hid (show w.heap.size ≤ gs by have := HB.out.size; omega)
  have HNEps := hid (show gp ≠ gs by have := RWp.out.lt; omega)
  have HNEqs := hid (show gq ≠ gs by have := RWq.out.lt; omega)
  have HNExs := hid (show gx ≠ gs by have := RWx.out.lt; omega)
  have HNEus := hid (show gu ≠ gs by have := RWu.out.lt; omega)
  have HNEvs := hid (show gv ≠ gs by have := RWv.out.lt; omega)
  have HNs := hid (NoU.of_row r9 (noU3 nofun nofun nofun))
  replace Hxs := hid (Hxs.out.later b9)
  replace Hys := hid (Hys.out.later b9)
  replace RWp := hid (RWp.out.later b9)
  replace RWq := hid (RWq.out.later b9)
  replace RWx := hid (RWx.out.later b9)
  replace RWu := hid (RWu.out.later b9)
  replace RWv := hid (RWv.out.later b9)
  replace HB := hid (HB.out.trans (b9.mono HB.out.size))
  clear b9 s9
  go_wp2_with ((with_reducible show wpList _ _ _ (⟨none, _, _, _, _, _⟩ :: _) _ _); refine wlS_store rfl 26 3 Tryz.sizePt _ _ rfl gs [.bool true, .slice none 0 0, .slice none 0 0] rfl rfl 26 _ r9 rfl rfl (ones3 rfl rfl rfl) ?_; intro w9 hrs hgs hzs; have p0 := (RWp.out.grown hgs HNEps.out).at_ (i := 0) rfl; have p1 := (RWp.out.grown hgs HNEps.out).at_ (i := 1) rfl; have p2 := (RWp.out.grown hgs HNEps.out).at_ (i := 2) rfl)
  have hsb : Sb W9 w9 := ⟨gs, HNs.out, hgs⟩
  replace Hxs := hid (Hxs.out.sb hsb)
  replace Hys := hid (Hys.out.sb hsb)
  replace RWp := hid (RWp.out.grown hgs HNEps.out)
  replace RWq := hid (RWq.out.grown hgs HNEqs.out)
  replace RWx := hid (RWx.out.grown hgs HNExs.out)
  replace RWu := hid (RWu.out.grown hgs HNEus.out)
  replace RWv := hid (RWv.out.grown hgs HNEvs.out)
  replace HB := hid (below_grown HB.out hgs HLs.out HB.out.size)
  have RWs := hid hrs
  clear hsb hrs hgs hzs e9 r9 hqs HNs p0 p1 p2
  refine (cNeg_none w9 c HC.out _ ⟨_, _, _, rfl, rfl, rfl, rfl⟩).mono ?_
  rintro e w10 ⟨rfl, hb⟩
  replace Hxs := hid (Hxs.out.later hb)
  replace Hys := hid (Hys.out.later hb)
  replace RWp := hid (RWp.out.later hb)
  replace RWq := hid (RWq.out.later hb)
  replace RWx := hid (RWx.out.later hb)
  replace RWu := hid (RWu.out.later hb)
  replace RWv := hid (RWv.out.later hb)
  replace RWs := hid (RWs.out.later hb)
  replace HB := hid (HB.out.trans (hb.mono HB.out.size))
  clear hb
  obtain ⟨W11, e11, r11, b11, s11⟩ := newS w10 26 [.bool false, .slice none 0 0, .slice none 0 0] _ rfl
  obtain ⟨gn, hqn⟩ : ∃ x, w10.heap.size = x := ⟨_, rfl⟩
  rw [hqn] at r11
  have HLn := hid (show w.heap.size ≤ gn by have := HB.out.size; omega)
  have HNEpn := hid (show gp ≠ gn by have := RWp.out.lt; omega)
  have HNEqn := hid (show gq ≠ gn by have := RWq.out.lt; omega)
  have HNExn := hid (show gx ≠ gn by have := RWx.out.lt; omega)
  have HNEun := hid (show gu ≠ gn by have := RWu.out.lt; omega)
  have HNEvn := hid (show gv ≠ gn by have := RWv.out.lt; omega)
  have HNEsn := hid (show gs ≠ gn by have := RWs.out.lt; omega)
  have HNn := hid (NoU.of_row r11 (noU3 nofun nofun nofun))
  replace Hxs := hid (Hxs.out.later b11)
  replace Hys := hid (Hys.out.later b11)
  replace RWp := hid (RWp.out.later b11)
  replace RWq := hid (RWq.out.later b11)
  replace RWx := hid (RWx.out.later b11)
  replace RWu := hid (RWu.out.later b11)
  replace RWv := hid (RWv.out.later b11)
  replace RWs := hid (RWs.out.later b11)
  replace HB := hid (HB.out.trans (b11.mono HB.out.size))
  clear b11 s11
  go_wp2_with ((with_reducible show wpList _ _ _ (⟨none, _, _, _, _, _⟩ :: _) _ _); refine wlS_store rfl 26 3 Tryz.sizePt _ _ rfl gn [.bool true, .slice none 0 0, .slice none 0 0] rfl rfl 26 _ r11 rfl rfl (ones3 rfl rfl rfl) ?_; intro w11 hrn hgn hzn)
  have hsb : Sb W11 w11 := ⟨gn, HNn.out, hgn⟩
  replace Hxs := hid (Hxs.out.sb hsb)
  replace Hys := hid (Hys.out.sb hsb)
  replace RWp := hid (RWp.out.grown hgn HNEpn.out)
  replace RWq := hid (RWq.out.grown hgn HNEqn.out)
  replace RWx := hid (RWx.out.grown hgn HNExn.out)
  replace RWu := hid (RWu.out.grown hgn HNEun.out)
  replace RWv := hid (RWv.out.grown hgn HNEvn.out)
  replace RWs := hid (RWs.out.grown hgn HNEsn.out)
  replace HB := hid (below_grown HB.out hgn HLn.out HB.out.size)
  have RWn := hid hrn
  clear hsb hrn hgn hzn e11 r11 hqn HNn
  refine (wpIn_wide (n := 9)).1 (wpIn_region_numG rfl hmx [(49, .val (.int .i64 c)), (50, .val (.agg #[.bool false, .slice Aa na ca, .slice Aa na ca])), (51, .val (.bool false)), (52, .val (.agg #[.slice none 0 0, .slice none 0 0, .slice none 0 0, .slice none 0 0, .slice none 0 0, .int .i64 0])), (53, .val (.agg #[.bool false, .slice Au nu cu, .slice Bu mu du])), (54, .val (.bool false)), (55, .val (.bool false)), (56, .val (.bool false)), (57, .val (.int .i64 c)), (58, .val (.agg #[.bool false, .slice Ab nb cb, .slice Ab nb cb])), (59, .val (.bool false)), (60, .val (.agg #[.slice none 0 0, .slice none 0 0, .slice none 0 0, .slice none 0 0, .slice none 0 0, .int .i64 0])), (61, .val (.agg #[.bool false, .slice Av nv cv, .slice Bv mv dv])), (62, .val (.bool false)), (63, .val (.bool false)), (64, .val (.bool false))] [(56, false)] (by kernel_rfl) (by kernel_rfl) (by kernel_rfl) (by kernel_rfl) (by rfl) (by kernel_rfl) (by rfl) ?hgv7 ?hops7 ?hend7)
  case hgv7 =>
   intro p hp v V h
   simp only [List.mem_cons, List.not_mem_nil, or_false] at hp
   rcases hp with rfl
   all_goals exact h
  case hops7 =>
   intro i o a' V hB ho hev hrd
   have his : i < 16 := by have := (Array.getElem?_eq_some_iff.1 ho).1; simpa using this
   have rp := RWp.out.later hB
   have rq := RWq.out.later hB
   have rx := RWx.out.later hB
   have ru := RWu.out.later hB
   have rv := RWv.out.later hB
   have hcase : i = 0 ∨ i = 1 ∨ i = 2 ∨ i = 3 ∨ i = 4 ∨ i = 5 ∨ i = 6 ∨ i = 7 ∨ i = 8 ∨ i = 9 ∨ i = 10 ∨ i = 11 ∨ i = 12 ∨ i = 13 ∨ i = 14 ∨ i = 15 := by omega
   rcases hcase with rfl | rfl | rfl | rfl | rfl | rfl | rfl | rfl | rfl | rfl | rfl | rfl | rfl | rfl | rfl | rfl
   ·simp at ho
    subst ho
    have r0 := hev 0 rfl
    simp [Act.eval] at r0
    refine ⟨nofun, fun _ _ => trivial, nofun, .inl ⟨.int .i64 c, V, ?_, Below.refl _ _, fun t ht => by cases ht; rfl⟩⟩
    simp [execOp, Act.eval, go_sem, r0]
   ·simp at ho
    subst ho
    have r12 := hev 12 rfl
    simp [Act.eval] at r12
    try simp [Act.put] at r12
    refine ⟨nofun, fun _ _ => trivial, nofun, .inl ⟨.agg #[.bool false, .slice Aa na ca, .slice Aa na ca], V, exec_load 26 3 _ Tryz.underlying26 rfl Tryz.sizePt _ rfl gp [.bool false, .slice Aa na ca, .slice Aa na ca] (by simpa [Act.eval] using r12) 26 rp rfl, Below.refl _ _, fun t ht => by cases ht; rfl⟩⟩
   ·simp at ho
    subst ho
    have r49 : a'.eval (.tmp 49) = .int .i64 c := hrd 49 rfl rfl
    simp [Act.eval] at r49
    have r50 : a'.eval (.tmp 50) = .agg #[.bool false, .slice Aa na ca, .slice Aa na ca] := hrd 50 rfl rfl
    simp [Act.eval] at r50
    refine ⟨nofun, fun _ _ => trivial, nofun, .inr ⟨14, #[.int .i64 c, .agg #[.bool false, .slice Aa na ca, .slice Aa na ca]], ?_, (callsIn_wide.2 (cOn_no V c HC.out _ ⟨_, _, _, rfl, rfl, rfl, rfl⟩)).mono ?_⟩⟩
    ·simp [execOp, Act.eval, r49, r50, resolve, invoke, Deferred.ofValue]
    ·rintro e w' ⟨rfl, hB2⟩
     have hv : Value.bool false = Value.bool false := rfl
     exact ⟨_, rfl, hB2, fun t ht => by cases ht; exact hv⟩
   ·simp at ho
    subst ho
    have r14 := hev 14 rfl
    simp [Act.eval] at r14
    try simp [Act.put] at r14
    refine ⟨nofun, fun _ _ => trivial, nofun, .inl ⟨.agg #[.slice none 0 0, .slice none 0 0, .slice none 0 0, .slice none 0 0, .slice none 0 0, .int .i64 0], V, exec_load 30 6 _ Tryz.underlying30 rfl Tryz.sizeCr _ rfl gx [.slice none 0 0, .slice none 0 0, .slice none 0 0, .slice none 0 0, .slice none 0 0, .int .i64 0] (by simpa [Act.eval] using r14) 30 rx rfl, Below.refl _ _, fun t ht => by cases ht; rfl⟩⟩
   ·simp at ho
    subst ho
    have r15 := hev 15 rfl
    simp [Act.eval] at r15
    try simp [Act.put] at r15
    refine ⟨nofun, fun _ _ => trivial, nofun, .inl ⟨.agg #[.bool false, .slice Au nu cu, .slice Bu mu du], V, exec_load 33 3 _ Tryz.underlying33 rfl Tryz.sizeRp _ rfl gu [.bool false, .slice Au nu cu, .slice Bu mu du] (by simpa [Act.eval] using r15) 33 ru rfl, Below.refl _ _, fun t ht => by cases ht; rfl⟩⟩
   ·simp at ho
    subst ho
    have r52 : a'.eval (.tmp 52) = .agg #[.slice none 0 0, .slice none 0 0, .slice none 0 0, .slice none 0 0, .slice none 0 0, .int .i64 0] := hrd 52 rfl rfl
    simp [Act.eval] at r52
    have r53 : a'.eval (.tmp 53) = .agg #[.bool false, .slice Au nu cu, .slice Bu mu du] := hrd 53 rfl rfl
    simp [Act.eval] at r53
    refine ⟨nofun, fun _ _ => trivial, nofun, .inr ⟨15, #[.agg #[.slice none 0 0, .slice none 0 0, .slice none 0 0, .slice none 0 0, .slice none 0 0, .int .i64 0], .agg #[.bool false, .slice Au nu cu, .slice Bu mu du]], ?_, (callsIn_wide.2 (rOn9_zero V _ _ _ _ _ _ _ _)).mono ?_⟩⟩
    ·simp [execOp, Act.eval, r52, r53, resolve, invoke, Deferred.ofValue]
    ·rintro e w' ⟨rfl, hB2⟩
     have hv : Value.bool false = Value.bool false := rfl
     exact ⟨_, rfl, hB2, fun t ht => by cases ht; exact hv⟩
   ·simp at ho
    subst ho
    have r51 : a'.eval (.tmp 51) = .bool false := hrd 51 rfl rfl
    simp [Act.eval] at r51
    have r54 : a'.eval (.tmp 54) = .bool false := hrd 54 rfl rfl
    simp [Act.eval] at r54
    refine ⟨nofun, fun _ _ => trivial, nofun, .inl ⟨.bool false, V, ?_, Below.refl _ _, fun t ht => by cases ht; rfl⟩⟩
    simp [execOp, Act.eval, go_sem, r51, r54]
   ·simp at ho
    subst ho
    have r55 : a'.eval (.tmp 55) = .bool false := hrd 55 rfl rfl
    simp [Act.eval] at r55
    refine ⟨nofun, fun _ _ => trivial, nofun, .inl ⟨.bool false, V, ?_, Below.refl _ _, fun t ht => by cases ht; rfl⟩⟩
    simp [execOp, Act.eval, go_sem, r55]
   ·simp at ho
    subst ho
    have r0 := hev 0 rfl
    simp [Act.eval] at r0
    refine ⟨nofun, fun _ _ => trivial, nofun, .inl ⟨.int .i64 c, V, ?_, Below.refl _ _, fun t ht => by cases ht; rfl⟩⟩
    simp [execOp, Act.eval, go_sem, r0]
   ·simp at ho
    subst ho
    have r13 := hev 13 rfl
    simp [Act.eval] at r13
    try simp [Act.put] at r13
    refine ⟨nofun, fun _ _ => trivial, nofun, .inl ⟨.agg #[.bool false, .slice Ab nb cb, .slice Ab nb cb], V, exec_load 26 3 _ Tryz.underlying26 rfl Tryz.sizePt _ rfl gq [.bool false, .slice Ab nb cb, .slice Ab nb cb] (by simpa [Act.eval] using r13) 26 rq rfl, Below.refl _ _, fun t ht => by cases ht; rfl⟩⟩
   ·simp at ho
    subst ho
    have r57 : a'.eval (.tmp 57) = .int .i64 c := hrd 57 rfl rfl
    simp [Act.eval] at r57
    have r58 : a'.eval (.tmp 58) = .agg #[.bool false, .slice Ab nb cb, .slice Ab nb cb] := hrd 58 rfl rfl
    simp [Act.eval] at r58
    refine ⟨nofun, fun _ _ => trivial, nofun, .inr ⟨14, #[.int .i64 c, .agg #[.bool false, .slice Ab nb cb, .slice Ab nb cb]], ?_, (callsIn_wide.2 (cOn_no V c HC.out _ ⟨_, _, _, rfl, rfl, rfl, rfl⟩)).mono ?_⟩⟩
    ·simp [execOp, Act.eval, r57, r58, resolve, invoke, Deferred.ofValue]
    ·rintro e w' ⟨rfl, hB2⟩
     have hv : Value.bool false = Value.bool false := rfl
     exact ⟨_, rfl, hB2, fun t ht => by cases ht; exact hv⟩
   ·simp at ho
    subst ho
    have r14 := hev 14 rfl
    simp [Act.eval] at r14
    try simp [Act.put] at r14
    refine ⟨nofun, fun _ _ => trivial, nofun, .inl ⟨.agg #[.slice none 0 0, .slice none 0 0, .slice none 0 0, .slice none 0 0, .slice none 0 0, .int .i64 0], V, exec_load 30 6 _ Tryz.underlying30 rfl Tryz.sizeCr _ rfl gx [.slice none 0 0, .slice none 0 0, .slice none 0 0, .slice none 0 0, .slice none 0 0, .int .i64 0] (by simpa [Act.eval] using r14) 30 rx rfl, Below.refl _ _, fun t ht => by cases ht; rfl⟩⟩
   ·simp at ho
    subst ho
    have r16 := hev 16 rfl
    simp [Act.eval] at r16
    try simp [Act.put] at r16
    refine ⟨nofun, fun _ _ => trivial, nofun, .inl ⟨.agg #[.bool false, .slice Av nv cv, .slice Bv mv dv], V, exec_load 33 3 _ Tryz.underlying33 rfl Tryz.sizeRp _ rfl gv [.bool false, .slice Av nv cv, .slice Bv mv dv] (by simpa [Act.eval] using r16) 33 rv rfl, Below.refl _ _, fun t ht => by cases ht; rfl⟩⟩
   ·simp at ho
    subst ho
    have r60 : a'.eval (.tmp 60) = .agg #[.slice none 0 0, .slice none 0 0, .slice none 0 0, .slice none 0 0, .slice none 0 0, .int .i64 0] := hrd 60 rfl rfl
    simp [Act.eval] at r60
    have r61 : a'.eval (.tmp 61) = .agg #[.bool false, .slice Av nv cv, .slice Bv mv dv] := hrd 61 rfl rfl
    simp [Act.eval] at r61
    refine ⟨nofun, fun _ _ => trivial, nofun, .inr ⟨15, #[.agg #[.slice none 0 0, .slice none 0 0, .slice none 0 0, .slice none 0 0, .slice none 0 0, .int .i64 0], .agg #[.bool false, .slice Av nv cv, .slice Bv mv dv]], ?_, (callsIn_wide.2 (rOn9_zero V _ _ _ _ _ _ _ _)).mono ?_⟩⟩
    ·simp [execOp, Act.eval, r60, r61, resolve, invoke, Deferred.ofValue]
    ·rintro e w' ⟨rfl, hB2⟩
     have hv : Value.bool false = Value.bool false := rfl
     exact ⟨_, rfl, hB2, fun t ht => by cases ht; exact hv⟩
   ·simp at ho
    subst ho
    have r59 : a'.eval (.tmp 59) = .bool false := hrd 59 rfl rfl
    simp [Act.eval] at r59
    have r62 : a'.eval (.tmp 62) = .bool false := hrd 62 rfl rfl
    simp [Act.eval] at r62
    refine ⟨nofun, fun _ _ => trivial, nofun, .inl ⟨.bool false, V, ?_, Below.refl _ _, fun t ht => by cases ht; rfl⟩⟩
    simp [execOp, Act.eval, go_sem, r59, r62]
   ·simp at ho
    subst ho
    have r56 : a'.eval (.tmp 56) = .bool false := hrd 56 rfl rfl
    simp [Act.eval] at r56
    have r63 : a'.eval (.tmp 63) = .bool false := hrd 63 rfl rfl
    simp [Act.eval] at r63
    refine ⟨nofun, fun _ _ => trivial, nofun, .inl ⟨.bool false, V, ?_, Below.refl _ _, fun t ht => by cases ht; rfl⟩⟩
    simp [execOp, Act.eval, go_sem, r56, r63]
  case hend7 =>
   intro vals7 V7 hb hP7
   have hz : vals7 15 = .bool false := hP7 15 64 _ rfl rfl
   replace Hxs := hid (Hxs.out.later hb)
   replace Hys := hid (Hys.out.later hb)
   replace RWp := hid (RWp.out.later hb)
   replace RWq := hid (RWq.out.later hb)
   replace RWx := hid (RWx.out.later hb)
   replace RWu := hid (RWu.out.later hb)
   replace RWv := hid (RWv.out.later hb)
   replace RWs := hid (RWs.out.later hb)
   replace RWn := hid (RWn.out.later hb)
   replace HB := hid (HB.out.trans (hb.mono HB.out.size))
   clear hb hP7
   simp [wrote, Act.put]
   rw [hz]
   have x0 := RWx.out.at_ (i := 0) rfl
   have x1 := RWx.out.at_ (i := 1) rfl
   have x2 := RWx.out.at_ (i := 2) rfl
   have x3 := RWx.out.at_ (i := 3) rfl
   have x4 := RWx.out.at_ (i := 4) rfl
   have x5 := RWx.out.at_ (i := 5) rfl
   have u0 := RWu.out.at_ (i := 0) rfl
   have u1 := RWu.out.at_ (i := 1) rfl
   have u2 := RWu.out.at_ (i := 2) rfl
   go_wp2_with fail
   refine (rOn9_zero V7 _ _ _ _ _ _ _ _).mono ?_
   rintro e w12 ⟨rfl, hb⟩
   replace Hxs := hid (Hxs.out.later hb)
   replace Hys := hid (Hys.out.later hb)
   replace RWp := hid (RWp.out.later hb)
   replace RWq := hid (RWq.out.later hb)
   replace RWx := hid (RWx.out.later hb)
   replace RWu := hid (RWu.out.later hb)
   replace RWv := hid (RWv.out.later hb)
   replace RWs := hid (RWs.out.later hb)
   replace RWn := hid (RWn.out.later hb)
   replace HB := hid (HB.out.trans (hb.mono HB.out.size))
   clear hb x0 x1 x2 x3 x4 x5 u0 u1 u2
   have s0 := RWs.out.at_ (i := 0) rfl
   have n0 := RWn.out.at_ (i := 0) rfl
   go_wp2
   go_ret
   exact ⟨rfl, HB.out⟩
theorem add9_yes (w : World) (c : Int) (D : Crv) (hc : crvOf c = some D) (Aa Ab : Option Addr) (na ca nb cb : Nat) (xs ys : List Nat) (ha : CutS w (.slice Aa na ca) xs) (had : Dg b64 xs) (hb : CutS w (.slice Ab nb cb) ys) (hbd : Dg b64 ys) (hal : na ≤ 1048576) (hbl : nb ≤ 1048576) (o1 o2 : Bool) : Calls Tryz.prog 3 #[.int .i64 c, .slice Aa na ca, .slice Ab nb cb, .bool o1, .bool o2] w fun e w' => RetV w (.bool true) e w' := by
 have HC := hid hc
 have hmx : Tryz.prog.follows .mixedOrders = true := by kernel_rfl
 have HAD := hid had
 have HBD := hid hbd
 have HAL := hid (And.intro hal hbl)
 have HB := hid (Below.refl w.heap.size w)
 have Hxs := hid ha
 have Hys := hid hb
 clear hc had hbd ha hb hal hbl
 go_enter Tryz.func3, Tryz.ntmps3
 go_wp2_with fail
 refine (begun9_any w).mono ?_
 rintro e w1 ⟨rfl, hb⟩
 replace Hxs := hid (Hxs.out.later hb)
 replace Hys := hid (Hys.out.later hb)
 replace HB := hid (HB.out.trans (hb.mono HB.out.size))
 clear hb
 go_wp2_with fail
 obtain ⟨A1, n1, c1, e1, hs1⟩ := Hxs.out
 cases e1
 refine (pt9_yes w1 c D HC.out _ _ _ xs hs1 HAD.out _ rfl o1).mono ?_
 rintro e w2 ⟨v, P, MP, rfl, hbp, hso, hpg, hb⟩
 have HBP := hid hbp
 have HSO := hid hso
 obtain ⟨t0, a0, d0, rfl, a0o, d0o⟩ := hpg.form
 clear hbp hso
 replace Hxs := hid (Hxs.out.later hb)
 replace Hys := hid (Hys.out.later hb)
 replace HB := hid (HB.out.trans (hb.mono HB.out.size))
 have Hpg := hid (hpg)
 clear hb hs1 hpg
 go_wp2_with fail
 obtain ⟨A1, n1, c1, e1, hs1⟩ := Hys.out
 cases e1
 refine (pt9_yes w2 c D HC.out _ _ _ ys hs1 HBD.out _ rfl o2).mono ?_
 rintro e w3 ⟨v, Q, MQ, rfl, hbp, hso, hpg, hb⟩
 have HBQ := hid hbp
 have HSQ := hid hso
 obtain ⟨t1, a1, d1, rfl, a1o, d1o⟩ := hpg.form
 clear hbp hso
 replace Hxs := hid (Hxs.out.later hb)
 replace Hys := hid (Hys.out.later hb)
 replace Hpg := hid (Hpg.out.later hb)
 replace HB := hid (HB.out.trans (hb.mono HB.out.size))
 have Hqg := hid (hpg)
 clear hb hs1 hpg
 obtain ⟨W4, e4, r4, b4, s4⟩ := newS w3 26 [.bool false, .slice none 0 0, .slice none 0 0] _ rfl
 obtain ⟨gp, hqp⟩ : ∃ x, w3.heap.size = x := ⟨_, rfl⟩
 rw [hqp] at r4
 have HLp := hid (show w.heap.size ≤ gp by have := HB.out.size; omega)
 have HNp := hid (NoU.of_row r4 (noU3 nofun nofun nofun))
 replace Hxs := hid (Hxs.out.later b4)
 replace Hys := hid (Hys.out.later b4)
 replace Hpg := hid (Hpg.out.later b4)
 replace Hqg := hid (Hqg.out.later b4)
 replace HB := hid (HB.out.trans (b4.mono HB.out.size))
 have b4x := b4
 clear b4
 obtain ⟨W5, e5, r5, b5, s5⟩ := newS W4 26 [.bool false, .slice none 0 0, .slice none 0 0] _ rfl
 obtain ⟨gq, hqq⟩ : ∃ x, W4.heap.size = x := ⟨_, rfl⟩
 rw [hqq] at r5
 have HLq := hid (show w.heap.size ≤ gq by have := HB.out.size; omega)
 have HNEpq := hid (show gp ≠ gq by omega)
 have HNq := hid (NoU.of_row r5 (noU3 nofun nofun nofun))
 replace Hxs := hid (Hxs.out.later b5)
 replace Hys := hid (Hys.out.later b5)
 replace Hpg := hid (Hpg.out.later b5)
 replace Hqg := hid (Hqg.out.later b5)
 replace HB := hid (HB.out.trans (b5.mono HB.out.size))
 have r4q := r4.later b5
 clear b5 s4 s5
 clear b4x r4
 go_wp2_with (first | ((with_reducible show wpList _ _ _ (⟨none, _, _, _, _, _⟩ :: _) _ _); refine wlS_store rfl 26 3 Tryz.sizePt _ _ rfl gp [.bool t0, a0, d0] rfl rfl 26 _ r4q rfl rfl (ones3 rfl a0o d0o) ?_; intro wa hra hga hza) | ((with_reducible show wpList _ _ _ (⟨none, _, _, _, _, _⟩ :: _) _ _); refine wlS_store rfl 26 3 Tryz.sizePt _ _ rfl gq [.bool t1, a1, d1] rfl rfl 26 _ (r5.grown hga (Ne.symm HNEpq.out)) rfl rfl (ones3 rfl a1o d1o) ?_; intro wb hrb hgb hzb))
 have hsa : Sb W5 wa := ⟨gp, NoU.of_row r4q (noU3 nofun nofun nofun), hga⟩
 have hsb : Sb wa wb := ⟨gq, NoU.of_row (r5.grown hga (Ne.symm HNEpq.out)) (noU3 nofun nofun nofun), hgb⟩
 replace Hxs := hid ((Hxs.out.sb hsa).sb hsb)
 replace Hys := hid ((Hys.out.sb hsa).sb hsb)
 replace Hpg := hid ((Hpg.out.sb hsa).sb hsb)
 replace Hqg := hid ((Hqg.out.sb hsa).sb hsb)
 have hba := below_grown HB.out hga HLp.out HB.out.size
 replace HB := hid (below_grown hba hgb HLq.out hba.size)
 have RWp := hid (hra.grown hgb HNEpq.out)
 have RWq := hid hrb
 clear hsa hsb hba hra hrb hga hgb hza hzb r4q r5 e4 e5 hqp hqq HNp HNq
 refine (rOf9_yes wb c D HC.out).mono ?_
 rintro e w6 ⟨v, rfl, hcr, hb⟩
 obtain ⟨vp, vn, vb, vx, vy, rfl, k1, k2, k3, k4, k5⟩ := hcr
 obtain ⟨Ap, np, cp, rfl⟩ := k1.sl
 obtain ⟨An, nn, cn, rfl⟩ := k2.sl
 obtain ⟨Abb, nbb, cbb, rfl⟩ := k3.sl
 obtain ⟨Ax, nx, cx, rfl⟩ := k4.sl
 obtain ⟨Ay, ny, cy, rfl⟩ := k5.sl
 replace Hxs := hid (Hxs.out.later hb)
 replace Hys := hid (Hys.out.later hb)
 replace Hpg := hid (Hpg.out.later hb)
 replace Hqg := hid (Hqg.out.later hb)
 replace RWp := hid (RWp.out.later hb)
 replace RWq := hid (RWq.out.later hb)
 replace HB := hid (HB.out.trans (hb.mono HB.out.size))
 have Hcr := hid (show Cr _ _ D from ⟨_, _, _, _, _, rfl, k1, k2, k3, k4, k5⟩)
 clear hb k1 k2 k3 k4 k5
 obtain ⟨W7, e7, r7, b7, s7⟩ := newS w6 30 [.slice none 0 0, .slice none 0 0, .slice none 0 0, .slice none 0 0, .slice none 0 0, .int .i64 0] _ rfl
 obtain ⟨gx, hqx⟩ : ∃ x, w6.heap.size = x := ⟨_, rfl⟩
 rw [hqx] at r7
 have HLx := hid (show w.heap.size ≤ gx by have := HB.out.size; omega)
 have HNEpx := hid (show gp ≠ gx by have := RWp.out.lt; omega)
 have HNEqx := hid (show gq ≠ gx by have := RWq.out.lt; omega)
 have HNx := hid (NoU.of_row r7 (noU6 nofun nofun nofun nofun nofun))
 replace Hxs := hid (Hxs.out.later b7)
 replace Hys := hid (Hys.out.later b7)
 replace Hpg := hid (Hpg.out.later b7)
 replace Hqg := hid (Hqg.out.later b7)
 replace Hcr := hid (Hcr.out.later b7)
 replace RWp := hid (RWp.out.later b7)
 replace RWq := hid (RWq.out.later b7)
 replace HB := hid (HB.out.trans (b7.mono HB.out.size))
 clear b7 s7
 go_wp2_with ((with_reducible show wpList _ _ _ (⟨none, _, _, _, _, _⟩ :: _) _ _); refine wlS_store rfl 30 6 Tryz.sizeCr _ _ rfl gx [.slice Ap np cp, .slice An nn cn, .slice Abb nbb cbb, .slice Ax nx cx, .slice Ay ny cy, .int .i64 (D.size : Int)] rfl rfl 30 _ r7 rfl rfl (ones6 rfl rfl rfl rfl rfl rfl) ?_; intro w7 hrx hgx hzx)
 have hsb : Sb W7 w7 := ⟨gx, HNx.out, hgx⟩
 replace Hxs := hid (Hxs.out.sb hsb)
 replace Hys := hid (Hys.out.sb hsb)
 replace Hpg := hid (Hpg.out.sb hsb)
 replace Hqg := hid (Hqg.out.sb hsb)
 replace Hcr := hid (Hcr.out.sb hsb)
 replace RWp := hid (RWp.out.grown hgx HNEpx.out)
 replace RWq := hid (RWq.out.grown hgx HNEqx.out)
 replace HB := hid (below_grown HB.out hgx HLx.out HB.out.size)
 have RWx := hid hrx
 clear hsb hrx hgx hzx e7 r7 hqx HNx
 refine (wpIn_wide (n := 9)).1 (wpIn_region_numS rfl hmx (fun _ => trivial) [(32, .val (.agg #[.bool t0, a0, d0])), (33, .rp P), (34, .val (.agg #[.bool t1, a1, d1])), (35, .rp Q), (15, .any), (16, .any)] (by kernel_rfl) (by kernel_rfl) (by kernel_rfl) (by kernel_rfl) (by rfl) [⟨4, 6, 1, 15, 33, 33, 3, [.bool false, .slice none 0 0, .slice none 0 0]⟩, ⟨5, 7, 3, 16, 35, 33, 3, [.bool false, .slice none 0 0, .slice none 0 0]⟩] ?has4 ?hpw4 ?hops4 ?hend4)
 case has4 =>
  intro A hA
  simp only [List.mem_cons, List.not_mem_nil, or_false] at hA
  rcases hA with rfl | rfl
  ·exact ⟨⟨⟨_, rfl, rfl, rfl⟩, ⟨_, rfl, rfl, rfl⟩, ⟨_, rfl, rfl⟩, by decide, Tryz.sizeRp, rfl, noU3 nofun nofun nofun, (fun ev o V h => by simp [execOp, h, go_sem]), (fun v V => trivial), fun v V h => Spc.rp_form v V h⟩, by rfl, by rfl⟩
  ·exact ⟨⟨⟨_, rfl, rfl, rfl⟩, ⟨_, rfl, rfl, rfl⟩, ⟨_, rfl, rfl⟩, by decide, Tryz.sizeRp, rfl, noU3 nofun nofun nofun, (fun ev o V h => by simp [execOp, h, go_sem]), (fun v V => trivial), fun v V h => Spc.rp_form v V h⟩, by rfl, by rfl⟩
 case hpw4 =>
  intro A hA A' hA'
  simp only [List.mem_cons, List.not_mem_nil, or_false] at hA hA'
  rcases hA with rfl | rfl <;> rcases hA' with rfl | rfl <;> simp
 case hops4 =>
  intro i o a' V hno hB ho hev hrd
  have n4 := hno _ (.head _)
  have n5 := hno _ (.tail _ (.head _))
  simp only at n4 n5
  have his : i < 8 := by have := (Array.getElem?_eq_some_iff.1 ho).1; simpa using this
  have rp := RWp.out.later hB
  have rq := RWq.out.later hB
  have hpg := Hpg.out.later hB
  have hqg := Hqg.out.later hB
  have hcase : i = 0 ∨ i = 1 ∨ i = 2 ∨ i = 3 ∨ i = 4 ∨ i = 5 ∨ i = 6 ∨ i = 7 := by omega
  rcases hcase with rfl | rfl | rfl | rfl | rfl | rfl | rfl | rfl
  ·simp at ho
   subst ho
   have r12 := hev 12 rfl
   simp [Act.eval] at r12
   try simp [Act.put] at r12
   refine ⟨nofun, fun _ _ => trivial, nofun, .inl ⟨.agg #[.bool t0, a0, d0], V, exec_load 26 3 _ Tryz.underlying26 rfl Tryz.sizePt _ rfl gp [.bool t0, a0, d0] (by simpa [Act.eval] using r12) 26 rp rfl, Below.refl _ _, fun t ht => by cases ht; rfl⟩⟩
  ·simp at ho
   subst ho
   have r32 : a'.eval (.tmp 32) = .agg #[.bool t0, a0, d0] := hrd 32 rfl rfl
   simp [Act.eval] at r32
   refine ⟨nofun, fun _ _ => trivial, nofun, .inr ⟨11, #[.agg #[.bool t0, a0, d0]], ?_, (callsIn_wide.2 (rFrom9_pg V _ P hpg)).mono ?_⟩⟩
   ·simp [execOp, Act.eval, r32, resolve, invoke, Deferred.ofValue]
   ·rintro e w' ⟨v, rfl, hv, hB2⟩
    exact ⟨_, rfl, hB2, fun t ht => by cases ht; exact hv⟩
  ·simp at ho
   subst ho
   have r13 := hev 13 rfl
   simp [Act.eval] at r13
   try simp [Act.put] at r13
   refine ⟨nofun, fun _ _ => trivial, nofun, .inl ⟨.agg #[.bool t1, a1, d1], V, exec_load 26 3 _ Tryz.underlying26 rfl Tryz.sizePt _ rfl gq [.bool t1, a1, d1] (by simpa [Act.eval] using r13) 26 rq rfl, Below.refl _ _, fun t ht => by cases ht; rfl⟩⟩
  ·simp at ho
   subst ho
   have r34 : a'.eval (.tmp 34) = .agg #[.bool t1, a1, d1] := hrd 34 rfl rfl
   simp [Act.eval] at r34
   refine ⟨nofun, fun _ _ => trivial, nofun, .inr ⟨11, #[.agg #[.bool t1, a1, d1]], ?_, (callsIn_wide.2 (rFrom9_pg V _ Q hqg)).mono ?_⟩⟩
   ·simp [execOp, Act.eval, r34, resolve, invoke, Deferred.ofValue]
   ·rintro e w' ⟨v, rfl, hv, hB2⟩
    exact ⟨_, rfl, hB2, fun t ht => by cases ht; exact hv⟩
  ·simp at ho
   subst ho
   first | exact absurd rfl n4.1 | exact absurd rfl n5.1
  ·simp at ho
   subst ho
   first | exact absurd rfl n4.1 | exact absurd rfl n5.1
  ·simp at ho
   subst ho
   first | exact absurd rfl n4.2 | exact absurd rfl n5.2
  ·simp at ho
   subst ho
   first | exact absurd rfl n4.2 | exact absurd rfl n5.2
 case hend4 =>
  intro vals4 V4 hb hP4 hrow4 hne4
  have hu4 : Rp V4 (vals4 1) P := hP4 1 33 _ rfl rfl
  have hv4 : Rp V4 (vals4 3) Q := hP4 3 35 _ rfl rfl
  obtain ⟨tu, Au, nu, cu, Bu, mu, du, eu⟩ := hu4.three
  obtain ⟨tv, Av, nv, cv, Bv, mv, dv, ev⟩ := hv4.three
  obtain ⟨gu, vu, eg1, hgu, hru, ec1⟩ := hrow4 _ (.head _)
  obtain ⟨gv, vv, eg2, hgv, hrv, ec2⟩ := hrow4 _ (.tail _ (.head _))
  have hnuv := hne4 _ (.head _) _ (.tail _ (.head _)) (by decide)
  simp only at eg1 eg2 ec1 ec2 hgu hgv hru hrv hnuv
  obtain rfl := agg3 (ec1.symm.trans eu)
  obtain rfl := agg3 (ec2.symm.trans ev)
  have HNEuv := hid (show gu ≠ gv by rintro rfl; exact hnuv (eg1.trans eg2.symm))
  have HNEpu := hid (show gp ≠ gu by have := RWp.out.lt; omega)
  have HNEpv := hid (show gp ≠ gv by have := RWp.out.lt; omega)
  have HNEqu := hid (show gq ≠ gu by have := RWq.out.lt; omega)
  have HNEqv := hid (show gq ≠ gv by have := RWq.out.lt; omega)
  have HNExu := hid (show gx ≠ gu by have := RWx.out.lt; omega)
  have HNExv := hid (show gx ≠ gv by have := RWx.out.lt; omega)
  replace Hxs := hid (Hxs.out.later hb)
  replace Hys := hid (Hys.out.later hb)
  replace Hpg := hid (Hpg.out.later hb)
  replace Hqg := hid (Hqg.out.later hb)
  replace Hcr := hid (Hcr.out.later hb)
  replace RWp := hid (RWp.out.later hb)
  replace RWq := hid (RWq.out.later hb)
  replace RWx := hid (RWx.out.later hb)
  have HLu := hid (show w.heap.size ≤ gu by have := HB.out.size; omega)
  have HLv := hid (show w.heap.size ≤ gv by have := HB.out.size; omega)
  replace HB := hid (HB.out.trans (hb.mono HB.out.size))
  have RWu := hid hru
  have RWv := hid hrv
  rw [eu] at hu4
  rw [ev] at hv4
  have Hu := hid hu4
  have Hv := hid hv4
  clear hu4 hv4
  clear hP4 hrow4 hne4 hru hrv hnuv ec1 ec2 hgu hgv hb
  simp [wrote, Act.put]
  rw [eg1, eg2]
  clear eg1 eg2 eu ev
  have p0 := RWp.out.at_ (i := 0) rfl
  have p1 := RWp.out.at_ (i := 1) rfl
  have p2 := RWp.out.at_ (i := 2) rfl
  have q0 := RWq.out.at_ (i := 0) rfl
  have q1 := RWq.out.at_ (i := 1) rfl
  have q2 := RWq.out.at_ (i := 2) rfl
  go_wp2_with fail
  refine (cadd9_any V4 c D HC.out _ _ P Q Hpg.out Hqg.out).mono ?_
  rintro e w8 ⟨v, R, rfl, hR, hm, hb⟩
  obtain ⟨ts, As, ns, cs, Bs, ms, ds, rfl⟩ := hm.three'
  have HR := hid hR
  obtain ⟨bA, hbA⟩ : ∃ b, decide (hasN D.p D.b P ∧ hasN D.p D.b Q) = b := ⟨_, rfl⟩
  rw [hbA]
  have HbA := hid hbA
  clear hbA
  replace Hxs := hid (Hxs.out.later hb)
  replace Hys := hid (Hys.out.later hb)
  replace Hpg := hid (Hpg.out.later hb)
  replace Hqg := hid (Hqg.out.later hb)
  replace Hcr := hid (Hcr.out.later hb)
  replace Hu := hid (Hu.out.later hb)
  replace Hv := hid (Hv.out.later hb)
  replace RWp := hid (RWp.out.later hb)
  replace RWq := hid (RWq.out.later hb)
  replace RWx := hid (RWx.out.later hb)
  replace RWu := hid (RWu.out.later hb)
  replace RWv := hid (RWv.out.later hb)
  replace HB := hid (HB.out.trans (hb.mono HB.out.size))
  have Hs := hid (hm)
  clear hb hm hR p0 p1 p2 q0 q1 q2
  obtain ⟨W9, e9, r9, b9, s9⟩ := newS w8 26 [.bool false, .slice none 0 0, .slice none 0 0] _ rfl
  obtain ⟨gs, hqs⟩ : ∃ x, w8.heap.size = x := ⟨_, rfl⟩
  rw [hqs] at r9
  have HLs := hid (show w.heap.size ≤ gs by have := HB.out.size; omega)
  have HNEps := hid (show gp ≠ gs by have := RWp.out.lt; omega)
  have HNEqs := hid (show gq ≠ gs by have := RWq.out.lt; omega)
  have HNExs := hid (show gx ≠ gs by have := RWx.out.lt; omega)
  have HNEus := hid (show gu ≠ gs by have := RWu.out.lt; omega)
  have HNEvs := hid (show gv ≠ gs by have := RWv.out.lt; omega)
  have HNs := hid (NoU.of_row r9 (noU3 nofun nofun nofun))
  replace Hxs := hid (Hxs.out.later b9)
  replace Hys := hid (Hys.out.later b9)
  replace Hpg := hid (Hpg.out.later b9)
  replace Hqg := hid (Hqg.out.later b9)
  replace Hcr := hid (Hcr.out.later b9)
  replace Hu := hid (Hu.out.later b9)
  replace Hv := hid (Hv.out.later b9)
  replace Hs := hid (Hs.out.later b9)
  replace RWp := hid (RWp.out.later b9)
  replace RWq := hid (RWq.out.later b9)
  replace RWx := hid (RWx.out.later b9)
  replace RWu := hid (RWu.out.later b9)
  replace RWv := hid (RWv.out.later b9)
  replace HB := hid (HB.out.trans (b9.mono HB.out.size))
  clear b9 s9
  go_wp2_with ((with_reducible show wpList _ _ _ (⟨none, _, _, _, _, _⟩ :: _) _ _); refine wlS_store rfl 26 3 Tryz.sizePt _ _ rfl gs [.bool ts, .slice As ns cs, .slice Bs ms ds] rfl rfl 26 _ r9 rfl rfl (ones3 rfl rfl rfl) ?_; intro w9 hrs hgs hzs; have p0 := (RWp.out.grown hgs HNEps.out).at_ (i := 0) rfl; have p1 := (RWp.out.grown hgs HNEps.out).at_ (i := 1) rfl; have p2 := (RWp.out.grown hgs HNEps.out).at_ (i := 2) rfl)
  have hsb : Sb W9 w9 := ⟨gs, HNs.out, hgs⟩
  replace Hxs := hid (Hxs.out.sb hsb)
  replace Hys := hid (Hys.out.sb hsb)
  replace Hpg := hid (Hpg.out.sb hsb)
  replace Hqg := hid (Hqg.out.sb hsb)
  replace Hcr := hid (Hcr.out.sb hsb)
  replace Hu := hid (Hu.out.sb hsb)
  replace Hv := hid (Hv.out.sb hsb)
  replace Hs := hid (Hs.out.sb hsb)
  replace RWp := hid (RWp.out.grown hgs HNEps.out)
  replace RWq := hid (RWq.out.grown hgs HNEqs.out)
  replace RWx := hid (RWx.out.grown hgs HNExs.out)
  replace RWu := hid (RWu.out.grown hgs HNEus.out)
  replace RWv := hid (RWv.out.grown hgs HNEvs.out)
  replace HB := hid (below_grown HB.out hgs HLs.out HB.out.size)
  have RWs := hid hrs
  clear hsb hrs hgs hzs e9 r9 hqs HNs p0 p1 p2
  refine (cneg9_any w9 c D HC.out _ P Hpg.out).mono ?_
  rintro e w10 ⟨v, R2, rfl, hR2, hm, hb⟩
  obtain ⟨tn, An', nn', cn', Bn', mn', dn', rfl⟩ := hm.three'
  have HR2 := hid hR2
  obtain ⟨bN, hbN⟩ : ∃ b, decide (hasN D.p D.b P) = b := ⟨_, rfl⟩
  rw [hbN]
  have HbN := hid hbN
  clear hbN
  replace Hxs := hid (Hxs.out.later hb)
  replace Hys := hid (Hys.out.later hb)
  replace Hpg := hid (Hpg.out.later hb)
  replace Hqg := hid (Hqg.out.later hb)
  replace Hcr := hid (Hcr.out.later hb)
  replace Hu := hid (Hu.out.later hb)
  replace Hv := hid (Hv.out.later hb)
  replace Hs := hid (Hs.out.later hb)
  replace RWp := hid (RWp.out.later hb)
  replace RWq := hid (RWq.out.later hb)
  replace RWx := hid (RWx.out.later hb)
  replace RWu := hid (RWu.out.later hb)
  replace RWv := hid (RWv.out.later hb)
  replace RWs := hid (RWs.out.later hb)
  replace HB := hid (HB.out.trans (hb.mono HB.out.size))
  have Hn := hid (hm)
  clear hb hm hR2
  obtain ⟨W11, e11, r11, b11, s11⟩ := newS w10 26 [.bool false, .slice none 0 0, .slice none 0 0] _ rfl
  obtain ⟨gn, hqn⟩ : ∃ x, w10.heap.size = x := ⟨_, rfl⟩
  rw [hqn] at r11
  have HLn := hid (show w.heap.size ≤ gn by have := HB.out.size; omega)
  have HNEpn := hid (show gp ≠ gn by have := RWp.out.lt; omega)
  have HNEqn := hid (show gq ≠ gn by have := RWq.out.lt; omega)
  have HNExn := hid (show gx ≠ gn by have := RWx.out.lt; omega)
  have HNEun := hid (show gu ≠ gn by have := RWu.out.lt; omega)
  have HNEvn := hid (show gv ≠ gn by have := RWv.out.lt; omega)
  have HNEsn := hid (show gs ≠ gn by have := RWs.out.lt; omega)
  have HNn := hid (NoU.of_row r11 (noU3 nofun nofun nofun))
  replace Hxs := hid (Hxs.out.later b11)
  replace Hys := hid (Hys.out.later b11)
  replace Hpg := hid (Hpg.out.later b11)
  replace Hqg := hid (Hqg.out.later b11)
  replace Hcr := hid (Hcr.out.later b11)
  replace Hu := hid (Hu.out.later b11)
  replace Hv := hid (Hv.out.later b11)
  replace Hs := hid (Hs.out.later b11)
  replace Hn := hid (Hn.out.later b11)
  replace RWp := hid (RWp.out.later b11)
  replace RWq := hid (RWq.out.later b11)
  replace RWx := hid (RWx.out.later b11)
  replace RWu := hid (RWu.out.later b11)
  replace RWv := hid (RWv.out.later b11)
  replace RWs := hid (RWs.out.later b11)
  replace HB := hid (HB.out.trans (b11.mono HB.out.size))
  clear b11 s11
  go_wp2_with ((with_reducible show wpList _ _ _ (⟨none, _, _, _, _, _⟩ :: _) _ _); refine wlS_store rfl 26 3 Tryz.sizePt _ _ rfl gn [.bool tn, .slice An' nn' cn', .slice Bn' mn' dn'] rfl rfl 26 _ r11 rfl rfl (ones3 rfl rfl rfl) ?_; intro w11 hrn hgn hzn)
  have hsb : Sb W11 w11 := ⟨gn, HNn.out, hgn⟩
  replace Hxs := hid (Hxs.out.sb hsb)
  replace Hys := hid (Hys.out.sb hsb)
  replace Hpg := hid (Hpg.out.sb hsb)
  replace Hqg := hid (Hqg.out.sb hsb)
  replace Hcr := hid (Hcr.out.sb hsb)
  replace Hu := hid (Hu.out.sb hsb)
  replace Hv := hid (Hv.out.sb hsb)
  replace Hs := hid (Hs.out.sb hsb)
  replace Hn := hid (Hn.out.sb hsb)
  replace RWp := hid (RWp.out.grown hgn HNEpn.out)
  replace RWq := hid (RWq.out.grown hgn HNEqn.out)
  replace RWx := hid (RWx.out.grown hgn HNExn.out)
  replace RWu := hid (RWu.out.grown hgn HNEun.out)
  replace RWv := hid (RWv.out.grown hgn HNEvn.out)
  replace RWs := hid (RWs.out.grown hgn HNEsn.out)
  replace HB := hid (below_grown HB.out hgn HLn.out HB.out.size)
  have RWn := hid hrn
  clear hsb hrn hgn hzn e11 r11 hqn HNn
  obtain ⟨bP, hbP⟩ : ∃ b, decide (hasN D.p D.b P) = b := ⟨_, rfl⟩
  obtain ⟨bQ, hbQ⟩ : ∃ b, decide (hasN D.p D.b Q) = b := ⟨_, rfl⟩
  have HbP := hid hbP
  have HbQ := hid hbQ
  clear hbP hbQ
  refine (wpIn_wide (n := 9)).1 (wpIn_region_numG rfl hmx [(49, .val (.int .i64 c)), (50, .val (.agg #[.bool t0, a0, d0])), (51, .val (.bool bP)), (52, .val (.agg #[.slice Ap np cp, .slice An nn cn, .slice Abb nbb cbb, .slice Ax nx cx, .slice Ay ny cy, .int .i64 (D.size : Int)])), (53, .val (.agg #[.bool tu, .slice Au nu cu, .slice Bu mu du])), (54, .val (.bool bP)), (55, .val (.bool false)), (56, .val (.bool false)), (57, .val (.int .i64 c)), (58, .val (.agg #[.bool t1, a1, d1])), (59, .val (.bool bQ)), (60, .val (.agg #[.slice Ap np cp, .slice An nn cn, .slice Abb nbb cbb, .slice Ax nx cx, .slice Ay ny cy, .int .i64 (D.size : Int)])), (61, .val (.agg #[.bool tv, .slice Av nv cv, .slice Bv mv dv])), (62, .val (.bool bQ)), (63, .val (.bool false)), (64, .val (.bool false))] [(56, false)] (by kernel_rfl) (by kernel_rfl) (by kernel_rfl) (by kernel_rfl) (by rfl) (by kernel_rfl) (by rfl) ?hgv7 ?hops7 ?hend7)
  case hgv7 =>
   intro p hp v V h
   simp only [List.mem_cons, List.not_mem_nil, or_false] at hp
   rcases hp with rfl
   all_goals exact h
  case hops7 =>
   intro i o a' V hB ho hev hrd
   have his : i < 16 := by have := (Array.getElem?_eq_some_iff.1 ho).1; simpa using this
   have rp := RWp.out.later hB
   have rq := RWq.out.later hB
   have rx := RWx.out.later hB
   have ru := RWu.out.later hB
   have rv := RWv.out.later hB
   have hpg := Hpg.out.later hB
   have hqg := Hqg.out.later hB
   have hcr := Hcr.out.later hB
   have hu := Hu.out.later hB
   have hv := Hv.out.later hB
   have hcase : i = 0 ∨ i = 1 ∨ i = 2 ∨ i = 3 ∨ i = 4 ∨ i = 5 ∨ i = 6 ∨ i = 7 ∨ i = 8 ∨ i = 9 ∨ i = 10 ∨ i = 11 ∨ i = 12 ∨ i = 13 ∨ i = 14 ∨ i = 15 := by omega
   rcases hcase with rfl | rfl | rfl | rfl | rfl | rfl | rfl | rfl | rfl | rfl | rfl | rfl | rfl | rfl | rfl | rfl
   ·simp at ho
    subst ho
    have r0 := hev 0 rfl
    simp [Act.eval] at r0
    refine ⟨nofun, fun _ _ => trivial, nofun, .inl ⟨.int .i64 c, V, ?_, Below.refl _ _, fun t ht => by cases ht; rfl⟩⟩
    simp [execOp, Act.eval, go_sem, r0]
   ·simp at ho
    subst ho
    have r12 := hev 12 rfl
    simp [Act.eval] at r12
    try simp [Act.put] at r12
    refine ⟨nofun, fun _ _ => trivial, nofun, .inl ⟨.agg #[.bool t0, a0, d0], V, exec_load 26 3 _ Tryz.underlying26 rfl Tryz.sizePt _ rfl gp [.bool t0, a0, d0] (by simpa [Act.eval] using r12) 26 rp rfl, Below.refl _ _, fun t ht => by cases ht; rfl⟩⟩
   ·simp at ho
    subst ho
    have r49 : a'.eval (.tmp 49) = .int .i64 c := hrd 49 rfl rfl
    simp [Act.eval] at r49
    have r50 : a'.eval (.tmp 50) = .agg #[.bool t0, a0, d0] := hrd 50 rfl rfl
    simp [Act.eval] at r50
    refine ⟨nofun, fun _ _ => trivial, nofun, .inr ⟨14, #[.int .i64 c, .agg #[.bool t0, a0, d0]], ?_, (callsIn_wide.2 (cOn_yes V c D HC.out _ P hpg)).mono ?_⟩⟩
    ·simp [execOp, Act.eval, r49, r50, resolve, invoke, Deferred.ofValue]
    ·rintro e w' ⟨rfl, hB2⟩
     rw [HbP.out]
     have hv : Value.bool bP = Value.bool bP := rfl
     exact ⟨_, rfl, hB2, fun t ht => by cases ht; exact hv⟩
   ·simp at ho
    subst ho
    have r14 := hev 14 rfl
    simp [Act.eval] at r14
    try simp [Act.put] at r14
    refine ⟨nofun, fun _ _ => trivial, nofun, .inl ⟨.agg #[.slice Ap np cp, .slice An nn cn, .slice Abb nbb cbb, .slice Ax nx cx, .slice Ay ny cy, .int .i64 (D.size : Int)], V, exec_load 30 6 _ Tryz.underlying30 rfl Tryz.sizeCr _ rfl gx [.slice Ap np cp, .slice An nn cn, .slice Abb nbb cbb, .slice Ax nx cx, .slice Ay ny cy, .int .i64 (D.size : Int)] (by simpa [Act.eval] using r14) 30 rx rfl, Below.refl _ _, fun t ht => by cases ht; rfl⟩⟩
   ·simp at ho
    subst ho
    have r15 := hev 15 rfl
    simp [Act.eval] at r15
    try simp [Act.put] at r15
    refine ⟨nofun, fun _ _ => trivial, nofun, .inl ⟨.agg #[.bool tu, .slice Au nu cu, .slice Bu mu du], V, exec_load 33 3 _ Tryz.underlying33 rfl Tryz.sizeRp _ rfl gu [.bool tu, .slice Au nu cu, .slice Bu mu du] (by simpa [Act.eval] using r15) 33 ru rfl, Below.refl _ _, fun t ht => by cases ht; rfl⟩⟩
   ·simp at ho
    subst ho
    have r52 : a'.eval (.tmp 52) = .agg #[.slice Ap np cp, .slice An nn cn, .slice Abb nbb cbb, .slice Ax nx cx, .slice Ay ny cy, .int .i64 (D.size : Int)] := hrd 52 rfl rfl
    simp [Act.eval] at r52
    have r53 : a'.eval (.tmp 53) = .agg #[.bool tu, .slice Au nu cu, .slice Bu mu du] := hrd 53 rfl rfl
    simp [Act.eval] at r53
    refine ⟨nofun, fun _ _ => trivial, nofun, .inr ⟨15, #[.agg #[.slice Ap np cp, .slice An nn cn, .slice Abb nbb cbb, .slice Ax nx cx, .slice Ay ny cy, .int .i64 (D.size : Int)], .agg #[.bool tu, .slice Au nu cu, .slice Bu mu du]], ?_, (callsIn_wide.2 (on9_yes V c D HC.out _ _ P hcr hu)).mono ?_⟩⟩
    ·simp [execOp, Act.eval, r52, r53, resolve, invoke, Deferred.ofValue]
    ·rintro e w' ⟨rfl, hB2⟩
     rw [HbP.out]
     have hv : Value.bool bP = Value.bool bP := rfl
     exact ⟨_, rfl, hB2, fun t ht => by cases ht; exact hv⟩
   ·simp at ho
    subst ho
    have r51 : a'.eval (.tmp 51) = .bool bP := hrd 51 rfl rfl
    simp [Act.eval] at r51
    have r54 : a'.eval (.tmp 54) = .bool bP := hrd 54 rfl rfl
    simp [Act.eval] at r54
    refine ⟨nofun, fun _ _ => trivial, nofun, .inl ⟨.bool false, V, ?_, Below.refl _ _, fun t ht => by cases ht; rfl⟩⟩
    simp [execOp, Act.eval, go_sem, r51, r54]
   ·simp at ho
    subst ho
    have r55 : a'.eval (.tmp 55) = .bool false := hrd 55 rfl rfl
    simp [Act.eval] at r55
    refine ⟨nofun, fun _ _ => trivial, nofun, .inl ⟨.bool false, V, ?_, Below.refl _ _, fun t ht => by cases ht; rfl⟩⟩
    simp [execOp, Act.eval, go_sem, r55]
   ·simp at ho
    subst ho
    have r0 := hev 0 rfl
    simp [Act.eval] at r0
    refine ⟨nofun, fun _ _ => trivial, nofun, .inl ⟨.int .i64 c, V, ?_, Below.refl _ _, fun t ht => by cases ht; rfl⟩⟩
    simp [execOp, Act.eval, go_sem, r0]
   ·simp at ho
    subst ho
    have r13 := hev 13 rfl
    simp [Act.eval] at r13
    try simp [Act.put] at r13
    refine ⟨nofun, fun _ _ => trivial, nofun, .inl ⟨.agg #[.bool t1, a1, d1], V, exec_load 26 3 _ Tryz.underlying26 rfl Tryz.sizePt _ rfl gq [.bool t1, a1, d1] (by simpa [Act.eval] using r13) 26 rq rfl, Below.refl _ _, fun t ht => by cases ht; rfl⟩⟩
   ·simp at ho
    subst ho
    have r57 : a'.eval (.tmp 57) = .int .i64 c := hrd 57 rfl rfl
    simp [Act.eval] at r57
    have r58 : a'.eval (.tmp 58) = .agg #[.bool t1, a1, d1] := hrd 58 rfl rfl
    simp [Act.eval] at r58
    refine ⟨nofun, fun _ _ => trivial, nofun, .inr ⟨14, #[.int .i64 c, .agg #[.bool t1, a1, d1]], ?_, (callsIn_wide.2 (cOn_yes V c D HC.out _ Q hqg)).mono ?_⟩⟩
    ·simp [execOp, Act.eval, r57, r58, resolve, invoke, Deferred.ofValue]
    ·rintro e w' ⟨rfl, hB2⟩
     rw [HbQ.out]
     have hv : Value.bool bQ = Value.bool bQ := rfl
     exact ⟨_, rfl, hB2, fun t ht => by cases ht; exact hv⟩
   ·simp at ho
    subst ho
    have r14 := hev 14 rfl
    simp [Act.eval] at r14
    try simp [Act.put] at r14
    refine ⟨nofun, fun _ _ => trivial, nofun, .inl ⟨.agg #[.slice Ap np cp, .slice An nn cn, .slice Abb nbb cbb, .slice Ax nx cx, .slice Ay ny cy, .int .i64 (D.size : Int)], V, exec_load 30 6 _ Tryz.underlying30 rfl Tryz.sizeCr _ rfl gx [.slice Ap np cp, .slice An nn cn, .slice Abb nbb cbb, .slice Ax nx cx, .slice Ay ny cy, .int .i64 (D.size : Int)] (by simpa [Act.eval] using r14) 30 rx rfl, Below.refl _ _, fun t ht => by cases ht; rfl⟩⟩
   ·simp at ho
    subst ho
    have r16 := hev 16 rfl
    simp [Act.eval] at r16
    try simp [Act.put] at r16
    refine ⟨nofun, fun _ _ => trivial, nofun, .inl ⟨.agg #[.bool tv, .slice Av nv cv, .slice Bv mv dv], V, exec_load 33 3 _ Tryz.underlying33 rfl Tryz.sizeRp _ rfl gv [.bool tv, .slice Av nv cv, .slice Bv mv dv] (by simpa [Act.eval] using r16) 33 rv rfl, Below.refl _ _, fun t ht => by cases ht; rfl⟩⟩
   ·simp at ho
    subst ho
    have r60 : a'.eval (.tmp 60) = .agg #[.slice Ap np cp, .slice An nn cn, .slice Abb nbb cbb, .slice Ax nx cx, .slice Ay ny cy, .int .i64 (D.size : Int)] := hrd 60 rfl rfl
    simp [Act.eval] at r60
    have r61 : a'.eval (.tmp 61) = .agg #[.bool tv, .slice Av nv cv, .slice Bv mv dv] := hrd 61 rfl rfl
    simp [Act.eval] at r61
    refine ⟨nofun, fun _ _ => trivial, nofun, .inr ⟨15, #[.agg #[.slice Ap np cp, .slice An nn cn, .slice Abb nbb cbb, .slice Ax nx cx, .slice Ay ny cy, .int .i64 (D.size : Int)], .agg #[.bool tv, .slice Av nv cv, .slice Bv mv dv]], ?_, (callsIn_wide.2 (on9_yes V c D HC.out _ _ Q hcr hv)).mono ?_⟩⟩
    ·simp [execOp, Act.eval, r60, r61, resolve, invoke, Deferred.ofValue]
    ·rintro e w' ⟨rfl, hB2⟩
     rw [HbQ.out]
     have hv : Value.bool bQ = Value.bool bQ := rfl
     exact ⟨_, rfl, hB2, fun t ht => by cases ht; exact hv⟩
   ·simp at ho
    subst ho
    have r59 : a'.eval (.tmp 59) = .bool bQ := hrd 59 rfl rfl
    simp [Act.eval] at r59
    have r62 : a'.eval (.tmp 62) = .bool bQ := hrd 62 rfl rfl
    simp [Act.eval] at r62
    refine ⟨nofun, fun _ _ => trivial, nofun, .inl ⟨.bool false, V, ?_, Below.refl _ _, fun t ht => by cases ht; rfl⟩⟩
    simp [execOp, Act.eval, go_sem, r59, r62]
   ·simp at ho
    subst ho
    have r56 : a'.eval (.tmp 56) = .bool false := hrd 56 rfl rfl
    simp [Act.eval] at r56
    have r63 : a'.eval (.tmp 63) = .bool false := hrd 63 rfl rfl
    simp [Act.eval] at r63
    refine ⟨nofun, fun _ _ => trivial, nofun, .inl ⟨.bool false, V, ?_, Below.refl _ _, fun t ht => by cases ht; rfl⟩⟩
    simp [execOp, Act.eval, go_sem, r56, r63]
  case hend7 =>
   intro vals7 V7 hb hP7
   have hz : vals7 15 = .bool false := hP7 15 64 _ rfl rfl
   replace Hxs := hid (Hxs.out.later hb)
   replace Hys := hid (Hys.out.later hb)
   replace Hpg := hid (Hpg.out.later hb)
   replace Hqg := hid (Hqg.out.later hb)
   replace Hcr := hid (Hcr.out.later hb)
   replace Hu := hid (Hu.out.later hb)
   replace Hv := hid (Hv.out.later hb)
   replace Hs := hid (Hs.out.later hb)
   replace Hn := hid (Hn.out.later hb)
   replace RWp := hid (RWp.out.later hb)
   replace RWq := hid (RWq.out.later hb)
   replace RWx := hid (RWx.out.later hb)
   replace RWu := hid (RWu.out.later hb)
   replace RWv := hid (RWv.out.later hb)
   replace RWs := hid (RWs.out.later hb)
   replace RWn := hid (RWn.out.later hb)
   replace HB := hid (HB.out.trans (hb.mono HB.out.size))
   clear hb hP7
   simp [wrote, Act.put]
   rw [hz]
   have x0 := RWx.out.at_ (i := 0) rfl
   have x1 := RWx.out.at_ (i := 1) rfl
   have x2 := RWx.out.at_ (i := 2) rfl
   have x3 := RWx.out.at_ (i := 3) rfl
   have x4 := RWx.out.at_ (i := 4) rfl
   have x5 := RWx.out.at_ (i := 5) rfl
   have u0 := RWu.out.at_ (i := 0) rfl
   have u1 := RWu.out.at_ (i := 1) rfl
   have u2 := RWu.out.at_ (i := 2) rfl
   go_wp2_with fail
   refine (on9_yes V7 c D HC.out _ _ P Hcr.out Hu.out).mono ?_
   rintro e w12 ⟨rfl, hb⟩
   replace Hxs := hid (Hxs.out.later hb)
   replace Hys := hid (Hys.out.later hb)
   replace Hpg := hid (Hpg.out.later hb)
   replace Hqg := hid (Hqg.out.later hb)
   replace Hcr := hid (Hcr.out.later hb)
   replace Hu := hid (Hu.out.later hb)
   replace Hv := hid (Hv.out.later hb)
   replace Hs := hid (Hs.out.later hb)
   replace Hn := hid (Hn.out.later hb)
   replace RWp := hid (RWp.out.later hb)
   replace RWq := hid (RWq.out.later hb)
   replace RWx := hid (RWx.out.later hb)
   replace RWu := hid (RWu.out.later hb)
   replace RWv := hid (RWv.out.later hb)
   replace RWs := hid (RWs.out.later hb)
   replace RWn := hid (RWn.out.later hb)
   replace HB := hid (HB.out.trans (hb.mono HB.out.size))
   clear hb x0 x1 x2 x3 x4 x5 u0 u1 u2
   by_cases has : hasN D.p D.b P
   ·skip
    have HAP := hid has
    rw [show decide (hasN D.p D.b P) = true from decide_eq_true has]
    have hN : bN = true := by rw [← HbN.out]; exact decide_eq_true has
    subst hN
    obtain rfl : R2 = ngN D.p P := by
     rcases HR2.out with ⟨-, h⟩ | ⟨h, -⟩
     ·exact h
     ·exact absurd HAP.out h
    clear has
    go_wp2_with fail
    refine (wpIn_wide (n := 9)).1 (wpIn_region_numG rfl hmx [(86, .val (.bool true)), (87, .val (.bool false)), (88, .val (.bool false)), (89, .val (.agg #[.bool tn, .slice An' nn' cn', .slice Bn' mn' dn'])), (90, .val (.agg #[.slice Ap np cp, .slice An nn cn, .slice Abb nbb cbb, .slice Ax nx cx, .slice Ay ny cy, .int .i64 (D.size : Int)])), (91, .val (.agg #[.bool tu, .slice Au nu cu, .slice Bu mu du])), (92, .rp (ngN D.p P)), (93, .val (.bool true)), (94, .val (.bool false)), (95, .val (.bool false))] [(88, false)] (by kernel_rfl) (by kernel_rfl) (by kernel_rfl) (by kernel_rfl) (by rfl) (by kernel_rfl) (by rfl) ?hgv11 ?hops11 ?hend11)
    case hgv11 =>
     intro p hp v V h
     simp only [List.mem_cons, List.not_mem_nil, or_false] at hp
     rcases hp with rfl
     all_goals exact h
    case hops11 =>
     intro i o a' V hB ho hev hrd
     have his : i < 10 := by have := (Array.getElem?_eq_some_iff.1 ho).1; simpa using this
     have rn := RWn.out.later hB
     have rx := RWx.out.later hB
     have ru := RWu.out.later hB
     have hcr := Hcr.out.later hB
     have hu := Hu.out.later hB
     have hn := Hn.out.later hB
     have hcase : i = 0 ∨ i = 1 ∨ i = 2 ∨ i = 3 ∨ i = 4 ∨ i = 5 ∨ i = 6 ∨ i = 7 ∨ i = 8 ∨ i = 9 := by omega
     rcases hcase with rfl | rfl | rfl | rfl | rfl | rfl | rfl | rfl | rfl | rfl
     ·simp at ho
      subst ho
      have r20 := hev 20 rfl
      simp [Act.eval] at r20
      refine ⟨nofun, fun _ _ => trivial, nofun, .inl ⟨.bool true, V, ?_, Below.refl _ _, fun t ht => by cases ht; rfl⟩⟩
      simp [execOp, Act.eval, go_sem, r20]
     ·simp at ho
      subst ho
      have r86 : a'.eval (.tmp 86) = .bool true := hrd 86 rfl rfl
      simp [Act.eval] at r86
      refine ⟨nofun, fun _ _ => trivial, nofun, .inl ⟨.bool false, V, ?_, Below.refl _ _, fun t ht => by cases ht; rfl⟩⟩
      simp [execOp, Act.eval, go_sem, r86]
     ·simp at ho
      subst ho
      have r87 : a'.eval (.tmp 87) = .bool false := hrd 87 rfl rfl
      simp [Act.eval] at r87
      refine ⟨nofun, fun _ _ => trivial, nofun, .inl ⟨.bool false, V, ?_, Below.refl _ _, fun t ht => by cases ht; rfl⟩⟩
      simp [execOp, Act.eval, go_sem, r87]
     ·simp at ho
      subst ho
      have r19 := hev 19 rfl
      simp [Act.eval] at r19
      try simp [Act.put] at r19
      refine ⟨nofun, fun _ _ => trivial, nofun, .inl ⟨.agg #[.bool tn, .slice An' nn' cn', .slice Bn' mn' dn'], V, exec_load 26 3 _ Tryz.underlying26 rfl Tryz.sizePt _ rfl gn [.bool tn, .slice An' nn' cn', .slice Bn' mn' dn'] (by simpa [Act.eval] using r19) 26 rn rfl, Below.refl _ _, fun t ht => by cases ht; rfl⟩⟩
     ·simp at ho
      subst ho
      have r14 := hev 14 rfl
      simp [Act.eval] at r14
      try simp [Act.put] at r14
      refine ⟨nofun, fun _ _ => trivial, nofun, .inl ⟨.agg #[.slice Ap np cp, .slice An nn cn, .slice Abb nbb cbb, .slice Ax nx cx, .slice Ay ny cy, .int .i64 (D.size : Int)], V, exec_load 30 6 _ Tryz.underlying30 rfl Tryz.sizeCr _ rfl gx [.slice Ap np cp, .slice An nn cn, .slice Abb nbb cbb, .slice Ax nx cx, .slice Ay ny cy, .int .i64 (D.size : Int)] (by simpa [Act.eval] using r14) 30 rx rfl, Below.refl _ _, fun t ht => by cases ht; rfl⟩⟩
     ·simp at ho
      subst ho
      have r15 := hev 15 rfl
      simp [Act.eval] at r15
      try simp [Act.put] at r15
      refine ⟨nofun, fun _ _ => trivial, nofun, .inl ⟨.agg #[.bool tu, .slice Au nu cu, .slice Bu mu du], V, exec_load 33 3 _ Tryz.underlying33 rfl Tryz.sizeRp _ rfl gu [.bool tu, .slice Au nu cu, .slice Bu mu du] (by simpa [Act.eval] using r15) 33 ru rfl, Below.refl _ _, fun t ht => by cases ht; rfl⟩⟩
     ·simp at ho
      subst ho
      have r90 : a'.eval (.tmp 90) = .agg #[.slice Ap np cp, .slice An nn cn, .slice Abb nbb cbb, .slice Ax nx cx, .slice Ay ny cy, .int .i64 (D.size : Int)] := hrd 90 rfl rfl
      simp [Act.eval] at r90
      have r91 : a'.eval (.tmp 91) = .agg #[.bool tu, .slice Au nu cu, .slice Bu mu du] := hrd 91 rfl rfl
      simp [Act.eval] at r91
      refine ⟨nofun, fun _ _ => trivial, nofun, .inr ⟨17, #[.agg #[.slice Ap np cp, .slice An nn cn, .slice Abb nbb cbb, .slice Ax nx cx, .slice Ay ny cy, .int .i64 (D.size : Int)], .agg #[.bool tu, .slice Au nu cu, .slice Bu mu du]], ?_, (callsIn_wide.2 (rneg_is V c D HC.out _ _ hcr P hu HAP.out)).mono ?_⟩⟩
      ·simp [execOp, Act.eval, r90, r91, resolve, invoke, Deferred.ofValue]
      ·rintro e w' ⟨v, rfl, hv, hB2⟩
       exact ⟨_, rfl, hB2, fun t ht => by cases ht; exact hv⟩
     ·simp at ho
      subst ho
      have r89 : a'.eval (.tmp 89) = .agg #[.bool tn, .slice An' nn' cn', .slice Bn' mn' dn'] := hrd 89 rfl rfl
      simp [Act.eval] at r89
      have r92 : Rp V (a'.eval (.tmp 92)) (ngN D.p P) := hrd 92 rfl rfl
      refine ⟨nofun, fun _ _ => trivial, nofun, .inr ⟨16, #[.agg #[.bool tn, .slice An' nn' cn', .slice Bn' mn' dn'], a'.eval (.tmp 92)], ?_, (callsIn_wide.2 (is9_any V _ _ _ hn r92)).mono ?_⟩⟩
      ·simp [execOp, Act.eval, r89, resolve, invoke, Deferred.ofValue]
      ·rintro e w' ⟨rfl, hB2⟩
       have hv : Value.bool true = Value.bool true := rfl
       exact ⟨_, rfl, hB2, fun t ht => by cases ht; exact hv⟩
     ·simp at ho
      subst ho
      have r93 : a'.eval (.tmp 93) = .bool true := hrd 93 rfl rfl
      simp [Act.eval] at r93
      refine ⟨nofun, fun _ _ => trivial, nofun, .inl ⟨.bool false, V, ?_, Below.refl _ _, fun t ht => by cases ht; rfl⟩⟩
      simp [execOp, Act.eval, go_sem, r93]
     ·simp at ho
      subst ho
      have r88 : a'.eval (.tmp 88) = .bool false := hrd 88 rfl rfl
      simp [Act.eval] at r88
      have r94 : a'.eval (.tmp 94) = .bool false := hrd 94 rfl rfl
      simp [Act.eval] at r94
      refine ⟨nofun, fun _ _ => trivial, nofun, .inl ⟨.bool false, V, ?_, Below.refl _ _, fun t ht => by cases ht; rfl⟩⟩
      simp [execOp, Act.eval, go_sem, r88, r94]
    case hend11 =>
     intro vals11 V11 hb hP11
     have hz : vals11 9 = .bool false := hP11 9 95 _ rfl rfl
     replace Hxs := hid (Hxs.out.later hb)
     replace Hys := hid (Hys.out.later hb)
     replace Hpg := hid (Hpg.out.later hb)
     replace Hqg := hid (Hqg.out.later hb)
     replace Hcr := hid (Hcr.out.later hb)
     replace Hu := hid (Hu.out.later hb)
     replace Hv := hid (Hv.out.later hb)
     replace Hs := hid (Hs.out.later hb)
     replace Hn := hid (Hn.out.later hb)
     replace RWp := hid (RWp.out.later hb)
     replace RWq := hid (RWq.out.later hb)
     replace RWx := hid (RWx.out.later hb)
     replace RWu := hid (RWu.out.later hb)
     replace RWv := hid (RWv.out.later hb)
     replace RWs := hid (RWs.out.later hb)
     replace RWn := hid (RWn.out.later hb)
     replace HB := hid (HB.out.trans (hb.mono HB.out.size))
     clear hb hP11
     simp [wrote, Act.put]
     rw [hz]
     have x0 := RWx.out.at_ (i := 0) rfl
     have x1 := RWx.out.at_ (i := 1) rfl
     have x2 := RWx.out.at_ (i := 2) rfl
     have x3 := RWx.out.at_ (i := 3) rfl
     have x4 := RWx.out.at_ (i := 4) rfl
     have x5 := RWx.out.at_ (i := 5) rfl
     have v0 := RWv.out.at_ (i := 0) rfl
     have v1 := RWv.out.at_ (i := 1) rfl
     have v2 := RWv.out.at_ (i := 2) rfl
     go_wp2_with fail
     refine (on9_yes V11 c D HC.out _ _ Q Hcr.out Hv.out).mono ?_
     rintro e w13 ⟨rfl, hb⟩
     replace Hxs := hid (Hxs.out.later hb)
     replace Hys := hid (Hys.out.later hb)
     replace Hpg := hid (Hpg.out.later hb)
     replace Hqg := hid (Hqg.out.later hb)
     replace Hcr := hid (Hcr.out.later hb)
     replace Hu := hid (Hu.out.later hb)
     replace Hv := hid (Hv.out.later hb)
     replace Hs := hid (Hs.out.later hb)
     replace Hn := hid (Hn.out.later hb)
     replace RWp := hid (RWp.out.later hb)
     replace RWq := hid (RWq.out.later hb)
     replace RWx := hid (RWx.out.later hb)
     replace RWu := hid (RWu.out.later hb)
     replace RWv := hid (RWv.out.later hb)
     replace RWs := hid (RWs.out.later hb)
     replace RWn := hid (RWn.out.later hb)
     replace HB := hid (HB.out.trans (hb.mono HB.out.size))
     clear hb x0 x1 x2 x3 x4 x5 v0 v1 v2
     by_cases haq : hasN D.p D.b Q
     ·skip
      have HAQ := hid haq
      rw [show decide (hasN D.p D.b Q) = true from decide_eq_true haq]
      have hA : bA = true := by rw [← HbA.out]; exact decide_eq_true ⟨HAP.out, haq⟩
      subst hA
      have HRR := hid (show PtR D.p (rcbN D.p D.b (rtN P) (rtN Q)) R from by
       rcases HR.out with ⟨-, h⟩ | ⟨h, -⟩
       ·exact h
       ·exact absurd ⟨HAP.out, haq⟩ h)
      clear haq
      go_wp2_with fail
      refine (wpIn_wide (n := 9)).1 (wpIn_region_numG rfl hmx [(109, .val (.bool true)), (110, .val (.bool true)), (111, .val (.bool true)), (112, .val (.bool true)), (113, .val (.bool true)), (114, .val (.agg #[.bool ts, .slice As ns cs, .slice Bs ms ds])), (115, .val (.agg #[.slice Ap np cp, .slice An nn cn, .slice Abb nbb cbb, .slice Ax nx cx, .slice Ay ny cy, .int .i64 (D.size : Int)])), (116, .val (.agg #[.bool tu, .slice Au nu cu, .slice Bu mu du])), (117, .val (.agg #[.bool tv, .slice Av nv cv, .slice Bv mv dv])), (118, .rp R), (119, .val (.bool true)), (120, .val (.bool true)), (10, .val (.bool true))] [(110, true), (113, true)] (by kernel_rfl) (by kernel_rfl) (by kernel_rfl) (by kernel_rfl) (by rfl) (by kernel_rfl) (by rfl) ?hgv15 ?hops15 ?hend15)
      case hgv15 =>
       intro p hp v V h
       simp only [List.mem_cons, List.not_mem_nil, or_false] at hp
       rcases hp with rfl | rfl
       all_goals exact h
      case hops15 =>
       intro i o a' V hB ho hev hrd
       have his : i < 13 := by have := (Array.getElem?_eq_some_iff.1 ho).1; simpa using this
       have rs := RWs.out.later hB
       have rx := RWx.out.later hB
       have ru := RWu.out.later hB
       have rv := RWv.out.later hB
       have hcr := Hcr.out.later hB
       have hu := Hu.out.later hB
       have hv := Hv.out.later hB
       have hs := Hs.out.later hB
       have hcase : i = 0 ∨ i = 1 ∨ i = 2 ∨ i = 3 ∨ i = 4 ∨ i = 5 ∨ i = 6 ∨ i = 7 ∨ i = 8 ∨ i = 9 ∨ i = 10 ∨ i = 11 ∨ i = 12 := by omega
       rcases hcase with rfl | rfl | rfl | rfl | rfl | rfl | rfl | rfl | rfl | rfl | rfl | rfl | rfl
       ·simp at ho
        subst ho
        have r11 := hev 11 rfl
        simp [Act.eval] at r11
        refine ⟨nofun, fun _ _ => trivial, nofun, .inl ⟨.bool true, V, ?_, Below.refl _ _, fun t ht => by cases ht; rfl⟩⟩
        simp [execOp, Act.eval, go_sem, r11]
       ·simp at ho
        subst ho
        have r109 : a'.eval (.tmp 109) = .bool true := hrd 109 rfl rfl
        simp [Act.eval] at r109
        refine ⟨nofun, fun _ _ => trivial, nofun, .inl ⟨.bool true, V, ?_, Below.refl _ _, fun t ht => by cases ht; rfl⟩⟩
        simp [execOp, Act.eval, go_sem, r109]
       ·simp at ho
        subst ho
        have r18 := hev 18 rfl
        simp [Act.eval] at r18
        refine ⟨nofun, fun _ _ => trivial, nofun, .inl ⟨.bool true, V, ?_, Below.refl _ _, fun t ht => by cases ht; rfl⟩⟩
        simp [execOp, Act.eval, go_sem, r18]
       ·simp at ho
        subst ho
        have r110 : a'.eval (.tmp 110) = .bool true := hrd 110 rfl rfl
        simp [Act.eval] at r110
        have r111 : a'.eval (.tmp 111) = .bool true := hrd 111 rfl rfl
        simp [Act.eval] at r111
        refine ⟨nofun, fun _ _ => trivial, nofun, .inl ⟨.bool true, V, ?_, Below.refl _ _, fun t ht => by cases ht; rfl⟩⟩
        simp [execOp, Act.eval, go_sem, r110, r111]
       ·simp at ho
        subst ho
        have r112 : a'.eval (.tmp 112) = .bool true := hrd 112 rfl rfl
        simp [Act.eval] at r112
        refine ⟨nofun, fun _ _ => trivial, nofun, .inl ⟨.bool true, V, ?_, Below.refl _ _, fun t ht => by cases ht; rfl⟩⟩
        simp [execOp, Act.eval, go_sem, r112]
       ·simp at ho
        subst ho
        have r17 := hev 17 rfl
        simp [Act.eval] at r17
        try simp [Act.put] at r17
        refine ⟨nofun, fun _ _ => trivial, nofun, .inl ⟨.agg #[.bool ts, .slice As ns cs, .slice Bs ms ds], V, exec_load 26 3 _ Tryz.underlying26 rfl Tryz.sizePt _ rfl gs [.bool ts, .slice As ns cs, .slice Bs ms ds] (by simpa [Act.eval] using r17) 26 rs rfl, Below.refl _ _, fun t ht => by cases ht; rfl⟩⟩
       ·simp at ho
        subst ho
        have r14 := hev 14 rfl
        simp [Act.eval] at r14
        try simp [Act.put] at r14
        refine ⟨nofun, fun _ _ => trivial, nofun, .inl ⟨.agg #[.slice Ap np cp, .slice An nn cn, .slice Abb nbb cbb, .slice Ax nx cx, .slice Ay ny cy, .int .i64 (D.size : Int)], V, exec_load 30 6 _ Tryz.underlying30 rfl Tryz.sizeCr _ rfl gx [.slice Ap np cp, .slice An nn cn, .slice Abb nbb cbb, .slice Ax nx cx, .slice Ay ny cy, .int .i64 (D.size : Int)] (by simpa [Act.eval] using r14) 30 rx rfl, Below.refl _ _, fun t ht => by cases ht; rfl⟩⟩
       ·simp at ho
        subst ho
        have r15 := hev 15 rfl
        simp [Act.eval] at r15
        try simp [Act.put] at r15
        refine ⟨nofun, fun _ _ => trivial, nofun, .inl ⟨.agg #[.bool tu, .slice Au nu cu, .slice Bu mu du], V, exec_load 33 3 _ Tryz.underlying33 rfl Tryz.sizeRp _ rfl gu [.bool tu, .slice Au nu cu, .slice Bu mu du] (by simpa [Act.eval] using r15) 33 ru rfl, Below.refl _ _, fun t ht => by cases ht; rfl⟩⟩
       ·simp at ho
        subst ho
        have r16 := hev 16 rfl
        simp [Act.eval] at r16
        try simp [Act.put] at r16
        refine ⟨nofun, fun _ _ => trivial, nofun, .inl ⟨.agg #[.bool tv, .slice Av nv cv, .slice Bv mv dv], V, exec_load 33 3 _ Tryz.underlying33 rfl Tryz.sizeRp _ rfl gv [.bool tv, .slice Av nv cv, .slice Bv mv dv] (by simpa [Act.eval] using r16) 33 rv rfl, Below.refl _ _, fun t ht => by cases ht; rfl⟩⟩
       ·simp at ho
        subst ho
        have r115 : a'.eval (.tmp 115) = .agg #[.slice Ap np cp, .slice An nn cn, .slice Abb nbb cbb, .slice Ax nx cx, .slice Ay ny cy, .int .i64 (D.size : Int)] := hrd 115 rfl rfl
        simp [Act.eval] at r115
        have r116 : a'.eval (.tmp 116) = .agg #[.bool tu, .slice Au nu cu, .slice Bu mu du] := hrd 116 rfl rfl
        simp [Act.eval] at r116
        have r117 : a'.eval (.tmp 117) = .agg #[.bool tv, .slice Av nv cv, .slice Bv mv dv] := hrd 117 rfl rfl
        simp [Act.eval] at r117
        refine ⟨nofun, fun _ _ => trivial, nofun, .inr ⟨18, #[.agg #[.slice Ap np cp, .slice An nn cn, .slice Abb nbb cbb, .slice Ax nx cx, .slice Ay ny cy, .int .i64 (D.size : Int)], .agg #[.bool tu, .slice Au nu cu, .slice Bu mu du], .agg #[.bool tv, .slice Av nv cv, .slice Bv mv dv]], ?_, (callsIn_wide.2 (radd_is V c D HC.out _ _ _ hcr P Q R hu hv HAP.out HAQ.out (add_lf HC.out HAP.out HAQ.out HRR.out).1 (add_lf HC.out HAP.out HAQ.out HRR.out).2)).mono ?_⟩⟩
        ·simp [execOp, Act.eval, r115, r116, r117, resolve, invoke, Deferred.ofValue]
        ·rintro e w' ⟨v, rfl, hv, hB2⟩
         exact ⟨_, rfl, hB2, fun t ht => by cases ht; exact hv⟩
       ·simp at ho
        subst ho
        have r114 : a'.eval (.tmp 114) = .agg #[.bool ts, .slice As ns cs, .slice Bs ms ds] := hrd 114 rfl rfl
        simp [Act.eval] at r114
        have r118 : Rp V (a'.eval (.tmp 118)) R := hrd 118 rfl rfl
        refine ⟨nofun, fun _ _ => trivial, nofun, .inr ⟨16, #[.agg #[.bool ts, .slice As ns cs, .slice Bs ms ds], a'.eval (.tmp 118)], ?_, (callsIn_wide.2 (is9_any V _ _ R hs r118)).mono ?_⟩⟩
        ·simp [execOp, Act.eval, r114, resolve, invoke, Deferred.ofValue]
        ·rintro e w' ⟨rfl, hB2⟩
         have hv : Value.bool true = Value.bool true := rfl
         exact ⟨_, rfl, hB2, fun t ht => by cases ht; exact hv⟩
       ·simp at ho
        subst ho
        have r113 : a'.eval (.tmp 113) = .bool true := hrd 113 rfl rfl
        simp [Act.eval] at r113
        have r119 : a'.eval (.tmp 119) = .bool true := hrd 119 rfl rfl
        simp [Act.eval] at r119
        refine ⟨nofun, fun _ _ => trivial, nofun, .inl ⟨.bool true, V, ?_, Below.refl _ _, fun t ht => by cases ht; rfl⟩⟩
        simp [execOp, Act.eval, go_sem, r113, r119]
       ·simp at ho
        subst ho
        have r120 : a'.eval (.tmp 120) = .bool true := hrd 120 rfl rfl
        simp [Act.eval] at r120
        refine ⟨nofun, fun _ _ => trivial, nofun, .inl ⟨.bool true, V, ?_, Below.refl _ _, fun t ht => by cases ht; rfl⟩⟩
        simp [execOp, Act.eval, go_sem, r120]
      case hend15 =>
       intro vals15 V15 hb hP15
       have hz : vals15 12 = .bool true := hP15 12 10 _ rfl rfl
       replace Hxs := hid (Hxs.out.later hb)
       replace Hys := hid (Hys.out.later hb)
       replace Hpg := hid (Hpg.out.later hb)
       replace Hqg := hid (Hqg.out.later hb)
       replace Hcr := hid (Hcr.out.later hb)
       replace Hu := hid (Hu.out.later hb)
       replace Hv := hid (Hv.out.later hb)
       replace Hs := hid (Hs.out.later hb)
       replace Hn := hid (Hn.out.later hb)
       replace RWp := hid (RWp.out.later hb)
       replace RWq := hid (RWq.out.later hb)
       replace RWx := hid (RWx.out.later hb)
       replace RWu := hid (RWu.out.later hb)
       replace RWv := hid (RWv.out.later hb)
       replace RWs := hid (RWs.out.later hb)
       replace RWn := hid (RWn.out.later hb)
       replace HB := hid (HB.out.trans (hb.mono HB.out.size))
       clear hb hP15
       simp [wrote, Act.put]
       rw [hz]
       go_wp2
       go_ret
       exact ⟨rfl, HB.out⟩
     ·skip
      have HAS := hid haq
      rw [show decide (hasN D.p D.b Q) = false from decide_eq_false haq]
      clear haq
      have hA : bA = false := by rw [← HbA.out]; exact decide_eq_false (fun h => HAS.out h.2)
      subst hA
      obtain rfl : R = none := by
       rcases HR.out with ⟨h, -⟩ | ⟨-, h⟩
       ·exact absurd h (of_decide_eq_false HbA.out)
       ·exact h
      obtain ⟨z1, z2, e1, -, -⟩ := Hs.out
      cases e1
      have s0 := RWs.out.at_ (i := 0) rfl
      go_wp2
      go_ret
      exact ⟨rfl, HB.out⟩
   ·skip
    have HAS := hid has
    rw [show decide (hasN D.p D.b P) = false from decide_eq_false has]
    clear has
    have hA : bA = false := by rw [← HbA.out]; exact decide_eq_false (fun h => HAS.out h.1)
    subst hA
    obtain rfl : R = none := by
     rcases HR.out with ⟨h, -⟩ | ⟨-, h⟩
     ·exact absurd h (of_decide_eq_false HbA.out)
     ·exact h
    obtain ⟨z1, z2, e1, -, -⟩ := Hs.out
    cases e1
    have hN : bN = false := by rw [← HbN.out]; exact decide_eq_false HAS.out
    subst hN
    obtain rfl : R2 = none := by
     rcases HR2.out with ⟨h, -⟩ | ⟨-, h⟩
     ·exact absurd h (of_decide_eq_false HbN.out)
     ·exact h
    obtain ⟨z1, z2, e1, -, -⟩ := Hn.out
    cases e1
    have n0 := RWn.out.at_ (i := 0) rfl
    have s0 := RWs.out.at_ (i := 0) rfl
    go_wp2
    go_ret
    exact ⟨rfl, HB.out⟩
theorem add9_walk (w : World) (c : Int) (Aa Ab : Option Addr) (na ca nb cb : Nat) (xs ys : List Nat) (ha : CutS w (.slice Aa na ca) xs) (had : Dg b64 xs) (hb : CutS w (.slice Ab nb cb) ys) (hbd : Dg b64 ys) (hal : na ≤ 1048576) (hbl : nb ≤ 1048576) (o1 o2 : Bool) : Calls Tryz.prog 3 #[.int .i64 c, .slice Aa na ca, .slice Ab nb cb, .bool o1, .bool o2] w fun e w' => RetV w (.bool true) e w' := by
 rcases h : crvOf c with _ | D
 ·exact add9_none w c h Aa Ab na ca nb cb xs ys ha had hb hbd hal hbl o1 o2
 ·exact add9_yes w c D h Aa Ab na ca nb cb xs ys ha had hb hbd hal hbl o1 o2
end Go.Proofs.YtbejcollbkeedaaGreat
