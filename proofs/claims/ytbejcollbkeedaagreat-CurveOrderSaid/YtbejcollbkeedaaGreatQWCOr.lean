/- CurveOrder, walked. -/
import Derived.Test.YtbejcollbkeedaaGreatPileAR1
set_option linter.unusedVariables false
set_option linter.unusedSimpArgs false
set_option linter.unusedSectionVars false
set_option maxRecDepth 100000
set_option maxHeartbeats 8000000
open Go.Lib (hid)
namespace Go.Proofs.YtbejcollbkeedaaGreat
open Go.RowKit
attribute [local go_sem] Oper.semAt_some
theorem ord9_none (w : World) (c : Int) (hc : crvOf c = none) (Aa : Option Addr) (na ca : Nat) (xs : List Nat) (ha : CutS w (.slice Aa na ca) xs) (had : Dg b64 xs) : Calls Tryz.prog 7 #[.int .i64 c, .slice Aa na ca] w fun e w' => RetV w (.bool true) e w' := by
 have HC := hid hc
 have hmx : Tryz.prog.follows .mixedOrders = true := by kernel_rfl
 have HAD := hid had
 have HB := hid (Below.refl w.heap.size w)
 have Hxs := hid ha
 clear hc had ha
 go_enter Tryz.func7, Tryz.ntmps7
 go_wp2_with fail
 refine (begun9_any w).mono ?_
 rintro e w1 ⟨rfl, hb⟩
 replace Hxs := hid (Hxs.out.later hb)
 replace HB := hid (HB.out.trans (hb.mono HB.out.size))
 clear hb
 go_wp2_with fail
 refine (rOf9_no w1 c HC.out).mono ?_
 rintro e w2 ⟨rfl, hb⟩
 replace Hxs := hid (Hxs.out.later hb)
 replace HB := hid (HB.out.trans (hb.mono HB.out.size))
 clear hb
 obtain ⟨W3, e3, r3, b3, s3⟩ := newS w2 30 [.slice none 0 0, .slice none 0 0, .slice none 0 0, .slice none 0 0, .slice none 0 0, .int .i64 0] _ rfl
 obtain ⟨gx, hqx⟩ : ∃ x, w2.heap.size = x := ⟨_, rfl⟩
 rw [hqx] at r3
 have HLx := hid (show w.heap.size ≤ gx by have := HB.out.size; omega)
 have HNx := hid (NoU.of_row r3 (noU6 nofun nofun nofun nofun nofun))
 replace Hxs := hid (Hxs.out.later b3)
 replace HB := hid (HB.out.trans (b3.mono HB.out.size))
 clear b3 s3
 go_wp2_with ((with_reducible show wpList _ _ _ (⟨none, _, _, _, _, _⟩ :: _) _ _); refine wlS_store rfl 30 6 Tryz.sizeCr _ _ rfl gx [.slice none 0 0, .slice none 0 0, .slice none 0 0, .slice none 0 0, .slice none 0 0, .int .i64 0] rfl rfl 30 _ r3 rfl rfl (ones6 rfl rfl rfl rfl rfl rfl) ?_; intro w3 hrx hgx hzx)
 have hsb : Sb W3 w3 := ⟨gx, HNx.out, hgx⟩
 replace Hxs := hid (Hxs.out.sb hsb)
 replace HB := hid (below_grown HB.out hgx HLx.out HB.out.size)
 have RWx := hid hrx
 clear hsb hrx hgx hzx e3 r3 hqx HNx
 refine (pt9_none w3 c HC.out _ _ _ false).mono ?_
 rintro e w4 ⟨rfl, hb⟩
 replace Hxs := hid (Hxs.out.later hb)
 replace RWx := hid (RWx.out.later hb)
 replace HB := hid (HB.out.trans (hb.mono HB.out.size))
 clear hb
 obtain ⟨W5, e5, r5, b5, s5⟩ := newS w4 26 [.bool false, .slice none 0 0, .slice none 0 0] _ rfl
 obtain ⟨gp, hqp⟩ : ∃ x, w4.heap.size = x := ⟨_, rfl⟩
 rw [hqp] at r5
 have HLp := hid (show w.heap.size ≤ gp by have := HB.out.size; omega)
 have HNExp := hid (show gx ≠ gp by have := RWx.out.lt; omega)
 have HNp := hid (NoU.of_row r5 (noU3 nofun nofun nofun))
 replace Hxs := hid (Hxs.out.later b5)
 replace RWx := hid (RWx.out.later b5)
 replace HB := hid (HB.out.trans (b5.mono HB.out.size))
 clear b5 s5
 go_wp2_with ((with_reducible show wpList _ _ _ (⟨none, _, _, _, _, _⟩ :: _) _ _); refine wlS_store rfl 26 3 Tryz.sizePt _ _ rfl gp [.bool false, .slice Aa na ca, .slice Aa na ca] rfl rfl 26 _ r5 rfl rfl (ones3 rfl rfl rfl) ?_; intro w5 hrp hgp hzp; have c5 := (RWx.out.grown hgp HNExp.out).at_ (i := 5) rfl)
 have hsb : Sb W5 w5 := ⟨gp, HNp.out, hgp⟩
 replace Hxs := hid (Hxs.out.sb hsb)
 replace RWx := hid (RWx.out.grown hgp HNExp.out)
 replace HB := hid (below_grown HB.out hgp HLp.out HB.out.size)
 have RWp := hid hrp
 clear hsb hrp hgp hzp e5 r5 hqp HNp
 go_region
 all_goals (go_wp2; go_ret; exact ⟨rfl, below_drewN HB.out 1⟩)
theorem ord9_yes (w : World) (c : Int) (D : Crv) (hc : crvOf c = some D) (Aa : Option Addr) (na ca : Nat) (xs : List Nat) (ha : CutS w (.slice Aa na ca) xs) (had : Dg b64 xs) : Calls Tryz.prog 7 #[.int .i64 c, .slice Aa na ca] w fun e w' => RetV w (.bool true) e w' := by
 have HC := hid hc
 have hmx : Tryz.prog.follows .mixedOrders = true := by kernel_rfl
 have HAD := hid had
 have HB := hid (Below.refl w.heap.size w)
 have Hxs := hid ha
 clear hc had ha
 have HLIM := hid (crv_lims HC.out)
 go_enter Tryz.func7, Tryz.ntmps7
 go_wp2_with fail
 refine (begun9_any w).mono ?_
 rintro e w1 ⟨rfl, hb⟩
 replace Hxs := hid (Hxs.out.later hb)
 replace HB := hid (HB.out.trans (hb.mono HB.out.size))
 clear hb
 go_wp2_with fail
 refine (rOf9_yes w1 c D HC.out).mono ?_
 rintro e w2 ⟨v, rfl, hcr, hb⟩
 obtain ⟨vp, vn, vb, vx, vy, rfl, k1, k2, k3, k4, k5⟩ := hcr
 obtain ⟨Ap, np, cp, rfl⟩ := k1.sl
 obtain ⟨An, nn, cn, rfl⟩ := k2.sl
 obtain ⟨Ab, nb, cb, rfl⟩ := k3.sl
 obtain ⟨Ax, nx, cx, rfl⟩ := k4.sl
 obtain ⟨Ay, ny, cy, rfl⟩ := k5.sl
 replace Hxs := hid (Hxs.out.later hb)
 replace HB := hid (HB.out.trans (hb.mono HB.out.size))
 have Hcr := hid (show Cr _ _ D from ⟨_, _, _, _, _, rfl, k1, k2, k3, k4, k5⟩)
 have Hnn := hid (k2)
 clear hb k1 k2 k3 k4 k5
 obtain ⟨W3, e3, r3, b3, s3⟩ := newS w2 30 [.slice none 0 0, .slice none 0 0, .slice none 0 0, .slice none 0 0, .slice none 0 0, .int .i64 0] _ rfl
 obtain ⟨gx, hqx⟩ : ∃ x, w2.heap.size = x := ⟨_, rfl⟩
 rw [hqx] at r3
 have HLx := hid (show w.heap.size ≤ gx by have := HB.out.size; omega)
 have HNx := hid (NoU.of_row r3 (noU6 nofun nofun nofun nofun nofun))
 replace Hxs := hid (Hxs.out.later b3)
 replace Hcr := hid (Hcr.out.later b3)
 replace Hnn := hid (Hnn.out.later b3)
 replace HB := hid (HB.out.trans (b3.mono HB.out.size))
 clear b3 s3
 go_wp2_with ((with_reducible show wpList _ _ _ (⟨none, _, _, _, _, _⟩ :: _) _ _); refine wlS_store rfl 30 6 Tryz.sizeCr _ _ rfl gx [.slice Ap np cp, .slice An nn cn, .slice Ab nb cb, .slice Ax nx cx, .slice Ay ny cy, .int .i64 (D.size : Int)] rfl rfl 30 _ r3 rfl rfl (ones6 rfl rfl rfl rfl rfl rfl) ?_; intro w3 hrx hgx hzx)
 have hsb : Sb W3 w3 := ⟨gx, HNx.out, hgx⟩
 replace Hxs := hid (Hxs.out.sb hsb)
 replace Hcr := hid (Hcr.out.sb hsb)
 replace Hnn := hid (Hnn.out.sb hsb)
 replace HB := hid (below_grown HB.out hgx HLx.out HB.out.size)
 have RWx := hid hrx
 clear hsb hrx hgx hzx e3 r3 hqx HNx
 obtain ⟨A1, n1, c1, e1, hs1⟩ := Hxs.out
 cases e1
 refine (pt9_yes w3 c D HC.out _ _ _ xs hs1 HAD.out _ rfl false).mono ?_
 rintro e w4 ⟨v, P, MP, rfl, hbp, hso, hpg, hb⟩
 obtain rfl : P = MP := by
  rcases hso with h | ⟨h, -⟩
  ·exact h
  ·cases h
 have HBP := hid hbp
 obtain ⟨t0, a0, d0, rfl, a0o, d0o⟩ := hpg.form
 clear hbp hso
 replace Hxs := hid (Hxs.out.later hb)
 replace Hcr := hid (Hcr.out.later hb)
 replace Hnn := hid (Hnn.out.later hb)
 replace RWx := hid (RWx.out.later hb)
 replace HB := hid (HB.out.trans (hb.mono HB.out.size))
 have Hpg := hid (hpg)
 clear hb hs1 hpg
 obtain ⟨W5, e5, r5, b5, s5⟩ := newS w4 26 [.bool false, .slice none 0 0, .slice none 0 0] _ rfl
 obtain ⟨gp, hqp⟩ : ∃ x, w4.heap.size = x := ⟨_, rfl⟩
 rw [hqp] at r5
 have HLp := hid (show w.heap.size ≤ gp by have := HB.out.size; omega)
 have HNExp := hid (show gx ≠ gp by have := RWx.out.lt; omega)
 have HNp := hid (NoU.of_row r5 (noU3 nofun nofun nofun))
 replace Hxs := hid (Hxs.out.later b5)
 replace Hcr := hid (Hcr.out.later b5)
 replace Hnn := hid (Hnn.out.later b5)
 replace Hpg := hid (Hpg.out.later b5)
 replace RWx := hid (RWx.out.later b5)
 replace HB := hid (HB.out.trans (b5.mono HB.out.size))
 clear b5 s5
 go_wp2_with ((with_reducible show wpList _ _ _ (⟨none, _, _, _, _, _⟩ :: _) _ _); refine wlS_store rfl 26 3 Tryz.sizePt _ _ rfl gp [.bool t0, a0, d0] rfl rfl 26 _ r5 rfl rfl (ones3 rfl a0o d0o) ?_; intro w5 hrp hgp hzp)
 have hsb : Sb W5 w5 := ⟨gp, HNp.out, hgp⟩
 replace Hxs := hid (Hxs.out.sb hsb)
 replace Hcr := hid (Hcr.out.sb hsb)
 replace Hnn := hid (Hnn.out.sb hsb)
 replace Hpg := hid (Hpg.out.sb hsb)
 replace RWx := hid (RWx.out.grown hgp HNExp.out)
 replace HB := hid (below_grown HB.out hgp HLp.out HB.out.size)
 have RWp := hid hrp
 clear hsb hrp hgp hzp e5 r5 hqp HNp
 refine (wpIn_wide (n := 9)).1 (wpIn_region_numG rfl hmx [(21, .val (.pointer (some ⟨gx, 5, none⟩))), (22, .val (.int .i64 (D.size : Int))), (23, .val (.bool false)), (24, .val (.bool false)), (25, .val (.agg #[.slice Ap np cp, .slice An nn cn, .slice Ab nb cb, .slice Ax nx cx, .slice Ay ny cy, .int .i64 (D.size : Int)])), (26, .val (.agg #[.bool t0, a0, d0])), (27, .rp P), (28, .val (.bool true)), (29, .val (.bool false)), (30, .val (.bool false))] [(24, false)] (by kernel_rfl) (by kernel_rfl) (by kernel_rfl) (by kernel_rfl) (by rfl) (by kernel_rfl) (by rfl) ?hgv4 ?hops4 ?hend4)
 case hgv4 =>
  intro p hp v V h
  simp only [List.mem_cons, List.not_mem_nil, or_false] at hp
  rcases hp with rfl
  all_goals exact h
 case hops4 =>
  intro i o a' V hB ho hev hrd
  have his : i < 10 := by have := (Array.getElem?_eq_some_iff.1 ho).1; simpa using this
  have rx := RWx.out.later hB
  have rp := RWp.out.later hB
  have hpg := Hpg.out.later hB
  have hcr := Hcr.out.later hB
  have c5 := rx.at_ (i := 5) rfl
  have hz5 : ¬ D.size = 0 := by have := HLIM.out.2.2.2.2.2.2.2.2.2; omega
  have hcase : i = 0 ∨ i = 1 ∨ i = 2 ∨ i = 3 ∨ i = 4 ∨ i = 5 ∨ i = 6 ∨ i = 7 ∨ i = 8 ∨ i = 9 := by omega
  rcases hcase with rfl | rfl | rfl | rfl | rfl | rfl | rfl | rfl | rfl | rfl
  ·simp at ho
   subst ho
   have r6 := hev 6 rfl
   simp [Act.eval] at r6
   refine ⟨nofun, fun _ _ => trivial, nofun, .inl ⟨.pointer (some ⟨gx, 5, none⟩), V, ?_, Below.refl _ _, fun t ht => by cases ht; rfl⟩⟩
   simp [execOp, Act.eval, go_sem, r6, c5]
  ·simp at ho
   subst ho
   have r21 : a'.eval (.tmp 21) = .pointer (some ⟨gx, 5, none⟩) := hrd 21 rfl rfl
   simp [Act.eval] at r21
   refine ⟨nofun, fun _ _ => trivial, nofun, .inl ⟨.int .i64 (D.size : Int), V, ?_, Below.refl _ _, fun t ht => by cases ht; rfl⟩⟩
   simp [execOp, Act.eval, go_sem, r21, c5]
  ·simp at ho
   subst ho
   have r22 : a'.eval (.tmp 22) = .int .i64 (D.size : Int) := hrd 22 rfl rfl
   simp [Act.eval] at r22
   refine ⟨nofun, fun _ _ => trivial, nofun, .inl ⟨.bool false, V, ?_, Below.refl _ _, fun t ht => by cases ht; rfl⟩⟩
   simp [execOp, Act.eval, go_sem, r22, hz5]
  ·simp at ho
   subst ho
   have r23 : a'.eval (.tmp 23) = .bool false := hrd 23 rfl rfl
   simp [Act.eval] at r23
   refine ⟨nofun, fun _ _ => trivial, nofun, .inl ⟨.bool false, V, ?_, Below.refl _ _, fun t ht => by cases ht; rfl⟩⟩
   simp [execOp, Act.eval, go_sem, r23, c5]
  ·simp at ho
   subst ho
   have r6 := hev 6 rfl
   simp [Act.eval] at r6
   try simp [Act.put] at r6
   refine ⟨nofun, fun _ _ => trivial, nofun, .inl ⟨.agg #[.slice Ap np cp, .slice An nn cn, .slice Ab nb cb, .slice Ax nx cx, .slice Ay ny cy, .int .i64 (D.size : Int)], V, exec_load 30 6 _ Tryz.underlying30 rfl Tryz.sizeCr _ rfl gx [.slice Ap np cp, .slice An nn cn, .slice Ab nb cb, .slice Ax nx cx, .slice Ay ny cy, .int .i64 (D.size : Int)] (by simpa [Act.eval] using r6) 30 rx rfl, Below.refl _ _, fun t ht => by cases ht; rfl⟩⟩
  ·simp at ho
   subst ho
   have r7 := hev 7 rfl
   simp [Act.eval] at r7
   try simp [Act.put] at r7
   refine ⟨nofun, fun _ _ => trivial, nofun, .inl ⟨.agg #[.bool t0, a0, d0], V, exec_load 26 3 _ Tryz.underlying26 rfl Tryz.sizePt _ rfl gp [.bool t0, a0, d0] (by simpa [Act.eval] using r7) 26 rp rfl, Below.refl _ _, fun t ht => by cases ht; rfl⟩⟩
  ·simp at ho
   subst ho
   have r26 : a'.eval (.tmp 26) = .agg #[.bool t0, a0, d0] := hrd 26 rfl rfl
   simp [Act.eval] at r26
   refine ⟨nofun, fun _ _ => trivial, nofun, .inr ⟨11, #[.agg #[.bool t0, a0, d0]], ?_, (callsIn_wide.2 (rFrom9_pg V _ P hpg)).mono ?_⟩⟩
   ·simp [execOp, Act.eval, r26, resolve, invoke, Deferred.ofValue]
   ·rintro e w' ⟨v, rfl, hv, hB2⟩
    exact ⟨_, rfl, hB2, fun t ht => by cases ht; exact hv⟩
  ·simp at ho
   subst ho
   have r25 : a'.eval (.tmp 25) = .agg #[.slice Ap np cp, .slice An nn cn, .slice Ab nb cb, .slice Ax nx cx, .slice Ay ny cy, .int .i64 (D.size : Int)] := hrd 25 rfl rfl
   simp [Act.eval] at r25
   have r27 : Rp V (a'.eval (.tmp 27)) P := hrd 27 rfl rfl
   refine ⟨nofun, fun _ _ => trivial, nofun, .inr ⟨15, #[.agg #[.slice Ap np cp, .slice An nn cn, .slice Ab nb cb, .slice Ax nx cx, .slice Ay ny cy, .int .i64 (D.size : Int)], a'.eval (.tmp 27)], ?_, (callsIn_wide.2 (on9_yes V c D HC.out _ _ P hcr r27)).mono ?_⟩⟩
   ·simp [execOp, Act.eval, r25, resolve, invoke, Deferred.ofValue]
   ·rintro e w' ⟨rfl, hB2⟩
    rw [show decide (hasN D.p D.b P) = true from decide_eq_true (base_has HC.out HBP.out)]
    have hv : Value.bool true = Value.bool true := rfl
    exact ⟨_, rfl, hB2, fun t ht => by cases ht; exact hv⟩
  ·simp at ho
   subst ho
   have r28 : a'.eval (.tmp 28) = .bool true := hrd 28 rfl rfl
   simp [Act.eval] at r28
   refine ⟨nofun, fun _ _ => trivial, nofun, .inl ⟨.bool false, V, ?_, Below.refl _ _, fun t ht => by cases ht; rfl⟩⟩
   simp [execOp, Act.eval, go_sem, r28, c5]
  ·simp at ho
   subst ho
   have r24 : a'.eval (.tmp 24) = .bool false := hrd 24 rfl rfl
   simp [Act.eval] at r24
   have r29 : a'.eval (.tmp 29) = .bool false := hrd 29 rfl rfl
   simp [Act.eval] at r29
   refine ⟨nofun, fun _ _ => trivial, nofun, .inl ⟨.bool false, V, ?_, Below.refl _ _, fun t ht => by cases ht; rfl⟩⟩
   simp [execOp, Act.eval, go_sem, r24, r29, c5]
 case hend4 =>
  intro vals4 V4 hb hP4
  have hz : vals4 9 = .bool false := hP4 9 30 _ rfl rfl
  replace Hxs := hid (Hxs.out.later hb)
  replace Hcr := hid (Hcr.out.later hb)
  replace Hnn := hid (Hnn.out.later hb)
  replace Hpg := hid (Hpg.out.later hb)
  replace RWx := hid (RWx.out.later hb)
  replace RWp := hid (RWp.out.later hb)
  replace HB := hid (HB.out.trans (hb.mono HB.out.size))
  clear hb hP4
  simp [wrote, Act.put]
  rw [hz]
  go_wp2_with fail
  refine (rof_b V4 1 (by decide)).mono ?_
  rintro e w6 ⟨v, rfl, hv, hb⟩
  obtain ⟨Ao, no, co, rfl⟩ := hv.sl
  replace Hxs := hid (Hxs.out.later hb)
  replace Hcr := hid (Hcr.out.later hb)
  replace Hnn := hid (Hnn.out.later hb)
  replace Hpg := hid (Hpg.out.later hb)
  replace RWx := hid (RWx.out.later hb)
  replace RWp := hid (RWp.out.later hb)
  replace HB := hid (HB.out.trans (hb.mono HB.out.size))
  have Hone := hid (hv)
  clear hb hv
  go_wp2_with fail
  refine (wpIn_wide (n := 9)).1 (wpIn_region_numS rfl hmx (fun _ => trivial) [(34, .val (.int .i64 c)), (35, .val (.pointer (some ⟨gx, 1, none⟩))), (36, .val (.slice An nn cn)), (37, .val (.slice Ao no co)), (38, .nb (D.n - 1)), (39, .num (D.n - 1)), (40, .val (.agg #[.bool t0, a0, d0])), (41, .ptT (ngN D.p P)), (33, .ptT (ngN D.p P)), (42, .pt' (ngN D.p P)), (43, .val (.bool true)), (9, .any), (10, .val (.bool true))] (by kernel_rfl) (by kernel_rfl) (by kernel_rfl) (by kernel_rfl) (by rfl) [⟨11, 12, 9, 9, 42, 26, 3, [.bool false, .slice none 0 0, .slice none 0 0]⟩] ?has7 ?hpw7 ?hops7 ?hend7)
  case has7 =>
   intro A hA
   simp only [List.mem_cons, List.not_mem_nil, or_false] at hA
   rcases hA with rfl
   exact ⟨⟨⟨_, rfl, rfl, rfl⟩, ⟨_, rfl, rfl, rfl⟩, ⟨_, rfl, rfl⟩, by decide, Tryz.sizePt, rfl, noU3 nofun nofun nofun, (fun ev o V h => by simp [execOp, h, go_sem]), (fun v V => trivial), fun v V h => Spc.pt_form v V h⟩, by rfl, by rfl⟩
  case hpw7 =>
   intro A hA A' hA'
   simp only [List.mem_cons, List.not_mem_nil, or_false] at hA hA'
   rcases hA with rfl <;> rcases hA' with rfl <;> simp
  case hops7 =>
   intro i o a' V hno hB ho hev hrd
   have n4 := hno _ (.head _)
   simp only at n4
   have his : i < 14 := by have := (Array.getElem?_eq_some_iff.1 ho).1; simpa using this
   have rx := RWx.out.later hB
   have rp := RWp.out.later hB
   have hpg := Hpg.out.later hB
   have hnn := Hnn.out.later hB
   have hone := Hone.out.later hB
   have c1 := rx.at_ (i := 1) rfl
   have hcase : i = 0 ∨ i = 1 ∨ i = 2 ∨ i = 3 ∨ i = 4 ∨ i = 5 ∨ i = 6 ∨ i = 7 ∨ i = 8 ∨ i = 9 ∨ i = 10 ∨ i = 11 ∨ i = 12 ∨ i = 13 := by omega
   rcases hcase with rfl | rfl | rfl | rfl | rfl | rfl | rfl | rfl | rfl | rfl | rfl | rfl | rfl | rfl
   ·simp at ho
    subst ho
    have r0 := hev 0 rfl
    simp [Act.eval] at r0
    refine ⟨nofun, fun _ _ => trivial, nofun, .inl ⟨.int .i64 c, V, ?_, Below.refl _ _, fun t ht => by cases ht; rfl⟩⟩
    simp [execOp, Act.eval, go_sem, r0, c1]
   ·simp at ho
    subst ho
    have r6 := hev 6 rfl
    simp [Act.eval] at r6
    refine ⟨nofun, fun _ _ => trivial, nofun, .inl ⟨.pointer (some ⟨gx, 1, none⟩), V, ?_, Below.refl _ _, fun t ht => by cases ht; rfl⟩⟩
    simp [execOp, Act.eval, go_sem, r6, c1]
   ·simp at ho
    subst ho
    have r35 : a'.eval (.tmp 35) = .pointer (some ⟨gx, 1, none⟩) := hrd 35 rfl rfl
    simp [Act.eval] at r35
    refine ⟨nofun, fun _ _ => trivial, nofun, .inl ⟨.slice An nn cn, V, ?_, Below.refl _ _, fun t ht => by cases ht; rfl⟩⟩
    simp [execOp, Act.eval, go_sem, r35, c1]
   ·simp at ho
    subst ho
    have r8 := hev 8 rfl
    simp [Act.eval] at r8
    refine ⟨nofun, fun _ _ => trivial, nofun, .inl ⟨.slice Ao no co, V, ?_, Below.refl _ _, fun t ht => by cases ht; rfl⟩⟩
    simp [execOp, Act.eval, go_sem, r8, c1]
   ·simp at ho
    subst ho
    have r36 : a'.eval (.tmp 36) = .slice An nn cn := hrd 36 rfl rfl
    simp [Act.eval] at r36
    have r37 : a'.eval (.tmp 37) = .slice Ao no co := hrd 37 rfl rfl
    simp [Act.eval] at r37
    refine ⟨nofun, fun _ _ => trivial, nofun, .inr ⟨31, #[.slice An nn cn, .slice Ao no co], ?_, (callsIn_wide.2 (rsub_b V _ _ D.n 1 hnn hone (by have := HLIM.out.2.2.2.2.2.2.2.1; omega))).mono ?_⟩⟩
    ·simp [execOp, Act.eval, r36, r37, resolve, invoke, Deferred.ofValue]
    ·rintro e w' ⟨v, rfl, hv, hB2⟩
     exact ⟨_, rfl, hB2, fun t ht => by cases ht; exact hv⟩
   ·simp at ho
    subst ho
    have r38 : Nb V (a'.eval (.tmp 38)) (D.n - 1) := hrd 38 rfl rfl
    refine ⟨nofun, fun _ _ => trivial, nofun, .inr ⟨30, #[a'.eval (.tmp 38)], ?_, (callsIn_wide.2 (to_u V _ (D.n - 1) r38 (by have h1 := HLIM.out.2.2.2.2.2.2.2.2.1; have h2 : b64 ^ 6 + 1 < b64 ^ 64 := (by decide +kernel); omega))).mono ?_⟩⟩
    ·simp [execOp, Act.eval, resolve, invoke, Deferred.ofValue]
    ·rintro e w' ⟨v, rfl, hv, hB2⟩
     exact ⟨_, rfl, hB2, fun t ht => by cases ht; exact hv⟩
   ·simp at ho
    subst ho
    have r7 := hev 7 rfl
    simp [Act.eval] at r7
    try simp [Act.put] at r7
    refine ⟨nofun, fun _ _ => trivial, nofun, .inl ⟨.agg #[.bool t0, a0, d0], V, exec_load 26 3 _ Tryz.underlying26 rfl Tryz.sizePt _ rfl gp [.bool t0, a0, d0] (by simpa [Act.eval] using r7) 26 rp rfl, Below.refl _ _, fun t ht => by cases ht; rfl⟩⟩
   ·simp at ho
    subst ho
    have r34 : a'.eval (.tmp 34) = .int .i64 c := hrd 34 rfl rfl
    simp [Act.eval] at r34
    have r39 : Nu V (a'.eval (.tmp 39)) (D.n - 1) := hrd 39 rfl rfl
    have r40 : a'.eval (.tmp 40) = .agg #[.bool t0, a0, d0] := hrd 40 rfl rfl
    simp [Act.eval] at r40
    refine ⟨nofun, fun _ _ => trivial, nofun, .inr ⟨20, #[.int .i64 c, a'.eval (.tmp 39), .agg #[.bool t0, a0, d0]], ?_, (callsIn_wide.2 (cmul_to V c D HC.out _ _ (D.n - 1) r39.gu P (ngN D.p P) hpg (base_has HC.out HBP.out) (mul_less HC.out HBP.out).1 (mul_less HC.out HBP.out).2)).mono ?_⟩⟩
    ·simp [execOp, Act.eval, r34, r40, resolve, invoke, Deferred.ofValue]
    ·rintro e w' ⟨v, rfl, hv', hB2⟩
     have hv : (Spc.ptT (ngN D.p P)).P (.tuple #[v, .bool true]) w' := ⟨_, rfl, hv'⟩
     exact ⟨_, rfl, hB2, fun t ht => by cases ht; exact hv⟩
   ·simp at ho
    subst ho
    have r41 : (Spc.ptT (ngN D.p P)).P (a'.eval (.tmp 41)) V := hrd 41 rfl rfl
    refine ⟨nofun, fun _ _ => trivial, nofun, .inl ⟨a'.eval (.tmp 41), V, ?_, Below.refl _ _, fun t ht => by cases ht; exact r41⟩⟩
    simp [execOp]
   ·simp at ho
    subst ho
    have r33 : (Spc.ptT (ngN D.p P)).P (a'.eval (.tmp 33)) V := hrd 33 rfl rfl
    obtain ⟨u, hu1, hu2⟩ := r33
    simp [Act.eval] at hu1
    refine ⟨nofun, fun _ _ => trivial, nofun, .inl ⟨u, V, ?_, Below.refl _ _, fun t ht => by cases ht; exact hu2⟩⟩
    simp [execOp, Act.eval, go_sem, hu1]
   ·simp at ho
    subst ho
    have r33 : (Spc.ptT (ngN D.p P)).P (a'.eval (.tmp 33)) V := hrd 33 rfl rfl
    obtain ⟨u, hu1, hu2⟩ := r33
    simp [Act.eval] at hu1
    refine ⟨nofun, fun _ _ => trivial, nofun, .inl ⟨.bool true, V, ?_, Below.refl _ _, fun t ht => by cases ht; rfl⟩⟩
    simp [execOp, Act.eval, go_sem, hu1]
   ·simp at ho
    subst ho
    exact absurd rfl n4.1
   ·simp at ho
    subst ho
    exact absurd rfl n4.2
   ·simp at ho
    subst ho
    have r43 : a'.eval (.tmp 43) = .bool true := hrd 43 rfl rfl
    simp [Act.eval] at r43
    refine ⟨nofun, fun _ _ => trivial, nofun, .inl ⟨.bool true, V, ?_, Below.refl _ _, fun t ht => by cases ht; rfl⟩⟩
    simp [execOp, Act.eval, go_sem, r43, c1]
  case hend7 =>
   intro vals7 V7 hb hP7 hrow7 hnex
   clear hnex
   have hm7 : Pt V7 (vals7 9) (ngN D.p P) := hP7 9 42 _ rfl rfl
   have hz : vals7 13 = .bool true := hP7 13 10 _ rfl rfl
   obtain ⟨tm, Am, nm, cm, Bm, mm, dm, eu⟩ := hm7.three'
   obtain ⟨gm, vu, eg, hg, hr, ec⟩ := hrow7 _ (.head _)
   simp only at eg ec hg hr
   obtain rfl := agg3 (ec.symm.trans eu)
   rw [eu] at hm7
   have HNExm := hid (show gx ≠ gm by have := RWx.out.lt; omega)
   have HNEpm := hid (show gp ≠ gm by have := RWp.out.lt; omega)
   replace Hxs := hid (Hxs.out.later hb)
   replace Hcr := hid (Hcr.out.later hb)
   replace Hnn := hid (Hnn.out.later hb)
   replace Hpg := hid (Hpg.out.later hb)
   replace Hone := hid (Hone.out.later hb)
   replace RWx := hid (RWx.out.later hb)
   replace RWp := hid (RWp.out.later hb)
   replace HB := hid (HB.out.trans (hb.mono HB.out.size))
   have RWm := hid hr
   have Hm := hid hm7
   clear hm7 hP7 hrow7 hr ec hg hb
   simp [wrote, Act.put]
   rw [eg, hz]
   clear eg eu
   go_wp2_with fail
   refine (wpIn_wide (n := 9)).1 (wpIn_region_numS rfl hmx (fun _ => trivial) [(45, .val (.int .i64 c)), (46, .val (.pointer (some ⟨gx, 1, none⟩))), (47, .val (.slice An nn cn)), (48, .val (.slice Ao no co)), (49, .nb (D.n + 1)), (50, .num (D.n + 1)), (51, .val (.agg #[.bool t0, a0, d0])), (52, .ptT (P)), (44, .ptT (P)), (53, .pt' (P)), (54, .val (.bool true)), (11, .any), (12, .val (.bool true))] (by kernel_rfl) (by kernel_rfl) (by kernel_rfl) (by kernel_rfl) (by rfl) [⟨11, 12, 9, 11, 53, 26, 3, [.bool false, .slice none 0 0, .slice none 0 0]⟩] ?has8 ?hpw8 ?hops8 ?hend8)
   case has8 =>
    intro A hA
    simp only [List.mem_cons, List.not_mem_nil, or_false] at hA
    rcases hA with rfl
    exact ⟨⟨⟨_, rfl, rfl, rfl⟩, ⟨_, rfl, rfl, rfl⟩, ⟨_, rfl, rfl⟩, by decide, Tryz.sizePt, rfl, noU3 nofun nofun nofun, (fun ev o V h => by simp [execOp, h, go_sem]), (fun v V => trivial), fun v V h => Spc.pt_form v V h⟩, by rfl, by rfl⟩
   case hpw8 =>
    intro A hA A' hA'
    simp only [List.mem_cons, List.not_mem_nil, or_false] at hA hA'
    rcases hA with rfl <;> rcases hA' with rfl <;> simp
   case hops8 =>
    intro i o a' V hno hB ho hev hrd
    have n4 := hno _ (.head _)
    simp only at n4
    have his : i < 14 := by have := (Array.getElem?_eq_some_iff.1 ho).1; simpa using this
    have rx := RWx.out.later hB
    have rp := RWp.out.later hB
    have hpg := Hpg.out.later hB
    have hnn := Hnn.out.later hB
    have hone := Hone.out.later hB
    have c1 := rx.at_ (i := 1) rfl
    have hcase : i = 0 ∨ i = 1 ∨ i = 2 ∨ i = 3 ∨ i = 4 ∨ i = 5 ∨ i = 6 ∨ i = 7 ∨ i = 8 ∨ i = 9 ∨ i = 10 ∨ i = 11 ∨ i = 12 ∨ i = 13 := by omega
    rcases hcase with rfl | rfl | rfl | rfl | rfl | rfl | rfl | rfl | rfl | rfl | rfl | rfl | rfl | rfl
    ·simp at ho
     subst ho
     have r0 := hev 0 rfl
     simp [Act.eval] at r0
     refine ⟨nofun, fun _ _ => trivial, nofun, .inl ⟨.int .i64 c, V, ?_, Below.refl _ _, fun t ht => by cases ht; rfl⟩⟩
     simp [execOp, Act.eval, go_sem, r0, c1]
    ·simp at ho
     subst ho
     have r6 := hev 6 rfl
     simp [Act.eval] at r6
     refine ⟨nofun, fun _ _ => trivial, nofun, .inl ⟨.pointer (some ⟨gx, 1, none⟩), V, ?_, Below.refl _ _, fun t ht => by cases ht; rfl⟩⟩
     simp [execOp, Act.eval, go_sem, r6, c1]
    ·simp at ho
     subst ho
     have r46 : a'.eval (.tmp 46) = .pointer (some ⟨gx, 1, none⟩) := hrd 46 rfl rfl
     simp [Act.eval] at r46
     refine ⟨nofun, fun _ _ => trivial, nofun, .inl ⟨.slice An nn cn, V, ?_, Below.refl _ _, fun t ht => by cases ht; rfl⟩⟩
     simp [execOp, Act.eval, go_sem, r46, c1]
    ·simp at ho
     subst ho
     have r8 := hev 8 rfl
     simp [Act.eval] at r8
     refine ⟨nofun, fun _ _ => trivial, nofun, .inl ⟨.slice Ao no co, V, ?_, Below.refl _ _, fun t ht => by cases ht; rfl⟩⟩
     simp [execOp, Act.eval, go_sem, r8, c1]
    ·simp at ho
     subst ho
     have r47 : a'.eval (.tmp 47) = .slice An nn cn := hrd 47 rfl rfl
     simp [Act.eval] at r47
     have r48 : a'.eval (.tmp 48) = .slice Ao no co := hrd 48 rfl rfl
     simp [Act.eval] at r48
     refine ⟨nofun, fun _ _ => trivial, nofun, .inr ⟨32, #[.slice An nn cn, .slice Ao no co], ?_, (callsIn_wide.2 (radd_b V _ _ D.n 1 hnn hone (by have h1 := HLIM.out.2.2.2.2.2.2.2.2.1; have h2 : b64 ^ 6 + 1 < b32 ^ 4096 := (by decide +kernel); omega))).mono ?_⟩⟩
     ·simp [execOp, Act.eval, r47, r48, resolve, invoke, Deferred.ofValue]
     ·rintro e w' ⟨v, rfl, hv, hB2⟩
      exact ⟨_, rfl, hB2, fun t ht => by cases ht; exact hv⟩
    ·simp at ho
     subst ho
     have r49 : Nb V (a'.eval (.tmp 49)) (D.n + 1) := hrd 49 rfl rfl
     refine ⟨nofun, fun _ _ => trivial, nofun, .inr ⟨30, #[a'.eval (.tmp 49)], ?_, (callsIn_wide.2 (to_u V _ (D.n + 1) r49 (by have h1 := HLIM.out.2.2.2.2.2.2.2.2.1; have h2 : b64 ^ 6 + 1 < b64 ^ 64 := (by decide +kernel); omega))).mono ?_⟩⟩
     ·simp [execOp, Act.eval, resolve, invoke, Deferred.ofValue]
     ·rintro e w' ⟨v, rfl, hv, hB2⟩
      exact ⟨_, rfl, hB2, fun t ht => by cases ht; exact hv⟩
    ·simp at ho
     subst ho
     have r7 := hev 7 rfl
     simp [Act.eval] at r7
     try simp [Act.put] at r7
     refine ⟨nofun, fun _ _ => trivial, nofun, .inl ⟨.agg #[.bool t0, a0, d0], V, exec_load 26 3 _ Tryz.underlying26 rfl Tryz.sizePt _ rfl gp [.bool t0, a0, d0] (by simpa [Act.eval] using r7) 26 rp rfl, Below.refl _ _, fun t ht => by cases ht; rfl⟩⟩
    ·simp at ho
     subst ho
     have r45 : a'.eval (.tmp 45) = .int .i64 c := hrd 45 rfl rfl
     simp [Act.eval] at r45
     have r50 : Nu V (a'.eval (.tmp 50)) (D.n + 1) := hrd 50 rfl rfl
     have r51 : a'.eval (.tmp 51) = .agg #[.bool t0, a0, d0] := hrd 51 rfl rfl
     simp [Act.eval] at r51
     refine ⟨nofun, fun _ _ => trivial, nofun, .inr ⟨20, #[.int .i64 c, a'.eval (.tmp 50), .agg #[.bool t0, a0, d0]], ?_, (callsIn_wide.2 (cmul_to V c D HC.out _ _ (D.n + 1) r50.gu P (P) hpg (base_has HC.out HBP.out) (mul_more HC.out HBP.out).1 (mul_more HC.out HBP.out).2)).mono ?_⟩⟩
     ·simp [execOp, Act.eval, r45, r51, resolve, invoke, Deferred.ofValue]
     ·rintro e w' ⟨v, rfl, hv', hB2⟩
      have hv : (Spc.ptT (P)).P (.tuple #[v, .bool true]) w' := ⟨_, rfl, hv'⟩
      exact ⟨_, rfl, hB2, fun t ht => by cases ht; exact hv⟩
    ·simp at ho
     subst ho
     have r52 : (Spc.ptT (P)).P (a'.eval (.tmp 52)) V := hrd 52 rfl rfl
     refine ⟨nofun, fun _ _ => trivial, nofun, .inl ⟨a'.eval (.tmp 52), V, ?_, Below.refl _ _, fun t ht => by cases ht; exact r52⟩⟩
     simp [execOp]
    ·simp at ho
     subst ho
     have r44 : (Spc.ptT (P)).P (a'.eval (.tmp 44)) V := hrd 44 rfl rfl
     obtain ⟨u, hu1, hu2⟩ := r44
     simp [Act.eval] at hu1
     refine ⟨nofun, fun _ _ => trivial, nofun, .inl ⟨u, V, ?_, Below.refl _ _, fun t ht => by cases ht; exact hu2⟩⟩
     simp [execOp, Act.eval, go_sem, hu1]
    ·simp at ho
     subst ho
     have r44 : (Spc.ptT (P)).P (a'.eval (.tmp 44)) V := hrd 44 rfl rfl
     obtain ⟨u, hu1, hu2⟩ := r44
     simp [Act.eval] at hu1
     refine ⟨nofun, fun _ _ => trivial, nofun, .inl ⟨.bool true, V, ?_, Below.refl _ _, fun t ht => by cases ht; rfl⟩⟩
     simp [execOp, Act.eval, go_sem, hu1]
    ·simp at ho
     subst ho
     exact absurd rfl n4.1
    ·simp at ho
     subst ho
     exact absurd rfl n4.2
    ·simp at ho
     subst ho
     have r54 : a'.eval (.tmp 54) = .bool true := hrd 54 rfl rfl
     simp [Act.eval] at r54
     refine ⟨nofun, fun _ _ => trivial, nofun, .inl ⟨.bool true, V, ?_, Below.refl _ _, fun t ht => by cases ht; rfl⟩⟩
     simp [execOp, Act.eval, go_sem, r54, c1]
   case hend8 =>
    intro vals8 V8 hb hP8 hrow8 hnex
    clear hnex
    have hm8 : Pt V8 (vals8 9) (P) := hP8 9 53 _ rfl rfl
    have hz : vals8 13 = .bool true := hP8 13 12 _ rfl rfl
    obtain ⟨tq, Aq, nq, cq, Bq, mq, dq, eu⟩ := hm8.three'
    obtain ⟨gq, vu, eg, hg, hr, ec⟩ := hrow8 _ (.head _)
    simp only at eg ec hg hr
    obtain rfl := agg3 (ec.symm.trans eu)
    rw [eu] at hm8
    have HNExq := hid (show gx ≠ gq by have := RWx.out.lt; omega)
    have HNEpq := hid (show gp ≠ gq by have := RWp.out.lt; omega)
    have HNEmq := hid (show gm ≠ gq by have := RWm.out.lt; omega)
    replace Hxs := hid (Hxs.out.later hb)
    replace Hcr := hid (Hcr.out.later hb)
    replace Hnn := hid (Hnn.out.later hb)
    replace Hpg := hid (Hpg.out.later hb)
    replace Hone := hid (Hone.out.later hb)
    replace Hm := hid (Hm.out.later hb)
    replace RWx := hid (RWx.out.later hb)
    replace RWp := hid (RWp.out.later hb)
    replace RWm := hid (RWm.out.later hb)
    replace HB := hid (HB.out.trans (hb.mono HB.out.size))
    have RWq := hid hr
    have Hq := hid hm8
    clear hm8 hP8 hrow8 hr ec hg hb
    simp [wrote, Act.put]
    rw [eg, hz]
    clear eg eu
    have p0 := RWp.out.at_ (i := 0) rfl
    have p1 := RWp.out.at_ (i := 1) rfl
    have p2 := RWp.out.at_ (i := 2) rfl
    go_wp2_with fail
    refine (cneg_is V8 c D HC.out _ P Hpg.out (base_has HC.out HBP.out)).mono ?_
    rintro e w7 ⟨v, rfl, hm, hb⟩
    obtain ⟨tn, An', nn', cn', Bn', mn', dn', rfl⟩ := hm.three'
    replace Hxs := hid (Hxs.out.later hb)
    replace Hcr := hid (Hcr.out.later hb)
    replace Hnn := hid (Hnn.out.later hb)
    replace Hpg := hid (Hpg.out.later hb)
    replace Hone := hid (Hone.out.later hb)
    replace Hm := hid (Hm.out.later hb)
    replace Hq := hid (Hq.out.later hb)
    replace RWx := hid (RWx.out.later hb)
    replace RWp := hid (RWp.out.later hb)
    replace RWm := hid (RWm.out.later hb)
    replace RWq := hid (RWq.out.later hb)
    replace HB := hid (HB.out.trans (hb.mono HB.out.size))
    have Hn := hid (hm)
    clear hb hm p0 p1 p2
    obtain ⟨W8, e8, r8, b8, s8⟩ := newS w7 26 [.bool false, .slice none 0 0, .slice none 0 0] _ rfl
    obtain ⟨gn, hqn⟩ : ∃ x, w7.heap.size = x := ⟨_, rfl⟩
    rw [hqn] at r8
    have HLn := hid (show w.heap.size ≤ gn by have := HB.out.size; omega)
    have HNExn := hid (show gx ≠ gn by have := RWx.out.lt; omega)
    have HNEpn := hid (show gp ≠ gn by have := RWp.out.lt; omega)
    have HNEmn := hid (show gm ≠ gn by have := RWm.out.lt; omega)
    have HNEqn := hid (show gq ≠ gn by have := RWq.out.lt; omega)
    have HNn := hid (NoU.of_row r8 (noU3 nofun nofun nofun))
    replace Hxs := hid (Hxs.out.later b8)
    replace Hcr := hid (Hcr.out.later b8)
    replace Hnn := hid (Hnn.out.later b8)
    replace Hpg := hid (Hpg.out.later b8)
    replace Hone := hid (Hone.out.later b8)
    replace Hm := hid (Hm.out.later b8)
    replace Hq := hid (Hq.out.later b8)
    replace Hn := hid (Hn.out.later b8)
    replace RWx := hid (RWx.out.later b8)
    replace RWp := hid (RWp.out.later b8)
    replace RWm := hid (RWm.out.later b8)
    replace RWq := hid (RWq.out.later b8)
    replace HB := hid (HB.out.trans (b8.mono HB.out.size))
    clear b8 s8
    go_wp2_with ((with_reducible show wpList _ _ _ (⟨none, _, _, _, _, _⟩ :: _) _ _); refine wlS_store rfl 26 3 Tryz.sizePt _ _ rfl gn [.bool tn, .slice An' nn' cn', .slice Bn' mn' dn'] rfl rfl 26 _ r8 rfl rfl (ones3 rfl rfl rfl) ?_; intro w8 hrn hgn hzn)
    have hsb : Sb W8 w8 := ⟨gn, HNn.out, hgn⟩
    replace Hxs := hid (Hxs.out.sb hsb)
    replace Hcr := hid (Hcr.out.sb hsb)
    replace Hnn := hid (Hnn.out.sb hsb)
    replace Hpg := hid (Hpg.out.sb hsb)
    replace Hone := hid (Hone.out.sb hsb)
    replace Hm := hid (Hm.out.sb hsb)
    replace Hq := hid (Hq.out.sb hsb)
    replace Hn := hid (Hn.out.sb hsb)
    replace RWx := hid (RWx.out.grown hgn HNExn.out)
    replace RWp := hid (RWp.out.grown hgn HNEpn.out)
    replace RWm := hid (RWm.out.grown hgn HNEmn.out)
    replace RWq := hid (RWq.out.grown hgn HNEqn.out)
    replace HB := hid (below_grown HB.out hgn HLn.out HB.out.size)
    have RWn := hid hrn
    clear hsb hrn hgn hzn e8 r8 hqn HNn
    refine (wpIn_wide (n := 9)).1 (wpIn_region_numG rfl hmx [(61, .val (.bool true)), (62, .val (.bool true)), (63, .val (.bool true)), (64, .val (.bool true)), (65, .val (.bool true)), (66, .val (.bool true)), (67, .val (.bool true)), (68, .val (.bool true)), (69, .val (.bool true)), (70, .val (.bool true)), (71, .val (.bool true)), (72, .val (.agg #[.bool tm, .slice Am nm cm, .slice Bm mm dm])), (73, .val (.agg #[.bool tn, .slice An' nn' cn', .slice Bn' mn' dn'])), (74, .rp (ngN D.p P)), (75, .val (.bool true)), (76, .val (.bool true)), (77, .val (.bool true)), (78, .val (.agg #[.bool tq, .slice Aq nq cq, .slice Bq mq dq])), (79, .val (.agg #[.bool t0, a0, d0])), (80, .rp P), (81, .val (.bool true)), (82, .val (.bool true)), (4, .val (.bool true))] [(62, true), (65, true), (68, true), (71, true), (77, true)] (by kernel_rfl) (by kernel_rfl) (by kernel_rfl) (by kernel_rfl) (by rfl) (by kernel_rfl) (by rfl) ?hgv10 ?hops10 ?hend10)
    case hgv10 =>
     intro p hp v V h
     simp only [List.mem_cons, List.not_mem_nil, or_false] at hp
     rcases hp with rfl | rfl | rfl | rfl | rfl
     all_goals exact h
    case hops10 =>
     intro i o a' V hB ho hev hrd
     have his : i < 23 := by have := (Array.getElem?_eq_some_iff.1 ho).1; simpa using this
     have rm := RWm.out.later hB
     have rn := RWn.out.later hB
     have rq := RWq.out.later hB
     have rp := RWp.out.later hB
     have hpg := Hpg.out.later hB
     have hm := Hm.out.later hB
     have hq := Hq.out.later hB
     have hn := Hn.out.later hB
     have hcase : i = 0 ∨ i = 1 ∨ i = 2 ∨ i = 3 ∨ i = 4 ∨ i = 5 ∨ i = 6 ∨ i = 7 ∨ i = 8 ∨ i = 9 ∨ i = 10 ∨ i = 11 ∨ i = 12 ∨ i = 13 ∨ i = 14 ∨ i = 15 ∨ i = 16 ∨ i = 17 ∨ i = 18 ∨ i = 19 ∨ i = 20 ∨ i = 21 ∨ i = 22 := by omega
     rcases hcase with rfl | rfl | rfl | rfl | rfl | rfl | rfl | rfl | rfl | rfl | rfl | rfl | rfl | rfl | rfl | rfl | rfl | rfl | rfl | rfl | rfl | rfl | rfl
     ·simp at ho
      subst ho
      have r5 := hev 5 rfl
      simp [Act.eval] at r5
      refine ⟨nofun, fun _ _ => trivial, nofun, .inl ⟨.bool true, V, ?_, Below.refl _ _, fun t ht => by cases ht; rfl⟩⟩
      simp [execOp, Act.eval, go_sem, r5]
     ·simp at ho
      subst ho
      have r61 : a'.eval (.tmp 61) = .bool true := hrd 61 rfl rfl
      simp [Act.eval] at r61
      refine ⟨nofun, fun _ _ => trivial, nofun, .inl ⟨.bool true, V, ?_, Below.refl _ _, fun t ht => by cases ht; rfl⟩⟩
      simp [execOp, Act.eval, go_sem, r61]
     ·simp at ho
      subst ho
      have r10 := hev 10 rfl
      simp [Act.eval] at r10
      refine ⟨nofun, fun _ _ => trivial, nofun, .inl ⟨.bool true, V, ?_, Below.refl _ _, fun t ht => by cases ht; rfl⟩⟩
      simp [execOp, Act.eval, go_sem, r10]
     ·simp at ho
      subst ho
      have r62 : a'.eval (.tmp 62) = .bool true := hrd 62 rfl rfl
      simp [Act.eval] at r62
      have r63 : a'.eval (.tmp 63) = .bool true := hrd 63 rfl rfl
      simp [Act.eval] at r63
      refine ⟨nofun, fun _ _ => trivial, nofun, .inl ⟨.bool true, V, ?_, Below.refl _ _, fun t ht => by cases ht; rfl⟩⟩
      simp [execOp, Act.eval, go_sem, r62, r63]
     ·simp at ho
      subst ho
      have r64 : a'.eval (.tmp 64) = .bool true := hrd 64 rfl rfl
      simp [Act.eval] at r64
      refine ⟨nofun, fun _ _ => trivial, nofun, .inl ⟨.bool true, V, ?_, Below.refl _ _, fun t ht => by cases ht; rfl⟩⟩
      simp [execOp, Act.eval, go_sem, r64]
     ·simp at ho
      subst ho
      have r12 := hev 12 rfl
      simp [Act.eval] at r12
      refine ⟨nofun, fun _ _ => trivial, nofun, .inl ⟨.bool true, V, ?_, Below.refl _ _, fun t ht => by cases ht; rfl⟩⟩
      simp [execOp, Act.eval, go_sem, r12]
     ·simp at ho
      subst ho
      have r65 : a'.eval (.tmp 65) = .bool true := hrd 65 rfl rfl
      simp [Act.eval] at r65
      have r66 : a'.eval (.tmp 66) = .bool true := hrd 66 rfl rfl
      simp [Act.eval] at r66
      refine ⟨nofun, fun _ _ => trivial, nofun, .inl ⟨.bool true, V, ?_, Below.refl _ _, fun t ht => by cases ht; rfl⟩⟩
      simp [execOp, Act.eval, go_sem, r65, r66]
     ·simp at ho
      subst ho
      have r67 : a'.eval (.tmp 67) = .bool true := hrd 67 rfl rfl
      simp [Act.eval] at r67
      refine ⟨nofun, fun _ _ => trivial, nofun, .inl ⟨.bool true, V, ?_, Below.refl _ _, fun t ht => by cases ht; rfl⟩⟩
      simp [execOp, Act.eval, go_sem, r67]
     ·simp at ho
      subst ho
      have r14 := hev 14 rfl
      simp [Act.eval] at r14
      refine ⟨nofun, fun _ _ => trivial, nofun, .inl ⟨.bool true, V, ?_, Below.refl _ _, fun t ht => by cases ht; rfl⟩⟩
      simp [execOp, Act.eval, go_sem, r14]
     ·simp at ho
      subst ho
      have r68 : a'.eval (.tmp 68) = .bool true := hrd 68 rfl rfl
      simp [Act.eval] at r68
      have r69 : a'.eval (.tmp 69) = .bool true := hrd 69 rfl rfl
      simp [Act.eval] at r69
      refine ⟨nofun, fun _ _ => trivial, nofun, .inl ⟨.bool true, V, ?_, Below.refl _ _, fun t ht => by cases ht; rfl⟩⟩
      simp [execOp, Act.eval, go_sem, r68, r69]
     ·simp at ho
      subst ho
      have r70 : a'.eval (.tmp 70) = .bool true := hrd 70 rfl rfl
      simp [Act.eval] at r70
      refine ⟨nofun, fun _ _ => trivial, nofun, .inl ⟨.bool true, V, ?_, Below.refl _ _, fun t ht => by cases ht; rfl⟩⟩
      simp [execOp, Act.eval, go_sem, r70]
     ·simp at ho
      subst ho
      have r9 := hev 9 rfl
      simp [Act.eval] at r9
      try simp [Act.put] at r9
      refine ⟨nofun, fun _ _ => trivial, nofun, .inl ⟨.agg #[.bool tm, .slice Am nm cm, .slice Bm mm dm], V, exec_load 26 3 _ Tryz.underlying26 rfl Tryz.sizePt _ rfl gm [.bool tm, .slice Am nm cm, .slice Bm mm dm] (by simpa [Act.eval] using r9) 26 rm rfl, Below.refl _ _, fun t ht => by cases ht; rfl⟩⟩
     ·simp at ho
      subst ho
      have r13 := hev 13 rfl
      simp [Act.eval] at r13
      try simp [Act.put] at r13
      refine ⟨nofun, fun _ _ => trivial, nofun, .inl ⟨.agg #[.bool tn, .slice An' nn' cn', .slice Bn' mn' dn'], V, exec_load 26 3 _ Tryz.underlying26 rfl Tryz.sizePt _ rfl gn [.bool tn, .slice An' nn' cn', .slice Bn' mn' dn'] (by simpa [Act.eval] using r13) 26 rn rfl, Below.refl _ _, fun t ht => by cases ht; rfl⟩⟩
     ·simp at ho
      subst ho
      have r73 : a'.eval (.tmp 73) = .agg #[.bool tn, .slice An' nn' cn', .slice Bn' mn' dn'] := hrd 73 rfl rfl
      simp [Act.eval] at r73
      refine ⟨nofun, fun _ _ => trivial, nofun, .inr ⟨11, #[.agg #[.bool tn, .slice An' nn' cn', .slice Bn' mn' dn']], ?_, (callsIn_wide.2 (rFrom9_pg V _ _ hn.pg)).mono ?_⟩⟩
      ·simp [execOp, Act.eval, r73, resolve, invoke, Deferred.ofValue]
      ·rintro e w' ⟨v, rfl, hv, hB2⟩
       exact ⟨_, rfl, hB2, fun t ht => by cases ht; exact hv⟩
     ·simp at ho
      subst ho
      have r72 : a'.eval (.tmp 72) = .agg #[.bool tm, .slice Am nm cm, .slice Bm mm dm] := hrd 72 rfl rfl
      simp [Act.eval] at r72
      have r74 : Rp V (a'.eval (.tmp 74)) (ngN D.p P) := hrd 74 rfl rfl
      refine ⟨nofun, fun _ _ => trivial, nofun, .inr ⟨16, #[.agg #[.bool tm, .slice Am nm cm, .slice Bm mm dm], a'.eval (.tmp 74)], ?_, (callsIn_wide.2 (is9_any V _ _ _ hm r74)).mono ?_⟩⟩
      ·simp [execOp, Act.eval, r72, resolve, invoke, Deferred.ofValue]
      ·rintro e w' ⟨rfl, hB2⟩
       have hv : Value.bool true = Value.bool true := rfl
       exact ⟨_, rfl, hB2, fun t ht => by cases ht; exact hv⟩
     ·simp at ho
      subst ho
      have r71 : a'.eval (.tmp 71) = .bool true := hrd 71 rfl rfl
      simp [Act.eval] at r71
      have r75 : a'.eval (.tmp 75) = .bool true := hrd 75 rfl rfl
      simp [Act.eval] at r75
      refine ⟨nofun, fun _ _ => trivial, nofun, .inl ⟨.bool true, V, ?_, Below.refl _ _, fun t ht => by cases ht; rfl⟩⟩
      simp [execOp, Act.eval, go_sem, r71, r75]
     ·simp at ho
      subst ho
      have r76 : a'.eval (.tmp 76) = .bool true := hrd 76 rfl rfl
      simp [Act.eval] at r76
      refine ⟨nofun, fun _ _ => trivial, nofun, .inl ⟨.bool true, V, ?_, Below.refl _ _, fun t ht => by cases ht; rfl⟩⟩
      simp [execOp, Act.eval, go_sem, r76]
     ·simp at ho
      subst ho
      have r11 := hev 11 rfl
      simp [Act.eval] at r11
      try simp [Act.put] at r11
      refine ⟨nofun, fun _ _ => trivial, nofun, .inl ⟨.agg #[.bool tq, .slice Aq nq cq, .slice Bq mq dq], V, exec_load 26 3 _ Tryz.underlying26 rfl Tryz.sizePt _ rfl gq [.bool tq, .slice Aq nq cq, .slice Bq mq dq] (by simpa [Act.eval] using r11) 26 rq rfl, Below.refl _ _, fun t ht => by cases ht; rfl⟩⟩
     ·simp at ho
      subst ho
      have r7 := hev 7 rfl
      simp [Act.eval] at r7
      try simp [Act.put] at r7
      refine ⟨nofun, fun _ _ => trivial, nofun, .inl ⟨.agg #[.bool t0, a0, d0], V, exec_load 26 3 _ Tryz.underlying26 rfl Tryz.sizePt _ rfl gp [.bool t0, a0, d0] (by simpa [Act.eval] using r7) 26 rp rfl, Below.refl _ _, fun t ht => by cases ht; rfl⟩⟩
     ·simp at ho
      subst ho
      have r79 : a'.eval (.tmp 79) = .agg #[.bool t0, a0, d0] := hrd 79 rfl rfl
      simp [Act.eval] at r79
      refine ⟨nofun, fun _ _ => trivial, nofun, .inr ⟨11, #[.agg #[.bool t0, a0, d0]], ?_, (callsIn_wide.2 (rFrom9_pg V _ P hpg)).mono ?_⟩⟩
      ·simp [execOp, Act.eval, r79, resolve, invoke, Deferred.ofValue]
      ·rintro e w' ⟨v, rfl, hv, hB2⟩
       exact ⟨_, rfl, hB2, fun t ht => by cases ht; exact hv⟩
     ·simp at ho
      subst ho
      have r78 : a'.eval (.tmp 78) = .agg #[.bool tq, .slice Aq nq cq, .slice Bq mq dq] := hrd 78 rfl rfl
      simp [Act.eval] at r78
      have r80 : Rp V (a'.eval (.tmp 80)) P := hrd 80 rfl rfl
      refine ⟨nofun, fun _ _ => trivial, nofun, .inr ⟨16, #[.agg #[.bool tq, .slice Aq nq cq, .slice Bq mq dq], a'.eval (.tmp 80)], ?_, (callsIn_wide.2 (is9_any V _ _ _ hq r80)).mono ?_⟩⟩
      ·simp [execOp, Act.eval, r78, resolve, invoke, Deferred.ofValue]
      ·rintro e w' ⟨rfl, hB2⟩
       have hv : Value.bool true = Value.bool true := rfl
       exact ⟨_, rfl, hB2, fun t ht => by cases ht; exact hv⟩
     ·simp at ho
      subst ho
      have r77 : a'.eval (.tmp 77) = .bool true := hrd 77 rfl rfl
      simp [Act.eval] at r77
      have r81 : a'.eval (.tmp 81) = .bool true := hrd 81 rfl rfl
      simp [Act.eval] at r81
      refine ⟨nofun, fun _ _ => trivial, nofun, .inl ⟨.bool true, V, ?_, Below.refl _ _, fun t ht => by cases ht; rfl⟩⟩
      simp [execOp, Act.eval, go_sem, r77, r81]
     ·simp at ho
      subst ho
      have r82 : a'.eval (.tmp 82) = .bool true := hrd 82 rfl rfl
      simp [Act.eval] at r82
      refine ⟨nofun, fun _ _ => trivial, nofun, .inl ⟨.bool true, V, ?_, Below.refl _ _, fun t ht => by cases ht; rfl⟩⟩
      simp [execOp, Act.eval, go_sem, r82]
    case hend10 =>
     intro vals10 V10 hb hP10
     have hz : vals10 22 = .bool true := hP10 22 4 _ rfl rfl
     replace Hxs := hid (Hxs.out.later hb)
     replace Hcr := hid (Hcr.out.later hb)
     replace Hnn := hid (Hnn.out.later hb)
     replace Hpg := hid (Hpg.out.later hb)
     replace Hone := hid (Hone.out.later hb)
     replace Hm := hid (Hm.out.later hb)
     replace Hq := hid (Hq.out.later hb)
     replace Hn := hid (Hn.out.later hb)
     replace RWx := hid (RWx.out.later hb)
     replace RWp := hid (RWp.out.later hb)
     replace RWm := hid (RWm.out.later hb)
     replace RWq := hid (RWq.out.later hb)
     replace RWn := hid (RWn.out.later hb)
     replace HB := hid (HB.out.trans (hb.mono HB.out.size))
     clear hb hP10
     simp [wrote, Act.put]
     rw [hz]
     go_wp2
     go_ret
     exact ⟨rfl, HB.out⟩
theorem ord9_walk (w : World) (c : Int) (Aa : Option Addr) (na ca : Nat) (xs : List Nat) (ha : CutS w (.slice Aa na ca) xs) (had : Dg b64 xs) : Calls Tryz.prog 7 #[.int .i64 c, .slice Aa na ca] w fun e w' => RetV w (.bool true) e w' := by
 rcases h : crvOf c with _ | D
 ·exact ord9_none w c h Aa na ca xs ha had
 ·exact ord9_yes w c D h Aa na ca xs ha had
end Go.Proofs.YtbejcollbkeedaaGreat
