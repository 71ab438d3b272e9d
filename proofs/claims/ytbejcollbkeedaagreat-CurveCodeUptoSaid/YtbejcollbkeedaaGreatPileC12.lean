/- Parts of one proof, joined: CuN, CwA, Ku, CuP, TreeB, CuQ. -/
import Derived.Test.YtbejcollbkeedaaGreatPileC11
import Derived.Test.YtbejcollbkeedaaGreatPileC6
import Derived.Test.YtbejcollbkeedaaGreatPileC10
import Derived.Test.YtbejcollbkeedaaGreatPileC8
import Derived.Test.YtbejcollbkeedaaGreatPileC2
import Derived.Test.YtbejcollbkeedaaGreatPileC3
set_option linter.unusedVariables false
set_option linter.unusedSimpArgs false
set_option linter.unusedSectionVars false
set_option maxRecDepth 100000
set_option maxHeartbeats 8000000
open Go.Lib (hid)
namespace Go.Proofs.YtbejcollbkeedaaGreat
open Go.RowKit
attribute [local go_sem] Oper.semAt_some
theorem mlN_lt {p b : Nat} (hp : 0 < p) (hb : b < p) (one : Nat × Nat × Nat) (r k0 : Nat) : ∀ j, (mlN p b one r k0 j).2.2 < p
 | 0 => hp
 | j + 1 => by
  rw [mlN]
  split
  ·exact (rcbN_lt hp hb _ _).2.2
  ·exact (rcbN_lt hp hb _ _).2.2
theorem rtSt {W w8 W9 : World} {g g5 : Nat} {vs : List Value} (hb : Below W.heap.size W w8) (hr : RowV 79 W g vs) (hno : NoU W g) (hg : w8.grownBy W9 (some g)) (h5 : g5 < W.heap.size) (hne : g < g5) :
  (∀ B, KeepsFrom B W W9) ∧ Below g W W9 ∧ ∀ A n c xs, KpX g g5 A n c xs W W9 := by
 have hno8 : NoU w8 g := fun off x hx => hno off x (by rw [← hx]; exact (hb.cell (p := ⟨g, off, none⟩) hr.lt).symm)
 have hbg : Below g W W9 := below_grown (hb.mono (Nat.le_of_lt hr.lt)) hg (Nat.le_refl _) (by have := hb.size; have := hr.lt; omega)
 refine ⟨fun B => ⟨Nat.le_trans hb.size hg.size, fun k o _ h ho => ?_⟩, hbg, fun A n c xs => ⟨hbg, ?_, fun h => (h.later hb (Nat.le_refl _)).sb ⟨g, hno8, hg⟩⟩⟩
 ·have hk := (Array.getElem?_eq_some_iff.1 h).1
  refine ((hg.block k (Nat.lt_of_lt_of_le hk hb.size) (fun e => ?_)).trans (hb.block k hk)).trans h
  injection e with e
  subst e
  rw [show W.heap[k]? = _ from hr] at h
  injection h with h
  rw [← h] at ho
  cases ho
 ·exact (hg.block g5 (Nat.lt_of_lt_of_le h5 hb.size) (fun e => by injection e with e; omega)).trans (hb.block g5 h5)
theorem cMul_yes (w : World) (c : Int) (D : Crv) (hc : crvOf c = some D) (vk vP : Value) (kN : Nat) (hk : NumR w 64 kN vk) (P : Option (Nat × Nat)) (hP : Pg w vP P) (has : hasN D.p D.b P) (hn : 1 < D.n) (hnl : D.n < b64 ^ 64) (rN : Nat) (hrN : kN % D.n = rN) :
  Calls Tryz.prog 20 #[.int .i64 c, vk, vP] w fun e w' => ∃ v k0, e = .returned (.tuple #[v, .bool true]) ∧ IsBits rN k0 ∧ PtS D.p (mlN D.p D.b (rtN P) rN k0 k0) v w' ∧ Below w.heap.size w w' := by
 have hmx : Tryz.prog.follows .mixedOrders = true := by kernel_rfl
 have hok := crv_ok hc
 obtain ⟨iP, bP, dP, rfl⟩ := hP.ex
 obtain ⟨W0, e0, r0, b0, s0⟩ := newS w 26 [.bool iP, bP, dP] _ rfl
 obtain ⟨gP, hgP⟩ : ∃ x, w.heap.size = x := ⟨_, rfl⟩
 obtain ⟨W1, e1, r1, b1, s1⟩ := newS W0 26 [.bool false, .slice none 0 0, .slice none 0 0] _ rfl
 obtain ⟨gr, hgr⟩ : ∃ x, W0.heap.size = x := ⟨_, rfl⟩
 obtain ⟨W2, e2, r2, b2, s2⟩ := newS W1 26 [.bool iP, bP, dP] _ rfl
 obtain ⟨gs, hgs⟩ : ∃ x, W1.heap.size = x := ⟨_, rfl⟩
 rw [hgP] at r0
 rw [hgr] at r1
 rw [hgs] at r2
 have hbw : Below w.heap.size w W2 := ((b0).trans (b1.mono (b0).size)).trans (b2.mono ((b0).trans (b1.mono (b0).size)).size)
 have qgP := ((r0.later b1).later b2)
 have qgr := (r1.later b2)
 have qgs := r2
 have HB := hid hbw
 have HGL := hid (show w.heap.size ≤ gr ∧ gP < gr ∧ gr < W2.heap.size ∧ gP < W2.heap.size by omega)
 have hP3 := hP.later hbw
 have HPP := hid hP3
 have HRP := hid qgP
 have HRR := hid qgr
 have pp0 := (r0.later b1).at_ (i := 0) rfl
 have p0 := qgP.at_ (i := 0) rfl
 have pp1 := (r0.later b1).at_ (i := 1) rfl
 have p1 := qgP.at_ (i := 1) rfl
 have pp2 := (r0.later b1).at_ (i := 2) rfl
 have p2 := qgP.at_ (i := 2) rfl
 have HK := hid (hk.later hbw)
 have HN := hid (And.intro hn hnl)
 have HRN0 := hid hrN
 clear hk hn hnl hrN
 have HDW := hid (domW_any W2 c D hc hok.1 gs 1 1 [(.bool iP, bP, dP)] [P] rfl (by decide) rfl (PtsV.one qgs) (by
  intro k a b d R h1 h2
  rcases k with _ | k
  ·simp at h1 h2
   obtain ⟨rfl, rfl, rfl⟩ := h1
   subst h2
   exact hP3
  ·simp at h1))
 have HOK := hid hok
 have Hhas := hid has
 clear has b0 s0 r0 b1 s1 r1 b2 s2 r2 hbw qgP qgs qgr hok hc hP hP3
 refine (callsIn_wide (n := 9)).1 ?_
 refine callsIn_of_wp_marks Tryz.func20 rfl trivial ?_ rfl
 simp only [Tryz.ntmps20, List.size_toArray, List.length_cons, List.length_nil, Nat.reduceAdd, Nat.reduceSub, Array.replicate_succ, Array.replicate_zero, List.push_toArray, List.append_toArray, List.nil_append, List.cons_append]
 gi_wp2_with fail
 refine ⟨trivial, (callsIn_wide.2 HDW.out).mono ?_⟩
 rintro e w1 (⟨vd, rfl, hvd, hall, hb1⟩ | ⟨rfl, ⟨R, hR, hRn⟩, hb1⟩)
 rotate_left
 ·exfalso
  simp only [List.mem_cons, List.not_mem_nil, or_false] at hR
  subst hR
  exact hRn Hhas.out
 ·skip
  obtain ⟨vp, vb, vn, vx, vy, rfl, k1, k2, k3, k4, k5⟩ := hvd
  obtain ⟨Ap, np, cp, rfl⟩ := k1.sl
  obtain ⟨Ab, nb, cb, rfl⟩ := k2.sl
  obtain ⟨An, nn, cn, rfl⟩ := k3.sl
  obtain ⟨Ax, nx, cx, rfl⟩ := k4.sl
  obtain ⟨Ay, ny, cy, rfl⟩ := k5.sl
  have HDM := hid (show Dm w1 _ D from ⟨_, _, _, _, _, rfl, k1, k2, k3, k4, k5⟩)
  obtain ⟨W5, e5, r5, b5, s5⟩ := newS w1 73 [.int .i64 0, .slice none 0 0, .slice none 0 0, .slice none 0 0, .bool false, .slice none 0 0, .slice none 0 0] _ rfl
  obtain ⟨g8, hg8⟩ : ∃ x, w1.heap.size = x := ⟨_, rfl⟩
  rw [hg8] at r5
  have HB5 := hid b5
  have HB1 := hid hb1
  have HG8 := hid (show W2.heap.size ≤ g8 by have := hb1.size; omega)
  have HNU := hid (NoU.of_row r5 (by intro v hv x; simp only [List.mem_cons, List.not_mem_nil, or_false] at hv; rcases hv with rfl | rfl | rfl | rfl | rfl | rfl | rfl <;> (intro h; cases h)))
  clear k1 k2 k3 k4 k5 hall hb1 b5 s5 p0 p1 p2 pp0 pp1 pp2
  gi_wp2_with ((with_reducible show wpListIn _ _ _ _ _ (⟨none, _, _, _, _, _⟩ :: _) _ _); refine wlSI_store rfl 73 7 Tryz.sizeDom _ _ rfl g8 [.int .i64 (D.size : Int), .slice Ap np cp, .slice Ab nb cb, .slice An nn cn, .bool false, .slice Ax nx cx, .slice Ay ny cy] rfl rfl 73 _ r5 rfl rfl (by intro v hv; simp only [List.mem_cons, List.not_mem_nil, or_false] at hv; rcases hv with rfl | rfl | rfl | rfl | rfl | rfl | rfl <;> rfl) ?_; intro w6 hr6 hg6 hz)
  have hsb : Sb W5 w6 := ⟨g8, HNU.out, hg6⟩
  have HDM6 := hid ((HDM.out.later HB5.out).sb hsb)
  have HP6 := hid (((HPP.out.later HB1.out).later HB5.out).sb hsb)
  have HRP6 := hid (((HRP.out.later HB1.out).later HB5.out).grown hg6 (by have := HG8.out; have := HGL.out; omega))
  have HR8 := hid hr6
  have hbw1 := HB.out.trans (HB1.out.mono HB.out.size)
  have hbw5 := hbw1.trans (HB5.out.mono hbw1.size)
  have HBW := hid (below_grown hbw5 hg6 (by have := HG8.out; have := HGL.out; omega) hbw5.size)
  have HR := hid (((HRR.out.later HB1.out).later HB5.out).grown hg6 (by have := HG8.out; have := HGL.out; omega))
  have HNO6 := hid (NoU.of_row HR.out (noU3 nofun nofun nofun))
  have HNE := hid (show gP ≠ gr ∧ g8 ≠ gr by have := HG8.out; have := HGL.out; omega)
  have HK6 := hid (((HK.out.later HB1.out).later HB5.out).sb hsb)
  clear hsb hbw1 hbw5 HDM HB5 HB1 HPP HRP HRR hr6 hg6 hz HNU
  obtain ⟨kb, hkb⟩ := bits_ex kN
  have hkb2 : (kb : Int) ≤ 4096 := by
   have h1 := HK6.out.lt
   have : ¬ Lg 4096 kN := not_lg h1
   have h2 : ¬ 4096 < kb := fun h => this ((bits_gt (q := 4096) hkb).1 h)
   omega
  have HKB := hid hkb
  have HBI := hid (bits_u w6 vk kN HK6.out)
  clear hkb
  gi_wp2_with fail
  refine ⟨trivial, (callsIn_wide.2 HBI.out).mono ?_⟩
  rintro e w7 ⟨kb', rfl, hkb', rfl⟩
  obtain rfl : kb' = kb := hkb'.unique HKB.out
  have hkb3 : ¬ (4096 : Int) < kb' := by omega
  have f3 := HR8.out.at_ (i := 3) rfl
  have HMO := hid (mod_u w6 vk (.slice An nn cn) kN D.n HK6.out (by
   obtain ⟨_, _, _, _, _, he, _, _, h3, _⟩ := HDM6.out
   injection he with he
   simp at he
   obtain ⟨_, _, ⟨rfl, rfl, rfl⟩, _⟩ := he
   exact h3.gu) (by have := HN.out.1; omega))
  clear hkb' HBI
  gi_wp2_with fail
  refine ⟨trivial, (callsIn_wide.2 HMO.out).mono ?_⟩
  rintro e w7 ⟨vr, rfl, hvr, hb7⟩
  rw [HRN0.out] at hvr
  obtain ⟨Ar, nr, cr, rfl⟩ := hvr.sl
  have HVR7 := hid hvr
  have HP7 := hid (HP6.out.later hb7)
  have HDM7 := hid (HDM6.out.later hb7)
  have HRP7 := hid (HRP6.out.later hb7)
  have HR87 := hid (HR8.out.later hb7)
  have HR7 := hid (HR.out.later hb7)
  have HBW7 := hid (HBW.out.trans (hb7.mono HBW.out.size))
  have pq0 := HRP7.out.at_ (i := 0) rfl
  have pq1 := HRP7.out.at_ (i := 1) rfl
  have pq2 := HRP7.out.at_ (i := 2) rfl
  have HRO := hid (crof_any w7 (.agg #[.bool iP, bP, dP]) P HP7.out)
  clear hvr hb7 f3 HMO HDM6 HP6 HRP6 HR8 HR HBW HNO6 hkb2 hkb3 HK6
  gi_wp2_with fail
  refine ⟨trivial, (callsIn_wide.2 HRO.out).mono ?_⟩
  rintro e w8 ⟨v1, rfl, hv1, hb8⟩
  gi_wp2_with fail
  refine ⟨trivial, (callsIn_wide.2 (cinf_any w8)).mono ?_⟩
  rintro e w9 ⟨rfl, hb9⟩
  gi_wp2_with fail
  refine ⟨trivial, (callsIn_wide.2 (crof_any w9 inf0 none ⟨_, _, rfl, rfl, rfl⟩)).mono ?_⟩
  rintro e w10 ⟨v2, rfl, hv2, hb10⟩
  have hv1' := (hv1.later hb9).later hb10
  have hb78 := hb8.trans ((hb9.trans (hb10.mono hb9.size)).mono hb8.size)
  obtain ⟨A0, B0, C0, rfl, oa0, ob0, oc0, nu0⟩ := hv1'.three
  obtain ⟨A2, B2, C2, rfl, oa2, ob2, oc2, nu2⟩ := hv2.three
  obtain ⟨Wa, ea, ra, ba, sa⟩ := newS w10 79 [.slice none 0 0, .slice none 0 0, .slice none 0 0] _ rfl
  obtain ⟨g12, hg12⟩ : ∃ x, w10.heap.size = x := ⟨_, rfl⟩
  rw [hg12] at ra
  obtain ⟨Wb, eb, rb, bb, sb⟩ := newS Wa 79 [.slice none 0 0, .slice none 0 0, .slice none 0 0] _ rfl
  obtain ⟨g13, hg13⟩ : ∃ x, Wa.heap.size = x := ⟨_, rfl⟩
  rw [hg13] at rb
  have rab := ra.later bb
  have hlt : g12 < g13 ∧ g13 < Wb.heap.size ∧ w7.heap.size ≤ g12 := by have := hb78.size; omega
  have HLT := hid hlt
  have HO1 := hid (ones3 oa0 ob0 oc0)
  have HO2 := hid (ones3 oa2 ob2 oc2)
  have HNUA := hid (noU3 nu0.1 nu0.2.1 nu0.2.2)
  have HNUZ := hid (NoU.of_row rab (noU3 nofun nofun nofun))
  have HZD := hid (HDM7.out.later hb78)
  have HZ1 := hid hv1'
  have HZ8 := hid (HR87.out.later hb78)
  have HZB := hid (ba.trans (bb.mono ba.size))
  have HZL := hid (show w10.heap.size ≤ g12 by omega)
  have HV1 := hid ((hv1'.later ba).later bb)
  have HV2 := hid ((hv2.later ba).later bb)
  have hbb := hb78.trans ((ba.trans (bb.mono ba.size)).mono hb78.size)
  have HBB := hid hbb
  clear hv1 hb8 hb9 hb10 hv1' hv2 hb78 oa0 ob0 oc0 nu0 oa2 ob2 oc2 nu2 ba bb sa sb hlt ra pq0 pq1 pq2 HRO hbb
  gi_wp2_with (first | ((with_reducible show wpListIn _ _ _ _ _ (⟨none, _, _, _, _, _⟩ :: _) _ _); refine wlSI_store rfl 79 3 Tryz.sizeRt _ _ rfl g12 [A0, B0, C0] rfl rfl 79 _ rab rfl rfl HO1.out ?_; intro w11 hr11 hg11 hz; have rb2 := rb.grown hg11 (by have := HLT.out; omega)) | ((with_reducible show wpListIn _ _ _ _ _ (⟨none, _, _, _, _, _⟩ :: _) _ _); refine wlSI_store rfl 79 3 Tryz.sizeRt _ _ rfl g13 [A2, B2, C2] rfl rfl 79 _ rb2 rfl rfl HO2.out ?_; intro w12 hr12 hg12' hz))
  have hsb1 : Sb Wb w11 := ⟨g12, HNUZ.out, hg11⟩
  have hnz2 : NoU w11 g13 := NoU.of_row rb2 (noU3 nofun nofun nofun)
  have hsb2 : Sb w11 w12 := ⟨g13, hnz2, hg12'⟩
  have HR12 := hid (hr11.grown hg12' (by have := HLT.out; omega))
  have HV1' := hid ((HV1.out.sb hsb1).sb hsb2)
  have HV2' := hid ((HV2.out.sb hsb1).sb hsb2)
  have HVR := hid (((HVR7.out.later HBB.out).sb hsb1).sb hsb2)
  have HDM := hid (((HDM7.out.later HBB.out).sb hsb1).sb hsb2)
  have hlt8 := HR87.out.lt
  have hltr := HR7.out.lt
  have HR8 := hid (((HR87.out.later HBB.out).grown hg11 (by have := HLT.out; omega)).grown hg12' (by have := HLT.out; omega))
  have HR := hid (((HR7.out.later HBB.out).grown hg11 (by have := HLT.out; omega)).grown hg12' (by have := HLT.out; omega))
  have hbwb := HBW7.out.trans (HBB.out.mono HBW7.out.size)
  have hbw11 := below_grown hbwb hg11 (by have := HLT.out; have := HBW7.out.size; omega) hbwb.size
  have HBW := hid (below_grown hbw11 hg12' (by have := HLT.out; have := HBW7.out.size; omega) hbw11.size)
  have hz11 := below_grown HZB.out hg11 HZL.out HZB.out.size
  have HZW := hid (below_grown hz11 hg12' (by have := HZL.out; have := HLT.out; omega) hz11.size)
  have HR13 := hid hr12
  have HORD := hid (show g8 < g13 ∧ gr < g13 ∧ g12 < g13 ∧ g13 < w12.heap.size ∧ w.heap.size ≤ g13 by have := HLT.out; have := HBW7.out.size; have := hg12'.size; have := hg11.size; omega)
  clear hz11 HZB hsb1 hnz2 hsb2 hr11 hg11 hr12 hg12' hz HV1 HV2 HVR7 HDM7 HR87 HR7 HBW7 HBB HNUZ hlt8 hltr hbwb hbw11 rb rb2 HRP7 HP7 ea eb rab HLT hg12 hg13
  obtain ⟨ys, A9, n9, c9, heq, hs9, hn9, hl9⟩ := HVR.out
  injection heq with e1 e2 e3
  subst e1 e2 e3
  have hea := each_new w12 _ _ _ _ _ hs9 hn9.1 (by omega)
  rw [hn9.2.2] at hea
  have HEA := hid hea
  clear hea hs9 hn9 hl9
  gi_wp2_with fail
  refine ⟨trivial, (callsIn_wide.2 HEA.out).mono ?_⟩
  rintro e w13 ⟨g5, A5, n5, c5, ys5, rfl, hN5, hg5, hgn, hc5, hs5, hb13⟩
  obtain ⟨k0, hk0⟩ := bits_ex rN
  have HRN := hid (show rN < b64 ^ 64 from Nat.lt_trans (by rw [← HRN0.out]; exact Nat.mod_lt _ (by have := HN.out.1; omega)) HN.out.2)
  have hk1 : k0 ≤ 4096 := Classical.byContradiction fun h => not_lg HRN.out ((bits_gt (q := 4096) hk0).1 (by omega))
  have hn5 : n5 ≤ 64 := by
   rw [hs5.len]
   exact hN5.length_le (by decide) HRN.out
  have hes := eachX_stops 8 (by decide) g5 g13 n5 c5 A5 ys5 k0 (by rw [hN5.2.2]; exact hk0) hN5.1 (by omega) (by omega) w13 hg5 hc5 hs5
  rw [hN5.2.2] at hes
  have HZX := hid (HZW.out.trans (hb13.mono HZW.out.size))
  have HO := hid (show w10.heap.size ≤ g13 ∧ g8 < g13 ∧ gr < g13 ∧ g12 < g13 ∧ g13 < w13.heap.size ∧ w.heap.size ≤ g13 ∧ g13 < g5 ∧ g5 < w13.heap.size ∧ w12.heap.size ≤ w13.heap.size by have := HORD.out; have := hb13.size; have := HZL.out; omega)
  have HJ0 := hid (show MlJ g13 k0 D.p D.b (rtN P) rN [] w13 from ⟨A2, B2, C2, rtN none, HR13.out.later hb13, HV2'.out.later hb13, fun _ => rfl⟩)
  have HES := hid hes
  have HK0 := hid hk0
  have HC5 := hid hc5
  have HS5 := hid hs5
  have H12 := hid (HR12.out.later hb13)
  have HO1' := hid (HV1'.out.later hb13)
  have HDM1 := hid (HDM.out.later hb13)
  have H8 := hid (HR8.out.later hb13)
  have HRR := hid (HR.out.later hb13)
  have HBX := hid (HBW.out.trans (hb13.mono HBW.out.size))
  clear hes hk0 hN5 hc5 hs5 hb13 hk1 hn5 hgn HR12 HV1' HV2' HVR HDM HR8 HR HBW HR13 HORD HEA
  gi_wp2_with fail
  refine wpIn_rangeFunc_ownG rfl (by omega) (gf := 86) (lb := #[.pointer (some ⟨g5, 0, none⟩)]) rfl trivial (enters_of Tryz.func86 (by kernel_rfl) rfl)
   HES.out KpX.trans (KpX.put (by have := HO.out; omega) hg5) (Below.refl _ _) (fun _ => rfl)
   (fun pre W => MlJ g13 k0 D.p D.b (rtN P) rN pre W ∧ Below g13 w13 W)
   (fun _ _ _ => False)
   (OwnFrom.and (Own.from (fun s A B row hs hg hr => by
    obtain ⟨v0, v1, v2, T, e1, e2, e3⟩ := hs
    exact ⟨v0, v1, v2, T, e1.kept hg hr, e2.kept hg hr, e3⟩) _) (ownFrom_below (by have := HO.out; omega) (by have := HO.out; omega)))
   (fun _ _ _ _ _ hs _ _ => hs)
   ⟨HJ0.out, Below.refl _ _⟩
   ?a1x ?assign ?body ?done ?stop
  case assign =>
   intro l x W K hK
   gi_wp2
   exact hK
  case body =>
   rintro l pre x W ⟨⟨v0, v1, v2, T, e1, e2, e3⟩, hBW⟩ hpl
   have hzW : Below w10.heap.size w10 W := HZX.out.trans (hBW.mono (by have := HO.out; omega))
   have r8 := HZ8.out.later hzW
   have f0 := r8.at_ (i := 0) rfl
   have f1 := r8.at_ (i := 1) rfl
   have f2 := r8.at_ (i := 2) rfl
   have f3 := r8.at_ (i := 3) rfl
   have f4 := r8.at_ (i := 4) rfl
   have f5 := r8.at_ (i := 5) rfl
   have f6 := r8.at_ (i := 6) rfl
   have t0 := e1.at_ (i := 0) rfl
   have t1 := e1.at_ (i := 1) rfl
   have t2 := e1.at_ (i := 2) rfl
   have HADD := hid (cadd_any W D T T _ _ _ (HZD.out.later hzW) e2 e2 (by have := HOK.out.1.1; omega) HOK.out.1.2.1 HOK.out.1.2.2)
   have HE1 := hid e1
   have HE2 := hid e2
   have HE3 := hid e3
   have HBWW := hid hBW
   have HZWW := hid hzW
   have hno : NoU3 v0 v1 v2 := by
    obtain ⟨q1, q2, q3⟩ := e2.parts
    exact ⟨slU q1, slU q2, slU q3⟩
   have HNOW := hid hno
   have HPL := hid hpl
   obtain ⟨i, hi⟩ := x
   obtain ⟨bv, hbv⟩ : ∃ bv, rN / 2 ^ i % 2 = bv := ⟨_, rfl⟩
   have hb2 : bv = 0 ∨ bv = 1 := by have := Nat.mod_lt (rN / 2 ^ i) (show 0 < 2 by decide); omega
   have HBV := hid hbv
   have hbi : (rN : Int) / 2 ^ i % 2 = (bv : Int) := by rw [← hbv]; simp
   have hbit : ∀ (hin : (pre ++ [(⟨i, hi⟩ : Ix k0)]).map (·.1) = downL k0 (pre ++ [(⟨i, hi⟩ : Ix k0)]).length), pre.map (·.1) = downL k0 pre.length ∧ i = k0 - (pre.length + 1) := by
    intro h
    rw [List.length_append, List.length_singleton, downL_succ, List.map_append] at h
    obtain ⟨h1, h2⟩ := List.append_inj' h rfl
    exact ⟨h1, by simp at h2; omega⟩
   have HBIT := hid hbit
   clear e2 e3 hBW hzW r8 hno hpl hbv hbit e1
   gi_wp2_with fail
   refine ⟨trivial, (CallsIn.inRound l (callsIn_wide.2 HADD.out)).mono ?_⟩
   rintro e w20 ⟨va, rfl, hva, hb20⟩
   obtain ⟨A20, B20, C20, rfl, oa, ob, oc, nu20⟩ := hva.three
   have HON := hid (ones3 oa ob oc)
   have HVA := hid hva
   have HB20 := hid hb20
   have hr20 := HE1.out.later hb20
   clear hva oa ob oc hb20 f0 f1 f2 f3 f4 f5 f6 t0 t1 t2
   have hnoW : NoU W g13 := NoU.of_row HE1.out (noU3 HNOW.out.1 HNOW.out.2.1 HNOW.out.2.2)
   have hno20 : NoU w20 g13 := NoU.of_row hr20 (noU3 HNOW.out.1 HNOW.out.2.1 HNOW.out.2.2)
   have HN20 := hid (And.intro hnoW hno20)
   have hg5W : g5 < W.heap.size := by have := HO.out; have := HBWW.out.size; omega
   have HG5W := hid hg5W
   clear hnoW hno20 hg5W
   rcases hb2 with h0 | h1
   ·subst h0
    gi_wp2_with ((with_reducible show wpListIn _ _ _ _ _ (⟨none, _, _, _, _, _⟩ :: _) _ _); refine wlSI_store rfl 79 3 Tryz.sizeRt _ _ rfl g13 [A20, B20, C20] rfl rfl 79 _ hr20 rfl rfl HON.out ?_; intro w21 hr21 hg21 hz)
    obtain ⟨s1, s2, s3⟩ := rtSt (g5 := g5) HB20.out HE1.out HN20.out.1 hg21 HG5W.out (by have := HO.out; omega)
    refine ⟨s1 _, s3 _ _ _ _, ⟨A20, B20, C20, _, hr21, HVA.out.sb ⟨g13, HN20.out.2, hg21⟩, fun hin => ?_⟩, HBWW.out.trans s2⟩
    obtain ⟨h1, h2⟩ := HBIT.out hin
    have h3 := HE3.out h1
    rw [List.length_append, List.length_singleton]
    show _ = mlN _ _ _ _ _ (pre.length + 1)
    rw [mlN, ← h2, HBV.out, if_neg (by decide), ← h3]
   ·subst h1
    have r8' := HZ8.out.later HZWW.out
    have r12' : RowV 79 W g12 [A0, B0, C0] := H12.out.below HBWW.out (by have := HO.out; omega)
    have HR8W := hid (r8'.later HB20.out)
    have HR12W := hid (r12'.later HB20.out)
    have HNEE := hid (show g8 ≠ g13 ∧ g12 ≠ g13 by have := HO.out; omega)
    clear r8' r12'
    gi_wp2_with ((with_reducible show wpListIn _ _ _ _ _ (⟨none, _, _, _, _, _⟩ :: _) _ _); refine wlSI_store rfl 79 3 Tryz.sizeRt _ _ rfl g13 [A20, B20, C20] rfl rfl 79 _ hr20 rfl rfl HON.out ?_; intro w21 hr21 hg21 hz; have q8 := HR8W.out.grown hg21 HNEE.out.1; have q12 := HR12W.out.grown hg21 HNEE.out.2; have f0 := q8.at_ (i := 0) rfl; have f1 := q8.at_ (i := 1) rfl; have f2 := q8.at_ (i := 2) rfl; have f3 := q8.at_ (i := 3) rfl; have f4 := q8.at_ (i := 4) rfl; have f5 := q8.at_ (i := 5) rfl; have f6 := q8.at_ (i := 6) rfl; have t0 := hr21.at_ (i := 0) rfl; have t1 := hr21.at_ (i := 1) rfl; have t2 := hr21.at_ (i := 2) rfl; have u0 := q12.at_ (i := 0) rfl; have u1 := q12.at_ (i := 1) rfl; have u2 := q12.at_ (i := 2) rfl)
    have hsb21 : Sb w20 w21 := ⟨g13, HN20.out.2, hg21⟩
    have HVA21 := hid (HVA.out.sb hsb21)
    have HADD2 := hid (cadd_any w21 D (rcbN D.p D.b T T) (rtN P) _ _ _ (((HZD.out.later HZWW.out).later HB20.out).sb hsb21) HVA21.out (((HZ1.out.later HZWW.out).later HB20.out).sb hsb21) (by have := HOK.out.1.1; omega) HOK.out.1.2.1 HOK.out.1.2.2)
    have HR21 := hid hr21
    have HG21 := hid hg21
    have hnu21 : NoU3 A20 B20 C20 := by
     obtain ⟨q1, q2, q3⟩ := HVA.out.parts
     exact ⟨slU q1, slU q2, slU q3⟩
    have HNU21 := hid hnu21
    clear hsb21 hr21 hg21 hz f0 f1 f2 f3 f4 f5 f6 t0 t1 t2 u0 u1 u2 q8 q12 hnu21
    refine ⟨trivial, (CallsIn.inRound l (callsIn_wide.2 HADD2.out)).mono ?_⟩
    rintro e w22 ⟨vb2, rfl, hvb, hb22⟩
    obtain ⟨A22, B22, C22, rfl, oa, ob, oc, nu22⟩ := hvb.three
    have HON2 := hid (ones3 oa ob oc)
    have HVB := hid hvb
    have HB22 := hid hb22
    have hr22 := HR21.out.later hb22
    clear hvb oa ob oc hb22
    gi_wp2_with ((with_reducible show wpListIn _ _ _ _ _ (⟨none, _, _, _, _, _⟩ :: _) _ _); refine wlSI_store rfl 79 3 Tryz.sizeRt _ _ rfl g13 [A22, B22, C22] rfl rfl 79 _ hr22 rfl rfl HON2.out ?_; intro w23 hr23 hg23 hz)
    obtain ⟨s1, s2, s3⟩ := rtSt (g5 := g5) HB20.out HE1.out HN20.out.1 HG21.out HG5W.out (by have := HO.out; omega)
    have hno21 : NoU w21 g13 := NoU.of_row HR21.out (noU3 HNU21.out.1 HNU21.out.2.1 HNU21.out.2.2)
    have hno22 : NoU w22 g13 := NoU.of_row hr22 (noU3 HNU21.out.1 HNU21.out.2.1 HNU21.out.2.2)
    obtain ⟨z1, z2, z3⟩ := rtSt (g5 := g5) HB22.out HR21.out hno21 hg23 (by have := HG5W.out; have := s2.size; omega) (by have := HO.out; omega)
    refine ⟨(s1 _).trans (z1 _), (s3 _ _ _ _).trans (z3 _ _ _ _), ⟨A22, B22, C22, _, hr23, HVB.out.sb ⟨g13, hno22, hg23⟩, fun hin => ?_⟩, HBWW.out.trans (s2.trans z2)⟩
    obtain ⟨h1, h2⟩ := HBIT.out hin
    have h3 := HE3.out h1
    rw [List.length_append, List.length_singleton]
    show _ = mlN _ _ _ _ _ (pre.length + 1)
    rw [mlN, ← h2, HBV.out, if_pos rfl, ← h3]
  case done =>
   rintro E ds W hD hds ⟨⟨v0, v1, v2, T, e1, e2, e3⟩, hBW⟩ hK
   have hl : ds.length = k0 := by have h := congrArg List.length hds; rwa [List.length_map, downL_length] at h
   have hfin := e3 (by rw [hl]; exact hds)
   rw [hl] at hfin
   have hzW : Below w10.heap.size w10 W := HZX.out.trans (hBW.mono (by have := HO.out; omega))
   have r8 := HZ8.out.later hzW
   have f0 := r8.at_ (i := 0) rfl
   have f1 := r8.at_ (i := 1) rfl
   have f2 := r8.at_ (i := 2) rfl
   have f3 := r8.at_ (i := 3) rfl
   have f4 := r8.at_ (i := 4) rfl
   have f5 := r8.at_ (i := 5) rfl
   have f6 := r8.at_ (i := 6) rfl
   have t0 := e1.at_ (i := 0) rfl
   have t1 := e1.at_ (i := 1) rfl
   have t2 := e1.at_ (i := 2) rfl
   have HPT := hid (cpt_any W D T _ _ (HZD.out.later hzW) e2 (by have := HOK.out.1.1; omega) (fun h0 => cop_lt HOK.out.2 (by rw [hfin]; exact mlN_lt (by have := HOK.out.1.1; omega) HOK.out.1.2.2 _ _ _ _) h0))
   have HFIN := hid hfin
   have HRW := hid (show RowV 26 W gr [.bool false, .slice none 0 0, .slice none 0 0] from HRR.out.below hBW (by have := HO.out; omega))
   have HBWW := hid hBW
   have HKD := hid hK
   have HDD := hid hD
   have HNEE := hid (show E ≠ gr by have h1 : w13.heap.size ≤ E := hD; have := HO.out; omega)
   clear e3 e2 hfin hzW r8 hl hds hBW hK hD e1
   gi_wp2_with fail
   refine ⟨trivial, (callsIn_wide.2 HPT.out).mono ?_⟩
   rintro e w24 ⟨v, R, rfl, hR, hv, hb24⟩
   obtain ⟨A24, B24, C24, rfl, oa, ob, oc, nu24⟩ := hv.three
   have HON3 := hid (ones3 oa ob oc)
   have HV := hid hv
   have HRP := hid hR
   have HB24 := hid hb24
   have hr24 := HRW.out.later hb24
   clear hv hR oa ob oc nu24 hb24 f0 f1 f2 f3 f4 f5 f6 t0 t1 t2
   gi_wp2_with ((with_reducible show wpListIn _ _ _ _ _ (⟨none, _, _, _, _, _⟩ :: _) _ _); refine wlSI_store rfl 26 3 Tryz.sizePt _ _ rfl gr [A24, B24, C24] rfl rfl 26 _ hr24 rfl rfl HON3.out ?_; intro w25 hr25 hg25 hz)
   have hltE := (Array.getElem?_eq_some_iff.1 HKD.out).1
   have hK25 : w25.heap[E]? = _ := (hg25.block E (Nat.lt_of_lt_of_le hltE HB24.out.size) (fun e => by injection e with e; exact HNEE.out e)).trans ((HB24.out.block E hltE).trans HKD.out)
   refine ⟨by simp, .inl ⟨_, _, rfl, run_takeDeferred hK25, ?_⟩⟩
   have hgp := grownBy_putObj' w25 E (.deferred none)
   have hgr2 : ∀ r', some E = some r' → ∃ o, w25.heap[r']? = some o ∧ o.isCells = false := fun r' e => by cases e; exact ⟨_, hK25, rfl⟩
   have hrF := hr25.kept hgp hgr2
   refine ⟨_, results_pt2 rfl _ gr _ rfl hrF rfl, _, k0, rfl, HK0.out, ⟨R, by rw [← HFIN.out]; exact HRP.out, (HV.out.sb ⟨gr, NoU.of_row hr24 (noU3 nofun nofun nofun), hg25⟩).kept hgp hgr2⟩, ?_⟩
   have hb1 := HBX.out.trans (HBWW.out.mono (by have := HO.out; omega))
   have hb2 := hb1.trans (HB24.out.mono hb1.size)
   have hb3 := below_grown hb2 hg25 HGL.out.1 hb2.size
   exact below_grown hb3 hgp (by have h1 : w13.heap.size ≤ E := HDD.out; have := HBX.out.size; omega) hb3.size
  case stop =>
   rintro E c' pre W _ _ h _
   exact h.elim
end Go.Proofs.YtbejcollbkeedaaGreat
namespace Go.Proofs.YtbejcollbkeedaaGreat
open Lean.Grind Cw
section
variable {p : Nat} [NeZero p]
theorem sub_add_p {K : Type} [CommRing K] (x y : K) : x + 0 - y = x - y := by grind
theorem zp_sumN (a b : Nat) : zp p (sumN p a b) = zp p a + zp p b := by
 unfold sumN
 split
 ·next h =>
  rw [zp_sub h, zp_add, zp_p]
  generalize zp p a + zp p b = x
  grind
 ·exact zp_add a b
theorem zp_difN {a b : Nat} (h : b ≤ a + p) : zp p (difN p a b) = zp p a - zp p b := by
 unfold difN
 split
 ·next h1 => exact zp_sub h1
 ·rw [zp_sub h, zp_add, zp_p, sub_add_p]
theorem zp_mulP (a b : Nat) : zp p (mulP p a b) = zp p a * zp p b := by rw [mulP, zp_mod, zp_mul]
theorem zp_mm (a b : Nat) : zp p (a * b % p) = zp p a * zp p b := by rw [zp_mod, zp_mul]
theorem zp_subP {a b : Nat} (h : b ≤ a + p) : zp p (subP p a b) = zp p a - zp p b := by
 rw [subP, zp_mod, zp_sub h, zp_add, zp_p, sub_add_p]
def zt (p : Nat) [NeZero p] (T : Nat × Nat × Nat) : Fin p × Fin p × Fin p := (zp p T.1, zp p T.2.1, zp p T.2.2)
omit [NeZero p] in
theorem le_ap {a b : Nat} (h : b < p) : b ≤ a + p := Nat.le_trans (Nat.le_of_lt h) (Nat.le_add_left _ _)
def lfp (p : Nat) [NeZero p] : Option (Nat × Nat) → Option (Fin p × Fin p)
 | none => none
 | some (x, y) => some (zp p x, zp p y)
def Inp (p : Nat) : Option (Nat × Nat) → Prop
 | none => True
 | some (x, y) => x < p ∧ y < p
theorem cubic_is {K : Type} [CommRing K] (x b : K) : x * (x * x - 3) + b = x * x * x - 3 * x + b := by grind
theorem has_iff {b : Nat} (hp3 : 3 ≤ p) (hb : b < p) (P : Option (Nat × Nat)) : hasN p b P ↔ Inp p P ∧ onC (zp p b) (lfp p P) := by
 rcases P with _ | ⟨x, y⟩
 ·exact ⟨fun _ => ⟨trivial, trivial⟩, fun _ => trivial⟩
 ·have hp : 0 < p := by omega
  have m : ∀ x, x % p < p := fun x => Nat.mod_lt x hp
  have e1 : zp p (y * y % p) = zp p y * zp p y := zp_mm _ _
  have e2 : zp p (sumN p (x * difN p (x * x % p) 3 % p) b) = zp p x * zp p x * zp p x - 3 * zp p x + zp p b := by
   rw [zp_sumN, zp_mm, zp_difN (by omega), zp_mm, zp_3]
   exact cubic_is _ _
  have hl : sumN p (x * difN p (x * x % p) 3 % p) b < p := sumN_lt (m _) hb
  constructor
  ·rintro ⟨h1, h2, h3⟩
   refine ⟨⟨h1, h2⟩, ?_⟩
   show zp p y * zp p y = zp p x * zp p x * zp p x - 3 * zp p x + zp p b
   rw [← e1, ← e2, h3]
  ·rintro ⟨⟨h1, h2⟩, h3⟩
   refine ⟨h1, h2, zp_inj (m _) hl ?_⟩
   rw [e1, e2]
   exact h3
theorem on_iff {D : Crv} [NeZero D.p] (hb : D.b < D.p) (P : Option (Nat × Nat)) : onP D P ↔ Inp D.p P ∧ onC (zp D.p D.b) (lfp D.p P) := by
 rcases P with _ | ⟨x, y⟩
 ·exact ⟨fun _ => ⟨trivial, trivial⟩, fun _ => trivial⟩
 ·have hp : 0 < D.p := by omega
  have m : ∀ x, x % D.p < D.p := fun x => Nat.mod_lt x hp
  have e1 : zp D.p (mulP D.p y y) = zp D.p y * zp D.p y := zp_mulP _ _
  have e2 : zp D.p ((subP D.p (mulP D.p (mulP D.p x x) x) (mulP D.p 3 x) + D.b) % D.p) = zp D.p x * zp D.p x * zp D.p x - 3 * zp D.p x + zp D.p D.b := by
   rw [zp_mod, zp_add, zp_subP (b := mulP D.p 3 x) (le_ap (m _)), zp_mulP, zp_mulP, zp_mulP, zp_3]
  constructor
  ·rintro ⟨h1, h2, h3⟩
   refine ⟨⟨h1, h2⟩, ?_⟩
   show zp D.p y * zp D.p y = zp D.p x * zp D.p x * zp D.p x - 3 * zp D.p x + zp D.p D.b
   rw [← e1, ← e2, show mulP D.p y y = _ from h3]
  ·rintro ⟨⟨h1, h2⟩, h3⟩
   refine ⟨h1, h2, zp_inj (m _) (m _) ?_⟩
   rw [e1, e2]
   exact h3
variable {b : Nat} (C : Cv (Fin p) (zp p b))
include C
end
end Go.Proofs.YtbejcollbkeedaaGreat
namespace Go.Proofs.YtbejcollbkeedaaGreat
open Go.RowKit
def PartsV (w : World) (B : Nat) (A : Option Addr) (n c : Nat) (pss : List (List (BitVec 8))) : Prop :=
 ∃ vs, SlV w B A n c vs ∧ vs.length = pss.length ∧ ∀ (i : Nat) (v : Value) (ps : List (BitVec 8)), vs[i]? = some v → pss[i]? = some ps → ∃ Ai ni ci, v = .slice Ai ni ci ∧ SlV w B Ai ni ci (ps.map W8) ∧ (Ai = none → ci = 0)
theorem PartsV.below {w w' : World} {B n c : Nat} {A : Option Addr} {pss : List (List (BitVec 8))} (h : PartsV w B A n c pss) (hb : Below B w w') : PartsV w' B A n c pss := by
 obtain ⟨vs, h1, h2, h3⟩ := h
 exact ⟨vs, h1.below hb, h2, fun i v ps hv hp => by
  obtain ⟨Ai, ni, ci, e, hs, hz⟩ := h3 i v ps hv hp
  exact ⟨Ai, ni, ci, e, hs.below hb, hz⟩⟩
theorem PartsV.at_ {w : World} {B n c : Nat} {A : Option Addr} {pss : List (List (BitVec 8))} (h : PartsV w B A n c pss) {i : Nat} (hi : i < n) :
  ∃ b off ps Ai ni ci, A = some ⟨b, off, none⟩ ∧ b < B ∧ pss[i]? = some ps ∧ w.cell? ⟨b, off + i, none⟩ = some (.slice Ai ni ci) ∧ SlV w B Ai ni ci (ps.map W8) ∧ (Ai = none → ci = 0) := by
 obtain ⟨vs, h1, h2, h3⟩ := h
 obtain ⟨b, off, v, e, hb, hv, hc⟩ := h1.at_ hi
 have hip : i < pss.length := by have := (List.getElem?_eq_some_iff.1 hv).1; omega
 obtain ⟨Ai, ni, ci, rfl, hs, hz⟩ := h3 i v _ hv (List.getElem?_eq_getElem hip)
 exact ⟨b, off, _, Ai, ni, ci, e, hb, List.getElem?_eq_getElem hip, hc, hs, hz⟩
theorem PartsV.len {w : World} {B n c : Nat} {A : Option Addr} {pss : List (List (BitVec 8))} (h : PartsV w B A n c pss) : n = pss.length := by
 obtain ⟨vs, h1, h2, _⟩ := h
 rw [h1.len, h2]
theorem flat_take_le (pss : List (List (BitVec 8))) (j : Nat) : ((pss.take j).flatten).length ≤ pss.flatten.length := by
 have h := congrArg (fun l => (List.flatten l).length) (List.take_append_drop j pss)
 simp only [List.flatten_append, List.length_append] at h
 omega
theorem flat_take_succ {pss : List (List (BitVec 8))} {j : Nat} {ps : List (BitVec 8)} (h : pss[j]? = some ps) : (pss.take (j + 1)).flatten = (pss.take j).flatten ++ ps := by
 rw [List.take_add_one, h, List.flatten_append]; simp
theorem concat_any (w : World) (B : Nat) (A : Option Addr) (n c : Nat) (pss : List (List (BitVec 8))) (hs : PartsV w B A n c pss) (hB : B ≤ w.heap.size) (hn : n ≤ 1000000) (hlen : pss.flatten.length ≤ 17592186044416) :
  Calls Tryz.prog 62 #[.slice A n c] w fun e w' => ∃ v, e = .returned v ∧ w'.ownsRow w.heap.size 5 1 v pss.flatten.length (pss.flatten.map W8) ∧ Below w.heap.size w w' := by
 obtain ⟨G, hG⟩ : ∃ g, w.heap.size = g := ⟨_, rfl⟩
 have hnl := hs.len
 have hnI : (n : Int) ≤ 1000000 := by omega
 have HS := hid hs
 have HN := hid hnl
 have HG := hid hG
 have HLEN := hid hlen
 have HB := hid hB
 clear hs hnl hG hlen hB hn
 go_enter Tryz.func62, Tryz.ntmps62
 go_wp2
 go_loopw [3, 11] (fun s i wr => w = wr ∧ ∃ j L : Nat, j ≤ n ∧ i = .int .i64 (j : Int) ∧ s = .int .i64 (L : Int) ∧ Hid (((pss.take j).flatten).length = L) ∧ L ≤ 17592186044416) (fun _ i _ => n - (intOf i).toNat)
 case atStart => exact ⟨rfl, 0, 0, by omega, rfl, rfl, hid (by simp), by omega⟩
 case round =>
  obtain ⟨rfl, j, L, hj, rfl, rfl, HL, hL⟩ := hrel
  have hLI : (L : Int) ≤ 17592186044416 := by omega
  by_cases hjn : j = n
  ·subst hjn
   have HLT : Hid (pss.flatten.length = L) := hid (by have := HL.out; rwa [List.take_of_length_le (Nat.le_of_eq HN.out.symm)] at this)
   clear HL
   go_wp2_with fail
   refine (grow_both _ L hL).mono ?_
   rintro e w2 ⟨v0, rfl, hown, hb⟩
   rw [HG.out] at hown hb
   go_wp2
   go_loopw [6, 27] (fun v i wr => ∃ k Lk : Nat, k ≤ j ∧ i = .int .i64 (k : Int) ∧ Hid (((pss.take k).flatten).length = Lk) ∧ Lk ≤ 17592186044416 ∧ Hid (wr.ownsRow G 5 1 v Lk (((pss.take k).flatten).map W8)) ∧ Hid (Below G w wr)) (fun _ i _ => j - (intOf i).toNat)
   case atStart => exact ⟨0, 0, by omega, rfl, hid (by simp), by omega, hid (by simpa using hown), hid hb⟩
   case round =>
    clear hown hb
    obtain ⟨k, Lk, hk, rfl, HLk, hLk, HOWN, HBR⟩ := hrel
    have hkI : (k : Int) ≤ 1000000 := by omega
    by_cases hkn : k = j
    ·subst hkn
     go_wp2
     go_ret
     rw [HG.out]
     have h1 := HOWN.out
     have h2 := HLk.out
     rw [List.take_of_length_le (Nat.le_of_eq HN.out.symm)] at h1 h2
     rw [← h2] at h1
     exact ⟨_, rfl, h1, HBR.out⟩
    ·have hki : (k : Int) < j := by omega
     have hBG : B ≤ G := by have := HB.out; have := HG.out; omega
     obtain ⟨b, off, ps, Ai, ni, ci, rfl, hbB, hps, hcl, hsi, hzi⟩ := ((HS.out.below (HBR.out.mono hBG)).at_ (i := k) (by omega))
     have hfl := flat_take_succ hps
     have hle := flat_take_le pss (k + 1)
     have hnil : ps.length = ni := by simpa using hsi.len.symm
     have hL2 : ((pss.take (k + 1)).flatten).length = Lk + ni := by rw [hfl, List.length_append, HLk.out, hnil]
     have hsum : Lk + ni ≤ 17592186044416 := by have := HLEN.out; omega
     have hGs : G ≤ wr.heap.size := by have := HBR.out.size; have := HG.out; omega
     have HFL := hid hfl
     have HL2 := hid hL2
     have HSUM := hid hsum
     have HGS := hid hGs
     have hown := HOWN.out
     clear hfl hL2 hle hnil hps hsum
     go_wp2_with (at_builtin; refine wlv_append Tryz.elem8 rfl _ _ rfl G _ Lk (((pss.take k).flatten).map W8) rfl hown Ai ni ci _ rfl hzi B hsi (ones8 _) (by have := HSUM.out; omega) hGs ?_; intro v3 w3 hown3 hgr)
     have hb3 := HBR.out.grown hgr HGS.out (fun q hq => (hown.lt q hq).1)
     rw [← List.map_append, ← HFL.out] at hown3
     have HO3 := hid hown3
     have HB3 := hid hb3
     clear hown3 hgr hb3 hown hsi
     go_wp2
     go_roundw
     case rel => exact ⟨k + 1, Lk + ni, by omega, by go_num, HL2, HSUM.out, HO3, HB3⟩
     case measure => simp [intOf]; omega
  ·have hji : (j : Int) < n := by omega
   obtain ⟨b, off, ps, Ai, ni, ci, rfl, hbB, hps, hcl, hsi, hzi⟩ := (HS.out.at_ (i := j) (by omega))
   have hfl := flat_take_succ hps
   have hle := flat_take_le pss (j + 1)
   have hnil : ps.length = ni := by simpa using hsi.len.symm
   have hL2 : ((pss.take (j + 1)).flatten).length = L + ni := by rw [hfl, List.length_append, HL.out, hnil]
   have hsum : L + ni ≤ 17592186044416 := by have := HLEN.out; omega
   have hsumI : (L : Int) + ni ≤ 17592186044416 := by omega
   have HL2 := hid hL2
   have HSUM := hid hsum
   clear hfl hL2 hle hnil hps hsum hsi hzi
   go_wp2
   go_roundw
   case rel => exact ⟨by first | rfl | trivial, j + 1, L + ni, by omega, by go_num, by go_num, HL2, HSUM.out⟩
   case measure => simp [intOf]; omega
def beW (n N : Nat) : List (BitVec 8) := (be n N).map fun x => BitVec.ofNat 8 x
theorem beW_W8 (n N : Nat) : (beW n N).map W8 = (be n N).map U8 := by
 unfold beW
 rw [List.map_map]
 refine List.map_congr_left fun x hx => ?_
 have := be_lt n N x hx
 simp [i8, BitVec.toNat_ofNat, Nat.mod_eq_of_lt this]
theorem bytes_u (w : World) (a : Value) (x : Nat) (ha : NumR w 64 x a) (m : Nat) (hm : m ≤ 65536) (hlt : x < 256 ^ m) (hm0 : 0 < m) :
  Calls Tryz.prog 61 #[a, .int .i64 (m : Int)] w fun e w' => ∃ g, e = .returned (.tuple #[.slice (some ⟨g, 0, none⟩) m m, .bool true]) ∧ RowV 5 w' g ((beW m x).map W8) ∧ Below w.heap.size w w' := by
 obtain ⟨xs, A, n, c, rfl, hs, hd, rfl, hn⟩ := ha
 refine (bytes_yes w _ (Nat.le_refl _) _ _ _ _ hs hd (by omega) m hm hlt).mono ?_
 rintro e w' ⟨g, rfl, hr, hb⟩
 refine ⟨g, rfl, ?_, hb⟩
 rw [beW_W8]
 exact hr
def encN (s : Nat) : Option (Nat × Nat) → List (BitVec 8)
 | none => [0]
 | some (x, y) => 4 :: (beW s x ++ beW s y)
theorem cEnc_none (w : World) (c : Int) (hc : crvOf c = none) (vP : Value) (hP : P3 vP) :
  Calls Tryz.prog 24 #[.int .i64 c, vP] w fun e w' => e = .returned (.tuple #[.slice none 0 0, .bool false]) ∧ Below w.heap.size w w' := by
 have hmx : Tryz.prog.follows .mixedOrders = true := by kernel_rfl
 obtain ⟨iP, bP, dP, rfl, hi1, hi2, hi3⟩ := hP
 obtain ⟨W0, e0, r0, b0, s0⟩ := newS w 26 [iP, bP, dP] _ rfl
 obtain ⟨gP, hgP⟩ : ∃ x, w.heap.size = x := ⟨_, rfl⟩
 obtain ⟨W1, e1, r1, b1, s1⟩ := newS W0 26 [iP, bP, dP] _ rfl
 obtain ⟨gs, hgs⟩ : ∃ x, W0.heap.size = x := ⟨_, rfl⟩
 rw [hgP] at r0
 rw [hgs] at r1
 have hbw : Below w.heap.size w W1 := (b0).trans (b1.mono (b0).size)
 have qgP := (r0.later b1)
 have qgs := r1
 have HB := hid hbw
 have HGL := hid (show w.heap.size ≤ gP ∧ gP < W1.heap.size by omega)
 have HRP := hid qgP
 have pp0 := r0.at_ (i := 0) rfl
 have p0 := qgP.at_ (i := 0) rfl
 have pp1 := r0.at_ (i := 1) rfl
 have p1 := qgP.at_ (i := 1) rfl
 have pp2 := r0.at_ (i := 2) rfl
 have p2 := qgP.at_ (i := 2) rfl
 have HDW := hid (domW_no W1 c hc (.slice (some ⟨gs, 0, none⟩) 1 1))
 clear  b0 s0 r0 b1 s1 r1 hbw qgP qgs hc
 go_enter Tryz.func24, Tryz.ntmps24
 go_wp2_with fail
 refine HDW.out.mono ?_
 rintro e w1 ⟨rfl, hb1⟩
 obtain ⟨W5, e5, r5, b5, s5⟩ := newS w1 73 [.int .i64 0, .slice none 0 0, .slice none 0 0, .slice none 0 0, .bool false, .slice none 0 0, .slice none 0 0] _ rfl
 obtain ⟨g8, hg8⟩ : ∃ x, w1.heap.size = x := ⟨_, rfl⟩
 rw [hg8] at r5
 have HB5 := hid b5
 have HB1 := hid hb1
 have HG8 := hid (show W1.heap.size ≤ g8 by have := hb1.size; omega)
 clear hb1 b5 s5 p0 p1 p2 pp0 pp1 pp2
 go_wp2_with ((with_reducible show wpList _ _ _ (⟨none, _, _, _, _, _⟩ :: _) _ _); refine wlS_store rfl 73 7 Tryz.sizeDom _ _ rfl g8 [.int .i64 0, .slice none 0 0, .slice none 0 0, .slice none 0 0, .bool false, .slice none 0 0, .slice none 0 0] rfl rfl 73 _ r5 rfl rfl (by intro v hv; simp only [List.mem_cons, List.not_mem_nil, or_false] at hv; rcases hv with rfl | rfl | rfl | rfl | rfl | rfl | rfl <;> rfl) ?_; intro w6 hr6 hg6 hz)
 have hbw1 := HB.out.trans (HB1.out.mono HB.out.size)
 have hbw5 := hbw1.trans (HB5.out.mono hbw1.size)
 have HBW := hid (below_grown hbw5 hg6 (by have := HG8.out; have := HGL.out; omega) hbw5.size)
 refine bodyPost_ret (results_tmp2 rfl _ _ _) rfl ?_
 exact ⟨rfl, HBW.out⟩
theorem cEnc_no (w : World) (c : Int) (D : Crv) (hc : crvOf c = some D) (vP : Value) (P : Option (Nat × Nat)) (hP : Pg w vP P) (hno : ¬ hasN D.p D.b P) :
  Calls Tryz.prog 24 #[.int .i64 c, vP] w fun e w' => e = .returned (.tuple #[.slice none 0 0, .bool false]) ∧ Below w.heap.size w w' := by
 have hmx : Tryz.prog.follows .mixedOrders = true := by kernel_rfl
 have hok := crv_ok hc
 obtain ⟨iP, bP, dP, rfl⟩ := hP.ex
 obtain ⟨W0, e0, r0, b0, s0⟩ := newS w 26 [.bool iP, bP, dP] _ rfl
 obtain ⟨gP, hgP⟩ : ∃ x, w.heap.size = x := ⟨_, rfl⟩
 obtain ⟨W1, e1, r1, b1, s1⟩ := newS W0 26 [.bool iP, bP, dP] _ rfl
 obtain ⟨gs, hgs⟩ : ∃ x, W0.heap.size = x := ⟨_, rfl⟩
 rw [hgP] at r0
 rw [hgs] at r1
 have hbw : Below w.heap.size w W1 := (b0).trans (b1.mono (b0).size)
 have qgP := (r0.later b1)
 have qgs := r1
 have HB := hid hbw
 have HGL := hid (show w.heap.size ≤ gP ∧ gP < W1.heap.size by omega)
 have hP3 := hP.later hbw
 have HPP := hid hP3
 have HRP := hid qgP
 have pp0 := r0.at_ (i := 0) rfl
 have p0 := qgP.at_ (i := 0) rfl
 have pp1 := r0.at_ (i := 1) rfl
 have p1 := qgP.at_ (i := 1) rfl
 have pp2 := r0.at_ (i := 2) rfl
 have p2 := qgP.at_ (i := 2) rfl
 have HDW := hid (domW_any W1 c D hc hok.1 gs 1 1 [(.bool iP, bP, dP)] [P] rfl (by decide) rfl (PtsV.one qgs) (by
  intro k a b d R h1 h2
  rcases k with _ | k
  ·simp at h1 h2
   obtain ⟨rfl, rfl, rfl⟩ := h1
   subst h2
   exact hP3
  ·simp at h1))
 have HOK := hid hok
 have Hhno := hid hno
 clear hno b0 s0 r0 b1 s1 r1 hbw qgP qgs hok hc hP hP3
 go_enter Tryz.func24, Tryz.ntmps24
 go_wp2_with fail
 refine HDW.out.mono ?_
 rintro e w1 (⟨vd, rfl, hvd, hall, hb1⟩ | ⟨rfl, ⟨R, hR, hRn⟩, hb1⟩)
 ·exact absurd (hall P (by simp)) Hhno.out
 ·clear hR hRn
  obtain ⟨W5, e5, r5, b5, s5⟩ := newS w1 73 [.int .i64 0, .slice none 0 0, .slice none 0 0, .slice none 0 0, .bool false, .slice none 0 0, .slice none 0 0] _ rfl
  obtain ⟨g8, hg8⟩ : ∃ x, w1.heap.size = x := ⟨_, rfl⟩
  rw [hg8] at r5
  have HB5 := hid b5
  have HB1 := hid hb1
  have HG8 := hid (show W1.heap.size ≤ g8 by have := hb1.size; omega)
  clear hb1 b5 s5 p0 p1 p2 pp0 pp1 pp2
  go_wp2_with ((with_reducible show wpList _ _ _ (⟨none, _, _, _, _, _⟩ :: _) _ _); refine wlS_store rfl 73 7 Tryz.sizeDom _ _ rfl g8 [.int .i64 0, .slice none 0 0, .slice none 0 0, .slice none 0 0, .bool false, .slice none 0 0, .slice none 0 0] rfl rfl 73 _ r5 rfl rfl (by intro v hv; simp only [List.mem_cons, List.not_mem_nil, or_false] at hv; rcases hv with rfl | rfl | rfl | rfl | rfl | rfl | rfl <;> rfl) ?_; intro w6 hr6 hg6 hz)
  have hbw1 := HB.out.trans (HB1.out.mono HB.out.size)
  have hbw5 := hbw1.trans (HB5.out.mono hbw1.size)
  have HBW := hid (below_grown hbw5 hg6 (by have := HG8.out; have := HGL.out; omega) hbw5.size)
  refine bodyPost_ret (results_tmp2 rfl _ _ _) rfl ?_
  exact ⟨rfl, HBW.out⟩
theorem cEnc_inf (w : World) (c : Int) (D : Crv) (hc : crvOf c = some D) (vP : Value) (P : Option (Nat × Nat)) (hP : Pg w vP P) (hPn : P = none) :
  Calls Tryz.prog 24 #[.int .i64 c, vP] w fun e w' => ∃ v, e = .returned (.tuple #[v, .bool true]) ∧ w'.ownsRow w.heap.size 5 1 v (encN D.size P).length ((encN D.size P).map W8) ∧ Below w.heap.size w w' := by
 have has : hasN D.p D.b P := by subst hPn; trivial
 have hmx : Tryz.prog.follows .mixedOrders = true := by kernel_rfl
 have hok := crv_ok hc
 obtain ⟨iP, bP, dP, rfl⟩ := hP.ex
 have hiP : iP = true := by
  subst hPn
  obtain ⟨a, b, e, _⟩ := hP
  injection e with e
  simp at e
  exact e.1
 subst hiP
 subst hPn
 obtain ⟨W0, e0, r0, b0, s0⟩ := newS w 26 [.bool true, bP, dP] _ rfl
 obtain ⟨gP, hgP⟩ : ∃ x, w.heap.size = x := ⟨_, rfl⟩
 obtain ⟨W1, e1, r1, b1, s1⟩ := newS W0 26 [.bool true, bP, dP] _ rfl
 obtain ⟨gs, hgs⟩ : ∃ x, W0.heap.size = x := ⟨_, rfl⟩
 rw [hgP] at r0
 rw [hgs] at r1
 have hbw : Below w.heap.size w W1 := (b0).trans (b1.mono (b0).size)
 have qgP := (r0.later b1)
 have qgs := r1
 have HB := hid hbw
 have HGL := hid (show w.heap.size ≤ gP ∧ gP < W1.heap.size by omega)
 have hP3 := hP.later hbw
 have HPP := hid hP3
 have HRP := hid qgP
 have pp0 := r0.at_ (i := 0) rfl
 have p0 := qgP.at_ (i := 0) rfl
 have pp1 := r0.at_ (i := 1) rfl
 have p1 := qgP.at_ (i := 1) rfl
 have pp2 := r0.at_ (i := 2) rfl
 have p2 := qgP.at_ (i := 2) rfl
 have HDW := hid (domW_any W1 c D hc hok.1 gs 1 1 [(.bool true, bP, dP)] [none] rfl (by decide) rfl (PtsV.one qgs) (by
  intro k a b d R h1 h2
  rcases k with _ | k
  ·simp at h1 h2
   obtain ⟨rfl, rfl, rfl⟩ := h1
   subst h2
   exact hP3
  ·simp at h1))
 have HOK := hid hok
 have Hhas := hid has
 clear has b0 s0 r0 b1 s1 r1 hbw qgP qgs hok hc hP hP3
 go_enter Tryz.func24, Tryz.ntmps24
 go_wp2_with fail
 refine HDW.out.mono ?_
 rintro e w1 (⟨vd, rfl, hvd, hall, hb1⟩ | ⟨rfl, ⟨R, hR, hRn⟩, hb1⟩)
 rotate_left
 ·exfalso
  simp only [List.mem_cons, List.not_mem_nil, or_false] at hR
  subst hR
  exact hRn Hhas.out
 ·skip
  obtain ⟨vp, vb, vn, vx, vy, rfl, k1, k2, k3, k4, k5⟩ := hvd
  obtain ⟨Ap, np, cp, rfl⟩ := k1.sl
  obtain ⟨Ab, nb, cb, rfl⟩ := k2.sl
  obtain ⟨An, nn, cn, rfl⟩ := k3.sl
  obtain ⟨Ax, nx, cx, rfl⟩ := k4.sl
  obtain ⟨Ay, ny, cy, rfl⟩ := k5.sl
  have HDM := hid (show Dm w1 _ D from ⟨_, _, _, _, _, rfl, k1, k2, k3, k4, k5⟩)
  obtain ⟨W5, e5, r5, b5, s5⟩ := newS w1 73 [.int .i64 0, .slice none 0 0, .slice none 0 0, .slice none 0 0, .bool false, .slice none 0 0, .slice none 0 0] _ rfl
  obtain ⟨g8, hg8⟩ : ∃ x, w1.heap.size = x := ⟨_, rfl⟩
  rw [hg8] at r5
  have HB5 := hid b5
  have HB1 := hid hb1
  have HG8 := hid (show W1.heap.size ≤ g8 by have := hb1.size; omega)
  have HNU := hid (NoU.of_row r5 (by intro v hv x; simp only [List.mem_cons, List.not_mem_nil, or_false] at hv; rcases hv with rfl | rfl | rfl | rfl | rfl | rfl | rfl <;> (intro h; cases h)))
  clear k1 k2 k3 k4 k5 hall hb1 b5 s5 p0 p1 p2 pp0 pp1 pp2
  go_wp2_with ((with_reducible show wpList _ _ _ (⟨none, _, _, _, _, _⟩ :: _) _ _); refine wlS_store rfl 73 7 Tryz.sizeDom _ _ rfl g8 [.int .i64 (D.size : Int), .slice Ap np cp, .slice Ab nb cb, .slice An nn cn, .bool false, .slice Ax nx cx, .slice Ay ny cy] rfl rfl 73 _ r5 rfl rfl (by intro v hv; simp only [List.mem_cons, List.not_mem_nil, or_false] at hv; rcases hv with rfl | rfl | rfl | rfl | rfl | rfl | rfl <;> rfl) ?_; intro w6 hr6 hg6 hz; have q6 := ((HRP.out.later HB1.out).later HB5.out).grown hg6 (by have := HG8.out; have := HGL.out; omega); have c0 := q6.at_ (i := 0) rfl; have c1 := q6.at_ (i := 1) rfl; have c2 := q6.at_ (i := 2) rfl; have f0 := hr6.at_ (i := 0) rfl; have HZZ := hid hz)
  have hsb : Sb W5 w6 := ⟨g8, HNU.out, hg6⟩
  have HDM6 := hid ((HDM.out.later HB5.out).sb hsb)
  have HP6 := hid (((HPP.out.later HB1.out).later HB5.out).sb hsb)
  have HRP6 := hid (((HRP.out.later HB1.out).later HB5.out).grown hg6 (by have := HG8.out; have := HGL.out; omega))
  have HR8 := hid hr6
  have hbw1 := HB.out.trans (HB1.out.mono HB.out.size)
  have hbw5 := hbw1.trans (HB5.out.mono hbw1.size)
  have HBW := hid (below_grown hbw5 hg6 (by have := HG8.out; have := HGL.out; omega) hbw5.size)
  clear hsb hbw1 hbw5 HDM HB5 HB1 HPP HRP hr6 hg6 hz HNU
  refine bodyPost_ret (results_tmp2 rfl _ _ _) rfl ?_
  have hr9 := RowV.new w6 5 [.int .u8 0]
  have hlt9 : w.heap.size ≤ w6.heap.size := HBW.out.size
  rw [HZZ.out] at hlt9
  have hr9' : (w6.alloc (.cells #[.int .u8 0] 5)).heap[W5.heap.size]? = some (.cells #[.int .u8 0] 5 (0, 0)) := by rw [← HZZ.out]; exact hr9
  refine ⟨_, rfl, ⟨rfl, .inr ⟨_, 1, #[.int .u8 0], rfl, hlt9, hr9', Nat.le_refl _, by decide, rfl, rfl⟩⟩, HBW.out.alloc HBW.out.size _⟩
theorem cEnc_yes (w : World) (c : Int) (D : Crv) (hc : crvOf c = some D) (vP : Value) (P : Option (Nat × Nat)) (hP : Pg w vP P) (x y : Nat) (hPs : P = some (x, y)) (has : hasN D.p D.b P) (hs0 : 0 < D.size) (hs1 : D.size ≤ 65536) (hs2 : D.p < 256 ^ D.size) :
  Calls Tryz.prog 24 #[.int .i64 c, vP] w fun e w' => ∃ v, e = .returned (.tuple #[v, .bool true]) ∧ w'.ownsRow w.heap.size 5 1 v (encN D.size P).length ((encN D.size P).map W8) ∧ Below w.heap.size w w' := by
 have HSZ := hid (show 0 < D.size ∧ D.size ≤ 65536 ∧ D.p < 256 ^ D.size from ⟨hs0, hs1, hs2⟩)
 clear hs0 hs1 hs2
 have hmx : Tryz.prog.follows .mixedOrders = true := by kernel_rfl
 have hok := crv_ok hc
 obtain ⟨iP, bP, dP, rfl⟩ := hP.ex
 have hiP : iP = false := by
  subst hPs
  obtain ⟨a, b, e, _⟩ := hP
  injection e with e
  simp at e
  exact e.1
 subst hiP
 subst hPs
 obtain ⟨W0, e0, r0, b0, s0⟩ := newS w 26 [.bool false, bP, dP] _ rfl
 obtain ⟨gP, hgP⟩ : ∃ x, w.heap.size = x := ⟨_, rfl⟩
 obtain ⟨W1, e1, r1, b1, s1⟩ := newS W0 26 [.bool false, bP, dP] _ rfl
 obtain ⟨gs, hgs⟩ : ∃ x, W0.heap.size = x := ⟨_, rfl⟩
 rw [hgP] at r0
 rw [hgs] at r1
 have hbw : Below w.heap.size w W1 := (b0).trans (b1.mono (b0).size)
 have qgP := (r0.later b1)
 have qgs := r1
 have HB := hid hbw
 have HGL := hid (show w.heap.size ≤ gP ∧ gP < W1.heap.size by omega)
 have hP3 := hP.later hbw
 have HPP := hid hP3
 have HRP := hid qgP
 have pp0 := r0.at_ (i := 0) rfl
 have p0 := qgP.at_ (i := 0) rfl
 have pp1 := r0.at_ (i := 1) rfl
 have p1 := qgP.at_ (i := 1) rfl
 have pp2 := r0.at_ (i := 2) rfl
 have p2 := qgP.at_ (i := 2) rfl
 have HDW := hid (domW_any W1 c D hc hok.1 gs 1 1 [(.bool false, bP, dP)] [some (x, y)] rfl (by decide) rfl (PtsV.one qgs) (by
  intro k a b d R h1 h2
  rcases k with _ | k
  ·simp at h1 h2
   obtain ⟨rfl, rfl, rfl⟩ := h1
   subst h2
   exact hP3
  ·simp at h1))
 have HOK := hid hok
 have Hhas := hid has
 clear has b0 s0 r0 b1 s1 r1 hbw qgP qgs hok hc hP hP3
 go_enter Tryz.func24, Tryz.ntmps24
 go_wp2_with fail
 refine HDW.out.mono ?_
 rintro e w1 (⟨vd, rfl, hvd, hall, hb1⟩ | ⟨rfl, ⟨R, hR, hRn⟩, hb1⟩)
 rotate_left
 ·exfalso
  simp only [List.mem_cons, List.not_mem_nil, or_false] at hR
  subst hR
  exact hRn Hhas.out
 ·skip
  obtain ⟨vp, vb, vn, vx, vy, rfl, k1, k2, k3, k4, k5⟩ := hvd
  obtain ⟨Ap, np, cp, rfl⟩ := k1.sl
  obtain ⟨Ab, nb, cb, rfl⟩ := k2.sl
  obtain ⟨An, nn, cn, rfl⟩ := k3.sl
  obtain ⟨Ax, nx, cx, rfl⟩ := k4.sl
  obtain ⟨Ay, ny, cy, rfl⟩ := k5.sl
  have HDM := hid (show Dm w1 _ D from ⟨_, _, _, _, _, rfl, k1, k2, k3, k4, k5⟩)
  obtain ⟨W5, e5, r5, b5, s5⟩ := newS w1 73 [.int .i64 0, .slice none 0 0, .slice none 0 0, .slice none 0 0, .bool false, .slice none 0 0, .slice none 0 0] _ rfl
  obtain ⟨g8, hg8⟩ : ∃ x, w1.heap.size = x := ⟨_, rfl⟩
  rw [hg8] at r5
  have HB5 := hid b5
  have HB1 := hid hb1
  have HG8 := hid (show W1.heap.size ≤ g8 by have := hb1.size; omega)
  have HNU := hid (NoU.of_row r5 (by intro v hv x; simp only [List.mem_cons, List.not_mem_nil, or_false] at hv; rcases hv with rfl | rfl | rfl | rfl | rfl | rfl | rfl <;> (intro h; cases h)))
  clear k1 k2 k3 k4 k5 hall hb1 b5 s5 p0 p1 p2 pp0 pp1 pp2
  go_wp2_with ((with_reducible show wpList _ _ _ (⟨none, _, _, _, _, _⟩ :: _) _ _); refine wlS_store rfl 73 7 Tryz.sizeDom _ _ rfl g8 [.int .i64 (D.size : Int), .slice Ap np cp, .slice Ab nb cb, .slice An nn cn, .bool false, .slice Ax nx cx, .slice Ay ny cy] rfl rfl 73 _ r5 rfl rfl (by intro v hv; simp only [List.mem_cons, List.not_mem_nil, or_false] at hv; rcases hv with rfl | rfl | rfl | rfl | rfl | rfl | rfl <;> rfl) ?_; intro w6 hr6 hg6 hz; have q6 := ((HRP.out.later HB1.out).later HB5.out).grown hg6 (by have := HG8.out; have := HGL.out; omega); have c0 := q6.at_ (i := 0) rfl; have c1 := q6.at_ (i := 1) rfl; have c2 := q6.at_ (i := 2) rfl; have f0 := hr6.at_ (i := 0) rfl)
  have hsb : Sb W5 w6 := ⟨g8, HNU.out, hg6⟩
  have HDM6 := hid ((HDM.out.later HB5.out).sb hsb)
  have HP6 := hid (((HPP.out.later HB1.out).later HB5.out).sb hsb)
  have HRP6 := hid (((HRP.out.later HB1.out).later HB5.out).grown hg6 (by have := HG8.out; have := HGL.out; omega))
  have HR8 := hid hr6
  have hbw1 := HB.out.trans (HB1.out.mono HB.out.size)
  have hbw5 := hbw1.trans (HB5.out.mono hbw1.size)
  have HBW := hid (below_grown hbw5 hg6 (by have := HG8.out; have := HGL.out; omega) hbw5.size)
  clear hsb hbw1 hbw5 HDM HB5 HB1 HPP HRP hr6 hg6 hz HNU
  have hxy : NumR w6 64 x bP ∧ NumR w6 64 y dP := by
   obtain ⟨b', d', he, hx, hy⟩ := HP6.out
   injection he with he
   simp at he
   obtain ⟨rfl, rfl⟩ := he
   exact ⟨hx, hy⟩
  have HXY := hid hxy
  have HBX := hid (bytes_u w6 bP x hxy.1 D.size HSZ.out.2.1 (Nat.lt_trans Hhas.out.1 HSZ.out.2.2) HSZ.out.1)
  clear hxy c0 c1 f0 q6 c2
  refine HBX.out.mono ?_
  rintro e w7 ⟨gx, rfl, hrx, hb7⟩
  have HRX := hid hrx
  have c27 := (HRP6.out.later hb7).at_ (i := 2) rfl
  have f07 := (HR8.out.later hb7).at_ (i := 0) rfl
  have HB7 := hid (HBW.out.trans (hb7.mono HBW.out.size))
  have HBY := hid (bytes_u w7 dP y (HXY.out.2.later hb7) D.size HSZ.out.2.1 (Nat.lt_trans Hhas.out.2.1 HSZ.out.2.2) HSZ.out.1)
  clear hrx hb7
  go_wp2_with fail
  refine HBY.out.mono ?_
  rintro e w8 ⟨gy, rfl, hry, hb8⟩
  obtain ⟨W9, e9, r9, b9, s9⟩ := newS w8 5 [.int .u8 4] _ rfl
  obtain ⟨g9, hg9⟩ : ∃ z, w8.heap.size = z := ⟨_, rfl⟩
  rw [hg9] at r9
  obtain ⟨W10, e10, r10, b10, s10⟩ := newS W9 49 [.slice (some ⟨g9, 0, none⟩) 1 1, .slice (some ⟨gx, 0, none⟩) D.size D.size, .slice (some ⟨gy, 0, none⟩) D.size D.size] _ rfl
  obtain ⟨g10, hg10⟩ : ∃ z, W9.heap.size = z := ⟨_, rfl⟩
  rw [hg10] at r10
  have hrx8 := ((HRX.out.later hb8).later b9).later b10
  have hry8 := (hry.later b9).later b10
  have hr98 := r9.later b10
  have hB8 := HB7.out.trans (hb8.mono HB7.out.size)
  have hB9 := hB8.trans (b9.mono hB8.size)
  have HB10 := hid (hB9.trans (b10.mono hB9.size))
  have hlx : ((beW D.size x).map W8).length = D.size := by simp [beW, be_length]
  have hly : ((beW D.size y).map W8).length = D.size := by simp [beW, be_length]
  have sx := hrx8.sl (by rw [hlx]; have := HSZ.out.2.1; omega)
  have sy := hry8.sl (by rw [hly]; have := HSZ.out.2.1; omega)
  have s4 : SlV W10 W10.heap.size (some ⟨g9, 0, none⟩) 1 1 [W8 4] := hr98.sl (by simp)
  rw [hlx] at sx
  rw [hly] at sy
  have hsl := r10.sl (by simp)
  have hpart : PartsV W10 W10.heap.size (some ⟨g10, 0, none⟩) 3 3 [[4], beW D.size x, beW D.size y] := by
   refine ⟨_, hsl, rfl, fun i v ps hv hp => ?_⟩
   rcases i with _ | _ | _ | i
   ·simp at hv hp
    subst hv hp
    exact ⟨_, _, _, rfl, s4, fun h => by cases h⟩
   ·simp at hv hp
    subst hv hp
    exact ⟨_, _, _, rfl, sx, fun h => by cases h⟩
   ·simp at hv hp
    subst hv hp
    exact ⟨_, _, _, rfl, sy, fun h => by cases h⟩
   ·simp at hv
  have HC := hid (concat_any W10 _ _ 3 3 _ hpart (Nat.le_refl _) (by decide) (by simp [beW, be_length]; have := HSZ.out.2.1; omega))
  clear hpart hsl s4 sx sy hlx hly hB8 hB9 hrx8 hry8 hr98 r9 r10 b9 b10 s9 s10 hry hb8 c27 f07
  go_wp2_with fail
  refine HC.out.mono ?_
  rintro e w11 ⟨v, rfl, hown, hb11⟩
  have HOWN := hid hown
  have HB11 := hid hb11
  clear hown hb11
  go_wp2
  refine bodyPost_ret (results_tmp2 rfl _ _ _) rfl ?_
  have hfl : [[(4 : BitVec 8)], beW D.size x, beW D.size y].flatten = encN D.size (some (x, y)) := by simp [encN]
  have h1 := HOWN.out
  rw [hfl] at h1
  refine ⟨v, rfl, ?_, HB10.out.trans (HB11.out.mono HB10.out.size)⟩
  exact own_base h1 HB10.out.size
structure SpB where
 P : Value → World → Prop
 later : ∀ v V V', Below V.heap.size V V' → P v V → P v V'
def SpB.val (c : Value) : SpB := ⟨fun v _ => v = c, fun _ _ _ _ h => h⟩
def SpB.num (k : Nat) : SpB := ⟨fun v V => Nu V v k, fun _ _ _ hb h => h.later hb⟩
def SpB.row (t : TypeId) (N : Nat) (vs : List Value) : SpB := ⟨fun v V => ∃ g, v = .pointer (some ⟨g, 0, none⟩) ∧ N ≤ g ∧ RowV t V g vs, fun _ _ _ hb h => by
 obtain ⟨g, e, hN, hr⟩ := h
 exact ⟨g, e, hN, hr.later hb⟩⟩
def SpB.of (s : Spc) : SpB := ⟨s.P, fun v V V' hb h => s.sb v V V' (Sb.of_below hb) h⟩
def spbAt (L : List (Nat × SpB)) (t : Nat) (v : Value) (V : World) : Prop := match L.lookup t with
 | some s => s.P v V
 | none => True
theorem spbAt.later {L : List (Nat × SpB)} {t : Nat} {v : Value} {V V' : World} (hb : Below V.heap.size V V') (h : spbAt L t v V) : spbAt L t v V' := by
 unfold spbAt at h ⊢
 cases hl : L.lookup t with
 | none => trivial
 | some s =>
  rw [hl] at h
  exact s.later v V V' hb h
def OpOkB (F : Fence) (n : Nat) (P : Program) (L : List (Nat × SpB)) (a' : Act) (V : World) (o : Oper) : Prop :=
 (∀ c, o.op ≠ .defer c) ∧ (∀ f, o.about P V a'.eval = some f → F.fn f) ∧ o.dst ≠ none ∧
  ((∃ v V', (execOp a'.eval o).run P V = .ok (.value v) V' ∧ Below V.heap.size V V' ∧ ∀ t, o.dst = some t → spbAt L t v V') ∨
   ∃ f args, (execOp a'.eval o).run P V = .ok (.enter f args) V ∧ CallsIn F (n - 1) P f args V fun e w' => ∃ v, e = .returned v ∧ Below V.heap.size V w' ∧ ∀ t, o.dst = some t → spbAt L t v w')
theorem wpIn_region_numB {F : Fence} {n : Nat} {P : Program} {id : Nat} {ops : Array Oper} {Q : Exit → Act → World → Prop} {a : Act} {w : World} (hF : F.depth = none) (hm : P.follows .mixedOrders = true)
  (L : List (Nat × SpB)) (hd : distinctB ops = true) (hdep : depsW ops (L.map (·.1)) [] = true) (hon : onlyB ops (L.map (·.1)) = true) (hord : orderedB ops = true) (hsz : (L.map (·.1)).all (fun t => decide (t < a.tmps.size)) = true)
  (s : Nat) (hs : s + 1 = ops.size) (hroot : rootB ops s = true)
  (hops : ∀ (i : Nat) (o : Oper) (a' : Act) (V : World), i < s → Below w.heap.size w V → ops[i]? = some o → (∀ t, (L.map (·.1)).contains t = false → a'.eval (.tmp t) = a.eval (.tmp t)) → (∀ t, readsB o t = true → (L.map (·.1)).contains t = true → spbAt L t (a'.eval (.tmp t)) V) → OpOkB F n P L a' V o)
  (hlast : ∀ (vals : Nat → Value) (o : Oper) (a' : Act) (V : World), Below w.heap.size w V → ops[s]? = some o → (∀ t, (L.map (·.1)).contains t = false → a'.eval (.tmp t) = a.eval (.tmp t)) →
   (∀ t, readsB o t = true → (L.map (·.1)).contains t = true → ∃ (j : Nat) (oj : Oper), ops[j]? = some oj ∧ oj.dst = some t ∧ a'.eval (.tmp t) = vals j) → (∀ (i t : Nat) (o : Oper), i < s → ops[i]? = some o → o.dst = some t → spbAt L t (vals i) V) →
   (∀ c, o.op ≠ .defer c) ∧ (∀ f, o.about P V a'.eval = some f → F.fn f) ∧ ∃ v W2, ((execOp a'.eval o).run P V = .ok .skip W2 ∧ v = undef ∨ (execOp a'.eval o).run P V = .ok (.value v) W2) ∧
    Q .normal { tmps := wrote ops (fun j => if j = s then v else vals j) (Array.replicate ops.size true) a.tmps ops.size, defers := a.defers } W2) : (Code.region id ops true).wpIn F n P Q a w := by
 have hd' := distinct_of hd
 have hclose : ∀ (L : Array Bool), L.size = ops.size → (∀ (j : Nat) (oj : Oper), ops[j]? = some oj → L.getD j false = true → ∀ e ∈ oj.after, Region.binds .any e = true → L.getD e.on false = true) → L.getD s false = true → ∀ k i, i + k = s → L.getD i false = true := by
  intro L hsz hcl hL k
  induction k using Nat.strongRecOn with
  | _ k ih =>
   intro i hik
   rcases Nat.eq_zero_or_pos k with h0 | h0
   ·obtain rfl : i = s := by omega
    exact hL
   ·simp only [rootB, List.all_eq_true, List.mem_range] at hroot
    have h1 := hroot i (by omega)
    rw [List.any_eq_true] at h1
    obtain ⟨j, hj, h2⟩ := h1
    rw [List.mem_range] at hj
    rw [Bool.and_eq_true, decide_eq_true_eq] at h2
    have hjl := ih (s - j) (by omega) j (by omega)
    cases ho : ops[j]? with
    | none => rw [ho] at h2; simp at h2
    | some o =>
     rw [ho] at h2
     obtain ⟨e, he, he2⟩ := Array.any_eq_true'.1 h2.2
     rw [Bool.and_eq_true, beq_iff_eq] at he2
     have := hcl j o ho hjl e he he2.2
     rwa [he2.1] at this
 refine wpIn_region_relH hm hd' (fun b : Nat → Value => b) (fun b Ls V => (Ls.getD s false = false → Below w.heap.size w V ∧ ∀ (j t : Nat) (o : Oper), ops[j]? = some o → o.dst = some t → Ls.getD j false = true → spbAt L t (b j) V) ∧
   (Ls.getD s false = true → Q .normal { tmps := wrote ops b (Array.replicate ops.size true) a.tmps ops.size, defers := a.defers } V)) (fun _ => undef) ⟨fun _ => ⟨below_drewN (Below.refl _ w) 1, ?_⟩, fun h => ?_⟩ ?_ ?_ (acyclic_of hord)
 ·intro j t o _ _ hL
  rw [getD_rep] at hL
  cases hL
 ·rw [getD_rep] at h
  cases h
 ·rintro b Ls a' V ⟨hV0, -⟩ hLs hdf hcl hold hnew i hi o ho K hK
  obtain ⟨h1, o2, ho2, hde⟩ := mem_ready.1 hi
  obtain rfl : o = o2 := Option.some.inj (ho.symm.trans ho2)
  have hnl := unlisted h1
  have his : i ≤ s := by have := (Array.getElem?_eq_some_iff.1 ho).1; omega
  have hLf : Ls.getD s false = false := by
   apply Classical.byContradiction
   intro h
   have := hclose Ls hLs hcl (by simpa using h) (s - i) i (by omega)
   rw [hnl] at this
   cases this
  obtain ⟨hIV, hPV⟩ := hV0 hLf
  obtain ⟨hg, hev, hrd⟩ := tree_reads hdep hon hsz hold hnew ho hde
  have hrd' : ∀ t, readsB o t = true → (L.map (·.1)).contains t = true → spbAt L t (a'.eval (.tmp t)) V := by
   intro t h2 h3
   obtain ⟨j, oj, hj, hjd, hjL, e⟩ := hrd t h2 h3
   rw [e]
   exact hPV j t oj hj hjd hjL
  rcases Nat.lt_or_ge i s with his' | his'
  ·obtain ⟨hdef, hab, -, hrun⟩ := hops i o a' V his' hIV ho hev hrd'
   have hnext : ∀ v V', Below V.heap.size V V' → (∀ t, o.dst = some t → spbAt L t v V') → K (a'.put o.dst v) V' := by
    intro v V' hB hP
    have hk := hK (fun j => if j = i then v else b j) V' (fun j hj => by
     rw [if_neg]
     rintro rfl
     rw [hnl] at hj; cases hj) ⟨fun _ => ⟨hIV.trans (hB.mono hIV.size), fun j t oj hj hjd hjL => by
      by_cases hji : j = i
      ·subst hji
       obtain rfl : o = oj := Option.some.inj (ho.symm.trans hj)
       simp only [if_true]
       exact hP t hjd
      ·rw [getD_set_ne Ls (fun h => hji h.symm)] at hjL
       simp only [if_neg hji]
       exact (hPV j t oj hj hjd hjL).later hB⟩, fun h => by
      rw [getD_set_ne Ls (by omega), hLf] at h
      cases h⟩
    simpa using hk
   rcases hrun with ⟨v, V', hrun, hB, hP⟩ | ⟨f, args, hrun, hcall⟩
   ·exact in_value ho hg hdef hab hrun (hnext v V' hB hP)
   ·refine in_call_any ho hg hdef hF hab hrun (hcall.mono ?_)
    rintro e w' ⟨v, rfl, hB, hP⟩
    exact ⟨v, rfl, hnext v w' hB hP⟩
  ·obtain rfl : i = s := by omega
   have hall : ∀ j, j < i → Ls.getD j false = true := by
    intro j hj
    simp only [rootB, List.all_eq_true, List.mem_range] at hroot
    have hdown : ∀ k j, j + k = i → 0 < k → Ls.getD j false = true := by
     intro k
     induction k using Nat.strongRecOn with
     | _ k ih =>
      intro j hjk h0
      have h1 := hroot j (by omega)
      rw [List.any_eq_true] at h1
      obtain ⟨m, hm', h2⟩ := h1
      rw [List.mem_range] at hm'
      rw [Bool.and_eq_true, decide_eq_true_eq] at h2
      by_cases hmi : m = i
      ·subst hmi
       rw [ho] at h2
       obtain ⟨e, he, he2⟩ := Array.any_eq_true'.1 h2.2
       rw [Bool.and_eq_true, beq_iff_eq] at he2
       have := hde e he he2.2
       rwa [he2.1] at this
      ·have hml := ih (i - m) (by omega) m (by omega) (by omega)
       cases hom : ops[m]? with
       | none => rw [hom] at h2; simp at h2
       | some om =>
        rw [hom] at h2
        obtain ⟨e, he, he2⟩ := Array.any_eq_true'.1 h2.2
        rw [Bool.and_eq_true, beq_iff_eq] at he2
        have := hcl m om hom hml e he he2.2
        rwa [he2.1] at this
    exact hdown (i - j) j (by omega) (by omega)
   obtain ⟨hdef, hab, v, W2, hrun, hQ⟩ := hlast b o a' V hIV ho hev (fun t h2 h3 => by
    obtain ⟨j, oj, hj, hjd, hjL, e⟩ := hrd t h2 h3
    exact ⟨j, oj, hj, hjd, e⟩) fun j t oj hj hoj hjd => hPV j t oj hoj hjd (hall j hj)
   have hk := hK (fun j => if j = i then v else b j) W2 (fun j hj => by
    rw [if_neg]
    rintro rfl
    rw [hnl] at hj; cases hj) ⟨fun h => absurd h (by rw [getD_set_self Ls (by omega)]; simp), fun _ => hQ⟩
   simp only [if_true] at hk
   rcases hrun with ⟨hrun, rfl⟩ | hrun
   ·exact in_skip ho hg hdef hab hrun hk
   ·exact in_value ho hg hdef hab hrun hk
 ·rintro b Ls V ⟨-, h⟩ hL
  exact h (hL s (by omega))
def natsB (bs : List (BitVec 8)) : List Nat := bs.map BitVec.toNat
theorem sl8_of_slVB {w : World} {B n c : Nat} {A : Option Addr} {bs : List (BitVec 8)} (h : SlV w B A n c (bs.map W8)) : Sl8 w B A n c (natsB bs) := by
 refine ⟨by rw [natsB, List.length_map]; simpa using h.len, h.cap, h.max, fun x hx => ?_, fun hn => ?_⟩
 ·obtain ⟨y, _, rfl⟩ := List.mem_map.1 hx
  exact y.isLt
 ·obtain ⟨b, off, e, hb, hc⟩ := h.2.2.2 (by intro e; apply hn; rw [List.map_eq_nil_iff] at e; rw [natsB, e]; rfl)
  refine ⟨b, off, e, hb, fun k x hx => ?_⟩
  rw [natsB, List.getElem?_map, Option.map_eq_some_iff] at hx
  obtain ⟨y, hy, rfl⟩ := hx
  exact hc k (W8 y) (by rw [List.getElem?_map, hy]; rfl)
def numB (bs : List (BitVec 8)) : Nat := V 256 (natsB bs).reverse
theorem fromb_u (w : World) (A : Option Addr) (n c : Nat) (bs : List (BitVec 8)) (hs : SlV w w.heap.size A n c (bs.map W8)) (hn : n ≤ 500) : Calls Tryz.prog 63 #[.slice A n c] w fun e w' => RetU w (numB bs) e w' := by
 refine (frombytes_any w _ (Nat.le_refl _) A n c (natsB bs) (sl8_of_slVB hs) (by omega)).mono ?_
 rintro e w' ⟨zs, hz, A3, n3, c3, rfl, hs3, hB⟩
 refine ⟨_, rfl, Nu.of hs3 hz ?_, hB⟩
 have h1 : V 256 (natsB bs).reverse < 256 ^ (natsB bs).reverse.length := V_lt _ (fun x hx => by
  rw [List.mem_reverse] at hx
  obtain ⟨y, _, rfl⟩ := List.mem_map.1 hx
  exact y.isLt)
 have hl : (natsB bs).reverse.length = n := by
  have := hs.len
  simp [natsB] at this ⊢
  omega
 rw [hl] at h1
 exact Nat.lt_of_lt_of_le h1 (Nat.le_trans (Nat.pow_le_pow_right (by decide) hn) (by decide +kernel))
def decN (D : Crv) (bs : List (BitVec 8)) : Option (Option (Nat × Nat)) :=
 if bs = [0] then some none
 else if bs[0]? = some 4 ∧ bs.length = 1 + 2 * D.size ∧ hasN D.p D.b (some (numB ((bs.drop 1).take D.size), numB (bs.drop (1 + D.size)))) then some (some (numB ((bs.drop 1).take D.size), numB (bs.drop (1 + D.size))))
 else none
theorem SlV.grownV {w w' : World} {n c g : Nat} {A : Option Addr} {vs : List Value} (h : SlV w w.heap.size A n c vs) (hg : w.grownBy w' (some g)) (hne : ∀ b off s, A = some ⟨b, off, s⟩ → b ≠ g) : SlV w' w'.heap.size A n c vs := by
 obtain ⟨h1, h2, h3, h4⟩ := h
 refine ⟨h1, h2, h3, fun hn => ?_⟩
 obtain ⟨b, off, e, hb, hc⟩ := h4 hn
 exact ⟨b, off, e, Nat.lt_of_lt_of_le hb hg.size, fun k x hx => (cell_grown hg (p := ⟨b, off + k, none⟩) hb (hne b off none e)).trans (hc k x hx)⟩
theorem SlV.first {w : World} {B n c bq off : Nat} {v : Value} {vs : List Value} (h : SlV w B (some ⟨bq, off, none⟩) n c (v :: vs)) : w.cell? ⟨bq, off, none⟩ = some v := by
 obtain ⟨b, o, e, _, hc⟩ := h.2.2.2 (by simp)
 injection e with e
 injection e with e1 e2
 subst e1 e2
 exact hc 0 v rfl
theorem cDec_none (w : World) (c : Int) (hc : crvOf c = none) (A : Option Addr) (n cp : Nat) (bs : List (BitVec 8)) (hs : SlV w w.heap.size A n cp (bs.map W8)) (hn : n ≤ 500) :
  Calls Tryz.prog 25 #[.int .i64 c, .slice A n cp] w fun e w' => e = .returned (.tuple #[inf0, .bool false]) ∧ Below w.heap.size w w' := by
 have hmx : Tryz.prog.follows .mixedOrders = true := by kernel_rfl
 obtain ⟨W0, e0, r0, b0, s0⟩ := newS w 26 [.bool false, .slice none 0 0, .slice none 0 0] _ rfl
 obtain ⟨gr, hgr⟩ : ∃ x, w.heap.size = x := ⟨_, rfl⟩
 rw [hgr] at r0
 have HB := hid b0
 have HR := hid r0
 have HGL := hid (show w.heap.size ≤ gr by omega)
 have hs0 := hs.later b0 (Nat.le_refl _)
 have HS := hid hs0
 have HD := hid (domOf_no W0 c hc)
 clear b0 s0 r0 hc hs hs0 
 go_enter Tryz.func25, Tryz.ntmps25
 go_wp2_with fail
 refine HD.out.mono ?_
 rintro e w1 ⟨rfl, hb1⟩
 obtain ⟨W5, e5, r5, b5, s5⟩ := newS w1 73 [.int .i64 0, .slice none 0 0, .slice none 0 0, .slice none 0 0, .bool false, .slice none 0 0, .slice none 0 0] _ rfl
 obtain ⟨g8, hg8⟩ : ∃ x, w1.heap.size = x := ⟨_, rfl⟩
 rw [hg8] at r5
 have HB5 := hid b5
 have HB1 := hid hb1
 have HG8 := hid (show w1.heap.size ≤ g8 by omega)
 have HNU := hid (NoU.of_row r5 (by intro v hv x; simp only [List.mem_cons, List.not_mem_nil, or_false] at hv; rcases hv with rfl | rfl | rfl | rfl | rfl | rfl | rfl <;> (intro h; cases h)))
 have HRG := hid ((HR.out.later hb1).later b5)
 have HNR := hid (show gr ≠ g8 by have := (HR.out.later hb1).lt; omega)
 have hs5 := (HS.out.later hb1 (Nat.le_refl _)).later b5 (Nat.le_refl _)
 have HS5 := hid hs5
 clear hb1 b5 s5 hs5
 go_wp2_with ((with_reducible show wpList _ _ _ (⟨none, _, _, _, _, _⟩ :: _) _ _); refine wlS_store rfl 73 7 Tryz.sizeDom _ _ rfl g8 [.int .i64 0, .slice none 0 0, .slice none 0 0, .slice none 0 0, .bool false, .slice none 0 0, .slice none 0 0] rfl rfl 73 _ r5 rfl rfl (by intro v hv; simp only [List.mem_cons, List.not_mem_nil, or_false] at hv; rcases hv with rfl | rfl | rfl | rfl | rfl | rfl | rfl <;> rfl) ?_; intro w6 hr6 hg6 hz)
 have hbw1 := HB.out.trans (HB1.out.mono HB.out.size)
 have hbw5 := hbw1.trans (HB5.out.mono hbw1.size)
 have HB6 := hid (below_grown hbw5 hg6 (by have := HG8.out; have := hbw1.size; omega) hbw5.size)
 have HR6 := hid (HRG.out.grown hg6 HNR.out)
 clear hbw1 hbw5
 refine (cinf_any w6).mono ?_
 rintro e w7 ⟨rfl, hb7⟩
 have hr7 := HR6.out.later hb7
 have HB7 := hid (HB6.out.trans (hb7.mono HB6.out.size))
 clear hb7
 go_wp2_with ((with_reducible show wpList _ _ _ (⟨none, _, _, _, _, _⟩ :: _) _ _); refine wlS_store rfl 26 3 Tryz.sizePt _ _ rfl gr [.bool true, .slice none 0 0, .slice none 0 0] rfl rfl 26 _ hr7 rfl rfl (ones3 rfl rfl rfl) ?_; intro w8 hr8 hg8w hz)
 refine ⟨rfl, _, results_pt2 rfl _ gr _ rfl hr8 rfl, rfl, below_grown HB7.out hg8w HGL.out HB7.out.size⟩
theorem cDec_nil (w : World) (c : Int) (D : Crv) (hc : crvOf c = some D) (A : Option Addr) (cp : Nat) (bs : List (BitVec 8)) (hs : SlV w w.heap.size A 0 cp (bs.map W8)) :
  Calls Tryz.prog 25 #[.int .i64 c, .slice A 0 cp] w fun e w' => e = .returned (.tuple #[inf0, .bool false]) ∧ Below w.heap.size w w' := by
 have hmx : Tryz.prog.follows .mixedOrders = true := by kernel_rfl
 have hok := crv_ok hc
 have HOK := hid hok
 obtain ⟨W0, e0, r0, b0, s0⟩ := newS w 26 [.bool false, .slice none 0 0, .slice none 0 0] _ rfl
 obtain ⟨gr, hgr⟩ : ∃ x, w.heap.size = x := ⟨_, rfl⟩
 rw [hgr] at r0
 have HB := hid b0
 have HR := hid r0
 have HGL := hid (show w.heap.size ≤ gr by omega)
 have hs0 := hs.later b0 (Nat.le_refl _)
 have HS := hid hs0
 have HD := hid (domOf_yes W0 c D hc)
 clear b0 s0 r0 hc hs hs0 hok 
 go_enter Tryz.func25, Tryz.ntmps25
 go_wp2_with fail
 refine HD.out.mono ?_
 rintro e w1 ⟨vd, rfl, hvd, hb1⟩
 obtain ⟨vp, vb, vn, vx, vy, rfl, k1, k2, k3, k4, k5⟩ := hvd
 obtain ⟨Ap, np, cp', rfl⟩ := k1.sl
 obtain ⟨Ab, nb, cb, rfl⟩ := k2.sl
 obtain ⟨An, nn, cn, rfl⟩ := k3.sl
 obtain ⟨Ax, nx, cx, rfl⟩ := k4.sl
 obtain ⟨Ay, ny, cy, rfl⟩ := k5.sl
 have HDM := hid (show Dm w1 _ D from ⟨_, _, _, _, _, rfl, k1, k2, k3, k4, k5⟩)
 obtain ⟨W5, e5, r5, b5, s5⟩ := newS w1 73 [.int .i64 0, .slice none 0 0, .slice none 0 0, .slice none 0 0, .bool false, .slice none 0 0, .slice none 0 0] _ rfl
 obtain ⟨g8, hg8⟩ : ∃ x, w1.heap.size = x := ⟨_, rfl⟩
 rw [hg8] at r5
 have HB5 := hid b5
 have HB1 := hid hb1
 have HG8 := hid (show w1.heap.size ≤ g8 by omega)
 have HNU := hid (NoU.of_row r5 (by intro v hv x; simp only [List.mem_cons, List.not_mem_nil, or_false] at hv; rcases hv with rfl | rfl | rfl | rfl | rfl | rfl | rfl <;> (intro h; cases h)))
 have HRG := hid ((HR.out.later hb1).later b5)
 have HNR := hid (show gr ≠ g8 by have := (HR.out.later hb1).lt; omega)
 have hs5 := (HS.out.later hb1 (Nat.le_refl _)).later b5 (Nat.le_refl _)
 have HS5 := hid hs5
 clear hb1 b5 s5 hs5 k1 k2 k3 k4 k5
 go_wp2_with ((with_reducible show wpList _ _ _ (⟨none, _, _, _, _, _⟩ :: _) _ _); refine wlS_store rfl 73 7 Tryz.sizeDom _ _ rfl g8 [.int .i64 (D.size : Int), .slice Ap np cp', .slice Ab nb cb, .slice An nn cn, .bool false, .slice Ax nx cx, .slice Ay ny cy] rfl rfl 73 _ r5 rfl rfl (by intro v hv; simp only [List.mem_cons, List.not_mem_nil, or_false] at hv; rcases hv with rfl | rfl | rfl | rfl | rfl | rfl | rfl <;> rfl) ?_; intro w6 hr6 hg6 hz)
 have hbw1 := HB.out.trans (HB1.out.mono HB.out.size)
 have hbw5 := hbw1.trans (HB5.out.mono hbw1.size)
 have HB6 := hid (below_grown hbw5 hg6 (by have := HG8.out; have := hbw1.size; omega) hbw5.size)
 have HR6 := hid (HRG.out.grown hg6 HNR.out)
 clear hbw1 hbw5
 refine (cinf_any w6).mono ?_
 rintro e w7 ⟨rfl, hb7⟩
 have hr7 := HR6.out.later hb7
 have HB7 := hid (HB6.out.trans (hb7.mono HB6.out.size))
 clear hb7
 go_wp2_with ((with_reducible show wpList _ _ _ (⟨none, _, _, _, _, _⟩ :: _) _ _); refine wlS_store rfl 26 3 Tryz.sizePt _ _ rfl gr [.bool true, .slice none 0 0, .slice none 0 0] rfl rfl 26 _ hr7 rfl rfl (ones3 rfl rfl rfl) ?_; intro w8 hr8 hg8w hz)
 refine ⟨rfl, _, results_pt2 rfl _ gr _ rfl hr8 rfl, rfl, below_grown HB7.out hg8w HGL.out HB7.out.size⟩
theorem cDec_zero (w : World) (c : Int) (D : Crv) (hc : crvOf c = some D) (bq off n cp : Nat) (b0 : BitVec 8) (bs : List (BitVec 8)) (hs : SlV w w.heap.size (some ⟨bq, off, none⟩) n cp ((b0 :: bs).map W8)) (hn : n ≤ 500) (hb0 : b0 = 0) :
  Calls Tryz.prog 25 #[.int .i64 c, .slice (some ⟨bq, off, none⟩) n cp] w fun e w' => e = .returned (.tuple #[inf0, .bool (decide (n = 1))]) ∧ Below w.heap.size w w' := by
 have hnn : n = bs.length + 1 := by simpa using hs.len
 have hn1 : (0 : Int) < n := by omega
 have hn2 : ¬ (n : Int) = 0 := by omega
 have hz8 := BitVec.isLt b0
 obtain ⟨v8, hv8⟩ : ∃ v : Int, i8 b0 = v := ⟨_, rfl⟩
 have hc8 : (W8 b0) = .int .u8 v8 := by rw [← hv8]
 have hv0 : v8 = 0 := by rw [← hv8, hb0]; rfl
 subst hv0
 clear hb0
 have HV8 := hid hv8
 have HC8 := hid hc8
 have HNN := hid hnn
 have HSW := hid hs
 clear hnn hz8 hv8 hc8
 have hmx : Tryz.prog.follows .mixedOrders = true := by kernel_rfl
 have hok := crv_ok hc
 have HOK := hid hok
 obtain ⟨W0, e0, r0, b0, s0⟩ := newS w 26 [.bool false, .slice none 0 0, .slice none 0 0] _ rfl
 obtain ⟨gr, hgr⟩ : ∃ x, w.heap.size = x := ⟨_, rfl⟩
 rw [hgr] at r0
 have HB := hid b0
 have HR := hid r0
 have HGL := hid (show w.heap.size ≤ gr by omega)
 have hs0 := hs.later b0 (Nat.le_refl _)
 have HS := hid hs0
 have HD := hid (domOf_yes W0 c D hc)
 clear b0 s0 r0 hc hs hs0 hok 
 go_enter Tryz.func25, Tryz.ntmps25
 go_wp2_with fail
 refine HD.out.mono ?_
 rintro e w1 ⟨vd, rfl, hvd, hb1⟩
 obtain ⟨vp, vb, vn, vx, vy, rfl, k1, k2, k3, k4, k5⟩ := hvd
 obtain ⟨Ap, np, cp', rfl⟩ := k1.sl
 obtain ⟨Ab, nb, cb, rfl⟩ := k2.sl
 obtain ⟨An, nn, cn, rfl⟩ := k3.sl
 obtain ⟨Ax, nx, cx, rfl⟩ := k4.sl
 obtain ⟨Ay, ny, cy, rfl⟩ := k5.sl
 have HDM := hid (show Dm w1 _ D from ⟨_, _, _, _, _, rfl, k1, k2, k3, k4, k5⟩)
 obtain ⟨W5, e5, r5, b5, s5⟩ := newS w1 73 [.int .i64 0, .slice none 0 0, .slice none 0 0, .slice none 0 0, .bool false, .slice none 0 0, .slice none 0 0] _ rfl
 obtain ⟨g8, hg8⟩ : ∃ x, w1.heap.size = x := ⟨_, rfl⟩
 rw [hg8] at r5
 have HB5 := hid b5
 have HB1 := hid hb1
 have HG8 := hid (show w1.heap.size ≤ g8 by omega)
 have HNU := hid (NoU.of_row r5 (by intro v hv x; simp only [List.mem_cons, List.not_mem_nil, or_false] at hv; rcases hv with rfl | rfl | rfl | rfl | rfl | rfl | rfl <;> (intro h; cases h)))
 have HRG := hid ((HR.out.later hb1).later b5)
 have HNR := hid (show gr ≠ g8 by have := (HR.out.later hb1).lt; omega)
 have hs5 := (HS.out.later hb1 (Nat.le_refl _)).later b5 (Nat.le_refl _)
 have HS5 := hid hs5
 clear hb1 b5 s5 hs5 k1 k2 k3 k4 k5
 have hbw1 := HB.out.trans (HB1.out.mono HB.out.size)
 have HBW5 := hid (hbw1.trans (HB5.out.mono hbw1.size))
 have HG8X := hid (show w.heap.size ≤ g8 by have := HG8.out; have := hbw1.size; omega)
 clear hbw1
 go_wp2_with ((with_reducible show wpList _ _ _ (⟨none, _, _, _, _, _⟩ :: _) _ _); refine wlS_store rfl 73 7 Tryz.sizeDom _ _ rfl g8 [.int .i64 (D.size : Int), .slice Ap np cp', .slice Ab nb cb, .slice An nn cn, .bool false, .slice Ax nx cx, .slice Ay ny cy] rfl rfl 73 _ r5 rfl rfl (by intro v hv; simp only [List.mem_cons, List.not_mem_nil, or_false] at hv; rcases hv with rfl | rfl | rfl | rfl | rfl | rfl | rfl <;> rfl) ?_; intro w6 hr6 hg6 hz; have HBX := hid (below_grown HBW5.out hg6 HG8X.out HBW5.out.size); have hc0 : w6.cell? ⟨bq, off, none⟩ = some (.int .u8 0) := (by have hh := (HSW.out.later HBX.out (Nat.le_refl _)).first; rw [HC8.out] at hh; exact hh); have f0 := hr6.at_ (i := 0) rfl)
 have hbw1 := HB.out.trans (HB1.out.mono HB.out.size)
 have hbw5 := hbw1.trans (HB5.out.mono hbw1.size)
 have HB6 := hid (below_grown hbw5 hg6 (by have := HG8.out; have := hbw1.size; omega) hbw5.size)
 have HR6 := hid (HRG.out.grown hg6 HNR.out)
 clear hbw1 hbw5
 refine (cinf_any w6).mono ?_
 rintro e w7 ⟨rfl, hb7⟩
 have hr7 := HR6.out.later hb7
 have HB7 := hid (HB6.out.trans (hb7.mono HB6.out.size))
 clear hb7
 go_wp2_with ((with_reducible show wpList _ _ _ (⟨none, _, _, _, _, _⟩ :: _) _ _); refine wlS_store rfl 26 3 Tryz.sizePt _ _ rfl gr [.bool true, .slice none 0 0, .slice none 0 0] rfl rfl 26 _ hr7 rfl rfl (ones3 rfl rfl rfl) ?_; intro w8 hr8 hg8w hz)
 refine ⟨rfl, _, results_pt2 rfl _ gr _ rfl hr8 rfl, ?_, below_grown HB7.out hg8w HGL.out HB7.out.size⟩
 have hq : ((n : Int) == 1) = decide (n = 1) := by
  rw [Bool.eq_iff_iff]
  simp
  omega
 simp [hq]
theorem cDec_form (w : World) (c : Int) (D : Crv) (hc : crvOf c = some D) (bq off n cp : Nat) (b0 : BitVec 8) (bs : List (BitVec 8)) (hs : SlV w w.heap.size (some ⟨bq, off, none⟩) n cp ((b0 :: bs).map W8)) (hn : n ≤ 500) (h0 : b0 ≠ 0) (h4 : b0 ≠ 4) :
  Calls Tryz.prog 25 #[.int .i64 c, .slice (some ⟨bq, off, none⟩) n cp] w fun e w' => e = .returned (.tuple #[inf0, .bool false]) ∧ Below w.heap.size w w' := by
 have hnn : n = bs.length + 1 := by simpa using hs.len
 have hn1 : (0 : Int) < n := by omega
 have hn2 : ¬ (n : Int) = 0 := by omega
 have hz8 := BitVec.isLt b0
 obtain ⟨v8, hv8⟩ : ∃ v : Int, i8 b0 = v := ⟨_, rfl⟩
 have hc8 : (W8 b0) = .int .u8 v8 := by rw [← hv8]
 have hv0 : ¬ v8 = 0 := fun h => h0 (by rw [← hv8] at h; exact BitVec.eq_of_toNat_eq (by unfold i8 at h; simpa using h))
 have hv4 : ¬ v8 = 4 := fun h => h4 (by rw [← hv8] at h; exact BitVec.eq_of_toNat_eq (by unfold i8 at h; have h9 : b0.toNat = 4 := (by omega); simpa using h9))
 clear h0 h4
 have HV8 := hid hv8
 have HC8 := hid hc8
 have HNN := hid hnn
 have HSW := hid hs
 clear hnn hz8 hv8 hc8
 have hmx : Tryz.prog.follows .mixedOrders = true := by kernel_rfl
 have hok := crv_ok hc
 have HOK := hid hok
 obtain ⟨W0, e0, r0, b0, s0⟩ := newS w 26 [.bool false, .slice none 0 0, .slice none 0 0] _ rfl
 obtain ⟨gr, hgr⟩ : ∃ x, w.heap.size = x := ⟨_, rfl⟩
 rw [hgr] at r0
 have HB := hid b0
 have HR := hid r0
 have HGL := hid (show w.heap.size ≤ gr by omega)
 have hs0 := hs.later b0 (Nat.le_refl _)
 have HS := hid hs0
 have HD := hid (domOf_yes W0 c D hc)
 clear b0 s0 r0 hc hs hs0 hok 
 go_enter Tryz.func25, Tryz.ntmps25
 go_wp2_with fail
 refine HD.out.mono ?_
 rintro e w1 ⟨vd, rfl, hvd, hb1⟩
 obtain ⟨vp, vb, vn, vx, vy, rfl, k1, k2, k3, k4, k5⟩ := hvd
 obtain ⟨Ap, np, cp', rfl⟩ := k1.sl
 obtain ⟨Ab, nb, cb, rfl⟩ := k2.sl
 obtain ⟨An, nn, cn, rfl⟩ := k3.sl
 obtain ⟨Ax, nx, cx, rfl⟩ := k4.sl
 obtain ⟨Ay, ny, cy, rfl⟩ := k5.sl
 have HDM := hid (show Dm w1 _ D from ⟨_, _, _, _, _, rfl, k1, k2, k3, k4, k5⟩)
 obtain ⟨W5, e5, r5, b5, s5⟩ := newS w1 73 [.int .i64 0, .slice none 0 0, .slice none 0 0, .slice none 0 0, .bool false, .slice none 0 0, .slice none 0 0] _ rfl
 obtain ⟨g8, hg8⟩ : ∃ x, w1.heap.size = x := ⟨_, rfl⟩
 rw [hg8] at r5
 have HB5 := hid b5
 have HB1 := hid hb1
 have HG8 := hid (show w1.heap.size ≤ g8 by omega)
 have HNU := hid (NoU.of_row r5 (by intro v hv x; simp only [List.mem_cons, List.not_mem_nil, or_false] at hv; rcases hv with rfl | rfl | rfl | rfl | rfl | rfl | rfl <;> (intro h; cases h)))
 have HRG := hid ((HR.out.later hb1).later b5)
 have HNR := hid (show gr ≠ g8 by have := (HR.out.later hb1).lt; omega)
 have hs5 := (HS.out.later hb1 (Nat.le_refl _)).later b5 (Nat.le_refl _)
 have HS5 := hid hs5
 clear hb1 b5 s5 hs5 k1 k2 k3 k4 k5
 have hbw1 := HB.out.trans (HB1.out.mono HB.out.size)
 have HBW5 := hid (hbw1.trans (HB5.out.mono hbw1.size))
 have HG8X := hid (show w.heap.size ≤ g8 by have := HG8.out; have := hbw1.size; omega)
 clear hbw1
 go_wp2_with ((with_reducible show wpList _ _ _ (⟨none, _, _, _, _, _⟩ :: _) _ _); refine wlS_store rfl 73 7 Tryz.sizeDom _ _ rfl g8 [.int .i64 (D.size : Int), .slice Ap np cp', .slice Ab nb cb, .slice An nn cn, .bool false, .slice Ax nx cx, .slice Ay ny cy] rfl rfl 73 _ r5 rfl rfl (by intro v hv; simp only [List.mem_cons, List.not_mem_nil, or_false] at hv; rcases hv with rfl | rfl | rfl | rfl | rfl | rfl | rfl <;> rfl) ?_; intro w6 hr6 hg6 hz; have HBX := hid (below_grown HBW5.out hg6 HG8X.out HBW5.out.size); have hc0 : w6.cell? ⟨bq, off, none⟩ = some (.int .u8 v8) := (by have hh := (HSW.out.later HBX.out (Nat.le_refl _)).first; rw [HC8.out] at hh; exact hh); have f0 := hr6.at_ (i := 0) rfl)
 have hbw1 := HB.out.trans (HB1.out.mono HB.out.size)
 have hbw5 := hbw1.trans (HB5.out.mono hbw1.size)
 have HB6 := hid (below_grown hbw5 hg6 (by have := HG8.out; have := hbw1.size; omega) hbw5.size)
 have HR6 := hid (HRG.out.grown hg6 HNR.out)
 clear hbw1 hbw5
 refine (cinf_any w6).mono ?_
 rintro e w7 ⟨rfl, hb7⟩
 have hr7 := HR6.out.later hb7
 have HB7 := hid (HB6.out.trans (hb7.mono HB6.out.size))
 clear hb7
 go_wp2_with ((with_reducible show wpList _ _ _ (⟨none, _, _, _, _, _⟩ :: _) _ _); refine wlS_store rfl 26 3 Tryz.sizePt _ _ rfl gr [.bool true, .slice none 0 0, .slice none 0 0] rfl rfl 26 _ hr7 rfl rfl (ones3 rfl rfl rfl) ?_; intro w8 hr8 hg8w hz)
 refine ⟨rfl, _, results_pt2 rfl _ gr _ rfl hr8 rfl, rfl, below_grown HB7.out hg8w HGL.out HB7.out.size⟩
theorem cDec_len (w : World) (c : Int) (D : Crv) (hc : crvOf c = some D) (bq off n cp : Nat) (b0 : BitVec 8) (bs : List (BitVec 8)) (hs : SlV w w.heap.size (some ⟨bq, off, none⟩) n cp ((b0 :: bs).map W8)) (hn : n ≤ 500) (hb0 : b0 = 4) (hl : n ≠ 1 + 2 * D.size) (hD : D.size ≤ 1000) :
  Calls Tryz.prog 25 #[.int .i64 c, .slice (some ⟨bq, off, none⟩) n cp] w fun e w' => e = .returned (.tuple #[inf0, .bool false]) ∧ Below w.heap.size w w' := by
 have hnn : n = bs.length + 1 := by simpa using hs.len
 have hn1 : (0 : Int) < n := by omega
 have hn2 : ¬ (n : Int) = 0 := by omega
 have hz8 := BitVec.isLt b0
 obtain ⟨v8, hv8⟩ : ∃ v : Int, i8 b0 = v := ⟨_, rfl⟩
 have hc8 : (W8 b0) = .int .u8 v8 := by rw [← hv8]
 have hv0 : v8 = 4 := by rw [← hv8, hb0]; rfl
 subst hv0
 have hl2 : ¬ (n : Int) = 1 + 2 * (D.size : Int) := by omega
 have hD2 : (D.size : Int) ≤ 1000 := by omega
 clear hb0 hl hD
 have HV8 := hid hv8
 have HC8 := hid hc8
 have HNN := hid hnn
 have HSW := hid hs
 clear hnn hz8 hv8 hc8
 have hmx : Tryz.prog.follows .mixedOrders = true := by kernel_rfl
 have hok := crv_ok hc
 have HOK := hid hok
 obtain ⟨W0, e0, r0, b0, s0⟩ := newS w 26 [.bool false, .slice none 0 0, .slice none 0 0] _ rfl
 obtain ⟨gr, hgr⟩ : ∃ x, w.heap.size = x := ⟨_, rfl⟩
 rw [hgr] at r0
 have HB := hid b0
 have HR := hid r0
 have HGL := hid (show w.heap.size ≤ gr by omega)
 have hs0 := hs.later b0 (Nat.le_refl _)
 have HS := hid hs0
 have HD := hid (domOf_yes W0 c D hc)
 clear b0 s0 r0 hc hs hs0 hok 
 go_enter Tryz.func25, Tryz.ntmps25
 go_wp2_with fail
 refine HD.out.mono ?_
 rintro e w1 ⟨vd, rfl, hvd, hb1⟩
 obtain ⟨vp, vb, vn, vx, vy, rfl, k1, k2, k3, k4, k5⟩ := hvd
 obtain ⟨Ap, np, cp', rfl⟩ := k1.sl
 obtain ⟨Ab, nb, cb, rfl⟩ := k2.sl
 obtain ⟨An, nn, cn, rfl⟩ := k3.sl
 obtain ⟨Ax, nx, cx, rfl⟩ := k4.sl
 obtain ⟨Ay, ny, cy, rfl⟩ := k5.sl
 have HDM := hid (show Dm w1 _ D from ⟨_, _, _, _, _, rfl, k1, k2, k3, k4, k5⟩)
 obtain ⟨W5, e5, r5, b5, s5⟩ := newS w1 73 [.int .i64 0, .slice none 0 0, .slice none 0 0, .slice none 0 0, .bool false, .slice none 0 0, .slice none 0 0] _ rfl
 obtain ⟨g8, hg8⟩ : ∃ x, w1.heap.size = x := ⟨_, rfl⟩
 rw [hg8] at r5
 have HB5 := hid b5
 have HB1 := hid hb1
 have HG8 := hid (show w1.heap.size ≤ g8 by omega)
 have HNU := hid (NoU.of_row r5 (by intro v hv x; simp only [List.mem_cons, List.not_mem_nil, or_false] at hv; rcases hv with rfl | rfl | rfl | rfl | rfl | rfl | rfl <;> (intro h; cases h)))
 have HRG := hid ((HR.out.later hb1).later b5)
 have HNR := hid (show gr ≠ g8 by have := (HR.out.later hb1).lt; omega)
 have hs5 := (HS.out.later hb1 (Nat.le_refl _)).later b5 (Nat.le_refl _)
 have HS5 := hid hs5
 clear hb1 b5 s5 hs5 k1 k2 k3 k4 k5
 have hbw1 := HB.out.trans (HB1.out.mono HB.out.size)
 have HBW5 := hid (hbw1.trans (HB5.out.mono hbw1.size))
 have HG8X := hid (show w.heap.size ≤ g8 by have := HG8.out; have := hbw1.size; omega)
 clear hbw1
 go_wp2_with ((with_reducible show wpList _ _ _ (⟨none, _, _, _, _, _⟩ :: _) _ _); refine wlS_store rfl 73 7 Tryz.sizeDom _ _ rfl g8 [.int .i64 (D.size : Int), .slice Ap np cp', .slice Ab nb cb, .slice An nn cn, .bool false, .slice Ax nx cx, .slice Ay ny cy] rfl rfl 73 _ r5 rfl rfl (by intro v hv; simp only [List.mem_cons, List.not_mem_nil, or_false] at hv; rcases hv with rfl | rfl | rfl | rfl | rfl | rfl | rfl <;> rfl) ?_; intro w6 hr6 hg6 hz; have HBX := hid (below_grown HBW5.out hg6 HG8X.out HBW5.out.size); have hc0 : w6.cell? ⟨bq, off, none⟩ = some (.int .u8 4) := (by have hh := (HSW.out.later HBX.out (Nat.le_refl _)).first; rw [HC8.out] at hh; exact hh); have f0 := hr6.at_ (i := 0) rfl)
 have hbw1 := HB.out.trans (HB1.out.mono HB.out.size)
 have hbw5 := hbw1.trans (HB5.out.mono hbw1.size)
 have HB6 := hid (below_grown hbw5 hg6 (by have := HG8.out; have := hbw1.size; omega) hbw5.size)
 have HR6 := hid (HRG.out.grown hg6 HNR.out)
 clear hbw1 hbw5
 refine (cinf_any w6).mono ?_
 rintro e w7 ⟨rfl, hb7⟩
 have hr7 := HR6.out.later hb7
 have HB7 := hid (HB6.out.trans (hb7.mono HB6.out.size))
 clear hb7
 go_wp2_with ((with_reducible show wpList _ _ _ (⟨none, _, _, _, _, _⟩ :: _) _ _); refine wlS_store rfl 26 3 Tryz.sizePt _ _ rfl gr [.bool true, .slice none 0 0, .slice none 0 0] rfl rfl 26 _ hr7 rfl rfl (ones3 rfl rfl rfl) ?_; intro w8 hr8 hg8w hz)
 refine ⟨rfl, _, results_pt2 rfl _ gr _ rfl hr8 rfl, rfl, below_grown HB7.out hg8w HGL.out HB7.out.size⟩
end Go.Proofs.YtbejcollbkeedaaGreat
