/- Parts of one proof, joined: RvF, RvG, RvH. -/
import Derived.Test.YtbejcollbkeedaaGreatPileM9
set_option linter.unusedVariables false
set_option linter.unusedSimpArgs false
set_option linter.unusedSectionVars false
set_option maxRecDepth 100000
set_option maxHeartbeats 8000000
open Go.Lib (hid)
namespace Go.Proofs.YtbejcollbkeedaaGreat
open Go.RowKit
theorem rtw_any (w : World) (vc v : Value) (D : Crv) (hc : Cr w vc D) (hp : Bp D.p) (T : Nat × Nat × Nat) (h : Jc w v T) (h1 : T.1 < D.p) (h2 : T.2.1 < D.p) (h3 : T.2.2 < D.p) :
  Calls Tryz.prog 57 #[vc, v] w fun e w' => ∃ v', e = .returned v' ∧ Jc w' v' (twR D.p T) ∧ Below w.heap.size w w' := by
 obtain ⟨a, b, c, rfl, ka, kb, kc⟩ := h
 obtain ⟨Ac, nc, cc, rfl, hnc⟩ := kc.zlen
 obtain ⟨Ab, nb, cb, rfl, hnb⟩ := kb.zlen
 obtain ⟨Aa, na, ca, rfl⟩ := ka.sl
 unfold twR
 by_cases hz : T.2.2 = 0
 ·rw [if_pos (.inl hz)]
  obtain rfl := hnc.2 hz
  exact rtw_z w vc D hc _ _ _ _ _ _ _ 0 _
 ·by_cases hy : T.2.1 = 0
  ·rw [if_pos (.inr hy)]
   obtain rfl := hnb.2 hy
   have hnc0 : ¬ (nc : Int) = 0 := fun h => hz (hnc.1 (by omega))
   exact rtw_y w vc D hc _ _ _ _ _ 0 _ _ _ hnc0
  ·rw [if_neg (by rintro (h | h); exact hz h; exact hy h)]
   exact rtw_main w vc D hc hp _ _ _ _ _ _ _ _ ka kb kc h1 h2 h3 (fun h => hz (hnc.1 (by omega))) hy
def mxU (p z x2 : Nat) : Nat := mulP p x2 (mulP p z z)
def mxS (p z y2 : Nat) : Nat := mulP p y2 (mulP p (mulP p z z) z)
def mxH (p x z x2 : Nat) : Nat := subP p (mxU p z x2) x
def mxR (p y z y2 : Nat) : Nat := subP p (mxS p z y2) y
def mxHH (p x z x2 : Nat) : Nat := mulP p (mxH p x z x2) (mxH p x z x2)
def mxC (p x z x2 : Nat) : Nat := mulP p (mxHH p x z x2) (mxH p x z x2)
def mxV (p x z x2 : Nat) : Nat := mulP p x (mxHH p x z x2)
def mxX (p x y z x2 y2 : Nat) : Nat := subP p (subP p (subP p (mulP p (mxR p y z y2) (mxR p y z y2)) (mxC p x z x2)) (mxV p x z x2)) (mxV p x z x2)
def mxY (p x y z x2 y2 : Nat) : Nat := subP p (mulP p (mxR p y z y2) (subP p (mxV p x z x2) (mxX p x y z x2 y2))) (mulP p y (mxC p x z x2))
def mxT (p x y z x2 y2 : Nat) : Nat × Nat × Nat := if z = 0 then (x2, y2, 1) else if mxH p x z x2 = 0 then (if mxR p y z y2 = 0 then twR p (x, y, z) else (0, 0, 0)) else (mxX p x y z x2 y2, mxY p x y z x2 y2, mulP p z (mxH p x z x2))
theorem rmx_no (w : World) (vc : Value) (D : Crv) (hc : Cr w vc D) (hp : Bp D.p) (a b qx qy : Value) (Ac : Option Addr) (nc cc : Nat) (x y z x2 y2 : Nat) (ha : Nb w a x) (hb : Nb w b y) (hz : Nb w (.slice Ac nc cc) z) (hqx : Nb w qx x2) (hqy : Nb w qy y2) (hx : x < D.p) (hy : y < D.p) (hzl : z < D.p) (hx2 : x2 < D.p) (hy2 : y2 < D.p) (hz0 : ¬ (nc : Int) = 0) (hh : mxH D.p x z x2 = 0) (hr : mxR D.p y z y2 ≠ 0) :
  Calls Tryz.prog 59 #[vc, .agg #[a, b, .slice Ac nc cc], .agg #[.bool false, qx, qy]] w fun e w' => ∃ v, e = .returned v ∧ Jc w' v (0, 0, 0) ∧ Below w.heap.size w w' := by
 have hz1 : ((nc : Int) == 0) = false := beq_eq_false_iff_ne.2 hz0
 have hmx : Tryz.prog.follows .mixedOrders = true := by kernel_rfl
 obtain ⟨vp, vn, vb, vx, vy, rfl, kp, kb⟩ := hc.pr
 obtain ⟨W0, e0, r0, b0, s0⟩ := newS w 30 [vp, vn, vb, vx, vy, .int .i64 (D.size : Int)] _ rfl
 obtain ⟨W1, e1, r1, b1, s1⟩ := newS W0 100 [a, b, .slice Ac nc cc] _ rfl
 obtain ⟨Wq, eq, rq, bq, sq⟩ := newS W1 33 [.bool false, qx, qy] _ rfl
 obtain ⟨W2, e2, r2, b2, s2⟩ := newS Wq 100 [.slice none 0 0, .slice none 0 0, .slice none 0 0] _ rfl
 obtain ⟨g0, hg0⟩ : ∃ g, w.heap.size = g := ⟨_, rfl⟩
 obtain ⟨g1, hg1⟩ : ∃ g, W0.heap.size = g := ⟨_, rfl⟩
 obtain ⟨gq, hgq⟩ : ∃ g, W1.heap.size = g := ⟨_, rfl⟩
 obtain ⟨gr, hgr⟩ : ∃ g, Wq.heap.size = g := ⟨_, rfl⟩
 have hb1 := b0.trans (b1.mono b0.size)
 have hbq := hb1.trans (bq.mono hb1.size)
 have hbw := hbq.trans (b2.mono hbq.size)
 have HGL := hid (show w.heap.size ≤ gr ∧ g0 ≠ gr ∧ g1 ≠ gr ∧ gq ≠ gr by omega)
 rw [hg0] at r0
 rw [hg1] at r1
 rw [hgq] at rq
 rw [hgr] at r2
 have r02 := ((r0.later b1).later bq).later b2
 have r12 := (r1.later bq).later b2
 have rq2 := rq.later b2
 have HB := hid hbw
 have HR0 := hid r02
 have HR1 := hid r12
 have HRQ := hid rq2
 have HRR := hid r2
 have HCR := hid (hc.later hbw)
 have HKP := hid (kp.later hbw)
 have HA := hid (ha.later hbw)
 have HBB := hid (hb.later hbw)
 have HZZ := hid (hz.later hbw)
 have HQX := hid (hqx.later hbw)
 have HQY := hid (hqy.later hbw)
 have HP := hid hp
 have HX := hid hx
 have HY := hid hy
 have HZ := hid hzl
 have HX2 := hid hx2
 have HY2 := hid hy2
 clear b0 b1 b2 bq s0 s1 s2 sq hb1 hbq hbw r0 r1 r2 rq r02 r12 rq2 hc kp kb ha hb hz hqx hqy hp hx hy hzl hx2 hy2 hz0
 have HM := hid (rtimes9_any W2 _ (.slice Ac nc cc) (.slice Ac nc cc) D z z HCR.out HZZ.out HZZ.out HP.out.1)
 have c0 := HR0.out.at_ (i := 0) rfl
 have c1 := HR0.out.at_ (i := 1) rfl
 have c2 := HR0.out.at_ (i := 2) rfl
 have c3 := HR0.out.at_ (i := 3) rfl
 have c4 := HR0.out.at_ (i := 4) rfl
 have c5 := HR0.out.at_ (i := 5) rfl
 have z0 := HR1.out.at_ (i := 2) rfl
 go_enter Tryz.func59, Tryz.ntmps59
 go_wp2_with fail
 refine HM.out.mono ?_
 rintro e w3 ⟨l7, rfl, hl7, hbz⟩
 replace HR0 := hid (HR0.out.later hbz)
 replace HR1 := hid (HR1.out.later hbz)
 replace HRQ := hid (HRQ.out.later hbz)
 replace HRR := hid (HRR.out.later hbz)
 replace HCR := hid (HCR.out.later hbz)
 replace HKP := hid (HKP.out.later hbz)
 replace HA := hid (HA.out.later hbz)
 replace HBB := hid (HBB.out.later hbz)
 replace HZZ := hid (HZZ.out.later hbz)
 replace HQX := hid (HQX.out.later hbz)
 replace HQY := hid (HQY.out.later hbz)
 replace HB := hid (HB.out.trans (hbz.mono HB.out.size))
 have HL7 := hid (show Nb w3 l7 (mulP D.p z z) from hl7)
 clear hz1
 clear hbz hl7 HM c0 c1 c2 c3 c4 c5 z0
 have HM := hid (rtimes9_any w3 _ qx l7 D x2 _ HCR.out HQX.out HL7.out HP.out.1)
 have c0 := HR0.out.at_ (i := 0) rfl
 have c1 := HR0.out.at_ (i := 1) rfl
 have c2 := HR0.out.at_ (i := 2) rfl
 have c3 := HR0.out.at_ (i := 3) rfl
 have c4 := HR0.out.at_ (i := 4) rfl
 have c5 := HR0.out.at_ (i := 5) rfl
 have z0 := HRQ.out.at_ (i := 1) rfl
 go_wp2_with fail
 refine HM.out.mono ?_
 rintro e w4 ⟨l8, rfl, hl8, hbz⟩
 replace HR0 := hid (HR0.out.later hbz)
 replace HR1 := hid (HR1.out.later hbz)
 replace HRQ := hid (HRQ.out.later hbz)
 replace HRR := hid (HRR.out.later hbz)
 replace HCR := hid (HCR.out.later hbz)
 replace HKP := hid (HKP.out.later hbz)
 replace HA := hid (HA.out.later hbz)
 replace HBB := hid (HBB.out.later hbz)
 replace HZZ := hid (HZZ.out.later hbz)
 replace HQX := hid (HQX.out.later hbz)
 replace HQY := hid (HQY.out.later hbz)
 replace HL7 := hid (HL7.out.later hbz)
 replace HB := hid (HB.out.trans (hbz.mono HB.out.size))
 have HL8 := hid (show Nb w4 l8 (mxU D.p z x2) from hl8)
 clear hbz hl8 HM c0 c1 c2 c3 c4 c5 z0
 go_wp2_with fail
 refine (wpIn_wide (n := 9)).1 (wpIn_region_num0 rfl hmx [(38, .val (.agg #[vp, vn, vb, vx, vy, .int .i64 (D.size : Int)])), (39, .val (.pointer (some ⟨gq, 2, none⟩))), (40, .val (qy)), (41, .val (.agg #[vp, vn, vb, vx, vy, .int .i64 (D.size : Int)])), (42, .val (l7)), (43, .val (.pointer (some ⟨g1, 2, none⟩))), (44, .val (.slice Ac nc cc)), (45, .nb (mulP D.p (mulP D.p z z) (z))), (46, .nb (mulP D.p (y2) (mulP D.p (mulP D.p z z) (z)))), (9, .nb (mulP D.p (y2) (mulP D.p (mulP D.p z z) (z))))] (by kernel_rfl) (by kernel_rfl) (by kernel_rfl) (by kernel_rfl) (by rfl) ?hopsa ?henda)
 case hopsa =>
  intro i o a' V hB ho hev hrd
  have his : i < 10 := by have := (Array.getElem?_eq_some_iff.1 ho).1; simpa using this
  have hr0 := HR0.out.later hB
  have hr1 := HR1.out.later hB
  have hrq := HRQ.out.later hB
  have c0 := hr0.at_ (i := 0) rfl
  have d0 := hr1.at_ (i := 0) rfl
  have d1 := hr1.at_ (i := 1) rfl
  have d2 := hr1.at_ (i := 2) rfl
  have q1 := hrq.at_ (i := 1) rfl
  have q2 := hrq.at_ (i := 2) rfl
  have hcr := HCR.out.later hB
  have hkp := HKP.out.later hB
  have hA := HA.out.later hB
  have hBB := HBB.out.later hB
  have hZZ := HZZ.out.later hB
  have hQX := HQX.out.later hB
  have hQY := HQY.out.later hB
  have hl7 := HL7.out.later hB
  have hl8 := HL8.out.later hB
  have hcase : i = 0 ∨ i = 1 ∨ i = 2 ∨ i = 3 ∨ i = 4 ∨ i = 5 ∨ i = 6 ∨ i = 7 ∨ i = 8 ∨ i = 9 := by omega
  rcases hcase with rfl | rfl | rfl | rfl | rfl | rfl | rfl | rfl | rfl | rfl
  ·simp at ho
   subst ho
   have r3 := hev 3 rfl
   simp [Act.eval] at r3
   try simp [Act.put] at r3
   refine ⟨nofun, fun _ _ => trivial, nofun, .inl ⟨.agg #[vp, vn, vb, vx, vy, .int .i64 (D.size : Int)], V, exec_load 30 6 _ Tryz.underlying30 rfl Tryz.sizeCr _ rfl g0 [vp, vn, vb, vx, vy, .int .i64 (D.size : Int)] (by simpa [Act.eval] using r3) 30 hr0 rfl, Below.refl _ _, fun t ht => by cases ht; rfl⟩⟩
  ·simp at ho
   subst ho
   have r5 := hev 5 rfl
   simp [Act.eval] at r5
   refine ⟨nofun, fun _ _ => trivial, nofun, .inl ⟨.pointer (some ⟨gq, 2, none⟩), V, ?_, Below.refl _ _, fun t ht => by cases ht; rfl⟩⟩
   simp [execOp, Act.eval, go_sem, r5, c0, d0, d1, d2, q1, q2]
  ·simp at ho
   subst ho
   have r39 : a'.eval (.tmp 39) = .pointer (some ⟨gq, 2, none⟩) := hrd 39 rfl rfl
   simp [Act.eval] at r39
   refine ⟨nofun, fun _ _ => trivial, nofun, .inl ⟨qy, V, ?_, Below.refl _ _, fun t ht => by cases ht; rfl⟩⟩
   simp [execOp, Act.eval, go_sem, r39, c0, d0, d1, d2, q1, q2]
  ·simp at ho
   subst ho
   have r3 := hev 3 rfl
   simp [Act.eval] at r3
   try simp [Act.put] at r3
   refine ⟨nofun, fun _ _ => trivial, nofun, .inl ⟨.agg #[vp, vn, vb, vx, vy, .int .i64 (D.size : Int)], V, exec_load 30 6 _ Tryz.underlying30 rfl Tryz.sizeCr _ rfl g0 [vp, vn, vb, vx, vy, .int .i64 (D.size : Int)] (by simpa [Act.eval] using r3) 30 hr0 rfl, Below.refl _ _, fun t ht => by cases ht; rfl⟩⟩
  ·simp at ho
   subst ho
   have r7 := hev 7 rfl
   simp [Act.eval] at r7
   refine ⟨nofun, fun _ _ => trivial, nofun, .inl ⟨l7, V, ?_, Below.refl _ _, fun t ht => by cases ht; rfl⟩⟩
   simp [execOp, Act.eval, go_sem, r7, c0, d0, d1, d2, q1, q2]
  ·simp at ho
   subst ho
   have r4 := hev 4 rfl
   simp [Act.eval] at r4
   refine ⟨nofun, fun _ _ => trivial, nofun, .inl ⟨.pointer (some ⟨g1, 2, none⟩), V, ?_, Below.refl _ _, fun t ht => by cases ht; rfl⟩⟩
   simp [execOp, Act.eval, go_sem, r4, c0, d0, d1, d2, q1, q2]
  ·simp at ho
   subst ho
   have r43 : a'.eval (.tmp 43) = .pointer (some ⟨g1, 2, none⟩) := hrd 43 rfl rfl
   simp [Act.eval] at r43
   refine ⟨nofun, fun _ _ => trivial, nofun, .inl ⟨.slice Ac nc cc, V, ?_, Below.refl _ _, fun t ht => by cases ht; rfl⟩⟩
   simp [execOp, Act.eval, go_sem, r43, c0, d0, d1, d2, q1, q2]
  ·simp at ho
   subst ho
   have r41 : a'.eval (.tmp 41) = .agg #[vp, vn, vb, vx, vy, .int .i64 (D.size : Int)] := hrd 41 rfl rfl
   simp [Act.eval] at r41
   have r42 : a'.eval (.tmp 42) = l7 := hrd 42 rfl rfl
   simp [Act.eval] at r42
   have r44 : a'.eval (.tmp 44) = .slice Ac nc cc := hrd 44 rfl rfl
   simp [Act.eval] at r44
   refine ⟨nofun, fun _ _ => trivial, nofun, .inr ⟨48, #[(.agg #[vp, vn, vb, vx, vy, .int .i64 (D.size : Int)]), l7, .slice Ac nc cc], ?_, (callsIn_wide.2 (rtimes9_any V _ _ _ D _ _ hcr hl7 hZZ HP.out.1)).mono ?_⟩⟩
   ·simp [execOp, Act.eval, r41, r42, r44, resolve, invoke, Deferred.ofValue]
   ·rintro e w' ⟨v, rfl, hv, hB2⟩
    exact ⟨_, rfl, hB2, fun t ht => by cases ht; exact hv⟩
  ·simp at ho
   subst ho
   have r38 : a'.eval (.tmp 38) = .agg #[vp, vn, vb, vx, vy, .int .i64 (D.size : Int)] := hrd 38 rfl rfl
   simp [Act.eval] at r38
   have r40 : a'.eval (.tmp 40) = qy := hrd 40 rfl rfl
   simp [Act.eval] at r40
   have r45 : Nb V (a'.eval (.tmp 45)) (mulP D.p (mulP D.p z z) (z)) := hrd 45 rfl rfl
   refine ⟨nofun, fun _ _ => trivial, nofun, .inr ⟨48, #[(.agg #[vp, vn, vb, vx, vy, .int .i64 (D.size : Int)]), qy, a'.eval (.tmp 45)], ?_, (callsIn_wide.2 (rtimes9_any V _ _ _ D _ _ hcr hQY r45 HP.out.1)).mono ?_⟩⟩
   ·simp [execOp, Act.eval, r38, r40, resolve, invoke, Deferred.ofValue]
   ·rintro e w' ⟨v, rfl, hv, hB2⟩
    exact ⟨_, rfl, hB2, fun t ht => by cases ht; exact hv⟩
  ·simp at ho
   subst ho
   have r46 : Nb V (a'.eval (.tmp 46)) (mulP D.p (y2) (mulP D.p (mulP D.p z z) (z))) := hrd 46 rfl rfl
   refine ⟨nofun, fun _ _ => trivial, nofun, .inl ⟨a'.eval (.tmp 46), V, ?_, Below.refl _ _, fun t ht => by cases ht; exact r46⟩⟩
   simp [execOp]
 intro valsa w5 hBa hPa
 have hl9 : Nb w5 (valsa 9) (mulP D.p (y2) (mulP D.p (mulP D.p z z) (z))) := hPa 9 9 _ rfl rfl
 obtain ⟨l9, hv9⟩ : ∃ l, valsa 9 = l := ⟨_, rfl⟩
 rw [hv9] at hl9
 replace HR0 := hid (HR0.out.later hBa)
 replace HR1 := hid (HR1.out.later hBa)
 replace HRQ := hid (HRQ.out.later hBa)
 replace HRR := hid (HRR.out.later hBa)
 replace HCR := hid (HCR.out.later hBa)
 replace HKP := hid (HKP.out.later hBa)
 replace HA := hid (HA.out.later hBa)
 replace HBB := hid (HBB.out.later hBa)
 replace HZZ := hid (HZZ.out.later hBa)
 replace HQX := hid (HQX.out.later hBa)
 replace HQY := hid (HQY.out.later hBa)
 replace HL7 := hid (HL7.out.later hBa)
 replace HL8 := hid (HL8.out.later hBa)
 replace HB := hid (HB.out.trans (hBa.mono HB.out.size))
 have HL9 := hid (show Nb w5 l9 (mxS D.p z y2) from hl9)
 clear hPa hBa hl9
 simp [wrote, Act.put, hv9]
 have HM := hid (rminus9_any w5 _ l8 a D _ x HCR.out HL8.out HA.out (mside HP.out (Nat.mod_lt _ HP.out.1) HX.out))
 have c0 := HR0.out.at_ (i := 0) rfl
 have c1 := HR0.out.at_ (i := 1) rfl
 have c2 := HR0.out.at_ (i := 2) rfl
 have c3 := HR0.out.at_ (i := 3) rfl
 have c4 := HR0.out.at_ (i := 4) rfl
 have c5 := HR0.out.at_ (i := 5) rfl
 have z0 := HR1.out.at_ (i := 0) rfl
 go_wp2_with fail
 refine HM.out.mono ?_
 rintro e w6 ⟨l10, rfl, hl10, hbz⟩
 replace HR0 := hid (HR0.out.later hbz)
 replace HR1 := hid (HR1.out.later hbz)
 replace HRQ := hid (HRQ.out.later hbz)
 replace HRR := hid (HRR.out.later hbz)
 replace HCR := hid (HCR.out.later hbz)
 replace HKP := hid (HKP.out.later hbz)
 replace HA := hid (HA.out.later hbz)
 replace HBB := hid (HBB.out.later hbz)
 replace HZZ := hid (HZZ.out.later hbz)
 replace HQX := hid (HQX.out.later hbz)
 replace HQY := hid (HQY.out.later hbz)
 replace HL7 := hid (HL7.out.later hbz)
 replace HL8 := hid (HL8.out.later hbz)
 replace HL9 := hid (HL9.out.later hbz)
 replace HB := hid (HB.out.trans (hbz.mono HB.out.size))
 have HL10 := hid (show Nb w6 l10 (mxH D.p x z x2) from hl10)
 clear hbz hl10 HM c0 c1 c2 c3 c4 c5 z0
 have HM := hid (rminus9_any w6 _ l9 b D _ y HCR.out HL9.out HBB.out (mside HP.out (Nat.mod_lt _ HP.out.1) HY.out))
 have c0 := HR0.out.at_ (i := 0) rfl
 have c1 := HR0.out.at_ (i := 1) rfl
 have c2 := HR0.out.at_ (i := 2) rfl
 have c3 := HR0.out.at_ (i := 3) rfl
 have c4 := HR0.out.at_ (i := 4) rfl
 have c5 := HR0.out.at_ (i := 5) rfl
 have z0 := HR1.out.at_ (i := 1) rfl
 go_wp2_with fail
 refine HM.out.mono ?_
 rintro e w7 ⟨l11, rfl, hl11, hbz⟩
 replace HR0 := hid (HR0.out.later hbz)
 replace HR1 := hid (HR1.out.later hbz)
 replace HRQ := hid (HRQ.out.later hbz)
 replace HRR := hid (HRR.out.later hbz)
 replace HCR := hid (HCR.out.later hbz)
 replace HKP := hid (HKP.out.later hbz)
 replace HA := hid (HA.out.later hbz)
 replace HBB := hid (HBB.out.later hbz)
 replace HZZ := hid (HZZ.out.later hbz)
 replace HQX := hid (HQX.out.later hbz)
 replace HQY := hid (HQY.out.later hbz)
 replace HL7 := hid (HL7.out.later hbz)
 replace HL8 := hid (HL8.out.later hbz)
 replace HL9 := hid (HL9.out.later hbz)
 replace HL10 := hid (HL10.out.later hbz)
 replace HB := hid (HB.out.trans (hbz.mono HB.out.size))
 have HL11 := hid (show Nb w7 l11 (mxR D.p y z y2) from hl11)
 clear hbz hl11 HM c0 c1 c2 c3 c4 c5 z0
 obtain ⟨A10, n10, c10, rfl, h10⟩ := HL10.out.zlen
 obtain ⟨A11, n11, c11, rfl, h11⟩ := HL11.out.zlen
 obtain rfl := h10.2 hh
 have h1 : ((n11 : Int) == 0) = false := beq_eq_false_iff_ne.2 (fun h => hr (h11.1 (by omega)))
 clear h10 h11 hh hr
 go_wp2_with ((with_reducible show wpList _ _ _ (⟨none, _, _, _, _, _⟩ :: _) _ _); refine wlS_store rfl 100 3 Tryz.sizeJc _ _ rfl gr [.slice none 0 0, .slice none 0 0, .slice none 0 0] rfl rfl 100 _ HRR.out rfl rfl (ones3 rfl rfl rfl) ?_; intro w6 hr6 hg6 hz6)
 exact ⟨rfl, _, results_jc rfl _ gr _ rfl hr6 rfl, _, rfl, ⟨_, _, _, rfl, Nb.nil _, Nb.nil _, Nb.nil _⟩, below_grown HB.out hg6 HGL.out.1 HB.out.size⟩
theorem rmx_tw (w : World) (vc : Value) (D : Crv) (hc : Cr w vc D) (hp : Bp D.p) (a b qx qy : Value) (Ac : Option Addr) (nc cc : Nat) (x y z x2 y2 : Nat) (ha : Nb w a x) (hb : Nb w b y) (hz : Nb w (.slice Ac nc cc) z) (hqx : Nb w qx x2) (hqy : Nb w qy y2) (hx : x < D.p) (hy : y < D.p) (hzl : z < D.p) (hx2 : x2 < D.p) (hy2 : y2 < D.p) (hz0 : ¬ (nc : Int) = 0) (hh : mxH D.p x z x2 = 0) (hr : mxR D.p y z y2 = 0) :
  Calls Tryz.prog 59 #[vc, .agg #[a, b, .slice Ac nc cc], .agg #[.bool false, qx, qy]] w fun e w' => ∃ v, e = .returned v ∧ Jc w' v (twR D.p (x, y, z)) ∧ Below w.heap.size w w' := by
 have hz1 : ((nc : Int) == 0) = false := beq_eq_false_iff_ne.2 hz0
 have hmx : Tryz.prog.follows .mixedOrders = true := by kernel_rfl
 obtain ⟨vp, vn, vb, vx, vy, rfl, kp, kb⟩ := hc.pr
 obtain ⟨W0, e0, r0, b0, s0⟩ := newS w 30 [vp, vn, vb, vx, vy, .int .i64 (D.size : Int)] _ rfl
 obtain ⟨W1, e1, r1, b1, s1⟩ := newS W0 100 [a, b, .slice Ac nc cc] _ rfl
 obtain ⟨Wq, eq, rq, bq, sq⟩ := newS W1 33 [.bool false, qx, qy] _ rfl
 obtain ⟨W2, e2, r2, b2, s2⟩ := newS Wq 100 [.slice none 0 0, .slice none 0 0, .slice none 0 0] _ rfl
 obtain ⟨g0, hg0⟩ : ∃ g, w.heap.size = g := ⟨_, rfl⟩
 obtain ⟨g1, hg1⟩ : ∃ g, W0.heap.size = g := ⟨_, rfl⟩
 obtain ⟨gq, hgq⟩ : ∃ g, W1.heap.size = g := ⟨_, rfl⟩
 obtain ⟨gr, hgr⟩ : ∃ g, Wq.heap.size = g := ⟨_, rfl⟩
 have hb1 := b0.trans (b1.mono b0.size)
 have hbq := hb1.trans (bq.mono hb1.size)
 have hbw := hbq.trans (b2.mono hbq.size)
 have HGL := hid (show w.heap.size ≤ gr ∧ g0 ≠ gr ∧ g1 ≠ gr ∧ gq ≠ gr by omega)
 rw [hg0] at r0
 rw [hg1] at r1
 rw [hgq] at rq
 rw [hgr] at r2
 have r02 := ((r0.later b1).later bq).later b2
 have r12 := (r1.later bq).later b2
 have rq2 := rq.later b2
 have HB := hid hbw
 have HR0 := hid r02
 have HR1 := hid r12
 have HRQ := hid rq2
 have HRR := hid r2
 have HCR := hid (hc.later hbw)
 have HKP := hid (kp.later hbw)
 have HA := hid (ha.later hbw)
 have HBB := hid (hb.later hbw)
 have HZZ := hid (hz.later hbw)
 have HQX := hid (hqx.later hbw)
 have HQY := hid (hqy.later hbw)
 have HP := hid hp
 have HX := hid hx
 have HY := hid hy
 have HZ := hid hzl
 have HX2 := hid hx2
 have HY2 := hid hy2
 clear b0 b1 b2 bq s0 s1 s2 sq hb1 hbq hbw r0 r1 r2 rq r02 r12 rq2 hc kp kb ha hb hz hqx hqy hp hx hy hzl hx2 hy2 hz0
 have HM := hid (rtimes9_any W2 _ (.slice Ac nc cc) (.slice Ac nc cc) D z z HCR.out HZZ.out HZZ.out HP.out.1)
 have c0 := HR0.out.at_ (i := 0) rfl
 have c1 := HR0.out.at_ (i := 1) rfl
 have c2 := HR0.out.at_ (i := 2) rfl
 have c3 := HR0.out.at_ (i := 3) rfl
 have c4 := HR0.out.at_ (i := 4) rfl
 have c5 := HR0.out.at_ (i := 5) rfl
 have z0 := HR1.out.at_ (i := 2) rfl
 go_enter Tryz.func59, Tryz.ntmps59
 go_wp2_with fail
 refine HM.out.mono ?_
 rintro e w3 ⟨l7, rfl, hl7, hbz⟩
 replace HR0 := hid (HR0.out.later hbz)
 replace HR1 := hid (HR1.out.later hbz)
 replace HRQ := hid (HRQ.out.later hbz)
 replace HRR := hid (HRR.out.later hbz)
 replace HCR := hid (HCR.out.later hbz)
 replace HKP := hid (HKP.out.later hbz)
 replace HA := hid (HA.out.later hbz)
 replace HBB := hid (HBB.out.later hbz)
 replace HZZ := hid (HZZ.out.later hbz)
 replace HQX := hid (HQX.out.later hbz)
 replace HQY := hid (HQY.out.later hbz)
 replace HB := hid (HB.out.trans (hbz.mono HB.out.size))
 have HL7 := hid (show Nb w3 l7 (mulP D.p z z) from hl7)
 clear hz1
 clear hbz hl7 HM c0 c1 c2 c3 c4 c5 z0
 have HM := hid (rtimes9_any w3 _ qx l7 D x2 _ HCR.out HQX.out HL7.out HP.out.1)
 have c0 := HR0.out.at_ (i := 0) rfl
 have c1 := HR0.out.at_ (i := 1) rfl
 have c2 := HR0.out.at_ (i := 2) rfl
 have c3 := HR0.out.at_ (i := 3) rfl
 have c4 := HR0.out.at_ (i := 4) rfl
 have c5 := HR0.out.at_ (i := 5) rfl
 have z0 := HRQ.out.at_ (i := 1) rfl
 go_wp2_with fail
 refine HM.out.mono ?_
 rintro e w4 ⟨l8, rfl, hl8, hbz⟩
 replace HR0 := hid (HR0.out.later hbz)
 replace HR1 := hid (HR1.out.later hbz)
 replace HRQ := hid (HRQ.out.later hbz)
 replace HRR := hid (HRR.out.later hbz)
 replace HCR := hid (HCR.out.later hbz)
 replace HKP := hid (HKP.out.later hbz)
 replace HA := hid (HA.out.later hbz)
 replace HBB := hid (HBB.out.later hbz)
 replace HZZ := hid (HZZ.out.later hbz)
 replace HQX := hid (HQX.out.later hbz)
 replace HQY := hid (HQY.out.later hbz)
 replace HL7 := hid (HL7.out.later hbz)
 replace HB := hid (HB.out.trans (hbz.mono HB.out.size))
 have HL8 := hid (show Nb w4 l8 (mxU D.p z x2) from hl8)
 clear hbz hl8 HM c0 c1 c2 c3 c4 c5 z0
 go_wp2_with fail
 refine (wpIn_wide (n := 9)).1 (wpIn_region_num0 rfl hmx [(38, .val (.agg #[vp, vn, vb, vx, vy, .int .i64 (D.size : Int)])), (39, .val (.pointer (some ⟨gq, 2, none⟩))), (40, .val (qy)), (41, .val (.agg #[vp, vn, vb, vx, vy, .int .i64 (D.size : Int)])), (42, .val (l7)), (43, .val (.pointer (some ⟨g1, 2, none⟩))), (44, .val (.slice Ac nc cc)), (45, .nb (mulP D.p (mulP D.p z z) (z))), (46, .nb (mulP D.p (y2) (mulP D.p (mulP D.p z z) (z)))), (9, .nb (mulP D.p (y2) (mulP D.p (mulP D.p z z) (z))))] (by kernel_rfl) (by kernel_rfl) (by kernel_rfl) (by kernel_rfl) (by rfl) ?hopsa ?henda)
 case hopsa =>
  intro i o a' V hB ho hev hrd
  have his : i < 10 := by have := (Array.getElem?_eq_some_iff.1 ho).1; simpa using this
  have hr0 := HR0.out.later hB
  have hr1 := HR1.out.later hB
  have hrq := HRQ.out.later hB
  have c0 := hr0.at_ (i := 0) rfl
  have d0 := hr1.at_ (i := 0) rfl
  have d1 := hr1.at_ (i := 1) rfl
  have d2 := hr1.at_ (i := 2) rfl
  have q1 := hrq.at_ (i := 1) rfl
  have q2 := hrq.at_ (i := 2) rfl
  have hcr := HCR.out.later hB
  have hkp := HKP.out.later hB
  have hA := HA.out.later hB
  have hBB := HBB.out.later hB
  have hZZ := HZZ.out.later hB
  have hQX := HQX.out.later hB
  have hQY := HQY.out.later hB
  have hl7 := HL7.out.later hB
  have hl8 := HL8.out.later hB
  have hcase : i = 0 ∨ i = 1 ∨ i = 2 ∨ i = 3 ∨ i = 4 ∨ i = 5 ∨ i = 6 ∨ i = 7 ∨ i = 8 ∨ i = 9 := by omega
  rcases hcase with rfl | rfl | rfl | rfl | rfl | rfl | rfl | rfl | rfl | rfl
  ·simp at ho
   subst ho
   have r3 := hev 3 rfl
   simp [Act.eval] at r3
   try simp [Act.put] at r3
   refine ⟨nofun, fun _ _ => trivial, nofun, .inl ⟨.agg #[vp, vn, vb, vx, vy, .int .i64 (D.size : Int)], V, exec_load 30 6 _ Tryz.underlying30 rfl Tryz.sizeCr _ rfl g0 [vp, vn, vb, vx, vy, .int .i64 (D.size : Int)] (by simpa [Act.eval] using r3) 30 hr0 rfl, Below.refl _ _, fun t ht => by cases ht; rfl⟩⟩
  ·simp at ho
   subst ho
   have r5 := hev 5 rfl
   simp [Act.eval] at r5
   refine ⟨nofun, fun _ _ => trivial, nofun, .inl ⟨.pointer (some ⟨gq, 2, none⟩), V, ?_, Below.refl _ _, fun t ht => by cases ht; rfl⟩⟩
   simp [execOp, Act.eval, go_sem, r5, c0, d0, d1, d2, q1, q2]
  ·simp at ho
   subst ho
   have r39 : a'.eval (.tmp 39) = .pointer (some ⟨gq, 2, none⟩) := hrd 39 rfl rfl
   simp [Act.eval] at r39
   refine ⟨nofun, fun _ _ => trivial, nofun, .inl ⟨qy, V, ?_, Below.refl _ _, fun t ht => by cases ht; rfl⟩⟩
   simp [execOp, Act.eval, go_sem, r39, c0, d0, d1, d2, q1, q2]
  ·simp at ho
   subst ho
   have r3 := hev 3 rfl
   simp [Act.eval] at r3
   try simp [Act.put] at r3
   refine ⟨nofun, fun _ _ => trivial, nofun, .inl ⟨.agg #[vp, vn, vb, vx, vy, .int .i64 (D.size : Int)], V, exec_load 30 6 _ Tryz.underlying30 rfl Tryz.sizeCr _ rfl g0 [vp, vn, vb, vx, vy, .int .i64 (D.size : Int)] (by simpa [Act.eval] using r3) 30 hr0 rfl, Below.refl _ _, fun t ht => by cases ht; rfl⟩⟩
  ·simp at ho
   subst ho
   have r7 := hev 7 rfl
   simp [Act.eval] at r7
   refine ⟨nofun, fun _ _ => trivial, nofun, .inl ⟨l7, V, ?_, Below.refl _ _, fun t ht => by cases ht; rfl⟩⟩
   simp [execOp, Act.eval, go_sem, r7, c0, d0, d1, d2, q1, q2]
  ·simp at ho
   subst ho
   have r4 := hev 4 rfl
   simp [Act.eval] at r4
   refine ⟨nofun, fun _ _ => trivial, nofun, .inl ⟨.pointer (some ⟨g1, 2, none⟩), V, ?_, Below.refl _ _, fun t ht => by cases ht; rfl⟩⟩
   simp [execOp, Act.eval, go_sem, r4, c0, d0, d1, d2, q1, q2]
  ·simp at ho
   subst ho
   have r43 : a'.eval (.tmp 43) = .pointer (some ⟨g1, 2, none⟩) := hrd 43 rfl rfl
   simp [Act.eval] at r43
   refine ⟨nofun, fun _ _ => trivial, nofun, .inl ⟨.slice Ac nc cc, V, ?_, Below.refl _ _, fun t ht => by cases ht; rfl⟩⟩
   simp [execOp, Act.eval, go_sem, r43, c0, d0, d1, d2, q1, q2]
  ·simp at ho
   subst ho
   have r41 : a'.eval (.tmp 41) = .agg #[vp, vn, vb, vx, vy, .int .i64 (D.size : Int)] := hrd 41 rfl rfl
   simp [Act.eval] at r41
   have r42 : a'.eval (.tmp 42) = l7 := hrd 42 rfl rfl
   simp [Act.eval] at r42
   have r44 : a'.eval (.tmp 44) = .slice Ac nc cc := hrd 44 rfl rfl
   simp [Act.eval] at r44
   refine ⟨nofun, fun _ _ => trivial, nofun, .inr ⟨48, #[(.agg #[vp, vn, vb, vx, vy, .int .i64 (D.size : Int)]), l7, .slice Ac nc cc], ?_, (callsIn_wide.2 (rtimes9_any V _ _ _ D _ _ hcr hl7 hZZ HP.out.1)).mono ?_⟩⟩
   ·simp [execOp, Act.eval, r41, r42, r44, resolve, invoke, Deferred.ofValue]
   ·rintro e w' ⟨v, rfl, hv, hB2⟩
    exact ⟨_, rfl, hB2, fun t ht => by cases ht; exact hv⟩
  ·simp at ho
   subst ho
   have r38 : a'.eval (.tmp 38) = .agg #[vp, vn, vb, vx, vy, .int .i64 (D.size : Int)] := hrd 38 rfl rfl
   simp [Act.eval] at r38
   have r40 : a'.eval (.tmp 40) = qy := hrd 40 rfl rfl
   simp [Act.eval] at r40
   have r45 : Nb V (a'.eval (.tmp 45)) (mulP D.p (mulP D.p z z) (z)) := hrd 45 rfl rfl
   refine ⟨nofun, fun _ _ => trivial, nofun, .inr ⟨48, #[(.agg #[vp, vn, vb, vx, vy, .int .i64 (D.size : Int)]), qy, a'.eval (.tmp 45)], ?_, (callsIn_wide.2 (rtimes9_any V _ _ _ D _ _ hcr hQY r45 HP.out.1)).mono ?_⟩⟩
   ·simp [execOp, Act.eval, r38, r40, resolve, invoke, Deferred.ofValue]
   ·rintro e w' ⟨v, rfl, hv, hB2⟩
    exact ⟨_, rfl, hB2, fun t ht => by cases ht; exact hv⟩
  ·simp at ho
   subst ho
   have r46 : Nb V (a'.eval (.tmp 46)) (mulP D.p (y2) (mulP D.p (mulP D.p z z) (z))) := hrd 46 rfl rfl
   refine ⟨nofun, fun _ _ => trivial, nofun, .inl ⟨a'.eval (.tmp 46), V, ?_, Below.refl _ _, fun t ht => by cases ht; exact r46⟩⟩
   simp [execOp]
 intro valsa w5 hBa hPa
 have hl9 : Nb w5 (valsa 9) (mulP D.p (y2) (mulP D.p (mulP D.p z z) (z))) := hPa 9 9 _ rfl rfl
 obtain ⟨l9, hv9⟩ : ∃ l, valsa 9 = l := ⟨_, rfl⟩
 rw [hv9] at hl9
 replace HR0 := hid (HR0.out.later hBa)
 replace HR1 := hid (HR1.out.later hBa)
 replace HRQ := hid (HRQ.out.later hBa)
 replace HRR := hid (HRR.out.later hBa)
 replace HCR := hid (HCR.out.later hBa)
 replace HKP := hid (HKP.out.later hBa)
 replace HA := hid (HA.out.later hBa)
 replace HBB := hid (HBB.out.later hBa)
 replace HZZ := hid (HZZ.out.later hBa)
 replace HQX := hid (HQX.out.later hBa)
 replace HQY := hid (HQY.out.later hBa)
 replace HL7 := hid (HL7.out.later hBa)
 replace HL8 := hid (HL8.out.later hBa)
 replace HB := hid (HB.out.trans (hBa.mono HB.out.size))
 have HL9 := hid (show Nb w5 l9 (mxS D.p z y2) from hl9)
 clear hPa hBa hl9
 simp [wrote, Act.put, hv9]
 have HM := hid (rminus9_any w5 _ l8 a D _ x HCR.out HL8.out HA.out (mside HP.out (Nat.mod_lt _ HP.out.1) HX.out))
 have c0 := HR0.out.at_ (i := 0) rfl
 have c1 := HR0.out.at_ (i := 1) rfl
 have c2 := HR0.out.at_ (i := 2) rfl
 have c3 := HR0.out.at_ (i := 3) rfl
 have c4 := HR0.out.at_ (i := 4) rfl
 have c5 := HR0.out.at_ (i := 5) rfl
 have z0 := HR1.out.at_ (i := 0) rfl
 go_wp2_with fail
 refine HM.out.mono ?_
 rintro e w6 ⟨l10, rfl, hl10, hbz⟩
 replace HR0 := hid (HR0.out.later hbz)
 replace HR1 := hid (HR1.out.later hbz)
 replace HRQ := hid (HRQ.out.later hbz)
 replace HRR := hid (HRR.out.later hbz)
 replace HCR := hid (HCR.out.later hbz)
 replace HKP := hid (HKP.out.later hbz)
 replace HA := hid (HA.out.later hbz)
 replace HBB := hid (HBB.out.later hbz)
 replace HZZ := hid (HZZ.out.later hbz)
 replace HQX := hid (HQX.out.later hbz)
 replace HQY := hid (HQY.out.later hbz)
 replace HL7 := hid (HL7.out.later hbz)
 replace HL8 := hid (HL8.out.later hbz)
 replace HL9 := hid (HL9.out.later hbz)
 replace HB := hid (HB.out.trans (hbz.mono HB.out.size))
 have HL10 := hid (show Nb w6 l10 (mxH D.p x z x2) from hl10)
 clear hbz hl10 HM c0 c1 c2 c3 c4 c5 z0
 have HM := hid (rminus9_any w6 _ l9 b D _ y HCR.out HL9.out HBB.out (mside HP.out (Nat.mod_lt _ HP.out.1) HY.out))
 have c0 := HR0.out.at_ (i := 0) rfl
 have c1 := HR0.out.at_ (i := 1) rfl
 have c2 := HR0.out.at_ (i := 2) rfl
 have c3 := HR0.out.at_ (i := 3) rfl
 have c4 := HR0.out.at_ (i := 4) rfl
 have c5 := HR0.out.at_ (i := 5) rfl
 have z0 := HR1.out.at_ (i := 1) rfl
 go_wp2_with fail
 refine HM.out.mono ?_
 rintro e w7 ⟨l11, rfl, hl11, hbz⟩
 replace HR0 := hid (HR0.out.later hbz)
 replace HR1 := hid (HR1.out.later hbz)
 replace HRQ := hid (HRQ.out.later hbz)
 replace HRR := hid (HRR.out.later hbz)
 replace HCR := hid (HCR.out.later hbz)
 replace HKP := hid (HKP.out.later hbz)
 replace HA := hid (HA.out.later hbz)
 replace HBB := hid (HBB.out.later hbz)
 replace HZZ := hid (HZZ.out.later hbz)
 replace HQX := hid (HQX.out.later hbz)
 replace HQY := hid (HQY.out.later hbz)
 replace HL7 := hid (HL7.out.later hbz)
 replace HL8 := hid (HL8.out.later hbz)
 replace HL9 := hid (HL9.out.later hbz)
 replace HL10 := hid (HL10.out.later hbz)
 replace HB := hid (HB.out.trans (hbz.mono HB.out.size))
 have HL11 := hid (show Nb w7 l11 (mxR D.p y z y2) from hl11)
 clear hbz hl11 HM c0 c1 c2 c3 c4 c5 z0
 obtain ⟨A10, n10, c10, rfl, h10⟩ := HL10.out.zlen
 obtain ⟨A11, n11, c11, rfl, h11⟩ := HL11.out.zlen
 obtain rfl := h10.2 hh
 obtain rfl := h11.2 hr
 have c0 := HR0.out.at_ (i := 0) rfl
 have c1 := HR0.out.at_ (i := 1) rfl
 have c2 := HR0.out.at_ (i := 2) rfl
 have c3 := HR0.out.at_ (i := 3) rfl
 have c4 := HR0.out.at_ (i := 4) rfl
 have c5 := HR0.out.at_ (i := 5) rfl
 have z0 := HR1.out.at_ (i := 0) rfl
 have z1 := HR1.out.at_ (i := 1) rfl
 have z2 := HR1.out.at_ (i := 2) rfl
 have HM := hid (rtw_any w7 _ (.agg #[a, b, .slice Ac nc cc]) D HCR.out HP.out (x, y, z) ⟨_, _, _, rfl, HA.out, HBB.out, HZZ.out⟩ HX.out HY.out HZ.out)
 clear h10 h11 hh hr
 go_wp2_with fail
 refine HM.out.mono ?_
 rintro e w8 ⟨v, rfl, hv, hbz⟩
 replace HRR := hid (HRR.out.later hbz)
 replace HB := hid (HB.out.trans (hbz.mono HB.out.size))
 obtain ⟨v0, v1, v2, rfl, k1, k2, k3⟩ := hv
 have o1 := k1.one
 have o2 := k2.one
 have o3 := k3.one
 have HK := hid (And.intro k1 (And.intro k2 k3))
 clear k1 k2 k3 hbz c0 c1 c2 c3 c4 c5 z0 z1 z2 HM
 go_wp2_with ((with_reducible show wpList _ _ _ (⟨none, _, _, _, _, _⟩ :: _) _ _); refine wlS_store rfl 100 3 Tryz.sizeJc _ _ rfl gr [v0, v1, v2] rfl rfl 100 _ HRR.out rfl rfl (ones3 o1 o2 o3) ?_; intro w6 hr6 hg6 hz6)
 have hsb : Sb w8 w6 := ⟨gr, NoU.of_row HRR.out (noU3 nofun nofun nofun), hg6⟩
 exact ⟨rfl, _, results_jc rfl _ gr _ rfl hr6 rfl, _, rfl, ⟨_, _, _, rfl, HK.out.1.sb hsb, HK.out.2.1.sb hsb, HK.out.2.2.sb hsb⟩, below_grown HB.out hg6 HGL.out.1 HB.out.size⟩
theorem rmx_main (w : World) (vc : Value) (D : Crv) (hc : Cr w vc D) (hp : Bp D.p) (a b qx qy : Value) (Ac : Option Addr) (nc cc : Nat) (x y z x2 y2 : Nat) (ha : Nb w a x) (hb : Nb w b y) (hz : Nb w (.slice Ac nc cc) z) (hqx : Nb w qx x2) (hqy : Nb w qy y2) (hx : x < D.p) (hy : y < D.p) (hzl : z < D.p) (hx2 : x2 < D.p) (hy2 : y2 < D.p) (hz0 : ¬ (nc : Int) = 0) (hh : mxH D.p x z x2 ≠ 0) :
  Calls Tryz.prog 59 #[vc, .agg #[a, b, .slice Ac nc cc], .agg #[.bool false, qx, qy]] w fun e w' => ∃ v, e = .returned v ∧ Jc w' v (mxX D.p x y z x2 y2, mxY D.p x y z x2 y2, mulP D.p z (mxH D.p x z x2)) ∧ Below w.heap.size w w' := by
 have hz1 : ((nc : Int) == 0) = false := beq_eq_false_iff_ne.2 hz0
 have hmx : Tryz.prog.follows .mixedOrders = true := by kernel_rfl
 obtain ⟨vp, vn, vb, vx, vy, rfl, kp, kb⟩ := hc.pr
 obtain ⟨W0, e0, r0, b0, s0⟩ := newS w 30 [vp, vn, vb, vx, vy, .int .i64 (D.size : Int)] _ rfl
 obtain ⟨W1, e1, r1, b1, s1⟩ := newS W0 100 [a, b, .slice Ac nc cc] _ rfl
 obtain ⟨Wq, eq, rq, bq, sq⟩ := newS W1 33 [.bool false, qx, qy] _ rfl
 obtain ⟨W2, e2, r2, b2, s2⟩ := newS Wq 100 [.slice none 0 0, .slice none 0 0, .slice none 0 0] _ rfl
 obtain ⟨g0, hg0⟩ : ∃ g, w.heap.size = g := ⟨_, rfl⟩
 obtain ⟨g1, hg1⟩ : ∃ g, W0.heap.size = g := ⟨_, rfl⟩
 obtain ⟨gq, hgq⟩ : ∃ g, W1.heap.size = g := ⟨_, rfl⟩
 obtain ⟨gr, hgr⟩ : ∃ g, Wq.heap.size = g := ⟨_, rfl⟩
 have hb1 := b0.trans (b1.mono b0.size)
 have hbq := hb1.trans (bq.mono hb1.size)
 have hbw := hbq.trans (b2.mono hbq.size)
 have HGL := hid (show w.heap.size ≤ gr ∧ g0 ≠ gr ∧ g1 ≠ gr ∧ gq ≠ gr by omega)
 rw [hg0] at r0
 rw [hg1] at r1
 rw [hgq] at rq
 rw [hgr] at r2
 have r02 := ((r0.later b1).later bq).later b2
 have r12 := (r1.later bq).later b2
 have rq2 := rq.later b2
 have HB := hid hbw
 have HR0 := hid r02
 have HR1 := hid r12
 have HRQ := hid rq2
 have HRR := hid r2
 have HCR := hid (hc.later hbw)
 have HKP := hid (kp.later hbw)
 have HA := hid (ha.later hbw)
 have HBB := hid (hb.later hbw)
 have HZZ := hid (hz.later hbw)
 have HQX := hid (hqx.later hbw)
 have HQY := hid (hqy.later hbw)
 have HP := hid hp
 have HX := hid hx
 have HY := hid hy
 have HZ := hid hzl
 have HX2 := hid hx2
 have HY2 := hid hy2
 clear b0 b1 b2 bq s0 s1 s2 sq hb1 hbq hbw r0 r1 r2 rq r02 r12 rq2 hc kp kb ha hb hz hqx hqy hp hx hy hzl hx2 hy2 hz0
 have HM := hid (rtimes9_any W2 _ (.slice Ac nc cc) (.slice Ac nc cc) D z z HCR.out HZZ.out HZZ.out HP.out.1)
 have c0 := HR0.out.at_ (i := 0) rfl
 have c1 := HR0.out.at_ (i := 1) rfl
 have c2 := HR0.out.at_ (i := 2) rfl
 have c3 := HR0.out.at_ (i := 3) rfl
 have c4 := HR0.out.at_ (i := 4) rfl
 have c5 := HR0.out.at_ (i := 5) rfl
 have z0 := HR1.out.at_ (i := 2) rfl
 go_enter Tryz.func59, Tryz.ntmps59
 go_wp2_with fail
 refine HM.out.mono ?_
 rintro e w3 ⟨l7, rfl, hl7, hbz⟩
 replace HR0 := hid (HR0.out.later hbz)
 replace HR1 := hid (HR1.out.later hbz)
 replace HRQ := hid (HRQ.out.later hbz)
 replace HRR := hid (HRR.out.later hbz)
 replace HCR := hid (HCR.out.later hbz)
 replace HKP := hid (HKP.out.later hbz)
 replace HA := hid (HA.out.later hbz)
 replace HBB := hid (HBB.out.later hbz)
 replace HZZ := hid (HZZ.out.later hbz)
 replace HQX := hid (HQX.out.later hbz)
 replace HQY := hid (HQY.out.later hbz)
 replace HB := hid (HB.out.trans (hbz.mono HB.out.size))
 have HL7 := hid (show Nb w3 l7 (mulP D.p z z) from hl7)
 clear hz1
 clear hbz hl7 HM c0 c1 c2 c3 c4 c5 z0
 have HM := hid (rtimes9_any w3 _ qx l7 D x2 _ HCR.out HQX.out HL7.out HP.out.1)
 have c0 := HR0.out.at_ (i := 0) rfl
 have c1 := HR0.out.at_ (i := 1) rfl
 have c2 := HR0.out.at_ (i := 2) rfl
 have c3 := HR0.out.at_ (i := 3) rfl
 have c4 := HR0.out.at_ (i := 4) rfl
 have c5 := HR0.out.at_ (i := 5) rfl
 have z0 := HRQ.out.at_ (i := 1) rfl
 go_wp2_with fail
 refine HM.out.mono ?_
 rintro e w4 ⟨l8, rfl, hl8, hbz⟩
 replace HR0 := hid (HR0.out.later hbz)
 replace HR1 := hid (HR1.out.later hbz)
 replace HRQ := hid (HRQ.out.later hbz)
 replace HRR := hid (HRR.out.later hbz)
 replace HCR := hid (HCR.out.later hbz)
 replace HKP := hid (HKP.out.later hbz)
 replace HA := hid (HA.out.later hbz)
 replace HBB := hid (HBB.out.later hbz)
 replace HZZ := hid (HZZ.out.later hbz)
 replace HQX := hid (HQX.out.later hbz)
 replace HQY := hid (HQY.out.later hbz)
 replace HL7 := hid (HL7.out.later hbz)
 replace HB := hid (HB.out.trans (hbz.mono HB.out.size))
 have HL8 := hid (show Nb w4 l8 (mxU D.p z x2) from hl8)
 clear hbz hl8 HM c0 c1 c2 c3 c4 c5 z0
 go_wp2_with fail
 refine (wpIn_wide (n := 9)).1 (wpIn_region_num0 rfl hmx [(38, .val (.agg #[vp, vn, vb, vx, vy, .int .i64 (D.size : Int)])), (39, .val (.pointer (some ⟨gq, 2, none⟩))), (40, .val (qy)), (41, .val (.agg #[vp, vn, vb, vx, vy, .int .i64 (D.size : Int)])), (42, .val (l7)), (43, .val (.pointer (some ⟨g1, 2, none⟩))), (44, .val (.slice Ac nc cc)), (45, .nb (mulP D.p (mulP D.p z z) (z))), (46, .nb (mulP D.p (y2) (mulP D.p (mulP D.p z z) (z)))), (9, .nb (mulP D.p (y2) (mulP D.p (mulP D.p z z) (z))))] (by kernel_rfl) (by kernel_rfl) (by kernel_rfl) (by kernel_rfl) (by rfl) ?hopsa ?henda)
 case hopsa =>
  intro i o a' V hB ho hev hrd
  have his : i < 10 := by have := (Array.getElem?_eq_some_iff.1 ho).1; simpa using this
  have hr0 := HR0.out.later hB
  have hr1 := HR1.out.later hB
  have hrq := HRQ.out.later hB
  have c0 := hr0.at_ (i := 0) rfl
  have d0 := hr1.at_ (i := 0) rfl
  have d1 := hr1.at_ (i := 1) rfl
  have d2 := hr1.at_ (i := 2) rfl
  have q1 := hrq.at_ (i := 1) rfl
  have q2 := hrq.at_ (i := 2) rfl
  have hcr := HCR.out.later hB
  have hkp := HKP.out.later hB
  have hA := HA.out.later hB
  have hBB := HBB.out.later hB
  have hZZ := HZZ.out.later hB
  have hQX := HQX.out.later hB
  have hQY := HQY.out.later hB
  have hl7 := HL7.out.later hB
  have hl8 := HL8.out.later hB
  have hcase : i = 0 ∨ i = 1 ∨ i = 2 ∨ i = 3 ∨ i = 4 ∨ i = 5 ∨ i = 6 ∨ i = 7 ∨ i = 8 ∨ i = 9 := by omega
  rcases hcase with rfl | rfl | rfl | rfl | rfl | rfl | rfl | rfl | rfl | rfl
  ·simp at ho
   subst ho
   have r3 := hev 3 rfl
   simp [Act.eval] at r3
   try simp [Act.put] at r3
   refine ⟨nofun, fun _ _ => trivial, nofun, .inl ⟨.agg #[vp, vn, vb, vx, vy, .int .i64 (D.size : Int)], V, exec_load 30 6 _ Tryz.underlying30 rfl Tryz.sizeCr _ rfl g0 [vp, vn, vb, vx, vy, .int .i64 (D.size : Int)] (by simpa [Act.eval] using r3) 30 hr0 rfl, Below.refl _ _, fun t ht => by cases ht; rfl⟩⟩
  ·simp at ho
   subst ho
   have r5 := hev 5 rfl
   simp [Act.eval] at r5
   refine ⟨nofun, fun _ _ => trivial, nofun, .inl ⟨.pointer (some ⟨gq, 2, none⟩), V, ?_, Below.refl _ _, fun t ht => by cases ht; rfl⟩⟩
   simp [execOp, Act.eval, go_sem, r5, c0, d0, d1, d2, q1, q2]
  ·simp at ho
   subst ho
   have r39 : a'.eval (.tmp 39) = .pointer (some ⟨gq, 2, none⟩) := hrd 39 rfl rfl
   simp [Act.eval] at r39
   refine ⟨nofun, fun _ _ => trivial, nofun, .inl ⟨qy, V, ?_, Below.refl _ _, fun t ht => by cases ht; rfl⟩⟩
   simp [execOp, Act.eval, go_sem, r39, c0, d0, d1, d2, q1, q2]
  ·simp at ho
   subst ho
   have r3 := hev 3 rfl
   simp [Act.eval] at r3
   try simp [Act.put] at r3
   refine ⟨nofun, fun _ _ => trivial, nofun, .inl ⟨.agg #[vp, vn, vb, vx, vy, .int .i64 (D.size : Int)], V, exec_load 30 6 _ Tryz.underlying30 rfl Tryz.sizeCr _ rfl g0 [vp, vn, vb, vx, vy, .int .i64 (D.size : Int)] (by simpa [Act.eval] using r3) 30 hr0 rfl, Below.refl _ _, fun t ht => by cases ht; rfl⟩⟩
  ·simp at ho
   subst ho
   have r7 := hev 7 rfl
   simp [Act.eval] at r7
   refine ⟨nofun, fun _ _ => trivial, nofun, .inl ⟨l7, V, ?_, Below.refl _ _, fun t ht => by cases ht; rfl⟩⟩
   simp [execOp, Act.eval, go_sem, r7, c0, d0, d1, d2, q1, q2]
  ·simp at ho
   subst ho
   have r4 := hev 4 rfl
   simp [Act.eval] at r4
   refine ⟨nofun, fun _ _ => trivial, nofun, .inl ⟨.pointer (some ⟨g1, 2, none⟩), V, ?_, Below.refl _ _, fun t ht => by cases ht; rfl⟩⟩
   simp [execOp, Act.eval, go_sem, r4, c0, d0, d1, d2, q1, q2]
  ·simp at ho
   subst ho
   have r43 : a'.eval (.tmp 43) = .pointer (some ⟨g1, 2, none⟩) := hrd 43 rfl rfl
   simp [Act.eval] at r43
   refine ⟨nofun, fun _ _ => trivial, nofun, .inl ⟨.slice Ac nc cc, V, ?_, Below.refl _ _, fun t ht => by cases ht; rfl⟩⟩
   simp [execOp, Act.eval, go_sem, r43, c0, d0, d1, d2, q1, q2]
  ·simp at ho
   subst ho
   have r41 : a'.eval (.tmp 41) = .agg #[vp, vn, vb, vx, vy, .int .i64 (D.size : Int)] := hrd 41 rfl rfl
   simp [Act.eval] at r41
   have r42 : a'.eval (.tmp 42) = l7 := hrd 42 rfl rfl
   simp [Act.eval] at r42
   have r44 : a'.eval (.tmp 44) = .slice Ac nc cc := hrd 44 rfl rfl
   simp [Act.eval] at r44
   refine ⟨nofun, fun _ _ => trivial, nofun, .inr ⟨48, #[(.agg #[vp, vn, vb, vx, vy, .int .i64 (D.size : Int)]), l7, .slice Ac nc cc], ?_, (callsIn_wide.2 (rtimes9_any V _ _ _ D _ _ hcr hl7 hZZ HP.out.1)).mono ?_⟩⟩
   ·simp [execOp, Act.eval, r41, r42, r44, resolve, invoke, Deferred.ofValue]
   ·rintro e w' ⟨v, rfl, hv, hB2⟩
    exact ⟨_, rfl, hB2, fun t ht => by cases ht; exact hv⟩
  ·simp at ho
   subst ho
   have r38 : a'.eval (.tmp 38) = .agg #[vp, vn, vb, vx, vy, .int .i64 (D.size : Int)] := hrd 38 rfl rfl
   simp [Act.eval] at r38
   have r40 : a'.eval (.tmp 40) = qy := hrd 40 rfl rfl
   simp [Act.eval] at r40
   have r45 : Nb V (a'.eval (.tmp 45)) (mulP D.p (mulP D.p z z) (z)) := hrd 45 rfl rfl
   refine ⟨nofun, fun _ _ => trivial, nofun, .inr ⟨48, #[(.agg #[vp, vn, vb, vx, vy, .int .i64 (D.size : Int)]), qy, a'.eval (.tmp 45)], ?_, (callsIn_wide.2 (rtimes9_any V _ _ _ D _ _ hcr hQY r45 HP.out.1)).mono ?_⟩⟩
   ·simp [execOp, Act.eval, r38, r40, resolve, invoke, Deferred.ofValue]
   ·rintro e w' ⟨v, rfl, hv, hB2⟩
    exact ⟨_, rfl, hB2, fun t ht => by cases ht; exact hv⟩
  ·simp at ho
   subst ho
   have r46 : Nb V (a'.eval (.tmp 46)) (mulP D.p (y2) (mulP D.p (mulP D.p z z) (z))) := hrd 46 rfl rfl
   refine ⟨nofun, fun _ _ => trivial, nofun, .inl ⟨a'.eval (.tmp 46), V, ?_, Below.refl _ _, fun t ht => by cases ht; exact r46⟩⟩
   simp [execOp]
 intro valsa w5 hBa hPa
 have hl9 : Nb w5 (valsa 9) (mulP D.p (y2) (mulP D.p (mulP D.p z z) (z))) := hPa 9 9 _ rfl rfl
 obtain ⟨l9, hv9⟩ : ∃ l, valsa 9 = l := ⟨_, rfl⟩
 rw [hv9] at hl9
 replace HR0 := hid (HR0.out.later hBa)
 replace HR1 := hid (HR1.out.later hBa)
 replace HRQ := hid (HRQ.out.later hBa)
 replace HRR := hid (HRR.out.later hBa)
 replace HCR := hid (HCR.out.later hBa)
 replace HKP := hid (HKP.out.later hBa)
 replace HA := hid (HA.out.later hBa)
 replace HBB := hid (HBB.out.later hBa)
 replace HZZ := hid (HZZ.out.later hBa)
 replace HQX := hid (HQX.out.later hBa)
 replace HQY := hid (HQY.out.later hBa)
 replace HL7 := hid (HL7.out.later hBa)
 replace HL8 := hid (HL8.out.later hBa)
 replace HB := hid (HB.out.trans (hBa.mono HB.out.size))
 have HL9 := hid (show Nb w5 l9 (mxS D.p z y2) from hl9)
 clear hPa hBa hl9
 simp [wrote, Act.put, hv9]
 have HM := hid (rminus9_any w5 _ l8 a D _ x HCR.out HL8.out HA.out (mside HP.out (Nat.mod_lt _ HP.out.1) HX.out))
 have c0 := HR0.out.at_ (i := 0) rfl
 have c1 := HR0.out.at_ (i := 1) rfl
 have c2 := HR0.out.at_ (i := 2) rfl
 have c3 := HR0.out.at_ (i := 3) rfl
 have c4 := HR0.out.at_ (i := 4) rfl
 have c5 := HR0.out.at_ (i := 5) rfl
 have z0 := HR1.out.at_ (i := 0) rfl
 go_wp2_with fail
 refine HM.out.mono ?_
 rintro e w6 ⟨l10, rfl, hl10, hbz⟩
 replace HR0 := hid (HR0.out.later hbz)
 replace HR1 := hid (HR1.out.later hbz)
 replace HRQ := hid (HRQ.out.later hbz)
 replace HRR := hid (HRR.out.later hbz)
 replace HCR := hid (HCR.out.later hbz)
 replace HKP := hid (HKP.out.later hbz)
 replace HA := hid (HA.out.later hbz)
 replace HBB := hid (HBB.out.later hbz)
 replace HZZ := hid (HZZ.out.later hbz)
 replace HQX := hid (HQX.out.later hbz)
 replace HQY := hid (HQY.out.later hbz)
 replace HL7 := hid (HL7.out.later hbz)
 replace HL8 := hid (HL8.out.later hbz)
 replace HL9 := hid (HL9.out.later hbz)
 replace HB := hid (HB.out.trans (hbz.mono HB.out.size))
 have HL10 := hid (show Nb w6 l10 (mxH D.p x z x2) from hl10)
 clear hbz hl10 HM c0 c1 c2 c3 c4 c5 z0
 have HM := hid (rminus9_any w6 _ l9 b D _ y HCR.out HL9.out HBB.out (mside HP.out (Nat.mod_lt _ HP.out.1) HY.out))
 have c0 := HR0.out.at_ (i := 0) rfl
 have c1 := HR0.out.at_ (i := 1) rfl
 have c2 := HR0.out.at_ (i := 2) rfl
 have c3 := HR0.out.at_ (i := 3) rfl
 have c4 := HR0.out.at_ (i := 4) rfl
 have c5 := HR0.out.at_ (i := 5) rfl
 have z0 := HR1.out.at_ (i := 1) rfl
 go_wp2_with fail
 refine HM.out.mono ?_
 rintro e w7 ⟨l11, rfl, hl11, hbz⟩
 replace HR0 := hid (HR0.out.later hbz)
 replace HR1 := hid (HR1.out.later hbz)
 replace HRQ := hid (HRQ.out.later hbz)
 replace HRR := hid (HRR.out.later hbz)
 replace HCR := hid (HCR.out.later hbz)
 replace HKP := hid (HKP.out.later hbz)
 replace HA := hid (HA.out.later hbz)
 replace HBB := hid (HBB.out.later hbz)
 replace HZZ := hid (HZZ.out.later hbz)
 replace HQX := hid (HQX.out.later hbz)
 replace HQY := hid (HQY.out.later hbz)
 replace HL7 := hid (HL7.out.later hbz)
 replace HL8 := hid (HL8.out.later hbz)
 replace HL9 := hid (HL9.out.later hbz)
 replace HL10 := hid (HL10.out.later hbz)
 replace HB := hid (HB.out.trans (hbz.mono HB.out.size))
 have HL11 := hid (show Nb w7 l11 (mxR D.p y z y2) from hl11)
 clear hbz hl11 HM c0 c1 c2 c3 c4 c5 z0
 obtain ⟨A10, n10, c10, rfl, h10⟩ := HL10.out.zlen
 have h1 : ((n10 : Int) == 0) = false := beq_eq_false_iff_ne.2 (fun h => hh (h10.1 (by omega)))
 clear h10 hh
 have HM := hid (rtimes9_any w7 _ (.slice A10 n10 c10) (.slice A10 n10 c10) D _ _ HCR.out HL10.out HL10.out HP.out.1)
 have c0 := HR0.out.at_ (i := 0) rfl
 have c1 := HR0.out.at_ (i := 1) rfl
 have c2 := HR0.out.at_ (i := 2) rfl
 have c3 := HR0.out.at_ (i := 3) rfl
 have c4 := HR0.out.at_ (i := 4) rfl
 have c5 := HR0.out.at_ (i := 5) rfl
 go_wp2_with fail
 refine HM.out.mono ?_
 rintro e w8 ⟨l12, rfl, hl12, hbz⟩
 replace HR0 := hid (HR0.out.later hbz)
 replace HR1 := hid (HR1.out.later hbz)
 replace HRQ := hid (HRQ.out.later hbz)
 replace HRR := hid (HRR.out.later hbz)
 replace HCR := hid (HCR.out.later hbz)
 replace HKP := hid (HKP.out.later hbz)
 replace HA := hid (HA.out.later hbz)
 replace HBB := hid (HBB.out.later hbz)
 replace HZZ := hid (HZZ.out.later hbz)
 replace HQX := hid (HQX.out.later hbz)
 replace HQY := hid (HQY.out.later hbz)
 replace HL7 := hid (HL7.out.later hbz)
 replace HL8 := hid (HL8.out.later hbz)
 replace HL9 := hid (HL9.out.later hbz)
 replace HL10 := hid (HL10.out.later hbz)
 replace HL11 := hid (HL11.out.later hbz)
 replace HB := hid (HB.out.trans (hbz.mono HB.out.size))
 have HL12 := hid (show Nb w8 l12 (mxHH D.p x z x2) from hl12)
 clear h1
 clear hbz hl12 HM c0 c1 c2 c3 c4 c5
 have HM := hid (rtimes9_any w8 _ l12 (.slice A10 n10 c10) D _ _ HCR.out HL12.out HL10.out HP.out.1)
 have c0 := HR0.out.at_ (i := 0) rfl
 have c1 := HR0.out.at_ (i := 1) rfl
 have c2 := HR0.out.at_ (i := 2) rfl
 have c3 := HR0.out.at_ (i := 3) rfl
 have c4 := HR0.out.at_ (i := 4) rfl
 have c5 := HR0.out.at_ (i := 5) rfl
 go_wp2_with fail
 refine HM.out.mono ?_
 rintro e w9 ⟨l13, rfl, hl13, hbz⟩
 replace HR0 := hid (HR0.out.later hbz)
 replace HR1 := hid (HR1.out.later hbz)
 replace HRQ := hid (HRQ.out.later hbz)
 replace HRR := hid (HRR.out.later hbz)
 replace HCR := hid (HCR.out.later hbz)
 replace HKP := hid (HKP.out.later hbz)
 replace HA := hid (HA.out.later hbz)
 replace HBB := hid (HBB.out.later hbz)
 replace HZZ := hid (HZZ.out.later hbz)
 replace HQX := hid (HQX.out.later hbz)
 replace HQY := hid (HQY.out.later hbz)
 replace HL7 := hid (HL7.out.later hbz)
 replace HL8 := hid (HL8.out.later hbz)
 replace HL9 := hid (HL9.out.later hbz)
 replace HL10 := hid (HL10.out.later hbz)
 replace HL11 := hid (HL11.out.later hbz)
 replace HL12 := hid (HL12.out.later hbz)
 replace HB := hid (HB.out.trans (hbz.mono HB.out.size))
 have HL13 := hid (show Nb w9 l13 (mxC D.p x z x2) from hl13)
 clear hbz hl13 HM c0 c1 c2 c3 c4 c5
 have HM := hid (rtimes9_any w9 _ a l12 D _ _ HCR.out HA.out HL12.out HP.out.1)
 have c0 := HR0.out.at_ (i := 0) rfl
 have c1 := HR0.out.at_ (i := 1) rfl
 have c2 := HR0.out.at_ (i := 2) rfl
 have c3 := HR0.out.at_ (i := 3) rfl
 have c4 := HR0.out.at_ (i := 4) rfl
 have c5 := HR0.out.at_ (i := 5) rfl
 have z0 := HR1.out.at_ (i := 0) rfl
 go_wp2_with fail
 refine HM.out.mono ?_
 rintro e wa ⟨l14, rfl, hl14, hbz⟩
 replace HR0 := hid (HR0.out.later hbz)
 replace HR1 := hid (HR1.out.later hbz)
 replace HRQ := hid (HRQ.out.later hbz)
 replace HRR := hid (HRR.out.later hbz)
 replace HCR := hid (HCR.out.later hbz)
 replace HKP := hid (HKP.out.later hbz)
 replace HA := hid (HA.out.later hbz)
 replace HBB := hid (HBB.out.later hbz)
 replace HZZ := hid (HZZ.out.later hbz)
 replace HQX := hid (HQX.out.later hbz)
 replace HQY := hid (HQY.out.later hbz)
 replace HL7 := hid (HL7.out.later hbz)
 replace HL8 := hid (HL8.out.later hbz)
 replace HL9 := hid (HL9.out.later hbz)
 replace HL10 := hid (HL10.out.later hbz)
 replace HL11 := hid (HL11.out.later hbz)
 replace HL12 := hid (HL12.out.later hbz)
 replace HL13 := hid (HL13.out.later hbz)
 replace HB := hid (HB.out.trans (hbz.mono HB.out.size))
 have HL14 := hid (show Nb wa l14 (mxV D.p x z x2) from hl14)
 clear hbz hl14 HM c0 c1 c2 c3 c4 c5 z0
 go_wp2_with fail
 refine (wpIn_wide (n := 9)).1 (wpIn_region_num0 rfl hmx [(80, .val (.agg #[vp, vn, vb, vx, vy, .int .i64 (D.size : Int)])), (81, .val (.agg #[vp, vn, vb, vx, vy, .int .i64 (D.size : Int)])), (82, .val (.agg #[vp, vn, vb, vx, vy, .int .i64 (D.size : Int)])), (83, .val (.agg #[vp, vn, vb, vx, vy, .int .i64 (D.size : Int)])), (84, .val (l11)), (85, .val (l11)), (86, .nb (mulP D.p (mxR D.p y z y2) (mxR D.p y z y2))), (87, .val (l13)), (88, .nb (subP D.p (mulP D.p (mxR D.p y z y2) (mxR D.p y z y2)) (mxC D.p x z x2))), (89, .val (l14)), (90, .nb (subP D.p (subP D.p (mulP D.p (mxR D.p y z y2) (mxR D.p y z y2)) (mxC D.p x z x2)) (mxV D.p x z x2))), (91, .val (l14)), (92, .nb (subP D.p (subP D.p (subP D.p (mulP D.p (mxR D.p y z y2) (mxR D.p y z y2)) (mxC D.p x z x2)) (mxV D.p x z x2)) (mxV D.p x z x2))), (15, .nb (subP D.p (subP D.p (subP D.p (mulP D.p (mxR D.p y z y2) (mxR D.p y z y2)) (mxC D.p x z x2)) (mxV D.p x z x2)) (mxV D.p x z x2)))] (by kernel_rfl) (by kernel_rfl) (by kernel_rfl) (by kernel_rfl) (by rfl) ?hopsb ?hendb)
 case hopsb =>
  intro i o a' V hB ho hev hrd
  have his : i < 14 := by have := (Array.getElem?_eq_some_iff.1 ho).1; simpa using this
  have hr0 := HR0.out.later hB
  have hr1 := HR1.out.later hB
  have hrq := HRQ.out.later hB
  have c0 := hr0.at_ (i := 0) rfl
  have d0 := hr1.at_ (i := 0) rfl
  have d1 := hr1.at_ (i := 1) rfl
  have d2 := hr1.at_ (i := 2) rfl
  have q1 := hrq.at_ (i := 1) rfl
  have q2 := hrq.at_ (i := 2) rfl
  have hcr := HCR.out.later hB
  have hkp := HKP.out.later hB
  have hA := HA.out.later hB
  have hBB := HBB.out.later hB
  have hZZ := HZZ.out.later hB
  have hQX := HQX.out.later hB
  have hQY := HQY.out.later hB
  have hl11 := HL11.out.later hB
  have hl12 := HL12.out.later hB
  have hl13 := HL13.out.later hB
  have hl14 := HL14.out.later hB
  have hl10 := HL10.out.later hB
  have hcase : i = 0 ∨ i = 1 ∨ i = 2 ∨ i = 3 ∨ i = 4 ∨ i = 5 ∨ i = 6 ∨ i = 7 ∨ i = 8 ∨ i = 9 ∨ i = 10 ∨ i = 11 ∨ i = 12 ∨ i = 13 := by omega
  rcases hcase with rfl | rfl | rfl | rfl | rfl | rfl | rfl | rfl | rfl | rfl | rfl | rfl | rfl | rfl
  ·simp at ho
   subst ho
   have r3 := hev 3 rfl
   simp [Act.eval] at r3
   try simp [Act.put] at r3
   refine ⟨nofun, fun _ _ => trivial, nofun, .inl ⟨.agg #[vp, vn, vb, vx, vy, .int .i64 (D.size : Int)], V, exec_load 30 6 _ Tryz.underlying30 rfl Tryz.sizeCr _ rfl g0 [vp, vn, vb, vx, vy, .int .i64 (D.size : Int)] (by simpa [Act.eval] using r3) 30 hr0 rfl, Below.refl _ _, fun t ht => by cases ht; rfl⟩⟩
  ·simp at ho
   subst ho
   have r3 := hev 3 rfl
   simp [Act.eval] at r3
   try simp [Act.put] at r3
   refine ⟨nofun, fun _ _ => trivial, nofun, .inl ⟨.agg #[vp, vn, vb, vx, vy, .int .i64 (D.size : Int)], V, exec_load 30 6 _ Tryz.underlying30 rfl Tryz.sizeCr _ rfl g0 [vp, vn, vb, vx, vy, .int .i64 (D.size : Int)] (by simpa [Act.eval] using r3) 30 hr0 rfl, Below.refl _ _, fun t ht => by cases ht; rfl⟩⟩
  ·simp at ho
   subst ho
   have r3 := hev 3 rfl
   simp [Act.eval] at r3
   try simp [Act.put] at r3
   refine ⟨nofun, fun _ _ => trivial, nofun, .inl ⟨.agg #[vp, vn, vb, vx, vy, .int .i64 (D.size : Int)], V, exec_load 30 6 _ Tryz.underlying30 rfl Tryz.sizeCr _ rfl g0 [vp, vn, vb, vx, vy, .int .i64 (D.size : Int)] (by simpa [Act.eval] using r3) 30 hr0 rfl, Below.refl _ _, fun t ht => by cases ht; rfl⟩⟩
  ·simp at ho
   subst ho
   have r3 := hev 3 rfl
   simp [Act.eval] at r3
   try simp [Act.put] at r3
   refine ⟨nofun, fun _ _ => trivial, nofun, .inl ⟨.agg #[vp, vn, vb, vx, vy, .int .i64 (D.size : Int)], V, exec_load 30 6 _ Tryz.underlying30 rfl Tryz.sizeCr _ rfl g0 [vp, vn, vb, vx, vy, .int .i64 (D.size : Int)] (by simpa [Act.eval] using r3) 30 hr0 rfl, Below.refl _ _, fun t ht => by cases ht; rfl⟩⟩
  ·simp at ho
   subst ho
   have r11 := hev 11 rfl
   simp [Act.eval] at r11
   refine ⟨nofun, fun _ _ => trivial, nofun, .inl ⟨l11, V, ?_, Below.refl _ _, fun t ht => by cases ht; rfl⟩⟩
   simp [execOp, Act.eval, go_sem, r11, c0, d0, d1, d2, q1, q2]
  ·simp at ho
   subst ho
   have r11 := hev 11 rfl
   simp [Act.eval] at r11
   refine ⟨nofun, fun _ _ => trivial, nofun, .inl ⟨l11, V, ?_, Below.refl _ _, fun t ht => by cases ht; rfl⟩⟩
   simp [execOp, Act.eval, go_sem, r11, c0, d0, d1, d2, q1, q2]
  ·simp at ho
   subst ho
   have r83 : a'.eval (.tmp 83) = .agg #[vp, vn, vb, vx, vy, .int .i64 (D.size : Int)] := hrd 83 rfl rfl
   simp [Act.eval] at r83
   have r84 : a'.eval (.tmp 84) = l11 := hrd 84 rfl rfl
   simp [Act.eval] at r84
   have r85 : a'.eval (.tmp 85) = l11 := hrd 85 rfl rfl
   simp [Act.eval] at r85
   refine ⟨nofun, fun _ _ => trivial, nofun, .inr ⟨48, #[(.agg #[vp, vn, vb, vx, vy, .int .i64 (D.size : Int)]), l11, l11], ?_, (callsIn_wide.2 (rtimes9_any V _ _ _ D _ _ hcr hl11 hl11 HP.out.1)).mono ?_⟩⟩
   ·simp [execOp, Act.eval, r83, r84, r85, resolve, invoke, Deferred.ofValue]
   ·rintro e w' ⟨v, rfl, hv, hB2⟩
    exact ⟨_, rfl, hB2, fun t ht => by cases ht; exact hv⟩
  ·simp at ho
   subst ho
   have r13 := hev 13 rfl
   simp [Act.eval] at r13
   refine ⟨nofun, fun _ _ => trivial, nofun, .inl ⟨l13, V, ?_, Below.refl _ _, fun t ht => by cases ht; rfl⟩⟩
   simp [execOp, Act.eval, go_sem, r13, c0, d0, d1, d2, q1, q2]
  ·simp at ho
   subst ho
   have r82 : a'.eval (.tmp 82) = .agg #[vp, vn, vb, vx, vy, .int .i64 (D.size : Int)] := hrd 82 rfl rfl
   simp [Act.eval] at r82
   have r86 : Nb V (a'.eval (.tmp 86)) (mulP D.p (mxR D.p y z y2) (mxR D.p y z y2)) := hrd 86 rfl rfl
   have r87 : a'.eval (.tmp 87) = l13 := hrd 87 rfl rfl
   simp [Act.eval] at r87
   refine ⟨nofun, fun _ _ => trivial, nofun, .inr ⟨50, #[(.agg #[vp, vn, vb, vx, vy, .int .i64 (D.size : Int)]), a'.eval (.tmp 86), l13], ?_, (callsIn_wide.2 (rminus9_any V _ _ _ D _ _ hcr r86 hl13 (mside HP.out (Nat.mod_lt _ HP.out.1) (Nat.mod_lt _ HP.out.1)))).mono ?_⟩⟩
   ·simp [execOp, Act.eval, r82, r87, resolve, invoke, Deferred.ofValue]
   ·rintro e w' ⟨v, rfl, hv, hB2⟩
    exact ⟨_, rfl, hB2, fun t ht => by cases ht; exact hv⟩
  ·simp at ho
   subst ho
   have r14 := hev 14 rfl
   simp [Act.eval] at r14
   refine ⟨nofun, fun _ _ => trivial, nofun, .inl ⟨l14, V, ?_, Below.refl _ _, fun t ht => by cases ht; rfl⟩⟩
   simp [execOp, Act.eval, go_sem, r14, c0, d0, d1, d2, q1, q2]
  ·simp at ho
   subst ho
   have r81 : a'.eval (.tmp 81) = .agg #[vp, vn, vb, vx, vy, .int .i64 (D.size : Int)] := hrd 81 rfl rfl
   simp [Act.eval] at r81
   have r88 : Nb V (a'.eval (.tmp 88)) (subP D.p (mulP D.p (mxR D.p y z y2) (mxR D.p y z y2)) (mxC D.p x z x2)) := hrd 88 rfl rfl
   have r89 : a'.eval (.tmp 89) = l14 := hrd 89 rfl rfl
   simp [Act.eval] at r89
   refine ⟨nofun, fun _ _ => trivial, nofun, .inr ⟨50, #[(.agg #[vp, vn, vb, vx, vy, .int .i64 (D.size : Int)]), a'.eval (.tmp 88), l14], ?_, (callsIn_wide.2 (rminus9_any V _ _ _ D _ _ hcr r88 hl14 (mside HP.out (Nat.mod_lt _ HP.out.1) (Nat.mod_lt _ HP.out.1)))).mono ?_⟩⟩
   ·simp [execOp, Act.eval, r81, r89, resolve, invoke, Deferred.ofValue]
   ·rintro e w' ⟨v, rfl, hv, hB2⟩
    exact ⟨_, rfl, hB2, fun t ht => by cases ht; exact hv⟩
  ·simp at ho
   subst ho
   have r14 := hev 14 rfl
   simp [Act.eval] at r14
   refine ⟨nofun, fun _ _ => trivial, nofun, .inl ⟨l14, V, ?_, Below.refl _ _, fun t ht => by cases ht; rfl⟩⟩
   simp [execOp, Act.eval, go_sem, r14, c0, d0, d1, d2, q1, q2]
  ·simp at ho
   subst ho
   have r80 : a'.eval (.tmp 80) = .agg #[vp, vn, vb, vx, vy, .int .i64 (D.size : Int)] := hrd 80 rfl rfl
   simp [Act.eval] at r80
   have r90 : Nb V (a'.eval (.tmp 90)) (subP D.p (subP D.p (mulP D.p (mxR D.p y z y2) (mxR D.p y z y2)) (mxC D.p x z x2)) (mxV D.p x z x2)) := hrd 90 rfl rfl
   have r91 : a'.eval (.tmp 91) = l14 := hrd 91 rfl rfl
   simp [Act.eval] at r91
   refine ⟨nofun, fun _ _ => trivial, nofun, .inr ⟨50, #[(.agg #[vp, vn, vb, vx, vy, .int .i64 (D.size : Int)]), a'.eval (.tmp 90), l14], ?_, (callsIn_wide.2 (rminus9_any V _ _ _ D _ _ hcr r90 hl14 (mside HP.out (Nat.mod_lt _ HP.out.1) (Nat.mod_lt _ HP.out.1)))).mono ?_⟩⟩
   ·simp [execOp, Act.eval, r80, r91, resolve, invoke, Deferred.ofValue]
   ·rintro e w' ⟨v, rfl, hv, hB2⟩
    exact ⟨_, rfl, hB2, fun t ht => by cases ht; exact hv⟩
  ·simp at ho
   subst ho
   have r92 : Nb V (a'.eval (.tmp 92)) (subP D.p (subP D.p (subP D.p (mulP D.p (mxR D.p y z y2) (mxR D.p y z y2)) (mxC D.p x z x2)) (mxV D.p x z x2)) (mxV D.p x z x2)) := hrd 92 rfl rfl
   refine ⟨nofun, fun _ _ => trivial, nofun, .inl ⟨a'.eval (.tmp 92), V, ?_, Below.refl _ _, fun t ht => by cases ht; exact r92⟩⟩
   simp [execOp]
 intro valsb wb hBb hPb
 have hl15 : Nb wb (valsb 13) (subP D.p (subP D.p (subP D.p (mulP D.p (mxR D.p y z y2) (mxR D.p y z y2)) (mxC D.p x z x2)) (mxV D.p x z x2)) (mxV D.p x z x2)) := hPb 13 15 _ rfl rfl
 obtain ⟨l15, hv15⟩ : ∃ l, valsb 13 = l := ⟨_, rfl⟩
 rw [hv15] at hl15
 replace HR0 := hid (HR0.out.later hBb)
 replace HR1 := hid (HR1.out.later hBb)
 replace HRQ := hid (HRQ.out.later hBb)
 replace HRR := hid (HRR.out.later hBb)
 replace HCR := hid (HCR.out.later hBb)
 replace HKP := hid (HKP.out.later hBb)
 replace HA := hid (HA.out.later hBb)
 replace HBB := hid (HBB.out.later hBb)
 replace HZZ := hid (HZZ.out.later hBb)
 replace HQX := hid (HQX.out.later hBb)
 replace HQY := hid (HQY.out.later hBb)
 replace HL11 := hid (HL11.out.later hBb)
 replace HL12 := hid (HL12.out.later hBb)
 replace HL13 := hid (HL13.out.later hBb)
 replace HL14 := hid (HL14.out.later hBb)
 replace HL10 := hid (HL10.out.later hBb)
 replace HB := hid (HB.out.trans (hBb.mono HB.out.size))
 have HL15 := hid (show Nb wb l15 (mxX D.p x y z x2 y2) from hl15)
 clear hPb hBb hl15
 simp [wrote, Act.put, hv15]
 go_wp2_with fail
 refine (wpIn_wide (n := 9)).1 (wpIn_region_num0 rfl hmx [(93, .val (.agg #[vp, vn, vb, vx, vy, .int .i64 (D.size : Int)])), (94, .val (.agg #[vp, vn, vb, vx, vy, .int .i64 (D.size : Int)])), (95, .val (l11)), (96, .val (.agg #[vp, vn, vb, vx, vy, .int .i64 (D.size : Int)])), (97, .val (l14)), (98, .val (l15)), (99, .nb (subP D.p (mxV D.p x z x2) (mxX D.p x y z x2 y2))), (100, .nb (mulP D.p (mxR D.p y z y2) (subP D.p (mxV D.p x z x2) (mxX D.p x y z x2 y2)))), (101, .val (.agg #[vp, vn, vb, vx, vy, .int .i64 (D.size : Int)])), (102, .val (.pointer (some ⟨g1, 1, none⟩))), (103, .val (b)), (104, .val (l13)), (105, .nb (mulP D.p (y) (mxC D.p x z x2))), (106, .nb (subP D.p (mulP D.p (mxR D.p y z y2) (subP D.p (mxV D.p x z x2) (mxX D.p x y z x2 y2))) (mulP D.p (y) (mxC D.p x z x2)))), (16, .nb (subP D.p (mulP D.p (mxR D.p y z y2) (subP D.p (mxV D.p x z x2) (mxX D.p x y z x2 y2))) (mulP D.p (y) (mxC D.p x z x2))))] (by kernel_rfl) (by kernel_rfl) (by kernel_rfl) (by kernel_rfl) (by rfl) ?hopsc ?hendc)
 case hopsc =>
  intro i o a' V hB ho hev hrd
  have his : i < 15 := by have := (Array.getElem?_eq_some_iff.1 ho).1; simpa using this
  have hr0 := HR0.out.later hB
  have hr1 := HR1.out.later hB
  have hrq := HRQ.out.later hB
  have c0 := hr0.at_ (i := 0) rfl
  have d0 := hr1.at_ (i := 0) rfl
  have d1 := hr1.at_ (i := 1) rfl
  have d2 := hr1.at_ (i := 2) rfl
  have q1 := hrq.at_ (i := 1) rfl
  have q2 := hrq.at_ (i := 2) rfl
  have hcr := HCR.out.later hB
  have hkp := HKP.out.later hB
  have hA := HA.out.later hB
  have hBB := HBB.out.later hB
  have hZZ := HZZ.out.later hB
  have hQX := HQX.out.later hB
  have hQY := HQY.out.later hB
  have hl11 := HL11.out.later hB
  have hl12 := HL12.out.later hB
  have hl13 := HL13.out.later hB
  have hl14 := HL14.out.later hB
  have hl15 := HL15.out.later hB
  have hl10 := HL10.out.later hB
  have hcase : i = 0 ∨ i = 1 ∨ i = 2 ∨ i = 3 ∨ i = 4 ∨ i = 5 ∨ i = 6 ∨ i = 7 ∨ i = 8 ∨ i = 9 ∨ i = 10 ∨ i = 11 ∨ i = 12 ∨ i = 13 ∨ i = 14 := by omega
  rcases hcase with rfl | rfl | rfl | rfl | rfl | rfl | rfl | rfl | rfl | rfl | rfl | rfl | rfl | rfl | rfl
  ·simp at ho
   subst ho
   have r3 := hev 3 rfl
   simp [Act.eval] at r3
   try simp [Act.put] at r3
   refine ⟨nofun, fun _ _ => trivial, nofun, .inl ⟨.agg #[vp, vn, vb, vx, vy, .int .i64 (D.size : Int)], V, exec_load 30 6 _ Tryz.underlying30 rfl Tryz.sizeCr _ rfl g0 [vp, vn, vb, vx, vy, .int .i64 (D.size : Int)] (by simpa [Act.eval] using r3) 30 hr0 rfl, Below.refl _ _, fun t ht => by cases ht; rfl⟩⟩
  ·simp at ho
   subst ho
   have r3 := hev 3 rfl
   simp [Act.eval] at r3
   try simp [Act.put] at r3
   refine ⟨nofun, fun _ _ => trivial, nofun, .inl ⟨.agg #[vp, vn, vb, vx, vy, .int .i64 (D.size : Int)], V, exec_load 30 6 _ Tryz.underlying30 rfl Tryz.sizeCr _ rfl g0 [vp, vn, vb, vx, vy, .int .i64 (D.size : Int)] (by simpa [Act.eval] using r3) 30 hr0 rfl, Below.refl _ _, fun t ht => by cases ht; rfl⟩⟩
  ·simp at ho
   subst ho
   have r11 := hev 11 rfl
   simp [Act.eval] at r11
   refine ⟨nofun, fun _ _ => trivial, nofun, .inl ⟨l11, V, ?_, Below.refl _ _, fun t ht => by cases ht; rfl⟩⟩
   simp [execOp, Act.eval, go_sem, r11, c0, d0, d1, d2, q1, q2]
  ·simp at ho
   subst ho
   have r3 := hev 3 rfl
   simp [Act.eval] at r3
   try simp [Act.put] at r3
   refine ⟨nofun, fun _ _ => trivial, nofun, .inl ⟨.agg #[vp, vn, vb, vx, vy, .int .i64 (D.size : Int)], V, exec_load 30 6 _ Tryz.underlying30 rfl Tryz.sizeCr _ rfl g0 [vp, vn, vb, vx, vy, .int .i64 (D.size : Int)] (by simpa [Act.eval] using r3) 30 hr0 rfl, Below.refl _ _, fun t ht => by cases ht; rfl⟩⟩
  ·simp at ho
   subst ho
   have r14 := hev 14 rfl
   simp [Act.eval] at r14
   refine ⟨nofun, fun _ _ => trivial, nofun, .inl ⟨l14, V, ?_, Below.refl _ _, fun t ht => by cases ht; rfl⟩⟩
   simp [execOp, Act.eval, go_sem, r14, c0, d0, d1, d2, q1, q2]
  ·simp at ho
   subst ho
   have r15 := hev 15 rfl
   simp [Act.eval] at r15
   refine ⟨nofun, fun _ _ => trivial, nofun, .inl ⟨l15, V, ?_, Below.refl _ _, fun t ht => by cases ht; rfl⟩⟩
   simp [execOp, Act.eval, go_sem, r15, c0, d0, d1, d2, q1, q2]
  ·simp at ho
   subst ho
   have r96 : a'.eval (.tmp 96) = .agg #[vp, vn, vb, vx, vy, .int .i64 (D.size : Int)] := hrd 96 rfl rfl
   simp [Act.eval] at r96
   have r97 : a'.eval (.tmp 97) = l14 := hrd 97 rfl rfl
   simp [Act.eval] at r97
   have r98 : a'.eval (.tmp 98) = l15 := hrd 98 rfl rfl
   simp [Act.eval] at r98
   refine ⟨nofun, fun _ _ => trivial, nofun, .inr ⟨50, #[(.agg #[vp, vn, vb, vx, vy, .int .i64 (D.size : Int)]), l14, l15], ?_, (callsIn_wide.2 (rminus9_any V _ _ _ D _ _ hcr hl14 hl15 (mside HP.out (Nat.mod_lt _ HP.out.1) (Nat.mod_lt _ HP.out.1)))).mono ?_⟩⟩
   ·simp [execOp, Act.eval, r96, r97, r98, resolve, invoke, Deferred.ofValue]
   ·rintro e w' ⟨v, rfl, hv, hB2⟩
    exact ⟨_, rfl, hB2, fun t ht => by cases ht; exact hv⟩
  ·simp at ho
   subst ho
   have r94 : a'.eval (.tmp 94) = .agg #[vp, vn, vb, vx, vy, .int .i64 (D.size : Int)] := hrd 94 rfl rfl
   simp [Act.eval] at r94
   have r95 : a'.eval (.tmp 95) = l11 := hrd 95 rfl rfl
   simp [Act.eval] at r95
   have r99 : Nb V (a'.eval (.tmp 99)) (subP D.p (mxV D.p x z x2) (mxX D.p x y z x2 y2)) := hrd 99 rfl rfl
   refine ⟨nofun, fun _ _ => trivial, nofun, .inr ⟨48, #[(.agg #[vp, vn, vb, vx, vy, .int .i64 (D.size : Int)]), l11, a'.eval (.tmp 99)], ?_, (callsIn_wide.2 (rtimes9_any V _ _ _ D _ _ hcr hl11 r99 HP.out.1)).mono ?_⟩⟩
   ·simp [execOp, Act.eval, r94, r95, resolve, invoke, Deferred.ofValue]
   ·rintro e w' ⟨v, rfl, hv, hB2⟩
    exact ⟨_, rfl, hB2, fun t ht => by cases ht; exact hv⟩
  ·simp at ho
   subst ho
   have r3 := hev 3 rfl
   simp [Act.eval] at r3
   try simp [Act.put] at r3
   refine ⟨nofun, fun _ _ => trivial, nofun, .inl ⟨.agg #[vp, vn, vb, vx, vy, .int .i64 (D.size : Int)], V, exec_load 30 6 _ Tryz.underlying30 rfl Tryz.sizeCr _ rfl g0 [vp, vn, vb, vx, vy, .int .i64 (D.size : Int)] (by simpa [Act.eval] using r3) 30 hr0 rfl, Below.refl _ _, fun t ht => by cases ht; rfl⟩⟩
  ·simp at ho
   subst ho
   have r4 := hev 4 rfl
   simp [Act.eval] at r4
   refine ⟨nofun, fun _ _ => trivial, nofun, .inl ⟨.pointer (some ⟨g1, 1, none⟩), V, ?_, Below.refl _ _, fun t ht => by cases ht; rfl⟩⟩
   simp [execOp, Act.eval, go_sem, r4, c0, d0, d1, d2, q1, q2]
  ·simp at ho
   subst ho
   have r102 : a'.eval (.tmp 102) = .pointer (some ⟨g1, 1, none⟩) := hrd 102 rfl rfl
   simp [Act.eval] at r102
   refine ⟨nofun, fun _ _ => trivial, nofun, .inl ⟨b, V, ?_, Below.refl _ _, fun t ht => by cases ht; rfl⟩⟩
   simp [execOp, Act.eval, go_sem, r102, c0, d0, d1, d2, q1, q2]
  ·simp at ho
   subst ho
   have r13 := hev 13 rfl
   simp [Act.eval] at r13
   refine ⟨nofun, fun _ _ => trivial, nofun, .inl ⟨l13, V, ?_, Below.refl _ _, fun t ht => by cases ht; rfl⟩⟩
   simp [execOp, Act.eval, go_sem, r13, c0, d0, d1, d2, q1, q2]
  ·simp at ho
   subst ho
   have r101 : a'.eval (.tmp 101) = .agg #[vp, vn, vb, vx, vy, .int .i64 (D.size : Int)] := hrd 101 rfl rfl
   simp [Act.eval] at r101
   have r103 : a'.eval (.tmp 103) = b := hrd 103 rfl rfl
   simp [Act.eval] at r103
   have r104 : a'.eval (.tmp 104) = l13 := hrd 104 rfl rfl
   simp [Act.eval] at r104
   refine ⟨nofun, fun _ _ => trivial, nofun, .inr ⟨48, #[(.agg #[vp, vn, vb, vx, vy, .int .i64 (D.size : Int)]), b, l13], ?_, (callsIn_wide.2 (rtimes9_any V _ _ _ D _ _ hcr hBB hl13 HP.out.1)).mono ?_⟩⟩
   ·simp [execOp, Act.eval, r101, r103, r104, resolve, invoke, Deferred.ofValue]
   ·rintro e w' ⟨v, rfl, hv, hB2⟩
    exact ⟨_, rfl, hB2, fun t ht => by cases ht; exact hv⟩
  ·simp at ho
   subst ho
   have r93 : a'.eval (.tmp 93) = .agg #[vp, vn, vb, vx, vy, .int .i64 (D.size : Int)] := hrd 93 rfl rfl
   simp [Act.eval] at r93
   have r100 : Nb V (a'.eval (.tmp 100)) (mulP D.p (mxR D.p y z y2) (subP D.p (mxV D.p x z x2) (mxX D.p x y z x2 y2))) := hrd 100 rfl rfl
   have r105 : Nb V (a'.eval (.tmp 105)) (mulP D.p (y) (mxC D.p x z x2)) := hrd 105 rfl rfl
   refine ⟨nofun, fun _ _ => trivial, nofun, .inr ⟨50, #[(.agg #[vp, vn, vb, vx, vy, .int .i64 (D.size : Int)]), a'.eval (.tmp 100), a'.eval (.tmp 105)], ?_, (callsIn_wide.2 (rminus9_any V _ _ _ D _ _ hcr r100 r105 (mside HP.out (Nat.mod_lt _ HP.out.1) (Nat.mod_lt _ HP.out.1)))).mono ?_⟩⟩
   ·simp [execOp, Act.eval, r93, resolve, invoke, Deferred.ofValue]
   ·rintro e w' ⟨v, rfl, hv, hB2⟩
    exact ⟨_, rfl, hB2, fun t ht => by cases ht; exact hv⟩
  ·simp at ho
   subst ho
   have r106 : Nb V (a'.eval (.tmp 106)) (subP D.p (mulP D.p (mxR D.p y z y2) (subP D.p (mxV D.p x z x2) (mxX D.p x y z x2 y2))) (mulP D.p (y) (mxC D.p x z x2))) := hrd 106 rfl rfl
   refine ⟨nofun, fun _ _ => trivial, nofun, .inl ⟨a'.eval (.tmp 106), V, ?_, Below.refl _ _, fun t ht => by cases ht; exact r106⟩⟩
   simp [execOp]
 intro valsc wc hBc hPc
 have hl16 : Nb wc (valsc 14) (subP D.p (mulP D.p (mxR D.p y z y2) (subP D.p (mxV D.p x z x2) (mxX D.p x y z x2 y2))) (mulP D.p (y) (mxC D.p x z x2))) := hPc 14 16 _ rfl rfl
 obtain ⟨l16, hv16⟩ : ∃ l, valsc 14 = l := ⟨_, rfl⟩
 rw [hv16] at hl16
 replace HR0 := hid (HR0.out.later hBc)
 replace HR1 := hid (HR1.out.later hBc)
 replace HRQ := hid (HRQ.out.later hBc)
 replace HRR := hid (HRR.out.later hBc)
 replace HCR := hid (HCR.out.later hBc)
 replace HKP := hid (HKP.out.later hBc)
 replace HA := hid (HA.out.later hBc)
 replace HBB := hid (HBB.out.later hBc)
 replace HZZ := hid (HZZ.out.later hBc)
 replace HQX := hid (HQX.out.later hBc)
 replace HQY := hid (HQY.out.later hBc)
 replace HL11 := hid (HL11.out.later hBc)
 replace HL12 := hid (HL12.out.later hBc)
 replace HL13 := hid (HL13.out.later hBc)
 replace HL14 := hid (HL14.out.later hBc)
 replace HL15 := hid (HL15.out.later hBc)
 replace HL10 := hid (HL10.out.later hBc)
 replace HB := hid (HB.out.trans (hBc.mono HB.out.size))
 have HL16 := hid (show Nb wc l16 (mxY D.p x y z x2 y2) from hl16)
 clear hPc hBc hl16
 simp [wrote, Act.put, hv16]
 have HM := hid (rtimes9_any wc _ (.slice Ac nc cc) (.slice A10 n10 c10) D _ _ HCR.out HZZ.out HL10.out HP.out.1)
 have c0 := HR0.out.at_ (i := 0) rfl
 have c1 := HR0.out.at_ (i := 1) rfl
 have c2 := HR0.out.at_ (i := 2) rfl
 have c3 := HR0.out.at_ (i := 3) rfl
 have c4 := HR0.out.at_ (i := 4) rfl
 have c5 := HR0.out.at_ (i := 5) rfl
 have z0 := HR1.out.at_ (i := 2) rfl
 go_wp2_with fail
 refine HM.out.mono ?_
 rintro e wd ⟨l17, rfl, hl17, hbz⟩
 replace HR0 := hid (HR0.out.later hbz)
 replace HR1 := hid (HR1.out.later hbz)
 replace HRQ := hid (HRQ.out.later hbz)
 replace HRR := hid (HRR.out.later hbz)
 replace HCR := hid (HCR.out.later hbz)
 replace HKP := hid (HKP.out.later hbz)
 replace HA := hid (HA.out.later hbz)
 replace HBB := hid (HBB.out.later hbz)
 replace HZZ := hid (HZZ.out.later hbz)
 replace HQX := hid (HQX.out.later hbz)
 replace HQY := hid (HQY.out.later hbz)
 replace HL15 := hid (HL15.out.later hbz)
 replace HL16 := hid (HL16.out.later hbz)
 replace HL10 := hid (HL10.out.later hbz)
 replace HB := hid (HB.out.trans (hbz.mono HB.out.size))
 have HL17 := hid (show Nb wd l17 (mulP D.p z (mxH D.p x z x2)) from hl17)
 clear hbz hl17 HM c0 c1 c2 c3 c4 c5 z0
 obtain ⟨A15, n15, c15, rfl⟩ := HL15.out.sl
 obtain ⟨A16, n16, c16, rfl⟩ := HL16.out.sl
 obtain ⟨A17, n17, c17, rfl⟩ := HL17.out.sl
 go_wp2_with ((with_reducible show wpList _ _ _ (⟨none, _, _, _, _, _⟩ :: _) _ _); refine wlS_store rfl 100 3 Tryz.sizeJc _ _ rfl gr [.slice A15 n15 c15, .slice A16 n16 c16, .slice A17 n17 c17] rfl rfl 100 _ HRR.out rfl rfl (ones3 rfl rfl rfl) ?_; intro w6 hr6 hg6 hz6)
 have hsb : Sb wd w6 := ⟨gr, NoU.of_row HRR.out (noU3 nofun nofun nofun), hg6⟩
 exact ⟨rfl, _, results_jc rfl _ gr _ rfl hr6 rfl, _, rfl, ⟨_, _, _, rfl, HL15.out.sb hsb, HL16.out.sb hsb, HL17.out.sb hsb⟩, below_grown HB.out hg6 HGL.out.1 HB.out.size⟩
theorem rmx_z0 (w : World) (vc : Value) (D : Crv) (hc : Cr w vc D) (Aa Ab Ac Qx Qy : Option Addr) (na ca nb' cb cc qxn qxc qyn qyc : Nat) (x2 y2 : Nat) (hqx : Nb w (.slice Qx qxn qxc) x2) (hqy : Nb w (.slice Qy qyn qyc) y2) :
  Calls Tryz.prog 59 #[vc, .agg #[.slice Aa na ca, .slice Ab nb' cb, .slice Ac 0 cc], .agg #[.bool false, .slice Qx qxn qxc, .slice Qy qyn qyc]] w fun e w' => ∃ v, e = .returned v ∧ Jc w' v (x2, y2, 1) ∧ Below w.heap.size w w' := by
 have hmx : Tryz.prog.follows .mixedOrders = true := by kernel_rfl
 obtain ⟨vp, vn, vb, vx, vy, rfl, kp, kb⟩ := hc.pr
 obtain ⟨W0, e0, r0, b0, s0⟩ := newS w 30 [vp, vn, vb, vx, vy, .int .i64 (D.size : Int)] _ rfl
 obtain ⟨W1, e1, r1, b1, s1⟩ := newS W0 100 [.slice Aa na ca, .slice Ab nb' cb, .slice Ac 0 cc] _ rfl
 obtain ⟨Wq, eq, rq, bq, sq⟩ := newS W1 33 [.bool false, .slice Qx qxn qxc, .slice Qy qyn qyc] _ rfl
 obtain ⟨W2, e2, r2, b2, s2⟩ := newS Wq 100 [.slice none 0 0, .slice none 0 0, .slice none 0 0] _ rfl
 obtain ⟨g0, hg0⟩ : ∃ g, w.heap.size = g := ⟨_, rfl⟩
 obtain ⟨g1, hg1⟩ : ∃ g, W0.heap.size = g := ⟨_, rfl⟩
 obtain ⟨gq, hgq⟩ : ∃ g, W1.heap.size = g := ⟨_, rfl⟩
 obtain ⟨gr, hgr⟩ : ∃ g, Wq.heap.size = g := ⟨_, rfl⟩
 have hb1 := b0.trans (b1.mono b0.size)
 have hbq := hb1.trans (bq.mono hb1.size)
 have hbw := hbq.trans (b2.mono hbq.size)
 have HGL := hid (show w.heap.size ≤ gr ∧ g0 ≠ gr ∧ g1 ≠ gr ∧ gq ≠ gr by omega)
 rw [hg0] at r0
 rw [hg1] at r1
 rw [hgq] at rq
 rw [hgr] at r2
 have r02 := ((r0.later b1).later bq).later b2
 have r12 := (r1.later bq).later b2
 have rq2 := rq.later b2
 have HB := hid hbw
 have HR0 := hid r02
 have HR1 := hid r12
 have HRQ := hid rq2
 have HRR := hid r2
 have HQX := hid (hqx.later hbw)
 have HQY := hid (hqy.later hbw)
 have z2 := HR1.out.at_ (i := 2) rfl
 have hno : NoU W2 gr := NoU.of_row HRR.out (noU3 nofun nofun nofun)
 have HNO := hid hno
 clear hno b0 b1 b2 bq s0 s1 s2 sq hb1 hbq hbw r0 r1 r2 rq r02 r12 rq2 hc kp kb hqx hqy
 go_enter Tryz.func59, Tryz.ntmps59
 go_wp2_with fail
 refine (wpIn_wide (n := 9)).1 (wpIn_region_num1 rfl hmx [(21, .val (.pointer (some ⟨gq, 1, none⟩))), (22, .val (.slice Qx qxn qxc)), (23, .val (.pointer (some ⟨gq, 2, none⟩))), (24, .val (.slice Qy qyn qyc)), (25, .nb (1)), (26, .jc (x2, y2, 1))] (by kernel_rfl) (by kernel_rfl) (by kernel_rfl) (by kernel_rfl) (by rfl) gr 6 ⟨_, rfl, rfl⟩ (HRR.out.lt) HNO.out 100 3 ⟨_, HRR.out, rfl⟩ (fun V => ∃ v0 v1 v2, RowV 100 V gr [v0, v1, v2] ∧ Jc V (.agg #[v0, v1, v2]) (x2, y2, 1)) ?hPs ?hops10 ?hs10 ?hend10)
 case hPs =>
  rintro V V' hlt hb ⟨v0, v1, v2, hr, ht⟩
  exact ⟨v0, v1, v2, hr.later hb, ht.later hb⟩
 case hops10 =>
  intro i o a' V hns hB ho hev hrd
  have his : i < 7 := by have := (Array.getElem?_eq_some_iff.1 ho).1; simpa using this
  have hSB : Sb W2 V := ⟨gr, HNO.out, hB⟩
  have hrq := HRQ.out.grown hB HGL.out.2.2.2
  have q1 := hrq.at_ (i := 1) rfl
  have q2 := hrq.at_ (i := 2) rfl
  have hQX := HQX.out.sb hSB
  have hQY := HQY.out.sb hSB
  have hcase : i = 0 ∨ i = 1 ∨ i = 2 ∨ i = 3 ∨ i = 4 ∨ i = 5 ∨ i = 6 := by omega
  rcases hcase with rfl | rfl | rfl | rfl | rfl | rfl | rfl
  ·simp at ho
   subst ho
   have r5 := hev 5 rfl
   simp [Act.eval] at r5
   refine ⟨nofun, fun _ _ => trivial, nofun, .inl ⟨.pointer (some ⟨gq, 1, none⟩), V, ?_, Below.refl _ _, fun t ht => by cases ht; rfl⟩⟩
   simp [execOp, Act.eval, go_sem, r5, q1, q2]
  ·simp at ho
   subst ho
   have r21 : a'.eval (.tmp 21) = .pointer (some ⟨gq, 1, none⟩) := hrd 21 rfl rfl
   simp [Act.eval] at r21
   refine ⟨nofun, fun _ _ => trivial, nofun, .inl ⟨.slice Qx qxn qxc, V, ?_, Below.refl _ _, fun t ht => by cases ht; rfl⟩⟩
   simp [execOp, Act.eval, go_sem, r21, q1, q2]
  ·simp at ho
   subst ho
   have r5 := hev 5 rfl
   simp [Act.eval] at r5
   refine ⟨nofun, fun _ _ => trivial, nofun, .inl ⟨.pointer (some ⟨gq, 2, none⟩), V, ?_, Below.refl _ _, fun t ht => by cases ht; rfl⟩⟩
   simp [execOp, Act.eval, go_sem, r5, q1, q2]
  ·simp at ho
   subst ho
   have r23 : a'.eval (.tmp 23) = .pointer (some ⟨gq, 2, none⟩) := hrd 23 rfl rfl
   simp [Act.eval] at r23
   refine ⟨nofun, fun _ _ => trivial, nofun, .inl ⟨.slice Qy qyn qyc, V, ?_, Below.refl _ _, fun t ht => by cases ht; rfl⟩⟩
   simp [execOp, Act.eval, go_sem, r23, q1, q2]
  ·simp at ho
   subst ho
   refine ⟨nofun, fun _ _ => trivial, nofun, .inr ⟨29, #[.int .u64 1], ?_, (callsIn_wide.2 (rof_b V 1 (by decide))).mono ?_⟩⟩
   ·simp [execOp, Act.eval, resolve, invoke, Deferred.ofValue]
   ·rintro e w' ⟨v, rfl, hv, hB2⟩
    exact ⟨_, rfl, hB2, fun t ht => by cases ht; exact hv⟩
  ·simp at ho
   subst ho
   have r22 : a'.eval (.tmp 22) = .slice Qx qxn qxc := hrd 22 rfl rfl
   simp [Act.eval] at r22
   have r24 : a'.eval (.tmp 24) = .slice Qy qyn qyc := hrd 24 rfl rfl
   simp [Act.eval] at r24
   have r25 : Nb V (a'.eval (.tmp 25)) (1) := hrd 25 rfl rfl
   obtain ⟨A25, n25, c25, h25⟩ := r25.sl
   rw [h25] at r25
   simp [Act.eval] at h25
   refine ⟨nofun, fun _ _ => trivial, nofun, .inl ⟨.agg #[.slice Qx qxn qxc, .slice Qy qyn qyc, .slice A25 n25 c25], V, ?_, Below.refl _ _, fun t ht => by cases ht; exact ⟨_, _, _, rfl, hQX, hQY, r25⟩⟩⟩
   simp [execOp, Act.eval, go_sem, r22, r24, h25]
  ·simp at ho
   subst ho
   exact absurd rfl hns
 case hs10 =>
  intro o a' V hG hN hshp ho hev hrd
  simp at ho
  have hop : o.op = .store 100 (.tmp 6) (.tmp 26) := by subst ho; rfl
  have hds : o.dst = none := by subst ho; rfl
  have hrd98 : readsB o 26 = true := by subst ho; rfl
  have r98 : Jc V (a'.eval (.tmp 26)) (x2, y2, 1) := hrd 26 hrd98 (by rfl)
  have o4 := hev 6 rfl
  obtain ⟨v0, v1, v2, he, q1, q2, q3⟩ := r98
  obtain ⟨vs, hrv, hvl⟩ := hshp
  obtain ⟨V', hrun, hr', hg'⟩ := exec_store (P := Tryz.prog) (w := V) (o := o) (a := a') 100 3 Tryz.sizeJc (.tmp 6) (.tmp 26) hop gr [v0, v1, v2] (by rw [o4]; rfl) he 100 vs hrv hvl rfl (ones3 q1.one q2.one q3.one)
  refine ⟨(by intro c h; rw [hop] at h; cases h), fun _ _ => trivial, hds, V', hrun, hg', NoU.of_row hr' (noU3 q1.no q2.no q3.no), ⟨_, hr', rfl⟩, v0, v1, v2, hr', ?_⟩
  have hsb : Sb V V' := ⟨gr, hN, hg'⟩
  exact ⟨_, _, _, rfl, q1.sb hsb, q2.sb hsb, q3.sb hsb⟩
 case hend10 =>
  rintro vals V hG hN - ⟨v0, v1, v2, hr, ht⟩
  simp [wrote, Act.put]
  go_wp2_with fail
  refine ⟨rfl, _, results_jc rfl _ gr _ rfl hr rfl, _, rfl, ht, below_grown HB.out hG HGL.out.1 HB.out.size⟩
theorem rmx_any (w : World) (vc v vq : Value) (D : Crv) (hc : Cr w vc D) (hp : Bp D.p) (x y z x2 y2 : Nat) (h : Jc w v (x, y, z)) (hq : Rp w vq (some (x2, y2))) (h1 : x < D.p) (h2 : y < D.p) (h3 : z < D.p) (h4 : x2 < D.p) (h5 : y2 < D.p) :
  Calls Tryz.prog 59 #[vc, v, vq] w fun e w' => ∃ v', e = .returned v' ∧ Jc w' v' (mxT D.p x y z x2 y2) ∧ Below w.heap.size w w' := by
 obtain ⟨a, b, c, rfl, ka, kb, kc⟩ := h
 obtain ⟨qx, qy, rfl, kqx, kqy⟩ := hq
 obtain ⟨Ac, nc, cc, rfl, hnc⟩ := kc.zlen
 unfold mxT
 by_cases hz : z = 0
 ·rw [if_pos hz]
  obtain rfl := hnc.2 hz
  obtain ⟨Ab, nb, cb, rfl⟩ := kb.sl
  obtain ⟨Aa, na, ca, rfl⟩ := ka.sl
  obtain ⟨Qx, qxn, qxc, rfl⟩ := kqx.sl
  obtain ⟨Qy, qyn, qyc, rfl⟩ := kqy.sl
  exact rmx_z0 w vc D hc _ _ _ _ _ _ _ _ _ _ _ _ _ _ x2 y2 kqx kqy
 ·have hn0 : ¬ (nc : Int) = 0 := fun h => hz (hnc.1 (by omega))
  rw [if_neg hz]
  by_cases hh : mxH D.p x z x2 = 0
  ·rw [if_pos hh]
   by_cases hr : mxR D.p y z y2 = 0
   ·rw [if_pos hr]
    exact rmx_tw w vc D hc hp a b qx qy Ac nc cc x y z x2 y2 ka kb kc kqx kqy h1 h2 h3 h4 h5 hn0 hh hr
   ·rw [if_neg hr]
    exact rmx_no w vc D hc hp a b qx qy Ac nc cc x y z x2 y2 ka kb kc kqx kqy h1 h2 h3 h4 h5 hn0 hh hr
  ·rw [if_neg hh]
   exact rmx_main w vc D hc hp a b qx qy Ac nc cc x y z x2 y2 ka kb kc kqx kqy h1 h2 h3 h4 h5 hn0 hh
def onP (D : Crv) : Option (Nat × Nat) → Prop
 | none => True
 | some (x, y) => x < D.p ∧ y < D.p ∧ onR D.p D.b x y
instance (D : Crv) (P : Option (Nat × Nat)) : Decidable (onP D P) := by cases P <;> unfold onP <;> infer_instance
theorem rOn9_zero (w : World) (vp vn vb vx vy t a b : Value) :
  Calls Tryz.prog 15 #[.agg #[vp, vn, vb, vx, vy, .int .i64 0], .agg #[t, a, b]] w fun e w' => RetV w (.bool false) e w' := by
 obtain ⟨W0, e0, r0, b0, s0⟩ := newS w 30 [vp, vn, vb, vx, vy, .int .i64 0] _ rfl
 obtain ⟨W1, e1, r1, b1, s1⟩ := newS W0 33 [t, a, b] _ rfl
 obtain ⟨g0, hg0⟩ : ∃ g, w.heap.size = g := ⟨_, rfl⟩
 obtain ⟨g1, hg1⟩ : ∃ g, W0.heap.size = g := ⟨_, rfl⟩
 have hbw := b0.trans (b1.mono b0.size)
 rw [hg0] at r0
 rw [hg1] at r1
 have r01 := r0.later b1
 have HB := hid hbw
 have c5 := r01.at_ (i := 5) rfl
 clear b0 b1 s0 s1 hbw r0 r1 r01
 go_enter Tryz.func15, Tryz.ntmps15
 go_wp2
 go_ret
 exact ⟨rfl, HB.out⟩
theorem rOn9_inf (w : World) (vp vn vb vx vy a b : Value) (z : Int) (hz : ¬ z = 0) :
  Calls Tryz.prog 15 #[.agg #[vp, vn, vb, vx, vy, .int .i64 z], .agg #[.bool true, a, b]] w fun e w' => RetV w (.bool true) e w' := by
 obtain ⟨W0, e0, r0, b0, s0⟩ := newS w 30 [vp, vn, vb, vx, vy, .int .i64 z] _ rfl
 obtain ⟨W1, e1, r1, b1, s1⟩ := newS W0 33 [.bool true, a, b] _ rfl
 obtain ⟨g0, hg0⟩ : ∃ g, w.heap.size = g := ⟨_, rfl⟩
 obtain ⟨g1, hg1⟩ : ∃ g, W0.heap.size = g := ⟨_, rfl⟩
 have hbw := b0.trans (b1.mono b0.size)
 rw [hg0] at r0
 rw [hg1] at r1
 have r01 := r0.later b1
 have HB := hid hbw
 have c5 := r01.at_ (i := 5) rfl
 have d0 := r1.at_ (i := 0) rfl
 clear b0 b1 s0 s1 hbw r0 r1 r01
 go_enter Tryz.func15, Tryz.ntmps15
 go_wp2
 go_ret
 exact ⟨rfl, HB.out⟩
theorem rOn9_any (w : World) (vc v : Value) (D : Crv) (hc : Cr w vc D) (hp : Bp D.p) (hbd : D.b < D.p) (hsz : ¬ ((D.size : Int) = 0)) (P : Option (Nat × Nat)) (h : Rp w v P) :
  Calls Tryz.prog 15 #[vc, v] w fun e w' => RetV w (.bool (decide (onP D P))) e w' := by
 rcases P with _ | ⟨x, y⟩
 ·obtain ⟨a, b, rfl, ka, kb⟩ := h
  obtain ⟨vp, vn, vb, vx, vy, rfl, -⟩ := hc
  have e : decide (onP D none) = true := decide_eq_true trivial
  rw [e]
  exact rOn9_inf w _ _ _ _ _ _ _ _ hsz
 ·obtain ⟨a, b, rfl, ka, kb⟩ := h
  exact rOn9_some w vc a b D x y hc ka kb hp hbd hsz
def Spc.rp (P : Option (Nat × Nat)) : Spc := ⟨fun v V => Rp V v P, fun _ _ _ hb h => h.sb hb⟩
end Go.Proofs.YtbejcollbkeedaaGreat
