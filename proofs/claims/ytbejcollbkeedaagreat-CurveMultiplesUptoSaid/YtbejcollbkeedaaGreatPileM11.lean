/- Parts of one proof, joined: RvK, RvM, RvI, RvJ, TreeD, Ka, RvN, MidIn. -/
import Derived.Test.YtbejcollbkeedaaGreatPileM10
import Derived.Test.YtbejcollbkeedaaGreatPileM4
import Derived.Test.YtbejcollbkeedaaGreatPileM6
import Derived.Test.YtbejcollbkeedaaGreatPileM1
import Derived.Lib.AppendZeros
import Derived.Test.YtbejcollbkeedaaGreatRows
import Derived.OwnWalkIn
import Derived.Deep.MidRow
set_option linter.unusedVariables false
set_option linter.unusedSimpArgs false
set_option linter.unusedSectionVars false
set_option maxRecDepth 100000
set_option maxHeartbeats 8000000
open Go.Lib (hid)
namespace Go.Proofs.YtbejcollbkeedaaGreat
open Go.RowKit
theorem rinv_b (w : World) (a m : Value) (x p : Nat) (ha : Nb w a x) (hm : Nb w m p) (hp : 1 < p) (hg : Nat.gcd p x = 1) :
  Calls Tryz.prog 52 #[a, m] w fun e w' => ∃ v R, e = .returned (.tuple #[v, .bool true]) ∧ Nb w' v R ∧ R < p ∧ x * R % p = 1 ∧ Below w.heap.size w w' := by
 have hlt := hm.lt
 obtain ⟨xs, A, n, c, rfl, hs, hn, hk⟩ := ha
 obtain ⟨zs, A3, n3, c3, rfl, hs3, hn3, hk3⟩ := hm
 refine (rinverse2_any w A n c xs hs A3 n3 c3 zs hs3 x p hn hn3 (by omega) (by omega) hp).mono ?_
 rintro e w' ⟨b, A', n', c', r, rfl, h1, h2, h3, h4⟩
 obtain rfl := h1.2 hg
 obtain ⟨R, hR, hRp, hm⟩ := h2 rfl
 exact ⟨_, R, rfl, Nb.of h3 hR (by omega), hRp, hm, h4⟩
def adX (p L x1 x2 : Nat) : Nat := subP p (subP p (mulP p L L) x1) x2
def adY (p L x1 y1 x2 : Nat) : Nat := subP p (mulP p L (subP p x1 (adX p L x1 x2))) y1
theorem rAdd9_left (w : World) (vc : Value) (D : Crv) (hc : Cr w vc D) (a b : Value) (t : Bool) (Ax Ay : Option Addr) (nx cx ny cy : Nat) :
  Calls Tryz.prog 18 #[vc, .agg #[.bool true, a, b], .agg #[.bool t, .slice Ax nx cx, .slice Ay ny cy]] w fun e w' => e = .returned (.agg #[.bool t, .slice Ax nx cx, .slice Ay ny cy]) ∧ Below w.heap.size w w' := by
 obtain ⟨vp, vn, vb, vx, vy, rfl, kp, kb⟩ := hc.pr
 obtain ⟨W0, e0, r0, b0, s0⟩ := newS w 30 [vp, vn, vb, vx, vy, .int .i64 (D.size : Int)] _ rfl
 obtain ⟨W1, e1, r1, b1, s1⟩ := newS W0 33 [.bool true, a, b] _ rfl
 obtain ⟨Wq, eq, rq, bq, sq⟩ := newS W1 33 [.bool t, .slice Ax nx cx, .slice Ay ny cy] _ rfl
 obtain ⟨W2, e2, r2, b2, s2⟩ := newS Wq 33 [.bool false, .slice none 0 0, .slice none 0 0] _ rfl
 obtain ⟨g0, hg0⟩ : ∃ g, w.heap.size = g := ⟨_, rfl⟩
 obtain ⟨g1, hg1⟩ : ∃ g, W0.heap.size = g := ⟨_, rfl⟩
 obtain ⟨gq, hgq⟩ : ∃ g, W1.heap.size = g := ⟨_, rfl⟩
 obtain ⟨gr, hgr⟩ : ∃ g, Wq.heap.size = g := ⟨_, rfl⟩
 have hb1 := b0.trans (b1.mono b0.size)
 have hbq := hb1.trans (bq.mono hb1.size)
 have hbw := hbq.trans (b2.mono hbq.size)
 have HGL := hid (show w.heap.size ≤ gr ∧ g0 ≠ gr ∧ g1 ≠ gr ∧ gq ≠ gr by omega)
 rw [hg0] at r0
 rw [hg1] at r1
 rw [hgq] at rq
 rw [hgr] at r2
 have r02 := ((r0.later b1).later bq).later b2
 have r12 := (r1.later bq).later b2
 have rq2 := rq.later b2
 have HB := hid hbw
 have HR0 := hid r02
 have HR1 := hid r12
 have HRQ := hid rq2
 have HRR := hid r2
 have d0 := HR1.out.at_ (i := 0) rfl
 have q0 := HRQ.out.at_ (i := 0) rfl
 have q1 := HRQ.out.at_ (i := 1) rfl
 have q2 := HRQ.out.at_ (i := 2) rfl
 clear b0 b1 b2 bq s0 s1 s2 sq hb1 hbq hbw r0 r1 r2 rq r02 r12 rq2 hc kp kb
 go_enter Tryz.func18, Tryz.ntmps18
 go_wp2_with ((with_reducible show wpList _ _ _ (⟨none, _, _, _, _, _⟩ :: _) _ _); refine wlS_store rfl 33 3 Tryz.sizeRp _ _ rfl gr [.bool t, .slice Ax nx cx, .slice Ay ny cy] rfl rfl 33 _ HRR.out rfl rfl (ones3 rfl rfl rfl) ?_; intro w6 hr6 hg6 hz6)
 exact ⟨rfl, _, results_rp rfl _ gr _ rfl hr6 rfl, rfl, below_grown HB.out hg6 HGL.out.1 HB.out.size⟩
theorem rAdd9_right (w : World) (vc : Value) (D : Crv) (hc : Cr w vc D) (a b : Value) (Ax Ay : Option Addr) (nx cx ny cy : Nat) :
  Calls Tryz.prog 18 #[vc, .agg #[.bool false, .slice Ax nx cx, .slice Ay ny cy], .agg #[.bool true, a, b]] w fun e w' => e = .returned (.agg #[.bool false, .slice Ax nx cx, .slice Ay ny cy]) ∧ Below w.heap.size w w' := by
 obtain ⟨vp, vn, vb, vx, vy, rfl, kp, kb⟩ := hc.pr
 obtain ⟨W0, e0, r0, b0, s0⟩ := newS w 30 [vp, vn, vb, vx, vy, .int .i64 (D.size : Int)] _ rfl
 obtain ⟨W1, e1, r1, b1, s1⟩ := newS W0 33 [.bool false, .slice Ax nx cx, .slice Ay ny cy] _ rfl
 obtain ⟨Wq, eq, rq, bq, sq⟩ := newS W1 33 [.bool true, a, b] _ rfl
 obtain ⟨W2, e2, r2, b2, s2⟩ := newS Wq 33 [.bool false, .slice none 0 0, .slice none 0 0] _ rfl
 obtain ⟨g0, hg0⟩ : ∃ g, w.heap.size = g := ⟨_, rfl⟩
 obtain ⟨g1, hg1⟩ : ∃ g, W0.heap.size = g := ⟨_, rfl⟩
 obtain ⟨gq, hgq⟩ : ∃ g, W1.heap.size = g := ⟨_, rfl⟩
 obtain ⟨gr, hgr⟩ : ∃ g, Wq.heap.size = g := ⟨_, rfl⟩
 have hb1 := b0.trans (b1.mono b0.size)
 have hbq := hb1.trans (bq.mono hb1.size)
 have hbw := hbq.trans (b2.mono hbq.size)
 have HGL := hid (show w.heap.size ≤ gr ∧ g0 ≠ gr ∧ g1 ≠ gr ∧ gq ≠ gr by omega)
 rw [hg0] at r0
 rw [hg1] at r1
 rw [hgq] at rq
 rw [hgr] at r2
 have r02 := ((r0.later b1).later bq).later b2
 have r12 := (r1.later bq).later b2
 have rq2 := rq.later b2
 have HB := hid hbw
 have HR0 := hid r02
 have HR1 := hid r12
 have HRQ := hid rq2
 have HRR := hid r2
 have d0 := HR1.out.at_ (i := 0) rfl
 have d1 := HR1.out.at_ (i := 1) rfl
 have d2 := HR1.out.at_ (i := 2) rfl
 have q0 := HRQ.out.at_ (i := 0) rfl
 clear b0 b1 b2 bq s0 s1 s2 sq hb1 hbq hbw r0 r1 r2 rq r02 r12 rq2 hc kp kb
 go_enter Tryz.func18, Tryz.ntmps18
 go_wp2_with ((with_reducible show wpList _ _ _ (⟨none, _, _, _, _, _⟩ :: _) _ _); refine wlS_store rfl 33 3 Tryz.sizeRp _ _ rfl gr [.bool false, .slice Ax nx cx, .slice Ay ny cy] rfl rfl 33 _ HRR.out rfl rfl (ones3 rfl rfl rfl) ?_; intro w6 hr6 hg6 hz6)
 exact ⟨rfl, _, results_rp rfl _ gr _ rfl hr6 rfl, rfl, below_grown HB.out hg6 HGL.out.1 HB.out.size⟩
theorem rAdd9_chord (w : World) (vc : Value) (D : Crv) (hc : Cr w vc D) (hp : Bp D.p) (a qx qy : Value) (Ac : Option Addr) (nc cc : Nat) (x1 y1 x2 y2 : Nat) (ha : Nb w a x1) (hb : Nb w (.slice Ac nc cc) y1) (hqx : Nb w qx x2) (hqy : Nb w qy y2) (hx : x1 < D.p) (hy : y1 < D.p) (hx2 : x2 < D.p) (hy2 : y2 < D.p) (hne : x1 ≠ x2) (hg : Nat.gcd D.p (subP D.p x2 x1) = 1) :
  Calls Tryz.prog 18 #[vc, .agg #[.bool false, a, .slice Ac nc cc], .agg #[.bool false, qx, qy]] w fun e w' => ∃ v R, e = .returned v ∧ R < D.p ∧ (subP D.p x2 x1) * R % D.p = 1 ∧ Rp w' v (some (adX D.p (mulP D.p (subP D.p y2 y1) R) x1 x2, adY D.p (mulP D.p (subP D.p y2 y1) R) x1 y1 x2)) ∧ Below w.heap.size w w' := by
 have HG := hid hg
 clear hg
 have hmx : Tryz.prog.follows .mixedOrders = true := by kernel_rfl
 obtain ⟨vp, vn, vb, vx, vy, rfl, kp, kb⟩ := hc.pr
 obtain ⟨W0, e0, r0, b0, s0⟩ := newS w 30 [vp, vn, vb, vx, vy, .int .i64 (D.size : Int)] _ rfl
 obtain ⟨W1, e1, r1, b1, s1⟩ := newS W0 33 [.bool false, a, .slice Ac nc cc] _ rfl
 obtain ⟨Wq, eq, rq, bq, sq⟩ := newS W1 33 [.bool false, qx, qy] _ rfl
 obtain ⟨W2, e2, r2, b2, s2⟩ := newS Wq 33 [.bool false, .slice none 0 0, .slice none 0 0] _ rfl
 obtain ⟨g0, hg0⟩ : ∃ g, w.heap.size = g := ⟨_, rfl⟩
 obtain ⟨g1, hg1⟩ : ∃ g, W0.heap.size = g := ⟨_, rfl⟩
 obtain ⟨gq, hgq⟩ : ∃ g, W1.heap.size = g := ⟨_, rfl⟩
 obtain ⟨gr, hgr⟩ : ∃ g, Wq.heap.size = g := ⟨_, rfl⟩
 have hb1 := b0.trans (b1.mono b0.size)
 have hbq := hb1.trans (bq.mono hb1.size)
 have hbw := hbq.trans (b2.mono hbq.size)
 have HGL := hid (show w.heap.size ≤ gr ∧ g0 ≠ gr ∧ g1 ≠ gr ∧ gq ≠ gr by omega)
 rw [hg0] at r0
 rw [hg1] at r1
 rw [hgq] at rq
 rw [hgr] at r2
 have r02 := ((r0.later b1).later bq).later b2
 have r12 := (r1.later bq).later b2
 have rq2 := rq.later b2
 have HB := hid hbw
 have HR0 := hid r02
 have HR1 := hid r12
 have HRQ := hid rq2
 have HRR := hid r2
 have HCR := hid (hc.later hbw)
 have HKP := hid (kp.later hbw)
 have HA := hid (ha.later hbw)
 have HBB := hid (hb.later hbw)
 have HQX := hid (hqx.later hbw)
 have HQY := hid (hqy.later hbw)
 have HP := hid hp
 have HX := hid hx
 have HY := hid hy
 have HX2 := hid hx2
 have HY2 := hid hy2
 have d0 := HR1.out.at_ (i := 0) rfl
 have d1 := HR1.out.at_ (i := 1) rfl
 have q0 := HRQ.out.at_ (i := 0) rfl
 have q1 := HRQ.out.at_ (i := 1) rfl
 have HM := hid (rcmp_b W2 a qx x1 x2 HA.out HQX.out)
 clear b0 b1 b2 bq s0 s1 s2 sq hb1 hbq hbw r0 r1 r2 rq r02 r12 rq2 hc kp kb ha hb hqx hqy hp hx hy hx2 hy2
 go_enter Tryz.func18, Tryz.ntmps18
 go_wp2_with fail
 refine HM.out.mono ?_
 rintro e w3 ⟨rfl, hbz⟩
 replace HR0 := hid (HR0.out.later hbz)
 replace HR1 := hid (HR1.out.later hbz)
 replace HRQ := hid (HRQ.out.later hbz)
 replace HRR := hid (HRR.out.later hbz)
 replace HCR := hid (HCR.out.later hbz)
 replace HKP := hid (HKP.out.later hbz)
 replace HA := hid (HA.out.later hbz)
 replace HBB := hid (HBB.out.later hbz)
 replace HQX := hid (HQX.out.later hbz)
 replace HQY := hid (HQY.out.later hbz)
 replace HB := hid (HB.out.trans (hbz.mono HB.out.size))
 clear hbz HM d0 d1 q0 q1
 have e1 : ncmp x1 x2 ≠ 0 := fun h => hne (ncmpEq.1 h)
 have e2 := beq_eq_false_iff_ne.2 e1
 clear hne
 have HM := hid (rminus9_any w3 _ qy (.slice Ac nc cc) D y2 y1 HCR.out HQY.out HBB.out (mside HP.out HY2.out HY.out))
 have c0 := HR0.out.at_ (i := 0) rfl
 have c1 := HR0.out.at_ (i := 1) rfl
 have c2 := HR0.out.at_ (i := 2) rfl
 have c3 := HR0.out.at_ (i := 3) rfl
 have c4 := HR0.out.at_ (i := 4) rfl
 have c5 := HR0.out.at_ (i := 5) rfl
 have z0 := HRQ.out.at_ (i := 2) rfl
 have z1 := HR1.out.at_ (i := 2) rfl
 go_wp2_with fail
 refine HM.out.mono ?_
 rintro e w4 ⟨l7, rfl, hl7, hbz⟩
 replace HR0 := hid (HR0.out.later hbz)
 replace HR1 := hid (HR1.out.later hbz)
 replace HRQ := hid (HRQ.out.later hbz)
 replace HRR := hid (HRR.out.later hbz)
 replace HCR := hid (HCR.out.later hbz)
 replace HKP := hid (HKP.out.later hbz)
 replace HA := hid (HA.out.later hbz)
 replace HBB := hid (HBB.out.later hbz)
 replace HQX := hid (HQX.out.later hbz)
 replace HQY := hid (HQY.out.later hbz)
 replace HB := hid (HB.out.trans (hbz.mono HB.out.size))
 have HL7 := hid (show Nb w4 l7 (subP D.p y2 y1) from hl7)
 clear e1 e2; clear hbz hl7 HM c0 c1 c2 c3 c4 c5 z0 z1
 have HM := hid (rminus9_any w4 _ qx a D x2 x1 HCR.out HQX.out HA.out (mside HP.out HX2.out HX.out))
 have c0 := HR0.out.at_ (i := 0) rfl
 have c1 := HR0.out.at_ (i := 1) rfl
 have c2 := HR0.out.at_ (i := 2) rfl
 have c3 := HR0.out.at_ (i := 3) rfl
 have c4 := HR0.out.at_ (i := 4) rfl
 have c5 := HR0.out.at_ (i := 5) rfl
 have z0 := HRQ.out.at_ (i := 1) rfl
 have z1 := HR1.out.at_ (i := 1) rfl
 go_wp2_with fail
 refine HM.out.mono ?_
 rintro e w5 ⟨l8, rfl, hl8, hbz⟩
 replace HR0 := hid (HR0.out.later hbz)
 replace HR1 := hid (HR1.out.later hbz)
 replace HRQ := hid (HRQ.out.later hbz)
 replace HRR := hid (HRR.out.later hbz)
 replace HCR := hid (HCR.out.later hbz)
 replace HKP := hid (HKP.out.later hbz)
 replace HA := hid (HA.out.later hbz)
 replace HBB := hid (HBB.out.later hbz)
 replace HQX := hid (HQX.out.later hbz)
 replace HQY := hid (HQY.out.later hbz)
 replace HL7 := hid (HL7.out.later hbz)
 replace HB := hid (HB.out.trans (hbz.mono HB.out.size))
 have HL8 := hid (show Nb w5 l8 (subP D.p x2 x1) from hl8)
 clear hbz hl8 HM c0 c1 c2 c3 c4 c5 z0 z1
 have HM := hid (rinv_b w5 l8 vp _ D.p HL8.out HKP.out (by have := HP.out.2.1; omega) HG.out)
 have c0 := HR0.out.at_ (i := 0) rfl
 go_wp2_with fail
 refine HM.out.mono ?_
 rintro e wi ⟨l9, R, rfl, hl9, hR, hinv, hbz⟩
 replace HR0 := hid (HR0.out.later hbz)
 replace HR1 := hid (HR1.out.later hbz)
 replace HRQ := hid (HRQ.out.later hbz)
 replace HRR := hid (HRR.out.later hbz)
 replace HCR := hid (HCR.out.later hbz)
 replace HKP := hid (HKP.out.later hbz)
 replace HA := hid (HA.out.later hbz)
 replace HBB := hid (HBB.out.later hbz)
 replace HQX := hid (HQX.out.later hbz)
 replace HQY := hid (HQY.out.later hbz)
 replace HL7 := hid (HL7.out.later hbz)
 replace HL8 := hid (HL8.out.later hbz)
 replace HB := hid (HB.out.trans (hbz.mono HB.out.size))
 have HL9 := hid hl9
 have HRL := hid hR
 have HINV := hid hinv
 clear hbz hl9 hR hinv HM c0 HG
 have HM := hid (rtimes9_any wi _ l7 l9 D _ _ HCR.out HL7.out HL9.out HP.out.1)
 have c0 := HR0.out.at_ (i := 0) rfl
 have c1 := HR0.out.at_ (i := 1) rfl
 have c2 := HR0.out.at_ (i := 2) rfl
 have c3 := HR0.out.at_ (i := 3) rfl
 have c4 := HR0.out.at_ (i := 4) rfl
 have c5 := HR0.out.at_ (i := 5) rfl
 go_wp2_with fail
 refine HM.out.mono ?_
 rintro e wj ⟨l11, rfl, hl11, hbz⟩
 replace HR0 := hid (HR0.out.later hbz)
 replace HR1 := hid (HR1.out.later hbz)
 replace HRQ := hid (HRQ.out.later hbz)
 replace HRR := hid (HRR.out.later hbz)
 replace HCR := hid (HCR.out.later hbz)
 replace HKP := hid (HKP.out.later hbz)
 replace HA := hid (HA.out.later hbz)
 replace HBB := hid (HBB.out.later hbz)
 replace HQX := hid (HQX.out.later hbz)
 replace HQY := hid (HQY.out.later hbz)
 replace HL7 := hid (HL7.out.later hbz)
 replace HL8 := hid (HL8.out.later hbz)
 replace HL9 := hid (HL9.out.later hbz)
 replace HB := hid (HB.out.trans (hbz.mono HB.out.size))
 have HL11 := hid (show Nb wj l11 (mulP D.p (subP D.p y2 y1) R) from hl11)
 clear hbz hl11 HM c0 c1 c2 c3 c4 c5
 go_wp2_with fail
 refine (wpIn_wide (n := 9)).1 (wpIn_region_num0 rfl hmx [(78, .val (.agg #[vp, vn, vb, vx, vy, .int .i64 (D.size : Int)])), (79, .val (.agg #[vp, vn, vb, vx, vy, .int .i64 (D.size : Int)])), (80, .val (.agg #[vp, vn, vb, vx, vy, .int .i64 (D.size : Int)])), (81, .val (l11)), (82, .val (l11)), (83, .nb (mulP D.p (mulP D.p (subP D.p y2 y1) R) (mulP D.p (subP D.p y2 y1) R))), (84, .val (.pointer (some ⟨g1, 1, none⟩))), (85, .val (a)), (86, .nb (subP D.p (mulP D.p (mulP D.p (subP D.p y2 y1) R) (mulP D.p (subP D.p y2 y1) R)) (x1))), (87, .val (.pointer (some ⟨gq, 1, none⟩))), (88, .val (qx)), (89, .nb (subP D.p (subP D.p (mulP D.p (mulP D.p (subP D.p y2 y1) R) (mulP D.p (subP D.p y2 y1) R)) (x1)) (x2))), (12, .nb (subP D.p (subP D.p (mulP D.p (mulP D.p (subP D.p y2 y1) R) (mulP D.p (subP D.p y2 y1) R)) (x1)) (x2)))] (by kernel_rfl) (by kernel_rfl) (by kernel_rfl) (by kernel_rfl) (by rfl) ?hopsx ?hendx)
 case hopsx =>
  intro i o a' V hB ho hev hrd
  have his : i < 13 := by have := (Array.getElem?_eq_some_iff.1 ho).1; simpa using this
  have hr0 := HR0.out.later hB
  have hr1 := HR1.out.later hB
  have hrq := HRQ.out.later hB
  have c0 := hr0.at_ (i := 0) rfl
  have d1 := hr1.at_ (i := 1) rfl
  have d2 := hr1.at_ (i := 2) rfl
  have q1 := hrq.at_ (i := 1) rfl
  have q2 := hrq.at_ (i := 2) rfl
  have hcr := HCR.out.later hB
  have hkp := HKP.out.later hB
  have hA := HA.out.later hB
  have hBB := HBB.out.later hB
  have hQX := HQX.out.later hB
  have hQY := HQY.out.later hB
  have hl11 := HL11.out.later hB
  have hcase : i = 0 ∨ i = 1 ∨ i = 2 ∨ i = 3 ∨ i = 4 ∨ i = 5 ∨ i = 6 ∨ i = 7 ∨ i = 8 ∨ i = 9 ∨ i = 10 ∨ i = 11 ∨ i = 12 := by omega
  rcases hcase with rfl | rfl | rfl | rfl | rfl | rfl | rfl | rfl | rfl | rfl | rfl | rfl | rfl
  ·simp at ho
   subst ho
   have r3 := hev 3 rfl
   simp [Act.eval] at r3
   try simp [Act.put] at r3
   refine ⟨nofun, fun _ _ => trivial, nofun, .inl ⟨.agg #[vp, vn, vb, vx, vy, .int .i64 (D.size : Int)], V, exec_load 30 6 _ Tryz.underlying30 rfl Tryz.sizeCr _ rfl g0 [vp, vn, vb, vx, vy, .int .i64 (D.size : Int)] (by simpa [Act.eval] using r3) 30 hr0 rfl, Below.refl _ _, fun t ht => by cases ht; rfl⟩⟩
  ·simp at ho
   subst ho
   have r3 := hev 3 rfl
   simp [Act.eval] at r3
   try simp [Act.put] at r3
   refine ⟨nofun, fun _ _ => trivial, nofun, .inl ⟨.agg #[vp, vn, vb, vx, vy, .int .i64 (D.size : Int)], V, exec_load 30 6 _ Tryz.underlying30 rfl Tryz.sizeCr _ rfl g0 [vp, vn, vb, vx, vy, .int .i64 (D.size : Int)] (by simpa [Act.eval] using r3) 30 hr0 rfl, Below.refl _ _, fun t ht => by cases ht; rfl⟩⟩
  ·simp at ho
   subst ho
   have r3 := hev 3 rfl
   simp [Act.eval] at r3
   try simp [Act.put] at r3
   refine ⟨nofun, fun _ _ => trivial, nofun, .inl ⟨.agg #[vp, vn, vb, vx, vy, .int .i64 (D.size : Int)], V, exec_load 30 6 _ Tryz.underlying30 rfl Tryz.sizeCr _ rfl g0 [vp, vn, vb, vx, vy, .int .i64 (D.size : Int)] (by simpa [Act.eval] using r3) 30 hr0 rfl, Below.refl _ _, fun t ht => by cases ht; rfl⟩⟩
  ·simp at ho
   subst ho
   have r11 := hev 11 rfl
   simp [Act.eval] at r11
   refine ⟨nofun, fun _ _ => trivial, nofun, .inl ⟨l11, V, ?_, Below.refl _ _, fun t ht => by cases ht; rfl⟩⟩
   simp [execOp, Act.eval, go_sem, r11, c0, d1, d2, q1, q2]
  ·simp at ho
   subst ho
   have r11 := hev 11 rfl
   simp [Act.eval] at r11
   refine ⟨nofun, fun _ _ => trivial, nofun, .inl ⟨l11, V, ?_, Below.refl _ _, fun t ht => by cases ht; rfl⟩⟩
   simp [execOp, Act.eval, go_sem, r11, c0, d1, d2, q1, q2]
  ·simp at ho
   subst ho
   have r80 : a'.eval (.tmp 80) = .agg #[vp, vn, vb, vx, vy, .int .i64 (D.size : Int)] := hrd 80 rfl rfl
   simp [Act.eval] at r80
   have r81 : a'.eval (.tmp 81) = l11 := hrd 81 rfl rfl
   simp [Act.eval] at r81
   have r82 : a'.eval (.tmp 82) = l11 := hrd 82 rfl rfl
   simp [Act.eval] at r82
   refine ⟨nofun, fun _ _ => trivial, nofun, .inr ⟨48, #[(.agg #[vp, vn, vb, vx, vy, .int .i64 (D.size : Int)]), l11, l11], ?_, (callsIn_wide.2 (rtimes9_any V _ _ _ D _ _ hcr hl11 hl11 HP.out.1)).mono ?_⟩⟩
   ·simp [execOp, Act.eval, r80, r81, r82, resolve, invoke, Deferred.ofValue]
   ·rintro e w' ⟨v, rfl, hv, hB2⟩
    exact ⟨_, rfl, hB2, fun t ht => by cases ht; exact hv⟩
  ·simp at ho
   subst ho
   have r4 := hev 4 rfl
   simp [Act.eval] at r4
   refine ⟨nofun, fun _ _ => trivial, nofun, .inl ⟨.pointer (some ⟨g1, 1, none⟩), V, ?_, Below.refl _ _, fun t ht => by cases ht; rfl⟩⟩
   simp [execOp, Act.eval, go_sem, r4, c0, d1, d2, q1, q2]
  ·simp at ho
   subst ho
   have r84 : a'.eval (.tmp 84) = .pointer (some ⟨g1, 1, none⟩) := hrd 84 rfl rfl
   simp [Act.eval] at r84
   refine ⟨nofun, fun _ _ => trivial, nofun, .inl ⟨a, V, ?_, Below.refl _ _, fun t ht => by cases ht; rfl⟩⟩
   simp [execOp, Act.eval, go_sem, r84, c0, d1, d2, q1, q2]
  ·simp at ho
   subst ho
   have r79 : a'.eval (.tmp 79) = .agg #[vp, vn, vb, vx, vy, .int .i64 (D.size : Int)] := hrd 79 rfl rfl
   simp [Act.eval] at r79
   have r83 : Nb V (a'.eval (.tmp 83)) (mulP D.p (mulP D.p (subP D.p y2 y1) R) (mulP D.p (subP D.p y2 y1) R)) := hrd 83 rfl rfl
   have r85 : a'.eval (.tmp 85) = a := hrd 85 rfl rfl
   simp [Act.eval] at r85
   refine ⟨nofun, fun _ _ => trivial, nofun, .inr ⟨50, #[(.agg #[vp, vn, vb, vx, vy, .int .i64 (D.size : Int)]), a'.eval (.tmp 83), a], ?_, (callsIn_wide.2 (rminus9_any V _ _ _ D _ _ hcr r83 hA (mside HP.out (Nat.mod_lt _ HP.out.1) HX.out))).mono ?_⟩⟩
   ·simp [execOp, Act.eval, r79, r85, resolve, invoke, Deferred.ofValue]
   ·rintro e w' ⟨v, rfl, hv, hB2⟩
    exact ⟨_, rfl, hB2, fun t ht => by cases ht; exact hv⟩
  ·simp at ho
   subst ho
   have r5 := hev 5 rfl
   simp [Act.eval] at r5
   refine ⟨nofun, fun _ _ => trivial, nofun, .inl ⟨.pointer (some ⟨gq, 1, none⟩), V, ?_, Below.refl _ _, fun t ht => by cases ht; rfl⟩⟩
   simp [execOp, Act.eval, go_sem, r5, c0, d1, d2, q1, q2]
  ·simp at ho
   subst ho
   have r87 : a'.eval (.tmp 87) = .pointer (some ⟨gq, 1, none⟩) := hrd 87 rfl rfl
   simp [Act.eval] at r87
   refine ⟨nofun, fun _ _ => trivial, nofun, .inl ⟨qx, V, ?_, Below.refl _ _, fun t ht => by cases ht; rfl⟩⟩
   simp [execOp, Act.eval, go_sem, r87, c0, d1, d2, q1, q2]
  ·simp at ho
   subst ho
   have r78 : a'.eval (.tmp 78) = .agg #[vp, vn, vb, vx, vy, .int .i64 (D.size : Int)] := hrd 78 rfl rfl
   simp [Act.eval] at r78
   have r86 : Nb V (a'.eval (.tmp 86)) (subP D.p (mulP D.p (mulP D.p (subP D.p y2 y1) R) (mulP D.p (subP D.p y2 y1) R)) (x1)) := hrd 86 rfl rfl
   have r88 : a'.eval (.tmp 88) = qx := hrd 88 rfl rfl
   simp [Act.eval] at r88
   refine ⟨nofun, fun _ _ => trivial, nofun, .inr ⟨50, #[(.agg #[vp, vn, vb, vx, vy, .int .i64 (D.size : Int)]), a'.eval (.tmp 86), qx], ?_, (callsIn_wide.2 (rminus9_any V _ _ _ D _ _ hcr r86 hQX (mside HP.out (Nat.mod_lt _ HP.out.1) HX2.out))).mono ?_⟩⟩
   ·simp [execOp, Act.eval, r78, r88, resolve, invoke, Deferred.ofValue]
   ·rintro e w' ⟨v, rfl, hv, hB2⟩
    exact ⟨_, rfl, hB2, fun t ht => by cases ht; exact hv⟩
  ·simp at ho
   subst ho
   have r89 : Nb V (a'.eval (.tmp 89)) (subP D.p (subP D.p (mulP D.p (mulP D.p (subP D.p y2 y1) R) (mulP D.p (subP D.p y2 y1) R)) (x1)) (x2)) := hrd 89 rfl rfl
   refine ⟨nofun, fun _ _ => trivial, nofun, .inl ⟨a'.eval (.tmp 89), V, ?_, Below.refl _ _, fun t ht => by cases ht; exact r89⟩⟩
   simp [execOp]
 intro valsx wk hBx hPx
 have hl12 : Nb wk (valsx 12) (subP D.p (subP D.p (mulP D.p (mulP D.p (subP D.p y2 y1) R) (mulP D.p (subP D.p y2 y1) R)) (x1)) (x2)) := hPx 12 12 _ rfl rfl
 obtain ⟨l12, hv12⟩ : ∃ l, valsx 12 = l := ⟨_, rfl⟩
 rw [hv12] at hl12
 replace HR0 := hid (HR0.out.later hBx)
 replace HR1 := hid (HR1.out.later hBx)
 replace HRQ := hid (HRQ.out.later hBx)
 replace HRR := hid (HRR.out.later hBx)
 replace HCR := hid (HCR.out.later hBx)
 replace HKP := hid (HKP.out.later hBx)
 replace HA := hid (HA.out.later hBx)
 replace HBB := hid (HBB.out.later hBx)
 replace HQX := hid (HQX.out.later hBx)
 replace HQY := hid (HQY.out.later hBx)
 replace HL11 := hid (HL11.out.later hBx)
 replace HB := hid (HB.out.trans (hBx.mono HB.out.size))
 have HL12 := hid (show Nb wk l12 (adX D.p (mulP D.p (subP D.p y2 y1) R) x1 x2) from hl12)
 clear hPx hBx hl12
 simp [wrote, Act.put, hv12]
 obtain ⟨A12, n12, c12, rfl⟩ := HL12.out.sl
 have HNO := hid (NoU.of_row HRR.out (noU3 nofun nofun nofun))
 go_wp2_with fail
 refine (wpIn_wide (n := 9)).1 (wpIn_region_num1 rfl hmx [(90, .val (.slice A12 n12 c12)), (91, .val (.agg #[vp, vn, vb, vx, vy, .int .i64 (D.size : Int)])), (92, .val (.agg #[vp, vn, vb, vx, vy, .int .i64 (D.size : Int)])), (93, .val (l11)), (94, .val (.agg #[vp, vn, vb, vx, vy, .int .i64 (D.size : Int)])), (95, .val (.pointer (some ⟨g1, 1, none⟩))), (96, .val (a)), (97, .val (.slice A12 n12 c12)), (98, .nb (subP D.p (x1) (adX D.p (mulP D.p (subP D.p y2 y1) R) x1 x2))), (99, .nb (mulP D.p (mulP D.p (subP D.p y2 y1) R) (subP D.p (x1) (adX D.p (mulP D.p (subP D.p y2 y1) R) x1 x2)))), (100, .val (.pointer (some ⟨g1, 2, none⟩))), (101, .val (.slice Ac nc cc)), (102, .nb (subP D.p (mulP D.p (mulP D.p (subP D.p y2 y1) R) (subP D.p (x1) (adX D.p (mulP D.p (subP D.p y2 y1) R) x1 x2))) (y1))), (103, .rp (some (adX D.p (mulP D.p (subP D.p y2 y1) R) x1 x2, adY D.p (mulP D.p (subP D.p y2 y1) R) x1 y1 x2)))] (by kernel_rfl) (by kernel_rfl) (by kernel_rfl) (by kernel_rfl) (by rfl) gr 14 ⟨_, rfl, rfl⟩ (HRR.out.lt) HNO.out 33 3 ⟨_, HRR.out, rfl⟩ (fun V => ∃ v0 v1 v2, RowV 33 V gr [v0, v1, v2] ∧ Rp V (.agg #[v0, v1, v2]) (some (adX D.p (mulP D.p (subP D.p y2 y1) R) x1 x2, adY D.p (mulP D.p (subP D.p y2 y1) R) x1 y1 x2))) ?hPs ?hops10 ?hs10 ?hend10)
 case hPs =>
  rintro V V' hlt hb ⟨v0, v1, v2, hr, ht⟩
  exact ⟨v0, v1, v2, hr.later hb, ht.later hb⟩
 case hops10 =>
  intro i o a' V hns hB ho hev hrd
  have his : i < 15 := by have := (Array.getElem?_eq_some_iff.1 ho).1; simpa using this
  have hSB : Sb wk V := ⟨gr, HNO.out, hB⟩
  have hr0 := HR0.out.grown hB HGL.out.2.1
  have hr1 := HR1.out.grown hB HGL.out.2.2.1
  have hrq := HRQ.out.grown hB HGL.out.2.2.2
  have c0 := hr0.at_ (i := 0) rfl
  have d1 := hr1.at_ (i := 1) rfl
  have d2 := hr1.at_ (i := 2) rfl
  have q1 := hrq.at_ (i := 1) rfl
  have q2 := hrq.at_ (i := 2) rfl
  have hcr := HCR.out.sb hSB
  have hkp := HKP.out.sb hSB
  have hA := HA.out.sb hSB
  have hBB := HBB.out.sb hSB
  have hQX := HQX.out.sb hSB
  have hQY := HQY.out.sb hSB
  have hl11 := HL11.out.sb hSB
  have hl12 := HL12.out.sb hSB
  have hcase : i = 0 ∨ i = 1 ∨ i = 2 ∨ i = 3 ∨ i = 4 ∨ i = 5 ∨ i = 6 ∨ i = 7 ∨ i = 8 ∨ i = 9 ∨ i = 10 ∨ i = 11 ∨ i = 12 ∨ i = 13 ∨ i = 14 := by omega
  rcases hcase with rfl | rfl | rfl | rfl | rfl | rfl | rfl | rfl | rfl | rfl | rfl | rfl | rfl | rfl | rfl
  ·simp at ho
   subst ho
   have r12 := hev 12 rfl
   simp [Act.eval] at r12
   refine ⟨nofun, fun _ _ => trivial, nofun, .inl ⟨.slice A12 n12 c12, V, ?_, Below.refl _ _, fun t ht => by cases ht; rfl⟩⟩
   simp [execOp, Act.eval, go_sem, r12, c0, d1, d2, q1, q2]
  ·simp at ho
   subst ho
   have r3 := hev 3 rfl
   simp [Act.eval] at r3
   try simp [Act.put] at r3
   refine ⟨nofun, fun _ _ => trivial, nofun, .inl ⟨.agg #[vp, vn, vb, vx, vy, .int .i64 (D.size : Int)], V, exec_load 30 6 _ Tryz.underlying30 rfl Tryz.sizeCr _ rfl g0 [vp, vn, vb, vx, vy, .int .i64 (D.size : Int)] (by simpa [Act.eval] using r3) 30 hr0 rfl, Below.refl _ _, fun t ht => by cases ht; rfl⟩⟩
  ·simp at ho
   subst ho
   have r3 := hev 3 rfl
   simp [Act.eval] at r3
   try simp [Act.put] at r3
   refine ⟨nofun, fun _ _ => trivial, nofun, .inl ⟨.agg #[vp, vn, vb, vx, vy, .int .i64 (D.size : Int)], V, exec_load 30 6 _ Tryz.underlying30 rfl Tryz.sizeCr _ rfl g0 [vp, vn, vb, vx, vy, .int .i64 (D.size : Int)] (by simpa [Act.eval] using r3) 30 hr0 rfl, Below.refl _ _, fun t ht => by cases ht; rfl⟩⟩
  ·simp at ho
   subst ho
   have r11 := hev 11 rfl
   simp [Act.eval] at r11
   refine ⟨nofun, fun _ _ => trivial, nofun, .inl ⟨l11, V, ?_, Below.refl _ _, fun t ht => by cases ht; rfl⟩⟩
   simp [execOp, Act.eval, go_sem, r11, c0, d1, d2, q1, q2]
  ·simp at ho
   subst ho
   have r3 := hev 3 rfl
   simp [Act.eval] at r3
   try simp [Act.put] at r3
   refine ⟨nofun, fun _ _ => trivial, nofun, .inl ⟨.agg #[vp, vn, vb, vx, vy, .int .i64 (D.size : Int)], V, exec_load 30 6 _ Tryz.underlying30 rfl Tryz.sizeCr _ rfl g0 [vp, vn, vb, vx, vy, .int .i64 (D.size : Int)] (by simpa [Act.eval] using r3) 30 hr0 rfl, Below.refl _ _, fun t ht => by cases ht; rfl⟩⟩
  ·simp at ho
   subst ho
   have r4 := hev 4 rfl
   simp [Act.eval] at r4
   refine ⟨nofun, fun _ _ => trivial, nofun, .inl ⟨.pointer (some ⟨g1, 1, none⟩), V, ?_, Below.refl _ _, fun t ht => by cases ht; rfl⟩⟩
   simp [execOp, Act.eval, go_sem, r4, c0, d1, d2, q1, q2]
  ·simp at ho
   subst ho
   have r95 : a'.eval (.tmp 95) = .pointer (some ⟨g1, 1, none⟩) := hrd 95 rfl rfl
   simp [Act.eval] at r95
   refine ⟨nofun, fun _ _ => trivial, nofun, .inl ⟨a, V, ?_, Below.refl _ _, fun t ht => by cases ht; rfl⟩⟩
   simp [execOp, Act.eval, go_sem, r95, c0, d1, d2, q1, q2]
  ·simp at ho
   subst ho
   have r12 := hev 12 rfl
   simp [Act.eval] at r12
   refine ⟨nofun, fun _ _ => trivial, nofun, .inl ⟨.slice A12 n12 c12, V, ?_, Below.refl _ _, fun t ht => by cases ht; rfl⟩⟩
   simp [execOp, Act.eval, go_sem, r12, c0, d1, d2, q1, q2]
  ·simp at ho
   subst ho
   have r94 : a'.eval (.tmp 94) = .agg #[vp, vn, vb, vx, vy, .int .i64 (D.size : Int)] := hrd 94 rfl rfl
   simp [Act.eval] at r94
   have r96 : a'.eval (.tmp 96) = a := hrd 96 rfl rfl
   simp [Act.eval] at r96
   have r97 : a'.eval (.tmp 97) = .slice A12 n12 c12 := hrd 97 rfl rfl
   simp [Act.eval] at r97
   refine ⟨nofun, fun _ _ => trivial, nofun, .inr ⟨50, #[(.agg #[vp, vn, vb, vx, vy, .int .i64 (D.size : Int)]), a, .slice A12 n12 c12], ?_, (callsIn_wide.2 (rminus9_any V _ _ _ D _ _ hcr hA hl12 (mside HP.out HX.out (Nat.mod_lt _ HP.out.1)))).mono ?_⟩⟩
   ·simp [execOp, Act.eval, r94, r96, r97, resolve, invoke, Deferred.ofValue]
   ·rintro e w' ⟨v, rfl, hv, hB2⟩
    exact ⟨_, rfl, hB2, fun t ht => by cases ht; exact hv⟩
  ·simp at ho
   subst ho
   have r92 : a'.eval (.tmp 92) = .agg #[vp, vn, vb, vx, vy, .int .i64 (D.size : Int)] := hrd 92 rfl rfl
   simp [Act.eval] at r92
   have r93 : a'.eval (.tmp 93) = l11 := hrd 93 rfl rfl
   simp [Act.eval] at r93
   have r98 : Nb V (a'.eval (.tmp 98)) (subP D.p (x1) (adX D.p (mulP D.p (subP D.p y2 y1) R) x1 x2)) := hrd 98 rfl rfl
   refine ⟨nofun, fun _ _ => trivial, nofun, .inr ⟨48, #[(.agg #[vp, vn, vb, vx, vy, .int .i64 (D.size : Int)]), l11, a'.eval (.tmp 98)], ?_, (callsIn_wide.2 (rtimes9_any V _ _ _ D _ _ hcr hl11 r98 HP.out.1)).mono ?_⟩⟩
   ·simp [execOp, Act.eval, r92, r93, resolve, invoke, Deferred.ofValue]
   ·rintro e w' ⟨v, rfl, hv, hB2⟩
    exact ⟨_, rfl, hB2, fun t ht => by cases ht; exact hv⟩
  ·simp at ho
   subst ho
   have r4 := hev 4 rfl
   simp [Act.eval] at r4
   refine ⟨nofun, fun _ _ => trivial, nofun, .inl ⟨.pointer (some ⟨g1, 2, none⟩), V, ?_, Below.refl _ _, fun t ht => by cases ht; rfl⟩⟩
   simp [execOp, Act.eval, go_sem, r4, c0, d1, d2, q1, q2]
  ·simp at ho
   subst ho
   have r100 : a'.eval (.tmp 100) = .pointer (some ⟨g1, 2, none⟩) := hrd 100 rfl rfl
   simp [Act.eval] at r100
   refine ⟨nofun, fun _ _ => trivial, nofun, .inl ⟨.slice Ac nc cc, V, ?_, Below.refl _ _, fun t ht => by cases ht; rfl⟩⟩
   simp [execOp, Act.eval, go_sem, r100, c0, d1, d2, q1, q2]
  ·simp at ho
   subst ho
   have r91 : a'.eval (.tmp 91) = .agg #[vp, vn, vb, vx, vy, .int .i64 (D.size : Int)] := hrd 91 rfl rfl
   simp [Act.eval] at r91
   have r99 : Nb V (a'.eval (.tmp 99)) (mulP D.p (mulP D.p (subP D.p y2 y1) R) (subP D.p (x1) (adX D.p (mulP D.p (subP D.p y2 y1) R) x1 x2))) := hrd 99 rfl rfl
   have r101 : a'.eval (.tmp 101) = .slice Ac nc cc := hrd 101 rfl rfl
   simp [Act.eval] at r101
   refine ⟨nofun, fun _ _ => trivial, nofun, .inr ⟨50, #[(.agg #[vp, vn, vb, vx, vy, .int .i64 (D.size : Int)]), a'.eval (.tmp 99), .slice Ac nc cc], ?_, (callsIn_wide.2 (rminus9_any V _ _ _ D _ _ hcr r99 hBB (mside HP.out (Nat.mod_lt _ HP.out.1) HY.out))).mono ?_⟩⟩
   ·simp [execOp, Act.eval, r91, r101, resolve, invoke, Deferred.ofValue]
   ·rintro e w' ⟨v, rfl, hv, hB2⟩
    exact ⟨_, rfl, hB2, fun t ht => by cases ht; exact hv⟩
  ·simp at ho
   subst ho
   have r90 : a'.eval (.tmp 90) = .slice A12 n12 c12 := hrd 90 rfl rfl
   simp [Act.eval] at r90
   have r102 : Nb V (a'.eval (.tmp 102)) (subP D.p (mulP D.p (mulP D.p (subP D.p y2 y1) R) (subP D.p (x1) (adX D.p (mulP D.p (subP D.p y2 y1) R) x1 x2))) (y1)) := hrd 102 rfl rfl
   obtain ⟨A13, n13, c13, h13⟩ := r102.sl
   rw [h13] at r102
   simp [Act.eval] at h13
   refine ⟨nofun, fun _ _ => trivial, nofun, .inl ⟨.agg #[.bool false, .slice A12 n12 c12, .slice A13 n13 c13], V, ?_, Below.refl _ _, fun t ht => by cases ht; exact ⟨_, _, rfl, hl12, r102⟩⟩⟩
   simp [execOp, Act.eval, go_sem, r90, h13]
  ·simp at ho
   subst ho
   exact absurd rfl hns
 case hs10 =>
  intro o a' V hG hN hshp ho hev hrd
  simp at ho
  have hop : o.op = .store 33 (.tmp 6) (.tmp 103) := by subst ho; rfl
  have hds : o.dst = none := by subst ho; rfl
  have hrd98 : readsB o 103 = true := by subst ho; rfl
  have r98 : Rp V (a'.eval (.tmp 103)) (some (adX D.p (mulP D.p (subP D.p y2 y1) R) x1 x2, adY D.p (mulP D.p (subP D.p y2 y1) R) x1 y1 x2)) := hrd 103 hrd98 (by rfl)
  have o4 := hev 6 rfl
  obtain ⟨v1, v2, he, q2, q3⟩ := r98
  obtain ⟨vs, hrv, hvl⟩ := hshp
  obtain ⟨V', hrun, hr', hg'⟩ := exec_store (P := Tryz.prog) (w := V) (o := o) (a := a') 33 3 Tryz.sizeRp (.tmp 6) (.tmp 103) hop gr [.bool false, v1, v2] (by rw [o4]; rfl) he 33 vs hrv hvl rfl (ones3 rfl q2.one q3.one)
  refine ⟨(by intro c h; rw [hop] at h; cases h), fun _ _ => trivial, hds, V', hrun, hg', NoU.of_row hr' (noU3 nofun q2.no q3.no), ⟨_, hr', rfl⟩, .bool false, v1, v2, hr', ?_⟩
  have hsb : Sb V V' := ⟨gr, hN, hg'⟩
  exact ⟨_, _, rfl, q2.sb hsb, q3.sb hsb⟩
 case hend10 =>
  rintro vals V hG hN - ⟨v0, v1, v2, hr, ht⟩
  simp [wrote, Act.put]
  go_wp2_with fail
  refine ⟨rfl, _, results_rp rfl _ gr _ rfl hr rfl, _, R, rfl, HRL.out, HINV.out, ht, below_grown HB.out hG HGL.out.1 HB.out.size⟩
def Lt3 (p : Nat) (T : Nat × Nat × Nat) : Prop := T.1 < p ∧ T.2.1 < p ∧ T.2.2 < p
theorem twR_lt {p : Nat} (hp : 0 < p) (T : Nat × Nat × Nat) : Lt3 p (twR p T) := by
 have m : ∀ x, x % p < p := fun x => Nat.mod_lt x hp
 unfold twR
 split
 ·exact ⟨hp, hp, hp⟩
 ·exact ⟨m _, m _, m _⟩
theorem mxT_lt {p : Nat} (hp : 1 < p) {x y z x2 y2 : Nat} (hx2 : x2 < p) (hy2 : y2 < p) : Lt3 p (mxT p x y z x2 y2) := by
 have m : ∀ x, x % p < p := fun x => Nat.mod_lt x (by omega)
 unfold mxT
 split
 ·exact ⟨hx2, hy2, hp⟩
 ·split
  ·split
   ·exact twR_lt (by omega) _
   ·exact ⟨by show 0 < p; omega, by show 0 < p; omega, by show 0 < p; omega⟩
  ·exact ⟨m _, m _, m _⟩
def jmN (p x2 y2 k k0 : Nat) : Nat → Nat × Nat × Nat
 | 0 => (0, 0, 0)
 | j + 1 => if k / 2 ^ (k0 - (j + 1)) % 2 = 1 then mxT p (twR p (jmN p x2 y2 k k0 j)).1 (twR p (jmN p x2 y2 k k0 j)).2.1 (twR p (jmN p x2 y2 k k0 j)).2.2 x2 y2 else twR p (jmN p x2 y2 k k0 j)
theorem jmN_lt {p : Nat} (hp : 1 < p) {x2 y2 : Nat} (hx2 : x2 < p) (hy2 : y2 < p) (k k0 : Nat) : ∀ j, Lt3 p (jmN p x2 y2 k k0 j)
 | 0 => ⟨Nat.lt_trans Nat.zero_lt_one hp, Nat.lt_trans Nat.zero_lt_one hp, Nat.lt_trans Nat.zero_lt_one hp⟩
 | j + 1 => by
  rw [jmN]
  split
  ·exact mxT_lt hp hx2 hy2
  ·exact twR_lt (by omega) _
theorem gbTrans {A B C : World} {g : Nat} (h : A.grownBy B (some g)) (k : B.grownBy C (some g)) : A.grownBy C (some g) :=
 ⟨k.os.trans h.os, k.tape.trans h.tape, k.output.trans h.output, Nat.le_trans h.size k.size, fun i hi hn => (k.block i (Nat.lt_of_lt_of_le hi h.size) hn).trans (h.block i hi hn)⟩
theorem gbBelow {A B C : World} {g : Nat} (h : A.grownBy B (some g)) (k : Below B.heap.size B C) : A.grownBy C (some g) :=
 ⟨k.os.trans h.os, k.tape.trans h.tape, k.output.trans h.output, Nat.le_trans h.size k.size, fun i hi hn => (k.block i (Nat.lt_of_lt_of_le hi h.size)).trans (h.block i hi hn)⟩
theorem rbits_b (w : World) (v : Value) (k : Nat) (h : Nb w v k) : Calls Tryz.prog 56 #[v] w fun e w' => ∃ m : Nat, e = .returned (.int .i64 (m : Int)) ∧ IsBits k m ∧ w = w' := by
 obtain ⟨xs, A, n, c, rfl, hs, hn, hl⟩ := h
 exact rbits_any w _ A n c xs hs k hn (by omega)
theorem rbit_b (w : World) (v : Value) (k i : Nat) (h : Nb w v k) (hi : i ≤ 1000000) : Calls Tryz.prog 58 #[v, .int .i64 (i : Int)] w fun e w' => e = .returned (.int .u64 ((k / 2 ^ i % 2 : Nat) : Int)) ∧ w = w' := by
 obtain ⟨xs, A, n, c, rfl, hs, hn, hl⟩ := h
 refine (rbit_any w _ A n c xs hs hn.1 (i : Int) (by omega)).mono ?_
 rintro e w' ⟨rfl, rfl⟩
 rw [if_neg (by omega), Int.toNat_natCast, hn.2.2]
 exact ⟨rfl, rfl⟩
theorem bits_le_gen {k k0 m : Nat} (h : IsBits k k0) (hk : k < b32 ^ m) : k0 ≤ 32 * m := by
 by_cases h0 : k0 = 0
 ·omega
 ·have h1 := h.2 h0
  have h2 : b32 ^ m = 2 ^ (32 * m) := by rw [show b32 = 2 ^ 32 from rfl, ← Nat.pow_mul]
  rw [h2] at hk
  have h3 := (Nat.pow_lt_pow_iff_right (by decide : 1 < 2)).1 (Nat.lt_of_le_of_lt h1 hk)
  omega
theorem bits_le {k k0 : Nat} (h : IsBits k k0) (hk : k < b32 ^ 4096) : k0 ≤ 131072 := by
 have h1 : ∀ m, m = 4096 → k < b32 ^ m → k0 ≤ 131072 := fun m hm h2 => by have := bits_le_gen h h2; omega
 exact h1 4096 rfl hk
def MulP (p : Nat) (T : Nat × Nat × Nat) (P : Option (Nat × Nat)) : Prop :=
 (T.2.2 = 0 ∧ P = none) ∨ (T.2.2 ≠ 0 ∧ ∃ R, R < p ∧ T.2.2 * R % p = 1 ∧ P = some (mulP p T.1 (mulP p R R), mulP p T.2.1 (mulP p (mulP p R R) R)))
def MulR (w : World) (v : Value) (p : Nat) (T : Nat × Nat × Nat) : Prop := ∃ P, MulP p T P ∧ Rp w v P
theorem rMul9_inf (w : World) (vc : Value) (D : Crv) (hc : Cr w vc D) (Ak : Option Addr) (nk ck : Nat) (a b : Value) :
  Calls Tryz.prog 21 #[vc, .slice Ak nk ck, .agg #[.bool true, a, b]] w fun e w' => ∃ v, e = .returned v ∧ Rp w' v none ∧ Below w.heap.size w w' := by
 obtain ⟨vp, vn, vb, vx, vy, rfl, kp, kb⟩ := hc.pr
 obtain ⟨W0, e0, r0, b0, s0⟩ := newS w 30 [vp, vn, vb, vx, vy, .int .i64 (D.size : Int)] _ rfl
 obtain ⟨W1, e1, r1, b1, s1⟩ := newS W0 33 [.bool true, a, b] _ rfl
 obtain ⟨W2, e2, r2, b2, s2⟩ := newS W1 33 [.bool false, .slice none 0 0, .slice none 0 0] _ rfl
 obtain ⟨g0, hg0⟩ : ∃ g, w.heap.size = g := ⟨_, rfl⟩
 obtain ⟨g1, hg1⟩ : ∃ g, W0.heap.size = g := ⟨_, rfl⟩
 obtain ⟨gr, hgr⟩ : ∃ g, W1.heap.size = g := ⟨_, rfl⟩
 have hb1 := b0.trans (b1.mono b0.size)
 have hbw := hb1.trans (b2.mono hb1.size)
 have HGL := hid (show w.heap.size ≤ gr ∧ g0 ≠ gr ∧ g1 ≠ gr by omega)
 rw [hg0] at r0
 rw [hg1] at r1
 rw [hgr] at r2
 have r12 := r1.later b2
 have HB := hid hbw
 have HRR := hid r2
 have HR1 := hid r12
 have d0 := HR1.out.at_ (i := 0) rfl
 clear b0 b1 b2 s0 s1 s2 hb1 hbw r0 r1 r2 r12 hc kp kb
 go_enter Tryz.func21, Tryz.ntmps21
 go_wp2_with ((with_reducible show wpList _ _ _ (⟨none, _, _, _, _, _⟩ :: _) _ _); refine wlS_store rfl 33 3 Tryz.sizeRp _ _ rfl gr [.bool true, .slice none 0 0, .slice none 0 0] rfl rfl 33 _ HRR.out rfl rfl (ones3 rfl rfl rfl) ?_; intro w6 hr6 hg6 hz6)
 exact ⟨rfl, _, results_rp rfl _ gr _ rfl hr6 rfl, _, rfl, ⟨_, _, rfl, Nb.nil _, Nb.nil _⟩, below_grown HB.out hg6 HGL.out.1 HB.out.size⟩
theorem rMul9_some (w : World) (vc vk qx qy : Value) (D : Crv) (hc : Cr w vc D) (hp : Bp D.p) (hpr : IsP D.p) (kN x2 y2 : Nat) (hk : Nb w vk kN) (hqx : Nb w qx x2) (hqy : Nb w qy y2) (hx2 : x2 < D.p) (hy2 : y2 < D.p) :
  Calls Tryz.prog 21 #[vc, vk, .agg #[.bool false, qx, qy]] w fun e w' => ∃ v k0, e = .returned v ∧ IsBits kN k0 ∧ MulR w' v D.p (jmN D.p x2 y2 kN k0 k0) ∧ Below w.heap.size w w' := by
 have hmx : Tryz.prog.follows .mixedOrders = true := by kernel_rfl
 have hkl := hk.lt
 obtain ⟨vp, vn, vb, vx, vy, rfl, kp, kb⟩ := hc.pr
 obtain ⟨W0, e0, r0, b0, s0⟩ := newS w 30 [vp, vn, vb, vx, vy, .int .i64 (D.size : Int)] _ rfl
 obtain ⟨W1, e1, r1, b1, s1⟩ := newS W0 33 [.bool false, qx, qy] _ rfl
 obtain ⟨W2, e2, r2, b2, s2⟩ := newS W1 33 [.bool false, .slice none 0 0, .slice none 0 0] _ rfl
 obtain ⟨W3, e3, r3, b3, s3⟩ := newS W2 100 [.slice none 0 0, .slice none 0 0, .slice none 0 0] _ rfl
 obtain ⟨g0, hg0⟩ : ∃ g, w.heap.size = g := ⟨_, rfl⟩
 obtain ⟨g1, hg1⟩ : ∃ g, W0.heap.size = g := ⟨_, rfl⟩
 obtain ⟨gr, hgr⟩ : ∃ g, W1.heap.size = g := ⟨_, rfl⟩
 obtain ⟨gj, hgj⟩ : ∃ g, W2.heap.size = g := ⟨_, rfl⟩
 have hb1 := b0.trans (b1.mono b0.size)
 have hb2 := hb1.trans (b2.mono hb1.size)
 have hbw := hb2.trans (b3.mono hb2.size)
 have HGL := hid (show w.heap.size ≤ gr ∧ w.heap.size ≤ gj ∧ g0 ≠ gj ∧ g1 ≠ gj ∧ gr ≠ gj ∧ g0 ≠ gr ∧ gj ≠ gr ∧ g1 ≠ gr by omega)
 rw [hg0] at r0
 rw [hg1] at r1
 rw [hgr] at r2
 rw [hgj] at r3
 have r03 := ((r0.later b1).later b2).later b3
 have r13 := (r1.later b2).later b3
 have r23 := r2.later b3
 have HB := hid hbw
 have HR0 := hid r03
 have HR1 := hid r13
 have HRR := hid r23
 have HRJ := hid r3
 have HCR := hid (hc.later hbw)
 have HKP := hid (kp.later hbw)
 have HK := hid (hk.later hbw)
 have HQX := hid (hqx.later hbw)
 have HQY := hid (hqy.later hbw)
 have HP := hid hp
 have HPR := hid hpr
 have HX2 := hid hx2
 have HY2 := hid hy2
 have HKL := hid hkl
 have d0 := (r1.later b2).at_ (i := 0) rfl
 have HNJ := hid (NoU.of_row HRJ.out (noU3 nofun nofun nofun))
 obtain ⟨Ak, nk, ck, rfl⟩ := hk.sl
 have HM := hid (rbits_b W3 _ kN HK.out)
 clear b0 b1 b2 b3 s0 s1 s2 s3 hb1 hb2 hbw r0 r1 r2 r3 r03 r13 r23 hc kp kb hk hqx hqy hp hpr hx2 hy2 hkl
 go_enter Tryz.func21, Tryz.ntmps21
 go_wp2_with fail
 refine HM.out.mono ?_
 rintro e we ⟨k0, rfl, hk0, rfl⟩
 have HK0 := hid hk0
 have hk0l : (k0 : Int) ≤ 200000 := by have := bits_le hk0 HKL.out; omega
 have hk00 : (0 : Int) ≤ k0 := by omega
 clear hk0 HM d0
 go_wp2_with fail
 go_loopw [8] (fun iv W => ∃ (j : Nat) (m : Int) (v0 v1 v2 : Value), j ≤ k0 ∧ iv = .int .i64 m ∧ Hid (m = (k0 : Int) - 1 - (j : Int)) ∧ Hid (RowV 100 W gj [v0, v1, v2]) ∧ Hid (Jc W (.agg #[v0, v1, v2]) (jmN D.p x2 y2 kN k0 j)) ∧ Hid (W3.grownBy W (some gj))) (fun iv _ => (intOf iv + 1).toNat)
 case atStart => exact ⟨0, (k0 : Int) - 1, _, _, _, Nat.zero_le _, rfl, hid (by omega), HRJ, hid ⟨_, _, _, rfl, Nb.nil _, Nb.nil _, Nb.nil _⟩, hid (World.grownBy.refl _ _)⟩
 case round =>
  obtain ⟨j, m, v0, v1, v2, hj, rfl, HMM, HR, HJ, HG⟩ := hrel
  have hsb : Sb W3 wr := ⟨gj, HNJ.out, HG.out⟩
  have HC0 := hid (HR0.out.grown HG.out HGL.out.2.2.1)
  have HC1 := hid (HR1.out.grown HG.out HGL.out.2.2.2.1)
  have HCRr := hid (HCR.out.sb hsb)
  have HKPr := hid (HKP.out.sb hsb)
  have HKr := hid (HK.out.sb hsb)
  have HQXr := hid (HQX.out.sb hsb)
  have HQYr := hid (HQY.out.sb hsb)
  have HLT := hid (jmN_lt (by have := HP.out.2.1; omega) HX2.out HY2.out kN k0 j)
  clear hsb
  by_cases hm : 0 ≤ m
  ·obtain ⟨i, rfl⟩ := Int.eq_ofNat_of_zero_le hm
   have hil : (i : Int) ≤ 200000 := by have := HMM.out; omega
   have HI := hid (show k0 - (j + 1) = i by have := HMM.out; omega)
   have HI2 := hid (show j + 1 ≤ k0 by have := HMM.out; omega)
   clear hj
   have HTW := hid (rtw_any wr _ _ D HCRr.out HP.out _ HJ.out HLT.out.1 HLT.out.2.1 HLT.out.2.2)
   have HSTEP := hid (show ∀ T, twR D.p (jmN D.p x2 y2 kN k0 j) = T → jmN D.p x2 y2 kN k0 (j + 1) = if kN / 2 ^ i % 2 = 1 then mxT D.p T.1 T.2.1 T.2.2 x2 y2 else T from fun T h => by rw [jmN, HI.out, h])
   obtain ⟨TT, hTT⟩ : ∃ T, twR D.p (jmN D.p x2 y2 kN k0 j) = T := ⟨_, rfl⟩
   have HST := hid (HSTEP.out TT hTT)
   have HTL := hid (show Lt3 D.p TT by rw [← hTT]; exact twR_lt HP.out.1 _)
   rw [hTT] at HTW
   clear hTT HSTEP
   have c0 := HC0.out.at_ (i := 0) rfl
   have c1 := HC0.out.at_ (i := 1) rfl
   have c2 := HC0.out.at_ (i := 2) rfl
   have c3 := HC0.out.at_ (i := 3) rfl
   have c4 := HC0.out.at_ (i := 4) rfl
   have c5 := HC0.out.at_ (i := 5) rfl
   have z0 := HR.out.at_ (i := 0) rfl
   have z1 := HR.out.at_ (i := 1) rfl
   have z2 := HR.out.at_ (i := 2) rfl
   go_wp2_with fail
   refine HTW.out.mono ?_
   rintro e w1 ⟨vt, rfl, ht, hb1⟩
   obtain ⟨t0, t1, t2, rfl, q0, q1, q2⟩ := ht
   have HT := hid (show Jc w1 (.agg #[t0, t1, t2]) TT from ⟨_, _, _, rfl, q0, q1, q2⟩)
   have Q0 := hid q0.one
   have Q1 := hid q1.one
   have Q2 := hid q2.one
   have HNW := hid (show NoU w1 gj from NoU.of_row (HR.out.later hb1) (by obtain ⟨a', b', c', e', p0, p1, p2⟩ := HJ.out; cases e'; exact noU3 p0.no p1.no p2.no))
   have HR1w := hid (HR.out.later hb1)
   have HGw := hid (gbBelow HG.out hb1)
   have HC0w := hid (HC0.out.later hb1)
   have HC1w := hid (HC1.out.later hb1)
   have HCRw := hid (HCRr.out.later hb1)
   have HKw := hid (HKr.out.later hb1)
   have HQXw := hid (HQXr.out.later hb1)
   have HQYw := hid (HQYr.out.later hb1)
   have NQ := hid (⟨q0.no, q1.no, q2.no⟩ : (∀ x, t0 ≠ .int .u64 x) ∧ (∀ x, t1 ≠ .int .u64 x) ∧ ∀ x, t2 ≠ .int .u64 x)
   clear q0 q1 q2 hb1 c0 c1 c2 c3 c4 c5 z0 z1 z2 HTW HR HJ HG HC0 HC1 HCRr HKPr HKr HQXr HQYr
   go_wp2_with ((with_reducible show wpList _ _ _ (⟨none, _, _, _, _, _⟩ :: _) _ _); refine wlS_store rfl 100 3 Tryz.sizeJc _ _ rfl gj [t0, t1, t2] rfl rfl 100 _ HR1w.out rfl rfl (ones3 Q0.out Q1.out Q2.out) ?_; intro w2 hr2 hg2 hz2)
   have hsb2 : Sb w1 w2 := ⟨gj, HNW.out, hg2⟩
   have HR2 := hid hr2
   have HG2 := hid (gbTrans HGw.out hg2)
   have HT2 := hid (HT.out.sb hsb2)
   have HC02 := hid (HC0w.out.grown hg2 HGL.out.2.2.1)
   have HC12 := hid (HC1w.out.grown hg2 HGL.out.2.2.2.1)
   have HCR2 := hid (HCRw.out.sb hsb2)
   have HK2 := hid (HKw.out.sb hsb2)
   have HQX2 := hid (HQXw.out.sb hsb2)
   have HQY2 := hid (HQYw.out.sb hsb2)
   have HBT := hid (rbit_b w2 _ kN i HK2.out (by omega))
   clear hsb2 hr2 hg2 hz2 HR1w HGw HT HC0w HC1w HCRw HKw HQXw HQYw HNW
   refine HBT.out.mono ?_
   rintro e w3 ⟨rfl, rfl⟩
   obtain ⟨bt, hbt⟩ : ∃ b, kN / 2 ^ i % 2 = b := ⟨_, rfl⟩
   rw [hbt]
   have HBB := hid hbt
   by_cases h1 : bt = 1
   ·subst h1
    have HST1 := hid (show jmN D.p x2 y2 kN k0 (j + 1) = mxT D.p TT.1 TT.2.1 TT.2.2 x2 y2 by rw [HST.out, if_pos HBB.out])
    have HMX := hid (rmx_any w2 _ (.agg #[t0, t1, t2]) (.agg #[.bool false, qx, qy]) D HCR2.out HP.out TT.1 TT.2.1 TT.2.2 x2 y2 HT2.out ⟨_, _, rfl, HQX2.out, HQY2.out⟩ HTL.out.1 HTL.out.2.1 HTL.out.2.2 HX2.out HY2.out)
    clear hbt HBT HBB HST
    have c0 := HC02.out.at_ (i := 0) rfl
    have c1 := HC02.out.at_ (i := 1) rfl
    have c2 := HC02.out.at_ (i := 2) rfl
    have c3 := HC02.out.at_ (i := 3) rfl
    have c4 := HC02.out.at_ (i := 4) rfl
    have c5 := HC02.out.at_ (i := 5) rfl
    have z0 := HR2.out.at_ (i := 0) rfl
    have z1 := HR2.out.at_ (i := 1) rfl
    have z2 := HR2.out.at_ (i := 2) rfl
    have yy0 := HC12.out.at_ (i := 0) rfl
    have yy1 := HC12.out.at_ (i := 1) rfl
    have yy2 := HC12.out.at_ (i := 2) rfl
    go_wp2_with fail
    refine HMX.out.mono ?_
    rintro e w4 ⟨vt, rfl, ht, hb4⟩
    obtain ⟨u0, u1, u2, rfl, q0, q1, q2⟩ := ht
    have HU := hid (show Jc w4 (.agg #[u0, u1, u2]) (jmN D.p x2 y2 kN k0 (j + 1)) by rw [HST1.out]; exact ⟨_, _, _, rfl, q0, q1, q2⟩)
    replace Q0 := hid q0.one
    replace Q1 := hid q1.one
    replace Q2 := hid q2.one
    have HR4 := hid (HR2.out.later hb4)
    have HNW := hid (show NoU w4 gj from NoU.of_row HR4.out (noU3 NQ.out.1 NQ.out.2.1 NQ.out.2.2))
    have HG4 := hid (gbBelow HG2.out hb4)
    clear q0 q1 q2 hb4 c0 c1 c2 c3 c4 c5 z0 z1 z2 yy0 yy1 yy2 HMX
    go_wp2_with ((with_reducible show wpList _ _ _ (⟨none, _, _, _, _, _⟩ :: _) _ _); refine wlS_store rfl 100 3 Tryz.sizeJc _ _ rfl gj [u0, u1, u2] rfl rfl 100 _ HR4.out rfl rfl (ones3 Q0.out Q1.out Q2.out) ?_; intro w5 hr5 hg5 hz5)
    have hsb5 : Sb w4 w5 := ⟨gj, HNW.out, hg5⟩
    have HR5 := hid hr5
    have HU5 := hid (HU.out.sb hsb5)
    have HG5 := hid (gbTrans HG4.out hg5)
    clear hsb5 hr5 hg5 hz5
    go_roundw
    case rel => exact ⟨j + 1, (i : Int) - 1, _, _, _, HI2.out, by go_num, hid (by have := HMM.out; omega), HR5, HU5, HG5⟩
    case measure => simp [intOf] <;> omega
   ·have HST0 := hid (show jmN D.p x2 y2 kN k0 (j + 1) = TT by rw [HST.out, if_neg (by rw [HBB.out]; exact h1)])
    have HU2 := hid (show Jc w2 (.agg #[t0, t1, t2]) (jmN D.p x2 y2 kN k0 (j + 1)) by rw [HST0.out]; exact HT2.out)
    have hb1 : ¬ (bt : Int) = 1 := by omega
    clear hbt HBT HBB HST
    go_wp2
    go_roundw
    case rel => exact ⟨j + 1, (i : Int) - 1, _, _, _, HI2.out, by go_num, hid (by have := HMM.out; omega), HR2, HU2, HG2⟩
    case measure => simp [intOf] <;> omega
  ·obtain rfl : j = k0 := by have := HMM.out; omega
   have HRRr := hid (HRR.out.grown HG.out HGL.out.2.2.2.2.1)
   have HBr := hid (below_grown HB.out HG.out HGL.out.2.1 HB.out.size)
   obtain ⟨T, hT⟩ : ∃ T, jmN D.p x2 y2 kN j j = T := ⟨_, rfl⟩
   rw [hT] at HJ HLT
   have HTT := hid hT
   obtain ⟨X, Y, Z⟩ := T
   obtain ⟨a', b', c', e', q0, q1, q2⟩ := HJ.out
   cases e'
   obtain ⟨A2, n2, c2, rfl, hn2⟩ := q2.zlen
   have HNX := hid q0
   have HNY := hid q1
   have HNZ := hid q2
   have HN2 := hid hn2
   have zz := HR.out.at_ (i := 2) rfl
   clear hT q0 q1 q2 hn2 HR0 HR1 HRR HCR HKP HK HQX HQY HRJ HNJ HB HC1 HKr HQXr HQYr HMM HG hj
   by_cases hz : Z = 0
   ·have hn0 : n2 = 0 := HN2.out.2 hz
    subst hn0
    go_wp2_with ((with_reducible show wpList _ _ _ (⟨none, _, _, _, _, _⟩ :: _) _ _); refine wlS_store rfl 33 3 Tryz.sizeRp _ _ rfl gr [.bool true, .slice none 0 0, .slice none 0 0] rfl rfl 33 _ HRRr.out rfl rfl (ones3 rfl rfl rfl) ?_; intro w6 hr6 hg6 hz6)
    refine ⟨rfl, _, results_rp rfl _ gr _ rfl hr6 rfl, ?_⟩
    have hbe := below_grown HBr.out hg6 HGL.out.1 HBr.out.size
    have hmr : MulR w6 (.agg #[.bool true, .slice none 0 0, .slice none 0 0]) D.p (jmN D.p x2 y2 kN j j) := by rw [HTT.out]; exact ⟨none, .inl ⟨hz, rfl⟩, _, _, rfl, Nb.nil _, Nb.nil _⟩
    first | exact ⟨_, rfl, j, HK0.out, hmr, hbe⟩ | (rw [hg0] at hbe; exact ⟨_, rfl, j, HK0.out, hmr, hbe⟩)
   ·have hn0 : ¬ (n2 : Int) = 0 := fun h => hz (HN2.out.1 (by omega))
    have HZ := hid hz
    have HM := hid (rinv_b wr (.slice A2 n2 c2) vp Z D.p HNZ.out HKPr.out (by have := HP.out.2.1; omega) (HPR.out.cop fun hd => hz (Nat.eq_zero_of_dvd_of_lt hd HLT.out.2.2)))
    have c0 := HC0.out.at_ (i := 0) rfl
    clear hz
    go_wp2_with fail
    refine HM.out.mono ?_
    rintro e wi ⟨l9, R, rfl, hl9, hR, hinv, hbz⟩
    replace HC0 := hid (HC0.out.later hbz)
    replace HR := hid (HR.out.later hbz)
    replace HRRr := hid (HRRr.out.later hbz)
    replace HCRr := hid (HCRr.out.later hbz)
    replace HKPr := hid (HKPr.out.later hbz)
    replace HNX := hid (HNX.out.later hbz)
    replace HNY := hid (HNY.out.later hbz)
    replace HNZ := hid (HNZ.out.later hbz)
    replace HBr := hid (HBr.out.trans (hbz.mono HBr.out.size))
    have HL9 := hid hl9
    have HRL := hid hR
    have HINV := hid hinv
    clear hbz hl9 hR hinv HM c0 zz hn0
    have HM := hid (rtimes9_any wi _ l9 l9 D _ _ HCRr.out HL9.out HL9.out HP.out.1)
    have c0 := HC0.out.at_ (i := 0) rfl
    have c1 := HC0.out.at_ (i := 1) rfl
    have c2 := HC0.out.at_ (i := 2) rfl
    have c3 := HC0.out.at_ (i := 3) rfl
    have c4 := HC0.out.at_ (i := 4) rfl
    have c5 := HC0.out.at_ (i := 5) rfl
    go_wp2_with fail
    refine HM.out.mono ?_
    rintro e wj ⟨l11, rfl, hl11, hbz⟩
    replace HC0 := hid (HC0.out.later hbz)
    replace HR := hid (HR.out.later hbz)
    replace HRRr := hid (HRRr.out.later hbz)
    replace HCRr := hid (HCRr.out.later hbz)
    replace HKPr := hid (HKPr.out.later hbz)
    replace HNX := hid (HNX.out.later hbz)
    replace HNY := hid (HNY.out.later hbz)
    replace HNZ := hid (HNZ.out.later hbz)
    replace HL9 := hid (HL9.out.later hbz)
    replace HBr := hid (HBr.out.trans (hbz.mono HBr.out.size))
    have HL11 := hid (show Nb wj l11 (mulP D.p R R) from hl11)
    clear hbz hl11 HM c0 c1 c2 c3 c4 c5
    obtain ⟨X0, Xn, Xc, rfl⟩ := HNX.out.sl
    obtain ⟨Y0, Yn, Yc, rfl⟩ := HNY.out.sl
    obtain ⟨A9, n9, cc9, rfl⟩ := HL9.out.sl
    obtain ⟨A11, n11, cc11, rfl⟩ := HL11.out.sl
    have HNO := hid (NoU.of_row HRRr.out (noU3 nofun nofun nofun))
    go_wp2_with fail
    refine (wpIn_wide (n := 9)).1 (wpIn_region_num1 rfl hmx [(50, .val (.agg #[vp, vn, vb, vx, vy, .int .i64 (D.size : Int)])), (51, .val (.pointer (some ⟨gj, 0, none⟩))), (52, .val (.slice X0 Xn Xc)), (53, .val (.slice A11 n11 cc11)), (54, .nb (mulP D.p (X) (mulP D.p R R))), (55, .val (.agg #[vp, vn, vb, vx, vy, .int .i64 (D.size : Int)])), (56, .val (.pointer (some ⟨gj, 1, none⟩))), (57, .val (.slice Y0 Yn Yc)), (58, .val (.agg #[vp, vn, vb, vx, vy, .int .i64 (D.size : Int)])), (59, .val (.slice A11 n11 cc11)), (60, .val (.slice A9 n9 cc9)), (61, .nb (mulP D.p (mulP D.p R R) (R))), (62, .nb (mulP D.p (Y) (mulP D.p (mulP D.p R R) (R)))), (63, .rp (some (mulP D.p X (mulP D.p R R), mulP D.p Y (mulP D.p (mulP D.p R R) R))))] (by kernel_rfl) (by kernel_rfl) (by kernel_rfl) (by kernel_rfl) (by rfl) gr 14 ⟨_, rfl, rfl⟩ (HRRr.out.lt) HNO.out 33 3 ⟨_, HRRr.out, rfl⟩ (fun V => ∃ v0 v1 v2, RowV 33 V gr [v0, v1, v2] ∧ Rp V (.agg #[v0, v1, v2]) (some (mulP D.p X (mulP D.p R R), mulP D.p Y (mulP D.p (mulP D.p R R) R)))) ?hPs ?hops10 ?hs10 ?hend10)
    case hPs =>
     rintro V V' hlt hb ⟨v0, v1, v2, hr, ht⟩
     exact ⟨v0, v1, v2, hr.later hb, ht.later hb⟩
    case hops10 =>
     intro i o a' V hns hB ho hev hrd
     have his : i < 15 := by have := (Array.getElem?_eq_some_iff.1 ho).1; simpa using this
     have hSB : Sb wj V := ⟨gr, HNO.out, hB⟩
     have hr0 := HC0.out.grown hB HGL.out.2.2.2.2.2.1
     have hrj := HR.out.grown hB HGL.out.2.2.2.2.2.2.1
     have c0 := hr0.at_ (i := 0) rfl
     have j0 := hrj.at_ (i := 0) rfl
     have j1 := hrj.at_ (i := 1) rfl
     have hcr := HCRr.out.sb hSB
     have hkp := HKPr.out.sb hSB
     have hX := HNX.out.sb hSB
     have hY := HNY.out.sb hSB
     have hl9 := HL9.out.sb hSB
     have hl11 := HL11.out.sb hSB
     have hcase : i = 0 ∨ i = 1 ∨ i = 2 ∨ i = 3 ∨ i = 4 ∨ i = 5 ∨ i = 6 ∨ i = 7 ∨ i = 8 ∨ i = 9 ∨ i = 10 ∨ i = 11 ∨ i = 12 ∨ i = 13 ∨ i = 14 := by omega
     rcases hcase with rfl | rfl | rfl | rfl | rfl | rfl | rfl | rfl | rfl | rfl | rfl | rfl | rfl | rfl | rfl
     ·simp at ho
      subst ho
      have r3 := hev 3 rfl
      simp [Act.eval] at r3
      try simp [Act.put] at r3
      refine ⟨nofun, fun _ _ => trivial, nofun, .inl ⟨.agg #[vp, vn, vb, vx, vy, .int .i64 (D.size : Int)], V, exec_load 30 6 _ Tryz.underlying30 rfl Tryz.sizeCr _ rfl g0 [vp, vn, vb, vx, vy, .int .i64 (D.size : Int)] (by simpa [Act.eval] using r3) 30 hr0 rfl, Below.refl _ _, fun t ht => by cases ht; rfl⟩⟩
     ·simp at ho
      subst ho
      have r7 := hev 7 rfl
      simp [Act.eval] at r7
      refine ⟨nofun, fun _ _ => trivial, nofun, .inl ⟨.pointer (some ⟨gj, 0, none⟩), V, ?_, Below.refl _ _, fun t ht => by cases ht; rfl⟩⟩
      simp [execOp, Act.eval, go_sem, r7, c0, j0, j1]
     ·simp at ho
      subst ho
      have r51 : a'.eval (.tmp 51) = .pointer (some ⟨gj, 0, none⟩) := hrd 51 rfl rfl
      simp [Act.eval] at r51
      refine ⟨nofun, fun _ _ => trivial, nofun, .inl ⟨.slice X0 Xn Xc, V, ?_, Below.refl _ _, fun t ht => by cases ht; rfl⟩⟩
      simp [execOp, Act.eval, go_sem, r51, c0, j0, j1]
     ·simp at ho
      subst ho
      have r11 := hev 11 rfl
      simp [Act.eval] at r11
      refine ⟨nofun, fun _ _ => trivial, nofun, .inl ⟨.slice A11 n11 cc11, V, ?_, Below.refl _ _, fun t ht => by cases ht; rfl⟩⟩
      simp [execOp, Act.eval, go_sem, r11, c0, j0, j1]
     ·simp at ho
      subst ho
      have r50 : a'.eval (.tmp 50) = .agg #[vp, vn, vb, vx, vy, .int .i64 (D.size : Int)] := hrd 50 rfl rfl
      simp [Act.eval] at r50
      have r52 : a'.eval (.tmp 52) = .slice X0 Xn Xc := hrd 52 rfl rfl
      simp [Act.eval] at r52
      have r53 : a'.eval (.tmp 53) = .slice A11 n11 cc11 := hrd 53 rfl rfl
      simp [Act.eval] at r53
      refine ⟨nofun, fun _ _ => trivial, nofun, .inr ⟨48, #[(.agg #[vp, vn, vb, vx, vy, .int .i64 (D.size : Int)]), .slice X0 Xn Xc, .slice A11 n11 cc11], ?_, (callsIn_wide.2 (rtimes9_any V _ _ _ D _ _ hcr hX hl11 HP.out.1)).mono ?_⟩⟩
      ·simp [execOp, Act.eval, r50, r52, r53, resolve, invoke, Deferred.ofValue]
      ·rintro e w' ⟨v, rfl, hv, hB2⟩
       exact ⟨_, rfl, hB2, fun t ht => by cases ht; exact hv⟩
     ·simp at ho
      subst ho
      have r3 := hev 3 rfl
      simp [Act.eval] at r3
      try simp [Act.put] at r3
      refine ⟨nofun, fun _ _ => trivial, nofun, .inl ⟨.agg #[vp, vn, vb, vx, vy, .int .i64 (D.size : Int)], V, exec_load 30 6 _ Tryz.underlying30 rfl Tryz.sizeCr _ rfl g0 [vp, vn, vb, vx, vy, .int .i64 (D.size : Int)] (by simpa [Act.eval] using r3) 30 hr0 rfl, Below.refl _ _, fun t ht => by cases ht; rfl⟩⟩
     ·simp at ho
      subst ho
      have r7 := hev 7 rfl
      simp [Act.eval] at r7
      refine ⟨nofun, fun _ _ => trivial, nofun, .inl ⟨.pointer (some ⟨gj, 1, none⟩), V, ?_, Below.refl _ _, fun t ht => by cases ht; rfl⟩⟩
      simp [execOp, Act.eval, go_sem, r7, c0, j0, j1]
     ·simp at ho
      subst ho
      have r56 : a'.eval (.tmp 56) = .pointer (some ⟨gj, 1, none⟩) := hrd 56 rfl rfl
      simp [Act.eval] at r56
      refine ⟨nofun, fun _ _ => trivial, nofun, .inl ⟨.slice Y0 Yn Yc, V, ?_, Below.refl _ _, fun t ht => by cases ht; rfl⟩⟩
      simp [execOp, Act.eval, go_sem, r56, c0, j0, j1]
     ·simp at ho
      subst ho
      have r3 := hev 3 rfl
      simp [Act.eval] at r3
      try simp [Act.put] at r3
      refine ⟨nofun, fun _ _ => trivial, nofun, .inl ⟨.agg #[vp, vn, vb, vx, vy, .int .i64 (D.size : Int)], V, exec_load 30 6 _ Tryz.underlying30 rfl Tryz.sizeCr _ rfl g0 [vp, vn, vb, vx, vy, .int .i64 (D.size : Int)] (by simpa [Act.eval] using r3) 30 hr0 rfl, Below.refl _ _, fun t ht => by cases ht; rfl⟩⟩
     ·simp at ho
      subst ho
      have r11 := hev 11 rfl
      simp [Act.eval] at r11
      refine ⟨nofun, fun _ _ => trivial, nofun, .inl ⟨.slice A11 n11 cc11, V, ?_, Below.refl _ _, fun t ht => by cases ht; rfl⟩⟩
      simp [execOp, Act.eval, go_sem, r11, c0, j0, j1]
     ·simp at ho
      subst ho
      have r9 := hev 9 rfl
      simp [Act.eval] at r9
      refine ⟨nofun, fun _ _ => trivial, nofun, .inl ⟨.slice A9 n9 cc9, V, ?_, Below.refl _ _, fun t ht => by cases ht; rfl⟩⟩
      simp [execOp, Act.eval, go_sem, r9, c0, j0, j1]
     ·simp at ho
      subst ho
      have r58 : a'.eval (.tmp 58) = .agg #[vp, vn, vb, vx, vy, .int .i64 (D.size : Int)] := hrd 58 rfl rfl
      simp [Act.eval] at r58
      have r59 : a'.eval (.tmp 59) = .slice A11 n11 cc11 := hrd 59 rfl rfl
      simp [Act.eval] at r59
      have r60 : a'.eval (.tmp 60) = .slice A9 n9 cc9 := hrd 60 rfl rfl
      simp [Act.eval] at r60
      refine ⟨nofun, fun _ _ => trivial, nofun, .inr ⟨48, #[(.agg #[vp, vn, vb, vx, vy, .int .i64 (D.size : Int)]), .slice A11 n11 cc11, .slice A9 n9 cc9], ?_, (callsIn_wide.2 (rtimes9_any V _ _ _ D _ _ hcr hl11 hl9 HP.out.1)).mono ?_⟩⟩
      ·simp [execOp, Act.eval, r58, r59, r60, resolve, invoke, Deferred.ofValue]
      ·rintro e w' ⟨v, rfl, hv, hB2⟩
       exact ⟨_, rfl, hB2, fun t ht => by cases ht; exact hv⟩
     ·simp at ho
      subst ho
      have r55 : a'.eval (.tmp 55) = .agg #[vp, vn, vb, vx, vy, .int .i64 (D.size : Int)] := hrd 55 rfl rfl
      simp [Act.eval] at r55
      have r57 : a'.eval (.tmp 57) = .slice Y0 Yn Yc := hrd 57 rfl rfl
      simp [Act.eval] at r57
      have r61 : Nb V (a'.eval (.tmp 61)) (mulP D.p (mulP D.p R R) (R)) := hrd 61 rfl rfl
      refine ⟨nofun, fun _ _ => trivial, nofun, .inr ⟨48, #[(.agg #[vp, vn, vb, vx, vy, .int .i64 (D.size : Int)]), .slice Y0 Yn Yc, a'.eval (.tmp 61)], ?_, (callsIn_wide.2 (rtimes9_any V _ _ _ D _ _ hcr hY r61 HP.out.1)).mono ?_⟩⟩
      ·simp [execOp, Act.eval, r55, r57, resolve, invoke, Deferred.ofValue]
      ·rintro e w' ⟨v, rfl, hv, hB2⟩
       exact ⟨_, rfl, hB2, fun t ht => by cases ht; exact hv⟩
     ·simp at ho
      subst ho
      have r54 : Nb V (a'.eval (.tmp 54)) (mulP D.p (X) (mulP D.p R R)) := hrd 54 rfl rfl
      have r62 : Nb V (a'.eval (.tmp 62)) (mulP D.p (Y) (mulP D.p (mulP D.p R R) (R))) := hrd 62 rfl rfl
      obtain ⟨A54, n54, c54, h54⟩ := r54.sl
      obtain ⟨A62, n62, c62, h62⟩ := r62.sl
      rw [h54] at r54
      rw [h62] at r62
      simp [Act.eval] at h54 h62
      refine ⟨nofun, fun _ _ => trivial, nofun, .inl ⟨.agg #[.bool false, .slice A54 n54 c54, .slice A62 n62 c62], V, ?_, Below.refl _ _, fun t ht => by cases ht; exact ⟨_, _, rfl, r54, r62⟩⟩⟩
      simp [execOp, Act.eval, go_sem, h54, h62]
     ·simp at ho
      subst ho
      exact absurd rfl hns
    case hs10 =>
     intro o a' V hG hN hshp ho hev hrd
     simp at ho
     have hop : o.op = .store 33 (.tmp 6) (.tmp 63) := by subst ho; rfl
     have hds : o.dst = none := by subst ho; rfl
     have hrd98 : readsB o 63 = true := by subst ho; rfl
     have r98 : Rp V (a'.eval (.tmp 63)) (some (mulP D.p X (mulP D.p R R), mulP D.p Y (mulP D.p (mulP D.p R R) R))) := hrd 63 hrd98 (by rfl)
     have o4 := hev 6 rfl
     obtain ⟨v1, v2, he, q2, q3⟩ := r98
     obtain ⟨vs, hrv, hvl⟩ := hshp
     obtain ⟨V', hrun, hr', hg'⟩ := exec_store (P := Tryz.prog) (w := V) (o := o) (a := a') 33 3 Tryz.sizeRp (.tmp 6) (.tmp 63) hop gr [.bool false, v1, v2] (by rw [o4]; rfl) he 33 vs hrv hvl rfl (ones3 rfl q2.one q3.one)
     refine ⟨(by intro c h; rw [hop] at h; cases h), fun _ _ => trivial, hds, V', hrun, hg', NoU.of_row hr' (noU3 nofun q2.no q3.no), ⟨_, hr', rfl⟩, .bool false, v1, v2, hr', ?_⟩
     have hsb : Sb V V' := ⟨gr, hN, hg'⟩
     exact ⟨_, _, rfl, q2.sb hsb, q3.sb hsb⟩
    case hend10 =>
     rintro vals V hG hN - ⟨v0, v1, v2, hr, ht⟩
     simp [wrote, Act.put]
     go_wp2_with fail
     have hbe := below_grown HBr.out hG HGL.out.1 HBr.out.size
     have hmr : MulR V (.agg #[v0, v1, v2]) D.p (jmN D.p x2 y2 kN j j) := by rw [HTT.out]; exact ⟨_, .inr ⟨HZ.out, R, HRL.out, HINV.out, rfl⟩, ht⟩
     refine ⟨rfl, _, results_rp rfl _ gr _ rfl hr rfl, ?_⟩
     first | exact ⟨_, rfl, j, HK0.out, hmr, hbe⟩ | (rw [hg0] at hbe; exact ⟨_, rfl, j, HK0.out, hmr, hbe⟩) | exact ⟨_, j, rfl, HK0.out, hmr, hbe⟩
theorem rMul9_any (w : World) (vc vk vq : Value) (D : Crv) (hc : Cr w vc D) (hp : Bp D.p) (hpr : IsP D.p) (kN : Nat) (hk : Nb w vk kN) (P : Option (Nat × Nat)) (hq : Rp w vq P) (hl : ∀ x y, P = some (x, y) → x < D.p ∧ y < D.p) :
  Calls Tryz.prog 21 #[vc, vk, vq] w fun e w' => ∃ v, e = .returned v ∧ (match P with | none => Rp w' v none | some (x, y) => ∃ k0, IsBits kN k0 ∧ MulR w' v D.p (jmN D.p x y kN k0 k0)) ∧ Below w.heap.size w w' := by
 rcases P with _ | ⟨x, y⟩
 ·obtain ⟨a, b, rfl, ka, kb⟩ := hq
  obtain ⟨Ak, nk, ck, rfl⟩ := hk.sl
  exact rMul9_inf w vc D hc Ak nk ck a b
 ·obtain ⟨a, b, rfl, ka, kb⟩ := hq
  refine (rMul9_some w vc vk a b D hc hp hpr kN x y hk ka kb (hl x y rfl).1 (hl x y rfl).2).mono ?_
  rintro e w' ⟨v, k0, rfl, h1, h2, h3⟩
  exact ⟨v, rfl, ⟨k0, h1, h2⟩, h3⟩
def Spc.sl (S : Spc) : Spc := ⟨fun v V => S.P v V ∧ ∃ A n c, v = .slice A n c, fun v V V' hb h => ⟨S.sb v V V' hb h.1, h.2⟩⟩
def FromOk (w : World) (a : Value) (S : Spc) : Prop := ∀ V, Below w.heap.size w V → Calls Tryz.prog 22 #[a] V fun e w' => ∃ v, e = .returned v ∧ S.sl.P v w' ∧ Below V.heap.size V w'
theorem FromOk.num {w : World} {a : Value} {k : Nat} (h : NumR w 64 k a) : FromOk w a (Spc.nb k) := by
 intro V hB
 refine (from_u V a k (h.sb (Sb.of_below hB))).mono ?_
 rintro e w' ⟨v, rfl, hv, hb⟩
 exact ⟨v, rfl, ⟨hv, hv.sl⟩, hb⟩
theorem FromOk.any {w : World} {A : Option Addr} {n c : Nat} {xs : List Nat} (hs : Sl w w.heap.size A n c xs) (hd : Dg b64 xs) (hn : n ≤ 1000000000) : FromOk w (.slice A n c) Spc.any := by
 intro V hB
 refine (from_any V _ (Nat.le_refl _) A n c xs (hs.sb (Sb.of_below hB)) hd hn).mono ?_
 rintro e w' ⟨ys, hy, A', n', c', rfl, hs', hb⟩
 exact ⟨_, rfl, ⟨trivial, _, _, _, rfl⟩, hb⟩
def Spc.r3 (S1 S2 : Spc) : Spc := ⟨fun v V => ∃ a b, v = .agg #[.bool false, a, b] ∧ S1.sl.P a V ∧ S2.sl.P b V, fun v V V' hb ⟨a, b, e, h1, h2⟩ => ⟨a, b, e, S1.sl.sb _ _ _ hb h1, S2.sl.sb _ _ _ hb h2⟩⟩
theorem rFrom9_inf (w : World) (a b : Value) :
  Calls Tryz.prog 11 #[.agg #[.bool true, a, b]] w fun e w' => ∃ v, e = .returned v ∧ Rp w' v none ∧ Below w.heap.size w w' := by
 obtain ⟨W0, e0, r0, b0, s0⟩ := newS w 26 [.bool true, a, b] _ rfl
 obtain ⟨W1, e1, r1, b1, s1⟩ := newS W0 33 [.bool false, .slice none 0 0, .slice none 0 0] _ rfl
 obtain ⟨g0, hg0⟩ : ∃ g, w.heap.size = g := ⟨_, rfl⟩
 obtain ⟨gr, hgr⟩ : ∃ g, W0.heap.size = g := ⟨_, rfl⟩
 have hbw := b0.trans (b1.mono b0.size)
 have HGL := hid (show w.heap.size ≤ gr ∧ g0 ≠ gr by omega)
 rw [hg0] at r0
 rw [hgr] at r1
 have HB := hid hbw
 have HR0 := hid (r0.later b1)
 have HRR := hid r1
 have d0 := HR0.out.at_ (i := 0) rfl
 clear b0 b1 s0 s1 hbw r0 r1
 go_enter Tryz.func11, Tryz.ntmps11
 go_wp2_with ((with_reducible show wpList _ _ _ (⟨none, _, _, _, _, _⟩ :: _) _ _); refine wlS_store rfl 33 3 Tryz.sizeRp _ _ rfl gr [.bool true, .slice none 0 0, .slice none 0 0] rfl rfl 33 _ HRR.out rfl rfl (ones3 rfl rfl rfl) ?_; intro w6 hr6 hg6 hz6)
 exact ⟨rfl, _, results_rp rfl _ gr _ rfl hr6 rfl, _, rfl, ⟨_, _, rfl, Nb.nil _, Nb.nil _⟩, below_grown HB.out hg6 HGL.out.1 HB.out.size⟩
theorem rFrom9_gen (w : World) (a b : Value) (S1 S2 : Spc) (h1 : FromOk w a S1) (h2 : FromOk w b S2) :
  Calls Tryz.prog 11 #[.agg #[.bool false, a, b]] w fun e w' => ∃ v, e = .returned v ∧ (Spc.r3 S1 S2).P v w' ∧ Below w.heap.size w w' := by
 have hmx : Tryz.prog.follows .mixedOrders = true := by kernel_rfl
 obtain ⟨W0, e0, r0, b0, s0⟩ := newS w 26 [.bool false, a, b] _ rfl
 obtain ⟨W1, e1, r1, b1, s1⟩ := newS W0 33 [.bool false, .slice none 0 0, .slice none 0 0] _ rfl
 obtain ⟨g0, hg0⟩ : ∃ g, w.heap.size = g := ⟨_, rfl⟩
 obtain ⟨gr, hgr⟩ : ∃ g, W0.heap.size = g := ⟨_, rfl⟩
 have hbw := b0.trans (b1.mono b0.size)
 have HGL := hid (show w.heap.size ≤ gr ∧ g0 ≠ gr by omega)
 rw [hg0] at r0
 rw [hgr] at r1
 have HB := hid hbw
 have HR0 := hid (r0.later b1)
 have HRR := hid r1
 have d0 := HR0.out.at_ (i := 0) rfl
 clear b0 b1 s0 s1 hbw r0 r1
 have HF1 := hid h1
 have HF2 := hid h2
 have hno : NoU W1 gr := NoU.of_row HRR.out (noU3 nofun nofun nofun)
 have HNO := hid hno
 clear hno h1 h2
 go_enter Tryz.func11, Tryz.ntmps11
 go_wp2_with fail
 refine (wpIn_wide (n := 9)).1 (wpIn_region_num1 rfl hmx [(6, .val (.pointer (some ⟨g0, 1, none⟩))), (7, .val (a)), (8, S1.sl), (9, .val (.pointer (some ⟨g0, 2, none⟩))), (10, .val (b)), (11, S2.sl), (12, Spc.r3 S1 S2)] (by kernel_rfl) (by kernel_rfl) (by kernel_rfl) (by kernel_rfl) (by rfl) gr 7 ⟨_, rfl, rfl⟩ (HRR.out.lt) HNO.out 33 3 ⟨_, HRR.out, rfl⟩ (fun V => ∃ v0 v1 v2, RowV 33 V gr [v0, v1, v2] ∧ (Spc.r3 S1 S2).P (.agg #[v0, v1, v2]) V) ?hPs ?hops10 ?hs10 ?hend10)
 case hPs =>
  rintro V V' hlt hb ⟨v0, v1, v2, hr, ht⟩
  exact ⟨v0, v1, v2, hr.later hb, (Spc.r3 S1 S2).sb _ _ _ (Sb.of_below hb) ht⟩
 case hops10 =>
  intro i o a' V hns hB ho hev hrd
  have his : i < 8 := by have := (Array.getElem?_eq_some_iff.1 ho).1; simpa using this
  have hr0 := HR0.out.grown hB HGL.out.2
  have d1 := hr0.at_ (i := 1) rfl
  have d2 := hr0.at_ (i := 2) rfl
  have hBV := below_grown HB.out hB HGL.out.1 HB.out.size
  have hcase : i = 0 ∨ i = 1 ∨ i = 2 ∨ i = 3 ∨ i = 4 ∨ i = 5 ∨ i = 6 ∨ i = 7 := by omega
  rcases hcase with rfl | rfl | rfl | rfl | rfl | rfl | rfl | rfl
  ·simp at ho
   subst ho
   have r1 := hev 1 rfl
   simp [Act.eval] at r1
   refine ⟨nofun, fun _ _ => trivial, nofun, .inl ⟨.pointer (some ⟨g0, 1, none⟩), V, ?_, Below.refl _ _, fun t ht => by cases ht; rfl⟩⟩
   simp [execOp, Act.eval, go_sem, r1, d1, d2]
  ·simp at ho
   subst ho
   have r6 : a'.eval (.tmp 6) = .pointer (some ⟨g0, 1, none⟩) := hrd 6 rfl rfl
   simp [Act.eval] at r6
   refine ⟨nofun, fun _ _ => trivial, nofun, .inl ⟨a, V, ?_, Below.refl _ _, fun t ht => by cases ht; rfl⟩⟩
   simp [execOp, Act.eval, go_sem, r6, d1, d2]
  ·simp at ho
   subst ho
   have r7 : a'.eval (.tmp 7) = a := hrd 7 rfl rfl
   simp [Act.eval] at r7
   refine ⟨nofun, fun _ _ => trivial, nofun, .inr ⟨22, #[a], ?_, (callsIn_wide.2 (HF1.out V hBV)).mono ?_⟩⟩
   ·simp [execOp, Act.eval, r7, resolve, invoke, Deferred.ofValue]
   ·rintro e w' ⟨v, rfl, hv, hB2⟩
    exact ⟨_, rfl, hB2, fun t ht => by cases ht; exact hv⟩
  ·simp at ho
   subst ho
   have r1 := hev 1 rfl
   simp [Act.eval] at r1
   refine ⟨nofun, fun _ _ => trivial, nofun, .inl ⟨.pointer (some ⟨g0, 2, none⟩), V, ?_, Below.refl _ _, fun t ht => by cases ht; rfl⟩⟩
   simp [execOp, Act.eval, go_sem, r1, d1, d2]
  ·simp at ho
   subst ho
   have r9 : a'.eval (.tmp 9) = .pointer (some ⟨g0, 2, none⟩) := hrd 9 rfl rfl
   simp [Act.eval] at r9
   refine ⟨nofun, fun _ _ => trivial, nofun, .inl ⟨b, V, ?_, Below.refl _ _, fun t ht => by cases ht; rfl⟩⟩
   simp [execOp, Act.eval, go_sem, r9, d1, d2]
  ·simp at ho
   subst ho
   have r10 : a'.eval (.tmp 10) = b := hrd 10 rfl rfl
   simp [Act.eval] at r10
   refine ⟨nofun, fun _ _ => trivial, nofun, .inr ⟨22, #[b], ?_, (callsIn_wide.2 (HF2.out V hBV)).mono ?_⟩⟩
   ·simp [execOp, Act.eval, r10, resolve, invoke, Deferred.ofValue]
   ·rintro e w' ⟨v, rfl, hv, hB2⟩
    exact ⟨_, rfl, hB2, fun t ht => by cases ht; exact hv⟩
  ·simp at ho
   subst ho
   have r8 : S1.sl.P (a'.eval (.tmp 8)) V := hrd 8 rfl rfl
   have r11 : S2.sl.P (a'.eval (.tmp 11)) V := hrd 11 rfl rfl
   obtain ⟨A8, n8, c8, h8⟩ := r8.2
   rw [h8] at r8
   simp [Act.eval] at h8
   obtain ⟨A11, n11, c11, h11⟩ := r11.2
   rw [h11] at r11
   simp [Act.eval] at h11
   refine ⟨nofun, fun _ _ => trivial, nofun, .inl ⟨.agg #[.bool false, .slice A8 n8 c8, .slice A11 n11 c11], V, ?_, Below.refl _ _, fun t ht => by cases ht; exact ⟨_, _, rfl, r8, r11⟩⟩⟩
   simp [execOp, Act.eval, go_sem, h8, h11]
  ·simp at ho
   subst ho
   exact absurd rfl hns
 case hs10 =>
  intro o a' V hG hN hshp ho hev hrd
  simp at ho
  have hop : o.op = .store 33 (.tmp 2) (.tmp 12) := by subst ho; rfl
  have hds : o.dst = none := by subst ho; rfl
  have hrd98 : readsB o 12 = true := by subst ho; rfl
  have r98 : (Spc.r3 S1 S2).P (a'.eval (.tmp 12)) V := hrd 12 hrd98 (by rfl)
  have o4 := hev 2 rfl
  obtain ⟨v1, v2, he, q2, q3⟩ := r98
  obtain ⟨vs, hrv, hvl⟩ := hshp
  obtain ⟨A8, n8, c8, rfl⟩ := q2.2
  obtain ⟨A11, n11, c11, rfl⟩ := q3.2
  obtain ⟨V', hrun, hr', hg'⟩ := exec_store (P := Tryz.prog) (w := V) (o := o) (a := a') 33 3 Tryz.sizeRp (.tmp 2) (.tmp 12) hop gr [.bool false, .slice A8 n8 c8, .slice A11 n11 c11] (by rw [o4]; rfl) he 33 vs hrv hvl rfl (ones3 rfl rfl rfl)
  refine ⟨(by intro c h; rw [hop] at h; cases h), fun _ _ => trivial, hds, V', hrun, hg', NoU.of_row hr' (noU3 nofun nofun nofun), ⟨_, hr', rfl⟩, .bool false, _, _, hr', ?_⟩
  have hsb : Sb V V' := ⟨gr, hN, hg'⟩
  exact ⟨_, _, rfl, S1.sl.sb _ _ _ hsb q2, S2.sl.sb _ _ _ hsb q3⟩
 case hend10 =>
  rintro vals V hG hN - ⟨v0, v1, v2, hr, ht⟩
  simp [wrote, Act.put]
  go_wp2_with fail
  refine ⟨rfl, _, results_rp rfl _ gr _ rfl hr rfl, _, rfl, ht, below_grown HB.out hG HGL.out.1 HB.out.size⟩
theorem to_u (w : World) (a : Value) (x : Nat) (h : Nb w a x) (hx : x < b64 ^ 64) : Calls Tryz.prog 30 #[a] w fun e w' => RetU w x e w' := by
 obtain ⟨xs, A, n, c, rfl, hs, hn, hl⟩ := h
 refine (to_any w _ (Nat.le_refl _) A n c xs hs x hn (by omega)).mono ?_
 rintro e w' ⟨ys, hy, A', n', c', rfl, hs', hb⟩
 exact ⟨_, rfl, Nu.of hs' hy hx, hb⟩
def Spc.t3 (t : Bool) (x y : Nat) : Spc := ⟨fun v V => ∃ a b, v = .agg #[.bool t, a, b] ∧ Nu V a x ∧ Nu V b y, fun v V V' hb ⟨a, b, e, h1, h2⟩ => ⟨a, b, e, h1.sb hb, h2.sb hb⟩⟩
theorem rTo9_true (w : World) (a b : Value) (x y : Nat) (h1 : Nb w a x) (h2 : Nb w b y) (hx : x < b64 ^ 64) (hy : y < b64 ^ 64) :
  Calls Tryz.prog 36 #[.agg #[.bool true, a, b]] w fun e w' => ∃ v, e = .returned v ∧ (Spc.t3 true x y).P v w' ∧ Below w.heap.size w w' := by
 have hmx : Tryz.prog.follows .mixedOrders = true := by kernel_rfl
 obtain ⟨W0, e0, r0, b0, s0⟩ := newS w 33 [.bool true, a, b] _ rfl
 obtain ⟨W1, e1, r1, b1, s1⟩ := newS W0 26 [.bool false, .slice none 0 0, .slice none 0 0] _ rfl
 obtain ⟨g0, hg0⟩ : ∃ g, w.heap.size = g := ⟨_, rfl⟩
 obtain ⟨gr, hgr⟩ : ∃ g, W0.heap.size = g := ⟨_, rfl⟩
 have hbw := b0.trans (b1.mono b0.size)
 have HGL := hid (show w.heap.size ≤ gr ∧ g0 ≠ gr by omega)
 rw [hg0] at r0
 rw [hgr] at r1
 have HB := hid hbw
 have HR0 := hid (r0.later b1)
 have HRR := hid r1
 have HA := hid (h1.later hbw)
 have HBB := hid (h2.later hbw)
 have HX := hid hx
 have HY := hid hy
 have hno : NoU W1 gr := NoU.of_row HRR.out (noU3 nofun nofun nofun)
 have HNO := hid hno
 clear hno h1 h2 b0 b1 s0 s1 hbw r0 r1 hx hy
 go_enter Tryz.func36, Tryz.ntmps36
 go_wp2_with fail
 refine (wpIn_wide (n := 9)).1 (wpIn_region_num1 rfl hmx [(3, .val (.pointer (some ⟨g0, 0, none⟩))), (4, .val (.bool true)), (5, .val (.pointer (some ⟨g0, 1, none⟩))), (6, .val (a)), (7, .num (x)), (8, .val (.pointer (some ⟨g0, 2, none⟩))), (9, .val (b)), (10, .num (y)), (11, Spc.t3 true x y)] (by kernel_rfl) (by kernel_rfl) (by kernel_rfl) (by kernel_rfl) (by rfl) gr 9 ⟨_, rfl, rfl⟩ (HRR.out.lt) HNO.out 26 3 ⟨_, HRR.out, rfl⟩ (fun V => ∃ v0 v1 v2, RowV 26 V gr [v0, v1, v2] ∧ (Spc.t3 true x y).P (.agg #[v0, v1, v2]) V) ?hPs ?hops10 ?hs10 ?hend10)
 case hPs =>
  rintro V V' hlt hb ⟨v0, v1, v2, hr, ht⟩
  exact ⟨v0, v1, v2, hr.later hb, (Spc.t3 true x y).sb _ _ _ (Sb.of_below hb) ht⟩
 case hops10 =>
  intro i o a' V hns hB ho hev hrd
  have his : i < 10 := by have := (Array.getElem?_eq_some_iff.1 ho).1; simpa using this
  have hSB : Sb W1 V := ⟨gr, HNO.out, hB⟩
  have hr0 := HR0.out.grown hB HGL.out.2
  have d0 := hr0.at_ (i := 0) rfl
  have d1 := hr0.at_ (i := 1) rfl
  have d2 := hr0.at_ (i := 2) rfl
  have hA := HA.out.sb hSB
  have hBB := HBB.out.sb hSB
  have hcase : i = 0 ∨ i = 1 ∨ i = 2 ∨ i = 3 ∨ i = 4 ∨ i = 5 ∨ i = 6 ∨ i = 7 ∨ i = 8 ∨ i = 9 := by omega
  rcases hcase with rfl | rfl | rfl | rfl | rfl | rfl | rfl | rfl | rfl | rfl
  ·simp at ho
   subst ho
   have r1 := hev 1 rfl
   simp [Act.eval] at r1
   refine ⟨nofun, fun _ _ => trivial, nofun, .inl ⟨.pointer (some ⟨g0, 0, none⟩), V, ?_, Below.refl _ _, fun t ht => by cases ht; rfl⟩⟩
   simp [execOp, Act.eval, go_sem, r1, d0, d1, d2]
  ·simp at ho
   subst ho
   have r3 : a'.eval (.tmp 3) = .pointer (some ⟨g0, 0, none⟩) := hrd 3 rfl rfl
   simp [Act.eval] at r3
   refine ⟨nofun, fun _ _ => trivial, nofun, .inl ⟨.bool true, V, ?_, Below.refl _ _, fun t ht => by cases ht; rfl⟩⟩
   simp [execOp, Act.eval, go_sem, r3, d0, d1, d2]
  ·simp at ho
   subst ho
   have r1 := hev 1 rfl
   simp [Act.eval] at r1
   refine ⟨nofun, fun _ _ => trivial, nofun, .inl ⟨.pointer (some ⟨g0, 1, none⟩), V, ?_, Below.refl _ _, fun t ht => by cases ht; rfl⟩⟩
   simp [execOp, Act.eval, go_sem, r1, d0, d1, d2]
  ·simp at ho
   subst ho
   have r5 : a'.eval (.tmp 5) = .pointer (some ⟨g0, 1, none⟩) := hrd 5 rfl rfl
   simp [Act.eval] at r5
   refine ⟨nofun, fun _ _ => trivial, nofun, .inl ⟨a, V, ?_, Below.refl _ _, fun t ht => by cases ht; rfl⟩⟩
   simp [execOp, Act.eval, go_sem, r5, d0, d1, d2]
  ·simp at ho
   subst ho
   have r6 : a'.eval (.tmp 6) = a := hrd 6 rfl rfl
   simp [Act.eval] at r6
   refine ⟨nofun, fun _ _ => trivial, nofun, .inr ⟨30, #[a], ?_, (callsIn_wide.2 (to_u V a x hA HX.out)).mono ?_⟩⟩
   ·simp [execOp, Act.eval, r6, resolve, invoke, Deferred.ofValue]
   ·rintro e w' ⟨v, rfl, hv, hB2⟩
    exact ⟨_, rfl, hB2, fun t ht => by cases ht; exact hv⟩
  ·simp at ho
   subst ho
   have r1 := hev 1 rfl
   simp [Act.eval] at r1
   refine ⟨nofun, fun _ _ => trivial, nofun, .inl ⟨.pointer (some ⟨g0, 2, none⟩), V, ?_, Below.refl _ _, fun t ht => by cases ht; rfl⟩⟩
   simp [execOp, Act.eval, go_sem, r1, d0, d1, d2]
  ·simp at ho
   subst ho
   have r8 : a'.eval (.tmp 8) = .pointer (some ⟨g0, 2, none⟩) := hrd 8 rfl rfl
   simp [Act.eval] at r8
   refine ⟨nofun, fun _ _ => trivial, nofun, .inl ⟨b, V, ?_, Below.refl _ _, fun t ht => by cases ht; rfl⟩⟩
   simp [execOp, Act.eval, go_sem, r8, d0, d1, d2]
  ·simp at ho
   subst ho
   have r9 : a'.eval (.tmp 9) = b := hrd 9 rfl rfl
   simp [Act.eval] at r9
   refine ⟨nofun, fun _ _ => trivial, nofun, .inr ⟨30, #[b], ?_, (callsIn_wide.2 (to_u V b y hBB HY.out)).mono ?_⟩⟩
   ·simp [execOp, Act.eval, r9, resolve, invoke, Deferred.ofValue]
   ·rintro e w' ⟨v, rfl, hv, hB2⟩
    exact ⟨_, rfl, hB2, fun t ht => by cases ht; exact hv⟩
  ·simp at ho
   subst ho
   have r4 : a'.eval (.tmp 4) = .bool true := hrd 4 rfl rfl
   simp [Act.eval] at r4
   have r7 : Nu V (a'.eval (.tmp 7)) (x) := hrd 7 rfl rfl
   have r10 : Nu V (a'.eval (.tmp 10)) (y) := hrd 10 rfl rfl
   obtain ⟨A8, n8, c8, h8⟩ := r7.sl
   rw [h8] at r7
   simp [Act.eval] at h8
   obtain ⟨A11, n11, c11, h11⟩ := r10.sl
   rw [h11] at r10
   simp [Act.eval] at h11
   refine ⟨nofun, fun _ _ => trivial, nofun, .inl ⟨.agg #[.bool true, .slice A8 n8 c8, .slice A11 n11 c11], V, ?_, Below.refl _ _, fun t ht => by cases ht; exact ⟨_, _, rfl, r7, r10⟩⟩⟩
   simp [execOp, Act.eval, go_sem, r4, h8, h11]
  ·simp at ho
   subst ho
   exact absurd rfl hns
 case hs10 =>
  intro o a' V hG hN hshp ho hev hrd
  simp at ho
  have hop : o.op = .store 26 (.tmp 2) (.tmp 11) := by subst ho; rfl
  have hds : o.dst = none := by subst ho; rfl
  have hrd98 : readsB o 11 = true := by subst ho; rfl
  have r98 : (Spc.t3 true x y).P (a'.eval (.tmp 11)) V := hrd 11 hrd98 (by rfl)
  have o4 := hev 2 rfl
  obtain ⟨v1, v2, he, q2, q3⟩ := r98
  obtain ⟨vs, hrv, hvl⟩ := hshp
  obtain ⟨A8, n8, c8, rfl⟩ := q2.sl
  obtain ⟨A11, n11, c11, rfl⟩ := q3.sl
  obtain ⟨V', hrun, hr', hg'⟩ := exec_store (P := Tryz.prog) (w := V) (o := o) (a := a') 26 3 Tryz.sizePt (.tmp 2) (.tmp 11) hop gr [.bool true, .slice A8 n8 c8, .slice A11 n11 c11] (by rw [o4]; rfl) he 26 vs hrv hvl rfl (ones3 rfl rfl rfl)
  refine ⟨(by intro c h; rw [hop] at h; cases h), fun _ _ => trivial, hds, V', hrun, hg', NoU.of_row hr' (noU3 nofun nofun nofun), ⟨_, hr', rfl⟩, .bool true, _, _, hr', ?_⟩
  have hsb : Sb V V' := ⟨gr, hN, hg'⟩
  exact ⟨_, _, rfl, q2.sb hsb, q3.sb hsb⟩
 case hend10 =>
  rintro vals V hG hN - ⟨v0, v1, v2, hr, ht⟩
  simp [wrote, Act.put]
  go_wp2_with fail
  refine ⟨rfl, _, results_pt rfl _ gr _ rfl hr rfl, _, rfl, ht, below_grown HB.out hG HGL.out.1 HB.out.size⟩
def sblk : Value → Option Nat
 | .slice (some a) _ _ => some a.block
 | _ => none
def FrV (V : World) (v : Value) : Prop := ∀ b, sblk v = some b → V.heap.size ≤ b
def LvV (V : World) (v : Value) : Prop := ∀ b, sblk v = some b → b < V.heap.size
def ApV (u v : Value) : Prop := ∀ b, sblk u = some b → sblk v ≠ some b
theorem ApV.of_new {V : World} {v u : Value} (h : FrV V v) (h' : LvV V u) : ApV v u := by
 intro b hb hu
 have := h b hb
 have := h' b hu
 omega
theorem ApV.of_old {V : World} {v u : Value} (h : FrV V v) (h' : LvV V u) : ApV u v := by
 intro b hb hu
 have := h b hu
 have := h' b hb
 omega
def TreeOkD (F : Fence) (n : Nat) (P : Program) (I : World → Prop) (St : World → World → Prop) (Pd : Nat → Value → World → Prop) (Pn : World → Prop) (fr : Value → Prop) (a' : Act) (V : World) (o : Oper) : Prop :=
 (∀ c, o.op ≠ .defer c) ∧ (∀ f, o.about P V a'.eval = some f → F.fn f) ∧
  ((∃ v V', ((execOp a'.eval o).run P V = .ok (.value v) V' ∨ (execOp a'.eval o).run P V = .ok .skip V' ∧ v = undef) ∧ I V' ∧ St V V' ∧ (∀ t, o.dst = some t → Pd t v V') ∧ (o.dst = none → Pn V') ∧ fr v) ∨
   ∃ f args, (execOp a'.eval o).run P V = .ok (.enter f args) V ∧ CallsIn F (n - 1) P f args V fun e w' => ∃ v, e = .returned v ∧ I w' ∧ St V w' ∧ (∀ t, o.dst = some t → Pd t v w') ∧ (o.dst = none → Pn w') ∧ fr v)
theorem wpIn_region_treeD {F : Fence} {n : Nat} {P : Program} {id : Nat} {ops : Array Oper} {Q : Exit → Act → World → Prop} {a : Act} {w : World} (hF : F.depth = none) (hm : P.follows .mixedOrders = true)
  (keys : List Nat) (hd : distinctB ops = true) (hdep : depsW ops keys [] = true) (hon : onlyB ops keys = true) (hord : orderedB ops = true) (hsz : keys.all (fun t => decide (t < a.tmps.size)) = true)
  (I : World → Prop) (hI : I w.drew) (St : Nat → World → World → Prop) (Pd : Nat → Value → World → Prop) (hmono : ∀ i V V', I V → I V' → St i V V' → ∀ t v, Pd t v V → Pd t v V')
  (Pn : Nat → World → Prop) (hmonon : ∀ i V V', I V → I V' → St i V V' → ∀ j, j ≠ i → Pn j V → Pn j V')
  (i1 i2 t1 t2 : Nat) (h12 : i1 ≠ i2) (ht1 : (ops[i1]?).bind (·.dst) = some t1) (ht2 : (ops[i2]?).bind (·.dst) = some t2) (hlv1 : ∀ v V, Pd t1 v V → LvV V v) (hlv2 : ∀ v V, Pd t2 v V → LvV V v)
  (hops : ∀ (i : Nat) (o : Oper) (a' : Act) (V : World), I V → ops[i]? = some o → (∀ t, keys.contains t = false → a'.eval (.tmp t) = a.eval (.tmp t)) → (∀ t, readsB o t = true → keys.contains t = true → Pd t (a'.eval (.tmp t)) V) → (keys.contains t1 = true → keys.contains t2 = true → readsB o t1 = true → readsB o t2 = true → ApV (a'.eval (.tmp t1)) (a'.eval (.tmp t2))) → TreeOkD F n P I (St i) Pd (Pn i) (fun v => i = i1 ∨ i = i2 → FrV V v) a' V o)
  (hend : ∀ (vals : Nat → Value) V, I V → (∀ (i t : Nat) (o : Oper), ops[i]? = some o → o.dst = some t → Pd t (vals i) V) → (∀ (i : Nat) (o : Oper), ops[i]? = some o → o.dst = none → Pn i V) →
   Q .normal { tmps := wrote ops vals (Array.replicate ops.size true) a.tmps ops.size, defers := a.defers } V) : (Code.region id ops true).wpIn F n P Q a w := by
 have hd' := distinct_of hd
 refine wpIn_region_relH hm hd' (fun b : Nat → Value => b) (fun b L V => I V ∧ (∀ (j t : Nat) (o : Oper), ops[j]? = some o → o.dst = some t → L.getD j false = true → Pd t (b j) V) ∧
  (∀ (j : Nat) (o : Oper), ops[j]? = some o → o.dst = none → L.getD j false = true → Pn j V) ∧ (L.getD i1 false = true → L.getD i2 false = true → ApV (b i1) (b i2))) (fun _ => undef) ⟨hI, ?_, ?_, ?_⟩ ?_ ?_ (acyclic_of hord)
 ·intro j t o _ _ hL
  rw [getD_rep] at hL
  cases hL
 ·intro j o _ _ hL
  rw [getD_rep] at hL
  cases hL
 ·intro hL
  rw [getD_rep] at hL
  cases hL
 ·rintro b L a' V ⟨hIV, hPV, hNV, hAV⟩ hLs hdf hcl hold hnew i hi o ho K hK
  obtain ⟨h1, o2, ho2, hde⟩ := mem_ready.1 hi
  obtain rfl : o = o2 := Option.some.inj (ho.symm.trans ho2)
  have hnl := unlisted h1
  obtain ⟨hg, hev, hrd⟩ := tree_reads hdep hon hsz hold hnew ho hde
  have hrd' : ∀ t, readsB o t = true → keys.contains t = true → Pd t (a'.eval (.tmp t)) V := by
   intro t h2 h3
   obtain ⟨j, oj, hj, hjd, hjL, e⟩ := hrd t h2 h3
   rw [e]
   exact hPV j t oj hj hjd hjL
  have hap : keys.contains t1 = true → keys.contains t2 = true → readsB o t1 = true → readsB o t2 = true → ApV (a'.eval (.tmp t1)) (a'.eval (.tmp t2)) := by
   intro k1 k2 r1 r2
   obtain ⟨j, oj, hj, hjd, hjL, e⟩ := hrd t1 r1 k1
   obtain ⟨j', oj', hj', hjd', hjL', e'⟩ := hrd t2 r2 k2
   rw [e, e']
   cases h1 : ops[i1]? with
   | none => rw [h1] at ht1; cases ht1
   | some o1 =>
    rw [h1] at ht1
    cases h2 : ops[i2]? with
    | none => rw [h2] at ht2; cases ht2
    | some o2 =>
     rw [h2] at ht2
     obtain rfl : j = i1 := hd' j i1 oj o1 t1 hj h1 hjd ht1
     obtain rfl : j' = i2 := hd' j' i2 oj' o2 t2 hj' h2 hjd' ht2
     exact hAV hjL hjL'
  obtain ⟨hdef, hab, hrun⟩ := hops i o a' V hIV ho hev hrd' hap
  have hnext : ∀ v V', I V' → St i V V' → (∀ t, o.dst = some t → Pd t v V') → (o.dst = none → Pn i V') → (i = i1 ∨ i = i2 → FrV V v) → K (a'.put o.dst v) V' := by
   intro v V' hI' hB hP hN hF
   have hk := hK (fun j => if j = i then v else b j) V' (fun j hj => by
    rw [if_neg]
    rintro rfl
    rw [hnl] at hj; cases hj) ⟨hI', fun j t oj hj hjd hjL => by
     by_cases hji : j = i
     ·subst hji
      obtain rfl : o = oj := Option.some.inj (ho.symm.trans hj)
      simp only [if_true]
      exact hP t hjd
     ·rw [getD_set_ne L (fun h => hji h.symm)] at hjL
      simp only [if_neg hji]
      exact hmono i V V' hIV hI' hB t _ (hPV j t oj hj hjd hjL), fun j oj hj hjd hjL => by
     by_cases hji : j = i
     ·subst hji
      obtain rfl : o = oj := Option.some.inj (ho.symm.trans hj)
      exact hN hjd
     ·rw [getD_set_ne L (fun h => hji h.symm)] at hjL
      exact hmonon i V V' hIV hI' hB j hji (hNV j oj hj hjd hjL), fun hL1 hL2 => by
     by_cases e1 : i1 = i
     ·subst e1
      rw [getD_set_ne L h12] at hL2
      simp only [if_true, if_neg (Ne.symm h12)]
      cases h2 : ops[i2]? with
      | none => rw [h2] at ht2; cases ht2
      | some o2 =>
       rw [h2] at ht2
       exact ApV.of_new (hF (.inl rfl)) (hlv2 (b i2) V (hPV i2 t2 o2 h2 ht2 hL2))
     ·by_cases e2 : i2 = i
      ·subst e2
       rw [getD_set_ne L (fun h => h12 h.symm)] at hL1
       simp only [if_true, if_neg h12]
       cases h1 : ops[i1]? with
       | none => rw [h1] at ht1; cases ht1
       | some o1 =>
        rw [h1] at ht1
        exact ApV.of_old (hF (.inr rfl)) (hlv1 (b i1) V (hPV i1 t1 o1 h1 ht1 hL1))
      ·rw [getD_set_ne L (fun h => e1 h.symm)] at hL1
       rw [getD_set_ne L (fun h => e2 h.symm)] at hL2
       simp only [if_neg e1, if_neg e2]
       exact hAV hL1 hL2⟩
   simpa using hk
  rcases hrun with ⟨v, V', hrun, hI', hB, hP, hN, hF'⟩ | ⟨f, args, hrun, hcall⟩
  ·rcases hrun with hrun | ⟨hrun, rfl⟩
   ·exact in_value ho hg hdef hab hrun (hnext v V' hI' hB hP hN hF')
   ·exact in_skip ho hg hdef hab hrun (hnext undef V' hI' hB hP hN hF')
  ·refine in_call_any ho hg hdef hF hab hrun (hcall.mono ?_)
   rintro e w' ⟨v, rfl, hI', hB, hP, hN, hF'⟩
   exact ⟨v, rfl, hnext v w' hI' hB hP hN hF'⟩
 ·rintro b L V ⟨hIV, hPV, hNV, -⟩ hL
  exact hend b V hIV (fun i t o hi hid => hPV i t o hi hid (hL i (Array.getElem?_eq_some_iff.1 hi).1)) fun i o hi hid => hNV i o hi hid (hL i (Array.getElem?_eq_some_iff.1 hi).1)
def OpOkD (F : Fence) (n : Nat) (P : Program) (L : List (Nat × Spc)) (fr : Value → Prop) (a' : Act) (V : World) (o : Oper) : Prop :=
 (∀ c, o.op ≠ .defer c) ∧ (∀ f, o.about P V a'.eval = some f → F.fn f) ∧ o.dst ≠ none ∧
  ((∃ v V', (execOp a'.eval o).run P V = .ok (.value v) V' ∧ Below V.heap.size V V' ∧ (∀ t, o.dst = some t → spcAt L t v V') ∧ fr v) ∨
   ∃ f args, (execOp a'.eval o).run P V = .ok (.enter f args) V ∧ CallsIn F (n - 1) P f args V fun e w' => ∃ v, e = .returned v ∧ Below V.heap.size V w' ∧ (∀ t, o.dst = some t → spcAt L t v w') ∧ fr v)
theorem wpIn_region_numD {F : Fence} {n : Nat} {P : Program} {id : Nat} {ops : Array Oper} {Q : Exit → Act → World → Prop} {a : Act} {w : World} (hF : F.depth = none) (hm : P.follows .mixedOrders = true)
  (L : List (Nat × Spc)) (hd : distinctB ops = true) (hdep : depsW ops (L.map (·.1)) [] = true) (hon : onlyB ops (L.map (·.1)) = true) (hord : orderedB ops = true) (hsz : (L.map (·.1)).all (fun t => decide (t < a.tmps.size)) = true)
  (gr s : Nat) (hs0 : ∃ o, ops[s]? = some o ∧ o.dst = none) (hgr : gr < w.heap.size) (hno : NoU w gr) (tr : TypeId) (nr : Nat) (hshp : Shp tr nr w gr) (Ps : World → Prop) (hPs : ∀ V V', gr < V.heap.size → Below V.heap.size V V' → Ps V → Ps V')
  (i1 i2 t1 t2 : Nat) (h12 : i1 ≠ i2) (ht1 : (ops[i1]?).bind (·.dst) = some t1) (ht2 : (ops[i2]?).bind (·.dst) = some t2) (hlv1 : ∀ v V, spcAt L t1 v V → LvV V v) (hlv2 : ∀ v V, spcAt L t2 v V → LvV V v) (hk1 : (L.map (·.1)).contains t1 = true) (hk2 : (L.map (·.1)).contains t2 = true)
  (hops : ∀ (i : Nat) (o : Oper) (a' : Act) (V : World), i ≠ s → w.grownBy V (some gr) → ops[i]? = some o → (∀ t, (L.map (·.1)).contains t = false → a'.eval (.tmp t) = a.eval (.tmp t)) → (∀ t, readsB o t = true → (L.map (·.1)).contains t = true → spcAt L t (a'.eval (.tmp t)) V) → (readsB o t1 = true → readsB o t2 = true → ApV (a'.eval (.tmp t1)) (a'.eval (.tmp t2))) → OpOkD F n P L (fun v => i = i1 ∨ i = i2 → FrV V v) a' V o)
  (hs : ∀ (o : Oper) (a' : Act) (V : World), w.grownBy V (some gr) → NoU V gr → Shp tr nr V gr → ops[s]? = some o → (∀ t, (L.map (·.1)).contains t = false → a'.eval (.tmp t) = a.eval (.tmp t)) → (∀ t, readsB o t = true → (L.map (·.1)).contains t = true → spcAt L t (a'.eval (.tmp t)) V) →
   (∀ c, o.op ≠ .defer c) ∧ (∀ f, o.about P V a'.eval = some f → F.fn f) ∧ o.dst = none ∧ ∃ V', (execOp a'.eval o).run P V = .ok .skip V' ∧ V.grownBy V' (some gr) ∧ NoU V' gr ∧ Shp tr nr V' gr ∧ Ps V')
  (hend : ∀ (vals : Nat → Value) V, w.grownBy V (some gr) → NoU V gr → (∀ (i t : Nat) (o : Oper), ops[i]? = some o → o.dst = some t → spcAt L t (vals i) V) → Ps V →
   Q .normal { tmps := wrote ops vals (Array.replicate ops.size true) a.tmps ops.size, defers := a.defers } V) : (Code.region id ops true).wpIn F n P Q a w := by
 have hgt : ∀ {A B C : World}, A.grownBy B (some gr) → B.grownBy C (some gr) → A.grownBy C (some gr) := fun h k =>
  ⟨k.os.trans h.os, k.tape.trans h.tape, k.output.trans h.output, Nat.le_trans h.size k.size, fun i hi hn => (k.block i (Nat.lt_of_lt_of_le hi h.size) hn).trans (h.block i hi hn)⟩
 have hbg : ∀ {A B : World}, Below A.heap.size A B → A.grownBy B (some gr) := fun h => ⟨h.os, h.tape, h.output, h.size, fun i hi _ => h.block i hi⟩
 refine wpIn_region_treeD hF hm (L.map (·.1)) hd hdep hon hord hsz (fun V => w.grownBy V (some gr) ∧ NoU V gr ∧ Shp tr nr V gr) ⟨hbg (below_drewN (Below.refl _ w) 1), hno, hshp⟩
  (fun i V V' => if i = s then V.grownBy V' (some gr) else Below V.heap.size V V') (spcAt L) ?_ (fun i V => i = s → Ps V) ?_ i1 i2 t1 t2 h12 ht1 ht2 hlv1 hlv2 ?_ ?_
 ·intro i V V' hI _ hb t v h
  refine h.sb ?_
  change (if i = s then _ else _) at hb
  by_cases e : i = s
  ·rw [if_pos e] at hb
   exact ⟨gr, hI.2.1, hb⟩
  ·rw [if_neg e] at hb
   exact Sb.of_below hb
 ·intro i V V' hI _ hb j hj h e
  change (if i = s then _ else _) at hb
  rw [if_neg (fun e' => hj (by rw [e, e']))] at hb
  exact hPs V V' (Nat.lt_of_lt_of_le hgr hI.1.size) hb (h e)
 ·intro i o a' V hI ho hev hrd hap
  have hgV := Nat.lt_of_lt_of_le hgr hI.1.size
  have hkeep : ∀ V', Below V.heap.size V V' → w.grownBy V' (some gr) ∧ NoU V' gr ∧ Shp tr nr V' gr := fun V' hB => ⟨hgt hI.1 (hbg hB), fun off x hx => hI.2.1 off x (by rw [← hx]; exact (hB.cell (p := ⟨gr, off, none⟩) hgV).symm), by obtain ⟨vs, h1, h2⟩ := hI.2.2; exact ⟨vs, h1.later hB, h2⟩⟩
  by_cases e : i = s
  ·subst e
   obtain ⟨h1, h2, h3, V', hr, hB, hN, hsh, hP⟩ := hs o a' V hI.1 hI.2.1 hI.2.2 ho hev hrd
   exact ⟨h1, h2, .inl ⟨undef, V', .inr ⟨hr, rfl⟩, ⟨hgt hI.1 hB, hN, hsh⟩, (by show (if i = i then _ else _); rw [if_pos rfl]; exact hB), (fun t ht => absurd ht (by rw [h3]; simp)), (fun _ _ => hP), fun hi => by
    exfalso
    obtain ⟨os, hos, hdn⟩ := hs0
    rcases hi with rfl | rfl
    ·rw [hos] at ht1; simp only [Option.bind_some] at ht1; rw [hdn] at ht1; cases ht1
    ·rw [hos] at ht2; simp only [Option.bind_some] at ht2; rw [hdn] at ht2; cases ht2⟩⟩
  ·obtain ⟨h1, h2, h3, h4⟩ := hops i o a' V e hI.1 ho hev hrd (hap hk1 hk2)
   refine ⟨h1, h2, ?_⟩
   rcases h4 with ⟨v, V', hr, hB, hP, hF'⟩ | ⟨f, args, hr, hc⟩
   ·exact .inl ⟨v, V', .inl hr, hkeep V' hB, (by show (if i = s then _ else _); rw [if_neg e]; exact hB), hP, (fun h => absurd h h3), hF'⟩
   ·refine .inr ⟨f, args, hr, hc.mono ?_⟩
    rintro e' w' ⟨v, rfl, hB, hP, hF'⟩
    exact ⟨v, rfl, hkeep w' hB, (by show (if i = s then _ else _); rw [if_neg e]; exact hB), hP, (fun h => absurd h h3), hF'⟩
 ·intro vals V hI hP hN
  obtain ⟨o, ho, hd'⟩ := hs0
  exact hend vals V hI.1 hI.2.1 hP (hN s o ho hd' rfl)
theorem Tryz.elem8 : Elem Tryz.prog 49 5 (.int .u8 0) 1 := ⟨Tryz.underlying49, by kernel_rfl, rfl, rfl, by decide⟩
theorem grow_zero (w : World) : Calls Tryz.prog 89 #[.slice none 0 0, .int .i64 0] w fun e w' => e = .returned (.slice none 0 0) ∧ w = w' := by
 go_enter Tryz.func89, Tryz.ntmps89
 go_wp2
 go_ret
 exact ⟨rfl, rfl⟩
theorem grow_any (w : World) (n : Nat) (hn0 : 0 < n) (hn : n ≤ 17592186044416) :
  Calls Tryz.prog 89 #[.slice none 0 0, .int .i64 (n : Int)] w fun e w' => ∃ v, e = .returned v ∧ w'.ownsRow w.heap.size 5 1 v 0 [] ∧ Below w.heap.size w w' := by
 have i1 : (0 : Int) < (n : Int) := by omega
 have i2 : (n : Int) ≤ 17592186044416 := by omega
 obtain ⟨i0, hi, hz0, hz1, hz2⟩ := info_parts Tryz.elem8.info
 have happ := Lib.run_append_nil_zeros (P := Tryz.prog) w 49 3 49 5 i0 (.int .u8 0) .i64 .i64 Tryz.underlying49 Tryz.underlying3 hi hz0 n hn0 (by omega) (by omega) (by rw [hz2]; omega)
 obtain ⟨cap, hcap⟩ : ∃ c, grownCap w n 0 5 = c := ⟨_, rfl⟩
 rw [hcap] at happ
 have hcapge : n ≤ cap := by rw [← hcap]; exact grownCap_ge w _ 0 _
 have hcaple : cap ≤ maxLen := by rw [← hcap]; exact grownCap_le_maxLen w _ 0 _ (by unfold maxLen; omega)
 have hcapm : cap ≤ 9223372036854775807 := by simpa [maxLen] using hcaple
 obtain ⟨Z, hZ⟩ : ∃ Z, Builtin.zeroCells (Value.int .u8 0).cells n ++ Builtin.zeroCells (Value.int .u8 0).cells (cap - n) = Z := ⟨_, rfl⟩
 rw [hZ] at happ
 have hZs : Z.size = cap := by rw [← hZ]; simp [size_zeroCells, Value.cells]; omega
 have hown : (w.drew.alloc (.cells Z 5)).ownsRow w.heap.size 5 1 (.slice (some ⟨w.heap.size, 0, none⟩) 0 cap) 0 [] := World.ownsRow_made w.drew Z cap (Nat.le_refl _) hcaple (by omega)
 have hbel : Below w.heap.size w (w.drew.alloc (.cells Z 5)) := ⟨rfl, rfl, rfl, by simp, fun k hk => Below.heap_alloc w _ k hk⟩
 have hcap3 : (cap : Int) ≤ 9223372036854775807 := by omega
 have HOWN := hid hown
 have HBEL := hid hbel
 clear hi hz0 hz1 hz2 hcap hZ hZs hown hbel hcaple hcapge
 obtain ⟨g, hg⟩ : ∃ g, w.heap.size = g := ⟨_, rfl⟩
 have HG := hid hg
 have HN0 := hid hn0
 clear hn0
 go_enter Tryz.func89, Tryz.ntmps89
 go_wp2_with (at_builtin; refine Lib.wpList_append_run _ rfl _ _ _ _ rfl _ _ rfl rfl _ _ happ ?_)
 go_ret
 have hg' := HG.out
 subst hg'
 exact ⟨_, rfl, HOWN.out, HBEL.out⟩
theorem grow_both (w : World) (n : Nat) (hn : n ≤ 17592186044416) :
  Calls Tryz.prog 89 #[.slice none 0 0, .int .i64 (n : Int)] w fun e w' => ∃ v, e = .returned v ∧ w'.ownsRow w.heap.size 5 1 v 0 [] ∧ Below w.heap.size w w' := by
 rcases Nat.eq_zero_or_pos n with rfl | h
 ·refine (grow_zero w).mono ?_
  rintro e w' ⟨rfl, rfl⟩
  exact ⟨_, rfl, ⟨rfl, .inl ⟨rfl, rfl⟩⟩, Below.refl _ _⟩
 ·exact grow_any w n h hn
theorem own_keep {w w' : World} {base : Nat} {e : TypeId} {v : Value} {n : Nat} {vs : List Value} (h : w.ownsRow base e 1 v n vs) (hk : ∀ q, v.ownBlock = some q → w'.heap[q]? = w.heap[q]?) : w'.ownsRow base e 1 v n vs :=
 ⟨h.1, h.2.imp id (fun ⟨g, cap, cur, hv, hb, hh, r⟩ => ⟨g, cap, cur, hv, hb, (hk g (by rw [hv]; rfl)).trans hh, r⟩)⟩
theorem own_form0 {w : World} {base : Nat} {e : TypeId} {v : Value} {n : Nat} {xs : List Value} (h : w.ownsRow base e 1 v n xs) (hn : 0 < n) : ∃ g c, v = .slice (some ⟨g, 0, none⟩) n c ∧ base ≤ g ∧ SlV w w.heap.size (some ⟨g, 0, none⟩) n c xs := by
 obtain ⟨A, c, rfl, h1, h2, h3⟩ := SlV.of_own h
 rcases h.2 with ⟨e, h4⟩ | ⟨g, cap, cur, e, h4, _⟩
 ·omega
 ·injection e with e1 e2 e3
  subst e1
  exact ⟨g, c, rfl, h4, h1⟩
theorem own_base {w : World} {base b0 : Nat} {e : TypeId} {v : Value} {n : Nat} {xs : List Value} (h : w.ownsRow base e 1 v n xs) (hb : b0 ≤ base) : w.ownsRow b0 e 1 v n xs :=
 ⟨h.1, h.2.imp id (fun ⟨g, cap, cur, h1, h2, h3⟩ => ⟨g, cap, cur, h1, Nat.le_trans hb h2, h3⟩)⟩
theorem LvV.sb {V V' : World} {v : Value} (h : LvV V v) (hb : Sb V V') : LvV V' v := by
 obtain ⟨g, -, hg⟩ := hb
 intro b hv
 exact Nat.lt_of_lt_of_le (h b hv) hg.size
def NuO (N : Nat) (V : World) (v : Value) (k : Nat) : Prop := Nu V v k ∧ LvV V v ∧ (0 < k → ∃ n xs, 0 < n ∧ Nm b64 xs k ∧ V.ownsRow N 63 1 v n (xs.map U))
theorem NuO.base {N M : Nat} {V : World} {v : Value} {k : Nat} (h : NuO N V v k) (hM : M ≤ N) : NuO M V v k :=
 ⟨h.1, h.2.1, fun hk => by obtain ⟨n, xs, h1, h2, h3⟩ := h.2.2 hk; exact ⟨n, xs, h1, h2, own_base h3 hM⟩⟩
theorem NuO.sb {N : Nat} {V V' : World} {v : Value} {k : Nat} (h : NuO N V v k) (hb : Sb V V') : NuO N V' v k := by
 refine ⟨h.1.sb hb, h.2.1.sb hb, fun hk => ?_⟩
 obtain ⟨n, xs, h1, h2, h3⟩ := h.2.2 hk
 refine ⟨n, xs, h1, h2, own_keep h3 fun q hq => ?_⟩
 obtain ⟨g, hno, hg⟩ := hb
 refine hg.block q (h3.lt q hq).2 fun e => ?_
 injection e with e
 subst e
 obtain ⟨g1, c, rfl, h4, h5⟩ := own_form0 h3 h1
 have hq' : g1 = q := by simpa [Value.ownBlock] using hq
 subst hq'
 cases xs with
 | nil =>
  have := h3.1
  simp at this
  omega
 | cons x xs =>
  obtain ⟨b', off', e', -, hc⟩ := h5.2.2.2 (by simp)
  cases e'
  exact hno 0 x (hc 0 (U x) rfl)
def Spc.nul (k : Nat) : Spc := ⟨fun v V => Nu V v k ∧ LvV V v, fun _ _ _ hb h => ⟨h.1.sb hb, h.2.sb hb⟩⟩
def Spc.nuo (N k : Nat) : Spc := ⟨fun v V => NuO N V v k, fun _ _ _ hb h => h.sb hb⟩
def Spc.t3o (N x y : Nat) : Spc := ⟨fun v V => ∃ a b, v = .agg #[.bool false, a, b] ∧ Nu V a x ∧ LvV V a ∧ NuO N V b y ∧ ApV a b, fun v V V' hb ⟨a, b, e, h1, h2, h3, h4⟩ => ⟨a, b, e, h1.sb hb, h2.sb hb, h3.sb hb, h4⟩⟩
theorem to_own (w : World) (B : Nat) (hB : B ≤ w.heap.size) (A : Option Addr) (n c : Nat) (ds : List Nat) (hs : Sl w B A n c ds) (N : Nat) (hN : Nm b32 ds N) (hn : n ≤ 1000000000) :
  Calls Tryz.prog 30 #[.slice A n c] w fun e w' => ∃ n xs v, e = .returned v ∧ Nm b64 xs N ∧ w'.ownsRow w.heap.size 63 1 v n (xs.map U) ∧ Below w.heap.size w w' := by
 have hlc := hs.cap
 have hm := hs.max
 have HL := hid hs.len
 have hd := hN.1
 go_enter Tryz.func30, Tryz.ntmps30
 go_wp2
 go_loopw [3, 4] (fun v i wr => ∃ j k ys, j = 2 * k ∧ j ≤ n + 1 ∧ i = .int .i64 (j : Nat) ∧ wr.ownsRow w.heap.size 63 1 v k (ys.map U) ∧ Below w.heap.size w wr ∧ ys.length = k ∧ Dg b64 ys ∧ V b64 ys = V b32 (ds.take (2 * k))) (fun _ i _ => n + 1 - (intOf i).toNat)
 case atStart => exact ⟨0, 0, [], rfl, Nat.zero_le _, rfl, World.ownsRow_nil _ _ _ _, Below.refl _ _, rfl, (fun x hx => by cases hx), rfl⟩
 case round =>
  obtain ⟨j, k, ys, hj, hjn, rfl, hown, hb, hyl, hdy, hv⟩ := hrel
  have hkj : k ≤ j := by omega
  have HJ := hid hj
  have HYL := hid hyl
  have HV := hid hv
  clear hyl hv hj
  by_cases hlt : j < n
  ·have hsr := hs.below (hb.mono hB)
   obtain ⟨b, off, x, rfl, hbB, hx, hc⟩ := hsr.at_ hlt
   have hxl : (x : Int) < 4294967296 := by have := lt32.1 (hd.get hx); omega
   have HX := hid hx
   clear hx
   by_cases hlt2 : j + 1 < n
   ·obtain ⟨b', off', y, he, hbB', hy, hc'⟩ := hsr.at_ hlt2
    simp only [Option.some.injEq, Addr.mk.injEq, and_true] at he
    obtain ⟨rfl, rfl⟩ := he
    have hyl : (y : Int) < 4294967296 := by have := lt32.1 (hd.get hy); omega
    have HY := hid hy
    clear hy
    have hl3 : (j : Int) + 1 < n := by omega
    go_wp2_with (at_builtin; refine wl_append_one rfl _ _ 23 Tryz.underlying23 rfl w.heap.size _ k ys rfl (hown.alloc _) ⟨wr.heap.size, 0, none⟩ 1 (x + y * b32) rfl (by simp [b32]) (by omega) (by have := hb.size; simp; omega) ?_; intro v' w1 hown' hk')
    go_wp2
    go_roundw
    case rel => exact ⟨j + 2, k + 1, ys ++ [x + y * b32], by have := HJ.out; omega, by omega, by go_num, hown', hk' _ _ (hb.alloc hb.size _) (Nat.le_refl _), by simp [HYL.out], hdy.append (fun z hz => by simp at hz; subst hz; rw [lt64]; unfold b32; omega), to_pair HYL.out HV.out (by rw [← HJ.out]; exact HX.out) (by rw [← HJ.out]; exact HY.out)⟩
    case measure => simp [intOf]; omega
   ·have hl3 : ¬ (j : Int) + 1 < n := by omega
    go_wp2_with (at_builtin; refine wl_append_one rfl _ _ 23 Tryz.underlying23 rfl w.heap.size _ k ys rfl (hown.alloc _) ⟨wr.heap.size, 0, none⟩ 1 x rfl (by simp) (by omega) (by have := hb.size; simp; omega) ?_; intro v' w1 hown' hk')
    go_wp2
    go_roundw
    case rel => exact ⟨j + 2, k + 1, ys ++ [x], by have := HJ.out; omega, by omega, by go_num, hown', hk' _ _ (hb.alloc hb.size _) (Nat.le_refl _), by simp [HYL.out], hdy.append (fun z hz => by simp at hz; subst hz; rw [lt64]; omega), to_one HYL.out HV.out (by rw [← HJ.out]; exact HX.out) (by rw [← HJ.out, ← HL.out]; omega)⟩
    case measure => simp [intOf]; omega
  ·obtain ⟨A', c', rfl, h1⟩ := Sl.of_own hown
   go_wp2
   go_ret
   exact ⟨_, ys, _, rfl, to_end HYL.out hdy HV.out (by rw [← HJ.out, ← HL.out]; omega) (by rw [← HJ.out, ← HL.out]; omega) hN, hown, hb⟩
theorem to_uo (w : World) (a : Value) (x : Nat) (h : Nb w a x) (hx : x < b64 ^ 64) : Calls Tryz.prog 30 #[a] w fun e w' => ∃ v, e = .returned v ∧ NuO w.heap.size w' v x ∧ FrV w v ∧ Below w.heap.size w w' := by
 obtain ⟨xs, A, n, c, rfl, hs, hn, hl⟩ := h
 refine (to_own w _ (Nat.le_refl _) A n c xs hs x hn (by omega)).mono ?_
 rintro e w' ⟨m, ys, v, rfl, hy, hown, hb⟩
 obtain ⟨A', c', e1, hs'⟩ := Sl.of_own hown
 have hbl : ∀ b, sblk v = some b → w.heap.size ≤ b ∧ b < w'.heap.size := by
  intro b hv
  refine hown.lt b ?_
  rw [e1] at hv ⊢
  cases A' with
  | none => cases hv
  | some a => simpa [sblk, Value.ownBlock] using hv
 have hnu : Nu w' v x := by rw [e1]; exact Nu.of hs' hy hx
 refine ⟨v, rfl, ⟨hnu, fun b hv => (hbl b hv).2, fun hk => ⟨m, ys, ?_, hy, hown⟩⟩, fun b hv => (hbl b hv).1, hb⟩
 apply Nat.pos_of_ne_zero
 rintro rfl
 have h0 : ys = [] := List.eq_nil_of_length_eq_zero (by simpa using hown.1)
 rw [h0] at hy
 have := hy.2.2
 simp [V] at this
 omega
theorem rTo9_own (w : World) (a b : Value) (x y : Nat) (h1 : Nb w a x) (h2 : Nb w b y) (hx : x < b64 ^ 64) (hy : y < b64 ^ 64) :
  Calls Tryz.prog 36 #[.agg #[.bool false, a, b]] w fun e w' => ∃ v, e = .returned v ∧ (Spc.t3o w.heap.size x y).P v w' ∧ Below w.heap.size w w' := by
 have hmx : Tryz.prog.follows .mixedOrders = true := by kernel_rfl
 obtain ⟨W0, e0, r0, b0, s0⟩ := newS w 33 [.bool false, a, b] _ rfl
 obtain ⟨W1, e1, r1, b1, s1⟩ := newS W0 26 [.bool false, .slice none 0 0, .slice none 0 0] _ rfl
 obtain ⟨g0, hg0⟩ : ∃ g, w.heap.size = g := ⟨_, rfl⟩
 obtain ⟨gr, hgr⟩ : ∃ g, W0.heap.size = g := ⟨_, rfl⟩
 have hbw := b0.trans (b1.mono b0.size)
 have HGL := hid (show w.heap.size ≤ gr ∧ g0 ≠ gr by omega)
 rw [hg0] at r0
 rw [hgr] at r1
 have HB := hid hbw
 have HR0 := hid (r0.later b1)
 have HRR := hid r1
 have HA := hid (h1.later hbw)
 have HBB := hid (h2.later hbw)
 have HX := hid hx
 have HY := hid hy
 have hno : NoU W1 gr := NoU.of_row HRR.out (noU3 nofun nofun nofun)
 have HNO := hid hno
 clear hno h1 h2 b0 b1 s0 s1 hbw r0 r1 hx hy
 obtain ⟨N, hN⟩ : ∃ N, w.heap.size = N := ⟨_, rfl⟩
 have HN := hid hN
 clear hN
 go_enter Tryz.func36, Tryz.ntmps36
 go_wp2_with fail
 refine (wpIn_wide (n := 9)).1 (wpIn_region_numD rfl hmx [(3, .val (.pointer (some ⟨g0, 0, none⟩))), (4, .val (.bool false)), (5, .val (.pointer (some ⟨g0, 1, none⟩))), (6, .val (a)), (7, Spc.nul x), (8, .val (.pointer (some ⟨g0, 2, none⟩))), (9, .val (b)), (10, Spc.nuo N y), (11, Spc.t3o N x y)] (by kernel_rfl) (by kernel_rfl) (by kernel_rfl) (by kernel_rfl) (by rfl) gr 9 ⟨_, rfl, rfl⟩ (HRR.out.lt) HNO.out 26 3 ⟨_, HRR.out, rfl⟩ (fun V => ∃ v0 v1 v2, RowV 26 V gr [v0, v1, v2] ∧ (Spc.t3o N x y).P (.agg #[v0, v1, v2]) V) ?hPs 4 7 7 10 (by decide) rfl rfl (fun v V h => h.2) (fun v V h => h.2.1) (by rfl) (by rfl) ?hops10 ?hs10 ?hend10)
 case hPs =>
  rintro V V' hlt hb ⟨v0, v1, v2, hr, ht⟩
  exact ⟨v0, v1, v2, hr.later hb, (Spc.t3o N x y).sb _ _ _ (Sb.of_below hb) ht⟩
 case hops10 =>
  intro i o a' V hns hB ho hev hrd hap
  have his : i < 10 := by have := (Array.getElem?_eq_some_iff.1 ho).1; simpa using this
  have hSB : Sb W1 V := ⟨gr, HNO.out, hB⟩
  have hr0 := HR0.out.grown hB HGL.out.2
  have d0 := hr0.at_ (i := 0) rfl
  have d1 := hr0.at_ (i := 1) rfl
  have d2 := hr0.at_ (i := 2) rfl
  have hA := HA.out.sb hSB
  have hBB := HBB.out.sb hSB
  have hcase : i = 0 ∨ i = 1 ∨ i = 2 ∨ i = 3 ∨ i = 4 ∨ i = 5 ∨ i = 6 ∨ i = 7 ∨ i = 8 ∨ i = 9 := by omega
  rcases hcase with rfl | rfl | rfl | rfl | rfl | rfl | rfl | rfl | rfl | rfl
  ·simp at ho
   subst ho
   have r1 := hev 1 rfl
   simp [Act.eval] at r1
   refine ⟨nofun, fun _ _ => trivial, nofun, .inl ⟨.pointer (some ⟨g0, 0, none⟩), V, ?_, Below.refl _ _, (fun t ht => by cases ht; rfl), fun hi => by omega⟩⟩
   simp [execOp, Act.eval, go_sem, r1, d0, d1, d2]
  ·simp at ho
   subst ho
   have r3 : a'.eval (.tmp 3) = .pointer (some ⟨g0, 0, none⟩) := hrd 3 rfl rfl
   simp [Act.eval] at r3
   refine ⟨nofun, fun _ _ => trivial, nofun, .inl ⟨.bool false, V, ?_, Below.refl _ _, (fun t ht => by cases ht; rfl), fun hi => by omega⟩⟩
   simp [execOp, Act.eval, go_sem, r3, d0, d1, d2]
  ·simp at ho
   subst ho
   have r1 := hev 1 rfl
   simp [Act.eval] at r1
   refine ⟨nofun, fun _ _ => trivial, nofun, .inl ⟨.pointer (some ⟨g0, 1, none⟩), V, ?_, Below.refl _ _, (fun t ht => by cases ht; rfl), fun hi => by omega⟩⟩
   simp [execOp, Act.eval, go_sem, r1, d0, d1, d2]
  ·simp at ho
   subst ho
   have r5 : a'.eval (.tmp 5) = .pointer (some ⟨g0, 1, none⟩) := hrd 5 rfl rfl
   simp [Act.eval] at r5
   refine ⟨nofun, fun _ _ => trivial, nofun, .inl ⟨a, V, ?_, Below.refl _ _, (fun t ht => by cases ht; rfl), fun hi => by omega⟩⟩
   simp [execOp, Act.eval, go_sem, r5, d0, d1, d2]
  ·simp at ho
   subst ho
   have r6 : a'.eval (.tmp 6) = a := hrd 6 rfl rfl
   simp [Act.eval] at r6
   refine ⟨nofun, fun _ _ => trivial, nofun, .inr ⟨30, #[a], ?_, (callsIn_wide.2 (to_uo V a x hA HX.out)).mono ?_⟩⟩
   ·simp [execOp, Act.eval, r6, resolve, invoke, Deferred.ofValue]
   ·rintro e w' ⟨v, rfl, hv, hfr, hB2⟩
    exact ⟨_, rfl, hB2, (fun t ht => by cases ht; exact ⟨hv.1, hv.2.1⟩), fun _ => hfr⟩
  ·simp at ho
   subst ho
   have r1 := hev 1 rfl
   simp [Act.eval] at r1
   refine ⟨nofun, fun _ _ => trivial, nofun, .inl ⟨.pointer (some ⟨g0, 2, none⟩), V, ?_, Below.refl _ _, (fun t ht => by cases ht; rfl), fun hi => by omega⟩⟩
   simp [execOp, Act.eval, go_sem, r1, d0, d1, d2]
  ·simp at ho
   subst ho
   have r8 : a'.eval (.tmp 8) = .pointer (some ⟨g0, 2, none⟩) := hrd 8 rfl rfl
   simp [Act.eval] at r8
   refine ⟨nofun, fun _ _ => trivial, nofun, .inl ⟨b, V, ?_, Below.refl _ _, (fun t ht => by cases ht; rfl), fun hi => by omega⟩⟩
   simp [execOp, Act.eval, go_sem, r8, d0, d1, d2]
  ·simp at ho
   subst ho
   have r9 : a'.eval (.tmp 9) = b := hrd 9 rfl rfl
   simp [Act.eval] at r9
   refine ⟨nofun, fun _ _ => trivial, nofun, .inr ⟨30, #[b], ?_, (callsIn_wide.2 (to_uo V b y hBB HY.out)).mono ?_⟩⟩
   ·simp [execOp, Act.eval, r9, resolve, invoke, Deferred.ofValue]
   ·rintro e w' ⟨v, rfl, hv, hfr, hB2⟩
    exact ⟨_, rfl, hB2, (fun t ht => by cases ht; exact hv.base (by have h1 := HB.out.size; have h2 := hB.size; have h3 := HN.out; omega)), fun _ => hfr⟩
  ·simp at ho
   subst ho
   have r4 : a'.eval (.tmp 4) = .bool false := hrd 4 rfl rfl
   simp [Act.eval] at r4
   have r7 : Nu V (a'.eval (.tmp 7)) (x) ∧ LvV V (a'.eval (.tmp 7)) := hrd 7 rfl rfl
   have r10 : NuO N V (a'.eval (.tmp 10)) (y) := hrd 10 rfl rfl
   have hap' := hap (by rfl) (by rfl)
   obtain ⟨A8, n8, c8, h8⟩ := r7.1.sl
   rw [h8] at r7 hap'
   simp [Act.eval] at h8
   obtain ⟨A11, n11, c11, h11⟩ := r10.1.sl
   rw [h11] at r10 hap'
   simp [Act.eval] at h11
   refine ⟨nofun, fun _ _ => trivial, nofun, .inl ⟨.agg #[.bool false, .slice A8 n8 c8, .slice A11 n11 c11], V, ?_, Below.refl _ _, (fun t ht => by cases ht; exact ⟨_, _, rfl, r7.1, r7.2, r10, hap'⟩), fun hi => by omega⟩⟩
   simp [execOp, Act.eval, go_sem, r4, h8, h11]
  ·simp at ho
   subst ho
   exact absurd rfl hns
 case hs10 =>
  intro o a' V hG hN hshp ho hev hrd
  simp at ho
  have hop : o.op = .store 26 (.tmp 2) (.tmp 11) := by subst ho; rfl
  have hds : o.dst = none := by subst ho; rfl
  have hrd98 : readsB o 11 = true := by subst ho; rfl
  have r98 : (Spc.t3o N x y).P (a'.eval (.tmp 11)) V := hrd 11 hrd98 (by rfl)
  have o4 := hev 2 rfl
  obtain ⟨v1, v2, he, q2, q4, q3, q5⟩ := r98
  obtain ⟨vs, hrv, hvl⟩ := hshp
  obtain ⟨A8, n8, c8, rfl⟩ := q2.sl
  obtain ⟨A11, n11, c11, rfl⟩ := q3.1.sl
  obtain ⟨V', hrun, hr', hg'⟩ := exec_store (P := Tryz.prog) (w := V) (o := o) (a := a') 26 3 Tryz.sizePt (.tmp 2) (.tmp 11) hop gr [.bool false, .slice A8 n8 c8, .slice A11 n11 c11] (by rw [o4]; rfl) he 26 vs hrv hvl rfl (ones3 rfl rfl rfl)
  refine ⟨(by intro c h; rw [hop] at h; cases h), fun _ _ => trivial, hds, V', hrun, hg', NoU.of_row hr' (noU3 nofun nofun nofun), ⟨_, hr', rfl⟩, .bool false, _, _, hr', ?_⟩
  have hsb : Sb V V' := ⟨gr, hN, hg'⟩
  exact ⟨_, _, rfl, q2.sb hsb, q4.sb hsb, q3.sb hsb, q5⟩
 case hend10 =>
  rintro vals V hG hN - ⟨v0, v1, v2, hr, ht⟩
  simp [wrote, Act.put]
  go_wp2_with fail
  refine ⟨rfl, _, results_pt rfl _ gr _ rfl hr rfl, _, rfl, (by rw [HN.out]; exact ht), below_grown HB.out hG HGL.out.1 HB.out.size⟩
end Go.Proofs.YtbejcollbkeedaaGreat
namespace Go.Proofs.YtbejcollbkeedaaGreat
open Go.RowKit
section
variable {F : Fence} {n : Nat} {P : Program} {ops : Array Oper} {Q : Exit → Act → World → Prop} {a : Act} {w w' : World} {rest : List Oper} {o : Oper}
theorem wpListIn_skips (hg : o.guard = none) (hdf : ∀ c, o.op ≠ .defer c) (hab : ∀ f, o.about P w a.eval = some f → F.fn f) (hrun : (execOp a.eval o).run P w = .ok .skip w') (h : wpListIn F n P ops Q rest (a.put o.dst undef) w') : wpListIn F n P ops Q (o :: rest) a w :=
 wpListIn_plain hg fun K hK => by
  unfold Oper.wpIn
  refine ⟨hab, ?_⟩
  rw [Oper.semAt_plain F _ _ hdf, hrun]
  exact hK _ _ h
end
end Go.Proofs.YtbejcollbkeedaaGreat
