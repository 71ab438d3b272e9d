/- Parts of one proof, joined: RvD, RvE. -/
import Derived.Test.YtbejcollbkeedaaGreatPileM8
set_option linter.unusedVariables false
set_option linter.unusedSimpArgs false
set_option linter.unusedSectionVars false
set_option maxRecDepth 100000
set_option maxHeartbeats 8000000
open Go.Lib (hid)
namespace Go.Proofs.YtbejcollbkeedaaGreat
open Go.RowKit
def mulP (p x y : Nat) : Nat := x * y % p
def subP (p x y : Nat) : Nat := (x + p - y) % p
def Bp (p : Nat) : Prop := 0 < p ∧ 8 < p ∧ p + p < b32 ^ 4096
theorem mside {p x y : Nat} (h : Bp p) (hx : x < p) (hy : y < p) : 0 < p ∧ x + p < b32 ^ 4096 ∧ y ≤ x + p := ⟨h.1, Nat.lt_of_le_of_lt (Nat.add_le_add_right (Nat.le_of_lt hx) p) h.2.2, by omega⟩
theorem aside {p x y : Nat} (h : Bp p) (hx : x < p) (hy : y ≤ p) : x + y < b32 ^ 4096 := Nat.lt_of_le_of_lt (Nat.add_le_add (Nat.le_of_lt hx) hy) h.2.2
def onR (p b x y : Nat) : Prop := mulP p y y = (subP p (mulP p (mulP p x x) x) (mulP p 3 x) + b) % p
instance (p b x y : Nat) : Decidable (onR p b x y) := by unfold onR; infer_instance
theorem rOn9_some (w : World) (vc a b : Value) (D : Crv) (x y : Nat) (hc : Cr w vc D) (ha : Nb w a x) (hb : Nb w b y) (hp : Bp D.p) (hbd : D.b < D.p) (hsz : ¬ ((D.size : Int) = 0)) :
  Calls Tryz.prog 15 #[vc, .agg #[.bool false, a, b]] w fun e w' => RetV w (.bool (decide (x < D.p ∧ y < D.p ∧ onR D.p D.b x y))) e w' := by
 obtain ⟨vp, vn, vb, vx, vy, rfl, kp, kb⟩ := hc.pr
 have hmx : Tryz.prog.follows .mixedOrders = true := by kernel_rfl
 obtain ⟨W0, e0, r0, b0, s0⟩ := newS w 30 [vp, vn, vb, vx, vy, .int .i64 (D.size : Int)] _ rfl
 obtain ⟨W1, e1, r1, b1, s1⟩ := newS W0 33 [.bool false, a, b] _ rfl
 obtain ⟨g0, hg0⟩ : ∃ g, w.heap.size = g := ⟨_, rfl⟩
 obtain ⟨g1, hg1⟩ : ∃ g, W0.heap.size = g := ⟨_, rfl⟩
 have hbw := b0.trans (b1.mono b0.size)
 rw [hg0] at r0
 rw [hg1] at r1
 have r01 := r0.later b1
 have HB := hid hbw
 have HR0 := hid r01
 have HR1 := hid r1
 have HCR := hid (hc.later hbw)
 have HKP := hid (kp.later hbw)
 have HKB := hid (kb.later hbw)
 have HA := hid (ha.later hbw)
 have HBB := hid (hb.later hbw)
 have HP := hid hp
 have HBD := hid hbd
 have c0 := r01.at_ (i := 0) rfl
 have c5 := r01.at_ (i := 5) rfl
 have d0 := r1.at_ (i := 0) rfl
 have d1 := r1.at_ (i := 1) rfl
 have HC := hid (rcmp_b W1 a vp x D.p HA.out HKP.out)
 clear b0 b1 s0 s1 hbw r0 r1 r01 hc kp kb ha hb hp hbd
 go_enter Tryz.func15, Tryz.ntmps15
 go_wp2_with fail
 refine HC.out.mono ?_
 rintro e w2 ⟨rfl, hb2⟩
 replace HR0 := hid (HR0.out.later hb2)
 replace HR1 := hid (HR1.out.later hb2)
 replace HCR := hid (HCR.out.later hb2)
 replace HKP := hid (HKP.out.later hb2)
 replace HKB := hid (HKB.out.later hb2)
 replace HA := hid (HA.out.later hb2)
 replace HBB := hid (HBB.out.later hb2)
 replace HB := hid (HB.out.trans (hb2.mono HB.out.size))
 clear hb2 HC c0 c5 d0 d1 hsz
 by_cases hx : D.p ≤ x
 ·have hn := ncmpGe hx
  have hdec : decide (x < D.p ∧ y < D.p ∧ onR D.p D.b x y) = false := decide_eq_false (fun h => by have := h.1; omega)
  have HD := hid hdec
  clear hx hdec
  go_wp2
  go_ret
  rw [HD.out]
  exact ⟨rfl, HB.out⟩
 have hn := ncmpLt (show x < D.p by omega)
 have HX := hid (show x < D.p by omega)
 have c0 := HR0.out.at_ (i := 0) rfl
 have d2 := HR1.out.at_ (i := 2) rfl
 have HC := hid (rcmp_b w2 b vp y D.p HBB.out HKP.out)
 clear hx
 go_wp2_with fail
 refine HC.out.mono ?_
 rintro e w3 ⟨rfl, hb3⟩
 replace HR0 := hid (HR0.out.later hb3)
 replace HR1 := hid (HR1.out.later hb3)
 replace HCR := hid (HCR.out.later hb3)
 replace HKP := hid (HKP.out.later hb3)
 replace HKB := hid (HKB.out.later hb3)
 replace HA := hid (HA.out.later hb3)
 replace HBB := hid (HBB.out.later hb3)
 replace HB := hid (HB.out.trans (hb3.mono HB.out.size))
 clear hb3 HC c0 d2
 by_cases hy : D.p ≤ y
 ·have hn2 := ncmpGe hy
  have hdec : decide (x < D.p ∧ y < D.p ∧ onR D.p D.b x y) = false := decide_eq_false (fun h => by have := h.2.1; omega)
  have HD := hid hdec
  clear hy hdec
  go_wp2
  go_ret
  rw [HD.out]
  exact ⟨rfl, HB.out⟩
 have hn2 := ncmpLt (show y < D.p by omega)
 have HY := hid (show y < D.p by omega)
 clear hy
 go_wp2_with fail
 refine (wpIn_wide (n := 9)).1 (wpIn_region_num0 rfl hmx [(27, .val (.agg #[vp, vn, vb, vx, vy, .int .i64 (D.size : Int)])), (28, .val (.agg #[vp, vn, vb, vx, vy, .int .i64 (D.size : Int)])), (29, .val (.pointer (some ⟨g1, 1, none⟩))), (30, .val (a)), (31, .val (.pointer (some ⟨g1, 1, none⟩))), (32, .val (a)), (33, .nb (mulP D.p (x) (x))), (34, .val (.pointer (some ⟨g1, 1, none⟩))), (35, .val (a)), (36, .nb (mulP D.p (mulP D.p (x) (x)) (x))), (5, .nb (mulP D.p (mulP D.p (x) (x)) (x)))] (by kernel_rfl) (by kernel_rfl) (by kernel_rfl) (by kernel_rfl) (by rfl) ?hopsa ?henda)
 case hopsa =>
  intro i o a' V hB ho hev hrd
  have his : i < 11 := by have := (Array.getElem?_eq_some_iff.1 ho).1; simpa using this
  have hr0 := HR0.out.later hB
  have hr1 := HR1.out.later hB
  have c0 := hr0.at_ (i := 0) rfl
  have c2 := hr0.at_ (i := 2) rfl
  have d1 := hr1.at_ (i := 1) rfl
  have d2 := hr1.at_ (i := 2) rfl
  have hcr := HCR.out.later hB
  have hkp := HKP.out.later hB
  have hkb := HKB.out.later hB
  have hA := HA.out.later hB
  have hBB := HBB.out.later hB
  have hbb := HBD.out
  have hcase : i = 0 ∨ i = 1 ∨ i = 2 ∨ i = 3 ∨ i = 4 ∨ i = 5 ∨ i = 6 ∨ i = 7 ∨ i = 8 ∨ i = 9 ∨ i = 10 := by omega
  rcases hcase with rfl | rfl | rfl | rfl | rfl | rfl | rfl | rfl | rfl | rfl | rfl
  ·simp at ho
   subst ho
   have r2 := hev 2 rfl
   simp [Act.eval] at r2
   try simp [Act.put] at r2
   refine ⟨nofun, fun _ _ => trivial, nofun, .inl ⟨.agg #[vp, vn, vb, vx, vy, .int .i64 (D.size : Int)], V, exec_load 30 6 _ Tryz.underlying30 rfl Tryz.sizeCr _ rfl g0 [vp, vn, vb, vx, vy, .int .i64 (D.size : Int)] (by simpa [Act.eval] using r2) 30 hr0 rfl, Below.refl _ _, fun t ht => by cases ht; rfl⟩⟩
  ·simp at ho
   subst ho
   have r2 := hev 2 rfl
   simp [Act.eval] at r2
   try simp [Act.put] at r2
   refine ⟨nofun, fun _ _ => trivial, nofun, .inl ⟨.agg #[vp, vn, vb, vx, vy, .int .i64 (D.size : Int)], V, exec_load 30 6 _ Tryz.underlying30 rfl Tryz.sizeCr _ rfl g0 [vp, vn, vb, vx, vy, .int .i64 (D.size : Int)] (by simpa [Act.eval] using r2) 30 hr0 rfl, Below.refl _ _, fun t ht => by cases ht; rfl⟩⟩
  ·simp at ho
   subst ho
   have r3 := hev 3 rfl
   simp [Act.eval] at r3
   refine ⟨nofun, fun _ _ => trivial, nofun, .inl ⟨.pointer (some ⟨g1, 1, none⟩), V, ?_, Below.refl _ _, fun t ht => by cases ht; rfl⟩⟩
   simp [execOp, Act.eval, go_sem, r3, c0, c2, d1, d2]
  ·simp at ho
   subst ho
   have r29 : a'.eval (.tmp 29) = .pointer (some ⟨g1, 1, none⟩) := hrd 29 rfl rfl
   simp [Act.eval] at r29
   refine ⟨nofun, fun _ _ => trivial, nofun, .inl ⟨a, V, ?_, Below.refl _ _, fun t ht => by cases ht; rfl⟩⟩
   simp [execOp, Act.eval, go_sem, r29, c0, c2, d1, d2]
  ·simp at ho
   subst ho
   have r3 := hev 3 rfl
   simp [Act.eval] at r3
   refine ⟨nofun, fun _ _ => trivial, nofun, .inl ⟨.pointer (some ⟨g1, 1, none⟩), V, ?_, Below.refl _ _, fun t ht => by cases ht; rfl⟩⟩
   simp [execOp, Act.eval, go_sem, r3, c0, c2, d1, d2]
  ·simp at ho
   subst ho
   have r31 : a'.eval (.tmp 31) = .pointer (some ⟨g1, 1, none⟩) := hrd 31 rfl rfl
   simp [Act.eval] at r31
   refine ⟨nofun, fun _ _ => trivial, nofun, .inl ⟨a, V, ?_, Below.refl _ _, fun t ht => by cases ht; rfl⟩⟩
   simp [execOp, Act.eval, go_sem, r31, c0, c2, d1, d2]
  ·simp at ho
   subst ho
   have r28 : a'.eval (.tmp 28) = .agg #[vp, vn, vb, vx, vy, .int .i64 (D.size : Int)] := hrd 28 rfl rfl
   simp [Act.eval] at r28
   have r30 : a'.eval (.tmp 30) = a := hrd 30 rfl rfl
   simp [Act.eval] at r30
   have r32 : a'.eval (.tmp 32) = a := hrd 32 rfl rfl
   simp [Act.eval] at r32
   refine ⟨nofun, fun _ _ => trivial, nofun, .inr ⟨48, #[(.agg #[vp, vn, vb, vx, vy, .int .i64 (D.size : Int)]), a, a], ?_, (callsIn_wide.2 (rtimes9_any V _ _ _ D _ _ hcr hA hA HP.out.1)).mono ?_⟩⟩
   ·simp [execOp, Act.eval, r28, r30, r32, resolve, invoke, Deferred.ofValue]
   ·rintro e w' ⟨v, rfl, hv, hB2⟩
    exact ⟨_, rfl, hB2, fun t ht => by cases ht; exact hv⟩
  ·simp at ho
   subst ho
   have r3 := hev 3 rfl
   simp [Act.eval] at r3
   refine ⟨nofun, fun _ _ => trivial, nofun, .inl ⟨.pointer (some ⟨g1, 1, none⟩), V, ?_, Below.refl _ _, fun t ht => by cases ht; rfl⟩⟩
   simp [execOp, Act.eval, go_sem, r3, c0, c2, d1, d2]
  ·simp at ho
   subst ho
   have r34 : a'.eval (.tmp 34) = .pointer (some ⟨g1, 1, none⟩) := hrd 34 rfl rfl
   simp [Act.eval] at r34
   refine ⟨nofun, fun _ _ => trivial, nofun, .inl ⟨a, V, ?_, Below.refl _ _, fun t ht => by cases ht; rfl⟩⟩
   simp [execOp, Act.eval, go_sem, r34, c0, c2, d1, d2]
  ·simp at ho
   subst ho
   have r27 : a'.eval (.tmp 27) = .agg #[vp, vn, vb, vx, vy, .int .i64 (D.size : Int)] := hrd 27 rfl rfl
   simp [Act.eval] at r27
   have r33 : Nb V (a'.eval (.tmp 33)) (mulP D.p (x) (x)) := hrd 33 rfl rfl
   have r35 : a'.eval (.tmp 35) = a := hrd 35 rfl rfl
   simp [Act.eval] at r35
   refine ⟨nofun, fun _ _ => trivial, nofun, .inr ⟨48, #[(.agg #[vp, vn, vb, vx, vy, .int .i64 (D.size : Int)]), a'.eval (.tmp 33), a], ?_, (callsIn_wide.2 (rtimes9_any V _ _ _ D _ _ hcr r33 hA HP.out.1)).mono ?_⟩⟩
   ·simp [execOp, Act.eval, r27, r35, resolve, invoke, Deferred.ofValue]
   ·rintro e w' ⟨v, rfl, hv, hB2⟩
    exact ⟨_, rfl, hB2, fun t ht => by cases ht; exact hv⟩
  ·simp at ho
   subst ho
   have r36 : Nb V (a'.eval (.tmp 36)) (mulP D.p (mulP D.p (x) (x)) (x)) := hrd 36 rfl rfl
   refine ⟨nofun, fun _ _ => trivial, nofun, .inl ⟨a'.eval (.tmp 36), V, ?_, Below.refl _ _, fun t ht => by cases ht; exact r36⟩⟩
   simp [execOp]
 intro valsa w4 hBa hPa
 have hl5 : Nb w4 (valsa 10) (mulP D.p (mulP D.p (x) (x)) (x)) := hPa 10 5 _ rfl rfl
 obtain ⟨l5, hv5⟩ : ∃ l, valsa 10 = l := ⟨_, rfl⟩
 rw [hv5] at hl5
 have HL5 := hid hl5
 replace HR0 := hid (HR0.out.later hBa)
 replace HR1 := hid (HR1.out.later hBa)
 replace HCR := hid (HCR.out.later hBa)
 replace HKP := hid (HKP.out.later hBa)
 replace HKB := hid (HKB.out.later hBa)
 replace HA := hid (HA.out.later hBa)
 replace HBB := hid (HBB.out.later hBa)
 replace HB := hid (HB.out.trans (hBa.mono HB.out.size))
 clear hPa hBa hl5
 clear hn hn2
 simp [wrote, Act.put, hv5]
 go_wp2_with fail
 refine (wpIn_wide (n := 9)).1 (wpIn_region_num0 rfl hmx [(37, .val (.agg #[vp, vn, vb, vx, vy, .int .i64 (D.size : Int)])), (38, .nb (3)), (39, .val (.pointer (some ⟨g1, 1, none⟩))), (40, .val (a)), (41, .nb (mulP D.p (3) (x))), (6, .nb (mulP D.p (3) (x)))] (by kernel_rfl) (by kernel_rfl) (by kernel_rfl) (by kernel_rfl) (by rfl) ?hopsb ?hendb)
 case hopsb =>
  intro i o a' V hB ho hev hrd
  have his : i < 6 := by have := (Array.getElem?_eq_some_iff.1 ho).1; simpa using this
  have hr0 := HR0.out.later hB
  have hr1 := HR1.out.later hB
  have c0 := hr0.at_ (i := 0) rfl
  have c2 := hr0.at_ (i := 2) rfl
  have d1 := hr1.at_ (i := 1) rfl
  have d2 := hr1.at_ (i := 2) rfl
  have hcr := HCR.out.later hB
  have hkp := HKP.out.later hB
  have hkb := HKB.out.later hB
  have hA := HA.out.later hB
  have hBB := HBB.out.later hB
  have hbb := HBD.out
  have hcase : i = 0 ∨ i = 1 ∨ i = 2 ∨ i = 3 ∨ i = 4 ∨ i = 5 := by omega
  rcases hcase with rfl | rfl | rfl | rfl | rfl | rfl
  ·simp at ho
   subst ho
   have r2 := hev 2 rfl
   simp [Act.eval] at r2
   try simp [Act.put] at r2
   refine ⟨nofun, fun _ _ => trivial, nofun, .inl ⟨.agg #[vp, vn, vb, vx, vy, .int .i64 (D.size : Int)], V, exec_load 30 6 _ Tryz.underlying30 rfl Tryz.sizeCr _ rfl g0 [vp, vn, vb, vx, vy, .int .i64 (D.size : Int)] (by simpa [Act.eval] using r2) 30 hr0 rfl, Below.refl _ _, fun t ht => by cases ht; rfl⟩⟩
  ·simp at ho
   subst ho
   refine ⟨nofun, fun _ _ => trivial, nofun, .inr ⟨29, #[.int .u64 3], ?_, (callsIn_wide.2 (rof_b V 3 (by decide))).mono ?_⟩⟩
   ·simp [execOp, Act.eval, resolve, invoke, Deferred.ofValue]
   ·rintro e w' ⟨v, rfl, hv, hB2⟩
    exact ⟨_, rfl, hB2, fun t ht => by cases ht; exact hv⟩
  ·simp at ho
   subst ho
   have r3 := hev 3 rfl
   simp [Act.eval] at r3
   refine ⟨nofun, fun _ _ => trivial, nofun, .inl ⟨.pointer (some ⟨g1, 1, none⟩), V, ?_, Below.refl _ _, fun t ht => by cases ht; rfl⟩⟩
   simp [execOp, Act.eval, go_sem, r3, c0, c2, d1, d2]
  ·simp at ho
   subst ho
   have r39 : a'.eval (.tmp 39) = .pointer (some ⟨g1, 1, none⟩) := hrd 39 rfl rfl
   simp [Act.eval] at r39
   refine ⟨nofun, fun _ _ => trivial, nofun, .inl ⟨a, V, ?_, Below.refl _ _, fun t ht => by cases ht; rfl⟩⟩
   simp [execOp, Act.eval, go_sem, r39, c0, c2, d1, d2]
  ·simp at ho
   subst ho
   have r37 : a'.eval (.tmp 37) = .agg #[vp, vn, vb, vx, vy, .int .i64 (D.size : Int)] := hrd 37 rfl rfl
   simp [Act.eval] at r37
   have r38 : Nb V (a'.eval (.tmp 38)) (3) := hrd 38 rfl rfl
   have r40 : a'.eval (.tmp 40) = a := hrd 40 rfl rfl
   simp [Act.eval] at r40
   refine ⟨nofun, fun _ _ => trivial, nofun, .inr ⟨48, #[(.agg #[vp, vn, vb, vx, vy, .int .i64 (D.size : Int)]), a'.eval (.tmp 38), a], ?_, (callsIn_wide.2 (rtimes9_any V _ _ _ D _ _ hcr r38 hA HP.out.1)).mono ?_⟩⟩
   ·simp [execOp, Act.eval, r37, r40, resolve, invoke, Deferred.ofValue]
   ·rintro e w' ⟨v, rfl, hv, hB2⟩
    exact ⟨_, rfl, hB2, fun t ht => by cases ht; exact hv⟩
  ·simp at ho
   subst ho
   have r41 : Nb V (a'.eval (.tmp 41)) (mulP D.p (3) (x)) := hrd 41 rfl rfl
   refine ⟨nofun, fun _ _ => trivial, nofun, .inl ⟨a'.eval (.tmp 41), V, ?_, Below.refl _ _, fun t ht => by cases ht; exact r41⟩⟩
   simp [execOp]
 intro valsb w5 hBb hPb
 have hl6 : Nb w5 (valsb 5) (mulP D.p (3) (x)) := hPb 5 6 _ rfl rfl
 obtain ⟨l6, hv6⟩ : ∃ l, valsb 5 = l := ⟨_, rfl⟩
 rw [hv6] at hl6
 have HL6 := hid hl6
 replace HR0 := hid (HR0.out.later hBb)
 replace HR1 := hid (HR1.out.later hBb)
 replace HCR := hid (HCR.out.later hBb)
 replace HKP := hid (HKP.out.later hBb)
 replace HKB := hid (HKB.out.later hBb)
 replace HA := hid (HA.out.later hBb)
 replace HBB := hid (HBB.out.later hBb)
 replace HL5 := hid (HL5.out.later hBb)
 replace HB := hid (HB.out.trans (hBb.mono HB.out.size))
 clear hPb hBb hl6
 simp [wrote, Act.put, hv6]
 go_wp2_with fail
 refine (wpIn_wide (n := 9)).1 (wpIn_region_num0 rfl hmx [(42, .val (.agg #[vp, vn, vb, vx, vy, .int .i64 (D.size : Int)])), (43, .val (l5)), (44, .val (l6)), (45, .nb (subP D.p (mulP D.p (mulP D.p (x) (x)) (x)) (mulP D.p (3) (x)))), (46, .val (.pointer (some ⟨g0, 2, none⟩))), (47, .val (vb)), (48, .nb ((subP D.p (mulP D.p (mulP D.p (x) (x)) (x)) (mulP D.p (3) (x))) + (D.b))), (49, .val (.pointer (some ⟨g0, 0, none⟩))), (50, .val (vp)), (51, .nb (((subP D.p (mulP D.p (mulP D.p (x) (x)) (x)) (mulP D.p (3) (x))) + (D.b)) % D.p)), (7, .nb (((subP D.p (mulP D.p (mulP D.p (x) (x)) (x)) (mulP D.p (3) (x))) + (D.b)) % D.p))] (by kernel_rfl) (by kernel_rfl) (by kernel_rfl) (by kernel_rfl) (by rfl) ?hopsc ?hendc)
 case hopsc =>
  intro i o a' V hB ho hev hrd
  have his : i < 11 := by have := (Array.getElem?_eq_some_iff.1 ho).1; simpa using this
  have hr0 := HR0.out.later hB
  have hr1 := HR1.out.later hB
  have c0 := hr0.at_ (i := 0) rfl
  have c2 := hr0.at_ (i := 2) rfl
  have d1 := hr1.at_ (i := 1) rfl
  have d2 := hr1.at_ (i := 2) rfl
  have hcr := HCR.out.later hB
  have hkp := HKP.out.later hB
  have hkb := HKB.out.later hB
  have hA := HA.out.later hB
  have hBB := HBB.out.later hB
  have hbb := HBD.out
  have hl5 := HL5.out.later hB
  have hl6 := HL6.out.later hB
  have hcase : i = 0 ∨ i = 1 ∨ i = 2 ∨ i = 3 ∨ i = 4 ∨ i = 5 ∨ i = 6 ∨ i = 7 ∨ i = 8 ∨ i = 9 ∨ i = 10 := by omega
  rcases hcase with rfl | rfl | rfl | rfl | rfl | rfl | rfl | rfl | rfl | rfl | rfl
  ·simp at ho
   subst ho
   have r2 := hev 2 rfl
   simp [Act.eval] at r2
   try simp [Act.put] at r2
   refine ⟨nofun, fun _ _ => trivial, nofun, .inl ⟨.agg #[vp, vn, vb, vx, vy, .int .i64 (D.size : Int)], V, exec_load 30 6 _ Tryz.underlying30 rfl Tryz.sizeCr _ rfl g0 [vp, vn, vb, vx, vy, .int .i64 (D.size : Int)] (by simpa [Act.eval] using r2) 30 hr0 rfl, Below.refl _ _, fun t ht => by cases ht; rfl⟩⟩
  ·simp at ho
   subst ho
   have r5 := hev 5 rfl
   simp [Act.eval] at r5
   refine ⟨nofun, fun _ _ => trivial, nofun, .inl ⟨l5, V, ?_, Below.refl _ _, fun t ht => by cases ht; rfl⟩⟩
   simp [execOp, Act.eval, go_sem, r5, c0, c2, d1, d2]
  ·simp at ho
   subst ho
   have r6 := hev 6 rfl
   simp [Act.eval] at r6
   refine ⟨nofun, fun _ _ => trivial, nofun, .inl ⟨l6, V, ?_, Below.refl _ _, fun t ht => by cases ht; rfl⟩⟩
   simp [execOp, Act.eval, go_sem, r6, c0, c2, d1, d2]
  ·simp at ho
   subst ho
   have r42 : a'.eval (.tmp 42) = .agg #[vp, vn, vb, vx, vy, .int .i64 (D.size : Int)] := hrd 42 rfl rfl
   simp [Act.eval] at r42
   have r43 : a'.eval (.tmp 43) = l5 := hrd 43 rfl rfl
   simp [Act.eval] at r43
   have r44 : a'.eval (.tmp 44) = l6 := hrd 44 rfl rfl
   simp [Act.eval] at r44
   refine ⟨nofun, fun _ _ => trivial, nofun, .inr ⟨50, #[(.agg #[vp, vn, vb, vx, vy, .int .i64 (D.size : Int)]), l5, l6], ?_, (callsIn_wide.2 (rminus9_any V _ _ _ D _ _ hcr hl5 hl6 (mside HP.out (Nat.mod_lt _ HP.out.1) (Nat.mod_lt _ HP.out.1)))).mono ?_⟩⟩
   ·simp [execOp, Act.eval, r42, r43, r44, resolve, invoke, Deferred.ofValue]
   ·rintro e w' ⟨v, rfl, hv, hB2⟩
    exact ⟨_, rfl, hB2, fun t ht => by cases ht; exact hv⟩
  ·simp at ho
   subst ho
   have r2 := hev 2 rfl
   simp [Act.eval] at r2
   refine ⟨nofun, fun _ _ => trivial, nofun, .inl ⟨.pointer (some ⟨g0, 2, none⟩), V, ?_, Below.refl _ _, fun t ht => by cases ht; rfl⟩⟩
   simp [execOp, Act.eval, go_sem, r2, c0, c2, d1, d2]
  ·simp at ho
   subst ho
   have r46 : a'.eval (.tmp 46) = .pointer (some ⟨g0, 2, none⟩) := hrd 46 rfl rfl
   simp [Act.eval] at r46
   refine ⟨nofun, fun _ _ => trivial, nofun, .inl ⟨vb, V, ?_, Below.refl _ _, fun t ht => by cases ht; rfl⟩⟩
   simp [execOp, Act.eval, go_sem, r46, c0, c2, d1, d2]
  ·simp at ho
   subst ho
   have r45 : Nb V (a'.eval (.tmp 45)) (subP D.p (mulP D.p (mulP D.p (x) (x)) (x)) (mulP D.p (3) (x))) := hrd 45 rfl rfl
   have r47 : a'.eval (.tmp 47) = vb := hrd 47 rfl rfl
   simp [Act.eval] at r47
   refine ⟨nofun, fun _ _ => trivial, nofun, .inr ⟨32, #[a'.eval (.tmp 45), vb], ?_, (callsIn_wide.2 (radd_b V _ _ _ _ r45 hkb (aside HP.out (Nat.mod_lt _ HP.out.1) (Nat.le_of_lt hbb)))).mono ?_⟩⟩
   ·simp [execOp, Act.eval, r47, resolve, invoke, Deferred.ofValue]
   ·rintro e w' ⟨v, rfl, hv, hB2⟩
    exact ⟨_, rfl, hB2, fun t ht => by cases ht; exact hv⟩
  ·simp at ho
   subst ho
   have r2 := hev 2 rfl
   simp [Act.eval] at r2
   refine ⟨nofun, fun _ _ => trivial, nofun, .inl ⟨.pointer (some ⟨g0, 0, none⟩), V, ?_, Below.refl _ _, fun t ht => by cases ht; rfl⟩⟩
   simp [execOp, Act.eval, go_sem, r2, c0, c2, d1, d2]
  ·simp at ho
   subst ho
   have r49 : a'.eval (.tmp 49) = .pointer (some ⟨g0, 0, none⟩) := hrd 49 rfl rfl
   simp [Act.eval] at r49
   refine ⟨nofun, fun _ _ => trivial, nofun, .inl ⟨vp, V, ?_, Below.refl _ _, fun t ht => by cases ht; rfl⟩⟩
   simp [execOp, Act.eval, go_sem, r49, c0, c2, d1, d2]
  ·simp at ho
   subst ho
   have r48 : Nb V (a'.eval (.tmp 48)) ((subP D.p (mulP D.p (mulP D.p (x) (x)) (x)) (mulP D.p (3) (x))) + (D.b)) := hrd 48 rfl rfl
   have r50 : a'.eval (.tmp 50) = vp := hrd 50 rfl rfl
   simp [Act.eval] at r50
   refine ⟨nofun, fun _ _ => trivial, nofun, .inr ⟨49, #[a'.eval (.tmp 48), vp], ?_, (callsIn_wide.2 (rmod_b V _ _ _ _ r48 hkp HP.out.1)).mono ?_⟩⟩
   ·simp [execOp, Act.eval, r50, resolve, invoke, Deferred.ofValue]
   ·rintro e w' ⟨v, rfl, hv, hB2⟩
    exact ⟨_, rfl, hB2, fun t ht => by cases ht; exact hv⟩
  ·simp at ho
   subst ho
   have r51 : Nb V (a'.eval (.tmp 51)) (((subP D.p (mulP D.p (mulP D.p (x) (x)) (x)) (mulP D.p (3) (x))) + (D.b)) % D.p) := hrd 51 rfl rfl
   refine ⟨nofun, fun _ _ => trivial, nofun, .inl ⟨a'.eval (.tmp 51), V, ?_, Below.refl _ _, fun t ht => by cases ht; exact r51⟩⟩
   simp [execOp]
 intro valsc w6 hBc hPc
 have hl7 : Nb w6 (valsc 10) (((subP D.p (mulP D.p (mulP D.p (x) (x)) (x)) (mulP D.p (3) (x))) + (D.b)) % D.p) := hPc 10 7 _ rfl rfl
 obtain ⟨l7, hv7⟩ : ∃ l, valsc 10 = l := ⟨_, rfl⟩
 rw [hv7] at hl7
 have HL7 := hid hl7
 replace HR0 := hid (HR0.out.later hBc)
 replace HR1 := hid (HR1.out.later hBc)
 replace HCR := hid (HCR.out.later hBc)
 replace HKP := hid (HKP.out.later hBc)
 replace HKB := hid (HKB.out.later hBc)
 replace HA := hid (HA.out.later hBc)
 replace HBB := hid (HBB.out.later hBc)
 replace HB := hid (HB.out.trans (hBc.mono HB.out.size))
 clear hPc hBc hl7
 simp [wrote, Act.put, hv7]
 have c0 := HR0.out.at_ (i := 0) rfl
 have d2 := HR1.out.at_ (i := 2) rfl
 have c1 := HR0.out.at_ (i := 1) rfl
 have c2 := HR0.out.at_ (i := 2) rfl
 have c3 := HR0.out.at_ (i := 3) rfl
 have c4 := HR0.out.at_ (i := 4) rfl
 have c5 := HR0.out.at_ (i := 5) rfl
 have HM := hid (rtimes9_any w6 _ b b D y y HCR.out HBB.out HBB.out HP.out.1)
 go_wp2_with fail
 refine HM.out.mono ?_
 rintro e w7 ⟨v, rfl, hv, hb7⟩
 have HC := hid (rcmp_b w7 v l7 (mulP D.p y y) (((subP D.p (mulP D.p (mulP D.p (x) (x)) (x)) (mulP D.p (3) (x))) + (D.b)) % D.p) hv (HL7.out.later hb7))
 replace HB := hid (HB.out.trans (hb7.mono HB.out.size))
 clear hv hb7 c0 d2 c1 c2 c3 c4 c5 HM
 go_wp2_with fail
 refine HC.out.mono ?_
 rintro e w8 ⟨rfl, hb8⟩
 replace HB := hid (HB.out.trans (hb8.mono HB.out.size))
 clear hb8 HC
 by_cases hq : onR D.p D.b x y
 ·have hdec : decide (x < D.p ∧ y < D.p ∧ onR D.p D.b x y) = true := decide_eq_true ⟨HX.out, HY.out, hq⟩
  have HD := hid hdec
  have e1 := (ncmpEq (a := mulP D.p y y) (b := ((subP D.p (mulP D.p (mulP D.p (x) (x)) (x)) (mulP D.p (3) (x))) + (D.b)) % D.p)).2 hq
  clear hdec
  go_wp2
  go_ret
  rw [HD.out]
  exact ⟨rfl, HB.out⟩
 ·have hdec : decide (x < D.p ∧ y < D.p ∧ onR D.p D.b x y) = false := decide_eq_false (fun h => hq h.2.2)
  have HD := hid hdec
  have e1 : ncmp (mulP D.p y y) (((subP D.p (mulP D.p (mulP D.p (x) (x)) (x)) (mulP D.p (3) (x))) + (D.b)) % D.p) ≠ 0 := fun h => hq (ncmpEq.1 h)
  have e2 := beq_eq_false_iff_ne.2 e1
  clear hdec
  go_wp2
  go_ret
  rw [HD.out]
  exact ⟨rfl, HB.out⟩
def Jc (w : World) (v : Value) (T : Nat × Nat × Nat) : Prop := ∃ a b c, v = .agg #[a, b, c] ∧ Nb w a T.1 ∧ Nb w b T.2.1 ∧ Nb w c T.2.2
theorem Jc.sb {w w' : World} {v : Value} {T : Nat × Nat × Nat} (h : Jc w v T) (hb : Sb w w') : Jc w' v T := by
 obtain ⟨a, b, c, e, h1, h2, h3⟩ := h
 exact ⟨a, b, c, e, h1.sb hb, h2.sb hb, h3.sb hb⟩
theorem Jc.later {w w' : World} {v : Value} {T : Nat × Nat × Nat} (h : Jc w v T) (hb : Below w.heap.size w w') : Jc w' v T := h.sb (Sb.of_below hb)
def Spc.jc (T : Nat × Nat × Nat) : Spc := ⟨fun v V => Jc V v T, fun _ _ _ hb h => h.sb hb⟩
theorem Nb.one {w : World} {v : Value} {k : Nat} (h : Nb w v k) : v.oneCell' = true := by
 obtain ⟨xs, A, n, c, rfl, _⟩ := h
 rfl
theorem Nb.zlen {w : World} {v : Value} {k : Nat} (h : Nb w v k) : ∃ A n c, v = .slice A n c ∧ (n = 0 ↔ k = 0) := by
 obtain ⟨xs, A, n, c, rfl, hs, hn, hl⟩ := h
 refine ⟨A, n, c, rfl, ?_, ?_⟩
 ·intro h0
  have h1 : xs = [] := List.length_eq_zero_iff.1 (by rw [← hs.len]; exact h0)
  rw [← hn.2.2, h1]
  rfl
 ·rintro rfl
  have h1 : xs.length ≤ 0 := hn.length_le (by decide) (by decide)
  have := hs.len
  omega
theorem Tryz.sizeJc : (Tryz.prog.info? 100).map (·.size) = some 3 := by kernel_rfl
theorem results_jc {fn : Func} {q : Tmp} {w : World} (h : fn.results = #[.cell q 100]) (tmps : Array Value) (g : Nat) (vs : List Value) (hp : tmps.getD q undef = .pointer (some ⟨g, 0, none⟩)) (hr : RowV 100 w g vs) (hl : vs.length = 3) :
  (results fn tmps).run Tryz.prog w = .ok (.agg vs.toArray) w :=
 results_cell_row h tmps w g _ vs.toArray (0, 0) _ hp hr Tryz.underlying100 rfl (by rw [Tryz.sizeJc]; simp [hl])
def twM (p x z : Nat) : Nat := mulP p 3 (mulP p (subP p x (mulP p z z)) ((x + mulP p z z) % p))
def twS (p x y : Nat) : Nat := mulP p 4 (mulP p x (mulP p y y))
def twX (p x y z : Nat) : Nat := subP p (subP p (mulP p (twM p x z) (twM p x z)) (twS p x y)) (twS p x y)
def twY (p x y z : Nat) : Nat := subP p (mulP p (twM p x z) (subP p (twS p x y) (twX p x y z))) (mulP p 8 (mulP p (mulP p y y) (mulP p y y)))
def twR (p : Nat) (T : Nat × Nat × Nat) : Nat × Nat × Nat := if T.2.2 = 0 ∨ T.2.1 = 0 then (0, 0, 0) else (twX p T.1 T.2.1 T.2.2, twY p T.1 T.2.1 T.2.2, mulP p 2 (mulP p T.2.1 T.2.2))
theorem rtw_z (w : World) (vc : Value) (D : Crv) (hc : Cr w vc D) (Aa Ab Ac : Option Addr) (na ca nb' cb nc cc : Nat)  :
  Calls Tryz.prog 57 #[vc, .agg #[.slice Aa na ca, .slice Ab nb' cb, .slice Ac 0 cc]] w fun e w' => ∃ v, e = .returned v ∧ Jc w' v (0, 0, 0) ∧ Below w.heap.size w w' := by
 obtain ⟨vp, vn, vb, vx, vy, rfl, kp, kb⟩ := hc.pr
 obtain ⟨W0, e0, r0, b0, s0⟩ := newS w 30 [vp, vn, vb, vx, vy, .int .i64 (D.size : Int)] _ rfl
 obtain ⟨W1, e1, r1, b1, s1⟩ := newS W0 100 [.slice Aa na ca, .slice Ab nb' cb, .slice Ac 0 cc] _ rfl
 obtain ⟨W2, e2, r2, b2, s2⟩ := newS W1 100 [.slice none 0 0, .slice none 0 0, .slice none 0 0] _ rfl
 obtain ⟨g0, hg0⟩ : ∃ g, w.heap.size = g := ⟨_, rfl⟩
 obtain ⟨g1, hg1⟩ : ∃ g, W0.heap.size = g := ⟨_, rfl⟩
 obtain ⟨gr, hgr⟩ : ∃ g, W1.heap.size = g := ⟨_, rfl⟩
 have hb1 := b0.trans (b1.mono b0.size)
 have hbw := hb1.trans (b2.mono hb1.size)
 have HGL := hid (show w.heap.size ≤ gr ∧ g0 ≠ gr ∧ g1 ≠ gr by omega)
 rw [hg0] at r0
 rw [hg1] at r1
 rw [hgr] at r2
 have r02 := (r0.later b1).later b2
 have r12 := r1.later b2
 have HB := hid hbw
 have HR0 := hid r02
 have HR1 := hid r12
 have HRR := hid r2
 have d1 := r12.at_ (i := 1) rfl
 have d2 := r12.at_ (i := 2) rfl
 clear b0 b1 b2 s0 s1 s2 hb1 hbw r0 r1 r2 r02 r12 hc kp kb
 go_enter Tryz.func57, Tryz.ntmps57
 go_wp2_with ((with_reducible show wpList _ _ _ (⟨none, _, _, _, _, _⟩ :: _) _ _); refine wlS_store rfl 100 3 Tryz.sizeJc _ _ rfl gr [.slice none 0 0, .slice none 0 0, .slice none 0 0] rfl rfl 100 _ HRR.out rfl rfl (ones3 rfl rfl rfl) ?_; intro w6 hr6 hg6 hz6)
 exact ⟨rfl, _, results_jc rfl _ gr _ rfl hr6 rfl, _, rfl, ⟨_, _, _, rfl, Nb.nil _, Nb.nil _, Nb.nil _⟩, below_grown HB.out hg6 HGL.out.1 HB.out.size⟩
theorem rtw_y (w : World) (vc : Value) (D : Crv) (hc : Cr w vc D) (Aa Ab Ac : Option Addr) (na ca nb' cb nc cc : Nat) (hnc : ¬ (nc : Int) = 0) :
  Calls Tryz.prog 57 #[vc, .agg #[.slice Aa na ca, .slice Ab 0 cb, .slice Ac nc cc]] w fun e w' => ∃ v, e = .returned v ∧ Jc w' v (0, 0, 0) ∧ Below w.heap.size w w' := by
 obtain ⟨vp, vn, vb, vx, vy, rfl, kp, kb⟩ := hc.pr
 obtain ⟨W0, e0, r0, b0, s0⟩ := newS w 30 [vp, vn, vb, vx, vy, .int .i64 (D.size : Int)] _ rfl
 obtain ⟨W1, e1, r1, b1, s1⟩ := newS W0 100 [.slice Aa na ca, .slice Ab 0 cb, .slice Ac nc cc] _ rfl
 obtain ⟨W2, e2, r2, b2, s2⟩ := newS W1 100 [.slice none 0 0, .slice none 0 0, .slice none 0 0] _ rfl
 obtain ⟨g0, hg0⟩ : ∃ g, w.heap.size = g := ⟨_, rfl⟩
 obtain ⟨g1, hg1⟩ : ∃ g, W0.heap.size = g := ⟨_, rfl⟩
 obtain ⟨gr, hgr⟩ : ∃ g, W1.heap.size = g := ⟨_, rfl⟩
 have hb1 := b0.trans (b1.mono b0.size)
 have hbw := hb1.trans (b2.mono hb1.size)
 have HGL := hid (show w.heap.size ≤ gr ∧ g0 ≠ gr ∧ g1 ≠ gr by omega)
 rw [hg0] at r0
 rw [hg1] at r1
 rw [hgr] at r2
 have r02 := (r0.later b1).later b2
 have r12 := r1.later b2
 have HB := hid hbw
 have HR0 := hid r02
 have HR1 := hid r12
 have HRR := hid r2
 have hz1 : ((nc : Int) == 0) = false := beq_eq_false_iff_ne.2 hnc
 have d1 := r12.at_ (i := 1) rfl
 have d2 := r12.at_ (i := 2) rfl
 clear b0 b1 b2 s0 s1 s2 hb1 hbw r0 r1 r2 r02 r12 hc kp kb
 go_enter Tryz.func57, Tryz.ntmps57
 go_wp2_with ((with_reducible show wpList _ _ _ (⟨none, _, _, _, _, _⟩ :: _) _ _); refine wlS_store rfl 100 3 Tryz.sizeJc _ _ rfl gr [.slice none 0 0, .slice none 0 0, .slice none 0 0] rfl rfl 100 _ HRR.out rfl rfl (ones3 rfl rfl rfl) ?_; intro w6 hr6 hg6 hz6)
 exact ⟨rfl, _, results_jc rfl _ gr _ rfl hr6 rfl, _, rfl, ⟨_, _, _, rfl, Nb.nil _, Nb.nil _, Nb.nil _⟩, below_grown HB.out hg6 HGL.out.1 HB.out.size⟩
theorem rtw_main (w : World) (vc : Value) (D : Crv) (hc : Cr w vc D) (hp : Bp D.p) (a b : Value) (Ac : Option Addr) (nc cc : Nat) (x y z : Nat) (ha : Nb w a x) (hb : Nb w b y) (hz : Nb w (.slice Ac nc cc) z) (hx : x < D.p) (hy : y < D.p) (hzl : z < D.p) (hz0 : ¬ (nc : Int) = 0) (hy0 : y ≠ 0) :
  Calls Tryz.prog 57 #[vc, .agg #[a, b, .slice Ac nc cc]] w fun e w' => ∃ v, e = .returned v ∧ Jc w' v (twX D.p x y z, twY D.p x y z, mulP D.p 2 (mulP D.p y z)) ∧ Below w.heap.size w w' := by
 obtain ⟨Ab, nb', cb, rfl, hnb⟩ := hb.zlen
 have hnb0 : ¬ (nb' : Int) = 0 := by
  intro h
  exact hy0 (hnb.1 (by omega))
 have hz1 : ((nc : Int) == 0) = false := beq_eq_false_iff_ne.2 hz0
 have hy1 : ((nb' : Int) == 0) = false := beq_eq_false_iff_ne.2 hnb0
 have hmx : Tryz.prog.follows .mixedOrders = true := by kernel_rfl
 obtain ⟨vp, vn, vb, vx, vy, rfl, kp, kb⟩ := hc.pr
 obtain ⟨W0, e0, r0, b0, s0⟩ := newS w 30 [vp, vn, vb, vx, vy, .int .i64 (D.size : Int)] _ rfl
 obtain ⟨W1, e1, r1, b1, s1⟩ := newS W0 100 [a, .slice Ab nb' cb, .slice Ac nc cc] _ rfl
 obtain ⟨W2, e2, r2, b2, s2⟩ := newS W1 100 [.slice none 0 0, .slice none 0 0, .slice none 0 0] _ rfl
 obtain ⟨g0, hg0⟩ : ∃ g, w.heap.size = g := ⟨_, rfl⟩
 obtain ⟨g1, hg1⟩ : ∃ g, W0.heap.size = g := ⟨_, rfl⟩
 obtain ⟨gr, hgr⟩ : ∃ g, W1.heap.size = g := ⟨_, rfl⟩
 have hb1 := b0.trans (b1.mono b0.size)
 have hbw := hb1.trans (b2.mono hb1.size)
 have HGL := hid (show w.heap.size ≤ gr ∧ g0 ≠ gr ∧ g1 ≠ gr by omega)
 rw [hg0] at r0
 rw [hg1] at r1
 rw [hgr] at r2
 have r02 := (r0.later b1).later b2
 have r12 := r1.later b2
 have HB := hid hbw
 have HR0 := hid r02
 have HR1 := hid r12
 have HRR := hid r2
 have HCR := hid (hc.later hbw)
 have HKP := hid (kp.later hbw)
 have HA := hid (ha.later hbw)
 have HBB := hid (hb.later hbw)
 have HZZ := hid (hz.later hbw)
 have HP := hid hp
 have HX := hid hx
 have HY := hid hy
 have HZ := hid hzl
 have d1 := r12.at_ (i := 1) rfl
 have d2 := r12.at_ (i := 2) rfl
 clear b0 b1 b2 s0 s1 s2 hb1 hbw r0 r1 r2 r02 r12 hc kp kb ha hb hz hp hx hy hzl hy0 hnb hz0 hnb0
 have c0 := HR0.out.at_ (i := 0) rfl
 have c1 := HR0.out.at_ (i := 1) rfl
 have c2 := HR0.out.at_ (i := 2) rfl
 have c3 := HR0.out.at_ (i := 3) rfl
 have c4 := HR0.out.at_ (i := 4) rfl
 have c5 := HR0.out.at_ (i := 5) rfl
 have HM := hid (rtimes9_any W2 _ (.slice Ac nc cc) (.slice Ac nc cc) D z z HCR.out HZZ.out HZZ.out HP.out.1)
 go_enter Tryz.func57, Tryz.ntmps57
 go_wp2_with fail
 refine HM.out.mono ?_
 rintro e w3 ⟨l5, rfl, hl5, hbq⟩
 replace HR0 := hid (HR0.out.later hbq)
 replace HR1 := hid (HR1.out.later hbq)
 replace HRR := hid (HRR.out.later hbq)
 replace HCR := hid (HCR.out.later hbq)
 replace HKP := hid (HKP.out.later hbq)
 replace HA := hid (HA.out.later hbq)
 replace HBB := hid (HBB.out.later hbq)
 replace HZZ := hid (HZZ.out.later hbq)
 replace HB := hid (HB.out.trans (hbq.mono HB.out.size))
 have HL5 := hid (show Nb w3 l5 (mulP D.p z z) from hl5)
 clear hbq hl5 HM d1 d2 c0 c1 c2 c3 c4 c5 hz1 hy1
 go_wp2_with fail
 refine (wpIn_wide (n := 9)).1 (wpIn_region_num0 rfl hmx [(29, .val (.pointer (some ⟨g1, 0, none⟩))), (30, .val (a)), (31, .val (l5)), (32, .nb ((x) + (mulP D.p z z))), (33, .val (.pointer (some ⟨g0, 0, none⟩))), (34, .val (vp)), (35, .nb (((x) + (mulP D.p z z)) % D.p)), (6, .nb (((x) + (mulP D.p z z)) % D.p))] (by kernel_rfl) (by kernel_rfl) (by kernel_rfl) (by kernel_rfl) (by rfl) ?hopsa ?henda)
 case hopsa =>
  intro i o a' V hB ho hev hrd
  have his : i < 8 := by have := (Array.getElem?_eq_some_iff.1 ho).1; simpa using this
  have hr0 := HR0.out.later hB
  have hr1 := HR1.out.later hB
  have c0 := hr0.at_ (i := 0) rfl
  have d0 := hr1.at_ (i := 0) rfl
  have d1 := hr1.at_ (i := 1) rfl
  have d2 := hr1.at_ (i := 2) rfl
  have hcr := HCR.out.later hB
  have hkp := HKP.out.later hB
  have hA := HA.out.later hB
  have hBB := HBB.out.later hB
  have hZZ := HZZ.out.later hB
  have hl5 := HL5.out.later hB
  have hcase : i = 0 ∨ i = 1 ∨ i = 2 ∨ i = 3 ∨ i = 4 ∨ i = 5 ∨ i = 6 ∨ i = 7 := by omega
  rcases hcase with rfl | rfl | rfl | rfl | rfl | rfl | rfl | rfl
  ·simp at ho
   subst ho
   have r3 := hev 3 rfl
   simp [Act.eval] at r3
   refine ⟨nofun, fun _ _ => trivial, nofun, .inl ⟨.pointer (some ⟨g1, 0, none⟩), V, ?_, Below.refl _ _, fun t ht => by cases ht; rfl⟩⟩
   simp [execOp, Act.eval, go_sem, r3, c0, d0, d1, d2]
  ·simp at ho
   subst ho
   have r29 : a'.eval (.tmp 29) = .pointer (some ⟨g1, 0, none⟩) := hrd 29 rfl rfl
   simp [Act.eval] at r29
   refine ⟨nofun, fun _ _ => trivial, nofun, .inl ⟨a, V, ?_, Below.refl _ _, fun t ht => by cases ht; rfl⟩⟩
   simp [execOp, Act.eval, go_sem, r29, c0, d0, d1, d2]
  ·simp at ho
   subst ho
   have r5 := hev 5 rfl
   simp [Act.eval] at r5
   refine ⟨nofun, fun _ _ => trivial, nofun, .inl ⟨l5, V, ?_, Below.refl _ _, fun t ht => by cases ht; rfl⟩⟩
   simp [execOp, Act.eval, go_sem, r5, c0, d0, d1, d2]
  ·simp at ho
   subst ho
   have r30 : a'.eval (.tmp 30) = a := hrd 30 rfl rfl
   simp [Act.eval] at r30
   have r31 : a'.eval (.tmp 31) = l5 := hrd 31 rfl rfl
   simp [Act.eval] at r31
   refine ⟨nofun, fun _ _ => trivial, nofun, .inr ⟨32, #[a, l5], ?_, (callsIn_wide.2 (radd_b V _ _ _ _ hA hl5 (aside HP.out HX.out (Nat.le_of_lt (Nat.mod_lt _ HP.out.1))))).mono ?_⟩⟩
   ·simp [execOp, Act.eval, r30, r31, resolve, invoke, Deferred.ofValue]
   ·rintro e w' ⟨v, rfl, hv, hB2⟩
    exact ⟨_, rfl, hB2, fun t ht => by cases ht; exact hv⟩
  ·simp at ho
   subst ho
   have r2 := hev 2 rfl
   simp [Act.eval] at r2
   refine ⟨nofun, fun _ _ => trivial, nofun, .inl ⟨.pointer (some ⟨g0, 0, none⟩), V, ?_, Below.refl _ _, fun t ht => by cases ht; rfl⟩⟩
   simp [execOp, Act.eval, go_sem, r2, c0, d0, d1, d2]
  ·simp at ho
   subst ho
   have r33 : a'.eval (.tmp 33) = .pointer (some ⟨g0, 0, none⟩) := hrd 33 rfl rfl
   simp [Act.eval] at r33
   refine ⟨nofun, fun _ _ => trivial, nofun, .inl ⟨vp, V, ?_, Below.refl _ _, fun t ht => by cases ht; rfl⟩⟩
   simp [execOp, Act.eval, go_sem, r33, c0, d0, d1, d2]
  ·simp at ho
   subst ho
   have r32 : Nb V (a'.eval (.tmp 32)) ((x) + (mulP D.p z z)) := hrd 32 rfl rfl
   have r34 : a'.eval (.tmp 34) = vp := hrd 34 rfl rfl
   simp [Act.eval] at r34
   refine ⟨nofun, fun _ _ => trivial, nofun, .inr ⟨49, #[a'.eval (.tmp 32), vp], ?_, (callsIn_wide.2 (rmod_b V _ _ _ _ r32 hkp HP.out.1)).mono ?_⟩⟩
   ·simp [execOp, Act.eval, r34, resolve, invoke, Deferred.ofValue]
   ·rintro e w' ⟨v, rfl, hv, hB2⟩
    exact ⟨_, rfl, hB2, fun t ht => by cases ht; exact hv⟩
  ·simp at ho
   subst ho
   have r35 : Nb V (a'.eval (.tmp 35)) (((x) + (mulP D.p z z)) % D.p) := hrd 35 rfl rfl
   refine ⟨nofun, fun _ _ => trivial, nofun, .inl ⟨a'.eval (.tmp 35), V, ?_, Below.refl _ _, fun t ht => by cases ht; exact r35⟩⟩
   simp [execOp]
 intro valsa w4 hBa hPa
 have hl6 : Nb w4 (valsa 7) (((x) + (mulP D.p z z)) % D.p) := hPa 7 6 _ rfl rfl
 obtain ⟨l6, hv6⟩ : ∃ l, valsa 7 = l := ⟨_, rfl⟩
 rw [hv6] at hl6
 replace HR0 := hid (HR0.out.later hBa)
 replace HR1 := hid (HR1.out.later hBa)
 replace HRR := hid (HRR.out.later hBa)
 replace HCR := hid (HCR.out.later hBa)
 replace HKP := hid (HKP.out.later hBa)
 replace HA := hid (HA.out.later hBa)
 replace HBB := hid (HBB.out.later hBa)
 replace HZZ := hid (HZZ.out.later hBa)
 replace HL5 := hid (HL5.out.later hBa)
 replace HB := hid (HB.out.trans (hBa.mono HB.out.size))
 have HL6 := hid (show Nb w4 l6 ((x + mulP D.p z z) % D.p) from hl6)
 clear hPa hBa hl6
 simp [wrote, Act.put, hv6]
 go_wp2_with fail
 refine (wpIn_wide (n := 9)).1 (wpIn_region_num0 rfl hmx [(36, .val (.agg #[vp, vn, vb, vx, vy, .int .i64 (D.size : Int)])), (37, .nb (3)), (38, .val (.agg #[vp, vn, vb, vx, vy, .int .i64 (D.size : Int)])), (39, .val (.agg #[vp, vn, vb, vx, vy, .int .i64 (D.size : Int)])), (40, .val (.pointer (some ⟨g1, 0, none⟩))), (41, .val (a)), (42, .val (l5)), (43, .nb (subP D.p (x) (mulP D.p z z))), (44, .val (l6)), (45, .nb (mulP D.p (subP D.p (x) (mulP D.p z z)) ((x + mulP D.p z z) % D.p))), (46, .nb (mulP D.p (3) (mulP D.p (subP D.p (x) (mulP D.p z z)) ((x + mulP D.p z z) % D.p)))), (7, .nb (mulP D.p (3) (mulP D.p (subP D.p (x) (mulP D.p z z)) ((x + mulP D.p z z) % D.p))))] (by kernel_rfl) (by kernel_rfl) (by kernel_rfl) (by kernel_rfl) (by rfl) ?hopsb ?hendb)
 case hopsb =>
  intro i o a' V hB ho hev hrd
  have his : i < 12 := by have := (Array.getElem?_eq_some_iff.1 ho).1; simpa using this
  have hr0 := HR0.out.later hB
  have hr1 := HR1.out.later hB
  have c0 := hr0.at_ (i := 0) rfl
  have d0 := hr1.at_ (i := 0) rfl
  have d1 := hr1.at_ (i := 1) rfl
  have d2 := hr1.at_ (i := 2) rfl
  have hcr := HCR.out.later hB
  have hkp := HKP.out.later hB
  have hA := HA.out.later hB
  have hBB := HBB.out.later hB
  have hZZ := HZZ.out.later hB
  have hl5 := HL5.out.later hB
  have hl6 := HL6.out.later hB
  have hcase : i = 0 ∨ i = 1 ∨ i = 2 ∨ i = 3 ∨ i = 4 ∨ i = 5 ∨ i = 6 ∨ i = 7 ∨ i = 8 ∨ i = 9 ∨ i = 10 ∨ i = 11 := by omega
  rcases hcase with rfl | rfl | rfl | rfl | rfl | rfl | rfl | rfl | rfl | rfl | rfl | rfl
  ·simp at ho
   subst ho
   have r2 := hev 2 rfl
   simp [Act.eval] at r2
   try simp [Act.put] at r2
   refine ⟨nofun, fun _ _ => trivial, nofun, .inl ⟨.agg #[vp, vn, vb, vx, vy, .int .i64 (D.size : Int)], V, exec_load 30 6 _ Tryz.underlying30 rfl Tryz.sizeCr _ rfl g0 [vp, vn, vb, vx, vy, .int .i64 (D.size : Int)] (by simpa [Act.eval] using r2) 30 hr0 rfl, Below.refl _ _, fun t ht => by cases ht; rfl⟩⟩
  ·simp at ho
   subst ho
   refine ⟨nofun, fun _ _ => trivial, nofun, .inr ⟨29, #[.int .u64 3], ?_, (callsIn_wide.2 (rof_b V 3 (by decide))).mono ?_⟩⟩
   ·simp [execOp, Act.eval, resolve, invoke, Deferred.ofValue]
   ·rintro e w' ⟨v, rfl, hv, hB2⟩
    exact ⟨_, rfl, hB2, fun t ht => by cases ht; exact hv⟩
  ·simp at ho
   subst ho
   have r2 := hev 2 rfl
   simp [Act.eval] at r2
   try simp [Act.put] at r2
   refine ⟨nofun, fun _ _ => trivial, nofun, .inl ⟨.agg #[vp, vn, vb, vx, vy, .int .i64 (D.size : Int)], V, exec_load 30 6 _ Tryz.underlying30 rfl Tryz.sizeCr _ rfl g0 [vp, vn, vb, vx, vy, .int .i64 (D.size : Int)] (by simpa [Act.eval] using r2) 30 hr0 rfl, Below.refl _ _, fun t ht => by cases ht; rfl⟩⟩
  ·simp at ho
   subst ho
   have r2 := hev 2 rfl
   simp [Act.eval] at r2
   try simp [Act.put] at r2
   refine ⟨nofun, fun _ _ => trivial, nofun, .inl ⟨.agg #[vp, vn, vb, vx, vy, .int .i64 (D.size : Int)], V, exec_load 30 6 _ Tryz.underlying30 rfl Tryz.sizeCr _ rfl g0 [vp, vn, vb, vx, vy, .int .i64 (D.size : Int)] (by simpa [Act.eval] using r2) 30 hr0 rfl, Below.refl _ _, fun t ht => by cases ht; rfl⟩⟩
  ·simp at ho
   subst ho
   have r3 := hev 3 rfl
   simp [Act.eval] at r3
   refine ⟨nofun, fun _ _ => trivial, nofun, .inl ⟨.pointer (some ⟨g1, 0, none⟩), V, ?_, Below.refl _ _, fun t ht => by cases ht; rfl⟩⟩
   simp [execOp, Act.eval, go_sem, r3, c0, d0, d1, d2]
  ·simp at ho
   subst ho
   have r40 : a'.eval (.tmp 40) = .pointer (some ⟨g1, 0, none⟩) := hrd 40 rfl rfl
   simp [Act.eval] at r40
   refine ⟨nofun, fun _ _ => trivial, nofun, .inl ⟨a, V, ?_, Below.refl _ _, fun t ht => by cases ht; rfl⟩⟩
   simp [execOp, Act.eval, go_sem, r40, c0, d0, d1, d2]
  ·simp at ho
   subst ho
   have r5 := hev 5 rfl
   simp [Act.eval] at r5
   refine ⟨nofun, fun _ _ => trivial, nofun, .inl ⟨l5, V, ?_, Below.refl _ _, fun t ht => by cases ht; rfl⟩⟩
   simp [execOp, Act.eval, go_sem, r5, c0, d0, d1, d2]
  ·simp at ho
   subst ho
   have r39 : a'.eval (.tmp 39) = .agg #[vp, vn, vb, vx, vy, .int .i64 (D.size : Int)] := hrd 39 rfl rfl
   simp [Act.eval] at r39
   have r41 : a'.eval (.tmp 41) = a := hrd 41 rfl rfl
   simp [Act.eval] at r41
   have r42 : a'.eval (.tmp 42) = l5 := hrd 42 rfl rfl
   simp [Act.eval] at r42
   refine ⟨nofun, fun _ _ => trivial, nofun, .inr ⟨50, #[(.agg #[vp, vn, vb, vx, vy, .int .i64 (D.size : Int)]), a, l5], ?_, (callsIn_wide.2 (rminus9_any V _ _ _ D _ _ hcr hA hl5 (mside HP.out HX.out (Nat.mod_lt _ HP.out.1)))).mono ?_⟩⟩
   ·simp [execOp, Act.eval, r39, r41, r42, resolve, invoke, Deferred.ofValue]
   ·rintro e w' ⟨v, rfl, hv, hB2⟩
    exact ⟨_, rfl, hB2, fun t ht => by cases ht; exact hv⟩
  ·simp at ho
   subst ho
   have r6 := hev 6 rfl
   simp [Act.eval] at r6
   refine ⟨nofun, fun _ _ => trivial, nofun, .inl ⟨l6, V, ?_, Below.refl _ _, fun t ht => by cases ht; rfl⟩⟩
   simp [execOp, Act.eval, go_sem, r6, c0, d0, d1, d2]
  ·simp at ho
   subst ho
   have r38 : a'.eval (.tmp 38) = .agg #[vp, vn, vb, vx, vy, .int .i64 (D.size : Int)] := hrd 38 rfl rfl
   simp [Act.eval] at r38
   have r43 : Nb V (a'.eval (.tmp 43)) (subP D.p (x) (mulP D.p z z)) := hrd 43 rfl rfl
   have r44 : a'.eval (.tmp 44) = l6 := hrd 44 rfl rfl
   simp [Act.eval] at r44
   refine ⟨nofun, fun _ _ => trivial, nofun, .inr ⟨48, #[(.agg #[vp, vn, vb, vx, vy, .int .i64 (D.size : Int)]), a'.eval (.tmp 43), l6], ?_, (callsIn_wide.2 (rtimes9_any V _ _ _ D _ _ hcr r43 hl6 HP.out.1)).mono ?_⟩⟩
   ·simp [execOp, Act.eval, r38, r44, resolve, invoke, Deferred.ofValue]
   ·rintro e w' ⟨v, rfl, hv, hB2⟩
    exact ⟨_, rfl, hB2, fun t ht => by cases ht; exact hv⟩
  ·simp at ho
   subst ho
   have r36 : a'.eval (.tmp 36) = .agg #[vp, vn, vb, vx, vy, .int .i64 (D.size : Int)] := hrd 36 rfl rfl
   simp [Act.eval] at r36
   have r37 : Nb V (a'.eval (.tmp 37)) (3) := hrd 37 rfl rfl
   have r45 : Nb V (a'.eval (.tmp 45)) (mulP D.p (subP D.p (x) (mulP D.p z z)) ((x + mulP D.p z z) % D.p)) := hrd 45 rfl rfl
   refine ⟨nofun, fun _ _ => trivial, nofun, .inr ⟨48, #[(.agg #[vp, vn, vb, vx, vy, .int .i64 (D.size : Int)]), a'.eval (.tmp 37), a'.eval (.tmp 45)], ?_, (callsIn_wide.2 (rtimes9_any V _ _ _ D _ _ hcr r37 r45 HP.out.1)).mono ?_⟩⟩
   ·simp [execOp, Act.eval, r36, resolve, invoke, Deferred.ofValue]
   ·rintro e w' ⟨v, rfl, hv, hB2⟩
    exact ⟨_, rfl, hB2, fun t ht => by cases ht; exact hv⟩
  ·simp at ho
   subst ho
   have r46 : Nb V (a'.eval (.tmp 46)) (mulP D.p (3) (mulP D.p (subP D.p (x) (mulP D.p z z)) ((x + mulP D.p z z) % D.p))) := hrd 46 rfl rfl
   refine ⟨nofun, fun _ _ => trivial, nofun, .inl ⟨a'.eval (.tmp 46), V, ?_, Below.refl _ _, fun t ht => by cases ht; exact r46⟩⟩
   simp [execOp]
 intro valsb w5 hBb hPb
 have hl7 : Nb w5 (valsb 11) (mulP D.p (3) (mulP D.p (subP D.p (x) (mulP D.p z z)) ((x + mulP D.p z z) % D.p))) := hPb 11 7 _ rfl rfl
 obtain ⟨l7, hv7⟩ : ∃ l, valsb 11 = l := ⟨_, rfl⟩
 rw [hv7] at hl7
 replace HR0 := hid (HR0.out.later hBb)
 replace HR1 := hid (HR1.out.later hBb)
 replace HRR := hid (HRR.out.later hBb)
 replace HCR := hid (HCR.out.later hBb)
 replace HKP := hid (HKP.out.later hBb)
 replace HA := hid (HA.out.later hBb)
 replace HBB := hid (HBB.out.later hBb)
 replace HZZ := hid (HZZ.out.later hBb)
 replace HL5 := hid (HL5.out.later hBb)
 replace HL6 := hid (HL6.out.later hBb)
 replace HB := hid (HB.out.trans (hBb.mono HB.out.size))
 have HL7 := hid (show Nb w5 l7 (twM D.p x z) from hl7)
 clear hPb hBb hl7
 simp [wrote, Act.put, hv7]
 have HM := hid (rtimes9_any w5 _ (.slice Ab nb' cb) (.slice Ab nb' cb) D y y HCR.out HBB.out HBB.out HP.out.1)
 have c0 := HR0.out.at_ (i := 0) rfl
 have c1 := HR0.out.at_ (i := 1) rfl
 have c2 := HR0.out.at_ (i := 2) rfl
 have c3 := HR0.out.at_ (i := 3) rfl
 have c4 := HR0.out.at_ (i := 4) rfl
 have c5 := HR0.out.at_ (i := 5) rfl
 have d1 := HR1.out.at_ (i := 1) rfl
 go_wp2_with fail
 refine HM.out.mono ?_
 rintro e w6 ⟨l8, rfl, hl8, hbq⟩
 replace HR0 := hid (HR0.out.later hbq)
 replace HR1 := hid (HR1.out.later hbq)
 replace HRR := hid (HRR.out.later hbq)
 replace HCR := hid (HCR.out.later hbq)
 replace HKP := hid (HKP.out.later hbq)
 replace HA := hid (HA.out.later hbq)
 replace HBB := hid (HBB.out.later hbq)
 replace HZZ := hid (HZZ.out.later hbq)
 replace HL5 := hid (HL5.out.later hbq)
 replace HL6 := hid (HL6.out.later hbq)
 replace HL7 := hid (HL7.out.later hbq)
 replace HB := hid (HB.out.trans (hbq.mono HB.out.size))
 have HL8 := hid (show Nb w6 l8 (mulP D.p y y) from hl8)
 clear hbq hl8 HM c0 c1 c2 c3 c4 c5 d1
 go_wp2_with fail
 refine (wpIn_wide (n := 9)).1 (wpIn_region_num0 rfl hmx [(53, .val (.agg #[vp, vn, vb, vx, vy, .int .i64 (D.size : Int)])), (54, .nb (4)), (55, .val (.agg #[vp, vn, vb, vx, vy, .int .i64 (D.size : Int)])), (56, .val (.pointer (some ⟨g1, 0, none⟩))), (57, .val (a)), (58, .val (l8)), (59, .nb (mulP D.p (x) (mulP D.p y y))), (60, .nb (mulP D.p (4) (mulP D.p (x) (mulP D.p y y)))), (9, .nb (mulP D.p (4) (mulP D.p (x) (mulP D.p y y))))] (by kernel_rfl) (by kernel_rfl) (by kernel_rfl) (by kernel_rfl) (by rfl) ?hopsc ?hendc)
 case hopsc =>
  intro i o a' V hB ho hev hrd
  have his : i < 9 := by have := (Array.getElem?_eq_some_iff.1 ho).1; simpa using this
  have hr0 := HR0.out.later hB
  have hr1 := HR1.out.later hB
  have c0 := hr0.at_ (i := 0) rfl
  have d0 := hr1.at_ (i := 0) rfl
  have d1 := hr1.at_ (i := 1) rfl
  have d2 := hr1.at_ (i := 2) rfl
  have hcr := HCR.out.later hB
  have hkp := HKP.out.later hB
  have hA := HA.out.later hB
  have hBB := HBB.out.later hB
  have hZZ := HZZ.out.later hB
  have hl5 := HL5.out.later hB
  have hl6 := HL6.out.later hB
  have hl7 := HL7.out.later hB
  have hl8 := HL8.out.later hB
  have hcase : i = 0 ∨ i = 1 ∨ i = 2 ∨ i = 3 ∨ i = 4 ∨ i = 5 ∨ i = 6 ∨ i = 7 ∨ i = 8 := by omega
  rcases hcase with rfl | rfl | rfl | rfl | rfl | rfl | rfl | rfl | rfl
  ·simp at ho
   subst ho
   have r2 := hev 2 rfl
   simp [Act.eval] at r2
   try simp [Act.put] at r2
   refine ⟨nofun, fun _ _ => trivial, nofun, .inl ⟨.agg #[vp, vn, vb, vx, vy, .int .i64 (D.size : Int)], V, exec_load 30 6 _ Tryz.underlying30 rfl Tryz.sizeCr _ rfl g0 [vp, vn, vb, vx, vy, .int .i64 (D.size : Int)] (by simpa [Act.eval] using r2) 30 hr0 rfl, Below.refl _ _, fun t ht => by cases ht; rfl⟩⟩
  ·simp at ho
   subst ho
   refine ⟨nofun, fun _ _ => trivial, nofun, .inr ⟨29, #[.int .u64 4], ?_, (callsIn_wide.2 (rof_b V 4 (by decide))).mono ?_⟩⟩
   ·simp [execOp, Act.eval, resolve, invoke, Deferred.ofValue]
   ·rintro e w' ⟨v, rfl, hv, hB2⟩
    exact ⟨_, rfl, hB2, fun t ht => by cases ht; exact hv⟩
  ·simp at ho
   subst ho
   have r2 := hev 2 rfl
   simp [Act.eval] at r2
   try simp [Act.put] at r2
   refine ⟨nofun, fun _ _ => trivial, nofun, .inl ⟨.agg #[vp, vn, vb, vx, vy, .int .i64 (D.size : Int)], V, exec_load 30 6 _ Tryz.underlying30 rfl Tryz.sizeCr _ rfl g0 [vp, vn, vb, vx, vy, .int .i64 (D.size : Int)] (by simpa [Act.eval] using r2) 30 hr0 rfl, Below.refl _ _, fun t ht => by cases ht; rfl⟩⟩
  ·simp at ho
   subst ho
   have r3 := hev 3 rfl
   simp [Act.eval] at r3
   refine ⟨nofun, fun _ _ => trivial, nofun, .inl ⟨.pointer (some ⟨g1, 0, none⟩), V, ?_, Below.refl _ _, fun t ht => by cases ht; rfl⟩⟩
   simp [execOp, Act.eval, go_sem, r3, c0, d0, d1, d2]
  ·simp at ho
   subst ho
   have r56 : a'.eval (.tmp 56) = .pointer (some ⟨g1, 0, none⟩) := hrd 56 rfl rfl
   simp [Act.eval] at r56
   refine ⟨nofun, fun _ _ => trivial, nofun, .inl ⟨a, V, ?_, Below.refl _ _, fun t ht => by cases ht; rfl⟩⟩
   simp [execOp, Act.eval, go_sem, r56, c0, d0, d1, d2]
  ·simp at ho
   subst ho
   have r8 := hev 8 rfl
   simp [Act.eval] at r8
   refine ⟨nofun, fun _ _ => trivial, nofun, .inl ⟨l8, V, ?_, Below.refl _ _, fun t ht => by cases ht; rfl⟩⟩
   simp [execOp, Act.eval, go_sem, r8, c0, d0, d1, d2]
  ·simp at ho
   subst ho
   have r55 : a'.eval (.tmp 55) = .agg #[vp, vn, vb, vx, vy, .int .i64 (D.size : Int)] := hrd 55 rfl rfl
   simp [Act.eval] at r55
   have r57 : a'.eval (.tmp 57) = a := hrd 57 rfl rfl
   simp [Act.eval] at r57
   have r58 : a'.eval (.tmp 58) = l8 := hrd 58 rfl rfl
   simp [Act.eval] at r58
   refine ⟨nofun, fun _ _ => trivial, nofun, .inr ⟨48, #[(.agg #[vp, vn, vb, vx, vy, .int .i64 (D.size : Int)]), a, l8], ?_, (callsIn_wide.2 (rtimes9_any V _ _ _ D _ _ hcr hA hl8 HP.out.1)).mono ?_⟩⟩
   ·simp [execOp, Act.eval, r55, r57, r58, resolve, invoke, Deferred.ofValue]
   ·rintro e w' ⟨v, rfl, hv, hB2⟩
    exact ⟨_, rfl, hB2, fun t ht => by cases ht; exact hv⟩
  ·simp at ho
   subst ho
   have r53 : a'.eval (.tmp 53) = .agg #[vp, vn, vb, vx, vy, .int .i64 (D.size : Int)] := hrd 53 rfl rfl
   simp [Act.eval] at r53
   have r54 : Nb V (a'.eval (.tmp 54)) (4) := hrd 54 rfl rfl
   have r59 : Nb V (a'.eval (.tmp 59)) (mulP D.p (x) (mulP D.p y y)) := hrd 59 rfl rfl
   refine ⟨nofun, fun _ _ => trivial, nofun, .inr ⟨48, #[(.agg #[vp, vn, vb, vx, vy, .int .i64 (D.size : Int)]), a'.eval (.tmp 54), a'.eval (.tmp 59)], ?_, (callsIn_wide.2 (rtimes9_any V _ _ _ D _ _ hcr r54 r59 HP.out.1)).mono ?_⟩⟩
   ·simp [execOp, Act.eval, r53, resolve, invoke, Deferred.ofValue]
   ·rintro e w' ⟨v, rfl, hv, hB2⟩
    exact ⟨_, rfl, hB2, fun t ht => by cases ht; exact hv⟩
  ·simp at ho
   subst ho
   have r60 : Nb V (a'.eval (.tmp 60)) (mulP D.p (4) (mulP D.p (x) (mulP D.p y y))) := hrd 60 rfl rfl
   refine ⟨nofun, fun _ _ => trivial, nofun, .inl ⟨a'.eval (.tmp 60), V, ?_, Below.refl _ _, fun t ht => by cases ht; exact r60⟩⟩
   simp [execOp]
 intro valsc w7 hBc hPc
 have hl9 : Nb w7 (valsc 8) (mulP D.p (4) (mulP D.p (x) (mulP D.p y y))) := hPc 8 9 _ rfl rfl
 obtain ⟨l9, hv9⟩ : ∃ l, valsc 8 = l := ⟨_, rfl⟩
 rw [hv9] at hl9
 replace HR0 := hid (HR0.out.later hBc)
 replace HR1 := hid (HR1.out.later hBc)
 replace HRR := hid (HRR.out.later hBc)
 replace HCR := hid (HCR.out.later hBc)
 replace HKP := hid (HKP.out.later hBc)
 replace HA := hid (HA.out.later hBc)
 replace HBB := hid (HBB.out.later hBc)
 replace HZZ := hid (HZZ.out.later hBc)
 replace HL5 := hid (HL5.out.later hBc)
 replace HL6 := hid (HL6.out.later hBc)
 replace HL7 := hid (HL7.out.later hBc)
 replace HL8 := hid (HL8.out.later hBc)
 replace HB := hid (HB.out.trans (hBc.mono HB.out.size))
 have HL9 := hid (show Nb w7 l9 (twS D.p x y) from hl9)
 clear hPc hBc hl9
 simp [wrote, Act.put, hv9]
 go_wp2_with fail
 refine (wpIn_wide (n := 9)).1 (wpIn_region_num0 rfl hmx [(61, .val (.agg #[vp, vn, vb, vx, vy, .int .i64 (D.size : Int)])), (62, .val (.agg #[vp, vn, vb, vx, vy, .int .i64 (D.size : Int)])), (63, .val (.agg #[vp, vn, vb, vx, vy, .int .i64 (D.size : Int)])), (64, .val (l7)), (65, .val (l7)), (66, .nb (mulP D.p (twM D.p x z) (twM D.p x z))), (67, .val (l9)), (68, .nb (subP D.p (mulP D.p (twM D.p x z) (twM D.p x z)) (twS D.p x y))), (69, .val (l9)), (70, .nb (subP D.p (subP D.p (mulP D.p (twM D.p x z) (twM D.p x z)) (twS D.p x y)) (twS D.p x y))), (10, .nb (subP D.p (subP D.p (mulP D.p (twM D.p x z) (twM D.p x z)) (twS D.p x y)) (twS D.p x y)))] (by kernel_rfl) (by kernel_rfl) (by kernel_rfl) (by kernel_rfl) (by rfl) ?hopsd ?hendd)
 case hopsd =>
  intro i o a' V hB ho hev hrd
  have his : i < 11 := by have := (Array.getElem?_eq_some_iff.1 ho).1; simpa using this
  have hr0 := HR0.out.later hB
  have hr1 := HR1.out.later hB
  have c0 := hr0.at_ (i := 0) rfl
  have d0 := hr1.at_ (i := 0) rfl
  have d1 := hr1.at_ (i := 1) rfl
  have d2 := hr1.at_ (i := 2) rfl
  have hcr := HCR.out.later hB
  have hkp := HKP.out.later hB
  have hA := HA.out.later hB
  have hBB := HBB.out.later hB
  have hZZ := HZZ.out.later hB
  have hl5 := HL5.out.later hB
  have hl6 := HL6.out.later hB
  have hl7 := HL7.out.later hB
  have hl8 := HL8.out.later hB
  have hl9 := HL9.out.later hB
  have hcase : i = 0 ∨ i = 1 ∨ i = 2 ∨ i = 3 ∨ i = 4 ∨ i = 5 ∨ i = 6 ∨ i = 7 ∨ i = 8 ∨ i = 9 ∨ i = 10 := by omega
  rcases hcase with rfl | rfl | rfl | rfl | rfl | rfl | rfl | rfl | rfl | rfl | rfl
  ·simp at ho
   subst ho
   have r2 := hev 2 rfl
   simp [Act.eval] at r2
   try simp [Act.put] at r2
   refine ⟨nofun, fun _ _ => trivial, nofun, .inl ⟨.agg #[vp, vn, vb, vx, vy, .int .i64 (D.size : Int)], V, exec_load 30 6 _ Tryz.underlying30 rfl Tryz.sizeCr _ rfl g0 [vp, vn, vb, vx, vy, .int .i64 (D.size : Int)] (by simpa [Act.eval] using r2) 30 hr0 rfl, Below.refl _ _, fun t ht => by cases ht; rfl⟩⟩
  ·simp at ho
   subst ho
   have r2 := hev 2 rfl
   simp [Act.eval] at r2
   try simp [Act.put] at r2
   refine ⟨nofun, fun _ _ => trivial, nofun, .inl ⟨.agg #[vp, vn, vb, vx, vy, .int .i64 (D.size : Int)], V, exec_load 30 6 _ Tryz.underlying30 rfl Tryz.sizeCr _ rfl g0 [vp, vn, vb, vx, vy, .int .i64 (D.size : Int)] (by simpa [Act.eval] using r2) 30 hr0 rfl, Below.refl _ _, fun t ht => by cases ht; rfl⟩⟩
  ·simp at ho
   subst ho
   have r2 := hev 2 rfl
   simp [Act.eval] at r2
   try simp [Act.put] at r2
   refine ⟨nofun, fun _ _ => trivial, nofun, .inl ⟨.agg #[vp, vn, vb, vx, vy, .int .i64 (D.size : Int)], V, exec_load 30 6 _ Tryz.underlying30 rfl Tryz.sizeCr _ rfl g0 [vp, vn, vb, vx, vy, .int .i64 (D.size : Int)] (by simpa [Act.eval] using r2) 30 hr0 rfl, Below.refl _ _, fun t ht => by cases ht; rfl⟩⟩
  ·simp at ho
   subst ho
   have r7 := hev 7 rfl
   simp [Act.eval] at r7
   refine ⟨nofun, fun _ _ => trivial, nofun, .inl ⟨l7, V, ?_, Below.refl _ _, fun t ht => by cases ht; rfl⟩⟩
   simp [execOp, Act.eval, go_sem, r7, c0, d0, d1, d2]
  ·simp at ho
   subst ho
   have r7 := hev 7 rfl
   simp [Act.eval] at r7
   refine ⟨nofun, fun _ _ => trivial, nofun, .inl ⟨l7, V, ?_, Below.refl _ _, fun t ht => by cases ht; rfl⟩⟩
   simp [execOp, Act.eval, go_sem, r7, c0, d0, d1, d2]
  ·simp at ho
   subst ho
   have r63 : a'.eval (.tmp 63) = .agg #[vp, vn, vb, vx, vy, .int .i64 (D.size : Int)] := hrd 63 rfl rfl
   simp [Act.eval] at r63
   have r64 : a'.eval (.tmp 64) = l7 := hrd 64 rfl rfl
   simp [Act.eval] at r64
   have r65 : a'.eval (.tmp 65) = l7 := hrd 65 rfl rfl
   simp [Act.eval] at r65
   refine ⟨nofun, fun _ _ => trivial, nofun, .inr ⟨48, #[(.agg #[vp, vn, vb, vx, vy, .int .i64 (D.size : Int)]), l7, l7], ?_, (callsIn_wide.2 (rtimes9_any V _ _ _ D _ _ hcr hl7 hl7 HP.out.1)).mono ?_⟩⟩
   ·simp [execOp, Act.eval, r63, r64, r65, resolve, invoke, Deferred.ofValue]
   ·rintro e w' ⟨v, rfl, hv, hB2⟩
    exact ⟨_, rfl, hB2, fun t ht => by cases ht; exact hv⟩
  ·simp at ho
   subst ho
   have r9 := hev 9 rfl
   simp [Act.eval] at r9
   refine ⟨nofun, fun _ _ => trivial, nofun, .inl ⟨l9, V, ?_, Below.refl _ _, fun t ht => by cases ht; rfl⟩⟩
   simp [execOp, Act.eval, go_sem, r9, c0, d0, d1, d2]
  ·simp at ho
   subst ho
   have r62 : a'.eval (.tmp 62) = .agg #[vp, vn, vb, vx, vy, .int .i64 (D.size : Int)] := hrd 62 rfl rfl
   simp [Act.eval] at r62
   have r66 : Nb V (a'.eval (.tmp 66)) (mulP D.p (twM D.p x z) (twM D.p x z)) := hrd 66 rfl rfl
   have r67 : a'.eval (.tmp 67) = l9 := hrd 67 rfl rfl
   simp [Act.eval] at r67
   refine ⟨nofun, fun _ _ => trivial, nofun, .inr ⟨50, #[(.agg #[vp, vn, vb, vx, vy, .int .i64 (D.size : Int)]), a'.eval (.tmp 66), l9], ?_, (callsIn_wide.2 (rminus9_any V _ _ _ D _ _ hcr r66 hl9 (mside HP.out (Nat.mod_lt _ HP.out.1) (Nat.mod_lt _ HP.out.1)))).mono ?_⟩⟩
   ·simp [execOp, Act.eval, r62, r67, resolve, invoke, Deferred.ofValue]
   ·rintro e w' ⟨v, rfl, hv, hB2⟩
    exact ⟨_, rfl, hB2, fun t ht => by cases ht; exact hv⟩
  ·simp at ho
   subst ho
   have r9 := hev 9 rfl
   simp [Act.eval] at r9
   refine ⟨nofun, fun _ _ => trivial, nofun, .inl ⟨l9, V, ?_, Below.refl _ _, fun t ht => by cases ht; rfl⟩⟩
   simp [execOp, Act.eval, go_sem, r9, c0, d0, d1, d2]
  ·simp at ho
   subst ho
   have r61 : a'.eval (.tmp 61) = .agg #[vp, vn, vb, vx, vy, .int .i64 (D.size : Int)] := hrd 61 rfl rfl
   simp [Act.eval] at r61
   have r68 : Nb V (a'.eval (.tmp 68)) (subP D.p (mulP D.p (twM D.p x z) (twM D.p x z)) (twS D.p x y)) := hrd 68 rfl rfl
   have r69 : a'.eval (.tmp 69) = l9 := hrd 69 rfl rfl
   simp [Act.eval] at r69
   refine ⟨nofun, fun _ _ => trivial, nofun, .inr ⟨50, #[(.agg #[vp, vn, vb, vx, vy, .int .i64 (D.size : Int)]), a'.eval (.tmp 68), l9], ?_, (callsIn_wide.2 (rminus9_any V _ _ _ D _ _ hcr r68 hl9 (mside HP.out (Nat.mod_lt _ HP.out.1) (Nat.mod_lt _ HP.out.1)))).mono ?_⟩⟩
   ·simp [execOp, Act.eval, r61, r69, resolve, invoke, Deferred.ofValue]
   ·rintro e w' ⟨v, rfl, hv, hB2⟩
    exact ⟨_, rfl, hB2, fun t ht => by cases ht; exact hv⟩
  ·simp at ho
   subst ho
   have r70 : Nb V (a'.eval (.tmp 70)) (subP D.p (subP D.p (mulP D.p (twM D.p x z) (twM D.p x z)) (twS D.p x y)) (twS D.p x y)) := hrd 70 rfl rfl
   refine ⟨nofun, fun _ _ => trivial, nofun, .inl ⟨a'.eval (.tmp 70), V, ?_, Below.refl _ _, fun t ht => by cases ht; exact r70⟩⟩
   simp [execOp]
 intro valsd w8 hBd hPd
 have hl10 : Nb w8 (valsd 10) (subP D.p (subP D.p (mulP D.p (twM D.p x z) (twM D.p x z)) (twS D.p x y)) (twS D.p x y)) := hPd 10 10 _ rfl rfl
 obtain ⟨l10, hv10⟩ : ∃ l, valsd 10 = l := ⟨_, rfl⟩
 rw [hv10] at hl10
 replace HR0 := hid (HR0.out.later hBd)
 replace HR1 := hid (HR1.out.later hBd)
 replace HRR := hid (HRR.out.later hBd)
 replace HCR := hid (HCR.out.later hBd)
 replace HKP := hid (HKP.out.later hBd)
 replace HA := hid (HA.out.later hBd)
 replace HBB := hid (HBB.out.later hBd)
 replace HZZ := hid (HZZ.out.later hBd)
 replace HL5 := hid (HL5.out.later hBd)
 replace HL6 := hid (HL6.out.later hBd)
 replace HL7 := hid (HL7.out.later hBd)
 replace HL8 := hid (HL8.out.later hBd)
 replace HL9 := hid (HL9.out.later hBd)
 replace HB := hid (HB.out.trans (hBd.mono HB.out.size))
 have HL10 := hid (show Nb w8 l10 (twX D.p x y z) from hl10)
 clear hPd hBd hl10
 simp [wrote, Act.put, hv10]
 go_wp2_with fail
 refine (wpIn_wide (n := 9)).1 (wpIn_region_num0 rfl hmx [(71, .val (.agg #[vp, vn, vb, vx, vy, .int .i64 (D.size : Int)])), (72, .val (.agg #[vp, vn, vb, vx, vy, .int .i64 (D.size : Int)])), (73, .val (l7)), (74, .val (.agg #[vp, vn, vb, vx, vy, .int .i64 (D.size : Int)])), (75, .val (l9)), (76, .val (l10)), (77, .nb (subP D.p (twS D.p x y) (twX D.p x y z))), (78, .nb (mulP D.p (twM D.p x z) (subP D.p (twS D.p x y) (twX D.p x y z)))), (79, .val (.agg #[vp, vn, vb, vx, vy, .int .i64 (D.size : Int)])), (80, .nb (8)), (81, .val (.agg #[vp, vn, vb, vx, vy, .int .i64 (D.size : Int)])), (82, .val (l8)), (83, .val (l8)), (84, .nb (mulP D.p (mulP D.p y y) (mulP D.p y y))), (85, .nb (mulP D.p (8) (mulP D.p (mulP D.p y y) (mulP D.p y y)))), (86, .nb (subP D.p (mulP D.p (twM D.p x z) (subP D.p (twS D.p x y) (twX D.p x y z))) (mulP D.p (8) (mulP D.p (mulP D.p y y) (mulP D.p y y))))), (11, .nb (subP D.p (mulP D.p (twM D.p x z) (subP D.p (twS D.p x y) (twX D.p x y z))) (mulP D.p (8) (mulP D.p (mulP D.p y y) (mulP D.p y y)))))] (by kernel_rfl) (by kernel_rfl) (by kernel_rfl) (by kernel_rfl) (by rfl) ?hopse ?hende)
 case hopse =>
  intro i o a' V hB ho hev hrd
  have his : i < 17 := by have := (Array.getElem?_eq_some_iff.1 ho).1; simpa using this
  have hr0 := HR0.out.later hB
  have hr1 := HR1.out.later hB
  have c0 := hr0.at_ (i := 0) rfl
  have d0 := hr1.at_ (i := 0) rfl
  have d1 := hr1.at_ (i := 1) rfl
  have d2 := hr1.at_ (i := 2) rfl
  have hcr := HCR.out.later hB
  have hkp := HKP.out.later hB
  have hA := HA.out.later hB
  have hBB := HBB.out.later hB
  have hZZ := HZZ.out.later hB
  have hl5 := HL5.out.later hB
  have hl6 := HL6.out.later hB
  have hl7 := HL7.out.later hB
  have hl8 := HL8.out.later hB
  have hl9 := HL9.out.later hB
  have hl10 := HL10.out.later hB
  have hcase : i = 0 ∨ i = 1 ∨ i = 2 ∨ i = 3 ∨ i = 4 ∨ i = 5 ∨ i = 6 ∨ i = 7 ∨ i = 8 ∨ i = 9 ∨ i = 10 ∨ i = 11 ∨ i = 12 ∨ i = 13 ∨ i = 14 ∨ i = 15 ∨ i = 16 := by omega
  rcases hcase with rfl | rfl | rfl | rfl | rfl | rfl | rfl | rfl | rfl | rfl | rfl | rfl | rfl | rfl | rfl | rfl | rfl
  ·simp at ho
   subst ho
   have r2 := hev 2 rfl
   simp [Act.eval] at r2
   try simp [Act.put] at r2
   refine ⟨nofun, fun _ _ => trivial, nofun, .inl ⟨.agg #[vp, vn, vb, vx, vy, .int .i64 (D.size : Int)], V, exec_load 30 6 _ Tryz.underlying30 rfl Tryz.sizeCr _ rfl g0 [vp, vn, vb, vx, vy, .int .i64 (D.size : Int)] (by simpa [Act.eval] using r2) 30 hr0 rfl, Below.refl _ _, fun t ht => by cases ht; rfl⟩⟩
  ·simp at ho
   subst ho
   have r2 := hev 2 rfl
   simp [Act.eval] at r2
   try simp [Act.put] at r2
   refine ⟨nofun, fun _ _ => trivial, nofun, .inl ⟨.agg #[vp, vn, vb, vx, vy, .int .i64 (D.size : Int)], V, exec_load 30 6 _ Tryz.underlying30 rfl Tryz.sizeCr _ rfl g0 [vp, vn, vb, vx, vy, .int .i64 (D.size : Int)] (by simpa [Act.eval] using r2) 30 hr0 rfl, Below.refl _ _, fun t ht => by cases ht; rfl⟩⟩
  ·simp at ho
   subst ho
   have r7 := hev 7 rfl
   simp [Act.eval] at r7
   refine ⟨nofun, fun _ _ => trivial, nofun, .inl ⟨l7, V, ?_, Below.refl _ _, fun t ht => by cases ht; rfl⟩⟩
   simp [execOp, Act.eval, go_sem, r7, c0, d0, d1, d2]
  ·simp at ho
   subst ho
   have r2 := hev 2 rfl
   simp [Act.eval] at r2
   try simp [Act.put] at r2
   refine ⟨nofun, fun _ _ => trivial, nofun, .inl ⟨.agg #[vp, vn, vb, vx, vy, .int .i64 (D.size : Int)], V, exec_load 30 6 _ Tryz.underlying30 rfl Tryz.sizeCr _ rfl g0 [vp, vn, vb, vx, vy, .int .i64 (D.size : Int)] (by simpa [Act.eval] using r2) 30 hr0 rfl, Below.refl _ _, fun t ht => by cases ht; rfl⟩⟩
  ·simp at ho
   subst ho
   have r9 := hev 9 rfl
   simp [Act.eval] at r9
   refine ⟨nofun, fun _ _ => trivial, nofun, .inl ⟨l9, V, ?_, Below.refl _ _, fun t ht => by cases ht; rfl⟩⟩
   simp [execOp, Act.eval, go_sem, r9, c0, d0, d1, d2]
  ·simp at ho
   subst ho
   have r10 := hev 10 rfl
   simp [Act.eval] at r10
   refine ⟨nofun, fun _ _ => trivial, nofun, .inl ⟨l10, V, ?_, Below.refl _ _, fun t ht => by cases ht; rfl⟩⟩
   simp [execOp, Act.eval, go_sem, r10, c0, d0, d1, d2]
  ·simp at ho
   subst ho
   have r74 : a'.eval (.tmp 74) = .agg #[vp, vn, vb, vx, vy, .int .i64 (D.size : Int)] := hrd 74 rfl rfl
   simp [Act.eval] at r74
   have r75 : a'.eval (.tmp 75) = l9 := hrd 75 rfl rfl
   simp [Act.eval] at r75
   have r76 : a'.eval (.tmp 76) = l10 := hrd 76 rfl rfl
   simp [Act.eval] at r76
   refine ⟨nofun, fun _ _ => trivial, nofun, .inr ⟨50, #[(.agg #[vp, vn, vb, vx, vy, .int .i64 (D.size : Int)]), l9, l10], ?_, (callsIn_wide.2 (rminus9_any V _ _ _ D _ _ hcr hl9 hl10 (mside HP.out (Nat.mod_lt _ HP.out.1) (Nat.mod_lt _ HP.out.1)))).mono ?_⟩⟩
   ·simp [execOp, Act.eval, r74, r75, r76, resolve, invoke, Deferred.ofValue]
   ·rintro e w' ⟨v, rfl, hv, hB2⟩
    exact ⟨_, rfl, hB2, fun t ht => by cases ht; exact hv⟩
  ·simp at ho
   subst ho
   have r72 : a'.eval (.tmp 72) = .agg #[vp, vn, vb, vx, vy, .int .i64 (D.size : Int)] := hrd 72 rfl rfl
   simp [Act.eval] at r72
   have r73 : a'.eval (.tmp 73) = l7 := hrd 73 rfl rfl
   simp [Act.eval] at r73
   have r77 : Nb V (a'.eval (.tmp 77)) (subP D.p (twS D.p x y) (twX D.p x y z)) := hrd 77 rfl rfl
   refine ⟨nofun, fun _ _ => trivial, nofun, .inr ⟨48, #[(.agg #[vp, vn, vb, vx, vy, .int .i64 (D.size : Int)]), l7, a'.eval (.tmp 77)], ?_, (callsIn_wide.2 (rtimes9_any V _ _ _ D _ _ hcr hl7 r77 HP.out.1)).mono ?_⟩⟩
   ·simp [execOp, Act.eval, r72, r73, resolve, invoke, Deferred.ofValue]
   ·rintro e w' ⟨v, rfl, hv, hB2⟩
    exact ⟨_, rfl, hB2, fun t ht => by cases ht; exact hv⟩
  ·simp at ho
   subst ho
   have r2 := hev 2 rfl
   simp [Act.eval] at r2
   try simp [Act.put] at r2
   refine ⟨nofun, fun _ _ => trivial, nofun, .inl ⟨.agg #[vp, vn, vb, vx, vy, .int .i64 (D.size : Int)], V, exec_load 30 6 _ Tryz.underlying30 rfl Tryz.sizeCr _ rfl g0 [vp, vn, vb, vx, vy, .int .i64 (D.size : Int)] (by simpa [Act.eval] using r2) 30 hr0 rfl, Below.refl _ _, fun t ht => by cases ht; rfl⟩⟩
  ·simp at ho
   subst ho
   refine ⟨nofun, fun _ _ => trivial, nofun, .inr ⟨29, #[.int .u64 8], ?_, (callsIn_wide.2 (rof_b V 8 (by decide))).mono ?_⟩⟩
   ·simp [execOp, Act.eval, resolve, invoke, Deferred.ofValue]
   ·rintro e w' ⟨v, rfl, hv, hB2⟩
    exact ⟨_, rfl, hB2, fun t ht => by cases ht; exact hv⟩
  ·simp at ho
   subst ho
   have r2 := hev 2 rfl
   simp [Act.eval] at r2
   try simp [Act.put] at r2
   refine ⟨nofun, fun _ _ => trivial, nofun, .inl ⟨.agg #[vp, vn, vb, vx, vy, .int .i64 (D.size : Int)], V, exec_load 30 6 _ Tryz.underlying30 rfl Tryz.sizeCr _ rfl g0 [vp, vn, vb, vx, vy, .int .i64 (D.size : Int)] (by simpa [Act.eval] using r2) 30 hr0 rfl, Below.refl _ _, fun t ht => by cases ht; rfl⟩⟩
  ·simp at ho
   subst ho
   have r8 := hev 8 rfl
   simp [Act.eval] at r8
   refine ⟨nofun, fun _ _ => trivial, nofun, .inl ⟨l8, V, ?_, Below.refl _ _, fun t ht => by cases ht; rfl⟩⟩
   simp [execOp, Act.eval, go_sem, r8, c0, d0, d1, d2]
  ·simp at ho
   subst ho
   have r8 := hev 8 rfl
   simp [Act.eval] at r8
   refine ⟨nofun, fun _ _ => trivial, nofun, .inl ⟨l8, V, ?_, Below.refl _ _, fun t ht => by cases ht; rfl⟩⟩
   simp [execOp, Act.eval, go_sem, r8, c0, d0, d1, d2]
  ·simp at ho
   subst ho
   have r81 : a'.eval (.tmp 81) = .agg #[vp, vn, vb, vx, vy, .int .i64 (D.size : Int)] := hrd 81 rfl rfl
   simp [Act.eval] at r81
   have r82 : a'.eval (.tmp 82) = l8 := hrd 82 rfl rfl
   simp [Act.eval] at r82
   have r83 : a'.eval (.tmp 83) = l8 := hrd 83 rfl rfl
   simp [Act.eval] at r83
   refine ⟨nofun, fun _ _ => trivial, nofun, .inr ⟨48, #[(.agg #[vp, vn, vb, vx, vy, .int .i64 (D.size : Int)]), l8, l8], ?_, (callsIn_wide.2 (rtimes9_any V _ _ _ D _ _ hcr hl8 hl8 HP.out.1)).mono ?_⟩⟩
   ·simp [execOp, Act.eval, r81, r82, r83, resolve, invoke, Deferred.ofValue]
   ·rintro e w' ⟨v, rfl, hv, hB2⟩
    exact ⟨_, rfl, hB2, fun t ht => by cases ht; exact hv⟩
  ·simp at ho
   subst ho
   have r79 : a'.eval (.tmp 79) = .agg #[vp, vn, vb, vx, vy, .int .i64 (D.size : Int)] := hrd 79 rfl rfl
   simp [Act.eval] at r79
   have r80 : Nb V (a'.eval (.tmp 80)) (8) := hrd 80 rfl rfl
   have r84 : Nb V (a'.eval (.tmp 84)) (mulP D.p (mulP D.p y y) (mulP D.p y y)) := hrd 84 rfl rfl
   refine ⟨nofun, fun _ _ => trivial, nofun, .inr ⟨48, #[(.agg #[vp, vn, vb, vx, vy, .int .i64 (D.size : Int)]), a'.eval (.tmp 80), a'.eval (.tmp 84)], ?_, (callsIn_wide.2 (rtimes9_any V _ _ _ D _ _ hcr r80 r84 HP.out.1)).mono ?_⟩⟩
   ·simp [execOp, Act.eval, r79, resolve, invoke, Deferred.ofValue]
   ·rintro e w' ⟨v, rfl, hv, hB2⟩
    exact ⟨_, rfl, hB2, fun t ht => by cases ht; exact hv⟩
  ·simp at ho
   subst ho
   have r71 : a'.eval (.tmp 71) = .agg #[vp, vn, vb, vx, vy, .int .i64 (D.size : Int)] := hrd 71 rfl rfl
   simp [Act.eval] at r71
   have r78 : Nb V (a'.eval (.tmp 78)) (mulP D.p (twM D.p x z) (subP D.p (twS D.p x y) (twX D.p x y z))) := hrd 78 rfl rfl
   have r85 : Nb V (a'.eval (.tmp 85)) (mulP D.p (8) (mulP D.p (mulP D.p y y) (mulP D.p y y))) := hrd 85 rfl rfl
   refine ⟨nofun, fun _ _ => trivial, nofun, .inr ⟨50, #[(.agg #[vp, vn, vb, vx, vy, .int .i64 (D.size : Int)]), a'.eval (.tmp 78), a'.eval (.tmp 85)], ?_, (callsIn_wide.2 (rminus9_any V _ _ _ D _ _ hcr r78 r85 (mside HP.out (Nat.mod_lt _ HP.out.1) (Nat.mod_lt _ HP.out.1)))).mono ?_⟩⟩
   ·simp [execOp, Act.eval, r71, resolve, invoke, Deferred.ofValue]
   ·rintro e w' ⟨v, rfl, hv, hB2⟩
    exact ⟨_, rfl, hB2, fun t ht => by cases ht; exact hv⟩
  ·simp at ho
   subst ho
   have r86 : Nb V (a'.eval (.tmp 86)) (subP D.p (mulP D.p (twM D.p x z) (subP D.p (twS D.p x y) (twX D.p x y z))) (mulP D.p (8) (mulP D.p (mulP D.p y y) (mulP D.p y y)))) := hrd 86 rfl rfl
   refine ⟨nofun, fun _ _ => trivial, nofun, .inl ⟨a'.eval (.tmp 86), V, ?_, Below.refl _ _, fun t ht => by cases ht; exact r86⟩⟩
   simp [execOp]
 intro valse w9 hBe hPe
 have hl11 : Nb w9 (valse 16) (subP D.p (mulP D.p (twM D.p x z) (subP D.p (twS D.p x y) (twX D.p x y z))) (mulP D.p (8) (mulP D.p (mulP D.p y y) (mulP D.p y y)))) := hPe 16 11 _ rfl rfl
 obtain ⟨l11, hv11⟩ : ∃ l, valse 16 = l := ⟨_, rfl⟩
 rw [hv11] at hl11
 replace HR0 := hid (HR0.out.later hBe)
 replace HR1 := hid (HR1.out.later hBe)
 replace HRR := hid (HRR.out.later hBe)
 replace HCR := hid (HCR.out.later hBe)
 replace HKP := hid (HKP.out.later hBe)
 replace HA := hid (HA.out.later hBe)
 replace HBB := hid (HBB.out.later hBe)
 replace HZZ := hid (HZZ.out.later hBe)
 replace HL5 := hid (HL5.out.later hBe)
 replace HL6 := hid (HL6.out.later hBe)
 replace HL7 := hid (HL7.out.later hBe)
 replace HL8 := hid (HL8.out.later hBe)
 replace HL9 := hid (HL9.out.later hBe)
 replace HL10 := hid (HL10.out.later hBe)
 replace HB := hid (HB.out.trans (hBe.mono HB.out.size))
 have HL11 := hid (show Nb w9 l11 (twY D.p x y z) from hl11)
 clear hPe hBe hl11
 simp [wrote, Act.put, hv11]
 go_wp2_with fail
 obtain ⟨A10, n10, c10, rfl⟩ := HL10.out.sl
 obtain ⟨A11, n11, c11, rfl⟩ := HL11.out.sl
 have hno : NoU w9 gr := NoU.of_row HRR.out (noU3 nofun nofun nofun)
 have HNO := hid hno
 clear hno
 refine (wpIn_wide (n := 9)).1 (wpIn_region_num1 rfl hmx [(87, .val (.slice A10 n10 c10)), (88, .val (.slice A11 n11 c11)), (89, .val (.agg #[vp, vn, vb, vx, vy, .int .i64 (D.size : Int)])), (90, .nb (2)), (91, .val (.agg #[vp, vn, vb, vx, vy, .int .i64 (D.size : Int)])), (92, .val (.pointer (some ⟨g1, 1, none⟩))), (93, .val (.slice Ab nb' cb)), (94, .val (.pointer (some ⟨g1, 2, none⟩))), (95, .val (.slice Ac nc cc)), (96, .nb (mulP D.p (y) (z))), (97, .nb (mulP D.p (2) (mulP D.p (y) (z)))), (98, .jc (twX D.p x y z, twY D.p x y z, mulP D.p 2 (mulP D.p y z)))] (by kernel_rfl) (by kernel_rfl) (by kernel_rfl) (by kernel_rfl) (by rfl) gr 12 ⟨_, rfl, rfl⟩ (HRR.out.lt) HNO.out 100 3 ⟨_, HRR.out, rfl⟩ (fun V => ∃ v0 v1 v2, RowV 100 V gr [v0, v1, v2] ∧ Jc V (.agg #[v0, v1, v2]) (twX D.p x y z, twY D.p x y z, mulP D.p 2 (mulP D.p y z))) ?hPs ?hops10 ?hs10 ?hend10)
 case hPs =>
  rintro V V' hlt hb ⟨v0, v1, v2, hr, ht⟩
  exact ⟨v0, v1, v2, hr.later hb, ht.later hb⟩
 case hops10 =>
  intro i o a' V hns hB ho hev hrd
  have his : i < 13 := by have := (Array.getElem?_eq_some_iff.1 ho).1; simpa using this
  have hSB : Sb w9 V := ⟨gr, HNO.out, hB⟩
  have hr0 := HR0.out.grown hB HGL.out.2.1
  have hr1 := HR1.out.grown hB HGL.out.2.2
  have c0 := hr0.at_ (i := 0) rfl
  have d0 := hr1.at_ (i := 0) rfl
  have d1 := hr1.at_ (i := 1) rfl
  have d2 := hr1.at_ (i := 2) rfl
  have hcr := HCR.out.sb hSB
  have hkp := HKP.out.sb hSB
  have hA := HA.out.sb hSB
  have hBB := HBB.out.sb hSB
  have hZZ := HZZ.out.sb hSB
  have hl10 := HL10.out.sb hSB
  have hl11 := HL11.out.sb hSB
  have hcase : i = 0 ∨ i = 1 ∨ i = 2 ∨ i = 3 ∨ i = 4 ∨ i = 5 ∨ i = 6 ∨ i = 7 ∨ i = 8 ∨ i = 9 ∨ i = 10 ∨ i = 11 ∨ i = 12 := by omega
  rcases hcase with rfl | rfl | rfl | rfl | rfl | rfl | rfl | rfl | rfl | rfl | rfl | rfl | rfl
  ·simp at ho
   subst ho
   have r10 := hev 10 rfl
   simp [Act.eval] at r10
   refine ⟨nofun, fun _ _ => trivial, nofun, .inl ⟨.slice A10 n10 c10, V, ?_, Below.refl _ _, fun t ht => by cases ht; rfl⟩⟩
   simp [execOp, Act.eval, go_sem, r10, c0, d0, d1, d2]
  ·simp at ho
   subst ho
   have r11 := hev 11 rfl
   simp [Act.eval] at r11
   refine ⟨nofun, fun _ _ => trivial, nofun, .inl ⟨.slice A11 n11 c11, V, ?_, Below.refl _ _, fun t ht => by cases ht; rfl⟩⟩
   simp [execOp, Act.eval, go_sem, r11, c0, d0, d1, d2]
  ·simp at ho
   subst ho
   have r2 := hev 2 rfl
   simp [Act.eval] at r2
   try simp [Act.put] at r2
   refine ⟨nofun, fun _ _ => trivial, nofun, .inl ⟨.agg #[vp, vn, vb, vx, vy, .int .i64 (D.size : Int)], V, exec_load 30 6 _ Tryz.underlying30 rfl Tryz.sizeCr _ rfl g0 [vp, vn, vb, vx, vy, .int .i64 (D.size : Int)] (by simpa [Act.eval] using r2) 30 hr0 rfl, Below.refl _ _, fun t ht => by cases ht; rfl⟩⟩
  ·simp at ho
   subst ho
   refine ⟨nofun, fun _ _ => trivial, nofun, .inr ⟨29, #[.int .u64 2], ?_, (callsIn_wide.2 (rof_b V 2 (by decide))).mono ?_⟩⟩
   ·simp [execOp, Act.eval, resolve, invoke, Deferred.ofValue]
   ·rintro e w' ⟨v, rfl, hv, hB2⟩
    exact ⟨_, rfl, hB2, fun t ht => by cases ht; exact hv⟩
  ·simp at ho
   subst ho
   have r2 := hev 2 rfl
   simp [Act.eval] at r2
   try simp [Act.put] at r2
   refine ⟨nofun, fun _ _ => trivial, nofun, .inl ⟨.agg #[vp, vn, vb, vx, vy, .int .i64 (D.size : Int)], V, exec_load 30 6 _ Tryz.underlying30 rfl Tryz.sizeCr _ rfl g0 [vp, vn, vb, vx, vy, .int .i64 (D.size : Int)] (by simpa [Act.eval] using r2) 30 hr0 rfl, Below.refl _ _, fun t ht => by cases ht; rfl⟩⟩
  ·simp at ho
   subst ho
   have r3 := hev 3 rfl
   simp [Act.eval] at r3
   refine ⟨nofun, fun _ _ => trivial, nofun, .inl ⟨.pointer (some ⟨g1, 1, none⟩), V, ?_, Below.refl _ _, fun t ht => by cases ht; rfl⟩⟩
   simp [execOp, Act.eval, go_sem, r3, c0, d0, d1, d2]
  ·simp at ho
   subst ho
   have r92 : a'.eval (.tmp 92) = .pointer (some ⟨g1, 1, none⟩) := hrd 92 rfl rfl
   simp [Act.eval] at r92
   refine ⟨nofun, fun _ _ => trivial, nofun, .inl ⟨.slice Ab nb' cb, V, ?_, Below.refl _ _, fun t ht => by cases ht; rfl⟩⟩
   simp [execOp, Act.eval, go_sem, r92, c0, d0, d1, d2]
  ·simp at ho
   subst ho
   have r3 := hev 3 rfl
   simp [Act.eval] at r3
   refine ⟨nofun, fun _ _ => trivial, nofun, .inl ⟨.pointer (some ⟨g1, 2, none⟩), V, ?_, Below.refl _ _, fun t ht => by cases ht; rfl⟩⟩
   simp [execOp, Act.eval, go_sem, r3, c0, d0, d1, d2]
  ·simp at ho
   subst ho
   have r94 : a'.eval (.tmp 94) = .pointer (some ⟨g1, 2, none⟩) := hrd 94 rfl rfl
   simp [Act.eval] at r94
   refine ⟨nofun, fun _ _ => trivial, nofun, .inl ⟨.slice Ac nc cc, V, ?_, Below.refl _ _, fun t ht => by cases ht; rfl⟩⟩
   simp [execOp, Act.eval, go_sem, r94, c0, d0, d1, d2]
  ·simp at ho
   subst ho
   have r91 : a'.eval (.tmp 91) = .agg #[vp, vn, vb, vx, vy, .int .i64 (D.size : Int)] := hrd 91 rfl rfl
   simp [Act.eval] at r91
   have r93 : a'.eval (.tmp 93) = .slice Ab nb' cb := hrd 93 rfl rfl
   simp [Act.eval] at r93
   have r95 : a'.eval (.tmp 95) = .slice Ac nc cc := hrd 95 rfl rfl
   simp [Act.eval] at r95
   refine ⟨nofun, fun _ _ => trivial, nofun, .inr ⟨48, #[(.agg #[vp, vn, vb, vx, vy, .int .i64 (D.size : Int)]), .slice Ab nb' cb, .slice Ac nc cc], ?_, (callsIn_wide.2 (rtimes9_any V _ _ _ D _ _ hcr hBB hZZ HP.out.1)).mono ?_⟩⟩
   ·simp [execOp, Act.eval, r91, r93, r95, resolve, invoke, Deferred.ofValue]
   ·rintro e w' ⟨v, rfl, hv, hB2⟩
    exact ⟨_, rfl, hB2, fun t ht => by cases ht; exact hv⟩
  ·simp at ho
   subst ho
   have r89 : a'.eval (.tmp 89) = .agg #[vp, vn, vb, vx, vy, .int .i64 (D.size : Int)] := hrd 89 rfl rfl
   simp [Act.eval] at r89
   have r90 : Nb V (a'.eval (.tmp 90)) (2) := hrd 90 rfl rfl
   have r96 : Nb V (a'.eval (.tmp 96)) (mulP D.p (y) (z)) := hrd 96 rfl rfl
   refine ⟨nofun, fun _ _ => trivial, nofun, .inr ⟨48, #[(.agg #[vp, vn, vb, vx, vy, .int .i64 (D.size : Int)]), a'.eval (.tmp 90), a'.eval (.tmp 96)], ?_, (callsIn_wide.2 (rtimes9_any V _ _ _ D _ _ hcr r90 r96 HP.out.1)).mono ?_⟩⟩
   ·simp [execOp, Act.eval, r89, resolve, invoke, Deferred.ofValue]
   ·rintro e w' ⟨v, rfl, hv, hB2⟩
    exact ⟨_, rfl, hB2, fun t ht => by cases ht; exact hv⟩
  ·simp at ho
   subst ho
   have r87 : a'.eval (.tmp 87) = .slice A10 n10 c10 := hrd 87 rfl rfl
   simp [Act.eval] at r87
   have r88 : a'.eval (.tmp 88) = .slice A11 n11 c11 := hrd 88 rfl rfl
   simp [Act.eval] at r88
   have r97 : Nb V (a'.eval (.tmp 97)) (mulP D.p (2) (mulP D.p (y) (z))) := hrd 97 rfl rfl
   obtain ⟨A97, n97, c97, h97⟩ := r97.sl
   rw [h97] at r97
   simp [Act.eval] at h97
   refine ⟨nofun, fun _ _ => trivial, nofun, .inl ⟨.agg #[.slice A10 n10 c10, .slice A11 n11 c11, .slice A97 n97 c97], V, ?_, Below.refl _ _, fun t ht => by cases ht; exact ⟨_, _, _, rfl, hl10, hl11, r97⟩⟩⟩
   simp [execOp, Act.eval, go_sem, r87, r88, h97]
  ·simp at ho
   subst ho
   exact absurd rfl hns
 case hs10 =>
  intro o a' V hG hN hshp ho hev hrd
  simp at ho
  have hop : o.op = .store 100 (.tmp 4) (.tmp 98) := by subst ho; rfl
  have hds : o.dst = none := by subst ho; rfl
  have hrd98 : readsB o 98 = true := by subst ho; rfl
  have r98 : Jc V (a'.eval (.tmp 98)) (twX D.p x y z, twY D.p x y z, mulP D.p 2 (mulP D.p y z)) := hrd 98 hrd98 (by rfl)
  have o4 := hev 4 rfl
  obtain ⟨v0, v1, v2, he, q1, q2, q3⟩ := r98
  obtain ⟨vs, hrv, hvl⟩ := hshp
  obtain ⟨V', hrun, hr', hg'⟩ := exec_store (P := Tryz.prog) (w := V) (o := o) (a := a') 100 3 Tryz.sizeJc (.tmp 4) (.tmp 98) hop gr [v0, v1, v2] (by rw [o4]; rfl) he 100 vs hrv hvl rfl (ones3 q1.one q2.one q3.one)
  refine ⟨(by intro c h; rw [hop] at h; cases h), fun _ _ => trivial, hds, V', hrun, hg', NoU.of_row hr' (noU3 q1.no q2.no q3.no), ⟨_, hr', rfl⟩, v0, v1, v2, hr', ?_⟩
  have hsb : Sb V V' := ⟨gr, hN, hg'⟩
  exact ⟨_, _, _, rfl, q1.sb hsb, q2.sb hsb, q3.sb hsb⟩
 case hend10 =>
  rintro vals V hG hN - ⟨v0, v1, v2, hr, ht⟩
  simp [wrote, Act.put]
  go_wp2_with fail
  refine ⟨rfl, _, results_jc rfl _ gr _ rfl hr rfl, _, rfl, ht, below_grown HB.out hG HGL.out.1 HB.out.size⟩
end Go.Proofs.YtbejcollbkeedaaGreat
