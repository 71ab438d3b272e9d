/- Parts of one proof, joined: CuI, CuJ, CuK, CuO, RvA, ModT, RvC. -/
import Derived.Test.YtbejcollbkeedaaGreatPileM7
import Derived.Test.YtbejcollbkeedaaGreatPileM2
import Derived.Test.YtbejcollbkeedaaGreatPileM6
import Derived.Test.YtbejcollbkeedaaGreatPileM1
import Derived.Test.YtbejcollbkeedaaGreatPileM5
import Derived.Test.YtbejcollbkeedaaGreatPileM4
set_option linter.unusedVariables false
set_option linter.unusedSimpArgs false
set_option linter.unusedSectionVars false
set_option maxRecDepth 100000
set_option maxHeartbeats 8000000
open Go.Lib (hid)
namespace Go.Proofs.YtbejcollbkeedaaGreat
open Go.RowKit
def hasN (p b : Nat) : Option (Nat × Nat) → Prop
 | none => True
 | some (x, y) => x < p ∧ y < p ∧ y * y % p = sumN p (x * difN p (x * x % p) 3 % p) b
instance (p b : Nat) (P : Option (Nat × Nat)) : Decidable (hasN p b P) := by
 unfold hasN
 split
 ·exact isTrue trivial
 ·infer_instance
theorem ncmpGe {a b : Nat} (h : b ≤ a) : 0 ≤ ncmp a b := by
 unfold ncmp
 split
 ·omega
 ·split <;> omega
theorem ncmpLt {a b : Nat} (h : a < b) : ¬ 0 ≤ ncmp a b := by
 unfold ncmp
 rw [if_pos h]
 omega
theorem ncmpEq {a b : Nat} : ncmp a b = 0 ↔ a = b := by
 unfold ncmp
 split
 ·constructor <;> (intro; omega)
 ·split
  ·constructor <;> (intro; omega)
  ·constructor <;> (intro; omega)
theorem chas_any (w : World) (D : Crv) (P : Option (Nat × Nat)) (vd vP : Value) (hd : Dm w vd D) (hP : Pg w vP P) (hp : 3 < D.p) (hp2 : D.p + D.p < b64 ^ 64) (hb : D.b < D.p) :
  Calls Tryz.prog 46 #[vd, vP] w fun e w' => e = .returned (.bool (decide (hasN D.p D.b P))) ∧ Below w.heap.size w w' := by
 have hmx : Tryz.prog.follows .mixedOrders = true := by kernel_rfl
 obtain ⟨vp, vb, vn, vx, vy, rfl, h1, h2, h3, h4, h5⟩ := hd
 obtain ⟨Ap, np, cp, rfl⟩ := h1.sl
 obtain ⟨W0, e0, r0, b0, s0⟩ := newS w 73 [.int .i64 (D.size : Int), .slice Ap np cp, vb, vn, .bool false, vx, vy] _ rfl
 rcases P with _ | ⟨x, y⟩
 ·obtain ⟨a, b, rfl, ha, hb'⟩ := hP
  obtain ⟨W1, e1, r1, b1, s1⟩ := newS W0 26 [.bool true, a, b] _ rfl
  have hbw : Below w.heap.size w W1 := b0.trans (b1.mono b0.size)
  have c0 := r1.at_ (i := 0) rfl
  have HB := hid hbw
  clear b0 b1 s0 s1 hbw r0 r1 h1 h2 h3 h4 h5
  go_enter Tryz.func46, Tryz.ntmps46
  go_wp2
  go_ret
  exact ⟨rfl, HB.out⟩
 ·obtain ⟨a, b, rfl, ha, hb'⟩ := hP
  obtain ⟨W1, e1, r1, b1, s1⟩ := newS W0 26 [.bool false, a, b] _ rfl
  obtain ⟨g0, hg0⟩ : ∃ g, w.heap.size = g := ⟨_, rfl⟩
  obtain ⟨g1, hg1⟩ : ∃ g, W0.heap.size = g := ⟨_, rfl⟩
  have hbw : Below w.heap.size w W1 := b0.trans (b1.mono b0.size)
  rw [hg0] at r0; rw [hg1] at r1
  have r01 := r0.later b1
  have c1 := r01.at_ (i := 1) rfl
  have d0 := r1.at_ (i := 0) rfl
  have d1 := r1.at_ (i := 1) rfl
  have HB := hid hbw
  have HLT := hid (show g0 < W1.heap.size ∧ g1 < W1.heap.size by omega)
  have H1 := hid (h1.later hbw)
  have H2 := hid (h2.later hbw)
  have HA := hid (ha.later hbw)
  have HBb := hid (hb'.later hbw)
  have HR0 := hid r01
  have HR1 := hid r1
  have HP := hid (And.intro hp (And.intro hp2 hb))
  have HC := hid (lcmp_u W1 a (.slice Ap np cp) x D.p 64 64 (ha.later hbw) (h1.later hbw).gu)
  clear b0 b1 s0 s1 hbw r0 r1 r01 h1 h2 h3 h4 h5 ha hb' hp hp2 hb
  go_enter Tryz.func46, Tryz.ntmps46
  go_wp2_with fail
  refine HC.out.mono ?_
  rintro e w2 ⟨rfl, hb2⟩
  have HB2 := hid (HB.out.trans (hb2.mono HB.out.size))
  by_cases hx : D.p ≤ x
  ·have hn := ncmpGe hx
   have hdec : decide (hasN D.p D.b (some (x, y))) = false := decide_eq_false (fun h => by have := h.1; omega)
   have HD := hid hdec
   clear hx hdec hb2 c1 d0 d1
   go_wp2
   go_ret
   rw [HD.out]
   exact ⟨rfl, HB2.out⟩
  ·have hn := ncmpLt (show x < D.p by omega)
   have HX := hid (show x < D.p by omega)
   have r02 := HR0.out.later hb2
   have r12 := HR1.out.later hb2
   have c12 := r02.at_ (i := 1) rfl
   have d22 := r12.at_ (i := 2) rfl
   have H12 := hid (H1.out.later hb2)
   have H22 := hid (H2.out.later hb2)
   have HA2 := hid (HA.out.later hb2)
   have HBb2 := hid (HBb.out.later hb2)
   have HR02 := hid r02
   have HR12 := hid r12
   have HC2 := hid (lcmp_u w2 b (.slice Ap np cp) y D.p 64 64 HBb2.out H12.out.gu)
   clear hx hb2 r02 r12 HC HR0 HR1 H1 H2 HA HBb HB c1 d0 d1
   go_wp2_with fail
   refine HC2.out.mono ?_
   rintro e w3 ⟨rfl, hb3⟩
   have HB3 := hid (HB2.out.trans (hb3.mono HB2.out.size))
   by_cases hy : D.p ≤ y
   ·have hn2 := ncmpGe hy
    have hdec : decide (hasN D.p D.b (some (x, y))) = false := decide_eq_false (fun h => by have := h.2.1; omega)
    have HD := hid hdec
    clear hy hdec hb3 c12 d22
    go_wp2
    go_ret
    rw [HD.out]
    exact ⟨rfl, HB3.out⟩
   ·have hn2 := ncmpLt (show y < D.p by omega)
    have HY := hid (show y < D.p by omega)
    have r03 := HR02.out.later hb3
    have r13 := HR12.out.later hb3
    have HL3 := hid (show g0 < w3.heap.size ∧ g1 < w3.heap.size from ⟨r03.lt, r13.lt⟩)
    obtain ⟨W4, e4, r4, b4, s4⟩ := newS w3 84 [.slice none 0 0] _ rfl
    obtain ⟨g4, hg4⟩ : ∃ g, w3.heap.size = g := ⟨_, rfl⟩
    rw [hg4] at r4
    have hne : g0 ≠ g4 ∧ g1 ≠ g4 := by have := HL3.out; omega
    have cf4 := r4.at_ (i := 0) rfl
    have ff4 := r4.frozen
    have c13 := r03.at_ (i := 1) rfl
    have c14 := (r03.later b4).at_ (i := 1) rfl
    obtain ⟨W5, hW5⟩ : ∃ X, W4.setCell ⟨g4, 0, none⟩ (.slice Ap np cp) = X := ⟨_, rfl⟩
    have hg5 : W4.grownBy W5 (some g4) := by rw [← hW5]; exact grown_set (World.grownBy.refl W4 _) 0 _
    have hs5 : Sb W4 W5 := ⟨g4, NoU.of_row r4 (by intro v hv x; simp only [List.mem_cons, List.not_mem_nil, or_false] at hv; subst hv; intro h; cases h), hg5⟩
    have HF := hid (show RowV 84 W5 g4 [.slice Ap np cp] by rw [← hW5]; exact r4.set 0 _)
    have HR0 := hid ((r03.later b4).grown hg5 hne.1)
    have HR1 := hid ((r13.later b4).grown hg5 hne.2)
    have H1 := hid (((H12.out.later hb3).later b4).sb hs5)
    have H2 := hid (((H22.out.later hb3).later b4).sb hs5)
    have HA := hid (((HA2.out.later hb3).later b4).sb hs5)
    have HBb := hid (((HBb2.out.later hb3).later b4).sb hs5)
    have HB4 := HB3.out.trans (b4.mono HB3.out.size)
    have HB5 := hid (below_grown HB4 hg5 (by have := HB3.out.size; omega) HB4.size)
    clear hy hb3 r03 r13 HC2 HR02 HR12 H12 H22 HA2 HBb2 HB2 HB3 HB4 hs5 b4 s4 r4 hg5 hne c12 d22
    go_wp2_with fail
    clear hW5 cf4 ff4 c13 c14 e0 e1 e4
    refine (wpIn_wide (n := 9)).1 (wpIn_region_num0 rfl hmx [(26, .val (Fd (.slice Ap np cp))), (27, .val (Fd (.slice Ap np cp))), (28, .val (.pointer (some ⟨g1, 1, none⟩))), (29, .val (a)), (30, .val (Fd (.slice Ap np cp))), (31, .val (Fd (.slice Ap np cp))), (32, .val (.pointer (some ⟨g1, 1, none⟩))), (33, .val (a)), (34, .val (.pointer (some ⟨g1, 1, none⟩))), (35, .val (a)), (36, .num (x * x % D.p)), (37, .num (3)), (38, .num (difN D.p (x * x % D.p) 3)), (39, .num (x * difN D.p (x * x % D.p) 3 % D.p)), (40, .val (.pointer (some ⟨g0, 2, none⟩))), (41, .val (vb)), (42, .num (sumN D.p (x * difN D.p (x * x % D.p) 3 % D.p) D.b)), (6, .num (sumN D.p (x * difN D.p (x * x % D.p) 3 % D.p) D.b))] (by kernel_rfl) (by kernel_rfl) (by kernel_rfl) (by kernel_rfl) (by rfl) ?hops ?hend)
    case hops =>
     intro i o a' V hB ho hev hrd
     have his : i < 18 := by have := (Array.getElem?_eq_some_iff.1 ho).1; simpa using this
     have hr0 := HR0.out.later hB
     have hr1 := HR1.out.later hB
     have hff := HF.out.later hB
     have c2 := hr0.at_ (i := 2) rfl
     have d1 := hr1.at_ (i := 1) rfl
     have f0 := hff.at_ (i := 0) rfl
     have hnp := H1.out.later hB
     have hnb := H2.out.later hB
     have hA := HA.out.later hB
     have hp := HP.out
     have hcase : i = 0 ∨ i = 1 ∨ i = 2 ∨ i = 3 ∨ i = 4 ∨ i = 5 ∨ i = 6 ∨ i = 7 ∨ i = 8 ∨ i = 9 ∨ i = 10 ∨ i = 11 ∨ i = 12 ∨ i = 13 ∨ i = 14 ∨ i = 15 ∨ i = 16 ∨ i = 17 := by omega
     rcases hcase with rfl | rfl | rfl | rfl | rfl | rfl | rfl | rfl | rfl | rfl | rfl | rfl | rfl | rfl | rfl | rfl | rfl | rfl
     ·simp at ho
      subst ho
      have r5 := hev 5 rfl
      simp [Act.eval] at r5
      refine ⟨nofun, fun _ _ => trivial, nofun, .inl ⟨Fd (.slice Ap np cp), V, ?_, Below.refl _ _, fun t ht => by cases ht; rfl⟩⟩
      simp [execOp, Act.eval, go_sem, r5, c2, d1, f0]
     ·simp at ho
      subst ho
      have r5 := hev 5 rfl
      simp [Act.eval] at r5
      refine ⟨nofun, fun _ _ => trivial, nofun, .inl ⟨Fd (.slice Ap np cp), V, ?_, Below.refl _ _, fun t ht => by cases ht; rfl⟩⟩
      simp [execOp, Act.eval, go_sem, r5, c2, d1, f0]
     ·simp at ho
      subst ho
      have r3 := hev 3 rfl
      simp [Act.eval] at r3
      refine ⟨nofun, fun _ _ => trivial, nofun, .inl ⟨.pointer (some ⟨g1, 1, none⟩), V, ?_, Below.refl _ _, fun t ht => by cases ht; rfl⟩⟩
      simp [execOp, Act.eval, go_sem, r3, c2, d1, f0]
     ·simp at ho
      subst ho
      have r28 : a'.eval (.tmp 28) = .pointer (some ⟨g1, 1, none⟩) := hrd 28 rfl rfl
      simp [Act.eval] at r28
      refine ⟨nofun, fun _ _ => trivial, nofun, .inl ⟨a, V, ?_, Below.refl _ _, fun t ht => by cases ht; rfl⟩⟩
      simp [execOp, Act.eval, go_sem, r28, c2, d1, f0]
     ·simp at ho
      subst ho
      have r5 := hev 5 rfl
      simp [Act.eval] at r5
      refine ⟨nofun, fun _ _ => trivial, nofun, .inl ⟨Fd (.slice Ap np cp), V, ?_, Below.refl _ _, fun t ht => by cases ht; rfl⟩⟩
      simp [execOp, Act.eval, go_sem, r5, c2, d1, f0]
     ·simp at ho
      subst ho
      have r5 := hev 5 rfl
      simp [Act.eval] at r5
      refine ⟨nofun, fun _ _ => trivial, nofun, .inl ⟨Fd (.slice Ap np cp), V, ?_, Below.refl _ _, fun t ht => by cases ht; rfl⟩⟩
      simp [execOp, Act.eval, go_sem, r5, c2, d1, f0]
     ·simp at ho
      subst ho
      have r3 := hev 3 rfl
      simp [Act.eval] at r3
      refine ⟨nofun, fun _ _ => trivial, nofun, .inl ⟨.pointer (some ⟨g1, 1, none⟩), V, ?_, Below.refl _ _, fun t ht => by cases ht; rfl⟩⟩
      simp [execOp, Act.eval, go_sem, r3, c2, d1, f0]
     ·simp at ho
      subst ho
      have r32 : a'.eval (.tmp 32) = .pointer (some ⟨g1, 1, none⟩) := hrd 32 rfl rfl
      simp [Act.eval] at r32
      refine ⟨nofun, fun _ _ => trivial, nofun, .inl ⟨a, V, ?_, Below.refl _ _, fun t ht => by cases ht; rfl⟩⟩
      simp [execOp, Act.eval, go_sem, r32, c2, d1, f0]
     ·simp at ho
      subst ho
      have r3 := hev 3 rfl
      simp [Act.eval] at r3
      refine ⟨nofun, fun _ _ => trivial, nofun, .inl ⟨.pointer (some ⟨g1, 1, none⟩), V, ?_, Below.refl _ _, fun t ht => by cases ht; rfl⟩⟩
      simp [execOp, Act.eval, go_sem, r3, c2, d1, f0]
     ·simp at ho
      subst ho
      have r34 : a'.eval (.tmp 34) = .pointer (some ⟨g1, 1, none⟩) := hrd 34 rfl rfl
      simp [Act.eval] at r34
      refine ⟨nofun, fun _ _ => trivial, nofun, .inl ⟨a, V, ?_, Below.refl _ _, fun t ht => by cases ht; rfl⟩⟩
      simp [execOp, Act.eval, go_sem, r34, c2, d1, f0]
     ·simp at ho
      subst ho
      have r31 : a'.eval (.tmp 31) = Fd (.slice Ap np cp) := hrd 31 rfl rfl
      simp [Act.eval] at r31
      have r33 : a'.eval (.tmp 33) = a := hrd 33 rfl rfl
      simp [Act.eval] at r33
      have r35 : a'.eval (.tmp 35) = a := hrd 35 rfl rfl
      simp [Act.eval] at r35
      refine ⟨nofun, fun _ _ => trivial, nofun, .inr ⟨69, #[Fd (.slice Ap np cp), a, a], ?_, (callsIn_wide.2 (fprod_any V (.slice Ap np cp) a a D.p x x hnp.gu hA hA (by omega))).mono ?_⟩⟩
      ·simp [execOp, Act.eval, r31, r33, r35, resolve, invoke, Deferred.ofValue]
      ·rintro e w' ⟨v, rfl, hv, hB2⟩
       exact ⟨_, rfl, hB2, fun t ht => by cases ht; exact hv⟩
     ·simp at ho
      subst ho
      refine ⟨nofun, fun _ _ => trivial, nofun, .inr ⟨73, #[.int .u64 3], ?_, (callsIn_wide.2 (of_u 3 (by decide) V)).mono ?_⟩⟩
      ·simp [execOp, Act.eval, resolve, invoke, Deferred.ofValue]
      ·rintro e w' ⟨v, rfl, hv, hB2⟩
       exact ⟨_, rfl, hB2, fun t ht => by cases ht; exact hv⟩
     ·simp at ho
      subst ho
      have r30 : a'.eval (.tmp 30) = Fd (.slice Ap np cp) := hrd 30 rfl rfl
      simp [Act.eval] at r30
      have r36 : Nu V (a'.eval (.tmp 36)) (x * x % D.p) := hrd 36 rfl rfl
      have r37 : Nu V (a'.eval (.tmp 37)) (3) := hrd 37 rfl rfl
      refine ⟨nofun, fun _ _ => trivial, nofun, .inr ⟨44, #[Fd (.slice Ap np cp), a'.eval (.tmp 36), a'.eval (.tmp 37)], ?_, (callsIn_wide.2 (fdif_any V (.slice Ap np cp) _ _ D.p _ 3 hnp.gu r36.gu r37.gu (by have := Nat.mod_lt (x * x) (show 0 < D.p by omega); omega) (by omega))).mono ?_⟩⟩
      ·simp [execOp, Act.eval, r30, resolve, invoke, Deferred.ofValue]
      ·rintro e w' ⟨v, rfl, hv, hB2⟩
       exact ⟨_, rfl, hB2, fun t ht => by cases ht; exact hv⟩
     ·simp at ho
      subst ho
      have r27 : a'.eval (.tmp 27) = Fd (.slice Ap np cp) := hrd 27 rfl rfl
      simp [Act.eval] at r27
      have r29 : a'.eval (.tmp 29) = a := hrd 29 rfl rfl
      simp [Act.eval] at r29
      have r38 : Nu V (a'.eval (.tmp 38)) (difN D.p (x * x % D.p) 3) := hrd 38 rfl rfl
      refine ⟨nofun, fun _ _ => trivial, nofun, .inr ⟨69, #[Fd (.slice Ap np cp), a, a'.eval (.tmp 38)], ?_, (callsIn_wide.2 (fprod_any V (.slice Ap np cp) a _ D.p x _ hnp.gu hA r38.gu (by omega))).mono ?_⟩⟩
      ·simp [execOp, Act.eval, r27, r29, resolve, invoke, Deferred.ofValue]
      ·rintro e w' ⟨v, rfl, hv, hB2⟩
       exact ⟨_, rfl, hB2, fun t ht => by cases ht; exact hv⟩
     ·simp at ho
      subst ho
      have r2 := hev 2 rfl
      simp [Act.eval] at r2
      refine ⟨nofun, fun _ _ => trivial, nofun, .inl ⟨.pointer (some ⟨g0, 2, none⟩), V, ?_, Below.refl _ _, fun t ht => by cases ht; rfl⟩⟩
      simp [execOp, Act.eval, go_sem, r2, c2, d1, f0]
     ·simp at ho
      subst ho
      have r40 : a'.eval (.tmp 40) = .pointer (some ⟨g0, 2, none⟩) := hrd 40 rfl rfl
      simp [Act.eval] at r40
      refine ⟨nofun, fun _ _ => trivial, nofun, .inl ⟨vb, V, ?_, Below.refl _ _, fun t ht => by cases ht; rfl⟩⟩
      simp [execOp, Act.eval, go_sem, r40, c2, d1, f0]
     ·simp at ho
      subst ho
      have r26 : a'.eval (.tmp 26) = Fd (.slice Ap np cp) := hrd 26 rfl rfl
      simp [Act.eval] at r26
      have r39 : Nu V (a'.eval (.tmp 39)) (x * difN D.p (x * x % D.p) 3 % D.p) := hrd 39 rfl rfl
      have r41 : a'.eval (.tmp 41) = vb := hrd 41 rfl rfl
      simp [Act.eval] at r41
      refine ⟨nofun, fun _ _ => trivial, nofun, .inr ⟨72, #[Fd (.slice Ap np cp), a'.eval (.tmp 39), vb], ?_, (callsIn_wide.2 (fsum_any V (.slice Ap np cp) _ vb D.p _ D.b hnp.gu r39.gu hnb.gu (by have := Nat.mod_lt (x * difN D.p (x * x % D.p) 3) (show 0 < D.p by omega); omega))).mono ?_⟩⟩
      ·simp [execOp, Act.eval, r26, r41, resolve, invoke, Deferred.ofValue]
      ·rintro e w' ⟨v, rfl, hv, hB2⟩
       exact ⟨_, rfl, hB2, fun t ht => by cases ht; exact hv⟩
     ·simp at ho
      subst ho
      have r42 : Nu V (a'.eval (.tmp 42)) (sumN D.p (x * difN D.p (x * x % D.p) 3 % D.p) D.b) := hrd 42 rfl rfl
      refine ⟨nofun, fun _ _ => trivial, nofun, .inl ⟨a'.eval (.tmp 42), V, ?_, Below.refl _ _, fun t ht => by cases ht; exact r42⟩⟩
      simp [execOp]
    intro vals V hB hP
    have hz : Nu V (vals 17) (sumN D.p (x * difN D.p (x * x % D.p) 3 % D.p) D.b) := hP 17 6 _ rfl rfl
    have HZ := hid hz
    have r05 := HR0.out.later hB
    have r15 := HR1.out.later hB
    have f05 := (HF.out.later hB).at_ (i := 0) rfl
    have d25 := r15.at_ (i := 2) rfl
    have HB6 := hid (HB5.out.trans (hB.mono HB5.out.size))
    have HPR := hid (fprod_any V (.slice Ap np cp) b b D.p y y (H1.out.later hB).gu (HBb.out.later hB) (HBb.out.later hB) (by have := HP.out; omega))
    clear hz hP r05 r15 hB
    simp [wrote, Act.put]
    go_wp2_with fail
    refine HPR.out.mono ?_
    rintro e w7 ⟨vv, rfl, hvv, hb7⟩
    have HB7 := hid (HB6.out.trans (hb7.mono HB6.out.size))
    have HC3 := hid (lcmp_u w7 vv (vals 17) (y * y % D.p) (sumN D.p (x * difN D.p (x * x % D.p) 3 % D.p) D.b) 64 64 hvv.gu (HZ.out.later hb7).gu)
    clear hvv hb7 f05 d25
    go_wp2_with fail
    refine HC3.out.mono ?_
    rintro e w8 ⟨rfl, hb8⟩
    have HB8 := hid (HB7.out.trans (hb8.mono HB7.out.size))
    clear hb8
    go_wp2
    go_ret
    refine ⟨?_, HB8.out⟩
    have hx := HX.out
    have hy := HY.out
    congr 2
    rw [eq_comm]
    by_cases hq : y * y % D.p = sumN D.p (x * difN D.p (x * x % D.p) 3 % D.p) D.b
    ·have e1 := (ncmpEq (a := y * y % D.p) (b := sumN D.p (x * difN D.p (x * x % D.p) 3 % D.p) D.b)).2 hq
     rw [e1]
     simp [hasN, hx, hy, hq]
    ·have e1 : ncmp (y * y % D.p) (sumN D.p (x * difN D.p (x * x % D.p) 3 % D.p) D.b) ≠ 0 := fun h => hq (ncmpEq.1 h)
     simp [hasN, hx, hy, hq, e1]
def PtsV (w : World) (g : Nat) (vs : List (Value × Value × Value)) : Prop :=
 g < w.heap.size ∧ ∀ (k : Nat) (a b c : Value), vs[k]? = some (a, b, c) → w.cell? ⟨g, k * 3, none⟩ = some a ∧ w.cell? ⟨g, k * 3 + 1, none⟩ = some b ∧ w.cell? ⟨g, k * 3 + 2, none⟩ = some c
theorem PtsV.later {w w' : World} {g : Nat} {vs : List (Value × Value × Value)} (h : PtsV w g vs) (hb : Below w.heap.size w w') : PtsV w' g vs :=
 ⟨Nat.lt_of_lt_of_le h.1 hb.size, fun k a b c hk => by
  obtain ⟨h1, h2, h3⟩ := h.2 k a b c hk
  exact ⟨(hb.cell h.1).trans h1, (hb.cell h.1).trans h2, (hb.cell h.1).trans h3⟩⟩
theorem Pg.ones {w : World} {a b d : Value} {P : Option (Nat × Nat)} (h : Pg w (.agg #[a, b, d]) P) : a.oneCell' = true ∧ b.oneCell' = true ∧ d.oneCell' = true := by
 rcases P with _ | ⟨x, y⟩
 ·obtain ⟨a', b', e, h1, h2⟩ := h
  injection e with e
  simp at e
  obtain ⟨rfl, rfl, rfl⟩ := e
  exact ⟨rfl, h1, h2⟩
 ·obtain ⟨a', b', e, h1, h2⟩ := h
  injection e with e
  simp at e
  obtain ⟨rfl, rfl, rfl⟩ := e
  exact ⟨rfl, h1.one, h2.one⟩
def CrvOk (D : Crv) : Prop := 3 < D.p ∧ D.p + D.p < b64 ^ 64 ∧ D.b < D.p
theorem domW_any (w : World) (c : Int) (D : Crv) (hc : crvOf c = some D) (hD : CrvOk D) (g n cp : Nat) (vs : List (Value × Value × Value)) (Ps : List (Option (Nat × Nat))) (hn : n = Ps.length) (hn1 : n ≤ 1000) (hl : vs.length = Ps.length) (hv : PtsV w g vs)
  (hP : ∀ (k : Nat) (a b d : Value) (P : Option (Nat × Nat)), vs[k]? = some (a, b, d) → Ps[k]? = some P → Pg w (.agg #[a, b, d]) P) :
  Calls Tryz.prog 38 #[.int .i64 c, .slice (some ⟨g, 0, none⟩) n cp] w fun e w' => (∃ v, e = .returned (.tuple #[v, .bool true]) ∧ Dm w' v D ∧ (∀ P ∈ Ps, hasN D.p D.b P) ∧ Below w.heap.size w w') ∨
   (e = .returned (.tuple #[dom0, .bool false]) ∧ (∃ P ∈ Ps, ¬ hasN D.p D.b P) ∧ Below w.heap.size w w') := by
 obtain ⟨W0, e0, r0, b0, s0⟩ := newS w 73 [.int .i64 0, .slice none 0 0, .slice none 0 0, .slice none 0 0, .bool false, .slice none 0 0, .slice none 0 0] _ rfl
 obtain ⟨gr, hgr⟩ : ∃ x, w.heap.size = x := ⟨_, rfl⟩
 rw [hgr] at r0
 have HD := hid (domOf_yes W0 c D hc)
 have HOK := hid hD
 have HN := hid (And.intro hn hl)
 have HV := hid (hv.later b0)
 have HP := hid (show ∀ (k : Nat) (a b d : Value) (P : Option (Nat × Nat)), vs[k]? = some (a, b, d) → Ps[k]? = some P → Pg W0 (.agg #[a, b, d]) P from fun k a b d P h1 h2 => (hP k a b d P h1 h2).later b0)
 have HB := hid b0
 have HR := hid r0
 have HGR := hid (show w.heap.size ≤ gr by omega)
 clear hD hn hl hv hP b0 r0 s0 hc
 go_enter Tryz.func38, Tryz.ntmps38
 go_wp2_with fail
 refine HD.out.mono ?_
 rintro e w1 ⟨vd, rfl, hvd, hb1⟩
 obtain ⟨vp, vb, vn, vx, vy, rfl, h1, h2, h3, h4, h5⟩ := hvd
 have o1 := h1.one; have o2 := h2.one; have o3 := h3.one; have o4 := h4.one; have o5 := h5.one
 obtain ⟨W2, e2, r2, b2, s2⟩ := newS w1 73 [.int .i64 0, .slice none 0 0, .slice none 0 0, .slice none 0 0, .bool false, .slice none 0 0, .slice none 0 0] _ rfl
 obtain ⟨g6, hg6⟩ : ∃ x, w1.heap.size = x := ⟨_, rfl⟩
 rw [hg6] at r2
 have hones : Ones [.int .i64 (D.size : Int), vp, vb, vn, .bool false, vx, vy] := by
  intro v hv
  simp only [List.mem_cons, List.not_mem_nil, or_false] at hv
  rcases hv with rfl | rfl | rfl | rfl | rfl | rfl | rfl
  ·rfl
  ·exact o1
  ·exact o2
  ·exact o3
  ·rfl
  ·exact o4
  ·exact o5
 have HDM := hid (show Dm w1 _ D from ⟨_, _, _, _, _, rfl, h1, h2, h3, h4, h5⟩)
 have HB1 := hid hb1
 have HB2 := hid b2
 have HG6 := hid (show w1.heap.size ≤ g6 by omega)
 clear h1 h2 h3 h4 h5 o1 o2 o3 o4 o5 hb1 b2 s2
 go_wp2_with ((with_reducible show wpList _ _ _ (⟨none, _, _, _, _, _⟩ :: _) _ _); refine wlS_store rfl 73 7 Tryz.sizeDom _ _ rfl g6 [.int .i64 (D.size : Int), vp, vb, vn, .bool false, vx, vy] rfl rfl 73 _ r2 rfl rfl hones ?_; intro w3 hr3 hg3 hz3)
 have HR3 := hid hr3
 have hs3 : Sb W2 w3 := ⟨g6, NoU.of_row r2 (by intro v hv x; simp only [List.mem_cons, List.not_mem_nil, or_false] at hv; rcases hv with rfl | rfl | rfl | rfl | rfl | rfl | rfl <;> (intro h; cases h)), hg3⟩
 have HDM3 := hid ((HDM.out.later HB2.out).sb hs3)
 have hB12 := HB.out.trans (HB1.out.mono HB.out.size)
 have hB2w := hB12.trans (HB2.out.mono hB12.size)
 have HB3 := hid (below_grown hB2w hg3 (by have := HG6.out; have := hB12.size; omega) hB2w.size)
 have hgr3 : RowV 73 w3 gr [.int .i64 0, .slice none 0 0, .slice none 0 0, .slice none 0 0, .bool false, .slice none 0 0, .slice none 0 0] :=
  ((HR.out.later HB1.out).later HB2.out).grown hg3 (by have := HG6.out; have := (HR.out.later HB1.out).lt; omega)
 have HRG3 := hid hgr3
 have HV3 := hid (show PtsV w3 g vs from ⟨Nat.lt_of_lt_of_le ((HV.out.later HB1.out).later HB2.out).1 hg3.size, fun k a b d hk => by
  have h := ((HV.out.later HB1.out).later HB2.out)
  have hne : g ≠ g6 := by have := HG6.out; have := (HV.out.later HB1.out).1; omega
  obtain ⟨h1, h2, h3⟩ := h.2 k a b d hk
  exact ⟨(cell_grown hg3 h.1 hne).trans h1, (cell_grown hg3 h.1 hne).trans h2, (cell_grown hg3 h.1 hne).trans h3⟩⟩)
 have HP3 := hid (show ∀ (k : Nat) (a b d : Value) (P : Option (Nat × Nat)), vs[k]? = some (a, b, d) → Ps[k]? = some P → Pg w3 (.agg #[a, b, d]) P from
  fun k a b d P h1 h2 => (((HP.out k a b d P h1 h2).later HB1.out).later HB2.out).sb hs3)
 clear hr3 hs3 hB12 hB2w hgr3 HV HP HB HR HB1 HB2 HDM r2 hg3 hz3
 go_loopw [20] (fun s20 wr => ∃ k, k ≤ n ∧ s20 = .int .i64 (k : Nat) ∧ Below w3.heap.size w3 wr ∧ ∀ (j : Nat) (P : Option (Nat × Nat)), j < k → Ps[j]? = some P → hasN D.p D.b P) (fun s20 _ => n - (intOf s20).toNat)
 case atStart => exact ⟨0, Nat.zero_le _, rfl, Below.refl _ _, fun j P h => absurd h (Nat.not_lt_zero _)⟩
 case round =>
  obtain ⟨k, hk, rfl, hbr, hall⟩ := hrel
  have HALL := hid hall
  have HBR := hid hbr
  clear hall hbr
  by_cases hlt : k < n
  ·have hki : (k : Int) < n := by omega
   obtain ⟨P, hP⟩ : ∃ P, Ps[k]? = some P := ⟨_, List.getElem?_eq_getElem (by have := HN.out; omega)⟩
   obtain ⟨⟨a, b, d⟩, hv⟩ : ∃ v, vs[k]? = some v := ⟨_, List.getElem?_eq_getElem (by have := HN.out; omega)⟩
   have hvr := HV3.out.later HBR.out
   obtain ⟨c0, c1, c2⟩ := hvr.2 k a b d hv
   have HPk := hid ((HP3.out k a b d P hv hP).later HBR.out)
   have HPP := hid hP
   clear hP hv hvr
   obtain ⟨k1, k2, k3⟩ := HPk.out.ones
   obtain ⟨W4, e4, r4, b4, s4⟩ := newS wr 26 [.bool false, .slice none 0 0, .slice none 0 0] _ rfl
   obtain ⟨g9, hg9⟩ : ∃ x, wr.heap.size = x := ⟨_, rfl⟩
   rw [hg9] at r4
   have HON := hid (ones3 k1 k2 k3)
   have H9 := hid (show wr.heap.size ≤ g9 by omega)
   have HNE9 := hid (show g6 ≠ g9 ∧ gr ≠ g9 by have h6 := (HR3.out.later HBR.out).lt; have h7 := (HRG3.out.later HBR.out).lt; omega)
   have HB4 := hid b4
   have HS4 := hid (show NoU W4 g9 from NoU.of_row r4 (noU3 nofun nofun nofun))
   clear k1 k2 k3 b4 s4
   go_wp2_with ((with_reducible show wpList _ _ _ (⟨none, _, _, _, _, _⟩ :: _) _ _); refine wlS_store rfl 26 3 Tryz.sizePt _ _ rfl g9 [a, b, d] rfl rfl 26 _ r4 rfl rfl HON.out ?_; intro w5 hr5 hg5 hz5; have q6 := ((HR3.out.later HBR.out).later HB4.out).grown hg5 HNE9.out.1; have f0 := q6.at_ (i := 0) rfl; have f1 := q6.at_ (i := 1) rfl; have f2 := q6.at_ (i := 2) rfl; have f3 := q6.at_ (i := 3) rfl; have f4 := q6.at_ (i := 4) rfl; have f5 := q6.at_ (i := 5) rfl; have f6 := q6.at_ (i := 6) rfl; have p0 := hr5.at_ (i := 0) rfl; have p1 := hr5.at_ (i := 1) rfl; have p2 := hr5.at_ (i := 2) rfl)
   have hs5 : Sb W4 w5 := ⟨g9, HS4.out, hg5⟩
   have hHas := chas_any w5 D P _ _ (((HDM3.out.later HBR.out).later HB4.out).sb hs5) ((HPk.out.later HB4.out).sb hs5) HOK.out.1 HOK.out.2.1 HOK.out.2.2
   have HHAS := hid hHas
   have hBw4 := HBR.out.trans (HB4.out.mono HBR.out.size)
   have HB5 := hid (below_grown hBw4 hg5 (by have := H9.out; have := HBR.out.size; omega) hBw4.size)
   have HRG5 := hid (((HRG3.out.later HBR.out).later HB4.out).grown hg5 HNE9.out.2)
   clear hHas hBw4 hs5 hr5 hg5 hz5 q6 f0 f1 f2 f3 f4 f5 f6 p0 p1 p2 c0 c1 c2
   refine HHAS.out.mono ?_
   rintro e w6 ⟨rfl, hb6⟩
   have HB6 := hid (HB5.out.trans (hb6.mono HB5.out.size))
   have hrg6 := HRG5.out.later hb6
   clear hb6 HHAS
   by_cases hh : hasN D.p D.b P
   ·have hdec : decide (hasN D.p D.b P) = true := decide_eq_true hh
    have HH := hid hh
    rw [hdec]
    clear hh hdec
    go_wp2
    go_roundw
    case rel =>
     refine ⟨k + 1, by omega, by go_num, HB6.out, fun j P' hj hP' => ?_⟩
     by_cases e : j = k
     ·subst e
      have := HPP.out
      rw [this] at hP'
      injection hP' with hP'
      rw [← hP']; exact HH.out
     ·exact HALL.out j P' (by omega) hP'
    case measure => simp [intOf]; omega
   ·have hdec : decide (hasN D.p D.b P) = false := decide_eq_false hh
    have HH := hid hh
    rw [hdec]
    clear hh hdec
    go_wp2_with ((with_reducible show wpList _ _ _ (⟨none, _, _, _, _, _⟩ :: _) _ _); refine wlS_store rfl 73 7 Tryz.sizeDom _ _ rfl gr [.int .i64 0, .slice none 0 0, .slice none 0 0, .slice none 0 0, .bool false, .slice none 0 0, .slice none 0 0] rfl rfl 73 _ hrg6 rfl rfl (by intro v hv; simp only [List.mem_cons, List.not_mem_nil, or_false] at hv; rcases hv with rfl | rfl | rfl | rfl | rfl | rfl | rfl <;> rfl) ?_; intro w7 hr7 hg7 hz7)
    have hbw := HB3.out.trans (HB6.out.mono HB3.out.size)
    refine ⟨rfl, _, results_dom2 rfl _ gr _ rfl hr7 rfl, .inr ⟨rfl, ⟨P, List.mem_of_getElem? HPP.out, HH.out⟩, below_grown hbw hg7 HGR.out hbw.size⟩⟩
  ·obtain rfl : k = n := by omega
   have q6 := HR3.out.later HBR.out
   have hrg := HRG3.out.later HBR.out
   have f0 := q6.at_ (i := 0) rfl
   have f1 := q6.at_ (i := 1) rfl
   have f2 := q6.at_ (i := 2) rfl
   have f3 := q6.at_ (i := 3) rfl
   have f4 := q6.at_ (i := 4) rfl
   have f5 := q6.at_ (i := 5) rfl
   have f6 := q6.at_ (i := 6) rfl
   have hdm := HDM3.out.later HBR.out
   have HDM4 := hid hdm
   obtain ⟨_, _, _, _, _, he, k1, k2, k3, k4, k5⟩ := hdm
   injection he with he
   simp at he
   obtain ⟨rfl, rfl, rfl, rfl, rfl⟩ := he
   have o1 := k1.one; have o2 := k2.one; have o3 := k3.one; have o4 := k4.one; have o5 := k5.one
   clear k1 k2 k3 k4 k5 q6
   go_wp2_with ((with_reducible show wpList _ _ _ (⟨none, _, _, _, _, _⟩ :: _) _ _); refine wlS_store rfl 73 7 Tryz.sizeDom _ _ rfl gr [.int .i64 (D.size : Int), vp, vb, vn, .bool false, vx, vy] rfl rfl 73 _ hrg rfl rfl hones ?_; intro w7 hr7 hg7 hz7)
   have hbw := HB3.out.trans (HBR.out.mono HB3.out.size)
   have hs7 : Sb wr w7 := ⟨gr, NoU.of_row hrg (by intro v hv x; simp only [List.mem_cons, List.not_mem_nil, or_false] at hv; rcases hv with rfl | rfl | rfl | rfl | rfl | rfl | rfl <;> (intro h; cases h)), hg7⟩
   refine ⟨rfl, _, results_dom2 rfl _ gr _ rfl hr7 rfl, .inl ⟨_, rfl, HDM4.out.sb hs7, fun P hP => ?_, below_grown hbw hg7 HGR.out hbw.size⟩⟩
   obtain ⟨j, hj, he⟩ := List.getElem_of_mem hP
   exact HALL.out j P (by have := HN.out; omega) (by rw [List.getElem?_eq_getElem hj, he])
theorem domW_no (w : World) (c : Int) (hc : crvOf c = none) (v : Value) :
  Calls Tryz.prog 38 #[.int .i64 c, v] w fun e w' => e = .returned (.tuple #[dom0, .bool false]) ∧ Below w.heap.size w w' := by
 obtain ⟨W0, e0, r0, b0, s0⟩ := newS w 73 [.int .i64 0, .slice none 0 0, .slice none 0 0, .slice none 0 0, .bool false, .slice none 0 0, .slice none 0 0] _ rfl
 obtain ⟨gr, hgr⟩ : ∃ x, w.heap.size = x := ⟨_, rfl⟩
 rw [hgr] at r0
 have HD := hid (domOf_no W0 c hc)
 have HB := hid b0
 have HR := hid r0
 have HGR := hid (show w.heap.size ≤ gr by omega)
 clear b0 r0 s0 hc
 go_enter Tryz.func38, Tryz.ntmps38
 go_wp2_with fail
 refine HD.out.mono ?_
 rintro e w1 ⟨rfl, hb1⟩
 obtain ⟨W2, e2, r2, b2, s2⟩ := newS w1 73 [.int .i64 0, .slice none 0 0, .slice none 0 0, .slice none 0 0, .bool false, .slice none 0 0, .slice none 0 0] _ rfl
 obtain ⟨g6, hg6⟩ : ∃ x, w1.heap.size = x := ⟨_, rfl⟩
 rw [hg6] at r2
 have hrg := (HR.out.later hb1).later b2
 have HNE := hid (show gr ≠ g6 by have := (HR.out.later hb1).lt; omega)
 have hb12 := HB.out.trans (hb1.mono HB.out.size)
 have HB2 := hid (hb12.trans (b2.mono hb12.size))
 have HG6 := hid (show w.heap.size ≤ g6 by have := hb12.size; omega)
 clear hb1 b2 s2 hb12
 go_wp2_with ((with_reducible show wpList _ _ _ (⟨none, _, _, _, _, _⟩ :: _) _ _); first | (refine wlS_store rfl 73 7 Tryz.sizeDom _ _ rfl g6 [.int .i64 0, .slice none 0 0, .slice none 0 0, .slice none 0 0, .bool false, .slice none 0 0, .slice none 0 0] rfl rfl 73 _ r2 rfl rfl (by intro v hv; simp only [List.mem_cons, List.not_mem_nil, or_false] at hv; rcases hv with rfl | rfl | rfl | rfl | rfl | rfl | rfl <;> rfl) ?_; intro w3 hr3 hg3 hz3; have hrg3 := hrg.grown hg3 HNE.out) | (refine wlS_store rfl 73 7 Tryz.sizeDom _ _ rfl gr [.int .i64 0, .slice none 0 0, .slice none 0 0, .slice none 0 0, .bool false, .slice none 0 0, .slice none 0 0] rfl rfl 73 _ hrg3 rfl rfl (by intro v hv; simp only [List.mem_cons, List.not_mem_nil, or_false] at hv; rcases hv with rfl | rfl | rfl | rfl | rfl | rfl | rfl <;> rfl) ?_; intro w4 hr4 hg4 hz4))
 have hb3 := below_grown HB2.out hg3 HG6.out HB2.out.size
 refine ⟨rfl, _, results_dom2 rfl _ gr _ rfl hr4 rfl, rfl, below_grown hb3 hg4 HGR.out hb3.size⟩
def CrvP (D : Crv) : Prop := CrvOk D ∧ IsP D.p
theorem crv_ok {c : Int} {D : Crv} (h : crvOf c = some D) : CrvP D := by
 unfold crvOf at h
 split at h
 ·obtain rfl := Option.some.inj h
  exact ⟨⟨by decide +kernel, by decide +kernel, by decide +kernel⟩, Cw.prime_p256⟩
 ·split at h
  ·obtain rfl := Option.some.inj h
   exact ⟨⟨by decide +kernel, by decide +kernel, by decide +kernel⟩, Cw.prime_p384⟩
  ·cases h
theorem cop_lt {p z : Nat} (hp : IsP p) (hz : z < p) (h0 : z ≠ 0) : Nat.gcd p z = 1 := hp.cop fun hd => h0 (Nat.eq_zero_of_dvd_of_lt hd hz)
def P3 (v : Value) : Prop := ∃ a b d, v = .agg #[a, b, d] ∧ a.oneCell' = true ∧ b.oneCell' = true ∧ d.oneCell' = true
theorem Pg.ex {w : World} {v : Value} {P : Option (Nat × Nat)} (h : Pg w v P) : ∃ i b d, v = .agg #[.bool i, b, d] := by
 rcases P with _ | ⟨x, y⟩
 ·obtain ⟨a, b, rfl, h1, h2⟩ := h
  exact ⟨_, _, _, rfl⟩
 ·obtain ⟨a, b, rfl, h1, h2⟩ := h
  exact ⟨_, _, _, rfl⟩
theorem PtsV.one {w : World} {g : Nat} {a b d : Value} (h : RowV 26 w g [a, b, d]) : PtsV w g [(a, b, d)] := by
 refine ⟨h.lt, fun k x y z hk => ?_⟩
 rcases k with _ | k
 ·simp at hk
  obtain ⟨rfl, rfl, rfl⟩ := hk
  exact ⟨h.at_ rfl, h.at_ rfl, h.at_ rfl⟩
 ·simp at hk
theorem PtsV.two {w : World} {g : Nat} {a b d a2 b2 d2 : Value} (h : RowV 26 w g [a, b, d, a2, b2, d2]) : PtsV w g [(a, b, d), (a2, b2, d2)] := by
 refine ⟨h.lt, fun k x y z hk => ?_⟩
 rcases k with _ | _ | k
 ·simp at hk
  obtain ⟨rfl, rfl, rfl⟩ := hk
  exact ⟨h.at_ rfl, h.at_ rfl, h.at_ rfl⟩
 ·simp at hk
  obtain ⟨rfl, rfl, rfl⟩ := hk
  exact ⟨h.at_ rfl, h.at_ rfl, h.at_ rfl⟩
 ·simp at hk
def PtS (p : Nat) (T : Nat × Nat × Nat) (v : Value) (V : World) : Prop := ∃ R, PtR p T R ∧ Pt V v R
theorem PtS.sb {p : Nat} {T : Nat × Nat × Nat} {v : Value} {V V' : World} (h : PtS p T v V) (hb : Sb V V') : PtS p T v V' := by
 obtain ⟨R, h1, h2⟩ := h
 exact ⟨R, h1, h2.sb hb⟩
theorem PtS.later {p : Nat} {T : Nat × Nat × Nat} {v : Value} {V V' : World} (h : PtS p T v V) (hb : Below V.heap.size V V') : PtS p T v V' := h.sb (Sb.of_below hb)
def Spc.pts (p : Nat) (T : Nat × Nat × Nat) : Spc := ⟨fun v V => PtS p T v V, fun _ _ _ hb h => h.sb hb⟩
theorem Pt.three {w : World} {v : Value} {P : Option (Nat × Nat)} (h : Pt w v P) : ∃ v0 v1 v2, v = .agg #[v0, v1, v2] ∧ v0.oneCell' = true ∧ v1.oneCell' = true ∧ v2.oneCell' = true ∧ (∀ x, v0 ≠ .int .u64 x) ∧ (∀ x, v1 ≠ .int .u64 x) ∧ (∀ x, v2 ≠ .int .u64 x) := by
 rcases P with _ | ⟨x, y⟩
 ·obtain ⟨a, b, rfl, h1, h2⟩ := h
  exact ⟨_, _, _, rfl, rfl, h1.one, h2.one, nofun, slU h1, slU h2⟩
 ·obtain ⟨a, b, rfl, h1, h2⟩ := h
  exact ⟨_, _, _, rfl, rfl, h1.one, h2.one, nofun, slU h1, slU h2⟩
theorem cAdd_yes (w : World) (c : Int) (D : Crv) (hc : crvOf c = some D) (vP vQ : Value) (P Q : Option (Nat × Nat)) (hP : Pg w vP P) (hQ : Pg w vQ Q) (h1 : hasN D.p D.b P) (h2 : hasN D.p D.b Q) :
  Calls Tryz.prog 12 #[.int .i64 c, vP, vQ] w fun e w' => ∃ v, e = .returned (.tuple #[v, .bool true]) ∧ PtS D.p (rcbN D.p D.b (rtN P) (rtN Q)) v w' ∧ Below w.heap.size w w' := by
 have hmx : Tryz.prog.follows .mixedOrders = true := by kernel_rfl
 have hok := crv_ok hc
 obtain ⟨iP, bP, dP, rfl⟩ := hP.ex
 obtain ⟨iQ, bQ, dQ, rfl⟩ := hQ.ex
 obtain ⟨W0, e0, r0, b0, s0⟩ := newS w 26 [.bool iP, bP, dP] _ rfl
 obtain ⟨gP, hgP⟩ : ∃ x, w.heap.size = x := ⟨_, rfl⟩
 obtain ⟨W1, e1, r1, b1, s1⟩ := newS W0 26 [.bool iQ, bQ, dQ] _ rfl
 obtain ⟨gQ, hgQ⟩ : ∃ x, W0.heap.size = x := ⟨_, rfl⟩
 obtain ⟨W2, e2, r2, b2, s2⟩ := newS W1 26 [.bool false, .slice none 0 0, .slice none 0 0] _ rfl
 obtain ⟨gr, hgr⟩ : ∃ x, W1.heap.size = x := ⟨_, rfl⟩
 obtain ⟨W3, e3, r3, b3, s3⟩ := newS W2 26 [.bool iP, bP, dP, .bool iQ, bQ, dQ] _ rfl
 obtain ⟨gs, hgs⟩ : ∃ x, W2.heap.size = x := ⟨_, rfl⟩
 rw [hgP] at r0
 rw [hgQ] at r1
 rw [hgr] at r2
 rw [hgs] at r3
 have hbw : Below w.heap.size w W3 := (((b0).trans (b1.mono (b0).size)).trans (b2.mono ((b0).trans (b1.mono (b0).size)).size)).trans (b3.mono (((b0).trans (b1.mono (b0).size)).trans (b2.mono ((b0).trans (b1.mono (b0).size)).size)).size)
 have qgP := (((r0.later b1).later b2).later b3)
 have qgQ := ((r1.later b2).later b3)
 have qgr := (r2.later b3)
 have qgs := r3
 have HB := hid hbw
 have HGL := hid (show w.heap.size ≤ gr ∧ gP < gr ∧ gQ < gr ∧ gr < W3.heap.size by omega)
 have hP3 := hP.later hbw
 have hQ3 := hQ.later hbw
 have HPP := hid hP3
 have HQQ := hid hQ3
 have HRP := hid qgP
 have HRQ := hid qgQ
 have HRR := hid qgr
 have p0 := qgP.at_ (i := 0) rfl
 have p1 := qgP.at_ (i := 1) rfl
 have p2 := qgP.at_ (i := 2) rfl
 have q0 := qgQ.at_ (i := 0) rfl
 have q1 := qgQ.at_ (i := 1) rfl
 have q2 := qgQ.at_ (i := 2) rfl
 have pp0 := ((r0.later b1).later b2).at_ (i := 0) rfl
 have pp1 := ((r0.later b1).later b2).at_ (i := 1) rfl
 have pp2 := ((r0.later b1).later b2).at_ (i := 2) rfl
 have qq0 := (r1.later b2).at_ (i := 0) rfl
 have qq1 := (r1.later b2).at_ (i := 1) rfl
 have qq2 := (r1.later b2).at_ (i := 2) rfl
 have HDW := hid (domW_any W3 c D hc hok.1 gs 2 2 [(.bool iP, bP, dP), (.bool iQ, bQ, dQ)] [P, Q] rfl (by decide) rfl (PtsV.two qgs) (by
  intro k a b d R h1 h2
  rcases k with _ | _ | k
  ·simp at h1 h2
   obtain ⟨rfl, rfl, rfl⟩ := h1
   subst h2
   exact hP3
  ·simp at h1 h2
   obtain ⟨rfl, rfl, rfl⟩ := h1
   subst h2
   exact hQ3
  ·simp at h1))
 have HOK := hid hok
 have HHAS := hid (And.intro h1 h2)
 clear h1 h2
 clear hok hc hP hQ hP3 hQ3 b0 b1 b2 b3 s0 s1 s2 s3 r0 r1 r2 r3 hbw qgP qgQ qgr qgs
 go_enter Tryz.func12, Tryz.ntmps12
 go_wp2_with fail
 refine HDW.out.mono ?_
 rintro e w1 (⟨vd, rfl, hvd, hall, hb1⟩ | ⟨rfl, ⟨R, hR, hRn⟩, hb1⟩)
 ·obtain ⟨vp, vb, vn, vx, vy, rfl, k1, k2, k3, k4, k5⟩ := hvd
  obtain ⟨Ap, np, cp, rfl⟩ := k1.sl
  obtain ⟨Ab, nb, cb, rfl⟩ := k2.sl
  obtain ⟨An, nn, cn, rfl⟩ := k3.sl
  obtain ⟨Ax, nx, cx, rfl⟩ := k4.sl
  obtain ⟨Ay, ny, cy, rfl⟩ := k5.sl
  have HDM := hid (show Dm w1 _ D from ⟨_, _, _, _, _, rfl, k1, k2, k3, k4, k5⟩)
  obtain ⟨W5, e5, r5, b5, s5⟩ := newS w1 73 [.int .i64 0, .slice none 0 0, .slice none 0 0, .slice none 0 0, .bool false, .slice none 0 0, .slice none 0 0] _ rfl
  obtain ⟨g8, hg8⟩ : ∃ x, w1.heap.size = x := ⟨_, rfl⟩
  rw [hg8] at r5
  have HB5 := hid b5
  have HB1 := hid hb1
  have HG8 := hid (show W3.heap.size ≤ g8 by have := hb1.size; omega)
  have HNU := hid (NoU.of_row r5 (by intro v hv x; simp only [List.mem_cons, List.not_mem_nil, or_false] at hv; rcases hv with rfl | rfl | rfl | rfl | rfl | rfl | rfl <;> (intro h; cases h)))
  clear k1 k2 k3 k4 k5 hall hb1 b5 s5 p0 p1 p2 q0 q1 q2 pp0 pp1 pp2 qq0 qq1 qq2
  go_wp2_with ((with_reducible show wpList _ _ _ (⟨none, _, _, _, _, _⟩ :: _) _ _); refine wlS_store rfl 73 7 Tryz.sizeDom _ _ rfl g8 [.int .i64 (D.size : Int), .slice Ap np cp, .slice Ab nb cb, .slice An nn cn, .bool false, .slice Ax nx cx, .slice Ay ny cy] rfl rfl 73 _ r5 rfl rfl (by intro v hv; simp only [List.mem_cons, List.not_mem_nil, or_false] at hv; rcases hv with rfl | rfl | rfl | rfl | rfl | rfl | rfl <;> rfl) ?_; intro w6 hr6 hg6 hz)
  have hsb : Sb W5 w6 := ⟨g8, HNU.out, hg6⟩
  have HDM6 := hid ((HDM.out.later HB5.out).sb hsb)
  have HP6 := hid (((HPP.out.later HB1.out).later HB5.out).sb hsb)
  have HQ6 := hid (((HQQ.out.later HB1.out).later HB5.out).sb hsb)
  have HRP6 := hid (((HRP.out.later HB1.out).later HB5.out).grown hg6 (by have := HG8.out; have := HGL.out; omega))
  have HRQ6 := hid (((HRQ.out.later HB1.out).later HB5.out).grown hg6 (by have := HG8.out; have := HGL.out; omega))
  have HR := hid (((HRR.out.later HB1.out).later HB5.out).grown hg6 (by have := HG8.out; have := HGL.out; omega))
  have HR8 := hid hr6
  have hbw1 := HB.out.trans (HB1.out.mono HB.out.size)
  have hbw5 := hbw1.trans (HB5.out.mono hbw1.size)
  have HBW := hid (below_grown hbw5 hg6 (by have := HG8.out; have := HGL.out; omega) hbw5.size)
  have HNO6 := hid (NoU.of_row HR.out (noU3 nofun nofun nofun))
  have HNE := hid (show gP ≠ gr ∧ gQ ≠ gr ∧ g8 ≠ gr by have := HG8.out; have := HGL.out; omega)
  clear hsb hbw1 hbw5 HDM HB5 HB1 HPP HQQ HRP HRQ HRR hr6 hg6 hz HNU
  refine (wpIn_wide (n := 9)).1 (wpIn_region_num1 rfl hmx [(21, .val (.agg #[.int .i64 (D.size : Int), .slice Ap np cp, .slice Ab nb cb, .slice An nn cn, .bool false, .slice Ax nx cx, .slice Ay ny cy])), (22, .val (.agg #[.int .i64 (D.size : Int), .slice Ap np cp, .slice Ab nb cb, .slice An nn cn, .bool false, .slice Ax nx cx, .slice Ay ny cy])), (23, .val (.agg #[.bool iP, bP, dP])), (24, .rt (rtN P)), (25, .val (.agg #[.bool iQ, bQ, dQ])), (26, .rt (rtN Q)), (27, .rt (rcbN D.p D.b (rtN P) (rtN Q))), (28, .pts D.p (rcbN D.p D.b (rtN P) (rtN Q))), (7, .val (.bool true))] (by kernel_rfl) (by kernel_rfl) (by kernel_rfl) (by kernel_rfl) (by rfl) gr 8 ⟨_, rfl, rfl⟩ (HR.out.lt) HNO6.out 26 3 ⟨_, HR.out, rfl⟩ (fun V => ∃ v0 v1 v2, RowV 26 V gr [v0, v1, v2] ∧ PtS D.p (rcbN D.p D.b (rtN P) (rtN Q)) (.agg #[v0, v1, v2]) V) ?hPs4 ?hops4 ?hs4 ?hend4)
  case hPs4 =>
   rintro V V' hlt hb ⟨v0, v1, v2, hr, ht⟩
   exact ⟨v0, v1, v2, hr.later hb, ht.later hb⟩
  case hops4 =>
   intro i o a' V hns hB ho hev hrd
   have his : i < 10 := by have := (Array.getElem?_eq_some_iff.1 ho).1; simpa using this
   have hDM := HDM6.out.sb ⟨gr, HNO6.out, hB⟩
   have hP6 := HP6.out.sb ⟨gr, HNO6.out, hB⟩
   have hQ6 := HQ6.out.sb ⟨gr, HNO6.out, hB⟩
   have rp := HRP6.out.grown hB HNE.out.1
   have rq := HRQ6.out.grown hB HNE.out.2.1
   have r8 := HR8.out.grown hB HNE.out.2.2
   have p0 := rp.at_ (i := 0) rfl; have p1 := rp.at_ (i := 1) rfl; have p2 := rp.at_ (i := 2) rfl
   have q0 := rq.at_ (i := 0) rfl; have q1 := rq.at_ (i := 1) rfl; have q2 := rq.at_ (i := 2) rfl
   have f0 := r8.at_ (i := 0) rfl; have f1 := r8.at_ (i := 1) rfl; have f2 := r8.at_ (i := 2) rfl; have f3 := r8.at_ (i := 3) rfl; have f4 := r8.at_ (i := 4) rfl; have f5 := r8.at_ (i := 5) rfl; have f6 := r8.at_ (i := 6) rfl
   have hcase : i = 0 ∨ i = 1 ∨ i = 2 ∨ i = 3 ∨ i = 4 ∨ i = 5 ∨ i = 6 ∨ i = 7 ∨ i = 8 ∨ i = 9 := by omega
   rcases hcase with rfl | rfl | rfl | rfl | rfl | rfl | rfl | rfl | rfl | rfl
   ·simp at ho
    subst ho
    have r8 := hev 8 rfl
    simp [Act.eval] at r8
    refine ⟨nofun, fun _ _ => trivial, nofun, .inl ⟨.agg #[.int .i64 (D.size : Int), .slice Ap np cp, .slice Ab nb cb, .slice An nn cn, .bool false, .slice Ax nx cx, .slice Ay ny cy], V, ?_, Below.refl _ _, fun t ht => by cases ht; rfl⟩⟩
    simp [execOp, Act.eval, go_sem, r8, p0, p1, p2, q0, q1, q2, f0, f1, f2, f3, f4, f5, f6]
   ·simp at ho
    subst ho
    have r8 := hev 8 rfl
    simp [Act.eval] at r8
    refine ⟨nofun, fun _ _ => trivial, nofun, .inl ⟨.agg #[.int .i64 (D.size : Int), .slice Ap np cp, .slice Ab nb cb, .slice An nn cn, .bool false, .slice Ax nx cx, .slice Ay ny cy], V, ?_, Below.refl _ _, fun t ht => by cases ht; rfl⟩⟩
    simp [execOp, Act.eval, go_sem, r8, p0, p1, p2, q0, q1, q2, f0, f1, f2, f3, f4, f5, f6]
   ·simp at ho
    subst ho
    have r4 := hev 4 rfl
    simp [Act.eval] at r4
    refine ⟨nofun, fun _ _ => trivial, nofun, .inl ⟨.agg #[.bool iP, bP, dP], V, ?_, Below.refl _ _, fun t ht => by cases ht; rfl⟩⟩
    simp [execOp, Act.eval, go_sem, r4, p0, p1, p2, q0, q1, q2, f0, f1, f2, f3, f4, f5, f6]
   ·simp at ho
    subst ho
    have r23 : a'.eval (.tmp 23) = .agg #[.bool iP, bP, dP] := hrd 23 rfl rfl
    simp [Act.eval] at r23
    refine ⟨nofun, fun _ _ => trivial, nofun, .inr ⟨42, #[.agg #[.bool iP, bP, dP]], ?_, (callsIn_wide.2 (crof_any V _ P hP6)).mono ?_⟩⟩
    ·simp [execOp, Act.eval, r23, resolve, invoke, Deferred.ofValue]
    ·rintro e w' ⟨v, rfl, hv, hB2⟩
     exact ⟨_, rfl, hB2, fun t ht => by cases ht; exact hv⟩
   ·simp at ho
    subst ho
    have r5 := hev 5 rfl
    simp [Act.eval] at r5
    refine ⟨nofun, fun _ _ => trivial, nofun, .inl ⟨.agg #[.bool iQ, bQ, dQ], V, ?_, Below.refl _ _, fun t ht => by cases ht; rfl⟩⟩
    simp [execOp, Act.eval, go_sem, r5, p0, p1, p2, q0, q1, q2, f0, f1, f2, f3, f4, f5, f6]
   ·simp at ho
    subst ho
    have r25 : a'.eval (.tmp 25) = .agg #[.bool iQ, bQ, dQ] := hrd 25 rfl rfl
    simp [Act.eval] at r25
    refine ⟨nofun, fun _ _ => trivial, nofun, .inr ⟨42, #[.agg #[.bool iQ, bQ, dQ]], ?_, (callsIn_wide.2 (crof_any V _ Q hQ6)).mono ?_⟩⟩
    ·simp [execOp, Act.eval, r25, resolve, invoke, Deferred.ofValue]
    ·rintro e w' ⟨v, rfl, hv, hB2⟩
     exact ⟨_, rfl, hB2, fun t ht => by cases ht; exact hv⟩
   ·simp at ho
    subst ho
    have r22 : a'.eval (.tmp 22) = .agg #[.int .i64 (D.size : Int), .slice Ap np cp, .slice Ab nb cb, .slice An nn cn, .bool false, .slice Ax nx cx, .slice Ay ny cy] := hrd 22 rfl rfl
    simp [Act.eval] at r22
    have r24 : Rt V (a'.eval (.tmp 24)) (rtN P) := hrd 24 rfl rfl
    have r26 : Rt V (a'.eval (.tmp 26)) (rtN Q) := hrd 26 rfl rfl
    refine ⟨nofun, fun _ _ => trivial, nofun, .inr ⟨41, #[.agg #[.int .i64 (D.size : Int), .slice Ap np cp, .slice Ab nb cb, .slice An nn cn, .bool false, .slice Ax nx cx, .slice Ay ny cy], a'.eval (.tmp 24), a'.eval (.tmp 26)], ?_, (callsIn_wide.2 (cadd_any V D (rtN P) (rtN Q) _ _ _ hDM r24 r26 (by have := HOK.out.1.1; omega) HOK.out.1.2.1 HOK.out.1.2.2)).mono ?_⟩⟩
    ·simp [execOp, Act.eval, r22, resolve, invoke, Deferred.ofValue]
    ·rintro e w' ⟨v, rfl, hv, hB2⟩
     exact ⟨_, rfl, hB2, fun t ht => by cases ht; exact hv⟩
   ·simp at ho
    subst ho
    have r21 : a'.eval (.tmp 21) = .agg #[.int .i64 (D.size : Int), .slice Ap np cp, .slice Ab nb cb, .slice An nn cn, .bool false, .slice Ax nx cx, .slice Ay ny cy] := hrd 21 rfl rfl
    simp [Act.eval] at r21
    have r27 : Rt V (a'.eval (.tmp 27)) (rcbN D.p D.b (rtN P) (rtN Q)) := hrd 27 rfl rfl
    refine ⟨nofun, fun _ _ => trivial, nofun, .inr ⟨40, #[.agg #[.int .i64 (D.size : Int), .slice Ap np cp, .slice Ab nb cb, .slice An nn cn, .bool false, .slice Ax nx cx, .slice Ay ny cy], a'.eval (.tmp 27)], ?_, (callsIn_wide.2 (cpt_any V D (rcbN D.p D.b (rtN P) (rtN Q)) _ _ hDM r27 (by have := HOK.out.1.1; omega) (cop_lt HOK.out.2 (rcbN_lt (by have := HOK.out.1.1; omega) HOK.out.1.2.2 _ _).2.2))).mono ?_⟩⟩
    ·simp [execOp, Act.eval, r21, resolve, invoke, Deferred.ofValue]
    ·rintro e w' ⟨v, R, rfl, hR, hv0, hB2⟩; have hv : PtS D.p (rcbN D.p D.b (rtN P) (rtN Q)) v w' := ⟨R, hR, hv0⟩
     exact ⟨_, rfl, hB2, fun t ht => by cases ht; exact hv⟩
   ·simp at ho
    subst ho
    exact absurd rfl hns
   ·simp at ho
    subst ho
    refine ⟨nofun, fun _ _ => trivial, nofun, .inl ⟨.bool true, V, ?_, Below.refl _ _, fun t ht => by cases ht; rfl⟩⟩
    simp [execOp, Act.eval, go_sem, p0, p1, p2, q0, q1, q2, f0, f1, f2, f3, f4, f5, f6]
  case hs4 =>
   intro o a' V hG hN hshp ho hev hrd
   simp at ho
   have hop : o.op = .store 26 (.tmp 6) (.tmp 28) := by subst ho; rfl
   have hds : o.dst = none := by subst ho; rfl
   have hrdv : readsB o 28 = true := by subst ho; rfl
   have rv : PtS D.p (rcbN D.p D.b (rtN P) (rtN Q)) (a'.eval (.tmp 28)) V := hrd 28 hrdv (by rfl)
   have op := hev 6 rfl
   obtain ⟨vs, hrv, hvl⟩ := hshp
   obtain ⟨V', hrun, hr', hg'⟩ : ∃ V', (execOp a'.eval o).run Tryz.prog V = .ok .skip V' ∧ (∃ v0 v1 v2, RowV 26 V' gr [v0, v1, v2] ∧ (∀ x, v0 ≠ .int .u64 x) ∧ (∀ x, v1 ≠ .int .u64 x) ∧ (∀ x, v2 ≠ .int .u64 x) ∧ PtS D.p (rcbN D.p D.b (rtN P) (rtN Q)) (.agg #[v0, v1, v2]) V) ∧ V.grownBy V' (some gr) := by
    obtain ⟨R, hR, hPt⟩ := rv
    obtain ⟨v0, v1, v2, he, o0, o1, o2, n0, n1, n2⟩ := hPt.three
    obtain ⟨V', h1, h2, h3⟩ := exec_store (P := Tryz.prog) (w := V) (o := o) (a := a') 26 3 Tryz.sizePt (.tmp 6) (.tmp 28) hop gr [v0, v1, v2] (by rw [op]; rfl) he 26 vs hrv hvl rfl (ones3 o0 o1 o2)
    exact ⟨V', h1, ⟨_, _, _, h2, n0, n1, n2, he ▸ ⟨R, hR, hPt⟩⟩, h3⟩
   obtain ⟨v0, v1, v2, h1, h2, h3, h4, h5⟩ := hr'
   exact ⟨(by intro c h; rw [hop] at h; cases h), fun _ _ => trivial, hds, V', hrun, hg', NoU.of_row h1 (noU3 h2 h3 h4), ⟨_, h1, rfl⟩, v0, v1, v2, h1, h5.sb ⟨gr, hN, hg'⟩⟩
  case hend4 =>
   rintro vals V hG hN hvals ⟨v0, v1, v2, hr, ht⟩
   have hv7 : vals 9 = .bool true := hvals 9 7 _ rfl rfl
   clear hvals
   simp [wrote, Act.put]
   go_wp2_with fail
   refine ⟨rfl, _, results_pt2 rfl _ gr _ rfl hr rfl, _, ?_, ht, below_grown HBW.out hG HGL.out.1 HBW.out.size⟩
   simp [hv7]
 ·exfalso
  simp only [List.mem_cons, List.not_mem_nil, or_false] at hR
  rcases hR with rfl | rfl
  ·exact hRn HHAS.out.1
  ·exact hRn HHAS.out.2
theorem cSize_yes (w : World) (c : Int) (D : Crv) (hc : crvOf c = some D) :
  Calls Tryz.prog 34 #[.int .i64 c] w fun e w' => e = .returned (.int .i64 (D.size : Int)) ∧ Below w.heap.size w w' := by
 have HB := hid (Below.refl w.heap.size w)
 have HD := hid (domOf_yes w c D hc)
 clear hc
 go_enter Tryz.func34, Tryz.ntmps34
 go_wp2_with fail
 refine HD.out.mono ?_
 rintro e w1 ⟨vd, rfl, hvd, hb1⟩
 obtain ⟨vp, vb, vn, vx, vy, rfl, k1, k2, k3, k4, k5⟩ := hvd
 obtain ⟨Ap, np, cp, rfl⟩ := k1.sl
 obtain ⟨Ab, nb, cb, rfl⟩ := k2.sl
 obtain ⟨An, nn, cn, rfl⟩ := k3.sl
 obtain ⟨Ax, nx, cx, rfl⟩ := k4.sl
 obtain ⟨Ay, ny, cy, rfl⟩ := k5.sl
 have HDM := hid (show Dm w1 _ D from ⟨_, _, _, _, _, rfl, k1, k2, k3, k4, k5⟩)
 obtain ⟨W5, e5, r5, b5, s5⟩ := newS w1 73 [.int .i64 0, .slice none 0 0, .slice none 0 0, .slice none 0 0, .bool false, .slice none 0 0, .slice none 0 0] _ rfl
 obtain ⟨g8, hg8⟩ : ∃ x, w1.heap.size = x := ⟨_, rfl⟩
 rw [hg8] at r5
 have HB5 := hid b5
 have HB1 := hid hb1
 have HG8 := hid (show w1.heap.size ≤ g8 by omega)
 have HNU := hid (NoU.of_row r5 (by intro v hv x; simp only [List.mem_cons, List.not_mem_nil, or_false] at hv; rcases hv with rfl | rfl | rfl | rfl | rfl | rfl | rfl <;> (intro h; cases h)))
 clear hb1 b5 s5 k1 k2 k3 k4 k5
 go_wp2_with ((with_reducible show wpList _ _ _ (⟨none, _, _, _, _, _⟩ :: _) _ _); refine wlS_store rfl 73 7 Tryz.sizeDom _ _ rfl g8 [.int .i64 (D.size : Int), .slice Ap np cp, .slice Ab nb cb, .slice An nn cn, .bool false, .slice Ax nx cx, .slice Ay ny cy] rfl rfl 73 _ r5 rfl rfl (by intro v hv; simp only [List.mem_cons, List.not_mem_nil, or_false] at hv; rcases hv with rfl | rfl | rfl | rfl | rfl | rfl | rfl <;> rfl) ?_; intro w6 hr6 hg6 hz; have f0 := hr6.at_ (i := 0) rfl; have f1 := hr6.at_ (i := 1) rfl; have f3 := hr6.at_ (i := 3) rfl)
 have hbw1 := HB.out.trans (HB1.out.mono HB.out.size)
 have hbw5 := hbw1.trans (HB5.out.mono hbw1.size)
 have hb6 := below_grown hbw5 hg6 (by have := HG8.out; have := hbw1.size; omega) hbw5.size
 have hsb : Sb W5 w6 := ⟨g8, HNU.out, hg6⟩
 have hdm := (HDM.out.later HB5.out).sb hsb
 go_ret
 exact ⟨rfl, hb6⟩
theorem cOrder_yes (w : World) (c : Int) (D : Crv) (hc : crvOf c = some D) :
  Calls Tryz.prog 35 #[.int .i64 c] w fun e w' => RetU w D.n e w' := by
 have HB := hid (Below.refl w.heap.size w)
 have HD := hid (domOf_yes w c D hc)
 clear hc
 go_enter Tryz.func35, Tryz.ntmps35
 go_wp2_with fail
 refine HD.out.mono ?_
 rintro e w1 ⟨vd, rfl, hvd, hb1⟩
 obtain ⟨vp, vb, vn, vx, vy, rfl, k1, k2, k3, k4, k5⟩ := hvd
 obtain ⟨Ap, np, cp, rfl⟩ := k1.sl
 obtain ⟨Ab, nb, cb, rfl⟩ := k2.sl
 obtain ⟨An, nn, cn, rfl⟩ := k3.sl
 obtain ⟨Ax, nx, cx, rfl⟩ := k4.sl
 obtain ⟨Ay, ny, cy, rfl⟩ := k5.sl
 have HDM := hid (show Dm w1 _ D from ⟨_, _, _, _, _, rfl, k1, k2, k3, k4, k5⟩)
 obtain ⟨W5, e5, r5, b5, s5⟩ := newS w1 73 [.int .i64 0, .slice none 0 0, .slice none 0 0, .slice none 0 0, .bool false, .slice none 0 0, .slice none 0 0] _ rfl
 obtain ⟨g8, hg8⟩ : ∃ x, w1.heap.size = x := ⟨_, rfl⟩
 rw [hg8] at r5
 have HB5 := hid b5
 have HB1 := hid hb1
 have HG8 := hid (show w1.heap.size ≤ g8 by omega)
 have HNU := hid (NoU.of_row r5 (by intro v hv x; simp only [List.mem_cons, List.not_mem_nil, or_false] at hv; rcases hv with rfl | rfl | rfl | rfl | rfl | rfl | rfl <;> (intro h; cases h)))
 clear hb1 b5 s5 k1 k2 k3 k4 k5
 go_wp2_with ((with_reducible show wpList _ _ _ (⟨none, _, _, _, _, _⟩ :: _) _ _); refine wlS_store rfl 73 7 Tryz.sizeDom _ _ rfl g8 [.int .i64 (D.size : Int), .slice Ap np cp, .slice Ab nb cb, .slice An nn cn, .bool false, .slice Ax nx cx, .slice Ay ny cy] rfl rfl 73 _ r5 rfl rfl (by intro v hv; simp only [List.mem_cons, List.not_mem_nil, or_false] at hv; rcases hv with rfl | rfl | rfl | rfl | rfl | rfl | rfl <;> rfl) ?_; intro w6 hr6 hg6 hz; have f0 := hr6.at_ (i := 0) rfl; have f1 := hr6.at_ (i := 1) rfl; have f3 := hr6.at_ (i := 3) rfl)
 have hbw1 := HB.out.trans (HB1.out.mono HB.out.size)
 have hbw5 := hbw1.trans (HB5.out.mono hbw1.size)
 have hb6 := below_grown hbw5 hg6 (by have := HG8.out; have := hbw1.size; omega) hbw5.size
 have hsb : Sb W5 w6 := ⟨g8, HNU.out, hg6⟩
 have hdm := (HDM.out.later HB5.out).sb hsb
 obtain ⟨_, _, _, _, _, he, k1, k2, k3, k4, k5⟩ := hdm
 injection he with he
 simp at he
 obtain ⟨⟨rfl, rfl, rfl⟩, ⟨rfl, rfl, rfl⟩, ⟨rfl, rfl, rfl⟩, ⟨rfl, rfl, rfl⟩, ⟨rfl, rfl, rfl⟩⟩ := he
 go_ret
 exact ⟨_, rfl, k3, hb6⟩
theorem cBase_yes (w : World) (c : Int) (D : Crv) (hc : crvOf c = some D) :
  Calls Tryz.prog 33 #[.int .i64 c] w fun e w' => ∃ v, e = .returned v ∧ Pt w' v (some (D.gx, D.gy)) ∧ Below w.heap.size w w' := by
 obtain ⟨W0, e0, r0, b0, s0⟩ := newS w 26 [.bool false, .slice none 0 0, .slice none 0 0] _ rfl
 obtain ⟨gr, hgr⟩ : ∃ x, w.heap.size = x := ⟨_, rfl⟩
 rw [hgr] at r0
 have HB := hid b0
 have HR := hid r0
 have HGL := hid (show w.heap.size ≤ gr by omega)
 have HD := hid (domOf_yes W0 c D hc)
 clear b0 s0 r0 hc
 go_enter Tryz.func33, Tryz.ntmps33
 go_wp2_with fail
 refine HD.out.mono ?_
 rintro e w1 ⟨vd, rfl, hvd, hb1⟩
 obtain ⟨vp, vb, vn, vx, vy, rfl, k1, k2, k3, k4, k5⟩ := hvd
 obtain ⟨Ap, np, cp, rfl⟩ := k1.sl
 obtain ⟨Ab, nb, cb, rfl⟩ := k2.sl
 obtain ⟨An, nn, cn, rfl⟩ := k3.sl
 obtain ⟨Ax, nx, cx, rfl⟩ := k4.sl
 obtain ⟨Ay, ny, cy, rfl⟩ := k5.sl
 have HDM := hid (show Dm w1 _ D from ⟨_, _, _, _, _, rfl, k1, k2, k3, k4, k5⟩)
 obtain ⟨W5, e5, r5, b5, s5⟩ := newS w1 73 [.int .i64 0, .slice none 0 0, .slice none 0 0, .slice none 0 0, .bool false, .slice none 0 0, .slice none 0 0] _ rfl
 obtain ⟨g8, hg8⟩ : ∃ x, w1.heap.size = x := ⟨_, rfl⟩
 rw [hg8] at r5
 have HB5 := hid b5
 have HB1 := hid hb1
 have HG8 := hid (show w1.heap.size ≤ g8 by omega)
 have HNU := hid (NoU.of_row r5 (by intro v hv x; simp only [List.mem_cons, List.not_mem_nil, or_false] at hv; rcases hv with rfl | rfl | rfl | rfl | rfl | rfl | rfl <;> (intro h; cases h)))
 have HRG := hid ((HR.out.later hb1).later b5)
 have HNR := hid (show gr ≠ g8 by have := (HR.out.later hb1).lt; omega)
 clear hb1 b5 s5 k1 k2 k3 k4 k5
 go_wp2_with (first | ((with_reducible show wpList _ _ _ (⟨none, _, _, _, _, _⟩ :: _) _ _); refine wlS_store rfl 73 7 Tryz.sizeDom _ _ rfl g8 [.int .i64 (D.size : Int), .slice Ap np cp, .slice Ab nb cb, .slice An nn cn, .bool false, .slice Ax nx cx, .slice Ay ny cy] rfl rfl 73 _ r5 rfl rfl (by intro v hv; simp only [List.mem_cons, List.not_mem_nil, or_false] at hv; rcases hv with rfl | rfl | rfl | rfl | rfl | rfl | rfl <;> rfl) ?_; intro w6 hr6 hg6 hz; have hrg6 := HRG.out.grown hg6 HNR.out; have f4 := hr6.at_ (i := 4) rfl; have f5 := hr6.at_ (i := 5) rfl; have f6 := hr6.at_ (i := 6) rfl) | ((with_reducible show wpList _ _ _ (⟨none, _, _, _, _, _⟩ :: _) _ _); refine wlS_store rfl 26 3 Tryz.sizePt _ _ rfl gr [.bool false, .slice Ax nx cx, .slice Ay ny cy] rfl rfl 26 _ hrg6 rfl rfl (ones3 rfl rfl rfl) ?_; intro w8 hr8 hg8w hz))
 have hbw1 := HB.out.trans (HB1.out.mono HB.out.size)
 have hbw5 := hbw1.trans (HB5.out.mono hbw1.size)
 have hb6 := below_grown hbw5 hg6 (by have := HG8.out; have := hbw1.size; omega) hbw5.size
 have hsb : Sb W5 w6 := ⟨g8, HNU.out, hg6⟩
 have hdm := (HDM.out.later HB5.out).sb hsb
 obtain ⟨_, _, _, _, _, he, k1, k2, k3, k4, k5⟩ := hdm
 injection he with he
 simp at he
 obtain ⟨⟨rfl, rfl, rfl⟩, ⟨rfl, rfl, rfl⟩, ⟨rfl, rfl, rfl⟩, ⟨rfl, rfl, rfl⟩, ⟨rfl, rfl, rfl⟩⟩ := he
 have hs8 : Sb w6 w8 := ⟨gr, NoU.of_row hrg6 (noU3 nofun nofun nofun), hg8w⟩
 exact ⟨rfl, _, results_pt rfl _ gr _ rfl hr8 rfl, _, rfl, ⟨_, _, rfl, k4.sb hs8, k5.sb hs8⟩, below_grown hb6 hg8w HGL.out hb6.size⟩
theorem cOn_yes (w : World) (c : Int) (D : Crv) (hc : crvOf c = some D) (vP : Value) (P : Option (Nat × Nat)) (hP : Pg w vP P) :
  Calls Tryz.prog 14 #[.int .i64 c, vP] w fun e w' => e = .returned (.bool (decide (hasN D.p D.b P))) ∧ Below w.heap.size w w' := by
 have hok := crv_ok hc
 obtain ⟨iP, bP, dP, rfl⟩ := hP.ex
 obtain ⟨W0, e0, r0, b0, s0⟩ := newS w 26 [.bool iP, bP, dP] _ rfl
 obtain ⟨gP, hgP⟩ : ∃ x, w.heap.size = x := ⟨_, rfl⟩
 rw [hgP] at r0
 have HB := hid b0
 have HP := hid (hP.later b0)
 have HR := hid r0
 have HOK := hid hok
 have HD := hid (domOf_yes W0 c D hc)
 clear b0 r0 s0 hc hok hP
 go_enter Tryz.func14, Tryz.ntmps14
 go_wp2_with fail
 refine HD.out.mono ?_
 rintro e w1 ⟨vd, rfl, hvd, hb1⟩
 obtain ⟨vp, vb, vn, vx, vy, rfl, k1, k2, k3, k4, k5⟩ := hvd
 obtain ⟨Ap, np, cp, rfl⟩ := k1.sl
 obtain ⟨Ab, nb, cb, rfl⟩ := k2.sl
 obtain ⟨An, nn, cn, rfl⟩ := k3.sl
 obtain ⟨Ax, nx, cx, rfl⟩ := k4.sl
 obtain ⟨Ay, ny, cy, rfl⟩ := k5.sl
 have HDM := hid (show Dm w1 _ D from ⟨_, _, _, _, _, rfl, k1, k2, k3, k4, k5⟩)
 obtain ⟨W5, e5, r5, b5, s5⟩ := newS w1 73 [.int .i64 0, .slice none 0 0, .slice none 0 0, .slice none 0 0, .bool false, .slice none 0 0, .slice none 0 0] _ rfl
 obtain ⟨g8, hg8⟩ : ∃ x, w1.heap.size = x := ⟨_, rfl⟩
 rw [hg8] at r5
 have HB5 := hid b5
 have HB1 := hid hb1
 have HG8 := hid (show w1.heap.size ≤ g8 ∧ gP ≠ g8 by have := (HR.out.later hb1).lt; omega)
 have HNU := hid (NoU.of_row r5 (by intro v hv x; simp only [List.mem_cons, List.not_mem_nil, or_false] at hv; rcases hv with rfl | rfl | rfl | rfl | rfl | rfl | rfl <;> (intro h; cases h)))
 have HRP := hid ((HR.out.later hb1).later b5)
 clear hb1 b5 s5 k1 k2 k3 k4 k5
 go_wp2_with ((with_reducible show wpList _ _ _ (⟨none, _, _, _, _, _⟩ :: _) _ _); refine wlS_store rfl 73 7 Tryz.sizeDom _ _ rfl g8 [.int .i64 (D.size : Int), .slice Ap np cp, .slice Ab nb cb, .slice An nn cn, .bool false, .slice Ax nx cx, .slice Ay ny cy] rfl rfl 73 _ r5 rfl rfl (by intro v hv; simp only [List.mem_cons, List.not_mem_nil, or_false] at hv; rcases hv with rfl | rfl | rfl | rfl | rfl | rfl | rfl <;> rfl) ?_; intro w6 hr6 hg6 hz; have rp6 := HRP.out.grown hg6 HG8.out.2; have p0 := rp6.at_ (i := 0) rfl; have p1 := rp6.at_ (i := 1) rfl; have p2 := rp6.at_ (i := 2) rfl; have f0 := hr6.at_ (i := 0) rfl; have f1 := hr6.at_ (i := 1) rfl; have f2 := hr6.at_ (i := 2) rfl; have f3 := hr6.at_ (i := 3) rfl; have f4 := hr6.at_ (i := 4) rfl; have f5 := hr6.at_ (i := 5) rfl; have f6 := hr6.at_ (i := 6) rfl)
 have hsb : Sb W5 w6 := ⟨g8, HNU.out, hg6⟩
 have hbw1 := HB.out.trans (HB1.out.mono HB.out.size)
 have hbw5 := hbw1.trans (HB5.out.mono hbw1.size)
 have HB6 := hid (below_grown hbw5 hg6 (by have := HG8.out; have := hbw1.size; omega) hbw5.size)
 refine (chas_any w6 D P _ _ ((HDM.out.later HB5.out).sb hsb) (((HP.out.later HB1.out).later HB5.out).sb hsb) HOK.out.1.1 HOK.out.1.2.1 HOK.out.1.2.2).mono ?_
 rintro e w7 ⟨rfl, hb7⟩
 have HB7 := hid (HB6.out.trans (hb7.mono HB6.out.size))
 clear hb7 hsb hbw1 hbw5
 go_wp2
 go_ret
 exact ⟨rfl, HB7.out⟩
def Nb (w : World) (v : Value) (k : Nat) : Prop := ∃ xs A n c, v = .slice A n c ∧ Sl w w.heap.size A n c xs ∧ Nm b32 xs k ∧ n ≤ 4096
theorem Nb.sb {w w' : World} {v : Value} {k : Nat} (h : Nb w v k) (hb : Sb w w') : Nb w' v k := by
 obtain ⟨xs, A, n, c, e, hs, hn, hl⟩ := h
 exact ⟨xs, A, n, c, e, hs.sb hb, hn, hl⟩
theorem Nb.later {w w' : World} {v : Value} {k : Nat} (h : Nb w v k) (hb : Below w.heap.size w w') : Nb w' v k := h.sb (Sb.of_below hb)
theorem Nb.sl {w : World} {v : Value} {k : Nat} (h : Nb w v k) : ∃ A n c, v = .slice A n c := by
 obtain ⟨xs, A, n, c, e, _⟩ := h
 exact ⟨A, n, c, e⟩
theorem Nb.nil (w : World) : Nb w (.slice none 0 0) 0 :=
 ⟨[], none, 0, 0, rfl, Sl.nil _ _ _ (by omega), ⟨fun x hx => (by cases hx), fun x hx => (by cases hx), rfl⟩, by omega⟩
theorem Nb.of {w : World} {n c k : Nat} {A : Option Addr} {xs : List Nat} (hs : Sl w w.heap.size A n c xs) (hn : Nm b32 xs k) (hk : k < b32 ^ 4096) : Nb w (.slice A n c) k :=
 ⟨xs, A, n, c, rfl, hs, hn, by rw [hs.len]; exact hn.length_le (by decide) hk⟩
theorem Nb.no {w : World} {v : Value} {k : Nat} (h : Nb w v k) : ∀ x, v ≠ .int .u64 x := by
 obtain ⟨xs, A, n, c, rfl, _⟩ := h
 intro x hx
 cases hx
def RetB (w : World) (k : Nat) (e : Ending) (w' : World) : Prop := ∃ v, e = .returned v ∧ Nb w' v k ∧ Below w.heap.size w w'
theorem b64_128 : b64 ^ 64 ≤ b32 ^ 4096 := by decide +kernel
theorem from_u (w : World) (v : Value) (k : Nat) (h : NumR w 64 k v) : Calls Tryz.prog 22 #[v] w fun e w' => RetB w k e w' := by
 have hlt := h.lt
 obtain ⟨xs, A, n, c, rfl, hs, hd, rfl, hl⟩ := h
 refine (from_any w _ (Nat.le_refl _) A n c xs hs hd (by omega)).mono ?_
 rintro e w' ⟨ys, hn, A', n', c', rfl, hs', hb⟩
 exact ⟨_, rfl, Nb.of hs' hn (Nat.lt_of_lt_of_le hlt b64_128), hb⟩
theorem from_lit (w : World) (n : Nat) (xs : List Nat) (arr : Array Value) (ha : arr = (xs.map U).toArray) (k : Nat) (hn : n = xs.length) (hn1 : n ≤ 60) (hk : Nm b64 xs k) :
  Calls Tryz.prog 22 #[.slice (some ⟨w.heap.size, 0, none⟩) n n] (w.alloc (.cells arr 63)) fun e w' => RetB w k e w' := by
 subst ha
 have hr := RowV.new w 63 (xs.map U)
 have hb : Below w.heap.size w (w.alloc (.cells (xs.map U).toArray 63)) := (Below.refl _ w).alloc (Nat.le_refl _) _
 have hr' : Row (w.alloc (.cells (xs.map U).toArray 63)) w.heap.size xs := hr
 have hs := hr'.sl (by omega)
 rw [← hn] at hs
 refine (from_u _ _ k ⟨xs, _, n, n, rfl, hs, hk.1, hk.2.2, by omega⟩).mono ?_
 rintro e w' ⟨v, rfl, hv, hB⟩
 exact ⟨_, rfl, hv, hb.trans (hB.mono hb.size)⟩
theorem Tryz.sizeCr : (Tryz.prog.info? 30).map (·.size) = some 6 := by kernel_rfl
theorem Tryz.sizeRp : (Tryz.prog.info? 33).map (·.size) = some 3 := by kernel_rfl
theorem results_cr {fn : Func} {q : Tmp} {w : World} (h : fn.results = #[.cell q 30]) (tmps : Array Value) (g : Nat) (vs : List Value) (hp : tmps.getD q undef = .pointer (some ⟨g, 0, none⟩)) (hr : RowV 30 w g vs) (hl : vs.length = 6) :
  (results fn tmps).run Tryz.prog w = .ok (.agg vs.toArray) w :=
 results_cell_row h tmps w g _ vs.toArray (0, 0) _ hp hr Tryz.underlying30 rfl (by rw [Tryz.sizeCr]; simp [hl])
theorem results_rp {fn : Func} {q : Tmp} {w : World} (h : fn.results = #[.cell q 33]) (tmps : Array Value) (g : Nat) (vs : List Value) (hp : tmps.getD q undef = .pointer (some ⟨g, 0, none⟩)) (hr : RowV 33 w g vs) (hl : vs.length = 3) :
  (results fn tmps).run Tryz.prog w = .ok (.agg vs.toArray) w :=
 results_cell_row h tmps w g _ vs.toArray (0, 0) _ hp hr Tryz.underlying33 rfl (by rw [Tryz.sizeRp]; simp [hl])
def Cr (w : World) (v : Value) (D : Crv) : Prop := ∃ vp vn vb vx vy, v = .agg #[vp, vn, vb, vx, vy, .int .i64 (D.size : Int)] ∧ Nb w vp D.p ∧ Nb w vn D.n ∧ Nb w vb D.b ∧ Nb w vx D.gx ∧ Nb w vy D.gy
theorem Cr.sb {w w' : World} {v : Value} {D : Crv} (h : Cr w v D) (hb : Sb w w') : Cr w' v D := by
 obtain ⟨vp, vb, vn, vx, vy, e, h1, h2, h3, h4, h5⟩ := h
 exact ⟨vp, vb, vn, vx, vy, e, h1.sb hb, h2.sb hb, h3.sb hb, h4.sb hb, h5.sb hb⟩
theorem Cr.later {w w' : World} {v : Value} {D : Crv} (h : Cr w v D) (hb : Below w.heap.size w w') : Cr w' v D := h.sb (Sb.of_below hb)
def Rp (w : World) (v : Value) : Option (Nat × Nat) → Prop
 | none => ∃ a b, v = .agg #[.bool true, a, b] ∧ Nb w a 0 ∧ Nb w b 0
 | some (x, y) => ∃ a b, v = .agg #[.bool false, a, b] ∧ Nb w a x ∧ Nb w b y
theorem Rp.sb {w w' : World} {v : Value} {P : Option (Nat × Nat)} (h : Rp w v P) (hb : Sb w w') : Rp w' v P := by
 rcases P with _ | ⟨x, y⟩
 ·obtain ⟨a, b, e, h1, h2⟩ := h
  exact ⟨a, b, e, h1.sb hb, h2.sb hb⟩
 ·obtain ⟨a, b, e, h1, h2⟩ := h
  exact ⟨a, b, e, h1.sb hb, h2.sb hb⟩
theorem Rp.later {w w' : World} {v : Value} {P : Option (Nat × Nat)} (h : Rp w v P) (hb : Below w.heap.size w w') : Rp w' v P := h.sb (Sb.of_below hb)
abbrev cr0 : Value := .agg #[.slice none 0 0, .slice none 0 0, .slice none 0 0, .slice none 0 0, .slice none 0 0, .int .i64 0]
theorem noU6 {a b c d e : Value} {z : Int} (ha : ∀ x, a ≠ .int .u64 x) (hb : ∀ x, b ≠ .int .u64 x) (hc : ∀ x, c ≠ .int .u64 x) (hd : ∀ x, d ≠ .int .u64 x) (he : ∀ x, e ≠ .int .u64 x) : ∀ v ∈ [a, b, c, d, e, .int .i64 z], ∀ x, v ≠ .int .u64 x := by
 intro v hv x
 simp only [List.mem_cons, List.not_mem_nil, or_false] at hv
 rcases hv with rfl | rfl | rfl | rfl | rfl | rfl
 ·exact ha x
 ·exact hb x
 ·exact hc x
 ·exact hd x
 ·exact he x
 ·intro h; cases h
theorem ones6 {a b c d e f : Value} (ha : a.oneCell' = true) (hb : b.oneCell' = true) (hc : c.oneCell' = true) (hd : d.oneCell' = true) (he : e.oneCell' = true) (hf : f.oneCell' = true) : Ones [a, b, c, d, e, f] := by
 intro v hv
 simp only [List.mem_cons, List.not_mem_nil, or_false] at hv
 rcases hv with rfl | rfl | rfl | rfl | rfl | rfl <;> assumption
theorem rOf9_no (w : World) (c : Int) (h : crvOf c = none) : Calls Tryz.prog 10 #[.int .i64 c] w fun e w' => e = .returned cr0 ∧ Below w.heap.size w w' := by
 have h1 : c ≠ 1 := by rintro rfl; cases h
 have h2 : c ≠ 2 := by rintro rfl; cases h
 obtain ⟨W0, e0, r0, b0, z0⟩ := newS w 30 [.slice none 0 0, .slice none 0 0, .slice none 0 0, .slice none 0 0, .slice none 0 0, .int .i64 0] _ rfl
 obtain ⟨gr, hgr⟩ : ∃ g, w.heap.size = g := ⟨_, rfl⟩
 have HGR := hid hgr
 rw [hgr] at r0
 go_enter Tryz.func10, Tryz.ntmps10
 go_wp2_with ((with_reducible show wpList _ _ _ (⟨none, _, _, _, _, _⟩ :: _) _ _); refine wlS_store rfl 30 6 Tryz.sizeCr _ _ rfl gr [.slice none 0 0, .slice none 0 0, .slice none 0 0, .slice none 0 0, .slice none 0 0, .int .i64 0] rfl rfl 30 _ r0 rfl rfl (ones6 rfl rfl rfl rfl rfl rfl) ?_; intro w6 hr6 hg6 hz6)
 refine ⟨rfl, _, results_cr rfl _ gr _ rfl hr6 rfl, rfl, below_grown b0 hg6 (by rw [HGR.out]; exact Nat.le_refl _) b0.size⟩
theorem rOf9_256 (w : World) : Calls Tryz.prog 10 #[.int .i64 1] w fun e w' => ∃ v, e = .returned v ∧ Cr w' v crv256 ∧ Below w.heap.size w w' := by
 have hlit : ∀ (W : World) (xs : List Nat) (arr : Array Value) (k : Nat), arr = (xs.map U).toArray → xs.length = 4 → Nm b64 xs k →
   Calls Tryz.prog 22 #[.slice (some ⟨W.heap.size, 0, none⟩) 4 4] (W.alloc (.cells arr 63)) fun e w' => RetB W k e w' :=
  fun W xs arr k h1 h2 h3 => from_lit W 4 xs arr h1 k h2.symm (by decide) h3
 obtain ⟨W0, e0, r0, b0, z0⟩ := newS w 30 [.slice none 0 0, .slice none 0 0, .slice none 0 0, .slice none 0 0, .slice none 0 0, .int .i64 0] _ rfl
 have HB0 := hid b0
 have HR := hid r0
 have HLIT := hid hlit
 clear b0 r0 hlit z0
 go_enter Tryz.func10, Tryz.ntmps10
 go_wp2_with fail
 refine (HLIT.out W0 [18446744073709551615, 4294967295, 0, 18446744069414584321] _ 0xffffffff00000001000000000000000000000000ffffffffffffffffffffffff rfl rfl (nm_of (by decide +kernel) (by decide +kernel) (by decide +kernel))).mono ?_
 rintro e w1 ⟨v1, rfl, hv1, hb1⟩
 have HV1 := hid hv1
 have HB1 := hid hb1
 clear hv1 hb1
 go_wp2_with fail
 refine (HLIT.out w1 [17562291160714782033, 13611842547513532036, 18446744073709551615, 18446744069414584320] _ 0xffffffff00000000ffffffffffffffffbce6faada7179e84f3b9cac2fc632551 rfl rfl (nm_of (by decide +kernel) (by decide +kernel) (by decide +kernel))).mono ?_
 rintro e w2 ⟨v2, rfl, hv2, hb2⟩
 have HV1 := hid (HV1.out.later hb2)
 have HV2 := hid hv2
 have HB2 := hid (HB1.out.trans (hb2.mono HB1.out.size))
 clear hv2 hb2
 go_wp2_with fail
 refine (HLIT.out w2 [4309448131093880907, 7285987128567378166, 12964664127075681980, 6540974713487397863] _ 0x5ac635d8aa3a93e7b3ebbd55769886bc651d06b0cc53b0f63bce3c3e27d2604b rfl rfl (nm_of (by decide +kernel) (by decide +kernel) (by decide +kernel))).mono ?_
 rintro e w3 ⟨v3, rfl, hv3, hb3⟩
 have HV1 := hid (HV1.out.later hb3)
 have HV2 := hid (HV2.out.later hb3)
 have HV3 := hid hv3
 have HB3 := hid (HB2.out.trans (hb3.mono HB2.out.size))
 clear hv3 hb3
 go_wp2_with fail
 refine (HLIT.out w3 [17627433388654248598, 8575836109218198432, 17923454489921339634, 7716867327612699207] _ 0x6b17d1f2e12c4247f8bce6e563a440f277037d812deb33a0f4a13945d898c296 rfl rfl (nm_of (by decide +kernel) (by decide +kernel) (by decide +kernel))).mono ?_
 rintro e w4 ⟨v4, rfl, hv4, hb4⟩
 have HV1 := hid (HV1.out.later hb4)
 have HV2 := hid (HV2.out.later hb4)
 have HV3 := hid (HV3.out.later hb4)
 have HV4 := hid hv4
 have HB4 := hid (HB3.out.trans (hb4.mono HB3.out.size))
 clear hv4 hb4
 go_wp2_with fail
 refine (HLIT.out w4 [14678990851816772085, 3156516839386865358, 10297457778147434006, 5756518291402817435] _ 0x4fe342e2fe1a7f9b8ee7eb4a7c0f9e162bce33576b315ececbb6406837bf51f5 rfl rfl (nm_of (by decide +kernel) (by decide +kernel) (by decide +kernel))).mono ?_
 rintro e w5 ⟨v5, rfl, hv5, hb5⟩
 have HV1 := hid (HV1.out.later hb5)
 have HV2 := hid (HV2.out.later hb5)
 have HV3 := hid (HV3.out.later hb5)
 have HV4 := hid (HV4.out.later hb5)
 have HV5 := hid hv5
 have HB5 := hid (HB4.out.trans (hb5.mono HB4.out.size))
 clear hv5 hb5
 have hRW := HR.out.later HB5.out
 obtain ⟨gr, hgr⟩ : ∃ g, w.heap.size = g := ⟨_, rfl⟩
 rw [hgr] at hRW ⊢
 have HGR := hid hgr
 clear e0
 obtain ⟨A1, n1, c1, rfl⟩ := HV1.out.sl
 obtain ⟨A2, n2, c2, rfl⟩ := HV2.out.sl
 obtain ⟨A3, n3, c3, rfl⟩ := HV3.out.sl
 obtain ⟨A4, n4, c4, rfl⟩ := HV4.out.sl
 obtain ⟨A5, n5, c5, rfl⟩ := HV5.out.sl
 go_wp2_with ((with_reducible show wpList _ _ _ (⟨none, _, _, _, _, _⟩ :: _) _ _); refine wlS_store rfl 30 6 Tryz.sizeCr _ _ rfl gr [.slice A1 n1 c1, .slice A2 n2 c2, .slice A3 n3 c3, .slice A4 n4 c4, .slice A5 n5 c5, .int .i64 32] rfl rfl 30 _ hRW rfl rfl (ones6 rfl rfl rfl rfl rfl rfl) ?_; intro w6 hr6 hg6 hz6)
 refine ⟨rfl, _, results_cr rfl _ gr _ rfl hr6 rfl, ?_⟩
 have hbw := HB0.out.trans (HB5.out.mono HB0.out.size)
 have hs6 : Sb w5 w6 := ⟨gr, NoU.of_row hRW (noU6 nofun nofun nofun nofun nofun), hg6⟩
 exact ⟨_, rfl, ⟨_, _, _, _, _, rfl, HV1.out.sb hs6, HV2.out.sb hs6, HV3.out.sb hs6, HV4.out.sb hs6, HV5.out.sb hs6⟩, below_grown hbw hg6 (by rw [HGR.out]; exact Nat.le_refl _) hbw.size⟩
theorem rOf9_384 (w : World) : Calls Tryz.prog 10 #[.int .i64 2] w fun e w' => ∃ v, e = .returned v ∧ Cr w' v crv384 ∧ Below w.heap.size w w' := by
 have hlit : ∀ (W : World) (xs : List Nat) (arr : Array Value) (k : Nat), arr = (xs.map U).toArray → xs.length = 6 → Nm b64 xs k →
   Calls Tryz.prog 22 #[.slice (some ⟨W.heap.size, 0, none⟩) 6 6] (W.alloc (.cells arr 63)) fun e w' => RetB W k e w' :=
  fun W xs arr k h1 h2 h3 => from_lit W 6 xs arr h1 k h2.symm (by decide) h3
 obtain ⟨W0, e0, r0, b0, z0⟩ := newS w 30 [.slice none 0 0, .slice none 0 0, .slice none 0 0, .slice none 0 0, .slice none 0 0, .int .i64 0] _ rfl
 have HB0 := hid b0
 have HR := hid r0
 have HLIT := hid hlit
 clear b0 r0 hlit z0
 go_enter Tryz.func10, Tryz.ntmps10
 go_wp2_with fail
 refine (HLIT.out W0 [4294967295, 18446744069414584320, 18446744073709551614, 18446744073709551615, 18446744073709551615, 18446744073709551615] _ 0xfffffffffffffffffffffffffffffffffffffffffffffffffffffffffffffffeffffffff0000000000000000ffffffff rfl rfl (nm_of (by decide +kernel) (by decide +kernel) (by decide +kernel))).mono ?_
 rintro e w1 ⟨v1, rfl, hv1, hb1⟩
 have HV1 := hid hv1
 have HB1 := hid hb1
 clear hv1 hb1
 go_wp2_with fail
 refine (HLIT.out w1 [17072048233947408755, 6348401684107011962, 14367412456785391071, 18446744073709551615, 18446744073709551615, 18446744073709551615] _ 0xffffffffffffffffffffffffffffffffffffffffffffffffc7634d81f4372ddf581a0db248b0a77aecec196accc52973 rfl rfl (nm_of (by decide +kernel) (by decide +kernel) (by decide +kernel))).mono ?_
 rintro e w2 ⟨v2, rfl, hv2, hb2⟩
 have HV1 := hid (HV1.out.later hb2)
 have HV2 := hid hv2
 have HB2 := hid (HB1.out.trans (hb2.mono HB1.out.size))
 clear hv2 hb2
 go_wp2_with fail
 refine (HLIT.out w2 [3064076045283764975, 14291673747578343837, 221811693264799578, 1737717031765098770, 10992729701402291481, 12912154004749740004] _ 0xb3312fa7e23ee7e4988e056be3f82d19181d9c6efe8141120314088f5013875ac656398d8a2ed19d2a85c8edd3ec2aef rfl rfl (nm_of (by decide +kernel) (by decide +kernel) (by decide +kernel))).mono ?_
 rintro e w3 ⟨v3, rfl, hv3, hb3⟩
 have HV1 := hid (HV1.out.later hb3)
 have HV2 := hid (HV2.out.later hb3)
 have HV3 := hid hv3
 have HB3 := hid (HB2.out.trans (hb3.mono HB2.out.size))
 clear hv3 hb3
 go_wp2_with fail
 refine (HLIT.out w3 [4203087948775033527, 6125724927633205612, 6482722621138151992, 7934563412932533144, 10282218360005504372, 12288012358878168375] _ 0xaa87ca22be8b05378eb1c71ef320ad746e1d3b628ba79b9859f741e082542a385502f25dbf55296c3a545e3872760ab7 rfl rfl (nm_of (by decide +kernel) (by decide +kernel) (by decide +kernel))).mono ?_
 rintro e w4 ⟨v4, rfl, hv4, hb4⟩
 have HV1 := hid (HV1.out.later hb4)
 have HV2 := hid (HV2.out.later hb4)
 have HV3 := hid (HV3.out.later hb4)
 have HV4 := hid hv4
 have HB4 := hid (HB3.out.trans (hb4.mono HB3.out.size))
 clear hv4 hb4
 go_wp2_with fail
 refine (HLIT.out w4 [8809917716911230559, 747793036959711645, 16850834916486723776, 17938995913990739068, 6745997240412855337, 3897828414440483951] _ 0x3617de4a96262c6f5d9e98bf9292dc29f8f41dbd289a147ce9da3113b5f0b8c00a60b1ce1d7e819d7a431d7c90ea0e5f rfl rfl (nm_of (by decide +kernel) (by decide +kernel) (by decide +kernel))).mono ?_
 rintro e w5 ⟨v5, rfl, hv5, hb5⟩
 have HV1 := hid (HV1.out.later hb5)
 have HV2 := hid (HV2.out.later hb5)
 have HV3 := hid (HV3.out.later hb5)
 have HV4 := hid (HV4.out.later hb5)
 have HV5 := hid hv5
 have HB5 := hid (HB4.out.trans (hb5.mono HB4.out.size))
 clear hv5 hb5
 have hRW := HR.out.later HB5.out
 obtain ⟨gr, hgr⟩ : ∃ g, w.heap.size = g := ⟨_, rfl⟩
 rw [hgr] at hRW ⊢
 have HGR := hid hgr
 clear e0
 obtain ⟨A1, n1, c1, rfl⟩ := HV1.out.sl
 obtain ⟨A2, n2, c2, rfl⟩ := HV2.out.sl
 obtain ⟨A3, n3, c3, rfl⟩ := HV3.out.sl
 obtain ⟨A4, n4, c4, rfl⟩ := HV4.out.sl
 obtain ⟨A5, n5, c5, rfl⟩ := HV5.out.sl
 go_wp2_with ((with_reducible show wpList _ _ _ (⟨none, _, _, _, _, _⟩ :: _) _ _); refine wlS_store rfl 30 6 Tryz.sizeCr _ _ rfl gr [.slice A1 n1 c1, .slice A2 n2 c2, .slice A3 n3 c3, .slice A4 n4 c4, .slice A5 n5 c5, .int .i64 48] rfl rfl 30 _ hRW rfl rfl (ones6 rfl rfl rfl rfl rfl rfl) ?_; intro w6 hr6 hg6 hz6)
 refine ⟨rfl, _, results_cr rfl _ gr _ rfl hr6 rfl, ?_⟩
 have hbw := HB0.out.trans (HB5.out.mono HB0.out.size)
 have hs6 : Sb w5 w6 := ⟨gr, NoU.of_row hRW (noU6 nofun nofun nofun nofun nofun), hg6⟩
 exact ⟨_, rfl, ⟨_, _, _, _, _, rfl, HV1.out.sb hs6, HV2.out.sb hs6, HV3.out.sb hs6, HV4.out.sb hs6, HV5.out.sb hs6⟩, below_grown hbw hg6 (by rw [HGR.out]; exact Nat.le_refl _) hbw.size⟩
theorem rOf9_yes (w : World) (c : Int) (D : Crv) (h : crvOf c = some D) : Calls Tryz.prog 10 #[.int .i64 c] w fun e w' => ∃ v, e = .returned v ∧ Cr w' v D ∧ Below w.heap.size w w' := by
 unfold crvOf at h
 split at h
 ·rename_i h1
  subst h1
  obtain rfl := Option.some.inj h
  exact rOf9_256 w
 ·split at h
  ·rename_i h2
   subst h2
   obtain rfl := Option.some.inj h
   exact rOf9_384 w
  ·cases h
theorem rBase9_raw (w : World) (Ap An Ab Ax Ay : Option Addr) (np cp nn cn nb cb nx cx ny cy : Nat) (z : Int) : Calls Tryz.prog 37 #[.agg #[.slice Ap np cp, .slice An nn cn, .slice Ab nb cb, .slice Ax nx cx, .slice Ay ny cy, .int .i64 z]] w fun e w' => e = .returned (.agg #[.bool false, .slice Ax nx cx, .slice Ay ny cy]) ∧ Below w.heap.size w w' := by
 obtain ⟨W0, e0, r0, b0, z0⟩ := newS w 30 [.slice Ap np cp, .slice An nn cn, .slice Ab nb cb, .slice Ax nx cx, .slice Ay ny cy, .int .i64 z] _ rfl
 obtain ⟨W1, e1, r1, b1, z1⟩ := newS W0 33 [.bool false, .slice none 0 0, .slice none 0 0] _ rfl
 have r01 := r0.later b1
 have f3 := r01.at_ (i := 3) rfl
 have f4 := r01.at_ (i := 4) rfl
 obtain ⟨g0, hg0⟩ : ∃ g, w.heap.size = g := ⟨_, rfl⟩
 obtain ⟨gr, hgr⟩ : ∃ g, W0.heap.size = g := ⟨_, rfl⟩
 have HGR := hid (show w.heap.size ≤ gr by omega)
 have HB := hid (b0.trans (b1.mono b0.size))
 rw [hgr] at r1
 rw [hg0] at f3 f4
 clear b0 b1 z0 z1 r0 r01
 go_enter Tryz.func37, Tryz.ntmps37
 go_wp2_with ((with_reducible show wpList _ _ _ (⟨none, _, _, _, _, _⟩ :: _) _ _); refine wlS_store rfl 33 3 Tryz.sizeRp _ _ rfl gr [.bool false, .slice Ax nx cx, .slice Ay ny cy] rfl rfl 33 _ r1 rfl rfl (ones3 rfl rfl rfl) ?_; intro w6 hr6 hg6 hz6)
 refine ⟨rfl, _, results_rp rfl _ gr _ rfl hr6 rfl, rfl, below_grown HB.out hg6 HGR.out HB.out.size⟩
theorem rBase9_any (w : World) (v : Value) (D : Crv) (h : Cr w v D) : Calls Tryz.prog 37 #[v] w fun e w' => ∃ v', e = .returned v' ∧ Rp w' v' (some (D.gx, D.gy)) ∧ Below w.heap.size w w' := by
 obtain ⟨vp, vn, vb, vx, vy, rfl, h1, h2, h3, h4, h5⟩ := h
 obtain ⟨Ap, np, cp, rfl⟩ := h1.sl
 obtain ⟨An, nn, cn, rfl⟩ := h2.sl
 obtain ⟨Ab, nb, cb, rfl⟩ := h3.sl
 obtain ⟨Ax, nx, cx, rfl⟩ := h4.sl
 obtain ⟨Ay, ny, cy, rfl⟩ := h5.sl
 refine (rBase9_raw w _ _ _ _ _ _ _ _ _ _ _ _ _ _ _ _).mono ?_
 rintro e w' ⟨rfl, hb⟩
 exact ⟨_, rfl, ⟨_, _, rfl, h4.later hb, h5.later hb⟩, hb⟩
def RetInv32 (w : World) (N M : Nat) (e : Ending) (w' : World) : Prop :=
 ∃ b A n c r, e = .returned (.tuple #[.slice A n c, .bool b]) ∧ (b = true ↔ Nat.gcd M N = 1) ∧ (b = true → ∃ R, Nm b32 r R ∧ R < M ∧ N * R % M = 1) ∧ Sl w' w'.heap.size A n c r ∧ Below w.heap.size w w'
theorem rinverse2_any (w : World) (A1 : Option Addr) (n1 c1 : Nat) (xs : List Nat) (hs1 : Sl w w.heap.size A1 n1 c1 xs) (A3 : Option Addr) (n3 c3 : Nat) (zs : List Nat) (hs3 : Sl w w.heap.size A3 n3 c3 zs)
  (N M : Nat) (hN : Nm b32 xs N) (hM : Nm b32 zs M) (hn1 : n1 ≤ 10000000) (hn3 : n3 ≤ 10000000) (hM1 : 1 < M) :
  Calls Tryz.prog 52 #[.slice A1 n1 c1, .slice A3 n3 c3] w fun e w' => RetInv32 w N M e w' := by
 have hMl : M < b32 ^ n3 := by rw [← hM.2.2, hs3.len]; exact V_lt _ hM.1
 have hM0 : 0 < M := by omega
 have hmo := rmod2_any w _ _ _ _ hs1 _ _ _ _ hs3 N M hN hM (by omega) (by omega) hM0
 have HMO := hid hmo
 have HN := hid hN
 have HM := hid hM
 have HM1 := hid hM1
 have HM0 := hid hM0
 have HML := hid hMl
 clear hmo hN hM hM1 hM0 hMl hs1
 go_enter Tryz.func52, Tryz.ntmps52
 go_wp2_with fail
 refine HMO.out.mono ?_
 rintro e w1 ⟨ss, hss, As, ns, cs, rfl, hsS, hB⟩
 have hs3 := hs3.later hB (Nat.le_refl _)
 have HSS := hid hss
 have ho : Calls Tryz.prog 29 #[.int .u64 1] w1 (fun e w' => RetN b32 w1 1 e w') := rof_any 1 (by decide) w1
 have HO := hid ho
 clear ho hss
 go_wp2_with fail
 refine HO.out.mono ?_
 rintro e w2 ⟨os, hos, Ao, no, co, rfl, hso, hc⟩
 replace hs3 := hs3.later hc (Nat.le_refl _)
 replace hsS := hsS.later hc (Nat.le_refl _)
 replace hB := hB.trans (hc.mono hB.size)
 have hpow : ∀ y, y ≤ M → y < b32 ^ n3 := fun y h => Nat.lt_of_le_of_lt h HML.out
 have HPW := hid hpow
 have HI1 := hid (show Num32 w2 n3 M (.slice A3 n3 c3) from ⟨_, _, _, _, rfl, hs3, HM.out, HML.out⟩)
 have HI2 := hid (show Num32 w2 n3 (N % M) (.slice As ns cs) from ⟨_, _, _, _, rfl, hsS, HSS.out, hpow _ (Nat.le_of_lt (Nat.mod_lt _ HM0.out))⟩)
 have HI3 := hid (show Num32 w2 n3 0 (.slice none 0 0) from ⟨[], none, 0, 0, rfl, Sl.nil _ _ _ (by omega), ⟨fun x hx => (by cases hx), fun x hx => (by cases hx), rfl⟩, hpow _ (Nat.zero_le _)⟩)
 have HI4 := hid (show Num32 w2 n3 1 (.slice Ao no co) from ⟨_, _, _, _, rfl, hso, hos, hpow _ HM0.out⟩)
 clear hc hos hso hsS hpow
 go_wp2
 go_loopw [6, 7, 8, 9] (fun r s x y wr => ∃ rn sn xn yn : Nat, Num32 wr n3 rn r ∧ Num32 wr n3 sn s ∧ Num32 wr n3 xn x ∧ Num32 wr n3 yn y ∧ RInv N M rn sn xn yn ∧ (rn ≤ M ∧ sn ≤ M) ∧ Below w2.heap.size w2 wr) (fun _ s _ _ wr => num32At wr s)
 case atStart => exact ⟨M, N % M, 0, 1, HI1.out, HI2.out, HI3.out, HI4.out, RInv.start N M HM1.out, ⟨Nat.le_refl _, Nat.le_of_lt (Nat.mod_lt _ HM0.out)⟩, Below.refl _ _⟩
 case round =>
  obtain ⟨rn, sn, xn, yn, hr, hs, hx, hy, hinv, ⟨hrM, hsM⟩, hBr⟩ := hrel
  obtain ⟨rx, Ar, nr, cr, rfl, hsr, hrn, hrl⟩ := hr.len
  obtain ⟨sx, Aq, nq, cq, rfl, hsq, hsn, hsl⟩ := hs.len
  obtain ⟨xx, Ax, nx, cx, rfl, hsx, hxn, hxl⟩ := hx.len
  obtain ⟨yx, Ay, ny, cy, rfl, hsy, hyn, hyl⟩ := hy.len
  have HR := hid hrn
  have HS := hid hsn
  have HX := hid hxn
  have HY := hid hyn
  have HIN := hid hinv
  have HRM := hid hrM
  clear hr hs hx hy hrn hsn hxn hyn hinv hrM
  by_cases h0 : nq = 0
  ·subst h0
   have hs0 : sn = 0 := by
    have h1 : sx = [] := List.eq_nil_of_length_eq_zero hsq.len.symm
    have h2 := HS.out.2.2
    rw [h1] at h2
    simpa [V] using h2.symm
   have hinv := HIN.out
   rw [hs0] at hinv
   have hdn := hinv.done HM1.out
   have HDN := hid hdn
   have HXM := hid hinv.lx
   clear hs0 hinv hdn
   have ho : Calls Tryz.prog 29 #[.int .u64 1] wr (fun e w' => RetN b32 wr 1 e w') := rof_any 1 (by decide) wr
   have HO2 := hid ho
   clear ho
   go_wp2_with fail
   refine HO2.out.mono ?_
   rintro e w3 ⟨os, hos, Ao2, no2, co2, rfl, hso, hc⟩
   replace hsr := hsr.later hc (Nat.le_refl _)
   replace hsx := hsx.later hc (Nat.le_refl _)
   replace hBr := hBr.trans (hc.mono hBr.size)
   have hcm := rcmp_ret w3 _ _ _ _ _ hsr _ _ _ _ _ hso rn 1 HR.out hos
   obtain ⟨cv, hcv⟩ : ∃ cv, ncmp rn 1 = cv := ⟨_, rfl⟩
   rw [hcv] at hcm
   have HCM := hid hcm
   have HCV := hid hcv
   clear hcm hcv hos hc
   by_cases h1 : rn = 1
   ·have hc0 : cv = 0 := by rw [← HCV.out, h1, ncmp_eq]
    subst hc0
    have H1 := hid h1
    clear h1
    go_wp2_with fail
    refine HCM.out.mono ?_
    rintro e w4 ⟨rfl, hc⟩
    replace hsx := hsx.later hc (Nat.le_refl _)
    replace hBr := hBr.trans (hc.mono hBr.size)
    clear hc
    go_wp2
    go_ret2
    exact ⟨true, _, _, _, xx, rfl, ⟨fun _ => HDN.out.1.symm.trans H1.out, fun _ => rfl⟩, fun _ => ⟨xn, HX.out, HXM.out, HDN.out.2 H1.out⟩, hsx, hB.trans (hBr.mono hB.size)⟩
   ·have hc0 : ¬ cv = 0 := by
     intro h
     have h2 := ncmp_ne h1
     rw [HCV.out, h] at h2
     cases h2
    have H1 := hid h1
    clear h1
    go_wp2_with fail
    refine HCM.out.mono ?_
    rintro e w4 ⟨rfl, hc⟩
    replace hBr := hBr.trans (hc.mono hBr.size)
    clear hc
    go_wp2
    go_ret2
    exact ⟨false, _, _, _, [], rfl, ⟨fun h => (by cases h), fun h => absurd (HDN.out.1.trans h) H1.out⟩, fun h => (by cases h), Sl.nil _ _ _ (by omega), hB.trans (hBr.mono hB.size)⟩
  ·have hq0 : 0 < sn := by
    rcases Nat.eq_zero_or_pos sn with h | h
    ·exfalso
     have h2 : sx = [] := nm_unique (by decide) (h ▸ HS.out) ⟨fun x hx => (by cases hx), fun x hx => (by cases hx), rfl⟩
     apply h0
     rw [hsq.len, h2]; rfl
    ·exact h
   have hnq : (0 : Int) < (nq : Int) := by omega
   have HNA := hid (show num32At wr (.slice Aq nq cq) = sn from (num32At_sl hsq).trans HS.out.2.2)
   have hqo := rquo_any wr _ _ _ _ hsr _ _ _ _ hsq rn sn HR.out HS.out (by omega) (by omega) hq0
   obtain ⟨hle, hst⟩ := HIN.out.step HM1.out
   have hsm : sn ≤ M := hsM
   have hml := Nat.mod_lt rn hq0
   obtain ⟨Q, hQ⟩ : ∃ Q, rn / sn = Q := ⟨_, rfl⟩
   obtain ⟨R, hR⟩ : ∃ R, rn % sn = R := ⟨_, rfl⟩
   rw [hQ] at hle hst hqo
   rw [hR] at hst hqo hml
   have hQM : Q ≤ M := by rw [← hQ]; exact Nat.le_trans (Nat.div_le_self _ _) HRM.out
   obtain ⟨Z1, hZ1⟩ : ∃ Z1, Q * yn % M = Z1 := ⟨_, rfl⟩
   rw [hZ1] at hle hst
   obtain ⟨Z2, hZ2⟩ : ∃ Z2, (xn + M - Z1) % M = Z2 := ⟨_, rfl⟩
   rw [hZ2] at hst
   have hZ2l : Z2 < M := by rw [← hZ2]; exact Nat.mod_lt _ HM0.out
   have hZ1l : Z1 < M := by rw [← hZ1]; exact Nat.mod_lt _ HM0.out
   have HQO := hid hqo
   have HLE := hid hle
   have HSTP := hid hst
   have HMLT := hid hml
   have HQM := hid hQM
   have HZ1 := hid hZ1
   have HZ2 := hid hZ2
   have HZ1L := hid hZ1l
   have HZ2L := hid hZ2l
   have HSM := hid hsm
   clear hqo hle hst hml hQM hZ1 hZ2 hZ1l hZ2l hsm hQ hR h0 hq0
   go_wp2_with fail
   refine HQO.out.mono ?_
   rintro e w3 ⟨A5, n5, c5, q, A6, n6, c6, r, rfl, hsqq, hqn, hsrr, hrrn, hc⟩
   replace hsq := hsq.later hc (Nat.le_refl _)
   replace hsx := hsx.later hc (Nat.le_refl _)
   replace hsy := hsy.later hc (Nat.le_refl _)
   replace hBr := hBr.trans (hc.mono hBr.size)
   clear hc hsr
   have hl5 : n5 ≤ n3 := by rw [hsqq.len]; exact hqn.length_le (by decide) (HPW.out _ HQM.out)
   have hmu := rmul_any w3 _ (Nat.le_refl _) _ _ _ _ hsqq _ _ _ _ hsy hqn.1 HY.out.1 (by omega) (by omega)
   rw [hqn.2.2, HY.out.2.2] at hmu
   have HMU := hid hmu
   have HRR := hid hrrn
   clear hmu hqn hrrn
   go_wp2_with fail
   refine HMU.out.mono ?_
   rintro e w4 ⟨ps, hps, Ap, np, cp, rfl, hsp, hc⟩
   replace hsq := hsq.later hc (Nat.le_refl _)
   replace hsx := hsx.later hc (Nat.le_refl _)
   replace hsy := hsy.later hc (Nat.le_refl _)
   replace hsrr := hsrr.later hc (Nat.le_refl _)
   replace hBr := hBr.trans (hc.mono hBr.size)
   clear hc hsqq
   have hyM : yn ≤ M := Nat.le_of_lt HIN.out.ly
   have hlp : np ≤ n3 + n3 := by
    rw [hsp.len]
    refine hps.length_le (by decide) ?_
    rw [Nat.pow_add]
    exact Nat.mul_lt_mul'' (HPW.out _ HQM.out) (HPW.out _ hyM)
   have hmo := rmod2_any w4 _ _ _ _ hsp _ _ _ _ (hs3.later hBr (Nat.le_refl _)) (Q * yn) M hps HM.out (by omega) (by omega) HM0.out
   rw [HZ1.out] at hmo
   have HMO3 := hid hmo
   clear hmo hps hyM
   go_wp2_with fail
   refine HMO3.out.mono ?_
   rintro e w5 ⟨z1, hz1, Az, nz, cz, rfl, hsz, hc⟩
   replace hsq := hsq.later hc (Nat.le_refl _)
   replace hsx := hsx.later hc (Nat.le_refl _)
   replace hsy := hsy.later hc (Nat.le_refl _)
   replace hsrr := hsrr.later hc (Nat.le_refl _)
   replace hBr := hBr.trans (hc.mono hBr.size)
   clear hc hsp
   have HZN := hid hz1
   have had := radd_any w5 _ (Nat.le_refl _) _ _ _ _ hsx _ _ _ _ (hs3.later hBr (Nat.le_refl _)) HX.out.1 HM.out.1 (by omega) (by omega)
   rw [HX.out.2.2, HM.out.2.2] at had
   have HAD := hid had
   clear hz1 had
   go_wp2_with fail
   refine HAD.out.mono ?_
   rintro e w6 ⟨us, hus, Au, nu, cu, rfl, hsu, hc⟩
   replace hsq := hsq.later hc (Nat.le_refl _)
   replace hsy := hsy.later hc (Nat.le_refl _)
   replace hsrr := hsrr.later hc (Nat.le_refl _)
   replace hsz := hsz.later hc (Nat.le_refl _)
   replace hBr := hBr.trans (hc.mono hBr.size)
   clear hc hsx
   have hxM := HIN.out.lx
   have hsum : xn + M < b32 ^ (n3 + 1) := by
    rw [Nat.pow_succ]
    have h1 := HML.out
    have h2 : b32 ^ n3 * 2 ≤ b32 ^ n3 * b32 := Nat.mul_le_mul_left _ (by decide)
    omega
   have hlu : nu ≤ n3 + 1 := by rw [hsu.len]; exact hus.length_le (by decide) hsum
   have hlz : nz ≤ nu := by rw [hsz.len, hsu.len]; exact len_le_of (by decide) HZN.out hus HLE.out
   have hsb := rsub_any w6 _ (Nat.le_refl _) _ _ _ _ hsu _ _ _ _ hsz hus.1 HZN.out.1 (by omega) hlz (by rw [HZN.out.2.2, hus.2.2]; exact HLE.out)
   rw [HZN.out.2.2, hus.2.2] at hsb
   have HSB := hid hsb
   clear hsb hus hxM
   have HSUM := hid hsum
   clear hsum
   go_wp2_with fail
   refine HSB.out.mono ?_
   rintro e w7 ⟨vs, hvs, Av, nv, cv, rfl, hsv, hc⟩
   replace hsq := hsq.later hc (Nat.le_refl _)
   replace hsy := hsy.later hc (Nat.le_refl _)
   replace hsrr := hsrr.later hc (Nat.le_refl _)
   replace hBr := hBr.trans (hc.mono hBr.size)
   clear hc hsu hsz
   have hlv : nv ≤ n3 + 1 := by rw [hsv.len]; exact hvs.length_le (by decide) (Nat.lt_of_le_of_lt (Nat.sub_le _ _) HSUM.out)
   have hmo := rmod2_any w7 _ _ _ _ hsv _ _ _ _ (hs3.later hBr (Nat.le_refl _)) (xn + M - Z1) M hvs HM.out (by omega) (by omega) HM0.out
   rw [HZ2.out] at hmo
   have HMO4 := hid hmo
   clear hmo hvs
   go_wp2_with fail
   refine HMO4.out.mono ?_
   rintro e w8 ⟨z2, hz2, Az2, nz2, cz2, rfl, hsz2, hc⟩
   replace hsq := hsq.later hc (Nat.le_refl _)
   replace hsy := hsy.later hc (Nat.le_refl _)
   replace hsrr := hsrr.later hc (Nat.le_refl _)
   replace hBr := hBr.trans (hc.mono hBr.size)
   have HZ2N := hid hz2
   clear hc hsv hz2
   go_wp2
   go_roundw
   case rel => exact ⟨sn, R, yn, Z2, ⟨_, _, _, _, rfl, hsq, HS.out, HPW.out _ HSM.out⟩, ⟨_, _, _, _, rfl, hsrr, HRR.out, HPW.out _ (Nat.le_trans (Nat.le_of_lt HMLT.out) HSM.out)⟩, ⟨_, _, _, _, rfl, hsy, HY.out, HPW.out _ (Nat.le_of_lt HIN.out.ly)⟩, ⟨_, _, _, _, rfl, hsz2, HZ2N.out, HPW.out _ (Nat.le_of_lt HZ2L.out)⟩, HSTP.out, ⟨HSM.out, Nat.le_trans (Nat.le_of_lt HMLT.out) HSM.out⟩, hBr⟩
   case measure =>
    rw [num32At_sl hsrr, HNA.out, HRR.out.2.2]
    exact HMLT.out
theorem Nb.lt {w : World} {v : Value} {k : Nat} (h : Nb w v k) : k < b32 ^ 4096 := by
 obtain ⟨xs, A, n, c, rfl, hs, hn, hl⟩ := h
 have h1 := V_lt xs hn.1
 rw [hn.2.2, ← hs.len] at h1
 have h3 : ∀ m, n ≤ m → k < b32 ^ m := fun m hm => Nat.lt_of_lt_of_le h1 (Nat.pow_le_pow_right (by decide) hm)
 exact h3 4096 hl
theorem radd_b (w : World) (a b : Value) (x y : Nat) (ha : Nb w a x) (hb : Nb w b y) (hl : x + y < b32 ^ 4096) : Calls Tryz.prog 32 #[a, b] w fun e w' => RetB w (x + y) e w' := by
 obtain ⟨xs, A, n, c, rfl, hs, hn, hk⟩ := ha
 obtain ⟨ys, A2, n2, c2, rfl, hs2, hn2, hk2⟩ := hb
 refine (radd_any w _ (Nat.le_refl _) A n c xs hs A2 n2 c2 ys hs2 hn.1 hn2.1 (by omega) (by omega)).mono ?_
 rintro e w' ⟨zs, hz, A3, n3, c3, rfl, hs3, hB⟩
 rw [hn.2.2, hn2.2.2] at hz
 exact ⟨_, rfl, Nb.of hs3 hz hl, hB⟩
theorem rsub_b (w : World) (a b : Value) (x y : Nat) (ha : Nb w a x) (hb : Nb w b y) (hle : y ≤ x) : Calls Tryz.prog 31 #[a, b] w fun e w' => RetB w (x - y) e w' := by
 have hlt := ha.lt
 obtain ⟨xs, A, n, c, rfl, hs, hn, hk⟩ := ha
 obtain ⟨ys, A2, n2, c2, rfl, hs2, hn2, hk2⟩ := hb
 have h1 := V_lt xs hn.1
 rw [hn.2.2, ← hs.len] at h1
 have hnn : n2 ≤ n := by rw [hs2.len]; exact hn2.length_le (by decide) (Nat.lt_of_le_of_lt hle h1)
 refine (rsub_any w _ (Nat.le_refl _) A n c xs hs A2 n2 c2 ys hs2 hn.1 hn2.1 (by omega) hnn (by rw [hn.2.2, hn2.2.2]; exact hle)).mono ?_
 rintro e w' ⟨zs, hz, A3, n3, c3, rfl, hs3, hB⟩
 rw [hn.2.2, hn2.2.2] at hz
 exact ⟨_, rfl, Nb.of hs3 hz (by omega), hB⟩
theorem rmod_b (w : World) (a b : Value) (x y : Nat) (ha : Nb w a x) (hb : Nb w b y) (h0 : 0 < y) : Calls Tryz.prog 49 #[a, b] w fun e w' => RetB w (x % y) e w' := by
 have hlt := hb.lt
 obtain ⟨xs, A, n, c, rfl, hs, hn, hk⟩ := ha
 obtain ⟨ys, A2, n2, c2, rfl, hs2, hn2, hk2⟩ := hb
 refine (rmod2_any w A n c xs hs A2 n2 c2 ys hs2 x y hn hn2 (by omega) (by omega) h0).mono ?_
 rintro e w' ⟨zs, hz, A3, n3, c3, rfl, hs3, hB⟩
 exact ⟨_, rfl, Nb.of hs3 hz (Nat.lt_trans (Nat.mod_lt _ h0) hlt), hB⟩
theorem rmul_b (w : World) (a b m : Value) (x y p : Nat) (ha : Nb w a x) (hb : Nb w b y) (hm : Nb w m p) (h0 : 0 < p) : Calls Tryz.prog 80 #[a, b, m] w fun e w' => RetB w (x * y % p) e w' := by
 have hlt := hm.lt
 obtain ⟨xs, A, n, c, rfl, hs, hn, hk⟩ := ha
 obtain ⟨ys, A2, n2, c2, rfl, hs2, hn2, hk2⟩ := hb
 obtain ⟨zs, A3, n3, c3, rfl, hs3, hn3, hk3⟩ := hm
 refine (rmul2_any w A n c xs hs A2 n2 c2 ys hs2 A3 n3 c3 zs hs3 x y p hn hn2 hn3 (by omega) (by omega) (by omega) h0).mono ?_
 rintro e w' ⟨us, hz, A4, n4, c4, rfl, hs4, hB⟩
 exact ⟨_, rfl, Nb.of hs4 hz (Nat.lt_trans (Nat.mod_lt _ h0) hlt), hB⟩
theorem rcmp_b (w : World) (a b : Value) (x y : Nat) (ha : Nb w a x) (hb : Nb w b y) : Calls Tryz.prog 47 #[a, b] w fun e w' => RetV w (.int .i64 (ncmp x y)) e w' := by
 obtain ⟨xs, A, n, c, rfl, hs, hn, hk⟩ := ha
 obtain ⟨ys, A2, n2, c2, rfl, hs2, hn2, hk2⟩ := hb
 refine (rcmp_any w _ A n c xs hs _ A2 n2 c2 ys hs2 x y hn hn2).mono ?_
 rintro e w' ⟨rfl, q, rfl⟩
 exact ⟨rfl, below_drewN (Below.refl _ _) q⟩
theorem rof_b (w : World) (x : Nat) (hx : x < b64) : Calls Tryz.prog 29 #[.int .u64 (x : Int)] w fun e w' => RetB w x e w' := by
 refine (rof_any x hx w).mono ?_
 rintro e w' ⟨zs, hz, A3, n3, c3, rfl, hs3, hB⟩
 exact ⟨_, rfl, Nb.of hs3 hz (Nat.lt_of_lt_of_le hx (by decide +kernel)), hB⟩
def Spc.nb (k : Nat) : Spc := ⟨fun v V => Nb V v k, fun _ _ _ hb h => h.sb hb⟩
theorem Cr.pr {w : World} {v : Value} {D : Crv} (h : Cr w v D) : ∃ vp vn vb vx vy, v = .agg #[vp, vn, vb, vx, vy, .int .i64 (D.size : Int)] ∧ Nb w vp D.p ∧ Nb w vb D.b := by
 obtain ⟨vp, vn, vb, vx, vy, e, h1, h2, h3, h4, h5⟩ := h
 exact ⟨vp, vn, vb, vx, vy, e, h1, h3⟩
theorem rtimes9_any (w : World) (vc a b : Value) (D : Crv) (x y : Nat) (hc : Cr w vc D) (ha : Nb w a x) (hb : Nb w b y) (hp : 0 < D.p) :
  Calls Tryz.prog 48 #[vc, a, b] w fun e w' => RetB w (x * y % D.p) e w' := by
 obtain ⟨vp, vn, vb, vx, vy, rfl, kp, kb⟩ := hc.pr
 obtain ⟨W0, e0, r0, b0, z0⟩ := newS w 30 [vp, vn, vb, vx, vy, .int .i64 (D.size : Int)] _ rfl
 obtain ⟨g0, hg0⟩ : ∃ g, w.heap.size = g := ⟨_, rfl⟩
 rw [hg0] at r0
 have HR := hid r0
 have HB0 := hid b0
 have HKP := hid (kp.later b0)
 have HA := hid (ha.later b0)
 have HBB := hid (hb.later b0)
 have HP := hid hp
 have p0 := r0.at_ (i := 0) rfl
 have HM := hid (rmul_b W0 a b vp x y D.p HA.out HBB.out HKP.out hp)
 clear hc ha hb hp b0 r0 z0 kp kb HA HBB HKP HP HR
 go_enter Tryz.func48, Tryz.ntmps48
 go_wp2_with fail
 refine HM.out.mono ?_
 rintro e w2 ⟨v, rfl, hv, hb2⟩
 have HV := hid hv
 have HB2 := hid (HB0.out.trans (hb2.mono HB0.out.size))
 clear hv hb2 p0
 go_wp2
 go_ret
 exact ⟨_, rfl, HV.out, HB2.out⟩
theorem rminus9_any (w : World) (vc a b : Value) (D : Crv) (x y : Nat) (hc : Cr w vc D) (ha : Nb w a x) (hb : Nb w b y) (hp : 0 < D.p ∧ x + D.p < b32 ^ 4096 ∧ y ≤ x + D.p) :
  Calls Tryz.prog 50 #[vc, a, b] w fun e w' => RetB w ((x + D.p - y) % D.p) e w' := by
 obtain ⟨vp, vn, vb, vx, vy, rfl, kp, kb⟩ := hc.pr
 obtain ⟨W0, e0, r0, b0, z0⟩ := newS w 30 [vp, vn, vb, vx, vy, .int .i64 (D.size : Int)] _ rfl
 obtain ⟨g0, hg0⟩ : ∃ g, w.heap.size = g := ⟨_, rfl⟩
 rw [hg0] at r0
 have HR := hid r0
 have HB0 := hid b0
 have HKP := hid (kp.later b0)
 have HA := hid (ha.later b0)
 have HBB := hid (hb.later b0)
 have HP := hid hp
 have hmx : Tryz.prog.follows .mixedOrders = true := by kernel_rfl
 clear hc ha hb hp b0 r0 z0 kp kb
 go_enter Tryz.func50, Tryz.ntmps50
 go_wp2_with fail
 refine (wpIn_wide (n := 9)).1 (wpIn_region_num0 rfl hmx [(7, .val (a)), (8, .val (.pointer (some ⟨g0, 0, none⟩))), (9, .val (vp)), (10, .nb (x + D.p)), (11, .val (b)), (12, .nb (x + D.p - y)), (13, .val (.pointer (some ⟨g0, 0, none⟩))), (14, .val (vp)), (15, .nb ((x + D.p - y) % D.p)), (6, .nb ((x + D.p - y) % D.p))] (by kernel_rfl) (by kernel_rfl) (by kernel_rfl) (by kernel_rfl) (by rfl) ?hops ?hend)
 case hops =>
  intro i o a' V hB ho hev hrd
  have his : i < 10 := by have := (Array.getElem?_eq_some_iff.1 ho).1; simpa using this
  have hA := HA.out.later hB
  have hBB := HBB.out.later hB
  have hKP := HKP.out.later hB
  have p0 := (HR.out.later hB).at_ (i := 0) rfl
  have hcase : i = 0 ∨ i = 1 ∨ i = 2 ∨ i = 3 ∨ i = 4 ∨ i = 5 ∨ i = 6 ∨ i = 7 ∨ i = 8 ∨ i = 9 := by omega
  rcases hcase with rfl | rfl | rfl | rfl | rfl | rfl | rfl | rfl | rfl | rfl
  ·simp at ho
   subst ho
   have r1 := hev 1 rfl
   simp [Act.eval] at r1
   refine ⟨nofun, fun _ _ => trivial, nofun, .inl ⟨a, V, ?_, Below.refl _ _, fun t ht => by cases ht; rfl⟩⟩
   simp [execOp, Act.eval, go_sem, r1, p0]
  ·simp at ho
   subst ho
   have r3 := hev 3 rfl
   simp [Act.eval] at r3
   refine ⟨nofun, fun _ _ => trivial, nofun, .inl ⟨.pointer (some ⟨g0, 0, none⟩), V, ?_, Below.refl _ _, fun t ht => by cases ht; rfl⟩⟩
   simp [execOp, Act.eval, go_sem, r3, p0]
  ·simp at ho
   subst ho
   have r8 : a'.eval (.tmp 8) = .pointer (some ⟨g0, 0, none⟩) := hrd 8 rfl rfl
   simp [Act.eval] at r8
   refine ⟨nofun, fun _ _ => trivial, nofun, .inl ⟨vp, V, ?_, Below.refl _ _, fun t ht => by cases ht; rfl⟩⟩
   simp [execOp, Act.eval, go_sem, r8, p0]
  ·simp at ho
   subst ho
   have r7 : a'.eval (.tmp 7) = a := hrd 7 rfl rfl
   simp [Act.eval] at r7
   have r9 : a'.eval (.tmp 9) = vp := hrd 9 rfl rfl
   simp [Act.eval] at r9
   refine ⟨nofun, fun _ _ => trivial, nofun, .inr ⟨32, #[a, vp], ?_, (callsIn_wide.2 (radd_b V _ _ _ _ hA hKP HP.out.2.1)).mono ?_⟩⟩
   ·simp [execOp, Act.eval, r7, r9, resolve, invoke, Deferred.ofValue]
   ·rintro e w' ⟨v, rfl, hv, hB2⟩
    exact ⟨_, rfl, hB2, fun t ht => by cases ht; exact hv⟩
  ·simp at ho
   subst ho
   have r2 := hev 2 rfl
   simp [Act.eval] at r2
   refine ⟨nofun, fun _ _ => trivial, nofun, .inl ⟨b, V, ?_, Below.refl _ _, fun t ht => by cases ht; rfl⟩⟩
   simp [execOp, Act.eval, go_sem, r2, p0]
  ·simp at ho
   subst ho
   have r10 : Nb V (a'.eval (.tmp 10)) (x + D.p) := hrd 10 rfl rfl
   have r11 : a'.eval (.tmp 11) = b := hrd 11 rfl rfl
   simp [Act.eval] at r11
   refine ⟨nofun, fun _ _ => trivial, nofun, .inr ⟨31, #[a'.eval (.tmp 10), b], ?_, (callsIn_wide.2 (rsub_b V _ _ _ _ r10 hBB HP.out.2.2)).mono ?_⟩⟩
   ·simp [execOp, Act.eval, r11, resolve, invoke, Deferred.ofValue]
   ·rintro e w' ⟨v, rfl, hv, hB2⟩
    exact ⟨_, rfl, hB2, fun t ht => by cases ht; exact hv⟩
  ·simp at ho
   subst ho
   have r3 := hev 3 rfl
   simp [Act.eval] at r3
   refine ⟨nofun, fun _ _ => trivial, nofun, .inl ⟨.pointer (some ⟨g0, 0, none⟩), V, ?_, Below.refl _ _, fun t ht => by cases ht; rfl⟩⟩
   simp [execOp, Act.eval, go_sem, r3, p0]
  ·simp at ho
   subst ho
   have r13 : a'.eval (.tmp 13) = .pointer (some ⟨g0, 0, none⟩) := hrd 13 rfl rfl
   simp [Act.eval] at r13
   refine ⟨nofun, fun _ _ => trivial, nofun, .inl ⟨vp, V, ?_, Below.refl _ _, fun t ht => by cases ht; rfl⟩⟩
   simp [execOp, Act.eval, go_sem, r13, p0]
  ·simp at ho
   subst ho
   have r12 : Nb V (a'.eval (.tmp 12)) (x + D.p - y) := hrd 12 rfl rfl
   have r14 : a'.eval (.tmp 14) = vp := hrd 14 rfl rfl
   simp [Act.eval] at r14
   refine ⟨nofun, fun _ _ => trivial, nofun, .inr ⟨49, #[a'.eval (.tmp 12), vp], ?_, (callsIn_wide.2 (rmod_b V _ _ _ _ r12 hKP HP.out.1)).mono ?_⟩⟩
   ·simp [execOp, Act.eval, r14, resolve, invoke, Deferred.ofValue]
   ·rintro e w' ⟨v, rfl, hv, hB2⟩
    exact ⟨_, rfl, hB2, fun t ht => by cases ht; exact hv⟩
  ·simp at ho
   subst ho
   have r15 : Nb V (a'.eval (.tmp 15)) ((x + D.p - y) % D.p) := hrd 15 rfl rfl
   refine ⟨nofun, fun _ _ => trivial, nofun, .inl ⟨a'.eval (.tmp 15), V, ?_, Below.refl _ _, fun t ht => by cases ht; exact r15⟩⟩
   simp [execOp]
 case hend =>
  intro vals V hB hP
  have p4 : Nb V (vals 9) ((x + D.p - y) % D.p) := hP 9 6 _ rfl rfl
  have HP4 := hid p4
  have HB2 := hid (HB0.out.trans (hB.mono HB0.out.size))
  clear p4 hP hB
  simp [wrote, Act.put]
  go_wp2
  go_ret
  exact ⟨_, rfl, HP4.out, HB2.out⟩
end Go.Proofs.YtbejcollbkeedaaGreat
