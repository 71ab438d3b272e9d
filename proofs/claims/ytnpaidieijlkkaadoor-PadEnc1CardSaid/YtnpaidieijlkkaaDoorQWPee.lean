/- PadEnc1, walked: the statement's own function. -/
import Derived.Test.YtnpaidieijlkkaaDoorQWPe
set_option linter.unusedVariables false
set_option linter.unusedSimpArgs false
namespace Go.Proofs.YtnpaidieijlkkaaDoor
open Go.RowKit Go.Shelf

set_option maxRecDepth 100000 in
set_option maxHeartbeats 16000000 in
theorem pe1_walk (w : World) (hGS : StartsG w) (hGR : RootsG w) (n : Int) (h0 : -9223372036854775808 ≤ n) (h1 : n ≤ 9223372036854775807)
    (A1 : Option Addr) (m1 c1 : Nat) (b1 : List (BitVec 8)) (s1 : SlV w w.heap.size A1 m1 c1 (b1.map W8)) (z1 : A1 = none → c1 = 0)
    (A2 : Option Addr) (m2 c2 : Nat) (b2 : List (BitVec 8)) (s2 : SlV w w.heap.size A2 m2 c2 (b2.map W8)) (z2 : A2 = none → c2 = 0) :
    Calls Tryd.prog 5 #[.int .i64 n, .slice A1 m1 c1, .slice A2 m2 c2] w fun e w' => e = .returned (.bool true) ∧ Below w.heap.size w w' := by
  have hbg := begun8_any w hGS hGR
  have hsz := fun V => size8_any V n h0 h1
  obtain ⟨g1, _, g3⟩ := size8_bd h0 h1
  obtain ⟨N, hN⟩ : ∃ N, size8 n = N := ⟨_, rfl⟩
  rw [hN] at hsz g1 g3
  have HBG := Lib.hid hbg
  have HSZ := Lib.hid hsz
  have HG := Lib.hid (⟨hGS, hGR⟩ : StartsG w ∧ RootsG w)
  have HP := Lib.hid (⟨Pc.of_sl s1 z1, Pc.of_sl s2 z2⟩ : Pc w w.heap.size (.slice A1 m1 c1) b1 ∧ Pc w w.heap.size (.slice A2 m2 c2) b2)
  have HG3 := Lib.hid (⟨g1, g3⟩ : -9223372036854775808 ≤ N ∧ (N ≤ 200 ∨ 65536 < N))
  clear hbg s1 z1 s2 z2 hGS hGR hsz hN h0 h1 g1 g3
  go_enter Tryd.func5, Tryd.ntmps5
  go_wp2_with fail
  refine HBG.out.mono ?_
  rintro e w1 ⟨rfl, hb1⟩
  obtain ⟨q1, t1, hq1, hl1, p1, hs1⟩ := short_pc (HP.out.1.up hb1) 220 (by decide)
  obtain ⟨q2, t2, hq2, hl2, p2, hs2⟩ := short_pc (HP.out.2.up hb1) 300 (by decide)
  have hG1 : StartsG w1 ∧ RootsG w1 := ⟨HG.out.1.later hb1, HG.out.2.later hb1⟩
  obtain ⟨R, V, C, hP, hR, hD⟩ := enc1_both N HG3.out.1 HG3.out.2 t1 t2 (by omega)
  obtain ⟨W2, e2, hB2, b2', x2⟩ := newBox w1 3 (.int .i64 0)
  obtain ⟨q, hq⟩ : ∃ q, w1.heap.size = q := ⟨_, rfl⟩
  rw [hq] at b2' x2 hB2
  have qc := b2'.1
  have fc := b2'.2.1
  obtain ⟨W3, e3⟩ : ∃ V, W2.setCell ⟨q, 0, none⟩ (.int .i64 0) = V := ⟨_, rfl⟩
  have b3 : BxE q (.int .i64 0) W3 := by rw [← e3]; exact b2'.set _
  have hB3 : Below w1.heap.size w1 W3 := by rw [← e3, hq]; exact below_box hB2 (Nat.le_refl _) _
  have x3 : W3.heap.size = q + 1 := by rw [← e3]; simp [World.setCell]; exact x2
  have hgv := given_any W3 A2 q2 c2 q
  rw [x3] at hgv
  have S1 := Lib.hid hs1
  have S2 := Lib.hid hs2
  have P3 := Lib.hid (⟨p1.up hB3, p2.up hB3⟩ : Pc W3 W3.heap.size (.slice A1 q1 c1) t1 ∧ Pc W3 W3.heap.size (.slice A2 q2 c2) t2)
  have P1 := Lib.hid (⟨p1, p2⟩ : Pc w1 w1.heap.size (.slice A1 q1 c1) t1 ∧ Pc w1 w1.heap.size (.slice A2 q2 c2) t2)
  have HQ := Lib.hid (⟨hq1, hq2, hl1, hl2⟩ : q1 ≤ 220 ∧ q2 ≤ 300 ∧ t1.length = q1 ∧ t2.length = q2)
  have HEP := Lib.hid hP
  have HER := Lib.hid hR
  have HDD := Lib.hid hD
  have HG3' := Lib.hid (⟨hG1.1.later hB3, hG1.2.later hB3⟩ : StartsG W3 ∧ RootsG W3)
  have HB1 := Lib.hid hb1
  have HB3 := Lib.hid hB3
  have HC := Lib.hid b3
  have HGV := Lib.hid hgv
  have HX := Lib.hid (⟨hq, x3⟩ : w1.heap.size = q ∧ W3.heap.size = q + 1)
  clear hP hR hD hs1 hs2 p1 p2 hl1 hl2 hG1 hb1 hq1 hq2 HBG HP hgv hB2 hB3 b3 b2' x2 x3
  go_wp2_with fail
  refine (HSZ.out _).mono ?_
  rintro e w' ⟨rfl, rfl⟩
  go_wp2_with fail
  refine S1.out.mono ?_
  rintro e w' ⟨rfl, rfl⟩
  go_wp2_with fail
  refine S2.out.mono ?_
  rintro e w' ⟨rfl, rfl⟩
  clear S1 S2 HSZ
  go_wp2_with fail
  refine HGV.out.mono ?_
  rintro e w4 ⟨rfl, hbb, hcc, hb4⟩
  have hx := HX.out
  have hb4' : Below W3.heap.size W3 w4 := by rw [hx.2]; exact hb4
  have p1 := P3.out.1.up hb4'
  have p2 := P3.out.2.up hb4'
  have hw4 : q + 1 ≤ w4.heap.size := by have := hb4'.size; omega
  have hab : ∃ ab, (t2 ≠ [] → ∀ b off s, A2 = some ⟨b, off, s⟩ → b = ab) ∧ ab ≠ q ∧ ab < w4.heap.size := by
    by_cases hne : t2 = []
    · exact ⟨q + 1, fun h => absurd hne h, by omega, hbb.2.2⟩
    · obtain ⟨b, off, e, hlt, _⟩ := P1.out.2.sl.1.2.2.2 (by intro h; exact hne (List.map_eq_nil_iff.1 h))
      refine ⟨b, fun _ b' off' s' h => ?_, by omega, by omega⟩
      rw [e] at h
      injection h with h
      injection h with h
      exact h.symm
  obtain ⟨ab, ab1, ab2, ab3⟩ := hab
  have hen := HEP.out w4 w1.heap.size q (q + 1) (q + 1 + 1) ab A2 q2 c2 A1 q1 c1 (by omega) (by omega) ab1 ab2 ab3 p2.sl.1 (HC.out.later hb4') hbb hcc (by omega) p1.sl.1 (HG3'.out.1.later hb4') (HG3'.out.2.later hb4')
  have HEN := Lib.hid hen
  have hb14 : Below w1.heap.size w1 w4 := HB3.out.trans (hb4'.mono HB3.out.size)
  have HB4 := Lib.hid hb14
  have nilE := fun V => penc1_nil V N (.slice A1 q1 c1)
  have NE := Lib.hid nilE
  clear hen hb14 p1 p2 ab1 ab2 ab3 hbb hcc hb4 hb4' hw4 hx HGV HC HG3' P3 HB3 nilE qc fc
  go_wp2_with fail
  refine HEN.out.mono ?_
  rintro e w5 ⟨v5, rfl, hf5, hq5, hb5⟩
  obtain ⟨B5, n5, d5, rfl⟩ := hf5.form
  have hb15 : Below w1.heap.size w1 w5 := HB4.out.trans hb5
  have p1 := P1.out.1.up hb15
  have p2 := P1.out.2.up hb15
  have hrr := HER.out w5 A2 q2 c2 A1 q1 c1 p2.sl.1 p1.sl.1 p1.sl.2
  have HRR := Lib.hid hrr
  have HF5 := Lib.hid (⟨hf5, hq5⟩ : FreshV w5 w4.heap.size (.slice B5 n5 d5) V ∧ BxE q (.int .i64 (C : Int)) w5)
  have P5 := Lib.hid p1
  have HB5 := Lib.hid (HB1.out.trans (hb15.mono HB1.out.size))
  clear hrr hf5 hq5 hb5 hb15 p1 p2 HEN HB4 HEP HER HB1
  go_wp2_with fail
  refine HRR.out.mono ?_
  rintro e w6 ⟨v6, rfl, hf6, hb6⟩
  obtain ⟨B6, n6, d6, rfl⟩ := hf6.form
  have f5 := HF5.out.1.up hb6
  have cv5 := f5.cv
  have cv6 := hf6.cv
  have q6 := (HF5.out.2.later hb6).1
  have p1 := P5.out.up hb6
  have cvm := p1.cv
  have e1 := fun (w : World) (t : TypeId) (x y : Operand) (a b : List (BitVec 8)) => eqGuard_str (P := Tryd.prog) w .neq t x y a b
  have e1' := fun (w : World) (t : TypeId) (x y : Operand) (a b : List (BitVec 8)) => eqGuard_str (P := Tryd.prog) w .eql t x y a b
  have es := strNe V
  have kr : (R != R) = false := by simp
  have kc : ((C : Int) != (C : Int)) = false := by simp
  have HB6 := Lib.hid (HB5.out.trans (hb6.mono HB5.out.size))
  have P6 := Lib.hid p1
  have HF6 := Lib.hid f5
  clear hf6 hb6 HRR HF5 P5 HB5 f5 p1
  by_cases hR0 : R = 0
  · subst hR0
    obtain ⟨o1, o2, o3⟩ := HDD.out rfl
    have hln : n5 ≤ 200 := by rw [HF6.out.len_]; exact o3
    have hde := pdec1_any w6 _ B5 n5 d5 V HF6.out.pc.sl.1 HF6.out.pc.sl.2 (Nat.le_refl _) (by omega)
    rw [o1, o2] at hde
    have HD5 := Lib.hid hde
    have e4 := strEq t1
    clear hde o1 o2 o3
    go_wp2_with fail
    refine (NE.out _).mono ?_
    rintro e w' ⟨rfl, rfl⟩
    go_wp2_with fail
    refine HD5.out.mono ?_
    rintro e w7 ⟨v7, rfl, hf7, hb7⟩
    obtain ⟨B7, n7, d7, rfl⟩ := hf7.form
    have cv7 := hf7.cv
    have cv8 := (P6.out.up hb7).cv
    have HB7 := Lib.hid (HB6.out.trans (hb7.mono HB6.out.size))
    clear hf7 hb7 HD5 cv5 cv6 cvm q6
    go_wp2
    go_ret
    exact ⟨rfl, HB7.out⟩
  · have kR : (R != 0) = true := by simpa using hR0
    go_wp2_with fail
    refine (NE.out _).mono ?_
    rintro e w' ⟨rfl, rfl⟩
    go_wp2
    go_ret
    exact ⟨rfl, HB6.out⟩
end Go.Proofs.YtnpaidieijlkkaaDoor
