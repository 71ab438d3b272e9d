/- PadOAEP, walked: the statement's own function. -/
import Derived.Test.YtnpaidieijlkkaaDoorQWPo
set_option linter.unusedVariables false
set_option linter.unusedSimpArgs false
namespace Go.Proofs.YtnpaidieijlkkaaDoor
open Go.RowKit Go.Shelf

theorem strNe (L : List (BitVec 8)) : ∀ w', (binOp .neq 9 (strV L) (strV L)).run Tryd.prog w' = .ok (.bool false) w' := fun w' => by rw [neq_str w' _ L L, decide_eq_true rfl]; rfl
theorem Pc.cv {w : World} {B n c : Nat} {A : Option Addr} {l : List (BitVec 8)} (h : Pc w B (.slice A n c) l) : (convert 22 9 (.slice A n c)).run Tryd.prog w = .ok (strV l) w := conv_str h.sl.1
/-- what Short leaves -/
theorem short_pc {w : World} {n c : Nat} {A : Option Addr} {bs : List (BitVec 8)} (h : Pc w w.heap.size (.slice A n c) bs) (k : Nat) (hk : k ≤ 1000000) :
    ∃ (q : Nat) (t : List (BitVec 8)), q ≤ k ∧ t.length = q ∧ Pc w w.heap.size (.slice A q c) t ∧ Calls Tryd.prog 10 #[.slice A n c, .int .i64 (k : Int)] w fun e w' => e = .returned (.slice A q c) ∧ w = w' := by
  obtain ⟨s, z⟩ := h.sl
  have hss := short_sl (m := k) s
  have hsh := short_any w _ A n c bs s k hk
  exact ⟨min n k, bs.take k, by omega, by have := hss.len; rw [List.length_map] at this; exact this.symm, Pc.of_sl hss z, hsh⟩
set_option maxRecDepth 100000 in
set_option maxHeartbeats 8000000 in
theorem po_walk (w : World) (hGS : StartsG w) (hGR : RootsG w) (k n : Int) (h0 : -9223372036854775808 ≤ n) (h1 : n ≤ 9223372036854775807)
    (A1 : Option Addr) (m1 c1 : Nat) (b1 : List (BitVec 8)) (s1 : SlV w w.heap.size A1 m1 c1 (b1.map W8)) (z1 : A1 = none → c1 = 0)
    (A2 : Option Addr) (m2 c2 : Nat) (b2 : List (BitVec 8)) (s2 : SlV w w.heap.size A2 m2 c2 (b2.map W8)) (z2 : A2 = none → c2 = 0)
    (A3 : Option Addr) (m3 c3 : Nat) (b3 : List (BitVec 8)) (s3 : SlV w w.heap.size A3 m3 c3 (b3.map W8)) (z3 : A3 = none → c3 = 0)
    (A4 : Option Addr) (m4 c4 : Nat) (b4 : List (BitVec 8)) (s4 : SlV w w.heap.size A4 m4 c4 (b4.map W8)) (z4 : A4 = none → c4 = 0) :
    Calls Tryd.prog 7 #[.int .i64 k, .int .i64 n, .slice A1 m1 c1, .slice A2 m2 c2, .slice A3 m3 c3, .slice A4 m4 c4] w fun e w' => e = .returned (.bool true) ∧ Below w.heap.size w w' := by
  have hbg := begun8_any w hGS hGR
  have hsz := fun V => size8_any V n h0 h1
  obtain ⟨g1, _, g3⟩ := size8_bd h0 h1
  obtain ⟨N, hN⟩ : ∃ N, size8 n = N := ⟨_, rfl⟩
  rw [hN] at hsz g1 g3
  have HBG := Lib.hid hbg
  have HSZ := Lib.hid hsz
  have HG := Lib.hid (⟨hGS, hGR⟩ : StartsG w ∧ RootsG w)
  have HP := Lib.hid (⟨Pc.of_sl s1 z1, Pc.of_sl s2 z2, Pc.of_sl s3 z3, Pc.of_sl s4 z4⟩ : Pc w w.heap.size (.slice A1 m1 c1) b1 ∧ Pc w w.heap.size (.slice A2 m2 c2) b2 ∧ Pc w w.heap.size (.slice A3 m3 c3) b3 ∧ Pc w w.heap.size (.slice A4 m4 c4) b4)
  have HG3 := Lib.hid (⟨g1, g3⟩ : -9223372036854775808 ≤ N ∧ (N ≤ 200 ∨ 65536 < N))
  clear hbg s1 z1 s2 z2 s3 z3 s4 z4 hGS hGR hsz hN h0 h1 g1 g3
  go_enter Tryd.func7, Tryd.ntmps7
  go_wp2_with fail
  refine HBG.out.mono ?_
  rintro e w1 ⟨rfl, hb1⟩
  obtain ⟨q1, t1, hq1, hl1, p1, hs1⟩ := short_pc (HP.out.1.up hb1) 60 (by decide)
  obtain ⟨q2, t2, hq2, hl2, p2, hs2⟩ := short_pc (HP.out.2.1.up hb1) 70 (by decide)
  obtain ⟨q3, t3, hq3, hl3, p3, hs3⟩ := short_pc (HP.out.2.2.1.up hb1) 120 (by decide)
  obtain ⟨q4, t4, hq4, hl4, p4, hs4⟩ := short_pc (HP.out.2.2.2.up hb1) 200 (by decide)
  have hG1 : StartsG w1 ∧ RootsG w1 := ⟨HG.out.1.later hb1, HG.out.2.later hb1⟩
  have hen := pencoaep_all w1 k hG1.1 hG1.2 N HG3.out.1 A1 q1 c1 t1 p1.sl.1 p1.sl.2 (by omega) A2 q2 c2 t2 p2.sl.1 p2.sl.2 A3 q3 c3 t3 p3.sl.1 p3.sl.2
  obtain ⟨V, hV⟩ : ∃ l, oeL k N t1 t2 t3 = l := ⟨_, rfl⟩
  obtain ⟨R, hR⟩ : ∃ r, oeR k N t2.length t3.length = r := ⟨_, rfl⟩
  obtain ⟨V2, hV2⟩ : ∃ l, odL k t1 t4 = l := ⟨_, rfl⟩
  obtain ⟨R2, hR2⟩ : ∃ r, odR k t1 t4 = r := ⟨_, rfl⟩
  rw [hV, hR] at hen
  have HV := Lib.hid (⟨hV, hR, hV2, hR2⟩ : oeL k N t1 t2 t3 = V ∧ oeR k N t2.length t3.length = R ∧ odL k t1 t4 = V2 ∧ odR k t1 t4 = R2)
  have S1 := Lib.hid hs1
  have S2 := Lib.hid hs2
  have S3 := Lib.hid hs3
  have S4 := Lib.hid hs4
  have P := Lib.hid (⟨p1, p2, p3, p4⟩ : Pc w1 w1.heap.size (.slice A1 q1 c1) t1 ∧ Pc w1 w1.heap.size (.slice A2 q2 c2) t2 ∧ Pc w1 w1.heap.size (.slice A3 q3 c3) t3 ∧ Pc w1 w1.heap.size (.slice A4 q4 c4) t4)
  have HQ := Lib.hid (⟨hq1, hq2, hq3, hq4⟩ : q1 ≤ 60 ∧ q2 ≤ 70 ∧ q3 ≤ 120 ∧ q4 ≤ 200)
  have HEN := Lib.hid hen
  have HG1 := Lib.hid hG1
  have HB1 := Lib.hid hb1
  clear hen hV hR hV2 hR2 hs1 hs2 hs3 hs4 p1 p2 p3 p4 hl1 hl2 hl3 hl4 hG1 hb1 hq1 hq2 hq3 hq4 HBG HP
  go_wp2_with fail
  refine (HSZ.out _).mono ?_
  rintro e w' ⟨rfl, rfl⟩
  go_wp2_with fail
  refine S1.out.mono ?_
  rintro e w' ⟨rfl, rfl⟩
  go_wp2_with fail
  refine S2.out.mono ?_
  rintro e w' ⟨rfl, rfl⟩
  go_wp2_with fail
  refine S3.out.mono ?_
  rintro e w' ⟨rfl, rfl⟩
  go_wp2_with fail
  refine S4.out.mono ?_
  rintro e w' ⟨rfl, rfl⟩
  clear S1 S2 S3 S4 HSZ
  go_wp2_with fail
  refine HEN.out.mono ?_
  rintro e w2 ⟨v2, rfl, hf2, hb2⟩
  obtain ⟨B2, n2, d2, rfl⟩ := hf2.form
  have p1 := P.out.1.up hb2
  have p2 := P.out.2.1.up hb2
  have p3 := P.out.2.2.1.up hb2
  have p4 := P.out.2.2.2.up hb2
  have hen := rencoaep_all w2 k N HG3.out.1 HG3.out.2 A1 q1 c1 t1 p1.sl.1 p1.sl.2 (by have := HQ.out; omega) A2 q2 c2 t2 p2.sl.1 p2.sl.2 A3 q3 c3 t3 p3.sl.1 p3.sl.2
  rw [HV.out.1, HV.out.2.1] at hen
  have HR2 := Lib.hid hen
  have P2 := Lib.hid (⟨p1, p3, p4⟩ : Pc w2 w2.heap.size (.slice A1 q1 c1) t1 ∧ Pc w2 w2.heap.size (.slice A3 q3 c3) t3 ∧ Pc w2 w2.heap.size (.slice A4 q4 c4) t4)
  have HF2 := Lib.hid hf2
  have HB2 := Lib.hid (HB1.out.trans (hb2.mono HB1.out.size))
  have HG2 := Lib.hid (⟨HG1.out.1.later hb2, HG1.out.2.later hb2⟩ : StartsG w2 ∧ RootsG w2)
  clear hen p1 p2 p3 p4 hf2 hb2 HEN P HB1 HG1
  go_wp2_with fail
  refine HR2.out.mono ?_
  rintro e w3 ⟨v3, rfl, hf3, hb3⟩
  obtain ⟨B3, n3, d3, rfl⟩ := hf3.form
  have p1 := P2.out.1.up hb3
  have p3 := P2.out.2.1.up hb3
  have p4 := P2.out.2.2.up hb3
  have hG3 : StartsG w3 ∧ RootsG w3 := ⟨HG2.out.1.later hb3, HG2.out.2.later hb3⟩
  have hde := pdecoaep_all w3 k hG3.1 hG3.2 A1 q1 c1 t1 p1.sl.1 p1.sl.2 (by have := HQ.out; omega) A4 q4 c4 t4 p4.sl.1 (by have := HQ.out; omega)
  rw [HV.out.2.2.1, HV.out.2.2.2] at hde
  have HD3 := Lib.hid hde
  have P3 := Lib.hid (⟨p1, p3, p4⟩ : Pc w3 w3.heap.size (.slice A1 q1 c1) t1 ∧ Pc w3 w3.heap.size (.slice A3 q3 c3) t3 ∧ Pc w3 w3.heap.size (.slice A4 q4 c4) t4)
  have HF3 := Lib.hid (⟨HF2.out.up hb3, hf3⟩ : FreshV w3 w1.heap.size (.slice B2 n2 d2) V ∧ FreshV w3 w2.heap.size (.slice B3 n3 d3) V)
  have HB3 := Lib.hid (HB2.out.trans (hb3.mono HB2.out.size))
  have HG3' := Lib.hid hG3
  clear hde p1 p3 p4 hf3 hb3 hG3 HR2 P2 HB2 HG2 HF2
  go_wp2_with fail
  refine HD3.out.mono ?_
  rintro e w4 ⟨v4, rfl, hf4, hb4⟩
  obtain ⟨B4, n4, d4, rfl⟩ := hf4.form
  have p1 := P3.out.1.up hb4
  have p3 := P3.out.2.1.up hb4
  have p4 := P3.out.2.2.up hb4
  have hde := rdecoaep_all w4 k A1 q1 c1 t1 p1.sl.1 p1.sl.2 (by have := HQ.out; omega) A4 q4 c4 t4 p4.sl.1 (by have := HQ.out; omega)
  rw [HV.out.2.2.1, HV.out.2.2.2] at hde
  have HD4 := Lib.hid hde
  have P4 := Lib.hid (⟨p1, p3⟩ : Pc w4 w4.heap.size (.slice A1 q1 c1) t1 ∧ Pc w4 w4.heap.size (.slice A3 q3 c3) t3)
  have HF4 := Lib.hid (⟨HF3.out.1.up hb4, HF3.out.2.up hb4, hf4⟩ : FreshV w4 w1.heap.size (.slice B2 n2 d2) V ∧ FreshV w4 w2.heap.size (.slice B3 n3 d3) V ∧ FreshV w4 w3.heap.size (.slice B4 n4 d4) V2)
  have HB4 := Lib.hid (HB3.out.trans (hb4.mono HB3.out.size))
  have HG4 := Lib.hid (⟨HG3'.out.1.later hb4, HG3'.out.2.later hb4⟩ : StartsG w4 ∧ RootsG w4)
  clear hde p1 p3 p4 hf4 hb4 HD3 P3 HB3 HG3' HF3
  go_wp2_with fail
  refine HD4.out.mono ?_
  rintro e w5 ⟨v5, rfl, hf5, hb5⟩
  obtain ⟨B5, n5, d5, rfl⟩ := hf5.form
  have p1 := P4.out.1.up hb5
  have p3 := P4.out.2.up hb5
  have f2 := HF4.out.1.up hb5
  have cv2 := f2.cv
  have cv3 := (HF4.out.2.1.up hb5).cv
  have cv4 := (HF4.out.2.2.up hb5).cv
  have cv5 := hf5.cv
  have e1 := fun (w : World) (t : TypeId) (x y : Operand) (a b : List (BitVec 8)) => eqGuard_str (P := Tryd.prog) w .neq t x y a b
  have e1' := fun (w : World) (t : TypeId) (x y : Operand) (a b : List (BitVec 8)) => eqGuard_str (P := Tryd.prog) w .eql t x y a b
  have e2 := strNe V
  have e3 := strNe V2
  have kr : (R != R) = false := by simp
  have kr2 : (R2 != R2) = false := by simp
  have hG5 : StartsG w5 ∧ RootsG w5 := ⟨HG4.out.1.later hb5, HG4.out.2.later hb5⟩
  have HB5 := Lib.hid (HB4.out.trans (hb5.mono HB4.out.size))
  clear hf5 hb5 HD4 P4 HB4 HG4 HF4
  by_cases hR0 : R = 0
  · subst hR0
    obtain ⟨o1, o2, o3⟩ := od_back k N t1 t2 t3 HG3.out.2 HV.out.2.1
    rw [HV.out.1] at o1 o2 o3
    have hln : n2 ≤ 200 := by rw [f2.len_]; exact o3
    have hde := pdecoaep_all w5 k hG5.1 hG5.2 A1 q1 c1 t1 p1.sl.1 p1.sl.2 (by have := HQ.out; omega) B2 n2 d2 V f2.pc.sl.1 (by omega)
    rw [o1, o2] at hde
    have HD5 := Lib.hid hde
    have P5 := Lib.hid p3
    have e4 := strEq t3
    clear hde o1 o2 o3 p1 p3 f2 hG5
    go_wp2_with fail
    refine HD5.out.mono ?_
    rintro e w6 ⟨v6, rfl, hf6, hb6⟩
    obtain ⟨B6, n6, d6, rfl⟩ := hf6.form
    have cv6 := hf6.cv
    have cv7 := (P5.out.up hb6).cv
    have HB6 := Lib.hid (HB5.out.trans (hb6.mono HB5.out.size))
    clear hf6 hb6 HD5 cv2 cv3 cv4 cv5
    go_wp2
    go_ret
    exact ⟨rfl, HB6.out⟩
  · have kR : (R != 0) = true := by simpa using hR0
    clear p1 p3 f2 hG5
    go_wp2
    go_ret
    exact ⟨rfl, HB5.out⟩
end Go.Proofs.YtnpaidieijlkkaaDoor
