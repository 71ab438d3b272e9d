/- PadPSS, walked: the statement's own function. -/
import Derived.Test.YtnpaidieijlkkaaDoorQWPq
set_option linter.unusedVariables false
set_option linter.unusedSimpArgs false
namespace Go.Proofs.YtnpaidieijlkkaaDoor
open Go.RowKit Go.Shelf

set_option maxRecDepth 100000 in
set_option maxHeartbeats 16000000 in
theorem pp_walk1 (w : World) (hGS : StartsG w) (hGR : RootsG w) (k b n : Int) (h0 : -9223372036854775808 ≤ b) (h1 : b ≤ 9223372036854775807) (hc : b ≤ 1500)
    (A1 : Option Addr) (m1 c1 : Nat) (b1 : List (BitVec 8)) (s1 : SlV w w.heap.size A1 m1 c1 (b1.map W8)) (z1 : A1 = none → c1 = 0)
    (A2 : Option Addr) (m2 c2 : Nat) (b2 : List (BitVec 8)) (s2 : SlV w w.heap.size A2 m2 c2 (b2.map W8)) (z2 : A2 = none → c2 = 0)
    (A3 : Option Addr) (m3 c3 : Nat) (b3 : List (BitVec 8)) (s3 : SlV w w.heap.size A3 m3 c3 (b3.map W8)) (z3 : A3 = none → c3 = 0) :
    Calls Tryd.prog 8 #[.int .i64 k, .int .i64 b, .slice A1 m1 c1, .slice A2 m2 c2, .slice A3 m3 c3, .int .i64 n] w fun e w' => e = .returned (.bool true) ∧ Below w.heap.size w w' := by
  have hbg := begun8_any w hGS hGR
  have HBG := Lib.hid hbg
  have HG := Lib.hid (⟨hGS, hGR⟩ : StartsG w ∧ RootsG w)
  have HP := Lib.hid (⟨Pc.of_sl s1 z1, Pc.of_sl s2 z2, Pc.of_sl s3 z3⟩ : Pc w w.heap.size (.slice A1 m1 c1) b1 ∧ Pc w w.heap.size (.slice A2 m2 c2) b2 ∧ Pc w w.heap.size (.slice A3 m3 c3) b3)
  clear hbg s1 z1 s2 z2 s3 z3 hGS hGR
  go_enter Tryd.func8, Tryd.ntmps8
  go_wp2_with fail
  refine HBG.out.mono ?_
  rintro e w1 ⟨rfl, hb1⟩
  obtain ⟨q1, t1, hq1, hl1, p1, hs1⟩ := short_pc (HP.out.1.up hb1) 70 (by decide)
  obtain ⟨q2, t2, hq2, hl2, p2, hs2⟩ := short_pc (HP.out.2.1.up hb1) 60 (by decide)
  obtain ⟨q3, t3, hq3, hl3, p3, hs3⟩ := short_pc (HP.out.2.2.up hb1) 250 (by decide)
  have hG1 : StartsG w1 ∧ RootsG w1 := ⟨HG.out.1.later hb1, HG.out.2.later hb1⟩
  have S1 := Lib.hid hs1
  have S2 := Lib.hid hs2
  have S3 := Lib.hid hs3
  have P1 := Lib.hid (⟨p1, p2, p3⟩ : Pc w1 w1.heap.size (.slice A1 q1 c1) t1 ∧ Pc w1 w1.heap.size (.slice A2 q2 c2) t2 ∧ Pc w1 w1.heap.size (.slice A3 q3 c3) t3)
  have HG1 := Lib.hid hG1
  have HB1 := Lib.hid hb1
  have HL := Lib.hid (⟨hl2, hq1, hq2, hq3⟩ : t2.length = q2 ∧ q1 ≤ 70 ∧ q2 ≤ 60 ∧ q3 ≤ 250)
  clear hs1 hs2 hs3 p1 p2 p3 hG1 hb1 HBG HP hl1 hl2 hl3 hq1 hq2 hq3
  go_wp2_with fail
  have hen := pencpss_all w1 k HG1.out.1 HG1.out.2 b A1 q1 c1 t1 P1.out.1.sl.1 P1.out.1.sl.2 A2 q2 c2 t2 P1.out.2.1.sl.1 P1.out.2.1.sl.2 (by have := HL.out; omega)
  obtain ⟨V, hV⟩ : ∃ l, peL k b t1 t2 = l := ⟨_, rfl⟩
  obtain ⟨R, hR⟩ : ∃ r, psR k b t1.length t2.length = r := ⟨_, rfl⟩
  obtain ⟨T, hT⟩ : ∃ r, pvR k b t1 t3 n = r := ⟨_, rfl⟩
  rw [hV, hR] at hen
  have HV := Lib.hid (⟨hV, hR, hT⟩ : peL k b t1 t2 = V ∧ psR k b t1.length t2.length = R ∧ pvR k b t1 t3 n = T)
  have HEN := Lib.hid hen
  clear hen hV hR hT
  refine S1.out.mono ?_
  rintro e w' ⟨rfl, rfl⟩
  go_wp2_with fail
  refine S2.out.mono ?_
  rintro e w' ⟨rfl, rfl⟩
  go_wp2_with fail
  refine S3.out.mono ?_
  rintro e w' ⟨rfl, rfl⟩
  clear S1 S2 S3
  go_wp2_with fail
  refine HEN.out.mono ?_
  rintro e w2 ⟨v2, rfl, hf2, hb2⟩
  obtain ⟨B2, n2, d2, rfl⟩ := hf2.form
  have p1 := P1.out.1.up hb2
  have p2 := P1.out.2.1.up hb2
  have p3 := P1.out.2.2.up hb2
  have hen := rencpss_all w2 k b A1 q1 c1 t1 p1.sl.1 p1.sl.2 A2 q2 c2 t2 p2.sl.1 p2.sl.2
  rw [HV.out.1, HV.out.2.1] at hen
  have HR2 := Lib.hid hen
  have P2 := Lib.hid (⟨p1, p3⟩ : Pc w2 w2.heap.size (.slice A1 q1 c1) t1 ∧ Pc w2 w2.heap.size (.slice A3 q3 c3) t3)
  have HF2 := Lib.hid hf2
  have HB2 := Lib.hid (HB1.out.trans (hb2.mono HB1.out.size))
  have HG2 := Lib.hid (⟨HG1.out.1.later hb2, HG1.out.2.later hb2⟩ : StartsG w2 ∧ RootsG w2)
  clear hen p1 p2 p3 hf2 hb2 HEN P1 HB1 HG1
  go_wp2_with fail
  refine HR2.out.mono ?_
  rintro e w3 ⟨v3, rfl, hf3, hb3⟩
  obtain ⟨B3, n3, d3, rfl⟩ := hf3.form
  have p1 := P2.out.1.up hb3
  have p3 := P2.out.2.up hb3
  have hG3 : StartsG w3 ∧ RootsG w3 := ⟨HG2.out.1.later hb3, HG2.out.2.later hb3⟩
  have hve := pverpss_all w3 k hG3.1 hG3.2 b A1 q1 c1 t1 p1.sl.1 p1.sl.2 A3 q3 c3 t3 p3.sl.1 n
  rw [HV.out.2.2] at hve
  have HD3 := Lib.hid hve
  have f2 := HF2.out.up hb3
  have cv2 := f2.cv
  have cv3 := hf3.cv
  have e1 := fun (w : World) (t : TypeId) (x y : Operand) (a b : List (BitVec 8)) => eqGuard_str (P := Tryd.prog) w .neq t x y a b
  have e1' := fun (w : World) (t : TypeId) (x y : Operand) (a b : List (BitVec 8)) => eqGuard_str (P := Tryd.prog) w .eql t x y a b
  have e2 := strNe V
  have kr : (R != R) = false := by simp
  have P3 := Lib.hid (⟨p1, p3⟩ : Pc w3 w3.heap.size (.slice A1 q1 c1) t1 ∧ Pc w3 w3.heap.size (.slice A3 q3 c3) t3)
  have HF3 := Lib.hid f2
  have HB3 := Lib.hid (HB2.out.trans (hb3.mono HB2.out.size))
  have HG3' := Lib.hid hG3
  clear hve p1 p3 f2 hf3 hb3 hG3 HR2 P2 HB2 HG2 HF2
  go_wp2_with fail
  refine HD3.out.mono ?_
  rintro e w4 ⟨rfl, hb4⟩
  have p1 := P3.out.1.up hb4
  have p3 := P3.out.2.up hb4
  have hve := rverpss_all w4 k b A1 q1 c1 t1 p1.sl.1 p1.sl.2 A3 q3 c3 t3 p3.sl.1 n
  rw [HV.out.2.2] at hve
  have HD4 := Lib.hid hve
  have P4 := Lib.hid p1
  have HF4 := Lib.hid (HF3.out.up hb4)
  have HB4 := Lib.hid (HB3.out.trans (hb4.mono HB3.out.size))
  have HG4 := Lib.hid (⟨HG3'.out.1.later hb4, HG3'.out.2.later hb4⟩ : StartsG w4 ∧ RootsG w4)
  clear hve p1 p3 hb4 HD3 P3 HB3 HG3' HF3
  go_wp2_with fail
  refine HD4.out.mono ?_
  rintro e w5 ⟨rfl, hb5⟩
  have p1 := P4.out.up hb5
  have f2 := HF4.out.up hb5
  have hG5 : StartsG w5 ∧ RootsG w5 := ⟨HG4.out.1.later hb5, HG4.out.2.later hb5⟩
  have HB5 := Lib.hid (HB4.out.trans (hb5.mono HB4.out.size))
  have kt : (T != T) = false := by simp
  clear hb5 HD4 P4 HB4 HG4 HF4
  by_cases hR0 : R = 0
  · subst hR0
    obtain ⟨o1, o2⟩ := pe_back k b t1 t2 HV.out.2.1
    rw [HV.out.1] at o1 o2
    have hq2 := HL.out.2.2.1
    have hve := pverpss_all w5 k hG5.1 hG5.2 b A1 q1 c1 t1 p1.sl.1 p1.sl.2 B2 n2 d2 V f2.pc.sl.1 (q2 : Int)
    rw [HL.out.1] at o1 o2
    rw [o1] at hve
    have HD5 := Lib.hid hve
    have P5 := Lib.hid (⟨p1, f2⟩ : Pc w5 w5.heap.size (.slice A1 q1 c1) t1 ∧ FreshV w5 w1.heap.size (.slice B2 n2 d2) V)
    have HG5 := Lib.hid hG5
    have HO := Lib.hid o2
    clear hve o1 o2 p1 f2 hG5
    go_wp2_with fail
    refine HD5.out.mono ?_
    rintro e w6 ⟨rfl, hb6⟩
    have hve := pverpss_all w6 k (HG5.out.1.later hb6) (HG5.out.2.later hb6) b A1 q1 c1 t1 (P5.out.1.up hb6).sl.1 (P5.out.1.up hb6).sl.2 B2 n2 d2 V (P5.out.2.up hb6).pc.sl.1 ((q2 : Int) + 1)
    rw [HO.out] at hve
    have HD6 := Lib.hid hve
    have HB6 := Lib.hid (HB5.out.trans (hb6.mono HB5.out.size))
    clear hve hb6 HD5 P5 HG5 cv2 cv3
    go_wp2_with fail
    refine HD6.out.mono ?_
    rintro e w7 ⟨rfl, hb7⟩
    have HB7 := Lib.hid (HB6.out.trans (hb7.mono HB6.out.size))
    clear hb7 HD6
    go_wp2
    go_ret
    exact ⟨rfl, HB7.out⟩
  · have kR : (R != 0) = true := by simpa using hR0
    clear p1 f2 hG5
    go_wp2
    go_ret
    exact ⟨rfl, HB5.out⟩
set_option maxRecDepth 100000 in
set_option maxHeartbeats 16000000 in
theorem pp_walk3 (w : World) (hGS : StartsG w) (hGR : RootsG w) (k b n : Int) (h0 : -9223372036854775808 ≤ b) (h1 : b ≤ 9223372036854775807) (hc : 65536 < b)
    (A1 : Option Addr) (m1 c1 : Nat) (b1 : List (BitVec 8)) (s1 : SlV w w.heap.size A1 m1 c1 (b1.map W8)) (z1 : A1 = none → c1 = 0)
    (A2 : Option Addr) (m2 c2 : Nat) (b2 : List (BitVec 8)) (s2 : SlV w w.heap.size A2 m2 c2 (b2.map W8)) (z2 : A2 = none → c2 = 0)
    (A3 : Option Addr) (m3 c3 : Nat) (b3 : List (BitVec 8)) (s3 : SlV w w.heap.size A3 m3 c3 (b3.map W8)) (z3 : A3 = none → c3 = 0) :
    Calls Tryd.prog 8 #[.int .i64 k, .int .i64 b, .slice A1 m1 c1, .slice A2 m2 c2, .slice A3 m3 c3, .int .i64 n] w fun e w' => e = .returned (.bool true) ∧ Below w.heap.size w w' := by
  have hbg := begun8_any w hGS hGR
  have HBG := Lib.hid hbg
  have HG := Lib.hid (⟨hGS, hGR⟩ : StartsG w ∧ RootsG w)
  have HP := Lib.hid (⟨Pc.of_sl s1 z1, Pc.of_sl s2 z2, Pc.of_sl s3 z3⟩ : Pc w w.heap.size (.slice A1 m1 c1) b1 ∧ Pc w w.heap.size (.slice A2 m2 c2) b2 ∧ Pc w w.heap.size (.slice A3 m3 c3) b3)
  clear hbg s1 z1 s2 z2 s3 z3 hGS hGR
  go_enter Tryd.func8, Tryd.ntmps8
  go_wp2_with fail
  refine HBG.out.mono ?_
  rintro e w1 ⟨rfl, hb1⟩
  obtain ⟨q1, t1, hq1, hl1, p1, hs1⟩ := short_pc (HP.out.1.up hb1) 70 (by decide)
  obtain ⟨q2, t2, hq2, hl2, p2, hs2⟩ := short_pc (HP.out.2.1.up hb1) 60 (by decide)
  obtain ⟨q3, t3, hq3, hl3, p3, hs3⟩ := short_pc (HP.out.2.2.up hb1) 250 (by decide)
  have hG1 : StartsG w1 ∧ RootsG w1 := ⟨HG.out.1.later hb1, HG.out.2.later hb1⟩
  have S1 := Lib.hid hs1
  have S2 := Lib.hid hs2
  have S3 := Lib.hid hs3
  have P1 := Lib.hid (⟨p1, p2, p3⟩ : Pc w1 w1.heap.size (.slice A1 q1 c1) t1 ∧ Pc w1 w1.heap.size (.slice A2 q2 c2) t2 ∧ Pc w1 w1.heap.size (.slice A3 q3 c3) t3)
  have HG1 := Lib.hid hG1
  have HB1 := Lib.hid hb1
  have HL := Lib.hid (⟨hl2, hq1, hq2, hq3⟩ : t2.length = q2 ∧ q1 ≤ 70 ∧ q2 ≤ 60 ∧ q3 ≤ 250)
  clear hs1 hs2 hs3 p1 p2 p3 hG1 hb1 HBG HP hl1 hl2 hl3 hq1 hq2 hq3
  go_wp2_with fail
  have hen := pencpss_all w1 k HG1.out.1 HG1.out.2 b A1 q1 c1 t1 P1.out.1.sl.1 P1.out.1.sl.2 A2 q2 c2 t2 P1.out.2.1.sl.1 P1.out.2.1.sl.2 (by have := HL.out; omega)
  obtain ⟨V, hV⟩ : ∃ l, peL k b t1 t2 = l := ⟨_, rfl⟩
  obtain ⟨R, hR⟩ : ∃ r, psR k b t1.length t2.length = r := ⟨_, rfl⟩
  obtain ⟨T, hT⟩ : ∃ r, pvR k b t1 t3 n = r := ⟨_, rfl⟩
  rw [hV, hR] at hen
  have HV := Lib.hid (⟨hV, hR, hT⟩ : peL k b t1 t2 = V ∧ psR k b t1.length t2.length = R ∧ pvR k b t1 t3 n = T)
  have HEN := Lib.hid hen
  clear hen hV hR hT
  refine S1.out.mono ?_
  rintro e w' ⟨rfl, rfl⟩
  go_wp2_with fail
  refine S2.out.mono ?_
  rintro e w' ⟨rfl, rfl⟩
  go_wp2_with fail
  refine S3.out.mono ?_
  rintro e w' ⟨rfl, rfl⟩
  clear S1 S2 S3
  go_wp2_with fail
  refine HEN.out.mono ?_
  rintro e w2 ⟨v2, rfl, hf2, hb2⟩
  obtain ⟨B2, n2, d2, rfl⟩ := hf2.form
  have p1 := P1.out.1.up hb2
  have p2 := P1.out.2.1.up hb2
  have p3 := P1.out.2.2.up hb2
  have hen := rencpss_all w2 k b A1 q1 c1 t1 p1.sl.1 p1.sl.2 A2 q2 c2 t2 p2.sl.1 p2.sl.2
  rw [HV.out.1, HV.out.2.1] at hen
  have HR2 := Lib.hid hen
  have P2 := Lib.hid (⟨p1, p3⟩ : Pc w2 w2.heap.size (.slice A1 q1 c1) t1 ∧ Pc w2 w2.heap.size (.slice A3 q3 c3) t3)
  have HF2 := Lib.hid hf2
  have HB2 := Lib.hid (HB1.out.trans (hb2.mono HB1.out.size))
  have HG2 := Lib.hid (⟨HG1.out.1.later hb2, HG1.out.2.later hb2⟩ : StartsG w2 ∧ RootsG w2)
  clear hen p1 p2 p3 hf2 hb2 HEN P1 HB1 HG1
  go_wp2_with fail
  refine HR2.out.mono ?_
  rintro e w3 ⟨v3, rfl, hf3, hb3⟩
  obtain ⟨B3, n3, d3, rfl⟩ := hf3.form
  have p1 := P2.out.1.up hb3
  have p3 := P2.out.2.up hb3
  have hG3 : StartsG w3 ∧ RootsG w3 := ⟨HG2.out.1.later hb3, HG2.out.2.later hb3⟩
  have hve := pverpss_all w3 k hG3.1 hG3.2 b A1 q1 c1 t1 p1.sl.1 p1.sl.2 A3 q3 c3 t3 p3.sl.1 n
  rw [HV.out.2.2] at hve
  have HD3 := Lib.hid hve
  have f2 := HF2.out.up hb3
  have cv2 := f2.cv
  have cv3 := hf3.cv
  have e1 := fun (w : World) (t : TypeId) (x y : Operand) (a b : List (BitVec 8)) => eqGuard_str (P := Tryd.prog) w .neq t x y a b
  have e1' := fun (w : World) (t : TypeId) (x y : Operand) (a b : List (BitVec 8)) => eqGuard_str (P := Tryd.prog) w .eql t x y a b
  have e2 := strNe V
  have kr : (R != R) = false := by simp
  have P3 := Lib.hid (⟨p1, p3⟩ : Pc w3 w3.heap.size (.slice A1 q1 c1) t1 ∧ Pc w3 w3.heap.size (.slice A3 q3 c3) t3)
  have HF3 := Lib.hid f2
  have HB3 := Lib.hid (HB2.out.trans (hb3.mono HB2.out.size))
  have HG3' := Lib.hid hG3
  clear hve p1 p3 f2 hf3 hb3 hG3 HR2 P2 HB2 HG2 HF2
  go_wp2_with fail
  refine HD3.out.mono ?_
  rintro e w4 ⟨rfl, hb4⟩
  have p1 := P3.out.1.up hb4
  have p3 := P3.out.2.up hb4
  have hve := rverpss_all w4 k b A1 q1 c1 t1 p1.sl.1 p1.sl.2 A3 q3 c3 t3 p3.sl.1 n
  rw [HV.out.2.2] at hve
  have HD4 := Lib.hid hve
  have P4 := Lib.hid p1
  have HF4 := Lib.hid (HF3.out.up hb4)
  have HB4 := Lib.hid (HB3.out.trans (hb4.mono HB3.out.size))
  have HG4 := Lib.hid (⟨HG3'.out.1.later hb4, HG3'.out.2.later hb4⟩ : StartsG w4 ∧ RootsG w4)
  clear hve p1 p3 hb4 HD3 P3 HB3 HG3' HF3
  go_wp2_with fail
  refine HD4.out.mono ?_
  rintro e w5 ⟨rfl, hb5⟩
  have p1 := P4.out.up hb5
  have f2 := HF4.out.up hb5
  have hG5 : StartsG w5 ∧ RootsG w5 := ⟨HG4.out.1.later hb5, HG4.out.2.later hb5⟩
  have HB5 := Lib.hid (HB4.out.trans (hb5.mono HB4.out.size))
  have kt : (T != T) = false := by simp
  clear hb5 HD4 P4 HB4 HG4 HF4
  by_cases hR0 : R = 0
  · subst hR0
    obtain ⟨o1, o2⟩ := pe_back k b t1 t2 HV.out.2.1
    rw [HV.out.1] at o1 o2
    have hq2 := HL.out.2.2.1
    have hve := pverpss_all w5 k hG5.1 hG5.2 b A1 q1 c1 t1 p1.sl.1 p1.sl.2 B2 n2 d2 V f2.pc.sl.1 (q2 : Int)
    rw [HL.out.1] at o1 o2
    rw [o1] at hve
    have HD5 := Lib.hid hve
    have P5 := Lib.hid (⟨p1, f2⟩ : Pc w5 w5.heap.size (.slice A1 q1 c1) t1 ∧ FreshV w5 w1.heap.size (.slice B2 n2 d2) V)
    have HG5 := Lib.hid hG5
    have HO := Lib.hid o2
    clear hve o1 o2 p1 f2 hG5
    go_wp2_with fail
    refine HD5.out.mono ?_
    rintro e w6 ⟨rfl, hb6⟩
    have hve := pverpss_all w6 k (HG5.out.1.later hb6) (HG5.out.2.later hb6) b A1 q1 c1 t1 (P5.out.1.up hb6).sl.1 (P5.out.1.up hb6).sl.2 B2 n2 d2 V (P5.out.2.up hb6).pc.sl.1 ((q2 : Int) + 1)
    rw [HO.out] at hve
    have HD6 := Lib.hid hve
    have HB6 := Lib.hid (HB5.out.trans (hb6.mono HB5.out.size))
    clear hve hb6 HD5 P5 HG5 cv2 cv3
    go_wp2_with fail
    refine HD6.out.mono ?_
    rintro e w7 ⟨rfl, hb7⟩
    have HB7 := Lib.hid (HB6.out.trans (hb7.mono HB6.out.size))
    clear hb7 HD6
    go_wp2
    go_ret
    exact ⟨rfl, HB7.out⟩
  · have kR : (R != 0) = true := by simpa using hR0
    clear p1 f2 hG5
    go_wp2
    go_ret
    exact ⟨rfl, HB5.out⟩
set_option maxRecDepth 100000 in
set_option maxHeartbeats 16000000 in
theorem pp_walk2 (w : World) (hGS : StartsG w) (hGR : RootsG w) (k bits n : Int) (h0 : 1500 < bits) (h1 : bits ≤ 65536)
    (A1 : Option Addr) (m1 c1 : Nat) (b1 : List (BitVec 8)) (s1 : SlV w w.heap.size A1 m1 c1 (b1.map W8)) (z1 : A1 = none → c1 = 0)
    (A2 : Option Addr) (m2 c2 : Nat) (b2 : List (BitVec 8)) (s2 : SlV w w.heap.size A2 m2 c2 (b2.map W8)) (z2 : A2 = none → c2 = 0)
    (A3 : Option Addr) (m3 c3 : Nat) (b3 : List (BitVec 8)) (s3 : SlV w w.heap.size A3 m3 c3 (b3.map W8)) (z3 : A3 = none → c3 = 0) :
    Calls Tryd.prog 8 #[.int .i64 k, .int .i64 bits, .slice A1 m1 c1, .slice A2 m2 c2, .slice A3 m3 c3, .int .i64 n] w fun e w' => e = .returned (.bool true) ∧ Below w.heap.size w w' := by
  have hbg := begun8_any w hGS hGR
  have HBG := Lib.hid hbg
  have HG := Lib.hid (⟨hGS, hGR⟩ : StartsG w ∧ RootsG w)
  have HP := Lib.hid (⟨Pc.of_sl s1 z1, Pc.of_sl s2 z2, Pc.of_sl s3 z3⟩ : Pc w w.heap.size (.slice A1 m1 c1) b1 ∧ Pc w w.heap.size (.slice A2 m2 c2) b2 ∧ Pc w w.heap.size (.slice A3 m3 c3) b3)
  clear hbg s1 z1 s2 z2 s3 z3 hGS hGR
  go_enter Tryd.func8, Tryd.ntmps8
  go_wp2_with fail
  refine HBG.out.mono ?_
  rintro e w1 ⟨rfl, hb1⟩
  obtain ⟨q1, t1, hq1, hl1, p1, hs1⟩ := short_pc (HP.out.1.up hb1) 70 (by decide)
  obtain ⟨q2, t2, hq2, hl2, p2, hs2⟩ := short_pc (HP.out.2.1.up hb1) 60 (by decide)
  obtain ⟨q3, t3, hq3, hl3, p3, hs3⟩ := short_pc (HP.out.2.2.up hb1) 250 (by decide)
  have hG1 : StartsG w1 ∧ RootsG w1 := ⟨HG.out.1.later hb1, HG.out.2.later hb1⟩
  have S1 := Lib.hid hs1
  have S2 := Lib.hid hs2
  have S3 := Lib.hid hs3
  have P1 := Lib.hid (⟨p1, p2, p3⟩ : Pc w1 w1.heap.size (.slice A1 q1 c1) t1 ∧ Pc w1 w1.heap.size (.slice A2 q2 c2) t2 ∧ Pc w1 w1.heap.size (.slice A3 q3 c3) t3)
  have HG1 := Lib.hid hG1
  have HB1 := Lib.hid hb1
  have HL := Lib.hid (⟨hl2, hq1, hq2, hq3⟩ : t2.length = q2 ∧ q1 ≤ 70 ∧ q2 ≤ 60 ∧ q3 ≤ 250)
  clear hs1 hs2 hs3 p1 p2 p3 hG1 hb1 HBG HP hl1 hl2 hl3 hq1 hq2 hq3
  go_wp2_with fail
  generalize bits % 1501 = b
  have hen := pencpss_all w1 k HG1.out.1 HG1.out.2 b A1 q1 c1 t1 P1.out.1.sl.1 P1.out.1.sl.2 A2 q2 c2 t2 P1.out.2.1.sl.1 P1.out.2.1.sl.2 (by have := HL.out; omega)
  obtain ⟨V, hV⟩ : ∃ l, peL k b t1 t2 = l := ⟨_, rfl⟩
  obtain ⟨R, hR⟩ : ∃ r, psR k b t1.length t2.length = r := ⟨_, rfl⟩
  obtain ⟨T, hT⟩ : ∃ r, pvR k b t1 t3 n = r := ⟨_, rfl⟩
  rw [hV, hR] at hen
  have HV := Lib.hid (⟨hV, hR, hT⟩ : peL k b t1 t2 = V ∧ psR k b t1.length t2.length = R ∧ pvR k b t1 t3 n = T)
  have HEN := Lib.hid hen
  clear hen hV hR hT
  refine S1.out.mono ?_
  rintro e w' ⟨rfl, rfl⟩
  go_wp2_with fail
  refine S2.out.mono ?_
  rintro e w' ⟨rfl, rfl⟩
  go_wp2_with fail
  refine S3.out.mono ?_
  rintro e w' ⟨rfl, rfl⟩
  clear S1 S2 S3
  go_wp2_with fail
  refine HEN.out.mono ?_
  rintro e w2 ⟨v2, rfl, hf2, hb2⟩
  obtain ⟨B2, n2, d2, rfl⟩ := hf2.form
  have p1 := P1.out.1.up hb2
  have p2 := P1.out.2.1.up hb2
  have p3 := P1.out.2.2.up hb2
  have hen := rencpss_all w2 k b A1 q1 c1 t1 p1.sl.1 p1.sl.2 A2 q2 c2 t2 p2.sl.1 p2.sl.2
  rw [HV.out.1, HV.out.2.1] at hen
  have HR2 := Lib.hid hen
  have P2 := Lib.hid (⟨p1, p3⟩ : Pc w2 w2.heap.size (.slice A1 q1 c1) t1 ∧ Pc w2 w2.heap.size (.slice A3 q3 c3) t3)
  have HF2 := Lib.hid hf2
  have HB2 := Lib.hid (HB1.out.trans (hb2.mono HB1.out.size))
  have HG2 := Lib.hid (⟨HG1.out.1.later hb2, HG1.out.2.later hb2⟩ : StartsG w2 ∧ RootsG w2)
  clear hen p1 p2 p3 hf2 hb2 HEN P1 HB1 HG1
  go_wp2_with fail
  refine HR2.out.mono ?_
  rintro e w3 ⟨v3, rfl, hf3, hb3⟩
  obtain ⟨B3, n3, d3, rfl⟩ := hf3.form
  have p1 := P2.out.1.up hb3
  have p3 := P2.out.2.up hb3
  have hG3 : StartsG w3 ∧ RootsG w3 := ⟨HG2.out.1.later hb3, HG2.out.2.later hb3⟩
  have hve := pverpss_all w3 k hG3.1 hG3.2 b A1 q1 c1 t1 p1.sl.1 p1.sl.2 A3 q3 c3 t3 p3.sl.1 n
  rw [HV.out.2.2] at hve
  have HD3 := Lib.hid hve
  have f2 := HF2.out.up hb3
  have cv2 := f2.cv
  have cv3 := hf3.cv
  have e1 := fun (w : World) (t : TypeId) (x y : Operand) (a b : List (BitVec 8)) => eqGuard_str (P := Tryd.prog) w .neq t x y a b
  have e1' := fun (w : World) (t : TypeId) (x y : Operand) (a b : List (BitVec 8)) => eqGuard_str (P := Tryd.prog) w .eql t x y a b
  have e2 := strNe V
  have kr : (R != R) = false := by simp
  have P3 := Lib.hid (⟨p1, p3⟩ : Pc w3 w3.heap.size (.slice A1 q1 c1) t1 ∧ Pc w3 w3.heap.size (.slice A3 q3 c3) t3)
  have HF3 := Lib.hid f2
  have HB3 := Lib.hid (HB2.out.trans (hb3.mono HB2.out.size))
  have HG3' := Lib.hid hG3
  clear hve p1 p3 f2 hf3 hb3 hG3 HR2 P2 HB2 HG2 HF2
  go_wp2_with fail
  refine HD3.out.mono ?_
  rintro e w4 ⟨rfl, hb4⟩
  have p1 := P3.out.1.up hb4
  have p3 := P3.out.2.up hb4
  have hve := rverpss_all w4 k b A1 q1 c1 t1 p1.sl.1 p1.sl.2 A3 q3 c3 t3 p3.sl.1 n
  rw [HV.out.2.2] at hve
  have HD4 := Lib.hid hve
  have P4 := Lib.hid p1
  have HF4 := Lib.hid (HF3.out.up hb4)
  have HB4 := Lib.hid (HB3.out.trans (hb4.mono HB3.out.size))
  have HG4 := Lib.hid (⟨HG3'.out.1.later hb4, HG3'.out.2.later hb4⟩ : StartsG w4 ∧ RootsG w4)
  clear hve p1 p3 hb4 HD3 P3 HB3 HG3' HF3
  go_wp2_with fail
  refine HD4.out.mono ?_
  rintro e w5 ⟨rfl, hb5⟩
  have p1 := P4.out.up hb5
  have f2 := HF4.out.up hb5
  have hG5 : StartsG w5 ∧ RootsG w5 := ⟨HG4.out.1.later hb5, HG4.out.2.later hb5⟩
  have HB5 := Lib.hid (HB4.out.trans (hb5.mono HB4.out.size))
  have kt : (T != T) = false := by simp
  clear hb5 HD4 P4 HB4 HG4 HF4
  by_cases hR0 : R = 0
  · subst hR0
    obtain ⟨o1, o2⟩ := pe_back k b t1 t2 HV.out.2.1
    rw [HV.out.1] at o1 o2
    have hq2 := HL.out.2.2.1
    have hve := pverpss_all w5 k hG5.1 hG5.2 b A1 q1 c1 t1 p1.sl.1 p1.sl.2 B2 n2 d2 V f2.pc.sl.1 (q2 : Int)
    rw [HL.out.1] at o1 o2
    rw [o1] at hve
    have HD5 := Lib.hid hve
    have P5 := Lib.hid (⟨p1, f2⟩ : Pc w5 w5.heap.size (.slice A1 q1 c1) t1 ∧ FreshV w5 w1.heap.size (.slice B2 n2 d2) V)
    have HG5 := Lib.hid hG5
    have HO := Lib.hid o2
    clear hve o1 o2 p1 f2 hG5
    go_wp2_with fail
    refine HD5.out.mono ?_
    rintro e w6 ⟨rfl, hb6⟩
    have hve := pverpss_all w6 k (HG5.out.1.later hb6) (HG5.out.2.later hb6) b A1 q1 c1 t1 (P5.out.1.up hb6).sl.1 (P5.out.1.up hb6).sl.2 B2 n2 d2 V (P5.out.2.up hb6).pc.sl.1 ((q2 : Int) + 1)
    rw [HO.out] at hve
    have HD6 := Lib.hid hve
    have HB6 := Lib.hid (HB5.out.trans (hb6.mono HB5.out.size))
    clear hve hb6 HD5 P5 HG5 cv2 cv3
    go_wp2_with fail
    refine HD6.out.mono ?_
    rintro e w7 ⟨rfl, hb7⟩
    have HB7 := Lib.hid (HB6.out.trans (hb7.mono HB6.out.size))
    clear hb7 HD6
    go_wp2
    go_ret
    exact ⟨rfl, HB7.out⟩
  · have kR : (R != 0) = true := by simpa using hR0
    clear p1 f2 hG5
    go_wp2
    go_ret
    exact ⟨rfl, HB5.out⟩
set_option maxRecDepth 100000 in
set_option maxHeartbeats 16000000 in
theorem pp_walk (w : World) (hGS : StartsG w) (hGR : RootsG w) (k bits n : Int) (h0 : -9223372036854775808 ≤ bits) (h1 : bits ≤ 9223372036854775807)
    (A1 : Option Addr) (m1 c1 : Nat) (b1 : List (BitVec 8)) (s1 : SlV w w.heap.size A1 m1 c1 (b1.map W8)) (z1 : A1 = none → c1 = 0)
    (A2 : Option Addr) (m2 c2 : Nat) (b2 : List (BitVec 8)) (s2 : SlV w w.heap.size A2 m2 c2 (b2.map W8)) (z2 : A2 = none → c2 = 0)
    (A3 : Option Addr) (m3 c3 : Nat) (b3 : List (BitVec 8)) (s3 : SlV w w.heap.size A3 m3 c3 (b3.map W8)) (z3 : A3 = none → c3 = 0) :
    Calls Tryd.prog 8 #[.int .i64 k, .int .i64 bits, .slice A1 m1 c1, .slice A2 m2 c2, .slice A3 m3 c3, .int .i64 n] w fun e w' => e = .returned (.bool true) ∧ Below w.heap.size w w' := by
  rcases (by omega : bits ≤ 1500 ∨ (1500 < bits ∧ bits ≤ 65536) ∨ 65536 < bits) with h | ⟨h, h'⟩ | h
  · exact pp_walk1 w hGS hGR k bits n h0 h1 h A1 m1 c1 b1 s1 z1 A2 m2 c2 b2 s2 z2 A3 m3 c3 b3 s3 z3
  · exact pp_walk2 w hGS hGR k bits n h h' A1 m1 c1 b1 s1 z1 A2 m2 c2 b2 s2 z2 A3 m3 c3 b3 s3 z3
  · exact pp_walk3 w hGS hGR k bits n h0 h1 h A1 m1 c1 b1 s1 z1 A2 m2 c2 b2 s2 z2 A3 m3 c3 b3 s3 z3
end Go.Proofs.YtnpaidieijlkkaaDoor
