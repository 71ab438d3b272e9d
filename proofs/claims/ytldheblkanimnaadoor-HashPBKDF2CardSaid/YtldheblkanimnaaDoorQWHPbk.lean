/- HashPBKDF2, walked. -/
import Derived.Test.YtldheblkanimnaaDoorQSx
import Derived.Test.YtldheblkanimnaaDoorPileB9
set_option linter.unusedVariables false
set_option linter.unusedSimpArgs false
namespace Go.Proofs.YtldheblkanimnaaDoor
open Go.RowKit Go.Shelf
attribute [local go_sem] shutOp

set_option maxRecDepth 100000 in
set_option maxHeartbeats 8000000 in
theorem hpbk_walk (w : World) (hGS : StartsG w) (hGR : RootsG w) (k : Int) (A : Option Addr) (n c : Nat) (pin : List (BitVec 8)) (hs : SlV w w.heap.size A n c (pin.map W8)) (hz : A = none → c = 0) (A2 : Option Addr) (n2 c2 : Nat) (salt : List (BitVec 8)) (hs2 : SlV w w.heap.size A2 n2 c2 (salt.map W8)) (hz2 : A2 = none → c2 = 0) (R N : Int) (hR1 : -9223372036854775808 ≤ R) (hR2 : R ≤ 9223372036854775807) (hN1 : -9223372036854775808 ≤ N) (hN2 : N ≤ 9223372036854775807) :
    Calls Tryd.prog 7 #[.int .i64 k, .slice A n c, .slice A2 n2 c2, .int .i64 R, .int .i64 N] w fun e w' => e = .returned (.bool true) ∧ Below w.heap.size w w' := by
  obtain ⟨b0, hb0⟩ : ∃ b, w.heap.size = b := ⟨_, rfl⟩
  have hbg := begun3_any w hGS hGR
  rw [hb0] at hbg hs hs2 ⊢
  have HBG := Lib.hid hbg
  have HG := Lib.hid (⟨hGS, hGR⟩ : StartsG w ∧ RootsG w)
  have HS := Lib.hid hs
  have HS2 := Lib.hid hs2
  have HB0 := Lib.hid hb0
  clear hbg hGS hGR hs hs2 hb0
  go_enter Tryd.func7, Tryd.ntmps7
  go_wp2_with fail
  refine HBG.out.mono ?_
  rintro e w1 ⟨rfl, hb1⟩
  have hs1 := HS.out.below hb1
  have hs21 := HS2.out.below hb1
  have hG1 : StartsG w1 ∧ RootsG w1 := by
    rw [← HB0.out] at hb1
    exact ⟨HG.out.1.later hb1, HG.out.2.later hb1⟩
  have sh1 := short_any w1 _ _ _ _ _ hs1 60 (by decide)
  have sh2 := short_any w1 _ _ _ _ _ hs21 40 (by decide)
  have ht1 := short_sl (m := 60) hs1
  have ht2 := short_sl (m := 40) hs21
  obtain ⟨m1, hm1⟩ : ∃ m, min n 60 = m := ⟨_, rfl⟩
  obtain ⟨m2, hm2⟩ : ∃ m, min n2 40 = m := ⟨_, rfl⟩
  obtain ⟨q1, hq1⟩ : ∃ q, pin.take 60 = q := ⟨_, rfl⟩
  obtain ⟨q2, hq2⟩ : ∃ q, salt.take 40 = q := ⟨_, rfl⟩
  rw [hm1] at sh1 ht1
  rw [hm2] at sh2 ht2
  rw [hq1] at ht1
  rw [hq2] at ht2
  have hm1' : m1 ≤ 60 := by omega
  have hm2' : m2 ≤ 40 := by omega
  have SH1 := Lib.hid sh1
  have SH2 := Lib.hid sh2
  have HB1 := Lib.hid hb1
  have hb0w : b0 ≤ w1.heap.size := by have := HB0.out; have := hb1.size; omega
  have hP : ∀ (r m : Int) (D : List (BitVec 8)), pbkK k q1 q2 r m = D → ∀ (W : World), Below w1.heap.size w1 W → Calls Tryd.prog 26 #[.int .i64 k, .slice A m1 c, .slice A2 m2 c2, .int .i64 r, .int .i64 m] W fun e w' => ∃ A' c', e = .returned (.slice A' D.length c') ∧ SlV w' w'.heap.size A' D.length c' (D.map W8) ∧ Below W.heap.size W w' := fun r m D hD W hW => by
    have h := pbkK_any W k (hG1.1.later hW) (hG1.2.later hW) b0 A m1 c q1 (ht1.below (hW.mono hb0w)) hz A2 m2 c2 q2 (ht2.below (hW.mono hb0w)) hz2 (Nat.le_trans hb0w hW.size) (by omega) (by omega) r m
    rw [hD] at h
    refine h.mono ?_
    rintro e w' ⟨v, rfl, ⟨A', c', rfl, h1, _, _⟩, h2⟩
    exact ⟨A', c', rfl, h1, h2⟩
  have hR : ∀ (r m : Int) (D : List (BitVec 8)), pbkK k q1 q2 r m = D → ∀ (W : World), Below w1.heap.size w1 W → Calls Tryd.prog 27 #[.int .i64 k, .slice A m1 c, .slice A2 m2 c2, .int .i64 r, .int .i64 m] W fun e w' => ∃ A' c', e = .returned (.slice A' D.length c') ∧ SlV w' w'.heap.size A' D.length c' (D.map W8) ∧ Below W.heap.size W w' := fun r m D hD W hW => by
    have h := rpbkK_any W k b0 A m1 c q1 (ht1.below (hW.mono hb0w)) hz A2 m2 c2 q2 (ht2.below (hW.mono hb0w)) hz2 (Nat.le_trans hb0w hW.size) (by omega) (by omega) r m
    rw [hD] at h
    refine h.mono ?_
    rintro e w' ⟨v, rfl, ⟨A', c', rfl, h1, _, _⟩, h2⟩
    exact ⟨A', c', rfl, h1, h2⟩
  have HP := Lib.hid hP
  have HR := Lib.hid hR
  have e1 := fun (w : World) (t : TypeId) (x y : Operand) (a b : List (BitVec 8)) => eqGuard_str (P := Tryd.prog) w .eql t x y a b
  have e2 : ∀ (D : List (BitVec 8)) w', (binOp .eql 9 (strV D) (strV D)).run Tryd.prog w' = .ok (.bool true) w' := fun D w' => by
    rw [eql_str w' _ D D, decide_eq_true rfl]
  have hbd : Below w1.heap.size w1 w1.drew := (Below.refl _ w1).drew
  have HBD := Lib.hid hbd
  clear hP hR hb1 hs1 hs21 hG1 sh1 sh2 ht1 ht2 hm1 hm2 hq1 hq2 hbd
  go_wp2_with fail
  refine SH1.out.mono ?_
  rintro e w' ⟨rfl, rfl⟩
  go_wp2_with fail
  refine SH2.out.mono ?_
  rintro e w' ⟨rfl, rfl⟩
  by_cases gR1 : (9 : Int) < R
  · by_cases gR2 : R ≤ 65536
    · obtain ⟨Rm, hRm⟩ : ∃ M : Nat, R.tmod 10 = (M : Int) := ⟨(R.tmod 10).toNat, by rw [Int.toNat_of_nonneg (Int.tmod_nonneg _ (by omega))]⟩
      have hRmb : (Rm : Int) ≤ 209 := by have := Int.tmod_lt_of_pos R (by decide : (0 : Int) < 10); omega
      by_cases gN1 : (150 : Int) < N
      · by_cases gN2 : N ≤ 65536
        · obtain ⟨Nm, hNm⟩ : ∃ M : Nat, N.tmod 151 = (M : Int) := ⟨(N.tmod 151).toNat, by rw [Int.toNat_of_nonneg (Int.tmod_nonneg _ (by omega))]⟩
          have hNmb : (Nm : Int) ≤ 350 := by have := Int.tmod_lt_of_pos N (by decide : (0 : Int) < 151); omega
          obtain ⟨D, hD⟩ : ∃ D, pbkK k q1 q2 (Rm) (Nm) = D := ⟨_, rfl⟩
          have H1 := Lib.hid (HP.out _ _ D hD)
          have H2 := Lib.hid (HR.out _ _ D hD)
          clear hD
          go_wp2_with fail
          rw [shut_conv (some 41), shut_conv (some 48)]
          go_region_held3 (fun _ => True) (trivial)
            (first | (go_at_call 26; (with_reducible refine (H1.out _ HBD.out).mono ?_); rintro e w6 ⟨A6, c6, rfl, hs6, hb6⟩; have hb16 := HBD.out.trans (hb6.mono HBD.out.size); have cv6 := FreshV.conv hs6 (Below.refl _ _)) | (go_at_call 27; (with_reducible refine (H2.out _ hb16).mono ?_); rintro e w7 ⟨A7, c7, rfl, hs7, hb7⟩; have hb17 := hb16.trans (hb7.mono hb16.size); have cv7 := FreshV.conv hs7 (Below.refl _ _); have cv6' := FreshV.conv hs6 hb7))
          all_goals
            have HFIN := Lib.hid (HB1.out.trans (hb17.mono hb0w))
            clear hb17 hb16
            go_wp2
            go_ret
            exact ⟨rfl, HFIN.out⟩
        · have gN3 : decide (N ≤ 65536) = false := decide_eq_false gN2
          obtain ⟨D, hD⟩ : ∃ D, pbkK k q1 q2 (Rm) (N) = D := ⟨_, rfl⟩
          have H1 := Lib.hid (HP.out _ _ D hD)
          have H2 := Lib.hid (HR.out _ _ D hD)
          clear hD
          go_wp2_with fail
          rw [shut_conv (some 41), shut_conv (some 48)]
          go_region_held3 (fun _ => True) (trivial)
            (first | (go_at_call 26; (with_reducible refine (H1.out _ HBD.out).mono ?_); rintro e w6 ⟨A6, c6, rfl, hs6, hb6⟩; have hb16 := HBD.out.trans (hb6.mono HBD.out.size); have cv6 := FreshV.conv hs6 (Below.refl _ _)) | (go_at_call 27; (with_reducible refine (H2.out _ hb16).mono ?_); rintro e w7 ⟨A7, c7, rfl, hs7, hb7⟩; have hb17 := hb16.trans (hb7.mono hb16.size); have cv7 := FreshV.conv hs7 (Below.refl _ _); have cv6' := FreshV.conv hs6 hb7))
          all_goals
            have HFIN := Lib.hid (HB1.out.trans (hb17.mono hb0w))
            clear hb17 hb16
            go_wp2
            go_ret
            exact ⟨rfl, HFIN.out⟩
      · have gN4 : decide ((150 : Int) < N) = false := decide_eq_false gN1
        obtain ⟨D, hD⟩ : ∃ D, pbkK k q1 q2 (Rm) (N) = D := ⟨_, rfl⟩
        have H1 := Lib.hid (HP.out _ _ D hD)
        have H2 := Lib.hid (HR.out _ _ D hD)
        clear hD
        go_wp2_with fail
        rw [shut_conv (some 41), shut_conv (some 48)]
        go_region_held3 (fun _ => True) (trivial)
          (first | (go_at_call 26; (with_reducible refine (H1.out _ HBD.out).mono ?_); rintro e w6 ⟨A6, c6, rfl, hs6, hb6⟩; have hb16 := HBD.out.trans (hb6.mono HBD.out.size); have cv6 := FreshV.conv hs6 (Below.refl _ _)) | (go_at_call 27; (with_reducible refine (H2.out _ hb16).mono ?_); rintro e w7 ⟨A7, c7, rfl, hs7, hb7⟩; have hb17 := hb16.trans (hb7.mono hb16.size); have cv7 := FreshV.conv hs7 (Below.refl _ _); have cv6' := FreshV.conv hs6 hb7))
        all_goals
          have HFIN := Lib.hid (HB1.out.trans (hb17.mono hb0w))
          clear hb17 hb16
          go_wp2
          go_ret
          exact ⟨rfl, HFIN.out⟩
    · have gR3 : decide (R ≤ 65536) = false := decide_eq_false gR2
      by_cases gN1 : (150 : Int) < N
      · by_cases gN2 : N ≤ 65536
        · obtain ⟨Nm, hNm⟩ : ∃ M : Nat, N.tmod 151 = (M : Int) := ⟨(N.tmod 151).toNat, by rw [Int.toNat_of_nonneg (Int.tmod_nonneg _ (by omega))]⟩
          have hNmb : (Nm : Int) ≤ 350 := by have := Int.tmod_lt_of_pos N (by decide : (0 : Int) < 151); omega
          obtain ⟨D, hD⟩ : ∃ D, pbkK k q1 q2 (R) (Nm) = D := ⟨_, rfl⟩
          have H1 := Lib.hid (HP.out _ _ D hD)
          have H2 := Lib.hid (HR.out _ _ D hD)
          clear hD
          go_wp2_with fail
          rw [shut_conv (some 41), shut_conv (some 48)]
          go_region_held3 (fun _ => True) (trivial)
            (first | (go_at_call 26; (with_reducible refine (H1.out _ HBD.out).mono ?_); rintro e w6 ⟨A6, c6, rfl, hs6, hb6⟩; have hb16 := HBD.out.trans (hb6.mono HBD.out.size); have cv6 := FreshV.conv hs6 (Below.refl _ _)) | (go_at_call 27; (with_reducible refine (H2.out _ hb16).mono ?_); rintro e w7 ⟨A7, c7, rfl, hs7, hb7⟩; have hb17 := hb16.trans (hb7.mono hb16.size); have cv7 := FreshV.conv hs7 (Below.refl _ _); have cv6' := FreshV.conv hs6 hb7))
          all_goals
            have HFIN := Lib.hid (HB1.out.trans (hb17.mono hb0w))
            clear hb17 hb16
            go_wp2
            go_ret
            exact ⟨rfl, HFIN.out⟩
        · have gN3 : decide (N ≤ 65536) = false := decide_eq_false gN2
          obtain ⟨D, hD⟩ : ∃ D, pbkK k q1 q2 (R) (N) = D := ⟨_, rfl⟩
          have H1 := Lib.hid (HP.out _ _ D hD)
          have H2 := Lib.hid (HR.out _ _ D hD)
          clear hD
          go_wp2_with fail
          rw [shut_conv (some 41), shut_conv (some 48)]
          go_region_held3 (fun _ => True) (trivial)
            (first | (go_at_call 26; (with_reducible refine (H1.out _ HBD.out).mono ?_); rintro e w6 ⟨A6, c6, rfl, hs6, hb6⟩; have hb16 := HBD.out.trans (hb6.mono HBD.out.size); have cv6 := FreshV.conv hs6 (Below.refl _ _)) | (go_at_call 27; (with_reducible refine (H2.out _ hb16).mono ?_); rintro e w7 ⟨A7, c7, rfl, hs7, hb7⟩; have hb17 := hb16.trans (hb7.mono hb16.size); have cv7 := FreshV.conv hs7 (Below.refl _ _); have cv6' := FreshV.conv hs6 hb7))
          all_goals
            have HFIN := Lib.hid (HB1.out.trans (hb17.mono hb0w))
            clear hb17 hb16
            go_wp2
            go_ret
            exact ⟨rfl, HFIN.out⟩
      · have gN4 : decide ((150 : Int) < N) = false := decide_eq_false gN1
        obtain ⟨D, hD⟩ : ∃ D, pbkK k q1 q2 (R) (N) = D := ⟨_, rfl⟩
        have H1 := Lib.hid (HP.out _ _ D hD)
        have H2 := Lib.hid (HR.out _ _ D hD)
        clear hD
        go_wp2_with fail
        rw [shut_conv (some 41), shut_conv (some 48)]
        go_region_held3 (fun _ => True) (trivial)
          (first | (go_at_call 26; (with_reducible refine (H1.out _ HBD.out).mono ?_); rintro e w6 ⟨A6, c6, rfl, hs6, hb6⟩; have hb16 := HBD.out.trans (hb6.mono HBD.out.size); have cv6 := FreshV.conv hs6 (Below.refl _ _)) | (go_at_call 27; (with_reducible refine (H2.out _ hb16).mono ?_); rintro e w7 ⟨A7, c7, rfl, hs7, hb7⟩; have hb17 := hb16.trans (hb7.mono hb16.size); have cv7 := FreshV.conv hs7 (Below.refl _ _); have cv6' := FreshV.conv hs6 hb7))
        all_goals
          have HFIN := Lib.hid (HB1.out.trans (hb17.mono hb0w))
          clear hb17 hb16
          go_wp2
          go_ret
          exact ⟨rfl, HFIN.out⟩
  · have gR4 : decide ((9 : Int) < R) = false := decide_eq_false gR1
    by_cases gN1 : (150 : Int) < N
    · by_cases gN2 : N ≤ 65536
      · obtain ⟨Nm, hNm⟩ : ∃ M : Nat, N.tmod 151 = (M : Int) := ⟨(N.tmod 151).toNat, by rw [Int.toNat_of_nonneg (Int.tmod_nonneg _ (by omega))]⟩
        have hNmb : (Nm : Int) ≤ 350 := by have := Int.tmod_lt_of_pos N (by decide : (0 : Int) < 151); omega
        obtain ⟨D, hD⟩ : ∃ D, pbkK k q1 q2 (R) (Nm) = D := ⟨_, rfl⟩
        have H1 := Lib.hid (HP.out _ _ D hD)
        have H2 := Lib.hid (HR.out _ _ D hD)
        clear hD
        go_wp2_with fail
        rw [shut_conv (some 41), shut_conv (some 48)]
        go_region_held3 (fun _ => True) (trivial)
          (first | (go_at_call 26; (with_reducible refine (H1.out _ HBD.out).mono ?_); rintro e w6 ⟨A6, c6, rfl, hs6, hb6⟩; have hb16 := HBD.out.trans (hb6.mono HBD.out.size); have cv6 := FreshV.conv hs6 (Below.refl _ _)) | (go_at_call 27; (with_reducible refine (H2.out _ hb16).mono ?_); rintro e w7 ⟨A7, c7, rfl, hs7, hb7⟩; have hb17 := hb16.trans (hb7.mono hb16.size); have cv7 := FreshV.conv hs7 (Below.refl _ _); have cv6' := FreshV.conv hs6 hb7))
        all_goals
          have HFIN := Lib.hid (HB1.out.trans (hb17.mono hb0w))
          clear hb17 hb16
          go_wp2
          go_ret
          exact ⟨rfl, HFIN.out⟩
      · have gN3 : decide (N ≤ 65536) = false := decide_eq_false gN2
        obtain ⟨D, hD⟩ : ∃ D, pbkK k q1 q2 (R) (N) = D := ⟨_, rfl⟩
        have H1 := Lib.hid (HP.out _ _ D hD)
        have H2 := Lib.hid (HR.out _ _ D hD)
        clear hD
        go_wp2_with fail
        rw [shut_conv (some 41), shut_conv (some 48)]
        go_region_held3 (fun _ => True) (trivial)
          (first | (go_at_call 26; (with_reducible refine (H1.out _ HBD.out).mono ?_); rintro e w6 ⟨A6, c6, rfl, hs6, hb6⟩; have hb16 := HBD.out.trans (hb6.mono HBD.out.size); have cv6 := FreshV.conv hs6 (Below.refl _ _)) | (go_at_call 27; (with_reducible refine (H2.out _ hb16).mono ?_); rintro e w7 ⟨A7, c7, rfl, hs7, hb7⟩; have hb17 := hb16.trans (hb7.mono hb16.size); have cv7 := FreshV.conv hs7 (Below.refl _ _); have cv6' := FreshV.conv hs6 hb7))
        all_goals
          have HFIN := Lib.hid (HB1.out.trans (hb17.mono hb0w))
          clear hb17 hb16
          go_wp2
          go_ret
          exact ⟨rfl, HFIN.out⟩
    · have gN4 : decide ((150 : Int) < N) = false := decide_eq_false gN1
      obtain ⟨D, hD⟩ : ∃ D, pbkK k q1 q2 (R) (N) = D := ⟨_, rfl⟩
      have H1 := Lib.hid (HP.out _ _ D hD)
      have H2 := Lib.hid (HR.out _ _ D hD)
      clear hD
      go_wp2_with fail
      rw [shut_conv (some 41), shut_conv (some 48)]
      go_region_held3 (fun _ => True) (trivial)
        (first | (go_at_call 26; (with_reducible refine (H1.out _ HBD.out).mono ?_); rintro e w6 ⟨A6, c6, rfl, hs6, hb6⟩; have hb16 := HBD.out.trans (hb6.mono HBD.out.size); have cv6 := FreshV.conv hs6 (Below.refl _ _)) | (go_at_call 27; (with_reducible refine (H2.out _ hb16).mono ?_); rintro e w7 ⟨A7, c7, rfl, hs7, hb7⟩; have hb17 := hb16.trans (hb7.mono hb16.size); have cv7 := FreshV.conv hs7 (Below.refl _ _); have cv6' := FreshV.conv hs6 hb7))
      all_goals
        have HFIN := Lib.hid (HB1.out.trans (hb17.mono hb0w))
        clear hb17 hb16
        go_wp2
        go_ret
        exact ⟨rfl, HFIN.out⟩
end Go.Proofs.YtldheblkanimnaaDoor
