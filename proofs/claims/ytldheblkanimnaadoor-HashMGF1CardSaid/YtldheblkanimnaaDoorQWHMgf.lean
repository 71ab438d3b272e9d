/- HashMGF1, walked. -/
import Derived.Test.YtldheblkanimnaaDoorQSp
import Derived.Test.YtldheblkanimnaaDoorPileB9
set_option linter.unusedVariables false
set_option linter.unusedSimpArgs false
namespace Go.Proofs.YtldheblkanimnaaDoor
open Go.RowKit Go.Shelf
attribute [local go_sem] shutOp

set_option maxRecDepth 100000 in
set_option maxHeartbeats 4000000 in
theorem hmgf_walk (w : World) (hGS : StartsG w) (hGR : RootsG w) (k : Int) (A : Option Addr) (n c : Nat) (seed : List (BitVec 8)) (hs : SlV w w.heap.size A n c (seed.map W8)) (hz : A = none → c = 0) (N : Int) (hN1 : -9223372036854775808 ≤ N) (hN2 : N ≤ 9223372036854775807) :
    Calls Tryd.prog 6 #[.int .i64 k, .slice A n c, .int .i64 N] w fun e w' => e = .returned (.bool true) ∧ Below w.heap.size w w' := by
  obtain ⟨b0, hb0⟩ : ∃ b, w.heap.size = b := ⟨_, rfl⟩
  have hbg := begun3_any w hGS hGR
  rw [hb0] at hbg hs ⊢
  have HBG := Lib.hid hbg
  have HG := Lib.hid (⟨hGS, hGR⟩ : StartsG w ∧ RootsG w)
  have HS := Lib.hid hs
  have HB0 := Lib.hid hb0
  clear hbg hGS hGR hs hb0
  go_enter Tryd.func6, Tryd.ntmps6
  go_wp2_with fail
  refine HBG.out.mono ?_
  rintro e w1 ⟨rfl, hb1⟩
  have hs1 := HS.out.below hb1
  have hG1 : StartsG w1 ∧ RootsG w1 := by
    rw [← HB0.out] at hb1
    exact ⟨HG.out.1.later hb1, HG.out.2.later hb1⟩
  have sh1 := short_any w1 _ _ _ _ _ hs1 80 (by decide)
  have ht1 := short_sl (m := 80) hs1
  obtain ⟨m1, hm1⟩ : ∃ m, min n 80 = m := ⟨_, rfl⟩
  obtain ⟨q1, hq1⟩ : ∃ q, seed.take 80 = q := ⟨_, rfl⟩
  rw [hm1] at sh1 ht1
  rw [hq1] at ht1
  have hm1' : m1 ≤ 80 := by omega
  have SH1 := Lib.hid sh1
  have HB1 := Lib.hid hb1
  have hb0w : b0 ≤ w1.heap.size := by have := HB0.out; have := hb1.size; omega
  have hP : ∀ (M : Int) (D : List (BitVec 8)), mgfK k q1 M = D → ∀ (W : World), Below w1.heap.size w1 W → Calls Tryd.prog 24 #[.int .i64 k, .slice A m1 c, .int .i64 M] W fun e w' => ∃ A' c', e = .returned (.slice A' D.length c') ∧ SlV w' w'.heap.size A' D.length c' (D.map W8) ∧ Below W.heap.size W w' := fun M D hD W hW => by
    have h := mgfK_any W k (hG1.1.later hW) (hG1.2.later hW) b0 A m1 c q1 (ht1.below (hW.mono hb0w)) hz (Nat.le_trans hb0w hW.size) (by omega) M
    rw [hD] at h
    refine h.mono ?_
    rintro e w' ⟨v, rfl, ⟨A', c', rfl, h1, _, _⟩, h2⟩
    exact ⟨A', c', rfl, h1, h2⟩
  have hR : ∀ (M : Int) (D : List (BitVec 8)), mgfK k q1 M = D → ∀ (W : World), Below w1.heap.size w1 W → Calls Tryd.prog 25 #[.int .i64 k, .slice A m1 c, .int .i64 M] W fun e w' => ∃ A' c', e = .returned (.slice A' D.length c') ∧ SlV w' w'.heap.size A' D.length c' (D.map W8) ∧ Below W.heap.size W w' := fun M D hD W hW => by
    have h := rmgfK_any W k b0 A m1 c q1 (ht1.below (hW.mono hb0w)) hz (Nat.le_trans hb0w hW.size) (by omega) M
    rw [hD] at h
    refine h.mono ?_
    rintro e w' ⟨v, rfl, ⟨A', c', rfl, h1, _, _⟩, h2⟩
    exact ⟨A', c', rfl, h1, h2⟩
  have HP := Lib.hid hP
  have HR := Lib.hid hR
  have e1 := fun (w : World) (t : TypeId) (x y : Operand) (a b : List (BitVec 8)) => eqGuard_str (P := Tryd.prog) w .eql t x y a b
  have e2 : ∀ (D : List (BitVec 8)) w', (binOp .eql 9 (strV D) (strV D)).run Tryd.prog w' = .ok (.bool true) w' := fun D w' => by
    rw [eql_str w' _ D D, decide_eq_true rfl]
  have hbd : Below w1.heap.size w1 w1.drew := (Below.refl _ w1).drew
  have HBD := Lib.hid hbd
  clear hP hR hb1 hs1 hG1 sh1 ht1 hm1 hq1 hbd
  go_wp2_with fail
  refine SH1.out.mono ?_
  rintro e w' ⟨rfl, rfl⟩
  by_cases g1 : (300 : Int) < N
  · by_cases g2 : N ≤ 65536
    · obtain ⟨M, hM⟩ : ∃ M : Nat, N.tmod 301 = (M : Int) := ⟨(N.tmod 301).toNat, by rw [Int.toNat_of_nonneg (Int.tmod_nonneg _ (by omega))]⟩
      have hMb : (M : Int) ≤ 300 := by have := Int.tmod_lt_of_pos N (by decide : (0 : Int) < 301); omega
      obtain ⟨D, hD⟩ : ∃ D, mgfK k q1 (M) = D := ⟨_, rfl⟩
      have H1 := Lib.hid (HP.out _ D hD)
      have H2 := Lib.hid (HR.out _ D hD)
      clear hD
      go_wp2_with fail
      rw [shut_conv (some 25), shut_conv (some 30)]
      go_region_held3 (fun _ => True) (trivial)
        (first | (go_at_call 24; (with_reducible refine (H1.out _ HBD.out).mono ?_); rintro e w6 ⟨A6, c6, rfl, hs6, hb6⟩; have hb16 := HBD.out.trans (hb6.mono HBD.out.size); have cv6 := FreshV.conv hs6 (Below.refl _ _)) | (go_at_call 25; (with_reducible refine (H2.out _ hb16).mono ?_); rintro e w7 ⟨A7, c7, rfl, hs7, hb7⟩; have hb17 := hb16.trans (hb7.mono hb16.size); have cv7 := FreshV.conv hs7 (Below.refl _ _); have cv6' := FreshV.conv hs6 hb7))
      all_goals
        have HFIN := Lib.hid (HB1.out.trans (hb17.mono hb0w))
        clear hb17 hb16
        go_wp2
        go_ret
        exact ⟨rfl, HFIN.out⟩
    · have g3 : decide (N ≤ 65536) = false := by simpa using g2
      obtain ⟨D, hD⟩ : ∃ D, mgfK k q1 (N) = D := ⟨_, rfl⟩
      have H1 := Lib.hid (HP.out _ D hD)
      have H2 := Lib.hid (HR.out _ D hD)
      clear hD
      go_wp2_with fail
      rw [shut_conv (some 25), shut_conv (some 30)]
      go_region_held3 (fun _ => True) (trivial)
        (first | (go_at_call 24; (with_reducible refine (H1.out _ HBD.out).mono ?_); rintro e w6 ⟨A6, c6, rfl, hs6, hb6⟩; have hb16 := HBD.out.trans (hb6.mono HBD.out.size); have cv6 := FreshV.conv hs6 (Below.refl _ _)) | (go_at_call 25; (with_reducible refine (H2.out _ hb16).mono ?_); rintro e w7 ⟨A7, c7, rfl, hs7, hb7⟩; have hb17 := hb16.trans (hb7.mono hb16.size); have cv7 := FreshV.conv hs7 (Below.refl _ _); have cv6' := FreshV.conv hs6 hb7))
      all_goals
        have HFIN := Lib.hid (HB1.out.trans (hb17.mono hb0w))
        clear hb17 hb16
        go_wp2
        go_ret
        exact ⟨rfl, HFIN.out⟩
  · have g4 : decide ((300 : Int) < N) = false := by simpa using g1
    obtain ⟨D, hD⟩ : ∃ D, mgfK k q1 (N) = D := ⟨_, rfl⟩
    have H1 := Lib.hid (HP.out _ D hD)
    have H2 := Lib.hid (HR.out _ D hD)
    clear hD
    go_wp2_with fail
    rw [shut_conv (some 25), shut_conv (some 30)]
    go_region_held3 (fun _ => True) (trivial)
      (first | (go_at_call 24; (with_reducible refine (H1.out _ HBD.out).mono ?_); rintro e w6 ⟨A6, c6, rfl, hs6, hb6⟩; have hb16 := HBD.out.trans (hb6.mono HBD.out.size); have cv6 := FreshV.conv hs6 (Below.refl _ _)) | (go_at_call 25; (with_reducible refine (H2.out _ hb16).mono ?_); rintro e w7 ⟨A7, c7, rfl, hs7, hb7⟩; have hb17 := hb16.trans (hb7.mono hb16.size); have cv7 := FreshV.conv hs7 (Below.refl _ _); have cv6' := FreshV.conv hs6 hb7))
    all_goals
      have HFIN := Lib.hid (HB1.out.trans (hb17.mono hb0w))
      clear hb17 hb16
      go_wp2
      go_ret
      exact ⟨rfl, HFIN.out⟩
end Go.Proofs.YtldheblkanimnaaDoor
