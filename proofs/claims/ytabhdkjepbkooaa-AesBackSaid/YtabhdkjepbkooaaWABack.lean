/- AesBack, walked. -/
import Derived.Test.YtabhdkjepbkooaaBn
set_option linter.unusedVariables false
set_option linter.unusedSimpArgs false
namespace Go.Proofs.Ytabhdkjepbkooaa
open Go.RowKit
attribute [local go_sem] shutOp

set_option maxRecDepth 100000 in
set_option maxHeartbeats 4000000 in
theorem aback_walk (w : World) (A1 : Option Addr) (n1 c1 : Nat) (key : List (BitVec 8)) (h1 : SlV w w.heap.size A1 n1 c1 (key.map W8)) (z1 : A1 = none → c1 = 0) (A2 : Option Addr) (n2 c2 : Nat) (bs : List (BitVec 8)) (h2 : SlV w w.heap.size A2 n2 c2 (bs.map W8)) (z2 : A2 = none → c2 = 0) :
    Calls Try.prog 4 #[.slice A1 n1 c1, .slice A2 n2 c2] w fun e w' => e = .returned (.bool true) ∧ Below w.heap.size w w' := by
  obtain ⟨z, hz⟩ : ∃ z, w.heap.size = z := ⟨_, rfl⟩
  rw [hz] at h1 h2
  have hbl : bs.length = n2 := by simpa using h2.len.symm
  have HBG := Lib.hid (begun5_any w)
  have HZ := Lib.hid hz
  have H1 := Lib.hid h1
  have H2 := Lib.hid h2
  have HBL := Lib.hid hbl
  clear h1 h2 hbl
  by_cases hk : KeyLen n1
  · have HK := Lib.hid hk
    clear hk
    go_enter Try.func4, Try.ntmps4
    go_wp2_with fail
    refine HBG.out.mono ?_
    rintro e w1 ⟨rfl, hb1⟩
    rw [hz] at hb1
    have hz1 : z ≤ w1.heap.size := by have := hb1.size; omega
    have hnw := new_any w1 z A1 n1 c1 key (H1.out.below hb1) z1 hz1 HK.out
    have HNW := Lib.hid hnw
    have HB1 := Lib.hid hb1
    clear hnw hb1 hz
    go_wp2_with fail
    refine HNW.out.mono ?_
    rintro e w2 ⟨g, rfl, hg, hc2, hb2⟩
    have hB2 := HB1.out.trans (hb2.mono hz1)
    have HB2 := Lib.hid hB2
    by_cases hn : n2 = 16
    · subst hn
      have hs2 := H2.out.below hB2
      have hz2 : z ≤ w2.heap.size := by have := hB2.size; have := HZ.out; omega
      have HC2 := Lib.hid hc2
      have HS2 := Lib.hid hs2
      have e1 := fun (w : World) (t : TypeId) (x y : Operand) (a b : List (BitVec 8)) => eqGuard_str (P := Try.prog) w .eql t x y a b
      have e2 : ∀ w', (binOp .eql 9 (strV bs) (strV bs)).run Try.prog w' = .ok (.bool true) w' := fun w' => by
        rw [eql_str w' _ bs bs, decide_eq_true rfl]
      have hbd : Below w2.heap.size w2 w2.drew := (Below.refl _ w2).drew
      have HBD := Lib.hid hbd
      have hEn : ∀ W, Below w2.heap.size w2 W → Calls Try.prog 10 #[.pointer (some ⟨g, 0, none⟩), .slice A2 16 c2] W fun e w' => ∃ g', e = .returned (.slice (some ⟨g', 0, none⟩) 16 16) ∧ SlV w' w'.heap.size (some ⟨g', 0, none⟩) 16 16 ((encA key bs).map W8) ∧ Below W.heap.size W w' := fun W hW => by
        refine (encrypt_any W g key (HC2.out.later hW) z A2 16 c2 bs (HS2.out.below (hW.mono hz2)) (Nat.le_trans hz2 hW.size) rfl).mono ?_
        rintro e w' ⟨g', rfl, _, hr, hb⟩
        have h := hr.sl (by rw [List.length_map, encA_length _ _ HBL.out]; decide)
        rw [List.length_map, encA_length _ _ HBL.out] at h
        exact ⟨g', rfl, h, hb⟩
      have hDe : ∀ W, Below w2.heap.size w2 W → Calls Try.prog 11 #[.pointer (some ⟨g, 0, none⟩), .slice A2 16 c2] W fun e w' => ∃ g', e = .returned (.slice (some ⟨g', 0, none⟩) 16 16) ∧ SlV w' w'.heap.size (some ⟨g', 0, none⟩) 16 16 ((decA key bs).map W8) ∧ Below W.heap.size W w' := fun W hW => by
        refine (decrypt_any W g key (HC2.out.later hW) z A2 16 c2 bs (HS2.out.below (hW.mono hz2)) (Nat.le_trans hz2 hW.size) rfl).mono ?_
        rintro e w' ⟨g', rfl, _, hr, hb⟩
        have h := hr.sl (by rw [List.length_map, decA_length _ _ HBL.out]; decide)
        rw [List.length_map, decA_length _ _ HBL.out] at h
        exact ⟨g', rfl, h, hb⟩
      have hDE : ∀ W g', Below w2.heap.size w2 W → SlV W W.heap.size (some ⟨g', 0, none⟩) 16 16 ((encA key bs).map W8) → Calls Try.prog 11 #[.pointer (some ⟨g, 0, none⟩), .slice (some ⟨g', 0, none⟩) 16 16] W fun e w' => ∃ g2, e = .returned (.slice (some ⟨g2, 0, none⟩) 16 16) ∧ SlV w' w'.heap.size (some ⟨g2, 0, none⟩) 16 16 (bs.map W8) ∧ Below W.heap.size W w' := fun W g' hW hs => by
        refine (decrypt_any W g key (HC2.out.later hW) W.heap.size _ 16 16 _ hs (Nat.le_refl _) rfl).mono ?_
        rintro e w' ⟨g2, rfl, _, hr, hb⟩
        rw [decA_encA _ _ HBL.out] at hr
        have h := hr.sl (by rw [List.length_map, HBL.out]; decide)
        rw [List.length_map, HBL.out] at h
        exact ⟨g2, rfl, h, hb⟩
      have hED : ∀ W g', Below w2.heap.size w2 W → SlV W W.heap.size (some ⟨g', 0, none⟩) 16 16 ((decA key bs).map W8) → Calls Try.prog 10 #[.pointer (some ⟨g, 0, none⟩), .slice (some ⟨g', 0, none⟩) 16 16] W fun e w' => ∃ g2, e = .returned (.slice (some ⟨g2, 0, none⟩) 16 16) ∧ SlV w' w'.heap.size (some ⟨g2, 0, none⟩) 16 16 (bs.map W8) ∧ Below W.heap.size W w' := fun W g' hW hs => by
        refine (encrypt_any W g key (HC2.out.later hW) W.heap.size _ 16 16 _ hs (Nat.le_refl _) rfl).mono ?_
        rintro e w' ⟨g2, rfl, _, hr, hb⟩
        rw [encA_decA _ _ HBL.out] at hr
        have h := hr.sl (by rw [List.length_map, HBL.out]; decide)
        rw [List.length_map, HBL.out] at h
        exact ⟨g2, rfl, h, hb⟩
      have hCB : ∀ W, Below w2.heap.size w2 W → (convert 22 9 (.slice A2 16 c2)).run Try.prog W = .ok (strV bs) W := fun W hW => conv_str (HS2.out.below (hW.mono hz2))
      have HEN := Lib.hid hEn
      have HDN := Lib.hid hDe
      have HDE := Lib.hid hDE
      have HED := Lib.hid hED
      have HCB := Lib.hid hCB
      have HZ2 := Lib.hid hz2
      clear hEn hDe hDE hED hCB hbd hs2 hc2 hB2 hb2 hz1 HNW hg
      go_wp2_with fail
      have cb2 := HCB.out _ HBD.out
      rw [shut_conv (some 25), shut_conv (some 27), shut_conv (some 36), shut_conv (some 38)]
      go_region_held3 (fun _ => True) (trivial)
        (first | (go_at_call 10; (with_reducible refine (HEN.out _ HBD.out).mono ?_); rintro e w3 ⟨g3, rfl, hs3, hb3⟩; have hb23 := HBD.out.trans (hb3.mono HBD.out.size); have cb3 := HCB.out _ hb23) | (go_at_call 11; (with_reducible refine (HDE.out _ _ hb23 hs3).mono ?_); rintro e w4 ⟨g4, rfl, hs4, hb4⟩; have hb24 := hb23.trans (hb4.mono hb23.size); have cv4 := conv_str hs4; have cb4 := HCB.out _ hb24) | (go_at_call 11; (with_reducible refine (HDN.out _ hb24).mono ?_); rintro e w5 ⟨g5, rfl, hs5, hb5⟩; have hb25 := hb24.trans (hb5.mono hb24.size); have cb5 := HCB.out _ hb25) | (go_at_call 10; (with_reducible refine (HED.out _ _ hb25 hs5).mono ?_); rintro e w6 ⟨g6, rfl, hs6, hb6⟩; have hb26 := hb25.trans (hb6.mono hb25.size); have cv6 := conv_str hs6; have cb6 := HCB.out _ hb26))
      all_goals
        have HFIN := Lib.hid (HB2.out.trans (hb26.mono HZ2.out))
        clear hb26
        go_wp2
        go_ret
        exact ⟨rfl, by rw [HZ.out]; exact HFIN.out⟩
    · have hn1 : ¬ (n2 : Int) = 16 := fun e => hn (by omega)
      have hn2 : ((n2 : Int) == 16) = false := by simp; omega
      clear hB2 hb2 hc2 hn
      go_wp2
      go_ret
      exact ⟨rfl, by rw [HZ.out]; exact HB2.out⟩
  · have HK := Lib.hid hk
    clear hk
    go_enter Try.func4, Try.ntmps4
    go_wp2_with fail
    refine HBG.out.mono ?_
    rintro e w1 ⟨rfl, hb1⟩
    have HNW := Lib.hid (new_no w1 A1 n1 c1 HK.out)
    have HB1 := Lib.hid hb1
    clear hb1 hz
    go_wp2_with fail
    refine HNW.out.mono ?_
    rintro e w' ⟨rfl, rfl⟩
    go_wp2
    go_ret
    exact ⟨rfl, HB1.out⟩
end Go.Proofs.Ytabhdkjepbkooaa
