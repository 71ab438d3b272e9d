/- AesField, walked. -/
import Derived.Test.YtabhdkjepbkooaaBn
import Derived.Test.YtabhdkjepbkooaaBm
import Derived.Test.YtabhdkjepbkooaaBo
set_option linter.unusedVariables false
set_option linter.unusedSimpArgs false
namespace Go.Proofs.Ytabhdkjepbkooaa
open Go.RowKit
attribute [local go_sem] shutOp

theorem slV_head {w : World} {B n c : Nat} {A : Option Addr} {vs : List Value} (h : SlV w B A n c vs) : ∃ b off, 0 < n → A = some ⟨b, off, none⟩ := by
  by_cases hn : 0 < n
  · obtain ⟨b, off, v, e, _⟩ := h.at_ hn
    exact ⟨b, off, fun _ => e⟩
  · exact ⟨0, 0, fun h => absurd h hn⟩
theorem row_sl16 {w : World} {g : Nat} {bs : List (BitVec 8)} (h : RowV 5 w g (bs.map W8)) (hl : bs.length = 16) : SlV w w.heap.size (some ⟨g, 0, none⟩) 16 16 (bs.map W8) := by
  have h1 := h.sl (by rw [List.length_map, hl]; decide)
  rw [List.length_map, hl] at h1
  exact h1
set_option maxRecDepth 100000 in
set_option maxHeartbeats 4000000 in
theorem afld_walk (w : World) (A1 : Option Addr) (n1 c1 : Nat) (x : List (BitVec 8)) (h1 : SlV w w.heap.size A1 n1 c1 (x.map W8)) (z1 : A1 = none → c1 = 0) (A2 : Option Addr) (n2 c2 : Nat) (y : List (BitVec 8)) (h2 : SlV w w.heap.size A2 n2 c2 (y.map W8)) (z2 : A2 = none → c2 = 0) (A3 : Option Addr) (n3 c3 : Nat) (bs : List (BitVec 8)) (h3 : SlV w w.heap.size A3 n3 c3 (bs.map W8)) (z3 : A3 = none → c3 = 0) :
    Calls Try.prog 5 #[.slice A1 n1 c1, .slice A2 n2 c2, .slice A3 n3 c3] w fun e w' => e = .returned (.bool true) ∧ Below w.heap.size w w' := by
  obtain ⟨z, hz⟩ : ∃ z, w.heap.size = z := ⟨_, rfl⟩
  rw [hz] at h1 h2 h3
  have HBG := Lib.hid (begun5_any w)
  have HZ := Lib.hid hz
  have H1 := Lib.hid h1
  have H2 := Lib.hid h2
  have H3 := Lib.hid h3
  clear h1 h2 h3
  go_enter Try.func5, Try.ntmps5
  go_wp2_with fail
  refine HBG.out.mono ?_
  rintro e w1 ⟨rfl, hb1⟩
  rw [hz] at hb1
  have hz1 : z ≤ w1.heap.size := by have := hb1.size; omega
  have hs1 := H1.out.below hb1
  have hs2 := H2.out.below hb1
  have hs3 := H3.out.below hb1
  have HS1 := Lib.hid (short_any w1 z A1 n1 c1 x hs1 20 (by decide))
  have HS2 := Lib.hid (short_any w1 z A2 n2 c2 y hs2 20 (by decide))
  have HS3 := Lib.hid (short_any w1 z A3 n3 c3 bs hs3 100 (by decide))
  have ht1 := hs1.take (k := min n1 20) (Nat.min_le_left _ _)
  have ht2 := hs2.take (k := min n2 20) (Nat.min_le_left _ _)
  have ht3 := hs3.take (k := min n3 100) (Nat.min_le_left _ _)
  rw [← List.map_take] at ht1 ht2 ht3
  obtain ⟨m1, hm1⟩ : ∃ m, min n1 20 = m := ⟨_, rfl⟩
  obtain ⟨m2, hm2⟩ : ∃ m, min n2 20 = m := ⟨_, rfl⟩
  obtain ⟨m3, hm3⟩ : ∃ m, min n3 100 = m := ⟨_, rfl⟩
  have hm3b : m3 ≤ 100 := by omega
  obtain ⟨X, hX⟩ : ∃ l, x.take m1 = l := ⟨_, rfl⟩
  obtain ⟨Y, hY⟩ : ∃ l, y.take m2 = l := ⟨_, rfl⟩
  obtain ⟨bb, hbb⟩ : ∃ l, bs.take m3 = l := ⟨_, rfl⟩
  rw [hm1] at ht1 HS1
  rw [hm2] at ht2 HS2
  rw [hm3] at ht3 HS3
  rw [hX] at ht1
  rw [hY] at ht2
  rw [hbb] at ht3
  have T1 := Lib.hid ht1
  have T2 := Lib.hid ht2
  have T3 := Lib.hid ht3
  have HB1 := Lib.hid hb1
  clear hs1 hs2 hs3 ht1 ht2 ht3 hm1 hm2 hm3 hX hY hbb hb1 hz
  go_wp2_with fail
  refine HS1.out.mono ?_
  rintro e w' ⟨rfl, rfl⟩
  go_wp2_with fail
  refine HS2.out.mono ?_
  rintro e w' ⟨rfl, rfl⟩
  go_wp2_with fail
  refine HS3.out.mono ?_
  rintro e w' ⟨rfl, rfl⟩
  by_cases hx : m1 = 16
  · subst hx
    obtain ⟨b1, o1, v1, rfl, _, _, _⟩ := T1.out.at_ (k := 0) (by decide)
    have hXl : X.length = 16 := by have := T1.out.len; simpa using this.symm
    obtain ⟨b3, o3, hA3⟩ := slV_head T3.out
    have HA3 := Lib.hid hA3
    have HXL := Lib.hid hXl
    clear hA3 hXl
    obtain ⟨H, hH⟩ : ∃ H, byV (ghA (elV X) bb) = H := ⟨_, rfl⟩
    have hHl : H.length = 16 := by rw [← hH]; exact byV_length _
    have hgh : ∀ W, Below z w1 W → z ≤ W.heap.size → Calls Try.prog 16 #[.slice (some ⟨b1, o1, none⟩) 16 c1, .slice A3 m3 c3] W fun e w' => ∃ g, e = .returned (.slice (some ⟨g, 0, none⟩) 16 16) ∧ SlV w' w'.heap.size (some ⟨g, 0, none⟩) 16 16 (H.map W8) ∧ Below W.heap.size W w' := fun W hW hzW => by
      refine (ghash_any W z b1 o1 c1 X (T1.out.below hW) A3 b3 o3 m3 c3 HA3.out bb (T3.out.below hW) (by omega) hzW).mono ?_
      rintro e w' ⟨g, rfl, _, hr, hb⟩
      rw [hH] at hr
      exact ⟨g, rfl, row_sl16 hr hHl, hb⟩
    have hrg : ∀ W, Below z w1 W → z ≤ W.heap.size → Calls Try.prog 17 #[.slice (some ⟨b1, o1, none⟩) 16 c1, .slice A3 m3 c3] W fun e w' => ∃ g, e = .returned (.slice (some ⟨g, 0, none⟩) 16 16) ∧ SlV w' w'.heap.size (some ⟨g, 0, none⟩) 16 16 (H.map W8) ∧ Below W.heap.size W w' := fun W hW hzW => by
      refine (rghash_any W z b1 o1 c1 X (T1.out.below hW) A3 m3 c3 bb (T3.out.below hW) z3 (by omega) hzW).mono ?_
      rintro e w' ⟨g, rfl, _, hr, hb⟩
      rw [hH] at hr
      exact ⟨g, rfl, row_sl16 hr hHl, hb⟩
    have HGH := Lib.hid hgh
    have HRG := Lib.hid hrg
    have HHL := Lib.hid hHl
    have e1 := fun (w : World) (t : TypeId) (x y : Operand) (a b : List (BitVec 8)) => eqGuard_str (P := Try.prog) w .neq t x y a b
    have e1' := fun (w : World) (t : TypeId) (x y : Operand) (a b : List (BitVec 8)) => eqGuard_str (P := Try.prog) w .eql t x y a b
    have e2 : ∀ w', (binOp .neq 9 (strV H) (strV H)).run Try.prog w' = .ok (.bool false) w' := fun w' => by
      rw [neq_str w' _ H H, decide_eq_true rfl]; rfl
    clear hgh hrg hHl hH
    by_cases hy : m2 = 16
    · subst hy
      obtain ⟨b2, o2, v2, rfl, _, _, _⟩ := T2.out.at_ (k := 0) (by decide)
      have hYl : Y.length = 16 := by have := T2.out.len; simpa using this.symm
      obtain ⟨P, hP⟩ : ∃ P, byV (timesV (elV X) (elV Y)) = P := ⟨_, rfl⟩
      have hPl : P.length = 16 := by rw [← hP]; exact byV_length _
      have htm : ∀ W, Below z w1 W → z ≤ W.heap.size → Calls Try.prog 15 #[.slice (some ⟨b1, o1, none⟩) 16 c1, .slice (some ⟨b2, o2, none⟩) 16 c2] W fun e w' => ∃ g, e = .returned (.slice (some ⟨g, 0, none⟩) 16 16) ∧ SlV w' w'.heap.size (some ⟨g, 0, none⟩) 16 16 (P.map W8) ∧ Below W.heap.size W w' := fun W hW hzW => by
        refine (times_any W z b1 o1 c1 b2 o2 c2 X Y (T1.out.below hW) (T2.out.below hW) hzW).mono ?_
        rintro e w' ⟨g, rfl, _, hr, hb⟩
        rw [hP] at hr
        exact ⟨g, rfl, row_sl16 hr hPl, hb⟩
      have htc : ∀ W, Below z w1 W → z ≤ W.heap.size → Calls Try.prog 15 #[.slice (some ⟨b2, o2, none⟩) 16 c2, .slice (some ⟨b1, o1, none⟩) 16 c1] W fun e w' => ∃ g, e = .returned (.slice (some ⟨g, 0, none⟩) 16 16) ∧ SlV w' w'.heap.size (some ⟨g, 0, none⟩) 16 16 (P.map W8) ∧ Below W.heap.size W w' := fun W hW hzW => by
        refine (times_any W z b2 o2 c2 b1 o1 c1 Y X (T2.out.below hW) (T1.out.below hW) hzW).mono ?_
        rintro e w' ⟨g, rfl, _, hr, hb⟩
        rw [timesV_comm, hP] at hr
        exact ⟨g, rfl, row_sl16 hr hPl, hb⟩
      have hrt : ∀ W, Below z w1 W → z ≤ W.heap.size → Calls Try.prog 18 #[.slice (some ⟨b1, o1, none⟩) 16 c1, .slice (some ⟨b2, o2, none⟩) 16 c2] W fun e w' => ∃ g, e = .returned (.slice (some ⟨g, 0, none⟩) 16 16) ∧ SlV w' w'.heap.size (some ⟨g, 0, none⟩) 16 16 (P.map W8) ∧ Below W.heap.size W w' := fun W hW hzW => by
        refine (rtimes_any W z b1 o1 c1 b2 o2 c2 X Y (T1.out.below hW) (T2.out.below hW) hzW).mono ?_
        rintro e w' ⟨g, rfl, _, hr, hb⟩
        rw [hP] at hr
        exact ⟨g, rfl, row_sl16 hr hPl, hb⟩
      have e3 : ∀ w', (binOp .eql 9 (strV P) (strV P)).run Try.prog w' = .ok (.bool true) w' := fun w' => by
        rw [eql_str w' _ P P, decide_eq_true rfl]
      have HTM := Lib.hid htm
      have HTC := Lib.hid htc
      have HRT := Lib.hid hrt
      clear htm htc hrt hP hPl hYl
      go_wp2_with fail
      refine (HTM.out w1 (Below.refl _ _) hz1).mono ?_
      rintro e w2 ⟨g2, rfl, hs2, hb2⟩
      have hB2 := (Below.refl z w1).trans (hb2.mono hz1)
      have hz2 : z ≤ w2.heap.size := by have := hb2.size; omega
      have HB2 := Lib.hid hB2
      have HP2 := Lib.hid hs2
      clear hs2 hb2 hB2
      go_wp2_with fail
      refine (HGH.out w2 HB2.out hz2).mono ?_
      rintro e w3 ⟨g3, rfl, hs3, hb3⟩
      have hB3 := HB2.out.trans (hb3.mono hz2)
      have hz3 : z ≤ w3.heap.size := by have := hb3.size; omega
      have HB3 := Lib.hid hB3
      have HP3 := Lib.hid ((HP2.out.below hb3).more hb3.size)
      have HH3 := Lib.hid hs3
      have hbd := (Below.refl w3.heap.size w3).drew
      have HBD := Lib.hid hbd
      have HBDz := Lib.hid (hB3.trans (hbd.mono hz3))
      have hzd : z ≤ w3.drew.heap.size := hz3
      clear hs3 hb3 hB3 hbd
      go_wp2_with fail
      rw [shut_conv (some 38), shut_conv (some 42)]
      have cvh := conv_str (HH3.out.below HBD.out)
      go_region_held3 (fun _ => True) (trivial)
        (first | (go_at_call 17; (with_reducible refine (HRG.out _ HBDz.out hzd).mono ?_); rintro e w4 ⟨g4, rfl, hs4, hb4⟩; have hb34 := HBD.out.trans (hb4.mono HBD.out.size); have cv4 := conv_str hs4; have cvh4 := conv_str (HH3.out.below hb34)))
      all_goals
        have hz4 : z ≤ w4.heap.size := by have := hb34.size; omega
        have hbd4 := (Below.refl w4.heap.size w4).drew
        have hb3d := hb34.trans (hbd4.mono hb34.size)
        have HB3D := Lib.hid hb3d
        have HBD4 := Lib.hid hbd4
        have HB4z := Lib.hid (HB3.out.trans (hb3d.mono hz3))
        have hzd4 : z ≤ w4.drew.heap.size := hz4
        have HS4 := Lib.hid hs4
        clear hbd4 hb3d hb34 hb4 cvh cvh4 cv4 hs4
        go_wp2_with fail
        rw [shut_conv (some 56), shut_conv (some 60), shut_conv (some 65), shut_conv (some 69)]
        have cvp := conv_str (HP3.out.below HB3D.out)
        go_region_held3 (fun _ => True) (trivial)
          (first | (go_at_call 18; (with_reducible refine (HRT.out _ HB4z.out hzd4).mono ?_); rintro e w5 ⟨g5, rfl, hs5, hb5⟩; have hb35 := HB3D.out.trans (hb5.mono HB3D.out.size); have hzb5 := HB4z.out.trans (hb5.mono hzd4); have hz5 : z ≤ w5.heap.size := Nat.le_trans hzd4 hb5.size; have cv5 := conv_str hs5; have cvp5 := conv_str (HP3.out.below hb35)) | (go_at_call 15; (with_reducible refine (HTC.out _ hzb5 hz5).mono ?_); rintro e w6 ⟨g6, rfl, hs6, hb6⟩; have hb36 := hb35.trans (hb6.mono hb35.size); have cv6 := conv_str hs6; have cvp6 := conv_str (HP3.out.below hb36)))
        all_goals
          have HFIN := Lib.hid (HB1.out.trans ((HB3.out.trans (hb36.mono hz3))))
          clear hb36
          go_wp2
          go_ret
          exact ⟨rfl, by rw [HZ.out]; exact HFIN.out⟩
    · have hn1 : ¬ (m2 : Int) = 16 := fun e => hy (by omega)
      have hn2 : ((m2 : Int) == 16) = false := by simp; omega
      have HTN := Lib.hid (times_no w1 (some ⟨b1, o1, none⟩) 16 c1 A2 m2 c2 (fun h => hy h.2))
      clear hy
      go_wp2_with fail
      refine HTN.out.mono ?_
      rintro e w' ⟨rfl, rfl⟩
      go_wp2_with fail
      refine (HGH.out w1 (Below.refl _ _) hz1).mono ?_
      rintro e w3 ⟨g3, rfl, hs3, hb3⟩
      have hB3 := (Below.refl z w1).trans (hb3.mono hz1)
      have hz3 : z ≤ w3.heap.size := by have := hb3.size; omega
      have HB3 := Lib.hid hB3
      have HH3 := Lib.hid hs3
      have hbd := (Below.refl w3.heap.size w3).drew
      have HBD := Lib.hid hbd
      have HBDz := Lib.hid (hB3.trans (hbd.mono hz3))
      have hzd : z ≤ w3.drew.heap.size := hz3
      clear hs3 hb3 hB3 hbd
      go_wp2_with fail
      rw [shut_conv (some 38), shut_conv (some 42)]
      have cvh := conv_str (HH3.out.below HBD.out)
      go_region_held3 (fun _ => True) (trivial)
        (first | (go_at_call 17; (with_reducible refine (HRG.out _ HBDz.out hzd).mono ?_); rintro e w4 ⟨g4, rfl, hs4, hb4⟩; have hb34 := HBD.out.trans (hb4.mono HBD.out.size); have cv4 := conv_str hs4; have cvh4 := conv_str (HH3.out.below hb34)))
      all_goals
        have HFIN := Lib.hid (HB1.out.trans (HB3.out.trans (hb34.mono hz3)))
        clear hb34 hb4 cvh cvh4 cv4 hs4
        go_wp2
        go_ret
        exact ⟨rfl, by rw [HZ.out]; exact HFIN.out⟩
  · have hn1 : ¬ (m1 : Int) = 16 := fun e => hx (by omega)
    have hn2 : ((m1 : Int) == 16) = false := by simp; omega
    have HTN := Lib.hid (times_no w1 A1 m1 c1 A2 m2 c2 (fun h => hx h.1))
    have HGN := Lib.hid (ghash_no w1 A1 m1 c1 A3 m3 c3 hx)
    clear hx
    go_wp2_with fail
    refine HTN.out.mono ?_
    rintro e w' ⟨rfl, rfl⟩
    go_wp2_with fail
    refine HGN.out.mono ?_
    rintro e w' ⟨rfl, rfl⟩
    go_wp2
    go_ret
    exact ⟨rfl, by rw [HZ.out]; exact HB1.out⟩
end Go.Proofs.Ytabhdkjepbkooaa
