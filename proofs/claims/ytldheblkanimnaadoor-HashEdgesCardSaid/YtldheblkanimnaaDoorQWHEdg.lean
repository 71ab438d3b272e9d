/- HashEdges, walked. -/
import Derived.Test.YtldheblkanimnaaDoorPileB9
set_option linter.unusedVariables false
set_option linter.unusedSimpArgs false
namespace Go.Proofs.YtldheblkanimnaaDoor
open Go.RowKit Go.Shelf
attribute [local go_sem] shutOp

theorem blockV_no {k : Int} (h : ¬ KindOk k) : blockV k = 0 := by
  have h' : ¬ (1 ≤ k ∧ k ≤ 5) := h
  unfold blockV
  rw [if_neg (by omega), if_neg (by omega), if_neg (by omega), if_neg (by omega), if_neg (by omega)]
theorem W8_mod (z : Int) : W8 (BitVec.ofInt 8 z) = .int .u8 (z % 256) := by
  show Value.int .u8 ((BitVec.ofInt 8 z).toNat : Int) = _
  rw [BitVec.toNat_ofInt]
  congr 1
  omega
theorem SlV.lift_ {w V : World} {b0 n c : Nat} {A : Option Addr} {p : List Value} (h : SlV w b0 A n c p) (hb : Below b0 w V) (hz : b0 ≤ V.heap.size) : SlV V V.heap.size A n c p := by
  have h0 := h.below hb
  exact ⟨h0.1, h0.2.1, h0.2.2.1, fun hne => by obtain ⟨b', o', e, hb', hc'⟩ := h0.2.2.2 hne; exact ⟨b', o', e, by omega, hc'⟩⟩
set_option maxRecDepth 100000 in
set_option maxHeartbeats 8000000 in
theorem hedge_walk (w : World) (hGS : StartsG w) (hGR : RootsG w) (k x j : Int) (hx1 : 0 ≤ x) (hx2 : x ≤ 255) (hj1 : -9223372036854775808 ≤ j) (hj2 : j ≤ 9223372036854775807) :
    Calls Tryd.prog 8 #[.int .i64 k, .int .u8 x, .int .i64 j] w fun e w' => e = .returned (.bool true) ∧ Below w.heap.size w w' := by
  obtain ⟨b0, hb0⟩ : ∃ b, w.heap.size = b := ⟨_, rfl⟩
  have hbg := begun3_any w hGS hGR
  rw [hb0] at hbg ⊢
  have hb1 : 1 < b0 := by have := hGR.1; omega
  have HBG := Lib.hid hbg
  have HG := Lib.hid (⟨hGS, hGR⟩ : StartsG w ∧ RootsG w)
  have HB0 := Lib.hid hb0
  clear hbg hGS hGR hb0
  by_cases hk : KindOk k
  · obtain ⟨bl, hbl⟩ : ∃ b, blN k = b := ⟨_, rfl⟩
    have hb2 : bl = 64 ∨ bl = 128 := by rw [← hbl]; exact blN_two k
    have kb1 : (64 : Int) ≤ bl := by omega
    have kb2 : (bl : Int) ≤ 128 := by omega
    have hblk := fun W => rblock_any W k
    simp only [blN_eq hk, hbl] at hblk
    have HBLK := Lib.hid hblk
    have HK := Lib.hid hk
    obtain ⟨kk, hkk⟩ : ∃ kk : Nat, (if j < 0 then -(j + 1) else j) = (kk : Int) := ⟨(if j < 0 then -(j + 1) else j).toNat, by rw [Int.toNat_of_nonneg]; split <;> omega⟩
    have hkb : (kk : Int) ≤ 9223372036854775807 := by rw [← hkk]; split <;> omega
    obtain ⟨lo, hlo⟩ : ∃ lo, bl - 20 = lo := ⟨_, rfl⟩
    have kl0 : (bl : Int) - 20 = lo := by omega
    obtain ⟨up, hup⟩ : ∃ up, bl + 2 = up := ⟨_, rfl⟩
    have ku0 : (bl : Int) + 2 = up := by omega
    have kup : (up : Int) ≤ 130 := by omega
    have hlu : lo ≤ up + 1 := by omega
    have kbz : ((bl : Int) == 0) = false := by simp; omega
    clear hblk hk hbl hlo hup hb2
    go_enter Tryd.func8, Tryd.ntmps8
    go_wp2_with fail
    refine HBG.out.mono ?_
    rintro e w1 ⟨rfl, hB1⟩
    have HB1 := Lib.hid hB1
    clear hB1
    go_wp2_with fail
    refine (HBLK.out _).mono ?_
    rintro e w' ⟨rfl, rfl⟩
    by_cases hj : j < 0
    · rw [if_pos hj] at hkk
      have k1 : j + 1 = -(kk : Int) := by omega
      clear hkk
      go_wp2
      go_loopw [9] (fun lv W => ∃ l : Nat, lv = .int .i64 (l : Int) ∧ lo ≤ l ∧ l ≤ up + 1 ∧ Hid (Below b0 w W)) (fun lv _ => up + 1 - (intOf lv).toNat)
      case atStart => exact ⟨lo, rfl, Nat.le_refl _, hlu, Lib.hid HB1.out⟩
      case round =>
        obtain ⟨l, rfl, hl1, hl2, HBO⟩ := hrel
        obtain ⟨wo, rfl⟩ : ∃ V, V = wr := ⟨_, rfl⟩
        by_cases hlu2 : l ≤ up
        · have kl : (l : Int) ≤ up := by omega
          have kl130 : (l : Int) ≤ 130 := by omega
          have kl00 : (0 : Int) ≤ l := by omega
          obtain ⟨gb, hgb⟩ : ∃ g, wo.heap.size = g := ⟨_, rfl⟩
          have hgb0 : b0 ≤ gb := by have := HBO.out.size; have := HB0.out; omega
          have HGB := Lib.hid hgb
          clear hgb
          go_wp2_with (at_make; refine wlv_make Tryd.elem8 rfl _ rfl _ l rfl rfl (by omega) ?_; intro w3 r3 b3 z3; rw [HGB.out] at r3 b3 z3; have HR3 := Lib.hid r3; have HB3 := Lib.hid b3; clear r3 b3 z3; rw [HGB.out])
          go_loopw [11] (fun iv W => ∃ (i : Nat) (cs : List (BitVec 8)), i ≤ l ∧ cs.length = l ∧ iv = .int .i64 (i : Int) ∧ Hid (RowV 5 W gb (cs.map W8)) ∧ Hid (Below gb w3 W)) (fun iv _ => l - (intOf iv).toNat)
          case atStart => exact ⟨0, List.replicate l 0, Nat.zero_le _, by simp, rfl, Lib.hid (by rw [List.map_replicate]; exact HR3.out), Lib.hid (Below.refl _ _)⟩
          case round =>
            obtain ⟨i, cs, hi, hcs, rfl, HR, HBI⟩ := hrel
            by_cases hil : i < l
            · have kil : (i : Int) < l := by omega
              have ki0 : (0 : Int) ≤ i := by omega
              obtain ⟨y, hy⟩ : ∃ y, cs[i]? = some y := ⟨cs[i]'(by omega), List.getElem?_eq_getElem _⟩
              have ce : wr.cell? ⟨gb, i, none⟩ = some (W8 y) := HR.out.at_ (by rw [List.getElem?_map, hy]; rfl)
              have hfz := HR.out.frozen i
              have hnr := HR.out.set i (W8 (BitVec.ofInt 8 (x + i)))
              rw [← List.map_set, W8_mod] at hnr
              have hbn := below_setV HBI.out (Nat.le_refl gb) i (.int .u8 ((x + i) % 256))
              have hm8 : (x + (i : Int) % 256) % 256 = (x + i) % 256 := by omega
              have HNR := Lib.hid hnr
              have HBN := Lib.hid hbn
              have HCS := Lib.hid hcs
              have hi8 : (i : Int) % 256 = i := by omega
              clear hy hnr hbn hcs
              go_wp2
              go_round
              case rel => exact ⟨i + 1, cs.set i (BitVec.ofInt 8 (x + i)), by omega, by rw [List.length_set]; exact HCS.out, by go_num, Lib.hid HNR.out, Lib.hid HBN.out⟩
              case measure => simp [intOf]; omega
            · obtain rfl : i = l := by omega
              obtain ⟨wp, rfl⟩ : ∃ V, V = wr := ⟨_, rfl⟩
              have hbp : Below b0 w wp := HBO.out.trans ((HB3.out.trans HBI.out).mono hgb0)
              have hGp : StartsG wp ∧ RootsG wp := by
                have h := hbp
                rw [← HB0.out] at h
                exact ⟨HG.out.1.later h, HG.out.2.later h⟩
              have hgl := HR.out.lt
              obtain ⟨g, hg⟩ : ∃ g, wp.heap.size = g := ⟨_, rfl⟩
              have hnw := new_is wp k HK.out hGp.1
              rw [hg] at hnw
              have HNW := Lib.hid hnw
              have HG5 := Lib.hid hGp.2
              have HBP := Lib.hid hbp
              have HCS := Lib.hid hcs
              have HGG := Lib.hid hg
              have hgb2 : gb < g := by omega
              have hg1 : 1 < g := by omega
              obtain ⟨l1, hl1'⟩ : ∃ m, i + 1 = m := ⟨_, rfl⟩
              have kl1 : (i : Int) + 1 = l1 := by omega
              have kl1z : ¬ (l1 : Int) = 0 := by omega
              have kl1b : (l1 : Int) ≤ 131 := by omega
              obtain ⟨r, hr⟩ : ∃ r, kk % l1 = r := ⟨_, rfl⟩
              have hrI : (kk : Int) % (l1 : Int) = (r : Int) := by rw [← hr]; simp
              have hrT : (kk : Int).tmod (l1 : Int) = (r : Int) := by rw [Int.tmod_eq_emod_of_nonneg (by omega)]; exact hrI
              have hrl : r ≤ i := by have := Nat.mod_lt kk (show 0 < l1 by omega); omega
              have krl : (r : Int) ≤ i := by omega
              have kr0 : (0 : Int) ≤ r := by omega
              clear hnw hGp hbp hcs hg hr hgl
              go_wp2_with fail
              refine HNW.out.mono ?_
              rintro e w5 ⟨rfl, hh5, hb5⟩
              have hb5' : Below wp.heap.size wp w5 := by rw [HGG.out]; exact hb5
              have hr5 := HR.out.later hb5'
              have hs5 := hr5.sl (by rw [List.length_map, HCS.out]; omega)
              rw [List.length_map, HCS.out] at hs5
              have ht5 := hs5.take (k := r) hrl
              rw [← List.map_take] at ht5
              have hw5 := write_any w5 g k HK.out [] (cs.take r) hh5 _ _ r i ht5 (by intro h; cases h) (Nat.le_refl _) (HG5.out.later hb5') hg1 (by simp; have := HCS.out; omega)
              have HW5 := Lib.hid hw5
              have HR5 := Lib.hid hr5
              have HRT := Lib.hid (HG5.out.later hb5')
              have HB5 := Lib.hid (HBP.out.trans (hb5.mono (by omega : b0 ≤ g)))
              have hw5z : g ≤ w5.heap.size := by have := hb5.size; have := HGG.out; omega
              clear hw5 hr5 hb5 hb5' hs5 ht5 hh5 HNW
              go_wp2_with fail
              refine HW5.out.mono ?_
              rintro e w6 ⟨rfl, hh6, ho6⟩
              rw [List.nil_append] at hh6
              have hr6 := HR5.out.only ho6 (by omega)
              have hs6 := hr6.sl (by rw [List.length_map, HCS.out]; omega)
              rw [List.length_map, HCS.out] at hs6
              have hb06 : Below b0 w w6 := HB5.out.trans (ho6.below (by omega) (by omega))
              have hrt6 := HRT.out.only ho6 hg1
              have HR6 := Lib.hid hr6
              have HB06 := Lib.hid hb06
              have HRT6 := Lib.hid hrt6
              have HH6 := Lib.hid hh6
              have hw6z := ho6.size
              have hcat : cs.take r ++ cs.drop r = cs := List.take_append_drop _ _
              have HCAT := Lib.hid hcat
              have hlen2 : (cs.take r).length + (cs.drop r).length ≤ 17592186044416 := by rw [← List.length_append, hcat, HCS.out]; omega
              obtain ⟨D, hD⟩ : ∃ D, sumL k cs = D := ⟨_, rfl⟩
              have hDl : D.length = szN k := by rw [← hD]; exact sumL_length _ _
              have HD := Lib.hid hD
              have HDL := Lib.hid hDl
              clear hh6 ho6 hr6 hb06 hrt6 hcat hD hDl
              by_cases hri : r = i
              · have kri : (r : Int) = i := by omega
                have hri' := hri.symm
                subst hri'
                have hw6 := write_any w6 g k HK.out (cs.take i) (cs.drop i) HH6.out w6.heap.size (some ⟨gb, 0, none⟩) 0 0 (by rw [List.drop_eq_nil_of_le (by have := HCS.out; omega)]; exact SlV.nil _ _ _ (by decide)) (by intro h; cases h) (Nat.le_refl _) HRT6.out hg1 hlen2
                rw [HCAT.out] at hw6
                have HW6 := Lib.hid hw6
                clear hw6 hs6
                go_wp2_with fail
                refine HW6.out.mono ?_
                rintro e w7 ⟨rfl, hh7, ho7⟩
                have hb07 : Below b0 w w7 := HB06.out.trans (ho7.below (by omega) (by omega))
                have hrt7 := HRT6.out.only ho7 hg1
                have hr7 := HR6.out.only ho7 (by omega)
                have hsum : ∀ W, Below w7.heap.size w7 W → Calls Tryd.prog 19 #[.pointer (some ⟨g, 0, none⟩)] W fun e w' => ∃ A' c', e = .returned (.slice A' D.length c') ∧ SlV w' w'.heap.size A' D.length c' (D.map W8) ∧ Below W.heap.size W w' := fun W hW => by
                  refine (sum_any W g k HK.out cs (hh7.later hW) (hrt7.later hW) (by rw [HCS.out]; omega)).mono ?_
                  rintro e w' ⟨b, rfl, hb, hrr, hbb⟩
                  rw [HD.out] at hrr
                  have h := hrr.sl (by rw [List.length_map, HDL.out]; have := (szN_le HK.out).2.2; omega)
                  rw [List.length_map] at h
                  rw [← HDL.out]
                  exact ⟨_, _, rfl, h, hbb⟩
                have hro : ∀ W, Below w7.heap.size w7 W → Calls Tryd.prog 13 #[.int .i64 k, .slice (some ⟨gb, 0, none⟩) i i] W fun e w' => ∃ A' c', e = .returned (.slice A' D.length c') ∧ SlV w' w'.heap.size A' D.length c' (D.map W8) ∧ Below W.heap.size W w' := fun W hW => by
                  have hsl := (hr7.later hW).sl (by rw [List.length_map, HCS.out]; omega)
                  rw [List.length_map, HCS.out] at hsl
                  have h := rof_any W k HK.out _ _ i i cs hsl (by intro h; cases h) (Nat.le_refl _) (by omega)
                  rw [HD.out] at h
                  refine h.mono ?_
                  rintro e w' ⟨v, rfl, ⟨A', c', rfl, h1, _, _⟩, h2⟩
                  exact ⟨A', c', rfl, h1, h2⟩
                have HSUM := Lib.hid hsum
                have HRO := Lib.hid hro
                have HB07 := Lib.hid hb07
                have hw7z := ho7.size
                have hbd : Below w7.heap.size w7 w7.drew := (Below.refl _ w7).drew
                have HBD := Lib.hid hbd
                have e1 := fun (w : World) (t : TypeId) (x y : Operand) (a b : List (BitVec 8)) => eqGuard_str (P := Tryd.prog) w .neq t x y a b
                have e2 : ∀ w', (binOp .neq 9 (strV D) (strV D)).run Tryd.prog w' = .ok (.bool false) w' := fun w' => by
                  rw [neq_str w' _ D D, decide_eq_true rfl]; rfl
                clear hsum hro hh7 ho7 hrt7 hr7 hb07 hbd
                go_wp2_with fail
                rw [shut_conv (some 68), shut_conv (some 72)]
                go_region_held3 (fun _ => True) (trivial)
                  (first | (go_at_call 19; (with_reducible refine (HSUM.out _ HBD.out).mono ?_); rintro e w8 ⟨A8, c8, rfl, hs8, hb8⟩; have hb78 := HBD.out.trans (hb8.mono HBD.out.size); have cv8 := FreshV.conv hs8 (Below.refl _ _)) | (go_at_call 13; (with_reducible refine (HRO.out _ hb78).mono ?_); rintro e w9 ⟨A9, c9, rfl, hs9, hb9⟩; have hb79 := hb78.trans (hb9.mono hb78.size); have cv9 := FreshV.conv hs9 (Below.refl _ _); have cv8' := FreshV.conv hs8 hb9))
                all_goals
                  have HFIN := Lib.hid (HB07.out.trans (hb79.mono (by omega)))
                  clear hb79 hb78
                  go_wp2
                  go_roundw
                  case rel => exact ⟨l1, rfl, by omega, by omega, Lib.hid HFIN.out⟩
                  case measure => simp [intOf]; omega
              · have kri : ¬ (i : Int) = r := by omega
                have kri2 : ¬ i = r := by omega
                have hw6 := write_any w6 g k HK.out (cs.take r) (cs.drop r) HH6.out w6.heap.size (some ⟨gb, r, none⟩) (i - r) (i - r) (by have h := hs6.drop (k := r) (by omega); rw [← List.map_drop, Nat.zero_add] at h; exact h) (by intro h; cases h) (Nat.le_refl _) HRT6.out hg1 hlen2
                rw [HCAT.out] at hw6
                have HW6 := Lib.hid hw6
                clear hw6 hs6
                go_wp2_with fail
                refine HW6.out.mono ?_
                rintro e w7 ⟨rfl, hh7, ho7⟩
                have hb07 : Below b0 w w7 := HB06.out.trans (ho7.below (by omega) (by omega))
                have hrt7 := HRT6.out.only ho7 hg1
                have hr7 := HR6.out.only ho7 (by omega)
                have hsum : ∀ W, Below w7.heap.size w7 W → Calls Tryd.prog 19 #[.pointer (some ⟨g, 0, none⟩)] W fun e w' => ∃ A' c', e = .returned (.slice A' D.length c') ∧ SlV w' w'.heap.size A' D.length c' (D.map W8) ∧ Below W.heap.size W w' := fun W hW => by
                  refine (sum_any W g k HK.out cs (hh7.later hW) (hrt7.later hW) (by rw [HCS.out]; omega)).mono ?_
                  rintro e w' ⟨b, rfl, hb, hrr, hbb⟩
                  rw [HD.out] at hrr
                  have h := hrr.sl (by rw [List.length_map, HDL.out]; have := (szN_le HK.out).2.2; omega)
                  rw [List.length_map] at h
                  rw [← HDL.out]
                  exact ⟨_, _, rfl, h, hbb⟩
                have hro : ∀ W, Below w7.heap.size w7 W → Calls Tryd.prog 13 #[.int .i64 k, .slice (some ⟨gb, 0, none⟩) i i] W fun e w' => ∃ A' c', e = .returned (.slice A' D.length c') ∧ SlV w' w'.heap.size A' D.length c' (D.map W8) ∧ Below W.heap.size W w' := fun W hW => by
                  have hsl := (hr7.later hW).sl (by rw [List.length_map, HCS.out]; omega)
                  rw [List.length_map, HCS.out] at hsl
                  have h := rof_any W k HK.out _ _ i i cs hsl (by intro h; cases h) (Nat.le_refl _) (by omega)
                  rw [HD.out] at h
                  refine h.mono ?_
                  rintro e w' ⟨v, rfl, ⟨A', c', rfl, h1, _, _⟩, h2⟩
                  exact ⟨A', c', rfl, h1, h2⟩
                have HSUM := Lib.hid hsum
                have HRO := Lib.hid hro
                have HB07 := Lib.hid hb07
                have hw7z := ho7.size
                have hbd : Below w7.heap.size w7 w7.drew := (Below.refl _ w7).drew
                have HBD := Lib.hid hbd
                have e1 := fun (w : World) (t : TypeId) (x y : Operand) (a b : List (BitVec 8)) => eqGuard_str (P := Tryd.prog) w .neq t x y a b
                have e2 : ∀ w', (binOp .neq 9 (strV D) (strV D)).run Tryd.prog w' = .ok (.bool false) w' := fun w' => by
                  rw [neq_str w' _ D D, decide_eq_true rfl]; rfl
                clear hsum hro hh7 ho7 hrt7 hr7 hb07 hbd
                go_wp2_with fail
                rw [shut_conv (some 68), shut_conv (some 72)]
                go_region_held3 (fun _ => True) (trivial)
                  (first | (go_at_call 19; (with_reducible refine (HSUM.out _ HBD.out).mono ?_); rintro e w8 ⟨A8, c8, rfl, hs8, hb8⟩; have hb78 := HBD.out.trans (hb8.mono HBD.out.size); have cv8 := FreshV.conv hs8 (Below.refl _ _)) | (go_at_call 13; (with_reducible refine (HRO.out _ hb78).mono ?_); rintro e w9 ⟨A9, c9, rfl, hs9, hb9⟩; have hb79 := hb78.trans (hb9.mono hb78.size); have cv9 := FreshV.conv hs9 (Below.refl _ _); have cv8' := FreshV.conv hs8 hb9))
                all_goals
                  have HFIN := Lib.hid (HB07.out.trans (hb79.mono (by omega)))
                  clear hb79 hb78
                  go_wp2
                  go_roundw
                  case rel => exact ⟨l1, rfl, by omega, by omega, Lib.hid HFIN.out⟩
                  case measure => simp [intOf]; omega
        · obtain rfl : l = up + 1 := by omega
          have kl : ¬ ((up : Int) + 1 ≤ up) := by omega
          go_wp2
          go_ret
          exact ⟨rfl, HBO.out⟩
    · rw [if_neg hj] at hkk
      subst hkk
      have k1 : ¬ (kk : Int) < 0 := by omega
      have k2 : decide ((kk : Int) < 0) = false := by simp
      go_wp2
      go_loopw [9] (fun lv W => ∃ l : Nat, lv = .int .i64 (l : Int) ∧ lo ≤ l ∧ l ≤ up + 1 ∧ Hid (Below b0 w W)) (fun lv _ => up + 1 - (intOf lv).toNat)
      case atStart => exact ⟨lo, rfl, Nat.le_refl _, hlu, Lib.hid HB1.out⟩
      case round =>
        obtain ⟨l, rfl, hl1, hl2, HBO⟩ := hrel
        obtain ⟨wo, rfl⟩ : ∃ V, V = wr := ⟨_, rfl⟩
        by_cases hlu2 : l ≤ up
        · have kl : (l : Int) ≤ up := by omega
          have kl130 : (l : Int) ≤ 130 := by omega
          have kl00 : (0 : Int) ≤ l := by omega
          obtain ⟨gb, hgb⟩ : ∃ g, wo.heap.size = g := ⟨_, rfl⟩
          have hgb0 : b0 ≤ gb := by have := HBO.out.size; have := HB0.out; omega
          have HGB := Lib.hid hgb
          clear hgb
          go_wp2_with (at_make; refine wlv_make Tryd.elem8 rfl _ rfl _ l rfl rfl (by omega) ?_; intro w3 r3 b3 z3; rw [HGB.out] at r3 b3 z3; have HR3 := Lib.hid r3; have HB3 := Lib.hid b3; clear r3 b3 z3; rw [HGB.out])
          go_loopw [11] (fun iv W => ∃ (i : Nat) (cs : List (BitVec 8)), i ≤ l ∧ cs.length = l ∧ iv = .int .i64 (i : Int) ∧ Hid (RowV 5 W gb (cs.map W8)) ∧ Hid (Below gb w3 W)) (fun iv _ => l - (intOf iv).toNat)
          case atStart => exact ⟨0, List.replicate l 0, Nat.zero_le _, by simp, rfl, Lib.hid (by rw [List.map_replicate]; exact HR3.out), Lib.hid (Below.refl _ _)⟩
          case round =>
            obtain ⟨i, cs, hi, hcs, rfl, HR, HBI⟩ := hrel
            by_cases hil : i < l
            · have kil : (i : Int) < l := by omega
              have ki0 : (0 : Int) ≤ i := by omega
              obtain ⟨y, hy⟩ : ∃ y, cs[i]? = some y := ⟨cs[i]'(by omega), List.getElem?_eq_getElem _⟩
              have ce : wr.cell? ⟨gb, i, none⟩ = some (W8 y) := HR.out.at_ (by rw [List.getElem?_map, hy]; rfl)
              have hfz := HR.out.frozen i
              have hnr := HR.out.set i (W8 (BitVec.ofInt 8 (x + i)))
              rw [← List.map_set, W8_mod] at hnr
              have hbn := below_setV HBI.out (Nat.le_refl gb) i (.int .u8 ((x + i) % 256))
              have hm8 : (x + (i : Int) % 256) % 256 = (x + i) % 256 := by omega
              have HNR := Lib.hid hnr
              have HBN := Lib.hid hbn
              have HCS := Lib.hid hcs
              have hi8 : (i : Int) % 256 = i := by omega
              clear hy hnr hbn hcs
              go_wp2
              go_round
              case rel => exact ⟨i + 1, cs.set i (BitVec.ofInt 8 (x + i)), by omega, by rw [List.length_set]; exact HCS.out, by go_num, Lib.hid HNR.out, Lib.hid HBN.out⟩
              case measure => simp [intOf]; omega
            · obtain rfl : i = l := by omega
              obtain ⟨wp, rfl⟩ : ∃ V, V = wr := ⟨_, rfl⟩
              have hbp : Below b0 w wp := HBO.out.trans ((HB3.out.trans HBI.out).mono hgb0)
              have hGp : StartsG wp ∧ RootsG wp := by
                have h := hbp
                rw [← HB0.out] at h
                exact ⟨HG.out.1.later h, HG.out.2.later h⟩
              have hgl := HR.out.lt
              obtain ⟨g, hg⟩ : ∃ g, wp.heap.size = g := ⟨_, rfl⟩
              have hnw := new_is wp k HK.out hGp.1
              rw [hg] at hnw
              have HNW := Lib.hid hnw
              have HG5 := Lib.hid hGp.2
              have HBP := Lib.hid hbp
              have HCS := Lib.hid hcs
              have HGG := Lib.hid hg
              have hgb2 : gb < g := by omega
              have hg1 : 1 < g := by omega
              obtain ⟨l1, hl1'⟩ : ∃ m, i + 1 = m := ⟨_, rfl⟩
              have kl1 : (i : Int) + 1 = l1 := by omega
              have kl1z : ¬ (l1 : Int) = 0 := by omega
              have kl1b : (l1 : Int) ≤ 131 := by omega
              obtain ⟨r, hr⟩ : ∃ r, kk % l1 = r := ⟨_, rfl⟩
              have hrI : (kk : Int) % (l1 : Int) = (r : Int) := by rw [← hr]; simp
              have hrT : (kk : Int).tmod (l1 : Int) = (r : Int) := by rw [Int.tmod_eq_emod_of_nonneg (by omega)]; exact hrI
              have hrl : r ≤ i := by have := Nat.mod_lt kk (show 0 < l1 by omega); omega
              have krl : (r : Int) ≤ i := by omega
              have kr0 : (0 : Int) ≤ r := by omega
              clear hnw hGp hbp hcs hg hr hgl
              go_wp2_with fail
              refine HNW.out.mono ?_
              rintro e w5 ⟨rfl, hh5, hb5⟩
              have hb5' : Below wp.heap.size wp w5 := by rw [HGG.out]; exact hb5
              have hr5 := HR.out.later hb5'
              have hs5 := hr5.sl (by rw [List.length_map, HCS.out]; omega)
              rw [List.length_map, HCS.out] at hs5
              have ht5 := hs5.take (k := r) hrl
              rw [← List.map_take] at ht5
              have hw5 := write_any w5 g k HK.out [] (cs.take r) hh5 _ _ r i ht5 (by intro h; cases h) (Nat.le_refl _) (HG5.out.later hb5') hg1 (by simp; have := HCS.out; omega)
              have HW5 := Lib.hid hw5
              have HR5 := Lib.hid hr5
              have HRT := Lib.hid (HG5.out.later hb5')
              have HB5 := Lib.hid (HBP.out.trans (hb5.mono (by omega : b0 ≤ g)))
              have hw5z : g ≤ w5.heap.size := by have := hb5.size; have := HGG.out; omega
              clear hw5 hr5 hb5 hb5' hs5 ht5 hh5 HNW
              go_wp2_with fail
              refine HW5.out.mono ?_
              rintro e w6 ⟨rfl, hh6, ho6⟩
              rw [List.nil_append] at hh6
              have hr6 := HR5.out.only ho6 (by omega)
              have hs6 := hr6.sl (by rw [List.length_map, HCS.out]; omega)
              rw [List.length_map, HCS.out] at hs6
              have hb06 : Below b0 w w6 := HB5.out.trans (ho6.below (by omega) (by omega))
              have hrt6 := HRT.out.only ho6 hg1
              have HR6 := Lib.hid hr6
              have HB06 := Lib.hid hb06
              have HRT6 := Lib.hid hrt6
              have HH6 := Lib.hid hh6
              have hw6z := ho6.size
              have hcat : cs.take r ++ cs.drop r = cs := List.take_append_drop _ _
              have HCAT := Lib.hid hcat
              have hlen2 : (cs.take r).length + (cs.drop r).length ≤ 17592186044416 := by rw [← List.length_append, hcat, HCS.out]; omega
              obtain ⟨D, hD⟩ : ∃ D, sumL k cs = D := ⟨_, rfl⟩
              have hDl : D.length = szN k := by rw [← hD]; exact sumL_length _ _
              have HD := Lib.hid hD
              have HDL := Lib.hid hDl
              clear hh6 ho6 hr6 hb06 hrt6 hcat hD hDl
              by_cases hri : r = i
              · have kri : (r : Int) = i := by omega
                have hri' := hri.symm
                subst hri'
                have hw6 := write_any w6 g k HK.out (cs.take i) (cs.drop i) HH6.out w6.heap.size (some ⟨gb, 0, none⟩) 0 0 (by rw [List.drop_eq_nil_of_le (by have := HCS.out; omega)]; exact SlV.nil _ _ _ (by decide)) (by intro h; cases h) (Nat.le_refl _) HRT6.out hg1 hlen2
                rw [HCAT.out] at hw6
                have HW6 := Lib.hid hw6
                clear hw6 hs6
                go_wp2_with fail
                refine HW6.out.mono ?_
                rintro e w7 ⟨rfl, hh7, ho7⟩
                have hb07 : Below b0 w w7 := HB06.out.trans (ho7.below (by omega) (by omega))
                have hrt7 := HRT6.out.only ho7 hg1
                have hr7 := HR6.out.only ho7 (by omega)
                have hsum : ∀ W, Below w7.heap.size w7 W → Calls Tryd.prog 19 #[.pointer (some ⟨g, 0, none⟩)] W fun e w' => ∃ A' c', e = .returned (.slice A' D.length c') ∧ SlV w' w'.heap.size A' D.length c' (D.map W8) ∧ Below W.heap.size W w' := fun W hW => by
                  refine (sum_any W g k HK.out cs (hh7.later hW) (hrt7.later hW) (by rw [HCS.out]; omega)).mono ?_
                  rintro e w' ⟨b, rfl, hb, hrr, hbb⟩
                  rw [HD.out] at hrr
                  have h := hrr.sl (by rw [List.length_map, HDL.out]; have := (szN_le HK.out).2.2; omega)
                  rw [List.length_map] at h
                  rw [← HDL.out]
                  exact ⟨_, _, rfl, h, hbb⟩
                have hro : ∀ W, Below w7.heap.size w7 W → Calls Tryd.prog 13 #[.int .i64 k, .slice (some ⟨gb, 0, none⟩) i i] W fun e w' => ∃ A' c', e = .returned (.slice A' D.length c') ∧ SlV w' w'.heap.size A' D.length c' (D.map W8) ∧ Below W.heap.size W w' := fun W hW => by
                  have hsl := (hr7.later hW).sl (by rw [List.length_map, HCS.out]; omega)
                  rw [List.length_map, HCS.out] at hsl
                  have h := rof_any W k HK.out _ _ i i cs hsl (by intro h; cases h) (Nat.le_refl _) (by omega)
                  rw [HD.out] at h
                  refine h.mono ?_
                  rintro e w' ⟨v, rfl, ⟨A', c', rfl, h1, _, _⟩, h2⟩
                  exact ⟨A', c', rfl, h1, h2⟩
                have HSUM := Lib.hid hsum
                have HRO := Lib.hid hro
                have HB07 := Lib.hid hb07
                have hw7z := ho7.size
                have hbd : Below w7.heap.size w7 w7.drew := (Below.refl _ w7).drew
                have HBD := Lib.hid hbd
                have e1 := fun (w : World) (t : TypeId) (x y : Operand) (a b : List (BitVec 8)) => eqGuard_str (P := Tryd.prog) w .neq t x y a b
                have e2 : ∀ w', (binOp .neq 9 (strV D) (strV D)).run Tryd.prog w' = .ok (.bool false) w' := fun w' => by
                  rw [neq_str w' _ D D, decide_eq_true rfl]; rfl
                clear hsum hro hh7 ho7 hrt7 hr7 hb07 hbd
                go_wp2_with fail
                rw [shut_conv (some 68), shut_conv (some 72)]
                go_region_held3 (fun _ => True) (trivial)
                  (first | (go_at_call 19; (with_reducible refine (HSUM.out _ HBD.out).mono ?_); rintro e w8 ⟨A8, c8, rfl, hs8, hb8⟩; have hb78 := HBD.out.trans (hb8.mono HBD.out.size); have cv8 := FreshV.conv hs8 (Below.refl _ _)) | (go_at_call 13; (with_reducible refine (HRO.out _ hb78).mono ?_); rintro e w9 ⟨A9, c9, rfl, hs9, hb9⟩; have hb79 := hb78.trans (hb9.mono hb78.size); have cv9 := FreshV.conv hs9 (Below.refl _ _); have cv8' := FreshV.conv hs8 hb9))
                all_goals
                  have HFIN := Lib.hid (HB07.out.trans (hb79.mono (by omega)))
                  clear hb79 hb78
                  go_wp2
                  go_roundw
                  case rel => exact ⟨l1, rfl, by omega, by omega, Lib.hid HFIN.out⟩
                  case measure => simp [intOf]; omega
              · have kri : ¬ (i : Int) = r := by omega
                have kri2 : ¬ i = r := by omega
                have hw6 := write_any w6 g k HK.out (cs.take r) (cs.drop r) HH6.out w6.heap.size (some ⟨gb, r, none⟩) (i - r) (i - r) (by have h := hs6.drop (k := r) (by omega); rw [← List.map_drop, Nat.zero_add] at h; exact h) (by intro h; cases h) (Nat.le_refl _) HRT6.out hg1 hlen2
                rw [HCAT.out] at hw6
                have HW6 := Lib.hid hw6
                clear hw6 hs6
                go_wp2_with fail
                refine HW6.out.mono ?_
                rintro e w7 ⟨rfl, hh7, ho7⟩
                have hb07 : Below b0 w w7 := HB06.out.trans (ho7.below (by omega) (by omega))
                have hrt7 := HRT6.out.only ho7 hg1
                have hr7 := HR6.out.only ho7 (by omega)
                have hsum : ∀ W, Below w7.heap.size w7 W → Calls Tryd.prog 19 #[.pointer (some ⟨g, 0, none⟩)] W fun e w' => ∃ A' c', e = .returned (.slice A' D.length c') ∧ SlV w' w'.heap.size A' D.length c' (D.map W8) ∧ Below W.heap.size W w' := fun W hW => by
                  refine (sum_any W g k HK.out cs (hh7.later hW) (hrt7.later hW) (by rw [HCS.out]; omega)).mono ?_
                  rintro e w' ⟨b, rfl, hb, hrr, hbb⟩
                  rw [HD.out] at hrr
                  have h := hrr.sl (by rw [List.length_map, HDL.out]; have := (szN_le HK.out).2.2; omega)
                  rw [List.length_map] at h
                  rw [← HDL.out]
                  exact ⟨_, _, rfl, h, hbb⟩
                have hro : ∀ W, Below w7.heap.size w7 W → Calls Tryd.prog 13 #[.int .i64 k, .slice (some ⟨gb, 0, none⟩) i i] W fun e w' => ∃ A' c', e = .returned (.slice A' D.length c') ∧ SlV w' w'.heap.size A' D.length c' (D.map W8) ∧ Below W.heap.size W w' := fun W hW => by
                  have hsl := (hr7.later hW).sl (by rw [List.length_map, HCS.out]; omega)
                  rw [List.length_map, HCS.out] at hsl
                  have h := rof_any W k HK.out _ _ i i cs hsl (by intro h; cases h) (Nat.le_refl _) (by omega)
                  rw [HD.out] at h
                  refine h.mono ?_
                  rintro e w' ⟨v, rfl, ⟨A', c', rfl, h1, _, _⟩, h2⟩
                  exact ⟨A', c', rfl, h1, h2⟩
                have HSUM := Lib.hid hsum
                have HRO := Lib.hid hro
                have HB07 := Lib.hid hb07
                have hw7z := ho7.size
                have hbd : Below w7.heap.size w7 w7.drew := (Below.refl _ w7).drew
                have HBD := Lib.hid hbd
                have e1 := fun (w : World) (t : TypeId) (x y : Operand) (a b : List (BitVec 8)) => eqGuard_str (P := Tryd.prog) w .neq t x y a b
                have e2 : ∀ w', (binOp .neq 9 (strV D) (strV D)).run Tryd.prog w' = .ok (.bool false) w' := fun w' => by
                  rw [neq_str w' _ D D, decide_eq_true rfl]; rfl
                clear hsum hro hh7 ho7 hrt7 hr7 hb07 hbd
                go_wp2_with fail
                rw [shut_conv (some 68), shut_conv (some 72)]
                go_region_held3 (fun _ => True) (trivial)
                  (first | (go_at_call 19; (with_reducible refine (HSUM.out _ HBD.out).mono ?_); rintro e w8 ⟨A8, c8, rfl, hs8, hb8⟩; have hb78 := HBD.out.trans (hb8.mono HBD.out.size); have cv8 := FreshV.conv hs8 (Below.refl _ _)) | (go_at_call 13; (with_reducible refine (HRO.out _ hb78).mono ?_); rintro e w9 ⟨A9, c9, rfl, hs9, hb9⟩; have hb79 := hb78.trans (hb9.mono hb78.size); have cv9 := FreshV.conv hs9 (Below.refl _ _); have cv8' := FreshV.conv hs8 hb9))
                all_goals
                  have HFIN := Lib.hid (HB07.out.trans (hb79.mono (by omega)))
                  clear hb79 hb78
                  go_wp2
                  go_roundw
                  case rel => exact ⟨l1, rfl, by omega, by omega, Lib.hid HFIN.out⟩
                  case measure => simp [intOf]; omega
        · obtain rfl : l = up + 1 := by omega
          have kl : ¬ ((up : Int) + 1 ≤ up) := by omega
          go_wp2
          go_ret
          exact ⟨rfl, HBO.out⟩
  · have hblk := fun W => rblock_any W k
    simp only [blockV_no hk] at hblk
    have HBLK := Lib.hid hblk
    clear hblk hk
    go_enter Tryd.func8, Tryd.ntmps8
    go_wp2_with fail
    refine HBG.out.mono ?_
    rintro e w1 ⟨rfl, hB1⟩
    have HB1 := Lib.hid hB1
    clear hB1
    go_wp2_with fail
    refine (HBLK.out _).mono ?_
    rintro e w' ⟨rfl, rfl⟩
    go_wp2
    go_ret
    exact ⟨rfl, HB1.out⟩
end Go.Proofs.YtldheblkanimnaaDoor
