/- The reference's Times. -/
import Derived.Test.YtabhdkjepbkooaaBk
set_option linter.unusedVariables false
set_option linter.unusedSimpArgs false
namespace Go.Proofs.Ytabhdkjepbkooaa
open Go.RowKit

/-- a block that begins with these bytes -/
def RowX (w : World) (g : Nat) (bs : List (BitVec 8)) (vr : List Value) : Prop := RowV 5 w g (bs.map W8 ++ vr)
theorem RowX.at_ {w : World} {g : Nat} {bs : List (BitVec 8)} {vr : List Value} (h : RowX w g bs vr) {k : Nat} (hk : k < bs.length) : w.cell? ⟨g, k, none⟩ = some (W8 (bs.getD k 0)) :=
  RowV.at_ h (by rw [List.getElem?_append_left (by rw [List.length_map]; exact hk)]; exact map_at hk)
theorem RowX.frozen {w : World} {g : Nat} {bs : List (BitVec 8)} {vr : List Value} (h : RowX w g bs vr) (k : Nat) : w.frozen? ⟨g, k, none⟩ = false := RowV.frozen h k
theorem RowX.set {w : World} {g : Nat} {bs : List (BitVec 8)} {vr : List Value} (h : RowX w g bs vr) {k : Nat} (hk : k < bs.length) (x : BitVec 8) : RowX (w.setCell ⟨g, k, none⟩ (W8 x)) g (bs.set k x) vr := by
  have h1 := RowV.set h k (W8 x)
  rw [List.set_append_left _ _ (by rw [List.length_map]; exact hk), ← List.map_set] at h1
  exact h1
theorem RowX.far {w : World} {g : Nat} {bs : List (BitVec 8)} {vr : List Value} (h : RowX w g bs vr) {p : Addr} (hp : g ≠ p.block) (u : Value) : RowX (w.setCell p u) g bs vr := RowV.far h hp u
theorem RowX.later {w w' : World} {g : Nat} {bs : List (BitVec 8)} {vr : List Value} (h : RowX w g bs vr) (hb : Below w.heap.size w w') : RowX w' g bs vr := RowV.later h hb
theorem RowX.lt {w : World} {g : Nat} {bs : List (BitVec 8)} {vr : List Value} (h : RowX w g bs vr) : g < w.heap.size := RowV.lt h
theorem RowX.sl {w : World} {g : Nat} {bs : List (BitVec 8)} {vr : List Value} (h : RowX w g bs vr) (c : Nat) (hc : c = (bs.map W8 ++ vr).length) (hm : c ≤ 9223372036854775807) : SlV w w.heap.size (some ⟨g, 0, none⟩) bs.length c (bs.map W8) := by
  have h1 := RowV.slOff h 0 bs.length (by simp) (by omega)
  rw [List.drop_zero, List.take_append_of_le_length (by simp), List.take_of_length_le (by simp), Nat.sub_zero, ← hc] at h1
  exact h1
theorem byte_shr (x : BitVec 8) (s : Nat) : i8 x / (2 : Int) ^ s = i8 (x >>> s) := by
  unfold i8; rw [BitVec.toNat_ushiftRight, Nat.shiftRight_eq_div_pow]; simp
theorem byte_bit' (x : BitVec 8) (k : Nat) : i8 (x >>> k) % (2 : Int) = if x.getLsbD k then (1 : Int) else 0 := by
  rw [byte_odd, BitVec.getLsbD_ushiftRight, Nat.add_zero]
set_option maxRecDepth 100000 in
set_option maxHeartbeats 4000000 in
theorem rtimes_any (w : World) (B b1 o1 c1 b2 o2 c2 : Nat) (x y : List (BitVec 8)) (hx : SlV w B (some ⟨b1, o1, none⟩) 16 c1 (x.map W8)) (hy : SlV w B (some ⟨b2, o2, none⟩) 16 c2 (y.map W8)) (hB : B ≤ w.heap.size) :
    Calls Try.prog 18 #[.slice (some ⟨b1, o1, none⟩) 16 c1, .slice (some ⟨b2, o2, none⟩) 16 c2] w fun e w' => ∃ g, e = .returned (.slice (some ⟨g, 0, none⟩) 16 16) ∧ w.heap.size ≤ g ∧ RowV 5 w' g ((byV (timesV (elV x) (elV y))).map W8) ∧ Below w.heap.size w w' := by
  have hxl : x.length = 16 := by have := hx.len; simp at this; omega
  have hyl : y.length = 16 := by have := hy.len; simp at this; omega
  obtain ⟨z, hz⟩ : ∃ z, w.heap.size = z := ⟨_, rfl⟩
  rw [hz] at hB
  obtain ⟨E, hE⟩ : ∃ E, elV x = E := ⟨_, rfl⟩
  obtain ⟨F, hF⟩ : ∃ F, elV y = F := ⟨_, rfl⟩
  have hyF : byV F = y := by rw [← hF]; exact byV_elV y hyl
  have hmsb : ∀ m, m < 128 → E.getMsbD m = (x.getD (m / 8) 0).getLsbD (7 - m % 8) := fun m hm => by rw [← hE]; exact elV_msb x m hm
  rw [hE, hF]
  have HX := Lib.hid hx
  have HY := Lib.hid hy
  have HZ := Lib.hid hz
  have HXL := Lib.hid (And.intro hxl hyl)
  have HYF := Lib.hid hyF
  have HMSB := Lib.hid hmsb
  have hzero : (List.replicate 16 (0 : BitVec 8)) = byV (partV E F 0) := by rw [partV_zero]; decide
  have HZR := Lib.hid hzero
  clear hx hy hxl hyl hE hF hyF hmsb hzero
  go_enter Try.func18, Try.ntmps18
  go_wp2_with (first | (at_make; refine wlv_make Try.elem8 rfl _ rfl _ 16 rfl rfl (by decide) ?_; intro w1 hr1 hb1 hz1; rw [hz] at hr1 hb1 hz1; have hy1 := (HY.out.below (hb1.mono hB)); have hB1 : B ≤ w1.heap.size := (by omega)) | (at_builtin; refine wlv_append Try.elem8 rfl _ _ rfl w1.heap.size (.slice none 0 0) 0 [] rfl ⟨rfl, .inl ⟨rfl, rfl⟩⟩ (some ⟨b2, o2, none⟩) 16 c2 (y.map W8) rfl (by intro h; cases h) B hy1 (ones8 y) (by decide) (Nat.le_refl _) ?_; intro v2 w2 hown2 hgr2; obtain ⟨gv, cv, vs, rfl, hgv, hcv1, hcv2, hvl, hvt, hrv⟩ := own_row hown2 (by decide)))
  obtain ⟨vr, hvrd⟩ : ∃ l, vs.drop 16 = l := ⟨_, rfl⟩
  rw [List.nil_append] at hvt
  have hvse : vs = y.map W8 ++ vr := by rw [← hvrd, ← hvt]; exact (List.take_append_drop 16 vs).symm
  have hb2 : Below z w w2 := hb1.grown hgr2 (by omega) (fun r e => by cases e)
  have hz2 : RowV 5 w2 z ((byV (partV E F 0)).map W8) := by
    rw [← HZR.out, List.map_replicate]
    exact hr1.kept hgr2 (fun r e => by cases e)
  have hvx : RowX w2 gv (byV (raiseN 0 F)) vr := by
    show RowV _ _ _ ((byV F).map W8 ++ vr)
    rw [HYF.out, ← hvse]; exact hrv
  have hcv : cv = (y.map W8 ++ vr).length := by rw [← hvse]; exact hvl.symm
  have hzv : z < gv := by omega
  have HCV := Lib.hid (And.intro hcv hcv2)
  have HV := Lib.hid hvx
  have HZ2 := Lib.hid hz2
  have HB2 := Lib.hid hb2
  have kcv : (16 : Int) ≤ cv := by omega
  have kcv2 : (cv : Int) ≤ 9223372036854775807 := by omega
  clear hr1 hb1 hz1 hy1 hB1 hown2 hgr2 hgv hcv1 hvl hvt hrv hvrd hvse hb2 hz2 hvx hcv hcv2 hz
  go_loopw [5, 7] (fun zv iv W => ∃ m gz : Nat, m ≤ 128 ∧ iv = .int .i64 (m : Int) ∧ zv = .slice (some ⟨gz, 0, none⟩) 16 16 ∧ z ≤ gz ∧ gz ≠ gv ∧ Hid (RowV 5 W gz ((byV (partV E F m)).map W8)) ∧ Hid (RowX W gv (byV (raiseN m F)) vr) ∧ Hid (Below z w W)) (fun _ iv _ => 128 - (intOf iv).toNat)
  case atStart => exact ⟨0, z, by decide, rfl, rfl, Nat.le_refl _, by omega, HZ2, HV, HB2⟩
  case round =>
    clear HZ2 HV HB2
    obtain ⟨m, gz, hm, rfl, rfl, hgz, hgzv, HR, HV, HB2⟩ := hrel
    obtain ⟨wo, rfl⟩ : ∃ V, V = wr := ⟨_, rfl⟩
    by_cases hm8 : m = 128
    · subst hm8
      go_wp2
      go_ret
      rw [HZ.out]
      exact ⟨gz, rfl, hgz, HR.out, HB2.out⟩
    · have hmi : (m : Int) < 128 := by omega
      have hmn : m < 128 := by omega
      obtain ⟨q, hq⟩ : ∃ q, m / 8 = q := ⟨_, rfl⟩
      obtain ⟨r, hr⟩ : ∃ r, 7 - m % 8 = r := ⟨_, rfl⟩
      have hqI : (m : Int) / 8 = (q : Int) := by omega
      have hrI : 7 - (m : Int) % 8 = (r : Int) := by omega
      have hq16 : (q : Int) < 16 := by omega
      have hr8 : r < 8 := by omega
      have hr0 : (0 : Int) ≤ r := by omega
      have hr64 : (r : Int) ≤ 7 := by omega
      obtain ⟨bx, ox, vx, e1, hbx, hvx, hcx⟩ := (HX.out.below (HB2.out.mono hB)).at_ (k := q) (by omega)
      injection e1 with e1
      injection e1 with e1 e2
      subst e1 e2
      have hxq := map_at (l := x) (k := q) (by have := HXL.out; omega)
      rw [hxq] at hvx
      injection hvx with hvx
      subst hvx
      have hmb := HMSB.out m hmn
      rw [hq, hr] at hmb
      obtain ⟨xb, hxb⟩ : ∃ b, x.getD q 0 = b := ⟨_, rfl⟩
      rw [hxb] at hcx hmb
      have hbit := byte_bit' xb r
      have hshr := byte_shr xb r
      rw [← hmb] at hbit
      have hps := partV_succ E F m
      have hb8 := i8_lt xb
      obtain ⟨sb, hsb⟩ : ∃ b, xb >>> r = b := ⟨_, rfl⟩
      rw [hsb] at hbit hshr
      have hsb8 := i8_lt sb
      clear hsb
      have HQR := Lib.hid (And.intro hq hr)
      clear hxq hxb hbx hq hr hmb
      by_cases hbt : E.getMsbD m = true
      · rw [if_pos hbt] at hbit hps
        have hs1 := (show RowV 5 wo gz ((byV (partV E F m)).map W8) from HR.out).sl (by rw [List.length_map, byV_length]; decide)
        rw [List.length_map, byV_length] at hs1
        have hs2 := HV.out.sl cv (by rw [HCV.out.1, List.length_append, List.length_append, List.length_map, List.length_map, byV_length, HXL.out.2]) HCV.out.2
        rw [byV_length] at hs2
        have hxor := rxor_any wo wo.heap.size _ 16 16 _ hs1 _ 16 cv _ hs2 (Nat.le_refl _) (Nat.le_refl _) (by decide)
        rw [xorL_add _ _ (byV_length _) (byV_length _), ← byV_xor, ← hps] at hxor
        obtain ⟨g3, hg3⟩ : ∃ g, wo.heap.size = g := ⟨_, rfl⟩
        have hg3z : z ≤ g3 := by have h1 := HB2.out.size; have h2 := HZ.out; omega
        have hg3v : g3 ≠ gv := by have := HV.out.lt; omega
        have hVl := HV.out
        rw [hg3] at hxor
        have HXOR := Lib.hid hxor
        have HG3 := Lib.hid hg3
        clear hxor hs1 hs2 hbt hps hVl hg3
        go_wp2_with fail
        refine HXOR.out.mono ?_
        rintro e w3 ⟨rfl, hr3, hb3⟩
        have HR3 := Lib.hid hr3
        have HV3 := Lib.hid (HV.out.later (by rw [HG3.out]; exact hb3))
        have HB3 := Lib.hid (HB2.out.trans (hb3.mono hg3z))
        clear hr3 hb3 HR HV HB2 HXOR
        obtain ⟨S, hS⟩ : ∃ S, byV (raiseN m F) = S := ⟨_, rfl⟩
        have hSl : S.length = 16 := by rw [← hS]; exact byV_length _
        have hsh := shrL_mid S
        rw [show shrL S = byV (raiseN (m + 1) F) by rw [← hS, shrL_byV]; rfl] at hsh
        have hmt := midL_top S hSl
        rw [hS] at HV3
        have c15 := HV3.out.at_ (k := 15) (by omega)
        obtain ⟨s15, hs15⟩ : ∃ b, S.getD 15 0 = b := ⟨_, rfl⟩
        rw [hs15] at c15 hsh
        have hs8 := i8_lt s15
        obtain ⟨lb, hlb⟩ : ∃ lb : Bool, (i8 s15 % 2 == 1) = lb := ⟨_, rfl⟩
        have hlb2 : s15.getLsbD 0 = lb := by
          rw [← hlb, byte_odd s15]
          cases s15.getLsbD 0 <;> rfl
        rw [hlb2] at hsh
        have HSH := Lib.hid hsh
        have HSL := Lib.hid hSl
        have HV4 := Lib.hid (show RowX w3 gv (midL S 16) vr by rw [hmt]; exact HV3.out)
        clear hsh hSl hmt hS hs15 hlb2 HV3
        go_wp2
        go_loopw [9] (fun kv W => ∃ j : Nat, j ≤ 16 ∧ kv = .int .i64 ((j : Int) - 1) ∧ Hid (RowX W gv (midL S j) vr) ∧ Hid (RowV 5 W g3 ((byV (partV E F (m + 1))).map W8) ∧ Below z w W)) (fun kv _ => (intOf kv + 1).toNat)
        case atStart => exact ⟨16, by decide, by go_num, HV4, Lib.hid ⟨HR3.out, HB3.out⟩⟩
        case round =>
          clear c15 HV4 HR3 HB3 hlb
          obtain ⟨j, hj, rfl, HVJ, HRJ⟩ := hrel
          by_cases hj0 : j = 0
          · subst hj0
            cases lb
            · have HN := Lib.hid (show RowX wr gv (byV (raiseN (m + 1) F)) vr by rw [HSH.out]; exact HVJ.out)
              go_wp2
              go_roundw
              case rel => exact ⟨m + 1, g3, by omega, by go_num, rfl, hg3z, hg3v, Lib.hid HRJ.out.1, HN, Lib.hid HRJ.out.2⟩
              case measure => simp [intOf]; omega
            · have c0 := HVJ.out.at_ (k := 0) (by rw [midL_length]; decide)
              have f0 := HVJ.out.frozen 0
              obtain ⟨u0, hu0⟩ : ∃ b, (midL S 0).getD 0 0 = b := ⟨_, rfl⟩
              have hsx := HVJ.out.set (k := 0) (by rw [midL_length]; decide) (u0 ^^^ 0xe1)
              have hex : (midL S 0).set 0 (u0 ^^^ 0xe1) = byV (raiseN (m + 1) F) := by rw [HSH.out, ← hu0]; rfl
              rw [hex] at hsx
              rw [hu0] at c0
              obtain ⟨u1, hu1⟩ : ∃ b, u0 ^^^ 0xe1 = b := ⟨_, rfl⟩
              have he1 := byte_e1 u0
              rw [hu1] at hsx he1
              have HN := Lib.hid hsx
              have HR5 := Lib.hid (HRJ.out.1.far (p := ⟨gv, 0, none⟩) hg3v (W8 u1))
              have HB5 := Lib.hid (below_setV HRJ.out.2 (show z ≤ gv by omega) 0 (W8 u1))
              clear hsx hex hu0 hu1
              go_wp2
              go_roundw
              case rel => exact ⟨m + 1, g3, by omega, by go_num, rfl, hg3z, hg3v, HR5, HN, HB5⟩
              case measure => simp [intOf]; omega
          · obtain ⟨k, hk⟩ : ∃ k, j - 1 = k := ⟨_, rfl⟩
            have hkI : (j : Int) - 1 = (k : Int) := by omega
            rw [hkI]
            have hk16 : k < 16 := by omega
            have hkI16 : (k : Int) < 16 := by omega
            have hkI0 : (0 : Int) ≤ k := by omega
            obtain rfl : j = k + 1 := by omega
            have c1 := HVJ.out.at_ (k := k) (by rw [midL_length]; exact hk16)
            rw [midL_get S (k + 1) k hk16 (by omega)] at c1
            have f1 := HVJ.out.frozen k
            have hms := midL_set S k hk16
            have hshB : shB S k = (S.getD k 0) >>> 1 ^^^ (if 0 < k ∧ (S.getD (k - 1) 0).getLsbD 0 then 0x80 else 0) := rfl
            obtain ⟨sp, hsp⟩ : ∃ b, S.getD k 0 = b := ⟨_, rfl⟩
            rw [hsp] at c1 hshB
            have hh := byte_half sp
            have ht := byte_top sp
            have htl := byte_low sp
            obtain ⟨s1, hs1⟩ : ∃ b, sp >>> 1 = b := ⟨_, rfl⟩
            rw [hs1] at hh ht htl hshB
            have hsp8 := i8_lt sp
            have hv2 := HVJ.out.set (k := k) (by rw [midL_length]; exact hk16) s1
            have f2 := hv2.frozen k
            have hR2 := HRJ.out.1.far (p := ⟨gv, k, none⟩) hg3v (W8 s1)
            have hB2 := below_setV HRJ.out.2 (show z ≤ gv by omega) k (W8 s1)
            have HV2 := Lib.hid hv2
            have HR2 := Lib.hid hR2
            have HBB2 := Lib.hid hB2
            by_cases hk0 : k = 0
            · have hkz : ¬ (0 : Int) < (k : Int) := by omega
              rw [if_neg (show ¬ (0 < k ∧ _) from fun h => by omega), show s1 ^^^ (0 : BitVec 8) = s1 from BitVec.xor_zero] at hshB
              rw [hshB] at hms
              have HMS := Lib.hid hms
              clear hms hshB hs1 hsp hk hk0 hv2 hR2 hB2 HVJ HRJ
              go_wp2
              go_roundw
              case rel => exact ⟨k, by omega, by go_num, Lib.hid (by rw [← HMS.out]; exact HV2.out), Lib.hid ⟨HR2.out, HBB2.out⟩⟩
              case measure => simp [intOf]
            · have hkz : (0 : Int) < (k : Int) := by omega
              obtain ⟨k1, hk1⟩ : ∃ k1, k - 1 = k1 := ⟨_, rfl⟩
              have hk1I : (k : Int) - 1 = (k1 : Int) := by omega
              have hk10 : (0 : Int) ≤ k1 := by omega
              have hk116 : (k1 : Int) < 16 := by omega
              have c2 := hv2.at_ (k := k1) (by rw [List.length_set, midL_length]; omega)
              have hgd : ((midL S (k + 1)).set k s1).getD k1 0 = S.getD k1 0 := by
                rw [List.getD_eq_getElem?_getD, List.getElem?_set_ne (by omega), ← List.getD_eq_getElem?_getD, midL_get S (k + 1) k1 (by omega) (by omega)]
              rw [hgd] at c2
              rw [hk1] at hshB
              obtain ⟨sq, hsq⟩ : ∃ b, S.getD k1 0 = b := ⟨_, rfl⟩
              rw [hsq] at c2 hshB
              have hsq8 := i8_lt sq
              have hod := byte_odd sq
              by_cases hbb : sq.getLsbD 0 = true
              · rw [if_pos hbb] at hod
                rw [if_pos (show 0 < k ∧ sq.getLsbD 0 = true from ⟨by omega, hbb⟩)] at hshB
                have c3 := hv2.at_ (k := k) (by rw [List.length_set, midL_length]; exact hk16)
                rw [show ((midL S (k + 1)).set k s1).getD k 0 = s1 by rw [List.getD_eq_getElem?_getD, List.getElem?_set_self (by rw [midL_length]; exact hk16)]; rfl] at c3
                obtain ⟨s2, hs2⟩ : ∃ b, s1 ^^^ 0x80 = b := ⟨_, rfl⟩
                have ht2 : i8 s1 + (128 : Int) = i8 s2 := by rw [ht, hs2]
                have hv3 := hv2.set (k := k) (by rw [List.length_set, midL_length]; exact hk16) s2
                have hR3 := hR2.far (p := ⟨gv, k, none⟩) hg3v (W8 s2)
                have hB3 := below_setV hB2 (show z ≤ gv by omega) k (W8 s2)
                rw [List.set_set, show s2 = shB S k by rw [hshB, hs2], hms, ← show s2 = shB S k by rw [hshB, hs2]] at hv3
                have HV5 := Lib.hid hv3
                have HR5 := Lib.hid hR3
                have HB5 := Lib.hid hB3
                clear hms hshB hs1 hsp hk hk0 hv2 hR2 hB2 hv3 hR3 hB3 HVJ HRJ hsq hbb hgd hs2 ht hk1
                go_wp2
                go_roundw
                case rel => exact ⟨k, by omega, by go_num, HV5, Lib.hid ⟨HR5.out, HB5.out⟩⟩
                case measure => simp [intOf]; omega
              · rw [if_neg hbb] at hod
                rw [if_neg (show ¬ (0 < k ∧ sq.getLsbD 0 = true) from fun h => hbb h.2), show s1 ^^^ (0 : BitVec 8) = s1 from BitVec.xor_zero] at hshB
                rw [hshB] at hms
                have HMS := Lib.hid hms
                clear hms hshB hs1 hsp hk hk0 hv2 hR2 hB2 HVJ HRJ hsq hbb hgd ht hk1
                go_wp2
                go_roundw
                case rel => exact ⟨k, by omega, by go_num, Lib.hid (by rw [← HMS.out]; exact HV2.out), Lib.hid ⟨HR2.out, HBB2.out⟩⟩
                case measure => simp [intOf]; omega
      · rw [if_neg hbt] at hbit hps
        obtain ⟨g3, rfl⟩ : ∃ g, g = gz := ⟨_, rfl⟩
        obtain ⟨w3, rfl⟩ : ∃ V, V = wo := ⟨_, rfl⟩
        have hg3z := hgz
        have hg3v := hgzv
        have HR3 := Lib.hid (show RowV 5 w3 g3 ((byV (partV E F (m + 1))).map W8) by rw [hps]; exact HR.out)
        have HV3 := HV
        have HB3 := HB2
        clear hps hbt HR HV HB2
        obtain ⟨S, hS⟩ : ∃ S, byV (raiseN m F) = S := ⟨_, rfl⟩
        have hSl : S.length = 16 := by rw [← hS]; exact byV_length _
        have hsh := shrL_mid S
        rw [show shrL S = byV (raiseN (m + 1) F) by rw [← hS, shrL_byV]; rfl] at hsh
        have hmt := midL_top S hSl
        rw [hS] at HV3
        have c15 := HV3.out.at_ (k := 15) (by omega)
        obtain ⟨s15, hs15⟩ : ∃ b, S.getD 15 0 = b := ⟨_, rfl⟩
        rw [hs15] at c15 hsh
        have hs8 := i8_lt s15
        obtain ⟨lb, hlb⟩ : ∃ lb : Bool, (i8 s15 % 2 == 1) = lb := ⟨_, rfl⟩
        have hlb2 : s15.getLsbD 0 = lb := by
          rw [← hlb, byte_odd s15]
          cases s15.getLsbD 0 <;> rfl
        rw [hlb2] at hsh
        have HSH := Lib.hid hsh
        have HSL := Lib.hid hSl
        have HV4 := Lib.hid (show RowX w3 gv (midL S 16) vr by rw [hmt]; exact HV3.out)
        clear hsh hSl hmt hS hs15 hlb2 HV3
        go_wp2
        go_loopw [9] (fun kv W => ∃ j : Nat, j ≤ 16 ∧ kv = .int .i64 ((j : Int) - 1) ∧ Hid (RowX W gv (midL S j) vr) ∧ Hid (RowV 5 W g3 ((byV (partV E F (m + 1))).map W8) ∧ Below z w W)) (fun kv _ => (intOf kv + 1).toNat)
        case atStart => exact ⟨16, by decide, by go_num, HV4, Lib.hid ⟨HR3.out, HB3.out⟩⟩
        case round =>
          clear c15 HV4 HR3 HB3 hlb
          obtain ⟨j, hj, rfl, HVJ, HRJ⟩ := hrel
          by_cases hj0 : j = 0
          · subst hj0
            cases lb
            · have HN := Lib.hid (show RowX wr gv (byV (raiseN (m + 1) F)) vr by rw [HSH.out]; exact HVJ.out)
              go_wp2
              go_roundw
              case rel => exact ⟨m + 1, g3, by omega, by go_num, rfl, hg3z, hg3v, Lib.hid HRJ.out.1, HN, Lib.hid HRJ.out.2⟩
              case measure => simp [intOf]; omega
            · have c0 := HVJ.out.at_ (k := 0) (by rw [midL_length]; decide)
              have f0 := HVJ.out.frozen 0
              obtain ⟨u0, hu0⟩ : ∃ b, (midL S 0).getD 0 0 = b := ⟨_, rfl⟩
              have hsx := HVJ.out.set (k := 0) (by rw [midL_length]; decide) (u0 ^^^ 0xe1)
              have hex : (midL S 0).set 0 (u0 ^^^ 0xe1) = byV (raiseN (m + 1) F) := by rw [HSH.out, ← hu0]; rfl
              rw [hex] at hsx
              rw [hu0] at c0
              obtain ⟨u1, hu1⟩ : ∃ b, u0 ^^^ 0xe1 = b := ⟨_, rfl⟩
              have he1 := byte_e1 u0
              rw [hu1] at hsx he1
              have HN := Lib.hid hsx
              have HR5 := Lib.hid (HRJ.out.1.far (p := ⟨gv, 0, none⟩) hg3v (W8 u1))
              have HB5 := Lib.hid (below_setV HRJ.out.2 (show z ≤ gv by omega) 0 (W8 u1))
              clear hsx hex hu0 hu1
              go_wp2
              go_roundw
              case rel => exact ⟨m + 1, g3, by omega, by go_num, rfl, hg3z, hg3v, HR5, HN, HB5⟩
              case measure => simp [intOf]; omega
          · obtain ⟨k, hk⟩ : ∃ k, j - 1 = k := ⟨_, rfl⟩
            have hkI : (j : Int) - 1 = (k : Int) := by omega
            rw [hkI]
            have hk16 : k < 16 := by omega
            have hkI16 : (k : Int) < 16 := by omega
            have hkI0 : (0 : Int) ≤ k := by omega
            obtain rfl : j = k + 1 := by omega
            have c1 := HVJ.out.at_ (k := k) (by rw [midL_length]; exact hk16)
            rw [midL_get S (k + 1) k hk16 (by omega)] at c1
            have f1 := HVJ.out.frozen k
            have hms := midL_set S k hk16
            have hshB : shB S k = (S.getD k 0) >>> 1 ^^^ (if 0 < k ∧ (S.getD (k - 1) 0).getLsbD 0 then 0x80 else 0) := rfl
            obtain ⟨sp, hsp⟩ : ∃ b, S.getD k 0 = b := ⟨_, rfl⟩
            rw [hsp] at c1 hshB
            have hh := byte_half sp
            have ht := byte_top sp
            have htl := byte_low sp
            obtain ⟨s1, hs1⟩ : ∃ b, sp >>> 1 = b := ⟨_, rfl⟩
            rw [hs1] at hh ht htl hshB
            have hsp8 := i8_lt sp
            have hv2 := HVJ.out.set (k := k) (by rw [midL_length]; exact hk16) s1
            have f2 := hv2.frozen k
            have hR2 := HRJ.out.1.far (p := ⟨gv, k, none⟩) hg3v (W8 s1)
            have hB2 := below_setV HRJ.out.2 (show z ≤ gv by omega) k (W8 s1)
            have HV2 := Lib.hid hv2
            have HR2 := Lib.hid hR2
            have HBB2 := Lib.hid hB2
            by_cases hk0 : k = 0
            · have hkz : ¬ (0 : Int) < (k : Int) := by omega
              rw [if_neg (show ¬ (0 < k ∧ _) from fun h => by omega), show s1 ^^^ (0 : BitVec 8) = s1 from BitVec.xor_zero] at hshB
              rw [hshB] at hms
              have HMS := Lib.hid hms
              clear hms hshB hs1 hsp hk hk0 hv2 hR2 hB2 HVJ HRJ
              go_wp2
              go_roundw
              case rel => exact ⟨k, by omega, by go_num, Lib.hid (by rw [← HMS.out]; exact HV2.out), Lib.hid ⟨HR2.out, HBB2.out⟩⟩
              case measure => simp [intOf]
            · have hkz : (0 : Int) < (k : Int) := by omega
              obtain ⟨k1, hk1⟩ : ∃ k1, k - 1 = k1 := ⟨_, rfl⟩
              have hk1I : (k : Int) - 1 = (k1 : Int) := by omega
              have hk10 : (0 : Int) ≤ k1 := by omega
              have hk116 : (k1 : Int) < 16 := by omega
              have c2 := hv2.at_ (k := k1) (by rw [List.length_set, midL_length]; omega)
              have hgd : ((midL S (k + 1)).set k s1).getD k1 0 = S.getD k1 0 := by
                rw [List.getD_eq_getElem?_getD, List.getElem?_set_ne (by omega), ← List.getD_eq_getElem?_getD, midL_get S (k + 1) k1 (by omega) (by omega)]
              rw [hgd] at c2
              rw [hk1] at hshB
              obtain ⟨sq, hsq⟩ : ∃ b, S.getD k1 0 = b := ⟨_, rfl⟩
              rw [hsq] at c2 hshB
              have hsq8 := i8_lt sq
              have hod := byte_odd sq
              by_cases hbb : sq.getLsbD 0 = true
              · rw [if_pos hbb] at hod
                rw [if_pos (show 0 < k ∧ sq.getLsbD 0 = true from ⟨by omega, hbb⟩)] at hshB
                have c3 := hv2.at_ (k := k) (by rw [List.length_set, midL_length]; exact hk16)
                rw [show ((midL S (k + 1)).set k s1).getD k 0 = s1 by rw [List.getD_eq_getElem?_getD, List.getElem?_set_self (by rw [midL_length]; exact hk16)]; rfl] at c3
                obtain ⟨s2, hs2⟩ : ∃ b, s1 ^^^ 0x80 = b := ⟨_, rfl⟩
                have ht2 : i8 s1 + (128 : Int) = i8 s2 := by rw [ht, hs2]
                have hv3 := hv2.set (k := k) (by rw [List.length_set, midL_length]; exact hk16) s2
                have hR3 := hR2.far (p := ⟨gv, k, none⟩) hg3v (W8 s2)
                have hB3 := below_setV hB2 (show z ≤ gv by omega) k (W8 s2)
                rw [List.set_set, show s2 = shB S k by rw [hshB, hs2], hms, ← show s2 = shB S k by rw [hshB, hs2]] at hv3
                have HV5 := Lib.hid hv3
                have HR5 := Lib.hid hR3
                have HB5 := Lib.hid hB3
                clear hms hshB hs1 hsp hk hk0 hv2 hR2 hB2 hv3 hR3 hB3 HVJ HRJ hsq hbb hgd hs2 ht hk1
                go_wp2
                go_roundw
                case rel => exact ⟨k, by omega, by go_num, HV5, Lib.hid ⟨HR5.out, HB5.out⟩⟩
                case measure => simp [intOf]; omega
              · rw [if_neg hbb] at hod
                rw [if_neg (show ¬ (0 < k ∧ sq.getLsbD 0 = true) from fun h => hbb h.2), show s1 ^^^ (0 : BitVec 8) = s1 from BitVec.xor_zero] at hshB
                rw [hshB] at hms
                have HMS := Lib.hid hms
                clear hms hshB hs1 hsp hk hk0 hv2 hR2 hB2 HVJ HRJ hsq hbb hgd ht hk1
                go_wp2
                go_roundw
                case rel => exact ⟨k, by omega, by go_num, Lib.hid (by rw [← HMS.out]; exact HV2.out), Lib.hid ⟨HR2.out, HBB2.out⟩⟩
                case measure => simp [intOf]; omega
end Go.Proofs.Ytabhdkjepbkooaa
