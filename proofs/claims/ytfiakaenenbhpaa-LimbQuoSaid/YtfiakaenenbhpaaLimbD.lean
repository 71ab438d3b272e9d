/- limb.Mul. -/
import Derived.Test.YtfiakaenenbhpaaLimbC
namespace Go.Proofs.Ytfiakaenenbhpaa
open Go.RowKit

set_option maxRecDepth 100000 in
set_option maxHeartbeats 1600000 in
theorem lmul_any (w : World) (B : Nat) (hB : B ≤ w.heap.size) (A1 : Option Addr) (n1 c1 : Nat) (xs : List Nat) (hs1 : Sl w B A1 n1 c1 xs) (A2 : Option Addr) (n2 c2 : Nat) (ys : List Nat) (hs2 : Sl w B A2 n2 c2 ys)
    (hd : Dg b64 xs) (hd2 : Dg b64 ys) (h1 : n1 ≤ 17592186044416) (h2 : n2 ≤ 17592186044416) :
    Calls Try.prog 14 #[.slice A1 n1 c1, .slice A2 n2 c2] w fun e w' => RetN b64 w (V b64 xs * V b64 ys) e w' := by
  go_enter Try.func14, Try.ntmps14
  go_wp2_with fail
  refine (ltrim_sl w B A1 n1 c1 xs hs1).mono ?_; rintro e w1 ⟨m1, rfl, h3, h4, rfl⟩
  go_wp2_with fail
  refine (ltrim_sl w B A2 n2 c2 ys hs2).mono ?_; rintro e w1 ⟨m2, rfl, h5, h6, rfl⟩
  have hlc1 := h3.cap
  have hm1 := h3.max
  have hlc2 := h5.cap
  have hm2 := h5.max
  go_wp2_with (at_make; refine wl_make rfl _ _ Try.underlying23 rfl _ (m1 + m2) rfl (by omega) (by omega) ?_; intro w1 hR hB1 hz1; obtain ⟨g, hg⟩ : ∃ g, g = w.heap.size := ⟨_, rfl⟩; rw [← hg] at hR ⊢; have HG := Lib.hid hg; have HZ1 := Lib.hid hz1; clear hg hz1)
  have hdx := (trimmed_nm hd).1
  have hdy := (trimmed_nm hd2).1
  go_loopw [22] (fun i wr => ∃ k zs, k ≤ m1 ∧ i = .int .i64 (k : Nat) ∧ Row wr g zs ∧ Only w1 wr g ∧ wr.heap.size = w1.heap.size ∧ zs.length = m1 + m2 ∧ Dg b64 zs ∧ (∀ t, k + m2 ≤ t → t < m1 + m2 → zs[t]? = some 0) ∧ V b64 zs = V b64 ((trimmed xs).take k) * V b64 (trimmed ys)) (fun i _ => m1 - (intOf i).toNat)
  case atStart => exact ⟨0, _, Nat.zero_le _, rfl, hR, Only.refl _ _, rfl, by simp, dg_zeros b64_pos _, fun t _ ht => by simp [ht], by rw [V_replicate]; simp [V]⟩
  case round =>
    obtain ⟨k, zs, hk, rfl, hr, ho, hz, hzl, hdz, hzz, hv⟩ := hrel
    have HZ := Lib.hid hz
    have HZL := Lib.hid hzl
    have HV := Lib.hid hv
    have HZZ := Lib.hid hzz
    clear hz hzl hv hzz
    have hgB : B ≤ g := by rw [HG.out]; exact hB
    have hbw : Below w.heap.size w1 wr := ho.below (by rw [HG.out]; exact Nat.le_refl _) (by rw [HZ1.out]; omega)
    have hbel : Below w.heap.size w wr := hB1.trans hbw
    by_cases hlt : k < m1
    · have hs1r := h3.below (hbel.mono hB)
      have hs2r := h5.below (hbel.mono hB)
      have hki : (k : Int) < m1 := by omega
      obtain ⟨b, off, x, rfl, hb1, hx, hc⟩ := hs1r.at_ hlt
      have hxl := hdx.get hx
      have HX := Lib.hid hx
      clear hx
      have hki2 : (k : Int) ≤ m1 + m2 := by omega
      have hki3 : (0 : Int) ≤ k := by omega
      have hkm2 : (k : Int) + m2 < m1 + m2 := by omega
      have hne : ¬ (m1 + m2 = k) := by omega
      go_wp2_with (go_at_call 40; refine (addMul_any wr g k _ _ zs hr B A2 m2 c2 (trimmed ys) hs2r hgB (by rw [HZL.out]; omega) (by omega) hdz hdy x hxl).mono ?_; rintro e w3 ⟨c, zs3, rfl, hc1, hR3, ho3, hsz3, hl3, hd3, hzz3, hv3⟩; have HZ3 := Lib.hid hsz3; have HL3 := Lib.hid hl3; have HV3 := Lib.hid hv3; have HZZ3 := Lib.hid hzz3; clear hsz3 hl3 hv3 hzz3; have h0 : Hid (zs3[k + m2]? = some 0) := (by show _ = _; rw [HZZ3.out (k + m2) (by omega)]; exact HZZ.out (k + m2) (Nat.le_refl _) (by omega)); have hcell := hR3.at_ h0.out; have hf3 := hR3.frozen)
      go_roundw
      case rel => exact ⟨k + 1, zs3.set (k + m2) c, by omega, by go_num, hR3.set _ _, (ho.trans ho3).set _ _, by simpa [World.setCell] using HZ3.out.trans HZ.out, by simp [HL3.out, HZL.out], hd3.set _ hc1, fun t ht1 ht2 => by rw [List.getElem?_set_ne (by omega), HZZ3.out t (by omega)]; exact HZZ.out t (by omega) ht2, lmul_row h0.out HX.out HV.out HV3.out⟩
      case measure => simp [intOf]; omega
    · obtain rfl : k = m1 := by omega
      have hsl := hr.sl (by rw [HZL.out]; omega)
      rw [HZL.out] at hsl
      go_wp2_with (go_at_call 38; refine (ltrim_sl _ _ _ _ _ _ hsl).mono ?_; rintro e w4 ⟨m, rfl, h7, h8, rfl⟩)
      go_ret
      exact retN_trim h7 hdz (by rw [HV.out, List.take_of_length_le (by rw [← h3.len]; omega), (trimmed_nm hd).2.2, (trimmed_nm hd2).2.2]) hbel
end Go.Proofs.Ytfiakaenenbhpaa
