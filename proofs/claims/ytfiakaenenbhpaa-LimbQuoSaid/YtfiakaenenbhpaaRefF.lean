/- The reference's Mul. -/
import Derived.Test.YtfiakaenenbhpaaRefE
namespace Go.Proofs.Ytfiakaenenbhpaa
open Go.RowKit

set_option maxRecDepth 100000 in
set_option maxHeartbeats 1600000 in
theorem rmul_any (w : World) (B : Nat) (hB : B ≤ w.heap.size) (A1 : Option Addr) (n1 c1 : Nat) (xs : List Nat) (hs1 : Sl w B A1 n1 c1 xs) (A2 : Option Addr) (n2 c2 : Nat) (ys : List Nat) (hs2 : Sl w B A2 n2 c2 ys)
    (hd : Dg b32 xs) (hd2 : Dg b32 ys) (h1 : n1 ≤ 1000000000) (h2 : n2 ≤ 1000000000) :
    Calls Try.prog 15 #[.slice A1 n1 c1, .slice A2 n2 c2] w fun e w' => RetN b32 w (V b32 xs * V b32 ys) e w' := by
  have hlc1 := hs1.cap
  have hm1 := hs1.max
  have hlc2 := hs2.cap
  have hm2 := hs2.max
  go_enter Try.func15, Try.ntmps15
  go_wp2_with (at_make; refine wl_make rfl _ _ Try.underlying26 rfl _ (n1 + n2) rfl (by omega) (by omega) ?_; intro w1 hR hB1 hz1; obtain ⟨g, hg⟩ : ∃ g, g = w.heap.size := ⟨_, rfl⟩; rw [← hg] at hR ⊢; have HG := Lib.hid hg; have HZ1 := Lib.hid hz1; clear hg hz1)
  go_loopw [6] (fun i wr => ∃ k zs, k ≤ n1 ∧ i = .int .i64 (k : Nat) ∧ Row wr g zs ∧ Only w1 wr g ∧ wr.heap.size = w1.heap.size ∧ zs.length = n1 + n2 ∧ Dg b32 zs ∧ (∀ t, k + n2 ≤ t → t < n1 + n2 → zs[t]? = some 0) ∧ V b32 zs = V b32 (xs.take k) * V b32 ys) (fun i _ => n1 - (intOf i).toNat)
  case atStart => exact ⟨0, _, Nat.zero_le _, rfl, hR, Only.refl _ _, rfl, by simp, dg_zeros b32_pos _, fun t _ ht => by simp [ht], by rw [V_replicate]; simp [V]⟩
  case round =>
    obtain ⟨k, zs, hk, rfl, hr, ho, hz, hzl, hdz, hzz, hv⟩ := hrel
    obtain ⟨wo, rfl⟩ : ∃ wo : World, wo = wr := ⟨_, rfl⟩
    have HZ := Lib.hid hz
    have HZL := Lib.hid hzl
    have HV := Lib.hid hv
    have HZZ := Lib.hid hzz
    clear hz hzl hv hzz
    have hbel : Below w.heap.size w wo := hB1.trans (ho.below (by rw [HG.out]; exact Nat.le_refl _) (by rw [HZ1.out]; omega))
    by_cases hlt : k < n1
    · have hs1r := hs1.below (hbel.mono hB)
      have hki : (k : Int) < n1 := by omega
      obtain ⟨b, off, x, rfl, hb1, hx, hc⟩ := hs1r.at_ hlt
      have hxl : (x : Int) < 4294967296 := by have := lt32.1 (hd.get hx); omega
      have HX := Lib.hid hx
      clear hx
      go_wp2
      go_loopw [7, 9] (fun cv j wr => ∃ t c zs', t ≤ n2 ∧ j = .int .i64 (t : Nat) ∧ cv = .int .u64 ((c : Nat) : Int) ∧ c < 4294967296 ∧ Row wr g zs' ∧ Only w1 wr g ∧ wr.heap.size = w1.heap.size ∧ zs'.length = n1 + n2 ∧ Dg b32 zs' ∧ (∀ t, k + n2 ≤ t → t < n1 + n2 → zs'[t]? = some 0) ∧ V b32 zs' + b32 ^ (k + t) * c = V b32 zs + b32 ^ k * (x * V b32 (ys.take t))) (fun _ j _ => n2 - (intOf j).toNat)
      case atStart => exact ⟨0, 0, zs, Nat.zero_le _, rfl, rfl, by omega, hr, ho, HZ.out, HZL.out, hdz, HZZ.out, by simp [V]⟩
      case round =>
        obtain ⟨t, c, zs', ht, rfl, rfl, hc1, hr', ho', hz', hzl', hdz', hzz', hv'⟩ := hrel
        have HZ' := Lib.hid hz'
        have HZL' := Lib.hid hzl'
        have HV' := Lib.hid hv'
        have HZZ' := Lib.hid hzz'
        clear hz' hzl' hv' hzz'
        have hf := hr'.frozen
        have hbel' : Below w.heap.size w wr := hB1.trans (ho'.below (by rw [HG.out]; exact Nat.le_refl _) (by rw [HZ1.out]; omega))
        by_cases hlt2 : t < n2
        · have hs2r := hs2.below (hbel'.mono hB)
          have hti : (t : Int) < n2 := by omega
          obtain ⟨b2, off2, y, rfl, hb2, hy, hc2⟩ := hs2r.at_ hlt2
          have hyl : (y : Int) < 4294967296 := by have := lt32.1 (hd2.get hy); omega
          have HY := Lib.hid hy
          clear hy
          have hbg2 : b2 ≠ g := by have := HG.out; omega
          have hbg2' : g ≠ b2 := fun e => hbg2 e.symm
          obtain ⟨d, hd0⟩ := get_lt (zs := zs') (k := k + t) (by rw [HZL'.out]; omega)
          have hcy := hr'.at_ hd0
          have hdl : (d : Int) < 4294967296 := by have := lt32.1 (hdz'.get hd0); omega
          have hst := mul_step (B := b32) (i := k) (j := t) (c := c) (x := x) hd0 HY.out HV'.out
          have HST := Lib.hid hst
          clear hst hd0
          have hxy : (x : Int) * (y : Int) ≤ 18446744065119617025 := by have h := mul_le32 (x := x) (y := y) (by omega) (by omega); rw [← Int.natCast_mul]; omega
          have hxy0 : (0 : Int) ≤ (x : Int) * (y : Int) := Int.mul_nonneg (by omega) (by omega)
          have hkt : (0 : Int) ≤ (k : Int) + t := by omega
          have hkt2 : (k : Int) + t < n1 + n2 := by omega
          go_wp2
          go_quiet (fail)
          go_wp2
          have hxyN : ((x * y : Nat) : Int) = (x : Int) * y := Int.natCast_mul ..
          have hlast : (c + (d + x * y)) / 4294967296 < 4294967296 := by have h := mul_le32 (x := x) (y := y) (by omega) (by omega); omega
          go_roundw
          case rel => exact ⟨t + 1, (c + (d + x * y)) / 4294967296, zs'.set (k + t) ((c + (d + x * y)) % 4294967296), by omega, by go_num, by go_num, hlast, (hr'.drewN _).set_ (by omega), ((ho'.drewN _).set _ _), by simpa [World.setCell] using HZ'.out, by simp [HZL'.out], hdz'.set _ (Nat.mod_lt _ (by decide)), fun u hu1 hu2 => by rw [List.getElem?_set_ne (by omega)]; exact HZZ'.out u hu1 hu2, HST.out⟩
          case measure => simp [intOf]; omega
        · obtain rfl : t = n2 := by omega
          have hcy := hr'.at_ (HZZ'.out (k + t) (Nat.le_refl _) (by omega))
          have hkt : (0 : Int) ≤ (k : Int) + t := by omega
          have hkt2 : (k : Int) + t < n1 + t := by omega
          go_wp2
          go_roundw
          case rel => exact ⟨k + 1, zs'.set (k + t) c, by omega, by go_num, hr'.set _ _, ho'.set _ _, by simpa [World.setCell] using HZ'.out, by simp [HZL'.out], hdz'.set _ (by rw [lt32]; omega), fun u hu1 hu2 => by rw [List.getElem?_set_ne (by omega)]; exact HZZ'.out u (by omega) hu2, mul_row (HZZ'.out _ (Nat.le_refl _) (by omega)) hs2.len HX.out HV.out HV'.out⟩
          case measure => simp [intOf]; omega
    · obtain rfl : k = n1 := by omega
      have hsl := hr.sl (by rw [HZL.out]; omega)
      rw [HZL.out] at hsl
      go_wp2_with (go_at_call 36; refine (rtrim_sl _ _ _ _ _ zs hsl).mono ?_; rintro e w2 ⟨m, rfl, h1, h2, rfl⟩)
      go_ret
      exact retN_trim h1 hdz (by rw [HV.out, List.take_of_length_le (by rw [← hs1.len]; omega)]) hbel
end Go.Proofs.Ytfiakaenenbhpaa
