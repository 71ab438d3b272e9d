/- limb.addMul, Mul. -/
import Derived.Test.YtfiakaenenbhpaaLimbB
import Derived.Test.YtfiakaenenbhpaaShelf
namespace Go.Proofs.Ytfiakaenenbhpaa
open Go.RowKit

theorem mul64_any (x y : Nat) (hx : x < b64) (hy : y < b64) (w : World) :
    Calls Try.prog 54 #[.int .u64 x, .int .u64 y] w fun e w' => ∃ hi lo : Nat, e = .returned (.tuple #[.int .u64 (hi : Int), .int .u64 (lo : Int)]) ∧ b64 * hi + lo = x * y ∧ hi < b64 ∧ lo < b64 ∧ w = w' := by
  refine (Try.bits_Mul64 x y (lt64.1 hx) (lt64.1 hy) w).mono fun e w' ⟨he, hw⟩ => ⟨_, _, he, ?_, ?_, ?_, hw.symm⟩
  · have := Nat.div_add_mod (x * y) 18446744073709551616
    exact this
  · apply lt_of_mul_lt_sq (B := b64)
    have h1 := mul_lt_sq hx hy
    have h2 : b64 * (x * y / 18446744073709551616) ≤ x * y := Nat.mul_div_le _ _
    have h3 := b64_pos
    omega
  · exact Nat.mod_lt _ b64_pos

set_option maxRecDepth 100000 in
set_option maxHeartbeats 1600000 in
theorem addMul_any (w : World) (g off nz cz : Nat) (zs : List Nat) (hr : Row w g zs) (B : Nat) (A : Option Addr) (n c : Nat) (ys : List Nat) (hs : Sl w B A n c ys) (hB : B ≤ g)
    (hfit : off + n ≤ zs.length) (hnz : n ≤ nz) (hd : Dg b64 zs) (hd2 : Dg b64 ys) (d : Nat) (hdd : d < b64) :
    Calls Try.prog 40 #[.slice (some ⟨g, off, none⟩) nz cz, .slice A n c, .int .u64 d] w fun e w' =>
      ∃ c zs', e = .returned (.int .u64 ((c : Nat) : Int)) ∧ c < b64 ∧ Row w' g zs' ∧ Only w w' g ∧ w'.heap.size = w.heap.size ∧ zs'.length = zs.length ∧ Dg b64 zs' ∧
        (∀ t, t < off ∨ off + n ≤ t → zs'[t]? = zs[t]?) ∧ V b64 zs' + b64 ^ (off + n) * c = V b64 zs + b64 ^ off * (V b64 ys * d) := by
  have hlc := hs.cap
  have hm := hs.max
  have hgs : g < w.heap.size := hr.lt
  go_enter Try.func40, Try.ntmps40
  go_wp2
  go_loopw [7, 16] (fun cv i wr => ∃ k c zs', k ≤ n ∧ i = .int .i64 (k : Nat) ∧ cv = .int .u64 ((c : Nat) : Int) ∧ c < b64 ∧ Row wr g zs' ∧ Only w wr g ∧ wr.heap.size = w.heap.size ∧ zs'.length = zs.length ∧ Dg b64 zs' ∧
    (∀ t, t < off ∨ off + n ≤ t → zs'[t]? = zs[t]?) ∧ V b64 zs' + b64 ^ (off + k) * c = V b64 zs + b64 ^ off * (V b64 (ys.take k) * d)) (fun _ i _ => n - (intOf i).toNat)
  case atStart => exact ⟨0, 0, zs, Nat.zero_le _, rfl, rfl, b64_pos, hr, Only.refl _ _, rfl, rfl, hd, fun _ _ => rfl, by simp [V]⟩
  case round =>
    obtain ⟨k, c', zs', hk, rfl, rfl, hc1, hr', ho, hz, hzl, hdz, hzz, hv⟩ := hrel
    have HZ := Lib.hid hz
    have HZL := Lib.hid hzl
    have HV := Lib.hid hv
    have HZZ := Lib.hid hzz
    clear hz hzl hv hzz
    by_cases hlt : k < n
    · have hsr := hs.below (ho.below hB (by omega))
      have hf := hr'.frozen
      have hki : (k : Int) < n := by omega
      obtain ⟨b, off', y, rfl, hb, hy, hc⟩ := hsr.at_ hlt
      have hyl := hd2.get hy
      have HY := Lib.hid hy
      clear hy
      obtain ⟨old, hold⟩ := get_lt (zs := zs') (k := off + k) (by rw [HZL.out]; omega)
      have hcy := hr'.at_ hold
      have hol := hdz.get hold
      have HO := Lib.hid hold
      clear hold
      have hkz : (k : Int) < nz := by omega
      go_wp2_with (first | (go_at_call 54; refine (mul64_any y d hyl hdd _).mono ?_; rintro e w1 ⟨hi, lo, rfl, hmu, hhi, hlo, rfl⟩; have HMU := Lib.hid hmu; have HHI := Lib.hid hhi; clear hmu hhi) | (with_reducible show wpList _ _ _ _ _ _; refine wl_add64 (o := ⟨some 33, _, _, _, _, _⟩) rfl _ _ _ rfl lo old 0 rfl rfl rfl hlo hol (Nat.zero_le _) ?_; intro sum c1 hs1 hs2 hs3; simp only [Nat.add_zero] at hs1; have HS := Lib.hid hs1; have hb1 : (hi : Int) + c1 < 18446744073709551616 := (by have := lt64.1 (amul_bound1 HMU.out hyl hdd HS.out hol); omega); have hs2' := hs2; clear hs1) | (with_reducible show wpList _ _ _ _ _ _; refine wl_add64 (o := ⟨some 44, _, _, _, _, _⟩) rfl _ _ _ rfl sum c' 0 rfl rfl rfl hs2' hc1 (Nat.zero_le _) ?_; intro s c2 ht1 ht2 ht3; simp only [Nat.add_zero] at ht1; have HT := Lib.hid ht1; have hb2 : (hi : Int) + c1 + c2 < 18446744073709551616 := (by have := lt64.1 (amul_bound2 HMU.out hyl hdd HS.out hol HT.out hc1); omega); have HT2 := Lib.hid ht2; clear ht1))
      go_roundw
      case rel => exact ⟨k + 1, hi + c1 + c2, zs'.set (off + k) s, by omega, by go_num, by go_num, amul_bound2 HMU.out hyl hdd HS.out hol HT.out hc1, hr'.set _ _, ho.set _ _, by simpa [World.setCell] using HZ.out, by simp [HZL.out], hdz.set _ HT2.out, fun t ht => by rw [List.getElem?_set_ne (by omega)]; exact HZZ.out t ht, addMul_step HO.out HY.out HV.out (amul_eq HMU.out HS.out HT.out)⟩
      case measure => simp [intOf]; omega
    · obtain rfl : k = n := by omega
      go_wp2
      go_ret
      have hv := HV.out
      rw [List.take_of_length_le (by rw [← hs.len]; omega)] at hv
      exact ⟨c', zs', rfl, hc1, hr', ho, HZ.out, HZL.out, hdz, HZZ.out, hv⟩
end Go.Proofs.Ytfiakaenenbhpaa
