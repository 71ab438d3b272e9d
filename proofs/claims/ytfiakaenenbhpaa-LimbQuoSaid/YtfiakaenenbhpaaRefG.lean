/- The reference's FromBytes. -/
import Derived.Test.YtfiakaenenbhpaaLimbM
namespace Go.Proofs.Ytfiakaenenbhpaa
open Go.RowKit

theorem shl_nat {z x sh : Nat} (hs : z + x * 2 ^ sh < 18446744073709551616) : IntKind.u64.wrap ((z : Int) + IntKind.u64.wrap ((x : Int) * 2 ^ sh)) = ((z + x * 2 ^ sh : Nat) : Int) := by
  have e : (x : Int) * 2 ^ sh = ((x * 2 ^ sh : Nat) : Int) := by rw [Int.natCast_mul, Int.natCast_pow]; rfl
  rw [e, wrap_nat64 (by omega), ← Int.natCast_add, wrap_nat64 hs]

set_option maxRecDepth 100000 in
set_option maxHeartbeats 1600000 in
theorem rfrombytes_any (w : World) (B : Nat) (hB : B ≤ w.heap.size) (A : Option Addr) (n c : Nat) (bs : List Nat) (hs : Sl8 w B A n c bs) (hn : n ≤ 1000000) :
    Calls Try.prog 34 #[.slice A n c] w fun e w' => RetN b32 w (V 256 bs.reverse) e w' := by
  have HL := Lib.hid hs.1
  obtain ⟨m, hm⟩ : ∃ m, m = (n + 3) / 4 := ⟨_, rfl⟩
  have hmi : (((n : Int) + 3) / 4) = (m : Int) := by omega
  have HM := Lib.hid hm
  have hm2 : m ≤ 1000000 := by omega
  clear hm
  go_enter Try.func34, Try.ntmps34
  go_wp2_with (at_make; refine wl_make rfl _ _ Try.underlying26 rfl _ m rfl (by omega) (by omega) ?_; intro w1 hR hB1 hz1; obtain ⟨g, hg⟩ : ∃ g, g = w.heap.size := ⟨_, rfl⟩; rw [← hg] at hR ⊢; have HG := Lib.hid hg; have HZ1 := Lib.hid hz1; clear hg hz1)
  go_loopw [4] (fun i wr => ∃ k zs, k ≤ n ∧ i = .int .i64 (k : Nat) ∧ Row wr g zs ∧ Only w1 wr g ∧ wr.heap.size = w1.heap.size ∧ zs.length = m ∧ Dg b32 zs ∧ V b32 zs = hi bs k) (fun i _ => n - (intOf i).toNat)
  case atStart => exact ⟨0, _, Nat.zero_le _, rfl, hR, Only.refl _ _, rfl, by simp, dg_zeros b32_pos _, by rw [V_replicate, hi_zero]⟩
  case round =>
    obtain ⟨k, zs, hk, rfl, hr, ho, hz, hzl, hdz, hv⟩ := hrel
    have HZ := Lib.hid hz
    have HZL := Lib.hid hzl
    have HV := Lib.hid hv
    clear hz hzl hv
    have hbel : Below w.heap.size w wr := hB1.trans (ho.below (by rw [HG.out]; exact Nat.le_refl _) (by rw [HZ1.out]; omega))
    by_cases hlt : k < n
    · have hsr := hs.below (hbel.mono hB)
      have hki : (k : Int) < n := by omega
      obtain ⟨b, off, x, rfl, hb1, hx, hx8, hc⟩ := hsr.at_ hlt
      have HX := Lib.hid hx
      clear hx
      obtain ⟨j, hj⟩ : ∃ j, j = n - 1 - k := ⟨_, rfl⟩
      have hjn : j + k + 1 = n := by omega
      have hjk : (n : Int) - 1 - k = (j : Int) := by omega
      have hj6 : j ≤ 1000000 := by omega
      have HJN := Lib.hid hjn
      have hLm : j / 4 < m := by have := HM.out; omega
      clear hj hjn
      obtain ⟨z, hzz⟩ := get_lt (zs := zs) (k := j / 4) (by rw [HZL.out]; exact hLm)
      have hda := digit_add (q := 4) (by decide) hdz HV.out (hi_dvd (by rw [← HL.out]; exact HJN.out)) hzz hx8
      have hcz := hr.at_ hzz
      have hfz := hr.frozen
      have h256 : 256 ^ (j % 4) = 2 ^ (j % 4 * 8) := by rw [show (256 : Nat) = 2 ^ 8 from rfl, ← Nat.pow_mul, Nat.mul_comm]
      rw [h256] at hda
      clear h256 hzz
      obtain ⟨L, hL⟩ : ∃ L, j / 4 = L := ⟨_, rfl⟩
      obtain ⟨sh, hsh⟩ : ∃ sh, j % 4 * 8 = sh := ⟨_, rfl⟩
      have hLj : (j : Int) / 4 = (L : Int) := by omega
      have hsj : 8 * ((j : Int) % 4) = (sh : Int) := by omega
      rw [hsh] at hda
      have hz32 : z + x * 2 ^ sh < 4294967296 := hda.2.1
      have hshl := shl_nat (z := z) (x := x) (sh := sh) (by omega)
      have HSHL := Lib.hid hshl
      have HDA := Lib.hid hda
      have HZ32 := Lib.hid hz32
      clear hda hshl hz32
      have hsh64 : (sh : Int) < 64 := by omega
      rw [hL] at hcz hLm
      have hLi : (L : Int) < m := by omega
      have HLL := Lib.hid hL
      clear hL hsh
      have hbg : b ≠ g := by have := HG.out; omega
      have hbg' : g ≠ b := fun e => hbg e.symm
      go_wp2
      go_region
      rw [HSHL.out]
      go_wp2
      go_roundw
      case rel =>
        refine ⟨k + 1, zs.set L (z + x * 2 ^ sh), by omega, by go_num, hr.set _ _, (ho.set _ _).drewN 1, by simpa [World.setCell] using HZ.out, by simp [HZL.out], hdz.set _ HDA.out.2.1, ?_⟩
        have h := HDA.out.2.2
        rw [HLL.out] at h
        rw [hi_succ HX.out (by rw [← HL.out]; exact HJN.out)]
        exact h
      case measure => simp [intOf]; omega
    · obtain rfl : k = n := by omega
      have hsl := hr.sl (by rw [HZL.out]; omega)
      rw [HZL.out] at hsl
      go_wp2_with (go_at_call 36; refine (rtrim_sl _ _ _ _ _ zs hsl).mono ?_; rintro e w2 ⟨m, rfl, h1, h2, rfl⟩)
      go_ret
      exact retN_trim h1 hdz (by rw [HV.out, HL.out, hi_all]) hbel
end Go.Proofs.Ytfiakaenenbhpaa
