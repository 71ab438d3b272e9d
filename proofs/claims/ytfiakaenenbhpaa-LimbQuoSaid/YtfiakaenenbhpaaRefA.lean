/- The reference's From. -/
import Derived.Test.YtfiakaenenbhpaaTrim
import Derived.Test.YtfiakaenenbhpaaLaws
namespace Go.Proofs.Ytfiakaenenbhpaa
open Go.RowKit

/-- two digits of 32 bits for one of 64 -/
theorem from_step {zs xs : List Nat} {k x n : Nat} (hz : zs.length = 2 * n) (hd : Dg b32 zs) (hv : V b32 (zs.take (2 * k)) = V b64 (xs.take k)) (hx : xs[k]? = some x) (hlt : x < b64) (hk : k < n) :
    ((zs.set (2 * k) (x % 4294967296)).set (2 * k + 1) (x / 4294967296)).length = 2 * n ∧ Dg b32 ((zs.set (2 * k) (x % 4294967296)).set (2 * k + 1) (x / 4294967296)) ∧
      V b32 (((zs.set (2 * k) (x % 4294967296)).set (2 * k + 1) (x / 4294967296)).take (2 * (k + 1))) = V b64 (xs.take (k + 1)) := by
  refine ⟨by simp [hz], (hd.set _ (Nat.mod_lt _ (by decide))).set _ (Nat.div_lt_of_lt_mul (by rw [b64_eq] at hlt; exact hlt)), ?_⟩
  rw [show 2 * (k + 1) = 2 * k + 1 + 1 by omega, V_set_take _ (by simp [hz]; omega), V_set_take _ (by omega), hv, V_take_succ hx, Nat.add_assoc]
  congr 1
  rw [b64_eq, Nat.mul_pow, ← Nat.pow_add, ← Nat.two_mul, Nat.pow_succ, Nat.mul_assoc, ← Nat.mul_add]
  congr 1
  have := Nat.mod_add_div x 4294967296
  unfold b32; omega

set_option maxHeartbeats 400000 in
theorem from_any (w : World) (B : Nat) (hB : B ≤ w.heap.size) (A : Option Addr) (n c : Nat) (xs : List Nat) (hs : Sl w B A n c xs) (hd : Dg b64 xs) (hn : n ≤ 1000000000) :
    Calls Try.prog 10 #[.slice A n c] w fun e w' => RetN b32 w (V b64 xs) e w' := by
  have hlc := hs.cap
  have hm := hs.max
  have HL := Lib.hid hs.len
  go_enter Try.func10, Try.ntmps10
  go_wp2_with (at_make; refine wl_make rfl _ _ Try.underlying26 rfl _ (2 * n) rfl (by omega) (by omega) ?_; intro w1 hR hB1 hz1)
  obtain ⟨g, hg⟩ : ∃ g, g = w.heap.size := ⟨_, rfl⟩
  rw [← hg] at hR ⊢
  have HG := Lib.hid hg
  have HZ1 := Lib.hid hz1
  clear hg hz1
  go_loopw [4] (fun i wr => ∃ k zs, k ≤ n ∧ i = .int .i64 (k : Nat) ∧ Row wr g zs ∧ Only w1 wr g ∧ wr.heap.size = w1.heap.size ∧ zs.length = 2 * n ∧ Dg b32 zs ∧ V b32 (zs.take (2 * k)) = V b64 (xs.take k)) (fun i _ => n - (intOf i).toNat)
  case atStart => exact ⟨0, _, Nat.zero_le _, rfl, hR, Only.refl _ _, rfl, by simp, fun x hx => by rw [List.eq_of_mem_replicate hx]; decide, rfl⟩
  case round =>
    obtain ⟨k, zs, hk, rfl, hr, ho, hz, hzl, hdz, hv⟩ := hrel
    have HZ := Lib.hid hz
    have HZL := Lib.hid hzl
    have HV := Lib.hid hv
    clear hz hzl hv
    by_cases hlt : k < n
    · have hsr : Sl wr B A n c xs := (hs.below (hB1.mono hB)).below (ho.below (by rw [HG.out]; exact hB) (by rw [HZ1.out]; omega))
      obtain ⟨b, off, x, rfl, hb, hx, hc⟩ := hsr.at_ hlt
      have hxl := hd.get hx
      have HX := Lib.hid hx
      have hx64 : (x : Int) < 18446744073709551616 := by have := lt64.1 hxl; omega
      have HXL := Lib.hid hxl
      clear hx hxl
      have hf := hr.frozen
      obtain ⟨y, hy⟩ := get_lt (zs := zs) (k := 2 * k) (by rw [HZL.out]; omega)
      have hcy := hr.at_ hy
      obtain ⟨y', hy'⟩ := get_lt (zs := zs) (k := 2 * k + 1) (by rw [HZL.out]; omega)
      have hcy' := hr.at_ hy'
      clear hy hy'
      have hbg : b ≠ g := by have := HG.out; omega
      have hbg' : g ≠ b := fun e => hbg e.symm
      have hkn : (k : Int) < n := by omega
      go_wp2
      go_roundw
      case rel =>
        have hst := from_step HZL.out hdz HV.out HX.out HXL.out hlt
        exact ⟨k + 1, (zs.set (2 * k) (x % 4294967296)).set (2 * k + 1) (x / 4294967296), by omega, by go_num, (hr.set _ _).set _ _, (ho.set _ _).set _ _, by simpa [World.setCell] using HZ.out, hst.1, hst.2.1, hst.2.2⟩
      case measure => simp [intOf]; omega
    · obtain rfl : k = n := by omega
      have hz0 : zs.length ≤ 9223372036854775807 := by rw [HZL.out]; omega
      have hsl := hr.sl hz0
      rw [HZL.out] at hsl
      have hbel : Below w.heap.size w wr := hB1.trans (ho.below (by rw [HG.out]; exact Nat.le_refl _) (by rw [HZ1.out]; omega))
      go_wp2_with (go_at_call 36; refine (rtrim_sl _ _ _ _ _ zs hsl).mono ?_; rintro e w2 ⟨m, rfl, h1, h2, rfl⟩)
      go_ret
      refine ⟨_, ?_, _, _, _, rfl, h1, hbel⟩
      have hnm := trimmed_nm (B := b32) hdz
      have hv := HV.out
      rw [← HZL.out, List.take_length, HL.out, List.take_length] at hv
      rw [hv] at hnm
      exact hnm
end Go.Proofs.Ytfiakaenenbhpaa
