/- The reference's Power2, Bit, small, times. -/
import Derived.Test.YtfiakaenenbhpaaLimbO
import Derived.Test.YtfiakaenenbhpaaLimbK
import Derived.Test.YtfiakaenenbhpaaRefI
namespace Go.Proofs.Ytfiakaenenbhpaa
open Go.RowKit

set_option maxRecDepth 100000 in
set_option maxHeartbeats 800000 in
theorem power2_any (w : World) (n : Nat) (hn : n ≤ 1000000) :
    Calls Try.prog 25 #[.int .i64 (n : Int)] w fun e w' => RetN b32 w (2 ^ n) e w' := by
  obtain ⟨L, hL⟩ : ∃ L, n / 32 = L := ⟨_, rfl⟩
  obtain ⟨p, hp⟩ : ∃ p, n % 32 = p := ⟨_, rfl⟩
  have hLi : (n : Int) / 32 = (L : Int) := by omega
  have hpi : (n : Int) % 32 = (p : Int) := by omega
  have hp64 : (p : Int) < 64 := by omega
  have hp32 : p < 32 := by omega
  have hL6 : L ≤ 1000000 := by omega
  have hsn : 2 ^ n = b32 ^ L * 2 ^ p := by
    rw [show b32 = 2 ^ 32 from rfl, ← Nat.pow_mul, ← Nat.pow_add]
    congr 1
    omega
  have hpow : 2 ^ p < 4294967296 := Nat.pow_lt_pow_right (a := 2) (m := p) (n := 32) (by decide) hp32
  have hwr : IntKind.u64.wrap ((2 : Int) ^ p) = ((2 ^ p : Nat) : Int) := by
    have h := wrap_nat64 (y := 2 ^ p) (by omega)
    rw [Int.natCast_pow] at h ⊢
    exact h
  have HSN := Lib.hid hsn
  have HPOW := Lib.hid hpow
  have HWR := Lib.hid hwr
  clear hsn hL hp hpow hwr
  go_enter Try.func25, Try.ntmps25
  go_wp2_with (at_make; refine wl_make rfl _ _ Try.underlying26 rfl _ (L + 1) rfl (by omega) (by omega) ?_; intro w1 hR hB1 hz1; obtain ⟨g, hg⟩ : ∃ g, g = w.heap.size := ⟨_, rfl⟩; rw [← hg] at hR ⊢; have HG := Lib.hid hg; have HZ1 := Lib.hid hz1; clear hg hz1; have hget : (List.replicate (L + 1) 0)[L]? = some 0 := (by rw [List.getElem?_replicate, if_pos (by omega)]); have hc := hR.at_ hget; have hf := hR.frozen)
  go_ret
  have hR2 := hR.set_ (i := L) HWR.out
  have hsl := hR2.sl (by simp; omega)
  rw [List.length_set, List.length_replicate] at hsl
  refine ⟨(List.replicate (L + 1) 0).set L (2 ^ p), ⟨?_, ?_, ?_⟩, _, _, _, rfl, hsl, hB1.setCell (p := ⟨g, L, none⟩) (by rw [HG.out]; exact Nat.le_refl _) _⟩
  · exact (dg_zeros b32_pos _).set _ (lt32.2 HPOW.out)
  · intro x hx
    rw [List.getLast?_eq_getElem?, List.length_set, List.length_replicate, Nat.add_sub_cancel, set_get _ (by simp)] at hx
    obtain rfl := Option.some.inj hx
    exact Nat.ne_of_gt (Nat.pow_pos (by decide))
  · have h := V_set (B := b32) (2 ^ p) hget
    rw [V_replicate] at h
    simp at h
    rw [h, HSN.out]

set_option maxRecDepth 100000 in
set_option maxHeartbeats 800000 in
theorem rbit_any (w : World) (B : Nat) (A : Option Addr) (n c : Nat) (xs : List Nat) (hs : Sl w B A n c xs) (hd : Dg b32 xs) (i : Int) (hi : i ≤ 9223372036854775807) :
    Calls Try.prog 28 #[.slice A n c, .int .i64 i] w fun e w' => e = .returned (.int .u64 (if i < 0 then 0 else ((V b32 xs / 2 ^ i.toNat % 2 : Nat) : Int))) ∧ w = w' := by
  by_cases hi0 : i < 0
  · rw [if_pos hi0]
    go_enter Try.func28, Try.ntmps28
    go_wp2
    go_ret
    exact ⟨rfl, rfl⟩
  · rw [if_neg hi0]
    obtain ⟨i, rfl⟩ := Int.eq_ofNat_of_zero_le (Int.not_lt.1 hi0)
    rw [Int.toNat_natCast]
    obtain ⟨L, hL⟩ : ∃ L, i / 32 = L := ⟨_, rfl⟩
    obtain ⟨p, hp⟩ : ∃ p, i % 32 = p := ⟨_, rfl⟩
    have hLi : (i : Int) / 32 = (L : Int) := by omega
    have hpi : (i : Int) % 32 = (p : Int) := by omega
    have hp64 : (p : Int) < 64 := by omega
    have hp32 : p < 32 := by omega
    have hbt : ∀ x, xs[L]?.getD 0 = x → V b32 xs / 2 ^ i % 2 = x / 2 ^ p % 2 := by
      intro x hx
      have e1 : 2 ^ i = b32 ^ L * 2 ^ p := by
        rw [show b32 = 2 ^ 32 from rfl, ← Nat.pow_mul, ← Nat.pow_add]
        congr 1
        omega
      have e3 : b32 = 2 ^ p * (2 * 2 ^ (31 - p)) := by
        rw [← Nat.pow_succ', ← Nat.pow_add, show p + (31 - p + 1) = 32 by omega]
        rfl
      rw [e1, ← Nat.div_div_eq_div_mul, div_pow_digits b32_pos xs hd, hx]
      generalize V b32 (xs.drop (L + 1)) = T
      rw [e3, Nat.mul_assoc, Nat.mul_comm (2 ^ p), Nat.add_mul_div_right _ _ (Nat.pow_pos (by decide)), Nat.mul_assoc, Nat.add_mul_mod_self_left]
    have HBT := Lib.hid hbt
    clear hbt hL hp
    by_cases hlt : L < n
    · obtain ⟨b, off, x, rfl, hb, hx, hc⟩ := hs.at_ hlt
      have hge : ¬ (n : Int) ≤ (L : Int) := by omega
      have hLi2 : (L : Int) < n := by omega
      obtain ⟨v, hv⟩ : ∃ v, V b32 xs / 2 ^ i % 2 = v := ⟨_, rfl⟩
      have hfin : ((x : Int) / 2 ^ p).tmod 2 = (v : Int) := by
        have h1 : (x : Int) / 2 ^ p = ((x / 2 ^ p : Nat) : Int) := by rw [Int.natCast_ediv, Int.natCast_pow]; rfl
        rw [← hv, HBT.out x (by rw [hx, Option.getD_some]), h1]
        rfl
      rw [hv]
      have HF := Lib.hid hfin
      clear hfin hx hv
      go_enter Try.func28, Try.ntmps28
      go_wp2
      go_ret
      refine ⟨?_, rfl⟩
      show Ending.returned (.int .u64 (((x : Int) / 2 ^ p).tmod 2)) = _
      rw [HF.out]
    · have hge : (n : Int) ≤ (L : Int) := by omega
      rw [HBT.out 0 (by rw [List.getElem?_eq_none (by rw [← hs.len]; omega)]; rfl)]
      simp only [Nat.zero_div, Nat.zero_mod]
      go_enter Try.func28, Try.ntmps28
      go_wp2
      go_ret
      exact ⟨rfl, rfl⟩

theorem bit_neg (w : World) (A : Option Addr) (n c : Nat) (i : Int) (hi : i < 0) :
    Calls Try.prog 30 #[.slice A n c, .int .i64 i] w fun e w' => e = .returned (.int .u64 0) ∧ w = w' := by
  go_enter Try.func30, Try.ntmps30
  go_wp2
  go_ret
  exact ⟨rfl, rfl⟩

theorem small_step {xs zs : List Nat} {m r x t : Nat} (hx : xs[t]? = some x) (hl : t < zs.length) (h : V b32 (xs.drop (t + 1)) = m * V b32 (zs.drop (t + 1)) + r) :
    V b32 (xs.drop t) = m * V b32 ((zs.set t ((r * 4294967296 + x) / m)).drop t) + (r * 4294967296 + x) % m := by
  have hx' := (List.getElem?_eq_some_iff.1 hx)
  obtain ⟨ht, hxe⟩ := hx'
  have e1 : (zs.set t ((r * 4294967296 + x) / m)).drop t = ((r * 4294967296 + x) / m) :: zs.drop (t + 1) := by
    rw [List.drop_eq_getElem_cons (l := zs.set t ((r * 4294967296 + x) / m)) (i := t) (by rw [List.length_set]; exact hl), List.drop_set_of_lt (by omega), List.getElem_set_self]
  rw [List.drop_eq_getElem_cons ht, hxe, V_cons, h, e1, V_cons]
  have h1 := Nat.div_add_mod (r * 4294967296 + x) m
  have e : b32 = 4294967296 := rfl
  rw [Nat.mul_add, Nat.mul_add, Nat.mul_left_comm b32 m, e]
  omega

set_option maxRecDepth 100000 in
set_option maxHeartbeats 800000 in
theorem small_any (w : World) (B : Nat) (hB : B ≤ w.heap.size) (A : Option Addr) (n c : Nat) (xs : List Nat) (hs : Sl w B A n c xs) (hd : Dg b32 xs) (hn : n ≤ 1000000000) (m : Nat) (hm0 : 0 < m) (hm : m < 4294967296) :
    Calls Try.prog 47 #[.slice A n c, .int .u64 (m : Int)] w fun e w' => ∃ A' n' c' q, e = .returned (.tuple #[.slice A' n' c', .int .u64 ((V b32 xs % m : Nat) : Int)]) ∧ Nm b32 q (V b32 xs / m) ∧ Sl w' w'.heap.size A' n' c' q ∧ Below w.heap.size w w' := by
  have hlc := hs.cap
  have hmx := hs.max
  have hmi : (0 : Int) < m := by omega
  have hmi2 : (m : Int) < 4294967296 := by omega
  obtain ⟨Q0, hQ0⟩ : ∃ q, V b32 xs / m = q := ⟨_, rfl⟩
  obtain ⟨R0, hR0⟩ : ∃ q, V b32 xs % m = q := ⟨_, rfl⟩
  rw [hQ0, hR0]
  have HQ0 := Lib.hid hQ0
  have HR0 := Lib.hid hR0
  clear hQ0 hR0
  go_enter Try.func47, Try.ntmps47
  go_wp2_with (at_make; refine wl_make rfl _ _ Try.underlying26 rfl _ n rfl (by omega) (by omega) ?_; intro w1 hR hB1 hz1; obtain ⟨g, hg⟩ : ∃ g, g = w.heap.size := ⟨_, rfl⟩; rw [← hg] at hR ⊢; have HG := Lib.hid hg; have HZ1 := Lib.hid hz1; clear hg hz1)
  go_loopw [7, 8] (fun cv i wr => ∃ k zs r, k ≤ n ∧ i = .int .i64 ((k : Int) - 1) ∧ cv = .int .u64 ((r : Nat) : Int) ∧ r < m ∧ Row wr g zs ∧ Only w1 wr g ∧ wr.heap.size = w1.heap.size ∧ zs.length = n ∧ Dg b32 zs ∧ V b32 (xs.drop k) = m * V b32 (zs.drop k) + r) (fun _ i _ => (intOf i + 1).toNat)
  case atStart => exact ⟨n, _, 0, Nat.le_refl _, rfl, rfl, hm0, hR, Only.refl _ _, rfl, by simp, dg_zeros b32_pos _, by rw [List.drop_of_length_le (by rw [← hs.len]; exact Nat.le_refl _), List.drop_of_length_le (by simp)]; simp [V]⟩
  case round =>
    obtain ⟨k, zs, r, hk, rfl, rfl, hrm, hr, ho, hz, hzl, hdz, hv⟩ := hrel
    have HZ := Lib.hid hz
    have HZL := Lib.hid hzl
    have HV := Lib.hid hv
    clear hz hzl hv
    have hbel : Below w.heap.size w wr := hB1.trans (ho.below (by rw [HG.out]; exact Nat.le_refl _) (by rw [HZ1.out]; omega))
    by_cases h0 : k = 0
    · subst h0
      have hsl := hr.sl (by rw [HZL.out]; omega)
      rw [HZL.out] at hsl
      have hv := HV.out
      rw [List.drop_zero, List.drop_zero] at hv
      have hR9 : R0 = r := by rw [← HR0.out, hv, Nat.mul_add_mod, Nat.mod_eq_of_lt hrm]
      have hQ9 : Q0 = V b32 zs := by rw [← HQ0.out, hv, Nat.mul_add_div hm0, Nat.div_eq_of_lt hrm, Nat.add_zero]
      clear HR0 HQ0
      have HQ9 := Lib.hid hQ9
      have HR9 := Lib.hid hR9
      clear hQ9 hR9
      go_wp2_with (go_at_call 36; refine (rtrim_sl _ _ _ _ _ zs hsl).mono ?_; rintro e w2 ⟨t, rfl, h1, h2, rfl⟩)
      go_ret2
      exact ⟨_, _, _, _, by rw [HR9.out]; rfl, HQ9.out ▸ trimmed_nm hdz, h1, hbel⟩
    · obtain ⟨t, rfl⟩ : ∃ t, k = t + 1 := ⟨k - 1, by omega⟩
      have hsr := hs.below (hbel.mono hB)
      obtain ⟨b, off, x, rfl, hb, hx, hc⟩ := hsr.at_ (k := t) (by omega)
      have hxl := lt32.1 (hd.get hx)
      have hxi : (x : Int) < 4294967296 := by omega
      have hti : ((t + 1 : Nat) : Int) - 1 = (t : Int) := by omega
      have htn : (t : Int) < n := by omega
      have hbg : b ≠ g := by have := HG.out; omega
      have hbg' : g ≠ b := fun e => hbg e.symm
      obtain ⟨y, hy⟩ := get_lt (zs := zs) (k := t) (by rw [HZL.out]; omega)
      have hcy := hr.at_ hy
      have hf := hr.frozen
      have hst := small_step hx (zs := zs) (by rw [HZL.out]; omega) HV.out
      have hrb : r * 4294967296 + x < m * 4294967296 := by omega
      have hrb2 : (r : Int) * 4294967296 + x < 18446744073709551616 := by omega
      have hq : (r * 4294967296 + x) / m < 4294967296 := Nat.div_lt_of_lt_mul hrb
      have hr1 : (r * 4294967296 + x) % m < m := Nat.mod_lt _ hm0
      obtain ⟨cv, hcv⟩ : ∃ cv, r * 4294967296 + x = cv := ⟨_, rfl⟩
      have hcvi : (r : Int) * 4294967296 + x = (cv : Int) := by omega
      rw [hcv] at hq hr1 hst
      have hwq : IntKind.u64.wrap ((cv : Int) / m) = ((cv / m : Nat) : Int) := by rw [← Int.natCast_ediv, wrap_nat64 (by omega)]
      have HWQ := Lib.hid hwq
      have HST := Lib.hid hst
      have HQ := Lib.hid hq
      have HR1 := Lib.hid hr1
      have HCV := Lib.hid hcv
      have hcv64 : (cv : Int) < 18446744073709551616 := by omega
      clear hst hy hx hq hr1 hcv hrb2 hwq
      go_wp2
      go_roundw
      case rel =>
        exact ⟨t, zs.set t (cv / m), cv % m, by omega, rfl, rfl, HR1.out, hr.set_ HWQ.out, ho.set _ _, by simpa [World.setCell] using HZ.out, by simp [HZL.out], hdz.set _ (lt32.2 HQ.out), HST.out⟩
      case measure => simp [intOf]

theorem times_step {xs zs : List Nat} {s c x k : Nat} (hx : xs[k]? = some x) (hl : k < zs.length) (h : V b32 (zs.take k) + b32 ^ k * c = s * V b32 (xs.take k)) :
    V b32 ((zs.set k ((c + x * s) % 4294967296)).take (k + 1)) + b32 ^ (k + 1) * ((c + x * s) / 4294967296) = s * V b32 (xs.take (k + 1)) := by
  rw [V_set_take _ hl, V_take_succ hx, Nat.mul_add, ← h, Nat.pow_succ]
  have h1 := Nat.div_add_mod (c + x * s) 4294967296
  have h2 : b32 ^ k * ((c + x * s) % 4294967296) + b32 ^ k * b32 * ((c + x * s) / 4294967296) = b32 ^ k * (c + x * s) := by
    rw [Nat.mul_assoc, ← Nat.mul_add]
    congr 1
    rw [show b32 = 4294967296 from rfl]
    omega
  rw [Nat.mul_add] at h2
  have h3 : s * (b32 ^ k * x) = b32 ^ k * (x * s) := by rw [Nat.mul_left_comm, Nat.mul_comm s]
  omega

set_option maxRecDepth 100000 in
set_option maxHeartbeats 800000 in
theorem times_any (w : World) (B : Nat) (hB : B ≤ w.heap.size) (A : Option Addr) (n c : Nat) (xs : List Nat) (hs : Sl w B A n c xs) (hd : Dg b32 xs) (hn : n ≤ 1000000000) (s : Nat) (hs1 : s < 4294967296) :
    Calls Try.prog 48 #[.slice A n c, .int .u64 (s : Int)] w fun e w' => ∃ g zs, e = .returned (.slice (some ⟨g, 0, none⟩) (n + 1) (n + 1)) ∧ w.heap.size ≤ g ∧ Row w' g zs ∧ zs.length = n + 1 ∧ Dg b32 zs ∧ V b32 zs = s * V b32 xs ∧ Below w.heap.size w w' := by
  have hlc := hs.cap
  have hmx := hs.max
  have HL := Lib.hid hs.len
  go_enter Try.func48, Try.ntmps48
  go_wp2_with (at_make; refine wl_make rfl _ _ Try.underlying26 rfl _ (n + 1) rfl (by omega) (by omega) ?_; intro w1 hR hB1 hz1; obtain ⟨g, hg⟩ : ∃ g, g = w.heap.size := ⟨_, rfl⟩; rw [← hg] at hR ⊢; have HG := Lib.hid hg; have HZ1 := Lib.hid hz1; clear hg hz1)
  go_loopw [6, 7] (fun cv i wr => ∃ k zs r, k ≤ n ∧ i = .int .i64 (k : Nat) ∧ cv = .int .u64 ((r : Nat) : Int) ∧ r < 4294967296 ∧ Row wr g zs ∧ Only w1 wr g ∧ wr.heap.size = w1.heap.size ∧ zs.length = n + 1 ∧ Dg b32 zs ∧ (∀ t, k ≤ t → t < n + 1 → zs[t]? = some 0) ∧ V b32 (zs.take k) + b32 ^ k * r = s * V b32 (xs.take k)) (fun _ i _ => n - (intOf i).toNat)
  case atStart => exact ⟨0, _, 0, Nat.zero_le _, rfl, rfl, by omega, hR, Only.refl _ _, rfl, by simp, dg_zeros b32_pos _, fun t _ ht => by simp [ht], by simp [V]⟩
  case round =>
    obtain ⟨k, zs, r, hk, rfl, rfl, hrl, hr, ho, hz, hzl, hdz, hzz, hv⟩ := hrel
    have HZ := Lib.hid hz
    have HZL := Lib.hid hzl
    have HV := Lib.hid hv
    have HZZ := Lib.hid hzz
    clear hz hzl hv hzz
    have hgw : w.heap.size ≤ g := by rw [HG.out]; exact Nat.le_refl _
    have hbel : Below w.heap.size w wr := hB1.trans (ho.below hgw (by rw [HZ1.out]; omega))
    have hcy := hr.at_ (HZZ.out k (Nat.le_refl _) (by omega))
    have hf := hr.frozen
    by_cases hlt : k < n
    · have hsr := hs.below (hbel.mono hB)
      have hki : (k : Int) < n := by omega
      obtain ⟨b, off, x, rfl, hb, hx, hc⟩ := hsr.at_ hlt
      have hxl := lt32.1 (hd.get hx)
      have hbg : b ≠ g := by have := HG.out; omega
      have hbg' : g ≠ b := fun e => hbg e.symm
      have hst := times_step hx (zs := zs) (by rw [HZL.out]; omega) HV.out
      have hxs := mul_le32 (x := x) (y := s) (by omega) (by omega)
      obtain ⟨cv, hcv⟩ : ∃ cv, r + x * s = cv := ⟨_, rfl⟩
      have hcvi : (r : Int) + (x : Int) * s = (cv : Int) := by rw [← Int.natCast_mul]; omega
      have hcv64 : (cv : Int) < 18446744073709551616 := by omega
      have hxsi : (x : Int) * s < 18446744073709551616 := by rw [← Int.natCast_mul]; omega
      have hxs0 : (0 : Int) ≤ (x : Int) * s := Int.mul_nonneg (by omega) (by omega)
      have hc2 : cv / 4294967296 < 4294967296 := by omega
      rw [hcv] at hst
      have HST := Lib.hid hst
      clear hst hx hcv hxs
      go_wp2
      go_roundw
      case rel =>
        exact ⟨k + 1, zs.set k (cv % 4294967296), cv / 4294967296, by omega, by go_num, rfl, hc2, hr.set_ (by omega), ho.set _ _, by simpa [World.setCell] using HZ.out, by simp [HZL.out], hdz.set _ (Nat.mod_lt _ (by decide)), fun t h1 h2 => by rw [List.getElem?_set_ne (by omega)]; exact HZZ.out t (by omega) h2, HST.out⟩
      case measure => simp [intOf]; omega
    · obtain rfl : k = n := by omega
      go_wp2
      go_ret
      refine ⟨g, zs.set k r, rfl, hgw, hr.set _ _, by simp [HZL.out], hdz.set _ (lt32.2 hrl), ?_, hbel.setCell (p := ⟨g, k, none⟩) hgw _⟩
      have h1 := V_set_take (B := b32) r (zs := zs) (k := k) (by rw [HZL.out]; omega)
      rw [List.take_of_length_le (by rw [List.length_set, HZL.out]; exact Nat.le_refl _)] at h1
      rw [h1, HV.out, List.take_of_length_le (by rw [← HL.out]; exact Nat.le_refl _)]
end Go.Proofs.Ytfiakaenenbhpaa
