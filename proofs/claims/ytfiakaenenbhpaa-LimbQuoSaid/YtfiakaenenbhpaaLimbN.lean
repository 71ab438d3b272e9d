/- limb.Shl, Shr. -/
import Derived.Test.YtfiakaenenbhpaaLimbM
namespace Go.Proofs.Ytfiakaenenbhpaa
open Go.RowKit

theorem wrap_mod64 (y : Nat) : IntKind.u64.wrap (y : Int) = ((y % 18446744073709551616 : Nat) : Int) := by
  have e : IntKind.u64.wrap (y : Int) = (y : Int) % 18446744073709551616 := rfl
  rw [e]; omega

/-- a limb more, moved up by p bits -/
theorem shl_step {zs : List Nat} {L c d x p : Nat} (hc : zs[L]? = some c) (hd : zs[L + 1]? = some d) (hd0 : d = 0) (hcp : c < 2 ^ p) (hp : p < 64) (hx : x < b64) :
    c ||| x * 2 ^ p % 18446744073709551616 = c + x * 2 ^ p % 18446744073709551616 ∧ c + x * 2 ^ p % 18446744073709551616 < 18446744073709551616 ∧ x / 2 ^ (64 - p) < b64 ∧
      V b64 ((zs.set L (c + x * 2 ^ p % 18446744073709551616)).set (L + 1) (x / 2 ^ (64 - p))) = V b64 zs + b64 ^ L * (x * 2 ^ p) := by
  have e64 : 18446744073709551616 = 2 ^ p * 2 ^ (64 - p) := by rw [← Nat.pow_add, show p + (64 - p) = 64 by omega]
  have hm : x * 2 ^ p % 18446744073709551616 = 2 ^ p * (x % 2 ^ (64 - p)) := by
    rw [e64, Nat.mul_comm x, Nat.mul_mod_mul_left]
  have hq : x * 2 ^ p / 18446744073709551616 = x / 2 ^ (64 - p) := by
    rw [e64, Nat.mul_comm x, Nat.mul_div_mul_left _ _ (Nat.pow_pos (by decide))]
  refine ⟨?_, ?_, Nat.lt_of_le_of_lt (Nat.div_le_self _ _) hx, ?_⟩
  · rw [hm, Nat.or_comm, ← Nat.two_pow_add_eq_or_of_lt hcp, Nat.add_comm]
  · rw [hm]
    have h1 : x % 2 ^ (64 - p) < 2 ^ (64 - p) := Nat.mod_lt _ (Nat.pow_pos (by decide))
    have h2 := Nat.mul_le_mul_left (2 ^ p) h1
    rw [← e64, Nat.mul_succ] at h2
    omega
  · obtain ⟨lo, hlo⟩ : ∃ lo, x * 2 ^ p % 18446744073709551616 = lo := ⟨_, rfl⟩
    have hdm := Nat.div_add_mod (x * 2 ^ p) 18446744073709551616
    rw [hq, hlo] at hdm
    rw [hlo]
    have h1 := V_set (B := b64) (c + lo) hc
    have hd' : (zs.set L (c + lo))[L + 1]? = some d := by rw [List.getElem?_set_ne (by omega)]; exact hd
    have h2 := V_set (B := b64) (x / 2 ^ (64 - p)) hd'
    subst hd0
    rw [Nat.mul_zero, Nat.add_zero] at h2
    rw [h2, ← hdm, Nat.mul_add, ← Nat.mul_assoc, show b64 ^ L * 18446744073709551616 = b64 ^ (L + 1) from (Nat.pow_succ ..).symm]
    rw [Nat.mul_add] at h1
    omega

set_option maxRecDepth 100000 in
set_option maxHeartbeats 1600000 in
theorem shl_any (w : World) (B : Nat) (hB : B ≤ w.heap.size) (A : Option Addr) (n c : Nat) (xs : List Nat) (hs : Sl w B A n c xs) (hd : Dg b64 xs) (hn : n ≤ 1000000000) (s : Nat) (hs1 : s ≤ 65536) :
    Calls Try.prog 22 #[.slice A n c, .int .i64 (s : Int)] w fun e w' => RetN b64 w (V b64 xs * 2 ^ s) e w' := by
  have hX := trimmed_nm hd
  have HX := Lib.hid hX
  clear hX
  have hs0 : ¬ (s : Int) < 0 := by omega
  have hs2 : ¬ (65536 : Int) < s := by omega
  go_enter Try.func22, Try.ntmps22
  go_wp2_with fail
  refine (ltrim_sl w B A n c xs hs).mono ?_; rintro e w1 ⟨m, rfl, h3, h4, rfl⟩
  have hlc := h3.cap
  have hmx := h3.max
  by_cases h0 : m = 0
  · subst h0
    go_wp2
    go_ret
    have : trimmed xs = [] := List.eq_nil_of_length_eq_zero h3.len.symm
    have hv := HX.out.2.2
    rw [this] at hv
    refine ⟨[], ?_, _, _, _, rfl, Sl.nil _ _ _ (by omega), Below.refl _ _⟩
    rw [← hv]
    exact ⟨fun x hx => (by cases hx), fun x hx => (by cases hx), by simp [V]⟩
  · have hm0 : ((m : Int) == 0) = false := by simp; omega
    obtain ⟨wh, hwh⟩ : ∃ wh, s / 64 = wh := ⟨_, rfl⟩
    obtain ⟨p, hp⟩ : ∃ p, s % 64 = p := ⟨_, rfl⟩
    have hwi : (s : Int) / 64 = (wh : Int) := by omega
    have hpi : (s : Int) % 64 = (p : Int) := by omega
    have hp64 : p < 64 := by omega
    have hwl : wh ≤ 1024 := by omega
    have hsn : 2 ^ s = b64 ^ wh * 2 ^ p := by
      rw [show b64 = 2 ^ 64 from rfl, ← Nat.pow_mul, ← Nat.pow_add]
      congr 1
      omega
    have HSN := Lib.hid hsn
    clear hsn hwh hp
    go_wp2_with (at_make; refine wl_make rfl _ _ Try.underlying23 rfl _ (m + wh + 1) rfl (by omega) (by omega) ?_; intro w1 hR hB1 hz1; obtain ⟨g, hg⟩ : ∃ g, g = w.heap.size := ⟨_, rfl⟩; rw [← hg] at hR ⊢; have HG := Lib.hid hg; have HZ1 := Lib.hid hz1; clear hg hz1)
    have hdx := HX.out.1
    obtain ⟨r, hr64⟩ : ∃ r, 64 - p = r := ⟨_, rfl⟩
    have hri : (64 : Int) - p = (r : Int) := by omega
    have HR := Lib.hid hr64
    clear hr64
    go_loopw [36] (fun i wr => ∃ k zs, k ≤ m ∧ i = .int .i64 (k : Nat) ∧ Row wr g zs ∧ Only w1 wr g ∧ wr.heap.size = w1.heap.size ∧ zs.length = m + wh + 1 ∧ Dg b64 zs ∧ (∀ t, wh + k < t → t < m + wh + 1 → zs[t]? = some 0) ∧ (∃ y, zs[wh + k]? = some y ∧ y < 2 ^ p) ∧ V b64 zs = V b64 ((trimmed xs).take k) * 2 ^ s) (fun i _ => m - (intOf i).toNat)
    case atStart => exact ⟨0, _, Nat.zero_le _, rfl, hR, Only.refl _ _, rfl, by simp, dg_zeros b64_pos _, fun t _ ht => by simp [ht], ⟨0, by rw [List.getElem?_replicate, if_pos (by omega)], Nat.pow_pos (by decide)⟩, by rw [V_replicate]; simp [V]⟩
    case round =>
      obtain ⟨k, zs, hk, rfl, hr, ho, hz, hzl, hdz, hzz, ⟨y, hy, hyp⟩, hv⟩ := hrel
      have HZ := Lib.hid hz
      have HZL := Lib.hid hzl
      have HV := Lib.hid hv
      have HZZ := Lib.hid hzz
      clear hz hzl hv hzz
      have hbel : Below w.heap.size w wr := hB1.trans (ho.below (by rw [HG.out]; exact Nat.le_refl _) (by rw [HZ1.out]; omega))
      by_cases hlt : k < m
      · have hsr := h3.below (hbel.mono hB)
        have hki : (k : Int) < m := by omega
        obtain ⟨b, off, x, rfl, hb1, hx, hc⟩ := hsr.at_ hlt
        have hxl := hdx.get hx
        obtain ⟨d, hdd⟩ : ∃ d, zs[wh + k + 1]? = some d := ⟨0, HZZ.out _ (by omega) (by omega)⟩
        have hd0 : d = 0 := by have := HZZ.out (wh + k + 1) (by omega) (by omega); rw [hdd] at this; exact Option.some.inj this
        have hst := shl_step hy hdd hd0 hyp hp64 hxl
        have hxl64 := lt64.1 hxl
        have hyl := lt64.1 (hdz.get hy)
        have hor : bits BinOp.or IntKind.u64 (y : Int) (IntKind.u64.wrap ((x : Int) * 2 ^ p)) = ((y + x * 2 ^ p % 18446744073709551616 : Nat) : Int) := by
          have e : (x : Int) * 2 ^ p = ((x * 2 ^ p : Nat) : Int) := by rw [Int.natCast_mul, Int.natCast_pow]; rfl
          rw [e, wrap_mod64, or_nat64 hyl (Nat.mod_lt _ (by decide)), hst.1]
        have hcy := hr.at_ hy
        have hcy2 := hr.at_ hdd
        have hup : x / 2 ^ (64 - p) < 2 ^ p := by
          refine Nat.div_lt_of_lt_mul ?_
          rw [← Nat.pow_add, show 64 - p + p = 64 by omega]
          exact hxl64
        rw [HR.out] at hst hup
        have HOR := Lib.hid hor
        have HST := Lib.hid hst
        have HX2 := Lib.hid hx
        have HY := Lib.hid hy
        have HUP := Lib.hid hup
        clear hor hst hx hy hdd hup hd0
        have hfz := hr.frozen
        have hwk : (wh : Int) + k < m + wh + 1 := by omega
        have hwk1 : (wh : Int) + k + 1 < m + wh + 1 := by omega
        have hwk0 : (0 : Int) ≤ (wh : Int) + k := by omega
        have hwk2 : (0 : Int) ≤ (wh : Int) + k + 1 := by omega
        go_wp2
        go_region
        rw [HOR.out]
        go_wp2
        go_roundw
        case rel =>
          have h1 : ((y : Int) + (x : Int) * 2 ^ p % 18446744073709551616) = ((y + x * 2 ^ p % 18446744073709551616 : Nat) : Int) := by rw [Int.natCast_add, Int.natCast_emod, Int.natCast_mul, Int.natCast_pow]; rfl
          have h2 : (x : Int) / 2 ^ r = ((x / 2 ^ r : Nat) : Int) := by rw [Int.natCast_ediv, Int.natCast_pow]; rfl
          refine ⟨k + 1, (zs.set (wh + k) (y + x * 2 ^ p % 18446744073709551616)).set (wh + k + 1) (x / 2 ^ r), by omega, by go_num, (hr.set_ h1).set_ h2, ((ho.set _ _).set _ _).drewN 1, by simpa [World.setCell] using HZ.out, by simp [HZL.out], (hdz.set _ (lt64.2 HST.out.2.1)).set _ HST.out.2.2.1, fun t ht1 ht2 => by rw [List.getElem?_set_ne (by omega), List.getElem?_set_ne (by omega)]; exact HZZ.out t (by omega) ht2, ⟨x / 2 ^ r, ?_, HUP.out⟩, ?_⟩
          · rw [← Nat.add_assoc]; exact set_get _ (by rw [List.length_set, HZL.out]; omega)
          · rw [HST.out.2.2.2, HV.out, V_take_succ HX2.out, HSN.out, Nat.add_mul, Nat.pow_add]
            congr 1
            rw [Nat.mul_assoc, Nat.mul_comm (b64 ^ wh), Nat.mul_assoc, Nat.mul_assoc, Nat.mul_assoc]
            congr 1
            rw [Nat.mul_comm (b64 ^ wh)]
        case measure => simp [intOf]; omega
      · obtain rfl : k = m := by omega
        have hsl := hr.sl (by rw [HZL.out]; omega)
        rw [HZL.out] at hsl
        go_wp2_with (go_at_call 38; refine (ltrim_sl _ _ _ _ _ zs hsl).mono ?_; rintro e w2 ⟨m, rfl, h1, h2, rfl⟩)
        go_ret
        exact retN_trim h1 hdz (by rw [HV.out, List.take_of_length_le (by rw [← h3.len]; omega), HX.out.2.2]) hbel

set_option maxHeartbeats 800000 in
theorem shl_no (w : World) (B : Nat) (A : Option Addr) (n c : Nat) (xs : List Nat) (hs : Sl w B A n c xs) (s : Int) (hs1 : s < 0 ∨ 65536 < s) :
    Calls Try.prog 22 #[.slice A n c, .int .i64 s] w fun e w' => e = .returned (.slice none 0 0) ∧ w = w' := by
  rcases hs1 with h | h
  · go_enter Try.func22, Try.ntmps22
    go_wp2_with fail
    refine (ltrim_sl w B A n c xs hs).mono ?_; rintro e w1 ⟨m, rfl, h3, h4, rfl⟩
    go_wp2
    go_ret
    exact ⟨rfl, rfl⟩
  · have h0 : ¬ s < 0 := by omega
    go_enter Try.func22, Try.ntmps22
    go_wp2_with fail
    refine (ltrim_sl w B A n c xs hs).mono ?_; rintro e w1 ⟨m, rfl, h3, h4, rfl⟩
    go_wp2
    go_ret
    exact ⟨rfl, rfl⟩
end Go.Proofs.Ytfiakaenenbhpaa
