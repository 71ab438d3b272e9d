/- limb.FromBytes. -/
import Derived.Test.YtfiakaenenbhpaaLimbJ
import Derived.BigRegion
namespace Go.Proofs.Ytfiakaenenbhpaa
open Go.RowKit

/-- the number of the first k bytes, the others as noughts -/
def hi (bs : List Nat) (k : Nat) : Nat := V 256 ((bs.take k).reverse) * 256 ^ (bs.length - k)
theorem hi_zero (bs : List Nat) : hi bs 0 = 0 := by simp [hi, V]
theorem hi_all (bs : List Nat) : hi bs bs.length = V 256 bs.reverse := by simp [hi]
theorem hi_succ {bs : List Nat} {k j x : Nat} (hx : bs[k]? = some x) (hj : j + k + 1 = bs.length) : hi bs (k + 1) = hi bs k + x * 256 ^ j := by
  have hk : k < bs.length := (List.getElem?_eq_some_iff.1 hx).1
  have e : (bs.take (k + 1)).reverse = x :: (bs.take k).reverse := by
    rw [List.take_add_one, hx]; simp
  unfold hi
  rw [e, V_cons, show bs.length - k = j + 1 by omega, show bs.length - (k + 1) = j by omega, Nat.pow_succ, Nat.add_mul, Nat.add_comm]
  congr 1
  rw [Nat.mul_comm (256 ^ j), ← Nat.mul_assoc, Nat.mul_comm 256]
theorem hi_dvd {bs : List Nat} {k j : Nat} (hj : j + k + 1 = bs.length) : 256 ^ (j + 1) ∣ hi bs k := by
  unfold hi
  rw [show bs.length - k = j + 1 by omega]
  exact Nat.dvd_mul_left _ _
/-- the place of a byte in a digit of q bytes -/
theorem digit_dvd {q : Nat} (hq : 0 < q) {zs : List Nat} {N j z : Nat} (hd : Dg (256 ^ q) zs) (h : V (256 ^ q) zs = N) (hdv : 256 ^ (j + 1) ∣ N) (hz : zs[j / q]? = some z) : 256 ^ (j % q + 1) ∣ z := by
  have hB : 0 < 256 ^ q := Nat.pow_pos (by decide)
  have hp := div_pow_digits hB zs hd (j / q)
  rw [hz, h] at hp
  simp only [Option.getD_some] at hp
  have e1 : 256 ^ (j + 1) = (256 ^ q) ^ (j / q) * 256 ^ (j % q + 1) := by
    rw [← Nat.pow_mul, ← Nat.pow_add]
    congr 1
    have := Nat.div_add_mod j q
    omega
  have h2 : 256 ^ (j % q + 1) ∣ N / (256 ^ q) ^ (j / q) := by
    obtain ⟨t, ht⟩ := hdv
    refine ⟨t, ?_⟩
    rw [ht, e1, Nat.mul_assoc, Nat.mul_div_cancel_left _ (Nat.pow_pos hB)]
  rw [hp] at h2
  have h3 : 256 ^ (j % q + 1) ∣ 256 ^ q * V (256 ^ q) (zs.drop (j / q + 1)) := by
    refine Nat.dvd_trans (Nat.pow_dvd_pow 256 ?_) (Nat.dvd_mul_right _ _)
    have := Nat.mod_lt j hq
    omega
  exact (Nat.dvd_add_left h3).1 h2
/-- a byte more -/
theorem digit_add {q : Nat} (hq : 0 < q) {zs : List Nat} {N j z x : Nat} (hd : Dg (256 ^ q) zs) (h : V (256 ^ q) zs = N) (hdv : 256 ^ (j + 1) ∣ N) (hz : zs[j / q]? = some z) (hx : x < 256) :
    z ||| x * 256 ^ (j % q) = z + x * 256 ^ (j % q) ∧ z + x * 256 ^ (j % q) < 256 ^ q ∧ V (256 ^ q) (zs.set (j / q) (z + x * 256 ^ (j % q))) = N + x * 256 ^ j := by
  have hlt : x * 256 ^ (j % q) < 256 ^ (j % q + 1) := by
    rw [Nat.pow_succ, Nat.mul_comm]
    exact Nat.mul_lt_mul_of_pos_left hx (Nat.pow_pos (by decide))
  have hdz := digit_dvd hq hd h hdv hz
  have hzl := hd.get hz
  obtain ⟨t, rfl⟩ := hdz
  refine ⟨?_, ?_, ?_⟩
  · have e : (256 : Nat) ^ (j % q + 1) = 2 ^ (8 * (j % q + 1)) := by rw [Nat.pow_mul]
    rw [e] at hlt ⊢
    exact (Nat.two_pow_add_eq_or_of_lt hlt t).symm
  · obtain ⟨r, hr⟩ : ∃ r, q = (j % q + 1) + r := ⟨q - (j % q + 1), by have := Nat.mod_lt j hq; omega⟩
    have e : 256 ^ q = 256 ^ (j % q + 1) * 256 ^ r := by rw [← Nat.pow_add, ← hr]
    rw [e] at hzl ⊢
    have h1 := Nat.lt_of_mul_lt_mul_left hzl
    have h2 : 256 ^ (j % q + 1) * (t + 1) ≤ 256 ^ (j % q + 1) * 256 ^ r := Nat.mul_le_mul_left _ h1
    rw [Nat.mul_add, Nat.mul_one] at h2
    omega
  · have hv := V_set (B := 256 ^ q) (256 ^ (j % q + 1) * t + x * 256 ^ (j % q)) hz
    have e1 : 256 ^ j = (256 ^ q) ^ (j / q) * 256 ^ (j % q) := by
      rw [← Nat.pow_mul, ← Nat.pow_add, Nat.div_add_mod]
    rw [h, Nat.mul_add] at hv
    rw [e1, Nat.mul_left_comm]
    omega

theorem wrap_nat64 {y : Nat} (h : y < 18446744073709551616) : IntKind.u64.wrap (y : Int) = (y : Int) := by
  have e : IntKind.u64.wrap (y : Int) = (y : Int) % 18446744073709551616 := rfl
  rw [e]; omega
theorem or_nat64 {z y : Nat} (hz : z < 18446744073709551616) (hy : y < 18446744073709551616) : bits BinOp.or IntKind.u64 (z : Int) (y : Int) = ((z ||| y : Nat) : Int) := by
  have e : bits BinOp.or IntKind.u64 (z : Int) (y : Int) = IntKind.u64.wrap ((BitVec.ofInt 64 (z : Int) ||| BitVec.ofInt 64 (y : Int)).toNat : Int) := rfl
  have h1 : (BitVec.ofInt 64 (z : Int) ||| BitVec.ofInt 64 (y : Int)).toNat = z ||| y := by
    rw [BitVec.ofInt_natCast, BitVec.ofInt_natCast, BitVec.toNat_or, BitVec.toNat_ofNat, BitVec.toNat_ofNat, Nat.mod_eq_of_lt (show z < 2 ^ 64 from hz), Nat.mod_eq_of_lt (show y < 2 ^ 64 from hy)]
  rw [e, h1, wrap_nat64 (Nat.or_lt_two_pow (n := 64) hz hy)]
theorem or_shl {z x sh : Nat} (hz : z < 18446744073709551616) (hs : z + x * 2 ^ sh < 18446744073709551616) (ho : z ||| x * 2 ^ sh = z + x * 2 ^ sh) :
    bits BinOp.or IntKind.u64 (z : Int) (IntKind.u64.wrap ((x : Int) * 2 ^ sh)) = ((z + x * 2 ^ sh : Nat) : Int) := by
  have e : (x : Int) * 2 ^ sh = ((x * 2 ^ sh : Nat) : Int) := by rw [Int.natCast_mul, Int.natCast_pow]; rfl
  have hy : x * 2 ^ sh < 18446744073709551616 := by omega
  rw [e, wrap_nat64 hy, or_nat64 hz hy, ho]

set_option maxRecDepth 100000 in
set_option maxHeartbeats 1600000 in
theorem frombytes_any (w : World) (B : Nat) (hB : B ≤ w.heap.size) (A : Option Addr) (n c : Nat) (bs : List Nat) (hs : Sl8 w B A n c bs) (hn : n ≤ 1000000) :
    Calls Try.prog 33 #[.slice A n c] w fun e w' => RetN b64 w (V 256 bs.reverse) e w' := by
  have HL := Lib.hid hs.1
  obtain ⟨m, hm⟩ : ∃ m, m = (n + 7) / 8 := ⟨_, rfl⟩
  have hmi : (((n : Int) + 8 - 1) / 8) = (m : Int) := by omega
  have HM := Lib.hid hm
  have hm2 : m ≤ 1000000 := by omega
  clear hm
  go_enter Try.func33, Try.ntmps33
  go_wp2_with (at_make; refine wl_make rfl _ _ Try.underlying23 rfl _ m rfl (by omega) (by omega) ?_; intro w1 hR hB1 hz1; obtain ⟨g, hg⟩ : ∃ g, g = w.heap.size := ⟨_, rfl⟩; rw [← hg] at hR ⊢; have HG := Lib.hid hg; have HZ1 := Lib.hid hz1; clear hg hz1)
  go_loopw [16] (fun i wr => ∃ k zs, k ≤ n ∧ i = .int .i64 (k : Nat) ∧ Row wr g zs ∧ Only w1 wr g ∧ wr.heap.size = w1.heap.size ∧ zs.length = m ∧ Dg b64 zs ∧ V b64 zs = hi bs k) (fun i _ => n - (intOf i).toNat)
  case atStart => exact ⟨0, _, Nat.zero_le _, rfl, hR, Only.refl _ _, rfl, by simp, dg_zeros b64_pos _, by rw [V_replicate, hi_zero]⟩
  case round =>
    obtain ⟨k, zs, hk, rfl, hr, ho, hz, hzl, hdz, hv⟩ := hrel
    have HZ := Lib.hid hz
    have HZL := Lib.hid hzl
    have HV := Lib.hid hv
    clear hz hzl hv
    have hbel : Below w.heap.size w wr := hB1.trans (ho.below (by rw [HG.out]; exact Nat.le_refl _) (by rw [HZ1.out]; omega))
    by_cases hlt : k < n
    · have hsr := hs.below (hbel.mono hB)
      have hki : (k : Int) < n := by omega
      obtain ⟨b, off, x, rfl, hb1, hx, hx8, hc⟩ := hsr.at_ hlt
      have HX := Lib.hid hx
      clear hx
      obtain ⟨j, hj⟩ : ∃ j, j = n - 1 - k := ⟨_, rfl⟩
      have hjn : j + k + 1 = n := by omega
      have hjk : (n : Int) - 1 - k = (j : Int) := by omega
      have hj6 : j ≤ 1000000 := by omega
      have HJN := Lib.hid hjn
      have hLm : j / 8 < m := by have := HM.out; omega
      clear hj hjn
      obtain ⟨z, hzz⟩ := get_lt (zs := zs) (k := j / 8) (by rw [HZL.out]; exact hLm)
      have hda := digit_add (q := 8) (by decide) hdz HV.out (hi_dvd (by rw [← HL.out]; exact HJN.out)) hzz hx8
      have hcz := hr.at_ hzz
      have hfz := hr.frozen
      have hzl := lt64.1 (hdz.get hzz)
      have h256 : 256 ^ (j % 8) = 2 ^ (j % 8 * 8) := by rw [show (256 : Nat) = 2 ^ 8 from rfl, ← Nat.pow_mul, Nat.mul_comm]
      rw [h256] at hda
      have hor := or_shl hzl (by have := hda.2.1; rw [show (256 : Nat) ^ 8 = 18446744073709551616 from rfl] at this; exact this) hda.1
      clear h256 hzz hzl
      obtain ⟨L, hL⟩ : ∃ L, j / 8 = L := ⟨_, rfl⟩
      obtain ⟨sh, hsh⟩ : ∃ sh, j % 8 * 8 = sh := ⟨_, rfl⟩
      rw [hsh] at hor hda
      have HOR := Lib.hid hor
      have HDA := Lib.hid hda
      clear hor hda
      have hsh64 : (sh : Int) < 64 := by omega
      have hpl := place_any j hj6
      rw [hL, hsh] at hpl
      rw [hL] at hcz hLm
      have hLi : (L : Int) < m := by omega
      have HPL := Lib.hid hpl
      have HLL := Lib.hid hL
      clear hpl hL hsh
      have hbg : b ≠ g := by have := HG.out; omega
      have hbg' : g ≠ b := fun e => hbg e.symm
      go_wp2_with (go_at_call 52; refine (HPL.out _).mono ?_; rintro e w2 ⟨rfl, rfl⟩)
      go_region
      rw [HOR.out]
      go_wp2
      go_roundw
      case rel =>
        refine ⟨k + 1, zs.set L (z + x * 2 ^ sh), by omega, by go_num, hr.set _ _, (ho.set _ _).drewN 1, by simpa [World.setCell] using HZ.out, by simp [HZL.out], hdz.set _ HDA.out.2.1, ?_⟩
        have h := HDA.out.2.2
        rw [HLL.out] at h
        rw [hi_succ HX.out (by rw [← HL.out]; exact HJN.out)]
        exact h
      case measure => simp [intOf]; omega
    · obtain rfl : k = n := by omega
      have hsl := hr.sl (by rw [HZL.out]; omega)
      rw [HZL.out] at hsl
      go_wp2_with (go_at_call 38; refine (ltrim_sl _ _ _ _ _ zs hsl).mono ?_; rintro e w2 ⟨m, rfl, h1, h2, rfl⟩)
      go_ret
      exact retN_trim h1 hdz (by rw [HV.out, HL.out, hi_all]) hbel
end Go.Proofs.Ytfiakaenenbhpaa
