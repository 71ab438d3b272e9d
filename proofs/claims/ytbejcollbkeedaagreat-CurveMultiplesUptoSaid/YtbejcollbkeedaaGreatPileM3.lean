/- Parts of one proof, joined: LimbM, LimbN, LimbO, DivM, DivW, QuoD, QuoI, QuoJ, QuoE, LimbK, RefH. -/
import Derived.Test.YtbejcollbkeedaaGreatPileM2
import Derived.BigRegion
import Derived.Test.YtbejcollbkeedaaGreatPileM1
import Derived.Outline
import Derived.WalkSmall
import Derived.WalkMore
set_option linter.unusedVariables false
set_option linter.unusedSimpArgs false
set_option linter.unusedSectionVars false
set_option maxRecDepth 100000
set_option maxHeartbeats 8000000
open Go.Lib (hid)
namespace Go.Proofs.YtbejcollbkeedaaGreat
open Go.RowKit
def hi (bs : List Nat) (k : Nat) : Nat := V 256 ((bs.take k).reverse) * 256 ^ (bs.length - k)
theorem hi_zero (bs : List Nat) : hi bs 0 = 0 := by simp [hi, V]
theorem hi_all (bs : List Nat) : hi bs bs.length = V 256 bs.reverse := by simp [hi]
theorem hi_succ {bs : List Nat} {k j x : Nat} (hx : bs[k]? = some x) (hj : j + k + 1 = bs.length) : hi bs (k + 1) = hi bs k + x * 256 ^ j := by
 have hk : k < bs.length := (List.getElem?_eq_some_iff.1 hx).1
 have e : (bs.take (k + 1)).reverse = x :: (bs.take k).reverse := by
  rw [List.take_add_one, hx]; simp
 unfold hi
 rw [e, V_cons, show bs.length - k = j + 1 by omega, show bs.length - (k + 1) = j by omega, Nat.pow_succ, Nat.add_mul, Nat.add_comm]
 congr 1
 rw [Nat.mul_comm (256 ^ j), ← Nat.mul_assoc, Nat.mul_comm 256]
theorem hi_dvd {bs : List Nat} {k j : Nat} (hj : j + k + 1 = bs.length) : 256 ^ (j + 1) ∣ hi bs k := by
 unfold hi
 rw [show bs.length - k = j + 1 by omega]
 exact Nat.dvd_mul_left _ _
theorem digit_dvd {q : Nat} (hq : 0 < q) {zs : List Nat} {N j z : Nat} (hd : Dg (256 ^ q) zs) (h : V (256 ^ q) zs = N) (hdv : 256 ^ (j + 1) ∣ N) (hz : zs[j / q]? = some z) : 256 ^ (j % q + 1) ∣ z := by
 have hB : 0 < 256 ^ q := Nat.pow_pos (by decide)
 have hp := div_pow_digits hB zs hd (j / q)
 rw [hz, h] at hp
 simp only [Option.getD_some] at hp
 have e1 : 256 ^ (j + 1) = (256 ^ q) ^ (j / q) * 256 ^ (j % q + 1) := by
  rw [← Nat.pow_mul, ← Nat.pow_add]
  congr 1
  have := Nat.div_add_mod j q
  omega
 have h2 : 256 ^ (j % q + 1) ∣ N / (256 ^ q) ^ (j / q) := by
  obtain ⟨t, ht⟩ := hdv
  refine ⟨t, ?_⟩
  rw [ht, e1, Nat.mul_assoc, Nat.mul_div_cancel_left _ (Nat.pow_pos hB)]
 rw [hp] at h2
 have h3 : 256 ^ (j % q + 1) ∣ 256 ^ q * V (256 ^ q) (zs.drop (j / q + 1)) := by
  refine Nat.dvd_trans (Nat.pow_dvd_pow 256 ?_) (Nat.dvd_mul_right _ _)
  have := Nat.mod_lt j hq
  omega
 exact (Nat.dvd_add_left h3).1 h2
theorem digit_add {q : Nat} (hq : 0 < q) {zs : List Nat} {N j z x : Nat} (hd : Dg (256 ^ q) zs) (h : V (256 ^ q) zs = N) (hdv : 256 ^ (j + 1) ∣ N) (hz : zs[j / q]? = some z) (hx : x < 256) :
  z ||| x * 256 ^ (j % q) = z + x * 256 ^ (j % q) ∧ z + x * 256 ^ (j % q) < 256 ^ q ∧ V (256 ^ q) (zs.set (j / q) (z + x * 256 ^ (j % q))) = N + x * 256 ^ j := by
 have hlt : x * 256 ^ (j % q) < 256 ^ (j % q + 1) := by
  rw [Nat.pow_succ, Nat.mul_comm]
  exact Nat.mul_lt_mul_of_pos_left hx (Nat.pow_pos (by decide))
 have hdz := digit_dvd hq hd h hdv hz
 have hzl := hd.get hz
 obtain ⟨t, rfl⟩ := hdz
 refine ⟨?_, ?_, ?_⟩
 ·have e : (256 : Nat) ^ (j % q + 1) = 2 ^ (8 * (j % q + 1)) := by rw [Nat.pow_mul]
  rw [e] at hlt ⊢
  exact (Nat.two_pow_add_eq_or_of_lt hlt t).symm
 ·obtain ⟨r, hr⟩ : ∃ r, q = (j % q + 1) + r := ⟨q - (j % q + 1), by have := Nat.mod_lt j hq; omega⟩
  have e : 256 ^ q = 256 ^ (j % q + 1) * 256 ^ r := by rw [← Nat.pow_add, ← hr]
  rw [e] at hzl ⊢
  have h1 := Nat.lt_of_mul_lt_mul_left hzl
  have h2 : 256 ^ (j % q + 1) * (t + 1) ≤ 256 ^ (j % q + 1) * 256 ^ r := Nat.mul_le_mul_left _ h1
  rw [Nat.mul_add, Nat.mul_one] at h2
  omega
 ·have hv := V_set (B := 256 ^ q) (256 ^ (j % q + 1) * t + x * 256 ^ (j % q)) hz
  have e1 : 256 ^ j = (256 ^ q) ^ (j / q) * 256 ^ (j % q) := by
   rw [← Nat.pow_mul, ← Nat.pow_add, Nat.div_add_mod]
  rw [h, Nat.mul_add] at hv
  rw [e1, Nat.mul_left_comm]
  omega
theorem wrap_nat64 {y : Nat} (h : y < 18446744073709551616) : IntKind.u64.wrap (y : Int) = (y : Int) := by
 have e : IntKind.u64.wrap (y : Int) = (y : Int) % 18446744073709551616 := rfl
 rw [e]; omega
theorem or_nat64 {z y : Nat} (hz : z < 18446744073709551616) (hy : y < 18446744073709551616) : bits BinOp.or IntKind.u64 (z : Int) (y : Int) = ((z ||| y : Nat) : Int) := by
 have e : bits BinOp.or IntKind.u64 (z : Int) (y : Int) = IntKind.u64.wrap ((BitVec.ofInt 64 (z : Int) ||| BitVec.ofInt 64 (y : Int)).toNat : Int) := rfl
 have h1 : (BitVec.ofInt 64 (z : Int) ||| BitVec.ofInt 64 (y : Int)).toNat = z ||| y := by
  rw [BitVec.ofInt_natCast, BitVec.ofInt_natCast, BitVec.toNat_or, BitVec.toNat_ofNat, BitVec.toNat_ofNat, Nat.mod_eq_of_lt (show z < 2 ^ 64 from hz), Nat.mod_eq_of_lt (show y < 2 ^ 64 from hy)]
 rw [e, h1, wrap_nat64 (Nat.or_lt_two_pow (n := 64) hz hy)]
theorem or_shl {z x sh : Nat} (hz : z < 18446744073709551616) (hs : z + x * 2 ^ sh < 18446744073709551616) (ho : z ||| x * 2 ^ sh = z + x * 2 ^ sh) :
  bits BinOp.or IntKind.u64 (z : Int) (IntKind.u64.wrap ((x : Int) * 2 ^ sh)) = ((z + x * 2 ^ sh : Nat) : Int) := by
 have e : (x : Int) * 2 ^ sh = ((x * 2 ^ sh : Nat) : Int) := by rw [Int.natCast_mul, Int.natCast_pow]; rfl
 have hy : x * 2 ^ sh < 18446744073709551616 := by omega
 rw [e, wrap_nat64 hy, or_nat64 hz hy, ho]
theorem frombytes_any (w : World) (B : Nat) (hB : B ≤ w.heap.size) (A : Option Addr) (n c : Nat) (bs : List Nat) (hs : Sl8 w B A n c bs) (hn : n ≤ 1000000) :
  Calls Tryz.prog 63 #[.slice A n c] w fun e w' => RetN b64 w (V 256 bs.reverse) e w' := by
 have HL := hid hs.1
 obtain ⟨m, hm⟩ : ∃ m, m = (n + 7) / 8 := ⟨_, rfl⟩
 have hmi : (((n : Int) + 8 - 1) / 8) = (m : Int) := by omega
 have HM := hid hm
 have hm2 : m ≤ 1000000 := by omega
 clear hm
 go_enter Tryz.func63, Tryz.ntmps63
 go_wp2_with (at_make; refine wl_make rfl _ _ Tryz.underlying23 rfl _ m rfl (by omega) (by omega) ?_; intro w1 hR hB1 hz1; obtain ⟨g, hg⟩ : ∃ g, g = w.heap.size := ⟨_, rfl⟩; rw [← hg] at hR ⊢; have HG := hid hg; have HZ1 := hid hz1; clear hg hz1)
 go_loopw [16] (fun i wr => ∃ k zs, k ≤ n ∧ i = .int .i64 (k : Nat) ∧ Row wr g zs ∧ Only w1 wr g ∧ wr.heap.size = w1.heap.size ∧ zs.length = m ∧ Dg b64 zs ∧ V b64 zs = hi bs k) (fun i _ => n - (intOf i).toNat)
 case atStart => exact ⟨0, _, Nat.zero_le _, rfl, hR, Only.refl _ _, rfl, by simp, dg_zeros b64_pos _, by rw [V_replicate, hi_zero]⟩
 case round =>
  obtain ⟨k, zs, hk, rfl, hr, ho, hz, hzl, hdz, hv⟩ := hrel
  have HZ := hid hz
  have HZL := hid hzl
  have HV := hid hv
  clear hz hzl hv
  have hbel : Below w.heap.size w wr := hB1.trans (ho.below (by rw [HG.out]; exact Nat.le_refl _) (by rw [HZ1.out]; omega))
  by_cases hlt : k < n
  ·have hsr := hs.below (hbel.mono hB)
   have hki : (k : Int) < n := by omega
   obtain ⟨b, off, x, rfl, hb1, hx, hx8, hc⟩ := hsr.at_ hlt
   have HX := hid hx
   clear hx
   obtain ⟨j, hj⟩ : ∃ j, j = n - 1 - k := ⟨_, rfl⟩
   have hjn : j + k + 1 = n := by omega
   have hjk : (n : Int) - 1 - k = (j : Int) := by omega
   have hj6 : j ≤ 1000000 := by omega
   have HJN := hid hjn
   have hLm : j / 8 < m := by have := HM.out; omega
   clear hj hjn
   obtain ⟨z, hzz⟩ := get_lt (zs := zs) (k := j / 8) (by rw [HZL.out]; exact hLm)
   have hda := digit_add (q := 8) (by decide) hdz HV.out (hi_dvd (by rw [← HL.out]; exact HJN.out)) hzz hx8
   have hcz := hr.at_ hzz
   have hfz := hr.frozen
   have hzl := lt64.1 (hdz.get hzz)
   have h256 : 256 ^ (j % 8) = 2 ^ (j % 8 * 8) := by rw [show (256 : Nat) = 2 ^ 8 from rfl, ← Nat.pow_mul, Nat.mul_comm]
   rw [h256] at hda
   have hor := or_shl hzl (by have := hda.2.1; rw [show (256 : Nat) ^ 8 = 18446744073709551616 from rfl] at this; exact this) hda.1
   clear h256 hzz hzl
   obtain ⟨L, hL⟩ : ∃ L, j / 8 = L := ⟨_, rfl⟩
   obtain ⟨sh, hsh⟩ : ∃ sh, j % 8 * 8 = sh := ⟨_, rfl⟩
   rw [hsh] at hor hda
   have HOR := hid hor
   have HDA := hid hda
   clear hor hda
   have hsh64 : (sh : Int) < 64 := by omega
   have hpl := place_any j hj6
   rw [hL, hsh] at hpl
   rw [hL] at hcz hLm
   have hLi : (L : Int) < m := by omega
   have HPL := hid hpl
   have HLL := hid hL
   clear hpl hL hsh
   have hbg : b ≠ g := by have := HG.out; omega
   have hbg' : g ≠ b := fun e => hbg e.symm
   go_wp2_with (go_at_call 88; refine (HPL.out _).mono ?_; rintro e w2 ⟨rfl, rfl⟩)
   go_region
   rw [HOR.out]
   go_wp2
   go_roundw
   case rel =>
    refine ⟨k + 1, zs.set L (z + x * 2 ^ sh), by omega, by go_num, hr.set _ _, (ho.set _ _).drewN 1, by simpa [World.setCell] using HZ.out, by simp [HZL.out], hdz.set _ HDA.out.2.1, ?_⟩
    have h := HDA.out.2.2
    rw [HLL.out] at h
    rw [hi_succ HX.out (by rw [← HL.out]; exact HJN.out)]
    exact h
   case measure => simp [intOf]; omega
  ·obtain rfl : k = n := by omega
   have hsl := hr.sl (by rw [HZL.out]; omega)
   rw [HZL.out] at hsl
   go_wp2_with (go_at_call 74; refine (ltrim_sl _ _ _ _ _ zs hsl).mono ?_; rintro e w2 ⟨m, rfl, h1, h2, rfl⟩)
   go_ret
   exact retN_trim h1 hdz (by rw [HV.out, HL.out, hi_all]) hbel
theorem wrap_mod64 (y : Nat) : IntKind.u64.wrap (y : Int) = ((y % 18446744073709551616 : Nat) : Int) := by
 have e : IntKind.u64.wrap (y : Int) = (y : Int) % 18446744073709551616 := rfl
 rw [e]; omega
theorem shl_step {zs : List Nat} {L c d x p : Nat} (hc : zs[L]? = some c) (hd : zs[L + 1]? = some d) (hd0 : d = 0) (hcp : c < 2 ^ p) (hp : p < 64) (hx : x < b64) :
  c ||| x * 2 ^ p % 18446744073709551616 = c + x * 2 ^ p % 18446744073709551616 ∧ c + x * 2 ^ p % 18446744073709551616 < 18446744073709551616 ∧ x / 2 ^ (64 - p) < b64 ∧
   V b64 ((zs.set L (c + x * 2 ^ p % 18446744073709551616)).set (L + 1) (x / 2 ^ (64 - p))) = V b64 zs + b64 ^ L * (x * 2 ^ p) := by
 have e64 : 18446744073709551616 = 2 ^ p * 2 ^ (64 - p) := by rw [← Nat.pow_add, show p + (64 - p) = 64 by omega]
 have hm : x * 2 ^ p % 18446744073709551616 = 2 ^ p * (x % 2 ^ (64 - p)) := by
  rw [e64, Nat.mul_comm x, Nat.mul_mod_mul_left]
 have hq : x * 2 ^ p / 18446744073709551616 = x / 2 ^ (64 - p) := by
  rw [e64, Nat.mul_comm x, Nat.mul_div_mul_left _ _ (Nat.pow_pos (by decide))]
 refine ⟨?_, ?_, Nat.lt_of_le_of_lt (Nat.div_le_self _ _) hx, ?_⟩
 ·rw [hm, Nat.or_comm, ← Nat.two_pow_add_eq_or_of_lt hcp, Nat.add_comm]
 ·rw [hm]
  have h1 : x % 2 ^ (64 - p) < 2 ^ (64 - p) := Nat.mod_lt _ (Nat.pow_pos (by decide))
  have h2 := Nat.mul_le_mul_left (2 ^ p) h1
  rw [← e64, Nat.mul_succ] at h2
  omega
 ·obtain ⟨lo, hlo⟩ : ∃ lo, x * 2 ^ p % 18446744073709551616 = lo := ⟨_, rfl⟩
  have hdm := Nat.div_add_mod (x * 2 ^ p) 18446744073709551616
  rw [hq, hlo] at hdm
  rw [hlo]
  have h1 := V_set (B := b64) (c + lo) hc
  have hd' : (zs.set L (c + lo))[L + 1]? = some d := by rw [List.getElem?_set_ne (by omega)]; exact hd
  have h2 := V_set (B := b64) (x / 2 ^ (64 - p)) hd'
  subst hd0
  rw [Nat.mul_zero, Nat.add_zero] at h2
  rw [h2, ← hdm, Nat.mul_add, ← Nat.mul_assoc, show b64 ^ L * 18446744073709551616 = b64 ^ (L + 1) from (Nat.pow_succ ..).symm]
  rw [Nat.mul_add] at h1
  omega
theorem shl_any (w : World) (B : Nat) (hB : B ≤ w.heap.size) (A : Option Addr) (n c : Nat) (xs : List Nat) (hs : Sl w B A n c xs) (hd : Dg b64 xs) (hn : n ≤ 1000000000) (s : Nat) (hs1 : s ≤ 65536) :
  Calls Tryz.prog 113 #[.slice A n c, .int .i64 (s : Int)] w fun e w' => RetN b64 w (V b64 xs * 2 ^ s) e w' := by
 have hX := trimmed_nm hd
 have HX := hid hX
 clear hX
 have hs0 : ¬ (s : Int) < 0 := by omega
 have hs2 : ¬ (65536 : Int) < s := by omega
 go_enter Tryz.func113, Tryz.ntmps113
 go_wp2_with fail
 refine (ltrim_sl w B A n c xs hs).mono ?_; rintro e w1 ⟨m, rfl, h3, h4, rfl⟩
 have hlc := h3.cap
 have hmx := h3.max
 by_cases h0 : m = 0
 ·subst h0
  go_wp2
  go_ret
  have : trimmed xs = [] := List.eq_nil_of_length_eq_zero h3.len.symm
  have hv := HX.out.2.2
  rw [this] at hv
  refine ⟨[], ?_, _, _, _, rfl, Sl.nil _ _ _ (by omega), Below.refl _ _⟩
  rw [← hv]
  exact ⟨fun x hx => (by cases hx), fun x hx => (by cases hx), by simp [V]⟩
 ·have hm0 : ((m : Int) == 0) = false := by simp; omega
  obtain ⟨wh, hwh⟩ : ∃ wh, s / 64 = wh := ⟨_, rfl⟩
  obtain ⟨p, hp⟩ : ∃ p, s % 64 = p := ⟨_, rfl⟩
  have hwi : (s : Int) / 64 = (wh : Int) := by omega
  have hpi : (s : Int) % 64 = (p : Int) := by omega
  have hp64 : p < 64 := by omega
  have hwl : wh ≤ 1024 := by omega
  have hsn : 2 ^ s = b64 ^ wh * 2 ^ p := by
   rw [show b64 = 2 ^ 64 from rfl, ← Nat.pow_mul, ← Nat.pow_add]
   congr 1
   omega
  have HSN := hid hsn
  clear hsn hwh hp
  go_wp2_with (at_make; refine wl_make rfl _ _ Tryz.underlying23 rfl _ (m + wh + 1) rfl (by omega) (by omega) ?_; intro w1 hR hB1 hz1; obtain ⟨g, hg⟩ : ∃ g, g = w.heap.size := ⟨_, rfl⟩; rw [← hg] at hR ⊢; have HG := hid hg; have HZ1 := hid hz1; clear hg hz1)
  have hdx := HX.out.1
  obtain ⟨r, hr64⟩ : ∃ r, 64 - p = r := ⟨_, rfl⟩
  have hri : (64 : Int) - p = (r : Int) := by omega
  have HR := hid hr64
  clear hr64
  go_loopw [36] (fun i wr => ∃ k zs, k ≤ m ∧ i = .int .i64 (k : Nat) ∧ Row wr g zs ∧ Only w1 wr g ∧ wr.heap.size = w1.heap.size ∧ zs.length = m + wh + 1 ∧ Dg b64 zs ∧ (∀ t, wh + k < t → t < m + wh + 1 → zs[t]? = some 0) ∧ (∃ y, zs[wh + k]? = some y ∧ y < 2 ^ p) ∧ V b64 zs = V b64 ((trimmed xs).take k) * 2 ^ s) (fun i _ => m - (intOf i).toNat)
  case atStart => exact ⟨0, _, Nat.zero_le _, rfl, hR, Only.refl _ _, rfl, by simp, dg_zeros b64_pos _, fun t _ ht => by simp [ht], ⟨0, by rw [List.getElem?_replicate, if_pos (by omega)], Nat.pow_pos (by decide)⟩, by rw [V_replicate]; simp [V]⟩
  case round =>
   obtain ⟨k, zs, hk, rfl, hr, ho, hz, hzl, hdz, hzz, ⟨y, hy, hyp⟩, hv⟩ := hrel
   have HZ := hid hz
   have HZL := hid hzl
   have HV := hid hv
   have HZZ := hid hzz
   clear hz hzl hv hzz
   have hbel : Below w.heap.size w wr := hB1.trans (ho.below (by rw [HG.out]; exact Nat.le_refl _) (by rw [HZ1.out]; omega))
   by_cases hlt : k < m
   ·have hsr := h3.below (hbel.mono hB)
    have hki : (k : Int) < m := by omega
    obtain ⟨b, off, x, rfl, hb1, hx, hc⟩ := hsr.at_ hlt
    have hxl := hdx.get hx
    obtain ⟨d, hdd⟩ : ∃ d, zs[wh + k + 1]? = some d := ⟨0, HZZ.out _ (by omega) (by omega)⟩
    have hd0 : d = 0 := by have := HZZ.out (wh + k + 1) (by omega) (by omega); rw [hdd] at this; exact Option.some.inj this
    have hst := shl_step hy hdd hd0 hyp hp64 hxl
    have hxl64 := lt64.1 hxl
    have hyl := lt64.1 (hdz.get hy)
    have hor : bits BinOp.or IntKind.u64 (y : Int) (IntKind.u64.wrap ((x : Int) * 2 ^ p)) = ((y + x * 2 ^ p % 18446744073709551616 : Nat) : Int) := by
     have e : (x : Int) * 2 ^ p = ((x * 2 ^ p : Nat) : Int) := by rw [Int.natCast_mul, Int.natCast_pow]; rfl
     rw [e, wrap_mod64, or_nat64 hyl (Nat.mod_lt _ (by decide)), hst.1]
    have hcy := hr.at_ hy
    have hcy2 := hr.at_ hdd
    have hup : x / 2 ^ (64 - p) < 2 ^ p := by
     refine Nat.div_lt_of_lt_mul ?_
     rw [← Nat.pow_add, show 64 - p + p = 64 by omega]
     exact hxl64
    rw [HR.out] at hst hup
    have HOR := hid hor
    have HST := hid hst
    have HX2 := hid hx
    have HY := hid hy
    have HUP := hid hup
    clear hor hst hx hy hdd hup hd0
    have hfz := hr.frozen
    have hwk : (wh : Int) + k < m + wh + 1 := by omega
    have hwk1 : (wh : Int) + k + 1 < m + wh + 1 := by omega
    have hwk0 : (0 : Int) ≤ (wh : Int) + k := by omega
    have hwk2 : (0 : Int) ≤ (wh : Int) + k + 1 := by omega
    go_wp2
    go_region
    rw [HOR.out]
    go_wp2
    go_roundw
    case rel =>
     have h1 : ((y : Int) + (x : Int) * 2 ^ p % 18446744073709551616) = ((y + x * 2 ^ p % 18446744073709551616 : Nat) : Int) := by rw [Int.natCast_add, Int.natCast_emod, Int.natCast_mul, Int.natCast_pow]; rfl
     have h2 : (x : Int) / 2 ^ r = ((x / 2 ^ r : Nat) : Int) := by rw [Int.natCast_ediv, Int.natCast_pow]; rfl
     refine ⟨k + 1, (zs.set (wh + k) (y + x * 2 ^ p % 18446744073709551616)).set (wh + k + 1) (x / 2 ^ r), by omega, by go_num, (hr.set_ h1).set_ h2, ((ho.set _ _).set _ _).drewN 1, by simpa [World.setCell] using HZ.out, by simp [HZL.out], (hdz.set _ (lt64.2 HST.out.2.1)).set _ HST.out.2.2.1, fun t ht1 ht2 => by rw [List.getElem?_set_ne (by omega), List.getElem?_set_ne (by omega)]; exact HZZ.out t (by omega) ht2, ⟨x / 2 ^ r, ?_, HUP.out⟩, ?_⟩
     ·rw [← Nat.add_assoc]; exact set_get _ (by rw [List.length_set, HZL.out]; omega)
     ·rw [HST.out.2.2.2, HV.out, V_take_succ HX2.out, HSN.out, Nat.add_mul, Nat.pow_add]
      congr 1
      rw [Nat.mul_assoc, Nat.mul_comm (b64 ^ wh), Nat.mul_assoc, Nat.mul_assoc, Nat.mul_assoc]
      congr 1
      rw [Nat.mul_comm (b64 ^ wh)]
    case measure => simp [intOf]; omega
   ·obtain rfl : k = m := by omega
    have hsl := hr.sl (by rw [HZL.out]; omega)
    rw [HZL.out] at hsl
    go_wp2_with (go_at_call 74; refine (ltrim_sl _ _ _ _ _ zs hsl).mono ?_; rintro e w2 ⟨m, rfl, h1, h2, rfl⟩)
    go_ret
    exact retN_trim h1 hdz (by rw [HV.out, List.take_of_length_le (by rw [← h3.len]; omega), HX.out.2.2]) hbel
theorem le_valueB {B : Nat} (m N : Nat) : V B ((List.range m).map fun i => N / B ^ i % B) = N % B ^ m := by
 induction m with
 | zero => simp [V, Nat.mod_one]
 | succ m ih =>
  rw [List.range_succ, List.map_append, V_append, ih, List.length_map, List.length_range, Nat.mod_pow_succ]
  simp [V]
theorem V_digits {B M m : Nat} {zs : List Nat} (hl : zs.length = m) (h : ∀ t, t < m → zs[t]? = some (M / B ^ t % B)) (hM : M < B ^ m) : V B zs = M := by
 have e : zs = (List.range m).map fun i => M / B ^ i % B := by
  apply List.ext_getElem?
  intro t
  rcases Nat.lt_or_ge t m with h1 | h1
  ·rw [h t h1]; simp [h1]
  ·rw [List.getElem?_eq_none (by rw [hl]; exact h1), List.getElem?_eq_none (by simp [h1])]
 rw [e, le_valueB, Nat.mod_eq_of_lt hM]
theorem shr_digit {xs : List Nat} {N wh p i x y : Nat} (hp : p < 64) (h : V b64 xs = N) (hd : Dg b64 xs) (hx : xs[wh + i]?.getD 0 = x) (hy : xs[wh + i + 1]?.getD 0 = y) :
  N / (b64 ^ wh * 2 ^ p) / b64 ^ i % b64 = x / 2 ^ p + y * 2 ^ (64 - p) % b64 ∧ x / 2 ^ p ||| y * 2 ^ (64 - p) % b64 = x / 2 ^ p + y * 2 ^ (64 - p) % b64 := by
 have e64 : b64 = 2 ^ p * 2 ^ (64 - p) := by rw [← Nat.pow_add, show p + (64 - p) = 64 by omega]; rfl
 have hxl : x < b64 := by
  rw [← hx]
  cases hg : xs[wh + i]? with
  | none => exact b64_pos
  | some z => exact hd.get hg
 have hxp : x / 2 ^ p < 2 ^ (64 - p) := by
  refine Nat.div_lt_of_lt_mul ?_
  rw [← e64]; exact hxl
 have hm : y * 2 ^ (64 - p) % b64 = 2 ^ (64 - p) * (y % 2 ^ p) := by
  rw [e64, Nat.mul_comm y, Nat.mul_comm (2 ^ p), Nat.mul_mod_mul_left]
 have hsum : x / 2 ^ p + y * 2 ^ (64 - p) % b64 < b64 := by
  rw [hm]
  have h1 : y % 2 ^ p < 2 ^ p := Nat.mod_lt _ (Nat.pow_pos (by decide))
  have h2 := Nat.mul_le_mul_left (2 ^ (64 - p)) h1
  rw [Nat.mul_succ, Nat.mul_comm (2 ^ (64 - p)) (2 ^ p), ← e64] at h2
  omega
 refine ⟨?_, ?_⟩
 ·have e1 : N / (b64 ^ wh * 2 ^ p) / b64 ^ i = N / b64 ^ (wh + i) / 2 ^ p := by
   rw [Nat.div_div_eq_div_mul, Nat.div_div_eq_div_mul, Nat.pow_add]
   congr 1
   rw [Nat.mul_assoc, Nat.mul_assoc, Nat.mul_comm (2 ^ p)]
  have e2 : V b64 (xs.drop (wh + i + 1)) = y + b64 * V b64 (xs.drop (wh + i + 1 + 1)) := by
   have h3 := div_pow_digits b64_pos (xs.drop (wh + i + 1)) (hd.drop _) 0
   rw [Nat.pow_zero, Nat.div_one, List.getElem?_drop, Nat.add_zero, hy, List.drop_drop] at h3
   rw [h3, Nat.zero_add]
  rw [e1, ← h, div_pow_digits b64_pos xs hd, hx, e2]
  generalize V b64 (xs.drop (wh + i + 1 + 1)) = T
  have e3 : x + b64 * (y + b64 * T) = x + 2 ^ p * (2 ^ (64 - p) * y + b64 * (2 ^ (64 - p) * T)) := by
   rw [Nat.mul_add (2 ^ p), ← Nat.mul_assoc (2 ^ p), ← e64, Nat.mul_left_comm (2 ^ p) b64, ← Nat.mul_assoc (2 ^ p) (2 ^ (64 - p)), ← e64, ← Nat.mul_add]
  rw [e3, Nat.add_mul_div_left _ _ (Nat.pow_pos (by decide)), ← Nat.add_assoc, Nat.add_mul_mod_self_left, Nat.mul_comm (2 ^ (64 - p)) y, Nat.add_mod, Nat.mod_eq_of_lt (show x / 2 ^ p < b64 from Nat.lt_of_le_of_lt (Nat.div_le_self _ _) hxl), Nat.mod_eq_of_lt hsum]
 ·rw [hm, Nat.or_comm, ← Nat.two_pow_add_eq_or_of_lt hxp, Nat.add_comm]
theorem nil_retN {w : World} {B : Nat} : RetN B w 0 (.returned (.slice none 0 0)) w :=
 ⟨[], ⟨fun x hx => (by cases hx), fun x hx => (by cases hx), rfl⟩, _, _, _, rfl, Sl.nil _ _ _ (by omega), Below.refl _ _⟩
theorem shr_any (w : World) (B : Nat) (hB : B ≤ w.heap.size) (A : Option Addr) (n c : Nat) (xs : List Nat) (hs : Sl w B A n c xs) (hd : Dg b64 xs) (hn : n ≤ 1000000000) (s : Nat) (hs1 : s ≤ 9223372036854775807) :
  Calls Tryz.prog 115 #[.slice A n c, .int .i64 (s : Int)] w fun e w' => RetN b64 w (V b64 xs / 2 ^ s) e w' := by
 have hX := trimmed_nm hd
 have HX := hid hX
 clear hX
 have hs0 : ¬ (s : Int) < 0 := by omega
 obtain ⟨wh, hwh⟩ : ∃ wh, s / 64 = wh := ⟨_, rfl⟩
 obtain ⟨p, hp⟩ : ∃ p, s % 64 = p := ⟨_, rfl⟩
 have hwi : (s : Int) / 64 = (wh : Int) := by omega
 have hpi : (s : Int) % 64 = (p : Int) := by omega
 have hp64 : p < 64 := by omega
 have hsn : 2 ^ s = b64 ^ wh * 2 ^ p := by
  rw [show b64 = 2 ^ 64 from rfl, ← Nat.pow_mul, ← Nat.pow_add]
  congr 1
  omega
 have HSN := hid hsn
 clear hsn hwh hp
 go_enter Tryz.func115, Tryz.ntmps115
 go_wp2_with fail
 refine (ltrim_sl w B A n c xs hs).mono ?_; rintro e w1 ⟨m, rfl, h3, h4, rfl⟩
 have hlc := h3.cap
 have hmx := h3.max
 by_cases hge : m ≤ wh
 ·have hgi : (m : Int) ≤ (wh : Int) := by omega
  go_wp2
  go_ret
  have h1 := V_lt (trimmed xs) HX.out.1
  rw [HX.out.2.2, ← h3.len] at h1
  have h2 : b64 ^ m ≤ b64 ^ wh := Nat.pow_le_pow_right b64_pos hge
  have h5 : b64 ^ wh ≤ b64 ^ wh * 2 ^ p := Nat.le_mul_of_pos_right _ (Nat.pow_pos (by decide))
  have h6 : V b64 xs / 2 ^ s = 0 := by
   rw [HSN.out]
   exact Nat.div_eq_of_lt (Nat.lt_of_lt_of_le h1 (Nat.le_trans h2 h5))
  rw [h6]
  exact nil_retN
 ·have hgi : ¬ (m : Int) ≤ (wh : Int) := by omega
  obtain ⟨l, hl⟩ : ∃ l, m = wh + l := ⟨m - wh, by omega⟩
  have hli : (m : Int) - (wh : Int) = (l : Int) := by omega
  have HL := hid hl
  have hl9 : l ≤ 1000000000 := by omega
  clear hl
  obtain ⟨r, hr64⟩ : ∃ r, 64 - p = r := ⟨_, rfl⟩
  have hri : (64 : Int) - p = (r : Int) := by omega
  have HR := hid hr64
  clear hr64
  go_wp2_with (at_make; refine wl_make rfl _ _ Tryz.underlying23 rfl _ l rfl (by omega) (by omega) ?_; intro w1 hR hB1 hz1; obtain ⟨g, hg⟩ : ∃ g, g = w.heap.size := ⟨_, rfl⟩; rw [← hg] at hR ⊢; have HG := hid hg; have HZ1 := hid hz1; clear hg hz1)
  obtain ⟨M, hM⟩ : ∃ M, V b64 xs / (b64 ^ wh * 2 ^ p) = M := ⟨_, rfl⟩
  have hMl : M < b64 ^ l := by
   have h1 := V_lt (trimmed xs) HX.out.1
   rw [HX.out.2.2, ← h3.len, HL.out, Nat.pow_add] at h1
   rw [← hM, ← Nat.div_div_eq_div_mul]
   exact Nat.lt_of_le_of_lt (Nat.div_le_self _ _) (Nat.div_lt_of_lt_mul h1)
  have HM := hid hM
  have HML := hid hMl
  clear hM hMl
  go_loopw [32] (fun i wr => ∃ k zs, k ≤ l ∧ i = .int .i64 (k : Nat) ∧ Row wr g zs ∧ Only w1 wr g ∧ wr.heap.size = w1.heap.size ∧ zs.length = l ∧ Dg b64 zs ∧ (∀ t, t < k → zs[t]? = some (M / b64 ^ t % b64))) (fun i _ => l - (intOf i).toNat)
  case atStart => exact ⟨0, _, Nat.zero_le _, rfl, hR, Only.refl _ _, rfl, by simp, dg_zeros b64_pos _, fun t h => absurd h (by omega)⟩
  case round =>
   obtain ⟨k, zs, hk, rfl, hr, ho, hz, hzl, hdz, hzz⟩ := hrel
   have HZ := hid hz
   have HZL := hid hzl
   have HZZ := hid hzz
   clear hz hzl hzz
   have hbel : Below w.heap.size w wr := hB1.trans (ho.below (by rw [HG.out]; exact Nat.le_refl _) (by rw [HZ1.out]; omega))
   by_cases hlt : k < l
   ·have hsr := h3.below (hbel.mono hB)
    have hki : (k : Int) < l := by omega
    have hwm : wh + k < m := by have := HL.out; omega
    obtain ⟨b, off, x, rfl, hb1, hx, hc⟩ := hsr.at_ hwm
    have hbg : b ≠ g := by have := HG.out; omega
    have hbg' : g ≠ b := fun e => hbg e.symm
    have hfz := hr.frozen
    obtain ⟨z0, hz0⟩ := get_lt (zs := zs) (k := k) (by rw [HZL.out]; exact hlt)
    have hcz := hr.at_ hz0
    clear hz0
    have hwi2 : (wh : Int) + k < m := by omega
    have hwi0 : (0 : Int) ≤ (wh : Int) + k := by omega
    have h1 : (x : Int) / 2 ^ p = ((x / 2 ^ p : Nat) : Int) := by rw [Int.natCast_ediv, Int.natCast_pow]; rfl
    have H1 := hid h1
    clear h1
    have fin : ∀ (v : Nat) (W : World), v = M / b64 ^ k % b64 → Row W g (zs.set k v) → Only w1 W g → W.heap.size = w1.heap.size →
      ∃ k1 zs, k1 ≤ l ∧ Value.int IntKind.i64 (((k + 1 : Nat)) : Int) = .int .i64 (k1 : Nat) ∧ Row W g zs ∧ Only w1 W g ∧ W.heap.size = w1.heap.size ∧ zs.length = l ∧ Dg b64 zs ∧ (∀ t, t < k1 → zs[t]? = some (M / b64 ^ t % b64)) := by
     rintro v W rfl hW hO hS
     refine ⟨k + 1, _, by omega, rfl, hW, hO, hS, by simp [HZL.out], hdz.set _ (Nat.mod_lt _ b64_pos), fun t ht => ?_⟩
     by_cases htk : t = k
     ·subst htk; exact set_get _ (by rw [HZL.out]; exact hlt)
     ·rw [List.getElem?_set_ne (fun e => htk e.symm)]; exact HZZ.out t (by omega)
    have FIN := hid fin
    clear fin
    by_cases hlast : wh + k + 1 < m
    ·obtain ⟨b', off', y, hA, hb', hy, hc'⟩ := hsr.at_ hlast
     obtain ⟨rfl, rfl⟩ : b = b' ∧ off = off' := by injection hA with h; injection h with h1 h2; exact ⟨h1, h2⟩
     have hsd := shr_digit (i := k) hp64 HX.out.2.2 HX.out.1 (by rw [hx, Option.getD_some]) (by rw [hy, Option.getD_some])
     rw [HM.out, HR.out] at hsd
     have hxl := lt64.1 (HX.out.1.get hx)
     have hor : bits BinOp.or IntKind.u64 ((x : Int) / 2 ^ p) (IntKind.u64.wrap ((y : Int) * 2 ^ r)) = ((x / 2 ^ p + y * 2 ^ r % b64 : Nat) : Int) := by
      have e : (y : Int) * 2 ^ r = ((y * 2 ^ r : Nat) : Int) := by rw [Int.natCast_mul, Int.natCast_pow]; rfl
      rw [e, H1.out, wrap_mod64, or_nat64 (Nat.lt_of_le_of_lt (Nat.div_le_self _ _) hxl) (Nat.mod_lt _ (by decide))]
      exact congrArg Nat.cast hsd.2
     have HOR := hid hor
     have HSD := hid hsd
     clear hor hsd hx hy hA
     have hla : (wh : Int) + k + 1 < m := by omega
     have hla0 : (0 : Int) ≤ (wh : Int) + k + 1 := by omega
     go_wp2
     go_region
     rw [HOR.out]
     go_wp2
     go_roundw
     case rel =>
      have hr1 := hr.set_ (i := k) H1.out
      have hr2 := hr1.set_ (i := k) (x := x / 2 ^ p + y * 2 ^ r % b64) rfl
      rw [List.set_set] at hr2
      exact FIN.out _ _ HSD.out.1.symm (hr2.drewN 1) (((ho.set _ _).set _ _).drewN 1) (by simpa [World.setCell] using HZ.out)
     case measure => simp [intOf]; omega
    ·have hsd := shr_digit (i := k) (y := 0) hp64 HX.out.2.2 HX.out.1 (by rw [hx, Option.getD_some]) (by rw [List.getElem?_eq_none (by rw [← h3.len]; omega)]; rfl)
     rw [HM.out, Nat.zero_mul, Nat.zero_mod, Nat.add_zero] at hsd
     have HSD := hid hsd
     clear hsd hx
     have hla : ¬ (wh : Int) + k + 1 < m := by omega
     go_wp2
     go_roundw
     case rel =>
      have hr1 := hr.set_ (i := k) H1.out
      exact FIN.out _ _ HSD.out.1.symm hr1 (ho.set _ _) (by simpa [World.setCell] using HZ.out)
     case measure => simp [intOf]; omega
   ·obtain rfl : k = l := by omega
    have hsl := hr.sl (by rw [HZL.out]; omega)
    rw [HZL.out] at hsl
    go_wp2_with (go_at_call 74; refine (ltrim_sl _ _ _ _ _ zs hsl).mono ?_; rintro e w2 ⟨m, rfl, h1, h2, rfl⟩)
    go_ret
    exact retN_trim h1 hdz (by rw [V_digits HZL.out HZZ.out HML.out, HSN.out, HM.out]) hbel
end Go.Proofs.YtbejcollbkeedaaGreat
namespace Go.Proofs.YtbejcollbkeedaaGreat
theorem half_eq {Y y1 y0 u q r : Nat} (hY : Y = y1 * 4294967296 + y0) (hqr : q * y1 + r = u) : q * Y + 4294967296 * r = u * 4294967296 + q * y0 := by
 subst hY
 rw [← hqr, Nat.mul_add, Nat.add_mul, ← Nat.mul_assoc]
 omega
theorem half_start {Y y1 y0 u d : Nat} (hY : Y = y1 * 4294967296 + y0) (h1 : 2147483648 ≤ y1) (h0 : y0 < 4294967296) (hd : d < 4294967296) (hu : u < Y) :
  (u / y1) * y1 + (u - u / y1 * y1) = u ∧ u / y1 * y1 ≤ u ∧ u - u / y1 * y1 < y1 ∧ (u * 4294967296 + d) / Y ≤ u / y1 ∧ u / y1 ≤ 4294967297 := by
 have hdm := Nat.div_add_mod u y1
 have hml := Nat.mod_lt u (show 0 < y1 by omega)
 rw [Nat.mul_comm] at hdm
 obtain ⟨q, hq⟩ : ∃ q, u / y1 = q := ⟨_, rfl⟩
 rw [hq] at hdm ⊢
 refine ⟨by omega, by omega, by omega, ?_, ?_⟩
 ·refine Nat.le_of_lt_succ (Nat.div_lt_of_lt_mul ?_)
  have h2 : (q + 1) * y1 = q * y1 + y1 := by rw [Nat.add_mul, Nat.one_mul]
  have h3 : Y * (q + 1) = (q + 1) * y1 * 4294967296 + y0 * (q + 1) := by rw [hY, Nat.add_mul, Nat.mul_comm (q + 1) y1, Nat.mul_right_comm]
  rw [h3, h2]
  omega
 ·apply Classical.byContradiction
  intro h
  have h2 : 4294967298 * y1 ≤ q * y1 := Nat.mul_le_mul_right _ (by omega)
  omega
theorem half_more {Y y1 y0 u d q r : Nat} (hY : Y = y1 * 4294967296 + y0) (hqr : q * y1 + r = u) (hu : u < Y) (hd : d < 4294967296) (hlo : (u * 4294967296 + d) / Y ≤ q)
  (h : 4294967296 ≤ q ∨ 4294967296 * r + d < q * y0) : 0 < q ∧ (u * 4294967296 + d) / Y ≤ q - 1 ∧ (q - 1) * y1 + (r + y1) = u := by
 have he := half_eq hY hqr
 have hq0 : 0 < q := by
  rcases h with h | h
  ·omega
  ·rcases Nat.eq_zero_or_pos q with h' | h'
   ·rw [h'] at h; omega
   ·exact h'
 obtain ⟨p, rfl⟩ : ∃ p, q = p + 1 := ⟨q - 1, by omega⟩
 refine ⟨by omega, ?_, ?_⟩
 ·rw [Nat.add_sub_cancel]
  refine Nat.le_of_lt_succ (Nat.div_lt_of_lt_mul ?_)
  rcases h with h | h
  ·have h2 : Y * 4294967296 ≤ Y * (p + 1) := Nat.mul_le_mul_left _ h
   show u * 4294967296 + d < Y * (p + 1)
   omega
  ·show u * 4294967296 + d < Y * (p + 1)
   rw [Nat.mul_comm Y]
   omega
 ·rw [Nat.add_mul, Nat.one_mul] at hqr
  rw [Nat.add_sub_cancel]
  omega
theorem half_done {Y y1 y0 u d q r : Nat} (hY : Y = y1 * 4294967296 + y0) (hy : 0 < Y) (hqr : q * y1 + r = u) (hlo : (u * 4294967296 + d) / Y ≤ q)
  (h : q * y0 ≤ 4294967296 * r + d) : q = (u * 4294967296 + d) / Y := by
 have he := half_eq hY hqr
 refine Nat.le_antisymm ?_ hlo
 exact (Nat.le_div_iff_mul_le hy).2 (by omega)
theorem half_over {Y y1 y0 u d q r : Nat} (hY : Y = y1 * 4294967296 + y0) (h0 : y0 < 4294967296) (hqr : q * y1 + r = u) (hu : u < Y) (hr : 4294967296 ≤ r) : q * y0 ≤ 4294967296 * r + d := by
 have hq : q < 4294967296 := by
  apply Classical.byContradiction
  intro h
  have h2 : 4294967296 * y1 ≤ q * y1 := Nat.mul_le_mul_right _ (by omega)
  omega
 have h2 := mul_le32 hq h0
 omega
theorem half_rest {Y u d : Nat} (hy : 0 < Y) (hu : u < Y) (hd : d < 4294967296) : (u * 4294967296 + d) / Y < 4294967296 ∧ (u * 4294967296 + d) / Y * Y + (u * 4294967296 + d) % Y = u * 4294967296 + d ∧ (u * 4294967296 + d) % Y < Y := by
 refine ⟨Nat.div_lt_of_lt_mul ?_, ?_, Nat.mod_lt _ hy⟩
 ·have h2 : (u + 1) * 4294967296 ≤ Y * 4294967296 := Nat.mul_le_mul_right _ hu
  omega
 ·rw [Nat.mul_comm]; exact Nat.div_add_mod _ _
theorem halves {Y u d1 d0 q1 r1 q0 r0 : Nat} (h1 : q1 * Y + r1 = u * 4294967296 + d1) (h0 : q0 * Y + r0 = r1 * 4294967296 + d0) (hr : r0 < Y) :
  q1 * 4294967296 + q0 = (u * 18446744073709551616 + d1 * 4294967296 + d0) / Y ∧ r0 = (u * 18446744073709551616 + d1 * 4294967296 + d0) % Y := by
 have e : u * 18446744073709551616 + d1 * 4294967296 + d0 = r0 + Y * (q1 * 4294967296 + q0) := by
  rw [Nat.mul_add, Nat.mul_comm Y q0, ← Nat.mul_assoc, Nat.mul_comm Y q1]
  omega
 refine ⟨?_, ?_⟩
 ·rw [e, Nat.add_mul_div_left _ _ (by omega), Nat.div_eq_of_lt hr, Nat.zero_add]
 ·rw [e, Nat.add_mul_mod_self_left, Nat.mod_eq_of_lt hr]
theorem up_words {hi lo y s : Nat} (hs : s < 64) (hh : hi < y) (hlo : lo < 18446744073709551616) (hy : y * 2 ^ s < 18446744073709551616) :
  hi * 2 ^ s < 18446744073709551616 ∧ (hi * 2 ^ s ||| lo / 2 ^ (64 - s)) = hi * 2 ^ s + lo / 2 ^ (64 - s) ∧ hi * 2 ^ s + lo / 2 ^ (64 - s) < y * 2 ^ s ∧
   (hi * 2 ^ s + lo / 2 ^ (64 - s)) * 18446744073709551616 + lo * 2 ^ s % 18446744073709551616 = (hi * 18446744073709551616 + lo) * 2 ^ s := by
 have e64 : 18446744073709551616 = 2 ^ s * 2 ^ (64 - s) := by rw [← Nat.pow_add, show s + (64 - s) = 64 by omega]
 have hp : 0 < 2 ^ s := Nat.pow_pos (by decide)
 have hup : lo / 2 ^ (64 - s) < 2 ^ s := by
  refine Nat.div_lt_of_lt_mul ?_
  rw [← Nat.pow_add, show 64 - s + s = 64 by omega]
  exact hlo
 have hq : lo * 2 ^ s / 18446744073709551616 = lo / 2 ^ (64 - s) := by
  rw [e64, Nat.mul_comm lo, Nat.mul_div_mul_left _ _ hp]
 have h1 : (hi + 1) * 2 ^ s ≤ y * 2 ^ s := Nat.mul_le_mul_right _ hh
 rw [Nat.add_mul, Nat.one_mul] at h1
 refine ⟨by omega, ?_, by omega, ?_⟩
 ·rw [Nat.mul_comm hi, ← Nat.two_pow_add_eq_or_of_lt hup]
 ·have h2 := Nat.div_add_mod (lo * 2 ^ s) 18446744073709551616
  rw [hq] at h2
  rw [Nat.add_mul (hi * 18446744073709551616), Nat.mul_right_comm hi]
  omega
theorem down_quo {U y p : Nat} (hp : 0 < p) : U * p / (y * p) = U / y ∧ U * p % (y * p) / p = U % y := by
 refine ⟨Nat.mul_div_mul_right _ _ hp, ?_⟩
 rw [Nat.mul_mod_mul_right, Nat.mul_div_cancel _ hp]
theorem dig_more {B P v v1 v0 vr u u2 u1 u0 ur q r : Nat} (hv : v = (v1 * B + v0) * P + vr) (hu : u = ((u2 * B + u1) * B + u0) * P + ur) (hur : ur < P) (hqr : q * v1 + r = u2 * B + u1)
  (h : r * B + u0 < q * v0) : 0 < q ∧ u / v ≤ q - 1 := by
 have hq0 : 0 < q := by
  rcases Nat.eq_zero_or_pos q with h' | h'
  ·rw [h'] at h; omega
  ·exact h'
 obtain ⟨p, rfl⟩ : ∃ p, q = p + 1 := ⟨q - 1, by omega⟩
 refine ⟨hq0, ?_⟩
 rw [Nat.add_sub_cancel]
 refine Nat.le_of_lt_succ (Nat.div_lt_of_lt_mul ?_)
 show u < v * (p + 1)
 have h1 : (u2 * B + u1) * B + u0 + 1 ≤ (p + 1) * (v1 * B + v0) := by
  rw [← hqr, Nat.mul_add, Nat.add_mul, ← Nat.mul_assoc]
  omega
 have h2 := Nat.mul_le_mul_right P h1
 rw [Nat.add_mul, Nat.one_mul, Nat.mul_assoc] at h2
 have h3 : v * (p + 1) = (p + 1) * ((v1 * B + v0) * P) + vr * (p + 1) := by rw [hv, Nat.add_mul, Nat.mul_comm (p + 1)]
 have h4 := Nat.zero_le (vr * (p + 1))
 omega
theorem dig_done {B P v v1 v0 vr u u2 u1 u0 ur q r : Nat} (hv : v = (v1 * B + v0) * P + vr) (hvr : vr < P) (hu : u = ((u2 * B + u1) * B + u0) * P + ur) (hqr : q * v1 + r = u2 * B + u1) (hqB : q ≤ B) (hv1 : 0 < v1)
  (h : q * v0 ≤ r * B + u0) : q ≤ u / v + 1 := by
 have h1 : q * (v1 * B + v0) ≤ (u2 * B + u1) * B + u0 := by
  rw [← hqr, Nat.mul_add, Nat.add_mul, ← Nat.mul_assoc]
  omega
 have h2 := Nat.mul_le_mul_right P h1
 have h3 : q * v ≤ u + B * P := by
  rw [hv, Nat.mul_add, ← Nat.mul_assoc]
  have h4 : q * vr ≤ B * P := Nat.mul_le_mul hqB (Nat.le_of_lt hvr)
  omega
 have h5 : B * P ≤ v := by
  have h6 : 1 * (B * P) ≤ v1 * (B * P) := Nat.mul_le_mul_right _ hv1
  rw [hv, Nat.add_mul, Nat.mul_assoc]
  omega
 rcases Nat.eq_zero_or_pos v with h0 | h0
 ·subst h0
  have : B * P = 0 := by omega
  rcases Nat.mul_eq_zero.1 this with h' | h'
  ·have : q = 0 := by omega
   rw [this]; exact Nat.zero_le _
  ·omega
 ·rcases Nat.eq_zero_or_pos q with h' | h'
  ·rw [h']; exact Nat.zero_le _
  ·obtain ⟨p, rfl⟩ : ∃ p, q = p + 1 := ⟨q - 1, by omega⟩
   refine Nat.succ_le_succ ((Nat.le_div_iff_mul_le h0).2 ?_)
   rw [Nat.add_mul, Nat.one_mul] at h3
   omega
theorem dig_top {B P v v1 vr u u2 ur : Nat} (hv : v = v1 * P + vr) (hvr : vr < P) (hu : u = u2 * (B * P) + ur) (h2 : v1 ≤ u2) (hB : B ≤ 2 * v1 + 2) (huv : u < v * B) (hB0 : 2 ≤ B) : u / v ≤ B - 1 ∧ B - 1 ≤ u / v + 1 := by
 have hv0 : 0 < v := by
  rcases Nat.eq_zero_or_pos v with h' | h'
  ·rw [h'] at huv; omega
  ·exact h'
 refine ⟨?_, ?_⟩
 ·have : u / v < B := Nat.div_lt_of_lt_mul huv
  omega
 ·obtain ⟨b, rfl⟩ : ∃ b, B = b + 2 := ⟨B - 2, by omega⟩
  show b + 1 ≤ u / v + 1
  refine Nat.succ_le_succ ((Nat.le_div_iff_mul_le hv0).2 ?_)
  have h3 : v ≤ (v1 + 1) * P := by rw [hv, Nat.add_mul, Nat.one_mul]; omega
  have h4 := Nat.mul_le_mul_left b h3
  have h5 : b * (v1 + 1) ≤ v1 * (b + 2) := by
   rw [Nat.mul_add, Nat.mul_add, Nat.mul_comm b v1]; omega
  have h6 := Nat.mul_le_mul_right P h5
  have h7 : v1 * (b + 2) * P ≤ u2 * ((b + 2) * P) := by rw [Nat.mul_assoc]; exact Nat.mul_le_mul_right _ h2
  rw [Nat.mul_assoc] at h6
  omega
theorem dig_start {P v v1 vr u t ur : Nat} (hv : v = v1 * P + vr) (hu : u = t * P + ur) (hur : ur < P) (hv1 : 0 < v1) : u / v ≤ t / v1 := by
 refine Nat.le_of_lt_succ (Nat.div_lt_of_lt_mul ?_)
 show u < v * (t / v1 + 1)
 have h1 := Nat.div_add_mod t v1
 have h2 := Nat.mod_lt t hv1
 have h3 : t + 1 ≤ v1 * (t / v1 + 1) := by rw [Nat.mul_add]; omega
 have h4 := Nat.mul_le_mul_right P h3
 rw [Nat.add_mul, Nat.one_mul] at h4
 have h5 : v * (t / v1 + 1) = v1 * (t / v1 + 1) * P + vr * (t / v1 + 1) := by rw [hv, Nat.add_mul, Nat.mul_right_comm]
 omega
end Go.Proofs.YtbejcollbkeedaaGreat
namespace Go.Proofs.YtbejcollbkeedaaGreat
open Go.RowKit
theorem lz_any (x : Nat) (hx : x < b64) (h0 : x ≠ 0) (w : World) :
  Calls Tryz.prog 112 #[.int .u64 (x : Int)] w fun e w' => ∃ s : Nat, e = .returned (.int .i64 (s : Int)) ∧ (s < 64 ∧ 9223372036854775808 ≤ x * 2 ^ s ∧ x * 2 ^ s < 18446744073709551616) ∧ w = w' := by
 have hx' := lt64.1 hx
 refine (Tryz.bits_LeadingZeros64 (x : Int) w (by omega) (by omega)).mono ?_
 rintro e w' ⟨rfl, rfl⟩
 obtain ⟨c1, c2, c3⟩ := Lib.bitLenAux_bounds 64 x hx h0
 have hle : Lib.bitLen x ≤ 64 := Lib.bitLen_le x 64 (Nat.le_refl _) hx
 obtain ⟨k, hk⟩ : ∃ k, Lib.bitLen x = k := ⟨_, rfl⟩
 have hk' : Lib.bitLenAux 64 x = k := hk
 rw [hk'] at c1 c2 c3
 rw [hk] at hle
 have hk1 : 1 ≤ k := by
  rcases Nat.eq_zero_or_pos k with h | h
  ·rw [h] at c3; simp at c3; omega
  ·exact h
 refine ⟨64 - k, by rw [Int.toNat_natCast, hk]; congr 2; omega, ⟨by omega, ?_, ?_⟩, rfl⟩
 ·have h1 := Nat.mul_le_mul_right (2 ^ (64 - k)) c2
  rw [← Nat.pow_add, show k - 1 + (64 - k) = 63 by omega] at h1
  exact h1
 ·have h1 : (x + 1) * 2 ^ (64 - k) ≤ 2 ^ k * 2 ^ (64 - k) := Nat.mul_le_mul_right _ c3
  rw [← Nat.pow_add, show k + (64 - k) = 64 by omega, Nat.add_mul, Nat.one_mul] at h1
  have h2 : 0 < 2 ^ (64 - k) := Nat.pow_pos (by decide)
  have h3 : (2 : Nat) ^ 64 = 18446744073709551616 := by decide
  omega
theorem and_mask32 (x : Nat) (hx : x < 18446744073709551616) : bits BinOp.and IntKind.u64 (x : Int) 4294967295 = ((x % 4294967296 : Nat) : Int) := by
 have h := bits_and_u64_nat x 4294967295 (by omega) (by omega)
 rw [show x &&& 4294967295 = x % 4294967296 from Nat.and_two_pow_sub_one_eq_mod x 32] at h
 exact h
theorem wrap_emod (z : Int) : IntKind.u64.wrap z = z % 18446744073709551616 := rfl
theorem half_guess (u y1 : Nat) (hu : u < 18446744073709551616) : ∃ m : Nat, IntKind.u64.wrap ((u : Int) / y1) = ((u / y1 : Nat) : Int) ∧ IntKind.u64.wrap (((u / y1 : Nat) : Int) * y1) = (m : Int) ∧ IntKind.u64.wrap ((u : Int) - m) = ((u - u / y1 * y1 : Nat) : Int) := by
 have h1 : u / y1 * y1 ≤ u := Nat.div_mul_le_self _ _
 refine ⟨u / y1 * y1, ?_, ?_, ?_⟩
 ·rw [← Int.natCast_ediv, wrap_nat64 (Nat.lt_of_le_of_lt (Nat.div_le_self _ _) hu)]
 ·rw [← Int.natCast_mul, wrap_nat64 (by omega)]
 ·rw [← Int.natCast_sub h1, wrap_nat64 (by omega)]
theorem half_left {u d q Y R : Nat} (h : q * Y + R = u * 4294967296 + d) (hR : R < 18446744073709551616) : ∃ A A2 D : Nat, IntKind.u64.wrap ((u : Int) * 4294967296) = (A : Int) ∧ IntKind.u64.wrap ((A : Int) + d) = (A2 : Int) ∧ IntKind.u64.wrap ((q : Int) * Y) = (D : Int) ∧ IntKind.u64.wrap ((A2 : Int) - D) = (R : Int) := by
 obtain ⟨P, hP⟩ : ∃ P, q * Y = P := ⟨_, rfl⟩
 rw [hP] at h
 refine ⟨u * 4294967296 % 18446744073709551616, (u * 4294967296 % 18446744073709551616 + d) % 18446744073709551616, P % 18446744073709551616, ?_, ?_, ?_, ?_⟩
 ·rw [wrap_emod]; omega
 ·rw [wrap_emod]; omega
 ·rw [← Int.natCast_mul, hP, wrap_emod]; omega
 ·rw [wrap_emod]; omega
theorem half_test (q r y0 d : Nat) (hq : q < 4294967296) (hr : r < 4294967296) (hy : y0 < 4294967296) (hd : d < 4294967296) :
  ∃ m t : Nat, IntKind.u64.wrap ((q : Int) * y0) = (m : Int) ∧ IntKind.u64.wrap (4294967296 * (r : Int)) = (t : Int) ∧ IntKind.u64.wrap ((t : Int) + d) = ((4294967296 * r + d : Nat) : Int) ∧ m = q * y0 := by
 have h1 := mul_le32 hq hy
 refine ⟨q * y0, 4294967296 * r, ?_, ?_, ?_, rfl⟩
 ·rw [← Int.natCast_mul, wrap_nat64 (by omega)]
 ·rw [wrap_emod]; omega
 ·rw [wrap_emod]; omega
theorem up_sum {u L l1 l0 X : Nat} (h : u * 18446744073709551616 + L = X) (hl : L = l1 * 4294967296 + l0) : u * 18446744073709551616 + l1 * 4294967296 + l0 = X := by
 rw [hl, ← Nat.add_assoc] at h; exact h
theorem half_cases (q r y0 d : Nat) : 4294967296 ≤ q ∨ (q < 4294967296 ∧ 4294967296 * r + d < q * y0) ∨ (q < 4294967296 ∧ q * y0 ≤ 4294967296 * r + d) := by omega
theorem div64_pos (hi lo d : Nat) (hh : hi < d) (h0 : 0 < hi) (hlo : lo < b64) (hd : d < b64) (w : World) :
  Calls Tryz.prog 111 #[.int .u64 (hi : Int), .int .u64 (lo : Int), .int .u64 (d : Int)] w fun e w' =>
   e = .returned (.tuple #[.int .u64 (((hi * b64 + lo) / d : Nat) : Int), .int .u64 (((hi * b64 + lo) % d : Nat) : Int)]) ∧ ∃ q, w' = w.drewN q := by
 obtain ⟨Q, hQ⟩ : ∃ Q, (hi * b64 + lo) / d = Q := ⟨_, rfl⟩
 obtain ⟨R, hR⟩ : ∃ R, (hi * b64 + lo) % d = R := ⟨_, rfl⟩
 rw [hQ, hR]
 have HQ := hid hQ
 have HR := hid hR
 have hlo' := lt64.1 hlo
 have hd' := lt64.1 hd
 have h1 : ((d : Int) == 0) = false := by simp; omega
 have h2 : ¬ (d : Int) ≤ (hi : Int) := by omega
 have h3 : ((hi : Int) == 0) = false := by simp; omega
 clear hQ hR hlo hd
 go_enter Tryz.func111, Tryz.ntmps111
 go_wp2_with fail
 refine (lz_any d (lt64.2 hd') (by omega) w).mono ?_
 rintro e w1 ⟨s, rfl, ⟨hs, hy1, hy2⟩, rfl⟩
 obtain ⟨Y, hY⟩ : ∃ Y, d * 2 ^ s = Y := ⟨_, rfl⟩
 obtain ⟨c1, c2, c3, c4⟩ := up_words hs hh hlo' hy2
 obtain ⟨r, hr⟩ : ∃ r, 64 - s = r := ⟨_, rfl⟩
 obtain ⟨a, ha⟩ : ∃ a, hi * 2 ^ s = a := ⟨_, rfl⟩
 obtain ⟨b, hb⟩ : ∃ b, lo / 2 ^ r = b := ⟨_, rfl⟩
 obtain ⟨L, hL⟩ : ∃ L, lo * 2 ^ s % 18446744073709551616 = L := ⟨_, rfl⟩
 rw [hY] at hy1 hy2 c3
 rw [hr, hb] at c2 c3 c4
 rw [ha] at c1 c2 c3 c4
 rw [hL] at c4
 have hL64 : L < 18446744073709551616 := by rw [← hL]; exact Nat.mod_lt _ (by decide)
 obtain ⟨u, hu⟩ : ∃ u, a + b = u := ⟨_, rfl⟩
 rw [hu] at c2 c3 c4
 obtain ⟨y1, hy1e⟩ : ∃ y1, Y / 4294967296 = y1 := ⟨_, rfl⟩
 obtain ⟨y0, hy0e⟩ : ∃ y0, Y % 4294967296 = y0 := ⟨_, rfl⟩
 obtain ⟨l1, hl1e⟩ : ∃ y1, L / 4294967296 = y1 := ⟨_, rfl⟩
 obtain ⟨l0, hl0e⟩ : ∃ y0, L % 4294967296 = y0 := ⟨_, rfl⟩
 have hYe : Y = y1 * 4294967296 + y0 := by omega
 have hLe : L = l1 * 4294967296 + l0 := by omega
 have by1 : 2147483648 ≤ y1 := by omega
 have by1' : y1 < 4294967296 := by omega
 have by0 : y0 < 4294967296 := by omega
 have bl1 : l1 < 4294967296 := by omega
 have bl0 : l0 < 4294967296 := by omega
 have hb64 : b ≤ 18446744073709551615 := by omega
 have f1 : IntKind.u64.wrap ((d : Int) * 2 ^ s) = (Y : Int) := by
  rw [show (d : Int) * 2 ^ s = ((d * 2 ^ s : Nat) : Int) by rw [Int.natCast_mul, Int.natCast_pow]; rfl, hY, wrap_nat64 hy2]
 have f2 : (Y : Int) / 4294967296 = (y1 : Int) := by omega
 have f3 : bits BinOp.and IntKind.u64 (Y : Int) 4294967295 = (y0 : Int) := by rw [and_mask32 Y hy2, hy0e]
 have f4 : IntKind.u64.wrap ((hi : Int) * 2 ^ s) = (a : Int) := by
  rw [show (hi : Int) * 2 ^ s = ((hi * 2 ^ s : Nat) : Int) by rw [Int.natCast_mul, Int.natCast_pow]; rfl, ha, wrap_nat64 c1]
 have f5 : (lo : Int) / 2 ^ r = (b : Int) := by
  rw [← hb, Int.natCast_ediv, Int.natCast_pow]; rfl
 have f6 : bits BinOp.or IntKind.u64 (a : Int) (b : Int) = (u : Int) := by rw [or_nat64 c1 (by omega), c2]
 have f7 : IntKind.u64.wrap ((lo : Int) * 2 ^ s) = (L : Int) := by
  rw [show (lo : Int) * 2 ^ s = ((lo * 2 ^ s : Nat) : Int) by rw [Int.natCast_mul, Int.natCast_pow]; rfl, wrap_mod64, hL]
 have f8 : (L : Int) / 4294967296 = (l1 : Int) := by omega
 have f9 : bits BinOp.and IntKind.u64 (L : Int) 4294967295 = (l0 : Int) := by rw [and_mask32 L hL64, hl0e]
 have f10 : (64 : Int) - s = (r : Int) := by omega
 have hr64 : (r : Int) < 65 := by omega
 have hy0p : (0 : Int) < y1 := by omega
 have HC4 := hid c4
 have HY := hid hY
 have HYE := hid hYe
 have HLE := hid hLe
 have hu64 : (u : Int) ≤ 18446744073709551615 := by omega
 clear c1 c2 c4 hY hr ha hb hL hu hy1e hy0e hl1e hl0e hYe hLe hL64 hb64
 have hY0 : 0 < Y := by omega
 obtain ⟨m0, k1, k2, k3⟩ := half_guess u y1 (by omega)
 obtain ⟨s1, s2, s3, s4, s5⟩ := half_start (d := l1) HYE.out by1 by0 bl1 c3
 obtain ⟨e1, e2, e3⟩ := half_rest hY0 c3 bl1
 obtain ⟨Q1, hQ1⟩ : ∃ Q1, (u * 4294967296 + l1) / Y = Q1 := ⟨_, rfl⟩
 obtain ⟨R1, hR1⟩ : ∃ R1, (u * 4294967296 + l1) % Y = R1 := ⟨_, rfl⟩
 rw [hQ1, hR1] at e2
 rw [hQ1] at e1 s4
 rw [hR1] at e3
 obtain ⟨g0, hg0⟩ : ∃ g0, u / y1 = g0 := ⟨_, rfl⟩
 rw [hg0] at k1 k2 k3 s1 s2 s3 s4 s5
 obtain ⟨r0, hr0⟩ : ∃ r0, u - g0 * y1 = r0 := ⟨_, rfl⟩
 rw [hr0] at k3 s1 s3
 have S1 := hid s1
 have S4 := hid s4
 have S5 := hid s5
 have HQ1 := hid hQ1
 have E2 := hid e2
 have hr0b : r0 < 4294967296 := by omega
 have hY0' := hid hY0
 have C3 := hid c3
 clear s1 s2 s3 s4 s5 hQ1 hR1 e2 hg0 hr0 hY0 c3
 go_wp2
 clear k1 k2 k3
 go_loop [15, 16] (fun qv rv => ∃ q r : Nat, qv = .int .u64 (q : Int) ∧ rv = .int .u64 (r : Int) ∧ q * y1 + r = u ∧ Q1 ≤ q ∧ q ≤ 4294967297 ∧ r < 4294967296) (fun qv _ => (intOf qv).toNat)
 case atStart => exact ⟨g0, r0, rfl, rfl, S1.out, S4.out, S5.out, hr0b⟩
 case round =>
  obtain ⟨q, r, rfl, rfl, hqr, hlo1, hq5, hr32⟩ := hrel
  have HQR := hid hqr
  have HLO := hid hlo1
  have hri : (r : Int) ≤ 4294967295 := by omega
  have hqi : (q : Int) ≤ 4294967297 := by omega
  have hy1i : (y1 : Int) ≤ 4294967295 := by omega
  have HR32 := hid hr32
  clear hqr hlo1 hq5 hr32
  rcases half_cases q r y0 l1 with h | h | h
  ·-- the guess has more than a half
   obtain ⟨m1, m2, m3⟩ := half_more HYE.out HQR.out C3.out bl1 (by rw [HQ1.out]; exact HLO.out) (.inl h)
   rw [HQ1.out] at m2
   obtain ⟨q', hq'⟩ : ∃ q', q - 1 = q' := ⟨_, rfl⟩
   rw [hq'] at m2 m3
   have hge : (4294967296 : Int) ≤ (q : Int) := by omega
   have M2 := hid m2
   have M3 := hid m3
   have hq1i : (q' : Int) ≤ 4294967296 := by omega
   have hq2 : (q : Int) - 1 = (q' : Int) := by omega
   have hmeas : q' < q := by omega
   clear m1 m2 m3 h hq'
   by_cases hov : 4294967296 ≤ r + y1
   ·have hov' : (4294967296 : Int) ≤ (r : Int) + y1 := by omega
    obtain rfl : Q1 = q' := by rw [← HQ1.out]; exact Eq.symm <| half_done HYE.out hY0'.out M3.out (by rw [HQ1.out]; exact M2.out) (half_over HYE.out by0 M3.out C3.out hov)
    have by1'' := by1
    obtain ⟨A, A2, D, g1, g2, g3, g4⟩ := half_left E2.out (by omega)
    obtain ⟨m0, k1, k2, k3⟩ := half_guess R1 y1 (by omega)
    obtain ⟨s1, s2, s3, s4, s5⟩ := half_start (d := l0) HYE.out by1 by0 bl0 e3
    obtain ⟨Q0, hQ0⟩ : ∃ Q0, (R1 * 4294967296 + l0) / Y = Q0 := ⟨_, rfl⟩
    obtain ⟨R0, hR0⟩ : ∃ R0, (R1 * 4294967296 + l0) % Y = R0 := ⟨_, rfl⟩
    obtain ⟨e4, e5, e6⟩ := half_rest hY0'.out e3 bl0
    rw [hQ0, hR0] at e5
    rw [hQ0] at e4 s4
    rw [hR0] at e6
    obtain ⟨A4, A5, D5, g5, g6, g7, g8⟩ := half_left e5 (by omega)
    obtain ⟨fq, fr⟩ := halves E2.out e5 e6
    have hU := up_sum HC4.out HLE.out
    rw [hU, ← HY.out] at fq fr
    obtain ⟨dq1, dq2⟩ := down_quo (U := hi * 18446744073709551616 + lo) (y := d) (p := 2 ^ s) (Nat.pow_pos (by decide))
    rw [dq1] at fq
    have fq' : Q1 * 4294967296 + Q0 = Q := fq.trans HQ.out
    have fr' : R0 / 2 ^ s = R := by rw [fr, dq2]; exact HR.out
    have FQ := hid (show (Q1 : Int) * 4294967296 + (Q0 : Int) = (Q : Int) by omega)
    have FR := hid (show (R0 : Int) / 2 ^ s = (R : Int) by rw [← fr', Int.natCast_ediv, Int.natCast_pow]; rfl)
    obtain ⟨g0, hg0⟩ : ∃ g0, R1 / y1 = g0 := ⟨_, rfl⟩
    rw [hg0] at k1 k2 k3 s1 s2 s3 s4 s5
    obtain ⟨r0, hr0⟩ : ∃ r0, R1 - g0 * y1 = r0 := ⟨_, rfl⟩
    rw [hr0] at k3 s1 s3
    have S1 := hid s1
    have S4 := hid s4
    have S5 := hid s5
    have HQ0 := hid hQ0
    have G5 := hid g5
    have G6 := hid g6
    have G7 := hid g7
    have G8 := hid g8
    have hr0b : r0 < 4294967296 := by omega
    have hq1b : (Q1 : Int) ≤ 4294967295 := by omega
    have hq0b : (Q0 : Int) ≤ 4294967295 := by omega
    have hr1b : (R1 : Int) ≤ 18446744073709551615 := by omega
    clear s1 s2 s3 s4 s5 hQ0 hR0 e4 e5 e6 hg0 hr0 fq fr fq' fr' hU dq1 dq2 g5 g6 g7 g8
    go_wp2
    clear k1 k2 k3 g1 g2 g3 g4
    go_loop [18, 16] (fun qv rv => ∃ q r : Nat, qv = .int .u64 (q : Int) ∧ rv = .int .u64 (r : Int) ∧ q * y1 + r = R1 ∧ Q0 ≤ q ∧ q ≤ 4294967297 ∧ r < 4294967296) (fun qv _ => (intOf qv).toNat)
    case atStart => exact ⟨g0, r0, rfl, rfl, S1.out, S4.out, S5.out, hr0b⟩
    case round =>
     obtain ⟨q, r, rfl, rfl, hqr, hlo1, hq5, hr32⟩ := hrel
     have HQR := hid hqr
     have HLO := hid hlo1
     have hri : (r : Int) ≤ 4294967295 := by omega
     have hqi : (q : Int) ≤ 4294967297 := by omega
     have hy1i : (y1 : Int) ≤ 4294967295 := by omega
     have HR32 := hid hr32
     clear hqr hlo1 hq5 hr32
     rcases half_cases q r y0 l0 with h | h | h
     ·-- the guess has more than a half
      obtain ⟨m1, m2, m3⟩ := half_more HYE.out HQR.out e3 bl0 (by rw [HQ0.out]; exact HLO.out) (.inl h)
      rw [HQ0.out] at m2
      obtain ⟨q', hq'⟩ : ∃ q', q - 1 = q' := ⟨_, rfl⟩
      rw [hq'] at m2 m3
      have hge : (4294967296 : Int) ≤ (q : Int) := by omega
      have M2 := hid m2
      have M3 := hid m3
      have hq1i : (q' : Int) ≤ 4294967296 := by omega
      have hq2 : (q : Int) - 1 = (q' : Int) := by omega
      have hmeas : q' < q := by omega
      clear m1 m2 m3 h hq'
      by_cases hov : 4294967296 ≤ r + y1
      ·have hov' : (4294967296 : Int) ≤ (r : Int) + y1 := by omega
       obtain rfl : Q0 = q' := by rw [← HQ0.out]; exact Eq.symm <| half_done HYE.out hY0'.out M3.out (by rw [HQ0.out]; exact M2.out) (half_over HYE.out by0 M3.out e3 hov)
       go_wp2
       go_wp2
       go_ret2
       refine ⟨?_, 0, rfl⟩
       have h5 : (Q1 : Int) * 4294967296 + (Q0 : Int) = (Q : Int) := FQ.out
       have h6 : (R0 : Int) / 2 ^ s = (R : Int) := FR.out
       show Ending.returned (.tuple #[.int .u64 ((Q1 : Int) * 4294967296 + (Q0 : Int)), .int .u64 (IntKind.u64.wrap (IntKind.u64.wrap (IntKind.u64.wrap ((R1 : Int) * 4294967296) + (l0 : Int)) - IntKind.u64.wrap ((Q0 : Int) * (Y : Int))) / 2 ^ s)]) = _
       rw [G5.out, G6.out, G7.out, G8.out, h5, h6]
      ·have hov' : ¬ (4294967296 : Int) ≤ (r : Int) + y1 := by omega
       go_wp2
       go_round
       case rel => exact ⟨q', r + y1, by go_num, by go_num, M3.out, M2.out, by omega, by omega⟩
       case measure => simp [intOf]; omega
     ·-- the guess is too great
      obtain ⟨m, t, t1, t2, t3, t4⟩ := half_test q r y0 l0 h.1 HR32.out by0 bl0
      obtain ⟨td, htd⟩ : ∃ td, 4294967296 * r + l0 = td := ⟨_, rfl⟩
      rw [htd] at t3
      have hlt : (td : Int) < (m : Int) := by have := h.2; omega
      have hlt2 : ¬ (4294967296 : Int) ≤ (q : Int) := by have := h.1; omega
      clear htd t4
      obtain ⟨m1, m2, m3⟩ := half_more HYE.out HQR.out e3 bl0 (by rw [HQ0.out]; exact HLO.out) (.inr h.2)
      rw [HQ0.out] at m2
      obtain ⟨q', hq'⟩ : ∃ q', q - 1 = q' := ⟨_, rfl⟩
      rw [hq'] at m2 m3
      have M2 := hid m2
      have M3 := hid m3
      have hq1i : (q' : Int) ≤ 4294967296 := by omega
      have hq2 : (q : Int) - 1 = (q' : Int) := by omega
      have hmeas : q' < q := by omega
      clear m1 m2 m3 h hq'
      by_cases hov : 4294967296 ≤ r + y1
      ·have hov' : (4294967296 : Int) ≤ (r : Int) + y1 := by omega
       obtain rfl : Q0 = q' := by rw [← HQ0.out]; exact Eq.symm <| half_done HYE.out hY0'.out M3.out (by rw [HQ0.out]; exact M2.out) (half_over HYE.out by0 M3.out e3 hov)
       go_wp2
       go_wp2
       go_ret2
       refine ⟨?_, 0, rfl⟩
       have h5 : (Q1 : Int) * 4294967296 + (Q0 : Int) = (Q : Int) := FQ.out
       have h6 : (R0 : Int) / 2 ^ s = (R : Int) := FR.out
       show Ending.returned (.tuple #[.int .u64 ((Q1 : Int) * 4294967296 + (Q0 : Int)), .int .u64 (IntKind.u64.wrap (IntKind.u64.wrap (IntKind.u64.wrap ((R1 : Int) * 4294967296) + (l0 : Int)) - IntKind.u64.wrap ((Q0 : Int) * (Y : Int))) / 2 ^ s)]) = _
       rw [G5.out, G6.out, G7.out, G8.out, h5, h6]
      ·have hov' : ¬ (4294967296 : Int) ≤ (r : Int) + y1 := by omega
       go_wp2
       go_round
       case rel => exact ⟨q', r + y1, by go_num, by go_num, M3.out, M2.out, by omega, by omega⟩
       case measure => simp [intOf]; omega
     ·-- the guess is right
      obtain ⟨m, t, t1, t2, t3, t4⟩ := half_test q r y0 l0 h.1 HR32.out by0 bl0
      obtain ⟨td, htd⟩ : ∃ td, 4294967296 * r + l0 = td := ⟨_, rfl⟩
      rw [htd] at t3
      have hlt : ¬ (td : Int) < (m : Int) := by have := h.2; omega
      have hlt2 : ¬ (4294967296 : Int) ≤ (q : Int) := by have := h.1; omega
      obtain rfl : Q0 = q := by rw [← HQ0.out]; exact Eq.symm <| half_done HYE.out hY0'.out HQR.out (by rw [HQ0.out]; exact HLO.out) h.2
      clear htd t4 h
      go_wp2
      go_ret2
      refine ⟨?_, 0, rfl⟩
      have h5 : (Q1 : Int) * 4294967296 + (Q0 : Int) = (Q : Int) := FQ.out
      have h6 : (R0 : Int) / 2 ^ s = (R : Int) := FR.out
      show Ending.returned (.tuple #[.int .u64 ((Q1 : Int) * 4294967296 + (Q0 : Int)), .int .u64 (IntKind.u64.wrap (IntKind.u64.wrap (IntKind.u64.wrap ((R1 : Int) * 4294967296) + (l0 : Int)) - IntKind.u64.wrap ((Q0 : Int) * (Y : Int))) / 2 ^ s)]) = _
      rw [G5.out, G6.out, G7.out, G8.out, h5, h6]
   ·have hov' : ¬ (4294967296 : Int) ≤ (r : Int) + y1 := by omega
    go_wp2
    go_round
    case rel => exact ⟨q', r + y1, by go_num, by go_num, M3.out, M2.out, by omega, by omega⟩
    case measure => simp [intOf]; omega
  ·-- the guess is too great
   obtain ⟨m, t, t1, t2, t3, t4⟩ := half_test q r y0 l1 h.1 HR32.out by0 bl1
   obtain ⟨td, htd⟩ : ∃ td, 4294967296 * r + l1 = td := ⟨_, rfl⟩
   rw [htd] at t3
   have hlt : (td : Int) < (m : Int) := by have := h.2; omega
   have hlt2 : ¬ (4294967296 : Int) ≤ (q : Int) := by have := h.1; omega
   clear htd t4
   obtain ⟨m1, m2, m3⟩ := half_more HYE.out HQR.out C3.out bl1 (by rw [HQ1.out]; exact HLO.out) (.inr h.2)
   rw [HQ1.out] at m2
   obtain ⟨q', hq'⟩ : ∃ q', q - 1 = q' := ⟨_, rfl⟩
   rw [hq'] at m2 m3
   have M2 := hid m2
   have M3 := hid m3
   have hq1i : (q' : Int) ≤ 4294967296 := by omega
   have hq2 : (q : Int) - 1 = (q' : Int) := by omega
   have hmeas : q' < q := by omega
   clear m1 m2 m3 h hq'
   by_cases hov : 4294967296 ≤ r + y1
   ·have hov' : (4294967296 : Int) ≤ (r : Int) + y1 := by omega
    obtain rfl : Q1 = q' := by rw [← HQ1.out]; exact Eq.symm <| half_done HYE.out hY0'.out M3.out (by rw [HQ1.out]; exact M2.out) (half_over HYE.out by0 M3.out C3.out hov)
    have by1'' := by1
    obtain ⟨A, A2, D, g1, g2, g3, g4⟩ := half_left E2.out (by omega)
    obtain ⟨m0, k1, k2, k3⟩ := half_guess R1 y1 (by omega)
    obtain ⟨s1, s2, s3, s4, s5⟩ := half_start (d := l0) HYE.out by1 by0 bl0 e3
    obtain ⟨Q0, hQ0⟩ : ∃ Q0, (R1 * 4294967296 + l0) / Y = Q0 := ⟨_, rfl⟩
    obtain ⟨R0, hR0⟩ : ∃ R0, (R1 * 4294967296 + l0) % Y = R0 := ⟨_, rfl⟩
    obtain ⟨e4, e5, e6⟩ := half_rest hY0'.out e3 bl0
    rw [hQ0, hR0] at e5
    rw [hQ0] at e4 s4
    rw [hR0] at e6
    obtain ⟨A4, A5, D5, g5, g6, g7, g8⟩ := half_left e5 (by omega)
    obtain ⟨fq, fr⟩ := halves E2.out e5 e6
    have hU := up_sum HC4.out HLE.out
    rw [hU, ← HY.out] at fq fr
    obtain ⟨dq1, dq2⟩ := down_quo (U := hi * 18446744073709551616 + lo) (y := d) (p := 2 ^ s) (Nat.pow_pos (by decide))
    rw [dq1] at fq
    have fq' : Q1 * 4294967296 + Q0 = Q := fq.trans HQ.out
    have fr' : R0 / 2 ^ s = R := by rw [fr, dq2]; exact HR.out
    have FQ := hid (show (Q1 : Int) * 4294967296 + (Q0 : Int) = (Q : Int) by omega)
    have FR := hid (show (R0 : Int) / 2 ^ s = (R : Int) by rw [← fr', Int.natCast_ediv, Int.natCast_pow]; rfl)
    obtain ⟨g0, hg0⟩ : ∃ g0, R1 / y1 = g0 := ⟨_, rfl⟩
    rw [hg0] at k1 k2 k3 s1 s2 s3 s4 s5
    obtain ⟨r0, hr0⟩ : ∃ r0, R1 - g0 * y1 = r0 := ⟨_, rfl⟩
    rw [hr0] at k3 s1 s3
    have S1 := hid s1
    have S4 := hid s4
    have S5 := hid s5
    have HQ0 := hid hQ0
    have G5 := hid g5
    have G6 := hid g6
    have G7 := hid g7
    have G8 := hid g8
    have hr0b : r0 < 4294967296 := by omega
    have hq1b : (Q1 : Int) ≤ 4294967295 := by omega
    have hq0b : (Q0 : Int) ≤ 4294967295 := by omega
    have hr1b : (R1 : Int) ≤ 18446744073709551615 := by omega
    clear s1 s2 s3 s4 s5 hQ0 hR0 e4 e5 e6 hg0 hr0 fq fr fq' fr' hU dq1 dq2 g5 g6 g7 g8
    go_wp2
    clear k1 k2 k3 g1 g2 g3 g4
    go_loop [18, 16] (fun qv rv => ∃ q r : Nat, qv = .int .u64 (q : Int) ∧ rv = .int .u64 (r : Int) ∧ q * y1 + r = R1 ∧ Q0 ≤ q ∧ q ≤ 4294967297 ∧ r < 4294967296) (fun qv _ => (intOf qv).toNat)
    case atStart => exact ⟨g0, r0, rfl, rfl, S1.out, S4.out, S5.out, hr0b⟩
    case round =>
     obtain ⟨q, r, rfl, rfl, hqr, hlo1, hq5, hr32⟩ := hrel
     have HQR := hid hqr
     have HLO := hid hlo1
     have hri : (r : Int) ≤ 4294967295 := by omega
     have hqi : (q : Int) ≤ 4294967297 := by omega
     have hy1i : (y1 : Int) ≤ 4294967295 := by omega
     have HR32 := hid hr32
     clear hqr hlo1 hq5 hr32
     rcases half_cases q r y0 l0 with h | h | h
     ·-- the guess has more than a half
      obtain ⟨m1, m2, m3⟩ := half_more HYE.out HQR.out e3 bl0 (by rw [HQ0.out]; exact HLO.out) (.inl h)
      rw [HQ0.out] at m2
      obtain ⟨q', hq'⟩ : ∃ q', q - 1 = q' := ⟨_, rfl⟩
      rw [hq'] at m2 m3
      have hge : (4294967296 : Int) ≤ (q : Int) := by omega
      have M2 := hid m2
      have M3 := hid m3
      have hq1i : (q' : Int) ≤ 4294967296 := by omega
      have hq2 : (q : Int) - 1 = (q' : Int) := by omega
      have hmeas : q' < q := by omega
      clear m1 m2 m3 h hq'
      by_cases hov : 4294967296 ≤ r + y1
      ·have hov' : (4294967296 : Int) ≤ (r : Int) + y1 := by omega
       obtain rfl : Q0 = q' := by rw [← HQ0.out]; exact Eq.symm <| half_done HYE.out hY0'.out M3.out (by rw [HQ0.out]; exact M2.out) (half_over HYE.out by0 M3.out e3 hov)
       go_wp2
       go_wp2
       go_ret2
       refine ⟨?_, 0, rfl⟩
       have h5 : (Q1 : Int) * 4294967296 + (Q0 : Int) = (Q : Int) := FQ.out
       have h6 : (R0 : Int) / 2 ^ s = (R : Int) := FR.out
       show Ending.returned (.tuple #[.int .u64 ((Q1 : Int) * 4294967296 + (Q0 : Int)), .int .u64 (IntKind.u64.wrap (IntKind.u64.wrap (IntKind.u64.wrap ((R1 : Int) * 4294967296) + (l0 : Int)) - IntKind.u64.wrap ((Q0 : Int) * (Y : Int))) / 2 ^ s)]) = _
       rw [G5.out, G6.out, G7.out, G8.out, h5, h6]
      ·have hov' : ¬ (4294967296 : Int) ≤ (r : Int) + y1 := by omega
       go_wp2
       go_round
       case rel => exact ⟨q', r + y1, by go_num, by go_num, M3.out, M2.out, by omega, by omega⟩
       case measure => simp [intOf]; omega
     ·-- the guess is too great
      obtain ⟨m, t, t1, t2, t3, t4⟩ := half_test q r y0 l0 h.1 HR32.out by0 bl0
      obtain ⟨td, htd⟩ : ∃ td, 4294967296 * r + l0 = td := ⟨_, rfl⟩
      rw [htd] at t3
      have hlt : (td : Int) < (m : Int) := by have := h.2; omega
      have hlt2 : ¬ (4294967296 : Int) ≤ (q : Int) := by have := h.1; omega
      clear htd t4
      obtain ⟨m1, m2, m3⟩ := half_more HYE.out HQR.out e3 bl0 (by rw [HQ0.out]; exact HLO.out) (.inr h.2)
      rw [HQ0.out] at m2
      obtain ⟨q', hq'⟩ : ∃ q', q - 1 = q' := ⟨_, rfl⟩
      rw [hq'] at m2 m3
      have M2 := hid m2
      have M3 := hid m3
      have hq1i : (q' : Int) ≤ 4294967296 := by omega
      have hq2 : (q : Int) - 1 = (q' : Int) := by omega
      have hmeas : q' < q := by omega
      clear m1 m2 m3 h hq'
      by_cases hov : 4294967296 ≤ r + y1
      ·have hov' : (4294967296 : Int) ≤ (r : Int) + y1 := by omega
       obtain rfl : Q0 = q' := by rw [← HQ0.out]; exact Eq.symm <| half_done HYE.out hY0'.out M3.out (by rw [HQ0.out]; exact M2.out) (half_over HYE.out by0 M3.out e3 hov)
       go_wp2
       go_wp2
       go_ret2
       refine ⟨?_, 0, rfl⟩
       have h5 : (Q1 : Int) * 4294967296 + (Q0 : Int) = (Q : Int) := FQ.out
       have h6 : (R0 : Int) / 2 ^ s = (R : Int) := FR.out
       show Ending.returned (.tuple #[.int .u64 ((Q1 : Int) * 4294967296 + (Q0 : Int)), .int .u64 (IntKind.u64.wrap (IntKind.u64.wrap (IntKind.u64.wrap ((R1 : Int) * 4294967296) + (l0 : Int)) - IntKind.u64.wrap ((Q0 : Int) * (Y : Int))) / 2 ^ s)]) = _
       rw [G5.out, G6.out, G7.out, G8.out, h5, h6]
      ·have hov' : ¬ (4294967296 : Int) ≤ (r : Int) + y1 := by omega
       go_wp2
       go_round
       case rel => exact ⟨q', r + y1, by go_num, by go_num, M3.out, M2.out, by omega, by omega⟩
       case measure => simp [intOf]; omega
     ·-- the guess is right
      obtain ⟨m, t, t1, t2, t3, t4⟩ := half_test q r y0 l0 h.1 HR32.out by0 bl0
      obtain ⟨td, htd⟩ : ∃ td, 4294967296 * r + l0 = td := ⟨_, rfl⟩
      rw [htd] at t3
      have hlt : ¬ (td : Int) < (m : Int) := by have := h.2; omega
      have hlt2 : ¬ (4294967296 : Int) ≤ (q : Int) := by have := h.1; omega
      obtain rfl : Q0 = q := by rw [← HQ0.out]; exact Eq.symm <| half_done HYE.out hY0'.out HQR.out (by rw [HQ0.out]; exact HLO.out) h.2
      clear htd t4 h
      go_wp2
      go_ret2
      refine ⟨?_, 0, rfl⟩
      have h5 : (Q1 : Int) * 4294967296 + (Q0 : Int) = (Q : Int) := FQ.out
      have h6 : (R0 : Int) / 2 ^ s = (R : Int) := FR.out
      show Ending.returned (.tuple #[.int .u64 ((Q1 : Int) * 4294967296 + (Q0 : Int)), .int .u64 (IntKind.u64.wrap (IntKind.u64.wrap (IntKind.u64.wrap ((R1 : Int) * 4294967296) + (l0 : Int)) - IntKind.u64.wrap ((Q0 : Int) * (Y : Int))) / 2 ^ s)]) = _
      rw [G5.out, G6.out, G7.out, G8.out, h5, h6]
   ·have hov' : ¬ (4294967296 : Int) ≤ (r : Int) + y1 := by omega
    go_wp2
    go_round
    case rel => exact ⟨q', r + y1, by go_num, by go_num, M3.out, M2.out, by omega, by omega⟩
    case measure => simp [intOf]; omega
  ·-- the guess is right
   obtain ⟨m, t, t1, t2, t3, t4⟩ := half_test q r y0 l1 h.1 HR32.out by0 bl1
   obtain ⟨td, htd⟩ : ∃ td, 4294967296 * r + l1 = td := ⟨_, rfl⟩
   rw [htd] at t3
   have hlt : ¬ (td : Int) < (m : Int) := by have := h.2; omega
   have hlt2 : ¬ (4294967296 : Int) ≤ (q : Int) := by have := h.1; omega
   obtain rfl : Q1 = q := by rw [← HQ1.out]; exact Eq.symm <| half_done HYE.out hY0'.out HQR.out (by rw [HQ1.out]; exact HLO.out) h.2
   clear htd t4 h
   have by1'' := by1
   obtain ⟨A, A2, D, g1, g2, g3, g4⟩ := half_left E2.out (by omega)
   obtain ⟨m0, k1, k2, k3⟩ := half_guess R1 y1 (by omega)
   obtain ⟨s1, s2, s3, s4, s5⟩ := half_start (d := l0) HYE.out by1 by0 bl0 e3
   obtain ⟨Q0, hQ0⟩ : ∃ Q0, (R1 * 4294967296 + l0) / Y = Q0 := ⟨_, rfl⟩
   obtain ⟨R0, hR0⟩ : ∃ R0, (R1 * 4294967296 + l0) % Y = R0 := ⟨_, rfl⟩
   obtain ⟨e4, e5, e6⟩ := half_rest hY0'.out e3 bl0
   rw [hQ0, hR0] at e5
   rw [hQ0] at e4 s4
   rw [hR0] at e6
   obtain ⟨A4, A5, D5, g5, g6, g7, g8⟩ := half_left e5 (by omega)
   obtain ⟨fq, fr⟩ := halves E2.out e5 e6
   have hU := up_sum HC4.out HLE.out
   rw [hU, ← HY.out] at fq fr
   obtain ⟨dq1, dq2⟩ := down_quo (U := hi * 18446744073709551616 + lo) (y := d) (p := 2 ^ s) (Nat.pow_pos (by decide))
   rw [dq1] at fq
   have fq' : Q1 * 4294967296 + Q0 = Q := fq.trans HQ.out
   have fr' : R0 / 2 ^ s = R := by rw [fr, dq2]; exact HR.out
   have FQ := hid (show (Q1 : Int) * 4294967296 + (Q0 : Int) = (Q : Int) by omega)
   have FR := hid (show (R0 : Int) / 2 ^ s = (R : Int) by rw [← fr', Int.natCast_ediv, Int.natCast_pow]; rfl)
   obtain ⟨g0, hg0⟩ : ∃ g0, R1 / y1 = g0 := ⟨_, rfl⟩
   rw [hg0] at k1 k2 k3 s1 s2 s3 s4 s5
   obtain ⟨r0, hr0⟩ : ∃ r0, R1 - g0 * y1 = r0 := ⟨_, rfl⟩
   rw [hr0] at k3 s1 s3
   have S1 := hid s1
   have S4 := hid s4
   have S5 := hid s5
   have HQ0 := hid hQ0
   have G5 := hid g5
   have G6 := hid g6
   have G7 := hid g7
   have G8 := hid g8
   have hr0b : r0 < 4294967296 := by omega
   have hq1b : (Q1 : Int) ≤ 4294967295 := by omega
   have hq0b : (Q0 : Int) ≤ 4294967295 := by omega
   have hr1b : (R1 : Int) ≤ 18446744073709551615 := by omega
   clear s1 s2 s3 s4 s5 hQ0 hR0 e4 e5 e6 hg0 hr0 fq fr fq' fr' hU dq1 dq2 g5 g6 g7 g8
   go_wp2
   clear k1 k2 k3 g1 g2 g3 g4
   go_loop [18, 16] (fun qv rv => ∃ q r : Nat, qv = .int .u64 (q : Int) ∧ rv = .int .u64 (r : Int) ∧ q * y1 + r = R1 ∧ Q0 ≤ q ∧ q ≤ 4294967297 ∧ r < 4294967296) (fun qv _ => (intOf qv).toNat)
   case atStart => exact ⟨g0, r0, rfl, rfl, S1.out, S4.out, S5.out, hr0b⟩
   case round =>
    obtain ⟨q, r, rfl, rfl, hqr, hlo1, hq5, hr32⟩ := hrel
    have HQR := hid hqr
    have HLO := hid hlo1
    have hri : (r : Int) ≤ 4294967295 := by omega
    have hqi : (q : Int) ≤ 4294967297 := by omega
    have hy1i : (y1 : Int) ≤ 4294967295 := by omega
    have HR32 := hid hr32
    clear hqr hlo1 hq5 hr32
    rcases half_cases q r y0 l0 with h | h | h
    ·-- the guess has more than a half
     obtain ⟨m1, m2, m3⟩ := half_more HYE.out HQR.out e3 bl0 (by rw [HQ0.out]; exact HLO.out) (.inl h)
     rw [HQ0.out] at m2
     obtain ⟨q', hq'⟩ : ∃ q', q - 1 = q' := ⟨_, rfl⟩
     rw [hq'] at m2 m3
     have hge : (4294967296 : Int) ≤ (q : Int) := by omega
     have M2 := hid m2
     have M3 := hid m3
     have hq1i : (q' : Int) ≤ 4294967296 := by omega
     have hq2 : (q : Int) - 1 = (q' : Int) := by omega
     have hmeas : q' < q := by omega
     clear m1 m2 m3 h hq'
     by_cases hov : 4294967296 ≤ r + y1
     ·have hov' : (4294967296 : Int) ≤ (r : Int) + y1 := by omega
      obtain rfl : Q0 = q' := by rw [← HQ0.out]; exact Eq.symm <| half_done HYE.out hY0'.out M3.out (by rw [HQ0.out]; exact M2.out) (half_over HYE.out by0 M3.out e3 hov)
      go_wp2
      go_wp2
      go_ret2
      refine ⟨?_, 0, rfl⟩
      have h5 : (Q1 : Int) * 4294967296 + (Q0 : Int) = (Q : Int) := FQ.out
      have h6 : (R0 : Int) / 2 ^ s = (R : Int) := FR.out
      show Ending.returned (.tuple #[.int .u64 ((Q1 : Int) * 4294967296 + (Q0 : Int)), .int .u64 (IntKind.u64.wrap (IntKind.u64.wrap (IntKind.u64.wrap ((R1 : Int) * 4294967296) + (l0 : Int)) - IntKind.u64.wrap ((Q0 : Int) * (Y : Int))) / 2 ^ s)]) = _
      rw [G5.out, G6.out, G7.out, G8.out, h5, h6]
     ·have hov' : ¬ (4294967296 : Int) ≤ (r : Int) + y1 := by omega
      go_wp2
      go_round
      case rel => exact ⟨q', r + y1, by go_num, by go_num, M3.out, M2.out, by omega, by omega⟩
      case measure => simp [intOf]; omega
    ·-- the guess is too great
     obtain ⟨m, t, t1, t2, t3, t4⟩ := half_test q r y0 l0 h.1 HR32.out by0 bl0
     obtain ⟨td, htd⟩ : ∃ td, 4294967296 * r + l0 = td := ⟨_, rfl⟩
     rw [htd] at t3
     have hlt : (td : Int) < (m : Int) := by have := h.2; omega
     have hlt2 : ¬ (4294967296 : Int) ≤ (q : Int) := by have := h.1; omega
     clear htd t4
     obtain ⟨m1, m2, m3⟩ := half_more HYE.out HQR.out e3 bl0 (by rw [HQ0.out]; exact HLO.out) (.inr h.2)
     rw [HQ0.out] at m2
     obtain ⟨q', hq'⟩ : ∃ q', q - 1 = q' := ⟨_, rfl⟩
     rw [hq'] at m2 m3
     have M2 := hid m2
     have M3 := hid m3
     have hq1i : (q' : Int) ≤ 4294967296 := by omega
     have hq2 : (q : Int) - 1 = (q' : Int) := by omega
     have hmeas : q' < q := by omega
     clear m1 m2 m3 h hq'
     by_cases hov : 4294967296 ≤ r + y1
     ·have hov' : (4294967296 : Int) ≤ (r : Int) + y1 := by omega
      obtain rfl : Q0 = q' := by rw [← HQ0.out]; exact Eq.symm <| half_done HYE.out hY0'.out M3.out (by rw [HQ0.out]; exact M2.out) (half_over HYE.out by0 M3.out e3 hov)
      go_wp2
      go_wp2
      go_ret2
      refine ⟨?_, 0, rfl⟩
      have h5 : (Q1 : Int) * 4294967296 + (Q0 : Int) = (Q : Int) := FQ.out
      have h6 : (R0 : Int) / 2 ^ s = (R : Int) := FR.out
      show Ending.returned (.tuple #[.int .u64 ((Q1 : Int) * 4294967296 + (Q0 : Int)), .int .u64 (IntKind.u64.wrap (IntKind.u64.wrap (IntKind.u64.wrap ((R1 : Int) * 4294967296) + (l0 : Int)) - IntKind.u64.wrap ((Q0 : Int) * (Y : Int))) / 2 ^ s)]) = _
      rw [G5.out, G6.out, G7.out, G8.out, h5, h6]
     ·have hov' : ¬ (4294967296 : Int) ≤ (r : Int) + y1 := by omega
      go_wp2
      go_round
      case rel => exact ⟨q', r + y1, by go_num, by go_num, M3.out, M2.out, by omega, by omega⟩
      case measure => simp [intOf]; omega
    ·-- the guess is right
     obtain ⟨m, t, t1, t2, t3, t4⟩ := half_test q r y0 l0 h.1 HR32.out by0 bl0
     obtain ⟨td, htd⟩ : ∃ td, 4294967296 * r + l0 = td := ⟨_, rfl⟩
     rw [htd] at t3
     have hlt : ¬ (td : Int) < (m : Int) := by have := h.2; omega
     have hlt2 : ¬ (4294967296 : Int) ≤ (q : Int) := by have := h.1; omega
     obtain rfl : Q0 = q := by rw [← HQ0.out]; exact Eq.symm <| half_done HYE.out hY0'.out HQR.out (by rw [HQ0.out]; exact HLO.out) h.2
     clear htd t4 h
     go_wp2
     go_ret2
     refine ⟨?_, 0, rfl⟩
     have h5 : (Q1 : Int) * 4294967296 + (Q0 : Int) = (Q : Int) := FQ.out
     have h6 : (R0 : Int) / 2 ^ s = (R : Int) := FR.out
     show Ending.returned (.tuple #[.int .u64 ((Q1 : Int) * 4294967296 + (Q0 : Int)), .int .u64 (IntKind.u64.wrap (IntKind.u64.wrap (IntKind.u64.wrap ((R1 : Int) * 4294967296) + (l0 : Int)) - IntKind.u64.wrap ((Q0 : Int) * (Y : Int))) / 2 ^ s)]) = _
     rw [G5.out, G6.out, G7.out, G8.out, h5, h6]
theorem div64_any (hi lo d : Nat) (hh : hi < d) (hlo : lo < b64) (hd : d < b64) (w : World) :
  Calls Tryz.prog 111 #[.int .u64 (hi : Int), .int .u64 (lo : Int), .int .u64 (d : Int)] w fun e w' =>
   e = .returned (.tuple #[.int .u64 (((hi * b64 + lo) / d : Nat) : Int), .int .u64 (((hi * b64 + lo) % d : Nat) : Int)]) ∧ ∃ q, w' = w.drewN q := by
 rcases Nat.eq_zero_or_pos hi with h | h
 ·subst h
  have h := div64_zero lo d hlo hh w
  rw [Nat.zero_mul, Nat.zero_add]
  exact h
 ·exact div64_pos hi lo d hh h hlo hd w
theorem subMul_step {B : Nat} {zs zr ys : List Nat} {o k c bo c1 bo' hi lo sum s old y d : Nat} (hz : zr[o + k]? = some old) (hy : ys[k]? = some y)
  (hv : V B zr + B ^ o * (V B (ys.take k) * d) = V B zs + B ^ (o + k) * (c + bo)) (h1 : B * hi + lo = y * d) (h2 : sum + B * c1 = lo + c) (h3 : s + (sum + bo) = old + B * bo') :
  V B (zr.set (o + k) s) + B ^ o * (V B (ys.take (k + 1)) * d) = V B zs + B ^ (o + (k + 1)) * (hi + c1 + bo') := by
 have e1 := V_set (B := B) s hz
 rw [V_take_succ hy, show o + (k + 1) = (o + k) + 1 by omega, Nat.pow_succ]
 rw [Nat.pow_add] at *
 obtain ⟨E, hE⟩ : ∃ E, B ^ o = E := ⟨_, rfl⟩
 obtain ⟨K, hK⟩ : ∃ K, B ^ k = K := ⟨_, rfl⟩
 obtain ⟨X, hX⟩ : ∃ X, V B (zr.set (o + k) s) = X := ⟨_, rfl⟩
 obtain ⟨Y, hY⟩ : ∃ X, V B (ys.take k) = X := ⟨_, rfl⟩
 obtain ⟨Z, hZ⟩ : ∃ X, V B zr = X := ⟨_, rfl⟩
 obtain ⟨W, hW⟩ : ∃ X, V B zs = X := ⟨_, rfl⟩
 rw [hE, hK, hX, hZ] at e1
 rw [hE, hK, hZ, hY, hW] at hv
 rw [hE, hK, hX, hY, hW]
 have h4 : s + y * d + c + bo = old + B * (hi + c1 + bo') := by rw [← h1]; grind
 have h5 : E * K * (s + y * d + c + bo) = E * K * (old + B * (hi + c1 + bo')) := by rw [h4]
 clear h1 h2 h3 h4
 grind
theorem subMul_last {B : Nat} {zs zr : List Nat} {o n c bo bo' s old T : Nat} (hz : zr[o + n]? = some old)
  (hv : V B zr + B ^ o * T = V B zs + B ^ (o + n) * (c + bo)) (h3 : s + (c + bo) = old + B * bo') :
  V B (zr.set (o + n) s) + B ^ o * T = V B zs + B ^ (o + n + 1) * bo' := by
 have e1 := V_set (B := B) s hz
 rw [Nat.pow_succ]
 have h5 : B ^ (o + n) * (s + (c + bo)) = B ^ (o + n) * (old + B * bo') := by rw [h3]
 grind
theorem carry_bound {B hi lo y d sum c1 c : Nat} (h : B * hi + lo = y * d) (hy : y < B) (hd : d < B) (h1 : sum + B * c1 = lo + c) (hc : c < B) : hi + c1 < B :=
 amul_bound1 h hy hd h1 hc
def RetSub (w : World) (g off n : Nat) (zs : List Nat) (T : Nat) (e : Ending) (w' : World) : Prop :=
 ∃ bo zs', (bo = 0 ∧ e = .returned (.bool false) ∨ bo = 1 ∧ e = .returned (.bool true)) ∧ Row w' g zs' ∧ Only w w' g ∧ w'.heap.size = w.heap.size ∧ zs'.length = zs.length ∧ Dg b64 zs' ∧
  (∀ t, t < off ∨ off + n + 1 ≤ t → zs'[t]? = zs[t]?) ∧ V b64 zs' + b64 ^ off * T = V b64 zs + b64 ^ (off + n + 1) * bo
theorem subMul_any (w : World) (g off cz : Nat) (zs : List Nat) (hr : Row w g zs) (B : Nat) (A : Option Addr) (n c : Nat) (ys : List Nat) (hs : Sl w B A n c ys) (hB : B ≤ g)
  (hfit : off + n + 1 ≤ zs.length) (hmax : zs.length ≤ 1000000000) (hd : Dg b64 zs) (hd2 : Dg b64 ys) (d : Nat) (hdd : d < b64) :
  Calls Tryz.prog 118 #[.slice (some ⟨g, off, none⟩) (n + 1) cz, .slice A n c, .int .u64 (d : Int)] w fun e w' => RetSub w g off n zs (V b64 ys * d) e w' := by
 have hlc := hs.cap
 have hm := hs.max
 have hgs : g < w.heap.size := hr.lt
 have hn9 : n ≤ 1000000000 := by omega
 go_enter Tryz.func118, Tryz.ntmps118
 go_wp2
 go_loopw [7, 8, 17] (fun cv bv i wr => ∃ k c bo zs', k ≤ n ∧ i = .int .i64 (k : Nat) ∧ cv = .int .u64 ((c : Nat) : Int) ∧ bv = .int .u64 ((bo : Nat) : Int) ∧ c < b64 ∧ bo ≤ 1 ∧ Row wr g zs' ∧ Only w wr g ∧ wr.heap.size = w.heap.size ∧ zs'.length = zs.length ∧ Dg b64 zs' ∧
  (∀ t, t < off ∨ off + n + 1 ≤ t → zs'[t]? = zs[t]?) ∧ V b64 zs' + b64 ^ off * (V b64 (ys.take k) * d) = V b64 zs + b64 ^ (off + k) * (c + bo)) (fun _ _ i _ => n - (intOf i).toNat)
 case atStart => exact ⟨0, 0, 0, zs, Nat.zero_le _, rfl, rfl, rfl, b64_pos, by omega, hr, Only.refl _ _, rfl, rfl, hd, fun _ _ => rfl, by simp [V]⟩
 case round =>
  obtain ⟨k, c', bo, zs', hk, rfl, rfl, rfl, hc1, hbo, hr', ho, hz, hzl, hdz, hzz, hv⟩ := hrel
  have HZ := hid hz
  have HZL := hid hzl
  have HV := hid hv
  have HZZ := hid hzz
  clear hz hzl hv hzz
  have hf := hr'.frozen
  by_cases hlt : k < n
  ·have hsr := hs.below (ho.below hB (by omega))
   have hki : (k : Int) < n := by omega
   obtain ⟨b, off', y, rfl, hb, hy, hc⟩ := hsr.at_ hlt
   have hyl := hd2.get hy
   have HY := hid hy
   clear hy
   obtain ⟨old, hold⟩ := get_lt (zs := zs') (k := off + k) (by rw [HZL.out]; omega)
   have hcy := hr'.at_ hold
   have hol := hdz.get hold
   have HO := hid hold
   clear hold
   have hkz : (k : Int) < n + 1 := by omega
   have hkz2 : (k : Int) < ((n + 1 : Nat) : Int) := by omega
   go_wp2_with (first | (go_at_call 119; refine (mul64_any y d hyl hdd _).mono ?_; rintro e w1 ⟨hi, lo, rfl, hmu, hhi, hlo, rfl⟩; have HMU := hid hmu; have HHI := hid hhi; clear hmu hhi) | (with_reducible show wpList _ _ _ _ _ _; refine wl_add64 (o := ⟨some 31, _, _, _, _, _⟩) rfl _ _ _ rfl lo c' 0 rfl rfl rfl hlo hc1 (Nat.zero_le _) ?_; intro sum c1 hs1 hs2 hs3; simp only [Nat.add_zero] at hs1; have HS := hid hs1; have hb1 : (hi : Int) + c1 < 18446744073709551616 := (by have := lt64.1 (carry_bound HMU.out hyl hdd HS.out hc1); omega); have hs2' := hs2; clear hs1) | (with_reducible show wpList _ _ _ _ _ _; refine wl_sub64 (o := ⟨some 46, _, _, _, _, _⟩) rfl _ _ _ rfl old sum bo rfl rfl rfl hol hs2' hbo ?_; intro s b2 ht1 ht2 ht3; have HT := hid ht1; have HT2 := hid ht2; clear ht1 ht2))
   go_roundw
   case rel => exact ⟨k + 1, hi + c1, b2, zs'.set (off + k) s, by omega, by go_num, by go_num, by go_num, carry_bound HMU.out hyl hdd HS.out hc1, ht3, hr'.set _ _, ho.set _ _, by simpa [World.setCell] using HZ.out, by simp [HZL.out], hdz.set _ HT2.out, fun t ht => by rw [List.getElem?_set_ne (by omega)]; exact HZZ.out t ht, subMul_step HO.out HY.out HV.out HMU.out HS.out HT.out⟩
   case measure => simp [intOf]; omega
  ·obtain rfl : k = n := by omega
   obtain ⟨old, hold⟩ := get_lt (zs := zs') (k := off + k) (by rw [HZL.out]; omega)
   have hcy := hr'.at_ hold
   have hol := hdz.get hold
   have HO := hid hold
   clear hold
   have hkz : (k : Int) < k + 1 := by omega
   have hkz2 : (k : Int) < ((k + 1 : Nat) : Int) := by omega
   have hv := HV.out
   rw [List.take_of_length_le (by rw [← hs.len]; omega)] at hv
   have HV2 := hid hv
   clear hv
   go_wp2_with ((with_reducible show wpList _ _ _ _ _ _); refine wl_sub64 (o := ⟨some 62, _, _, _, _, _⟩) rfl _ _ _ rfl old c' bo rfl rfl rfl hol hc1 hbo ?_; intro s b2 ht1 ht2 ht3; have HT := hid ht1; have HT2 := hid ht2; clear ht1 ht2)
   have fin : ∀ e, (b2 = 0 ∧ e = Ending.returned (.bool false) ∨ b2 = 1 ∧ e = .returned (.bool true)) → RetSub w g off k zs (V b64 ys * d) e (wr.setCell ⟨g, off + k, none⟩ (.int .u64 (s : Int))) := fun e he =>
    ⟨b2, zs'.set (off + k) s, he, hr'.set _ _, ho.set _ _, by simpa [World.setCell] using HZ.out, by simp [HZL.out], hdz.set _ HT2.out, fun t ht => by rw [List.getElem?_set_ne (by omega)]; exact HZZ.out t (by omega), subMul_last HO.out HV2.out HT.out⟩
   have FIN := hid fin
   clear fin
   have h01 : b2 = 0 ∨ b2 = 1 := by omega
   rcases h01 with h | h
   ·subst h
    go_wp2
    go_ret
    exact FIN.out (.returned (.bool false)) (.inl ⟨by trivial, rfl⟩)
   ·subst h
    go_wp2
    go_ret
    exact FIN.out (.returned (.bool true)) (.inr ⟨by trivial, rfl⟩)
theorem q_step {B : Nat} {xs zs : List Nat} {m r x t : Nat} (hx : xs[t]? = some x) (hl : t < zs.length) (h : V B (xs.drop (t + 1)) = m * V B (zs.drop (t + 1)) + r) :
  V B (xs.drop t) = m * V B ((zs.set t ((r * B + x) / m)).drop t) + (r * B + x) % m := by
 have hx' := (List.getElem?_eq_some_iff.1 hx)
 obtain ⟨ht, hxe⟩ := hx'
 have e1 : (zs.set t ((r * B + x) / m)).drop t = ((r * B + x) / m) :: zs.drop (t + 1) := by
  rw [List.drop_eq_getElem_cons (l := zs.set t ((r * B + x) / m)) (i := t) (by rw [List.length_set]; exact hl), List.drop_set_of_lt (by omega), List.getElem_set_self]
 rw [List.drop_eq_getElem_cons ht, hxe, V_cons, h, e1, V_cons]
 have h1 := Nat.div_add_mod (r * B + x) m
 rw [Nat.mul_add, Nat.mul_add, Nat.mul_left_comm B m, Nat.mul_comm B r]
 omega
theorem sq_val {d : Nat} {xs : List Nat} {n : Nat} (hn : n = xs.length) (hd0 : 0 < d) : ∀ k, k ≤ n →
  (sq d xs n (downL n k)).1.length = n ∧ (sq d xs n (downL n k)).2 < d ∧
   V b64 (xs.drop (n - k)) = d * V b64 ((sq d xs n (downL n k)).1.drop (n - k)) + (sq d xs n (downL n k)).2
 | 0, _ => by
  refine ⟨by simp [downL, sq], by simpa [downL, sq] using hd0, ?_⟩
  rw [Nat.sub_zero, List.drop_of_length_le (by omega), List.drop_of_length_le (by simp [downL, sq])]
  simp [downL, sq, V]
 | k + 1, hk => by
  obtain ⟨h1, h2, h3⟩ := sq_val hn hd0 k (by omega)
  obtain ⟨x, hx⟩ := get_lt (zs := xs) (k := n - 1 - k) (by omega)
  rw [downL_succ, sq_snoc]
  unfold sqStep
  rw [hx]
  simp only [Option.getD_some]
  refine ⟨by rw [List.length_set]; exact h1, Nat.mod_lt _ hd0, ?_⟩
  have e : n - k = n - 1 - k + 1 := by omega
  rw [e] at h3
  rw [show n - (k + 1) = n - 1 - k by omega]
  exact q_step hx (by omega) h3
theorem shortQuo_full (w : World) (A : Option Addr) (n c : Nat) (xs : List Nat) (hs : Sl w w.heap.size A n c xs) (hd : Dg b64 xs) (h1 : n ≤ 17592186044416) (d : Nat) (hd0 : 0 < d) (hdl : d < b64) :
  Calls Tryz.prog 101 #[.slice A n c, .int .u64 (d : Int)] w fun e w' =>
   ∃ A3 n3 c3 q A4 n4 c4 r, e = .returned (.tuple #[.slice A3 n3 c3, .slice A4 n4 c4]) ∧ Sl w' w'.heap.size A3 n3 c3 q ∧ Sl w' w'.heap.size A4 n4 c4 r ∧ Below w.heap.size w w' ∧ Nm b64 q (V b64 xs / d) ∧ Nm b64 r (V b64 xs % d) := by
 obtain ⟨v1, v2, v3⟩ := sq_val hs.len hd0 n (Nat.le_refl _)
 rw [Nat.sub_self, List.drop_zero, List.drop_zero] at v3
 have f1 : V b64 xs / d = V b64 (sq d xs n (downL n n)).1 := by
  rw [v3, Nat.mul_add_div hd0, Nat.div_eq_of_lt v2, Nat.add_zero]
 have f2 : V b64 xs % d = (sq d xs n (downL n n)).2 := by
  rw [v3, Nat.mul_add_mod, Nat.mod_eq_of_lt v2]
 rw [f1, f2]
 exact shortQuo_any w _ rfl A n c xs hs hd h1 d hd0 hdl (fun r => r < d) hd0 (fun r x _ _ _ => Nat.mod_lt _ hd0)
  (fun r x W hr hx => div64_any r x d hr hx hdl W)
def LongQ : Prop :=
 ∀ (w : World) (A1 : Option Addr) (m c1 : Nat) (xs : List Nat) (_ : Sl w w.heap.size A1 m c1 xs) (A2 : Option Addr) (n c2 : Nat) (ys : List Nat) (_ : Sl w w.heap.size A2 n c2 ys) (N M : Nat) (_ : Nm b64 xs N) (_ : Nm b64 ys M)
  (_ : m ≤ 100000000) (_ : M ≤ N) (p p1 : Nat) (_ : n = p + 2) (_ : p1 = p + 1),
  Calls Tryz.prog 102 #[.slice A1 m c1, .slice A2 n c2] w fun e w' =>
   ∃ A3 n3 c3 q A4 n4 c4 r, e = .returned (.tuple #[.slice A3 n3 c3, .slice A4 n4 c4]) ∧ Sl w' w'.heap.size A3 n3 c3 q ∧ Sl w' w'.heap.size A4 n4 c4 r ∧ Below w.heap.size w w' ∧ Nm b64 q (N / M) ∧ Nm b64 r (N % M)
theorem quo_zero (w : World) (A1 : Option Addr) (n1 c1 : Nat) (xs : List Nat) (hs1 : Sl w w.heap.size A1 n1 c1 xs) (A2 : Option Addr) (n2 c2 : Nat) (ys : List Nat) (hs2 : Sl w w.heap.size A2 n2 c2 ys) (hd2 : Dg b64 ys) (h0 : V b64 ys = 0) :
  Calls Tryz.prog 85 #[.slice A1 n1 c1, .slice A2 n2 c2] w fun e w' => e = .returned (.tuple #[.slice none 0 0, .slice none 0 0, .bool false]) ∧ Below w.heap.size w w' := by
 have ht : trimmed ys = [] := by
  have h := trimmed_nm hd2
  rw [h0] at h
  exact nm_unique (by decide) h ⟨fun x hx => (by cases hx), fun x hx => (by cases hx), rfl⟩
 have HT := hid ht
 clear ht
 go_enter Tryz.func85, Tryz.ntmps85
 go_wp2_with fail
 refine (ltrim_sl w _ _ _ _ xs hs1).mono ?_; rintro e w1 ⟨m1, rfl, h3, h4, rfl⟩
 go_wp2_with fail
 refine (ltrim_sl w _ _ _ _ ys hs2).mono ?_; rintro e w1 ⟨m2, rfl, h5, h6, rfl⟩
 have hm2 : m2 = 0 := by rw [h5.len, HT.out]; rfl
 subst hm2
 go_wp2_with fail
 go_ret3
 exact ⟨rfl, Below.refl _ _⟩
theorem quo_all (hL : LongQ) (w : World) (A1 : Option Addr) (n1 c1 : Nat) (xs : List Nat) (hs1 : Sl w w.heap.size A1 n1 c1 xs) (A2 : Option Addr) (n2 c2 : Nat) (ys : List Nat) (hs2 : Sl w w.heap.size A2 n2 c2 ys)
  (N M : Nat) (hN : V b64 xs = N) (hM : V b64 ys = M) (hd1 : Dg b64 xs) (hd2 : Dg b64 ys) (hn1 : n1 ≤ 100000000) (hM0 : 0 < M) :
  Calls Tryz.prog 85 #[.slice A1 n1 c1, .slice A2 n2 c2] w fun e w' => RetQ w (N / M) (N % M) e w' := by
 have nx := trimmed_nm hd1
 have ny := trimmed_nm hd2
 rw [hN] at nx
 rw [hM] at ny
 obtain ⟨X, hX⟩ : ∃ X, trimmed xs = X := ⟨_, rfl⟩
 obtain ⟨Y, hY⟩ : ∃ Y, trimmed ys = Y := ⟨_, rfl⟩
 rw [hX] at nx
 rw [hY] at ny
 have hYn : Y ≠ [] := by
  intro h
  have h2 := ny.2.2
  rw [h] at h2
  simp [V] at h2
  omega
 have hYl : Y.length ≠ 0 := fun h => hYn (List.eq_nil_of_length_eq_zero h)
 have NX := hid nx
 have NY := hid ny
 have HX := hid hX
 have HY := hid hY
 have HYL := hid hYl
 clear nx ny hX hY hYn hYl hN hM
 obtain ⟨cv, hcv⟩ : ∃ cv, ncmp N M = cv := ⟨_, rfl⟩
 have HCV := hid hcv
 rcases Nat.lt_or_ge N M with hlt | hge
 ·have hc0 : cv < 0 := by rw [← hcv, ncmp_lt hlt]; decide
  clear hcv
  go_enter Tryz.func85, Tryz.ntmps85
  go_wp2_with fail
  refine (ltrim_sl w _ _ _ _ xs hs1).mono ?_; rintro e w1 ⟨m1, rfl, h3, h4, rfl⟩
  go_wp2_with fail
  refine (ltrim_sl w _ _ _ _ ys hs2).mono ?_; rintro e w1 ⟨m2, rfl, h5, h6, rfl⟩
  rw [HX.out] at h3
  rw [HY.out] at h5
  have hm2 : ¬ (m2 : Int) = 0 := by have := h5.len; have := HYL.out; omega
  have hcm := lcmp_any w _ _ _ _ h3 _ _ _ _ h5 NX.out.1 NY.out.1
  rw [NX.out.2.2, NY.out.2.2, HCV.out] at hcm
  have HCM := hid hcm
  clear hcm
  go_wp2_with fail
  refine HCM.out.mono ?_; rintro e w1 ⟨rfl, hb1⟩
  have hnm := norm_any w1 _ _ _ _ X (h3.later hb1 (Nat.le_refl _)) NX.out.1 (by omega)
  rw [NX.out.2.2] at hnm
  have HNM := hid hnm
  clear hnm
  go_wp2_with fail
  refine HNM.out.mono ?_
  rintro e w2 ⟨rs, hrs, A3, n3, c3, rfl, k1, k2⟩
  have HRS := hid hrs
  clear hrs
  go_wp2
  go_ret3
  refine ⟨[], _, _, _, rs, _, _, _, rfl, Sl.nil _ _ _ (by omega), k1, hb1.trans (k2.mono hb1.size), ?_, ?_⟩
  ·rw [Nat.div_eq_of_lt hlt]
   exact ⟨fun x hx => (by cases hx), fun x hx => (by cases hx), rfl⟩
  ·rw [Nat.mod_eq_of_lt hlt]
   exact HRS.out
 ·have hc0 : ¬ cv < 0 := by
   rcases Nat.lt_or_ge M N with h | h
   ·rw [ncmp_gt h] at hcv; omega
   ·rw [Nat.le_antisymm h hge, ncmp_eq] at hcv; omega
  clear hcv
  rcases Nat.lt_or_ge 1 Y.length with hlong | hshort
  ·have HLONG := hid hlong
   clear hlong
   go_enter Tryz.func85, Tryz.ntmps85
   go_wp2_with fail
   refine (ltrim_sl w _ _ _ _ xs hs1).mono ?_; rintro e w1 ⟨m1, rfl, h3, h4, rfl⟩
   go_wp2_with fail
   refine (ltrim_sl w _ _ _ _ ys hs2).mono ?_; rintro e w1 ⟨m2, rfl, h5, h6, rfl⟩
   rw [HX.out] at h3
   rw [HY.out] at h5
   have hm2 : ¬ (m2 : Int) = 0 := by have := h5.len; have := HYL.out; omega
   have hm1 : ¬ (m2 : Int) = 1 := by have := h5.len; have := HLONG.out; omega
   have hcm := lcmp_any w _ _ _ _ h3 _ _ _ _ h5 NX.out.1 NY.out.1
   rw [NX.out.2.2, NY.out.2.2, HCV.out] at hcm
   have HCM := hid hcm
   clear hcm
   go_wp2_with fail
   refine HCM.out.mono ?_; rintro e w1 ⟨rfl, hb1⟩
   have hlq := hL w1 _ _ _ X (h3.later hb1 (Nat.le_refl _)) _ _ _ Y (h5.later hb1 (Nat.le_refl _)) N M NX.out NY.out (by omega) hge (m2 - 2) (m2 - 1) (by omega) (by omega)
   have HLQ := hid hlq
   clear hlq
   go_wp2_with fail
   refine HLQ.out.mono ?_
   rintro e w2 ⟨A3, m3, c3, q, A4, m4, c4, r, rfl, k1, k2, k3, k4, k5⟩
   have HK4 := hid k4
   have HK5 := hid k5
   clear k4 k5
   go_wp2
   go_ret3
   exact ⟨q, _, _, _, r, _, _, _, rfl, k1, k2, hb1.trans (k3.mono hb1.size), HK4.out, HK5.out⟩
  ·obtain ⟨d, hYd⟩ : ∃ d, Y = [d] := List.length_eq_one_iff.1 (by have := HYL.out; omega)
   subst hYd
   have hdM : d = M := by have h := NY.out.2.2; simp [V] at h; omega
   have hdl : d < b64 := NY.out.1 d (by simp)
   subst hdM
   go_enter Tryz.func85, Tryz.ntmps85
   go_wp2_with fail
   refine (ltrim_sl w _ _ _ _ xs hs1).mono ?_; rintro e w1 ⟨m1, rfl, h3, h4, rfl⟩
   go_wp2_with fail
   refine (ltrim_sl w _ _ _ _ ys hs2).mono ?_; rintro e w1 ⟨m2, rfl, h5, h6, rfl⟩
   rw [HX.out] at h3
   rw [HY.out] at h5
   have hm2 : m2 = 1 := h5.len
   subst hm2
   obtain ⟨b, off, y, rfl, hb, hy, hc⟩ := h5.at_ (k := 0) (by decide)
   simp at hy
   subst hy
   have hcm := lcmp_any w _ _ _ _ h3 _ _ _ _ h5 NX.out.1 NY.out.1
   rw [NX.out.2.2, NY.out.2.2, HCV.out] at hcm
   have HCM := hid hcm
   clear hcm
   go_wp2_with fail
   refine HCM.out.mono ?_; rintro e w1 ⟨rfl, hb1⟩
   have hc1 : w1.cell? ⟨b, off, none⟩ = some (.int .u64 (d : Int)) := (hb1.cell (p := ⟨b, off, none⟩) hb).trans (by simpa using hc)
   have hsq := shortQuo_full w1 _ _ _ X (h3.later hb1 (Nat.le_refl _)) NX.out.1 (by omega) d (by omega) hdl
   rw [NX.out.2.2] at hsq
   have HSQ := hid hsq
   clear hsq
   go_wp2_with fail
   refine HSQ.out.mono ?_
   rintro e w2 ⟨A3, m3, c3, q, A4, m4, c4, r, rfl, k1, k2, k3, k4, k5⟩
   have HK4 := hid k4
   have HK5 := hid k5
   clear k4 k5
   go_wp2
   go_ret3
   exact ⟨q, _, _, _, r, _, _, _, rfl, k1, k2, hb1.trans (k3.mono hb1.size), HK4.out, HK5.out⟩
theorem top2 {B : Nat} {xs : List Nat} {m a b : Nat} (hl : xs.length = m + 2) (ha : xs[m + 1]? = some a) (hb : xs[m]? = some b) : V B xs = (a * B + b) * B ^ m + V B (xs.take m) := by
 have h : V B xs = V B (xs.take (m + 2)) := by rw [List.take_of_length_le (by omega)]
 rw [h, V_take_succ ha, V_take_succ hb, Nat.pow_succ]
 generalize V B (xs.take m) = R
 generalize B ^ m = P
 grind
theorem top3 {B : Nat} {xs : List Nat} {m a b c : Nat} (hl : xs.length = m + 3) (ha : xs[m + 2]? = some a) (hb : xs[m + 1]? = some b) (hc : xs[m]? = some c) : V B xs = ((a * B + b) * B + c) * B ^ m + V B (xs.take m) := by
 have h : V B xs = V B (xs.take (m + 3)) := by rw [List.take_of_length_le (by omega)]
 have e1 : B ^ (m + 1) = B ^ m * B := Nat.pow_succ ..
 have e2 : B ^ (m + 2) = B ^ m * B * B := by rw [← e1]; exact Nat.pow_succ ..
 rw [h, V_take_succ ha, V_take_succ hb, V_take_succ hc, e2, e1]
 clear e1 e2 h
 generalize V B (xs.take m) = R
 generalize B ^ m = P
 grind
theorem est_more {us vs : List Nat} {m u2 u1 u0 v1 v0 q r : Nat} (hdu : Dg b64 us) (hul : us.length = m + 3) (hvl : vs.length = m + 2)
  (h2 : us[m + 2]? = some u2) (h1 : us[m + 1]? = some u1) (h0 : us[m]? = some u0) (hv1 : vs[m + 1]? = some v1) (hv0 : vs[m]? = some v0) (hqr : q * v1 + r = u2 * b64 + u1) (h : r * b64 + u0 < q * v0) :
  0 < q ∧ V b64 us / V b64 vs ≤ q - 1 := by
 have hlt := V_lt (us.take m) (hdu.take m)
 rw [List.length_take, Nat.min_eq_left (by omega)] at hlt
 exact dig_more (top2 hvl hv1 hv0) (top3 hul h2 h1 h0) hlt hqr h
theorem est_done {us vs : List Nat} {m u2 u1 u0 v1 v0 q r : Nat} (hdv : Dg b64 vs) (hul : us.length = m + 3) (hvl : vs.length = m + 2)
  (h2 : us[m + 2]? = some u2) (h1 : us[m + 1]? = some u1) (h0 : us[m]? = some u0) (hv1 : vs[m + 1]? = some v1) (hv0 : vs[m]? = some v0) (hqr : q * v1 + r = u2 * b64 + u1) (hq : q ≤ b64) (hv : 0 < v1) (h : q * v0 ≤ r * b64 + u0) :
  q ≤ V b64 us / V b64 vs + 1 := by
 have hlt := V_lt (vs.take m) (hdv.take m)
 rw [List.length_take, Nat.min_eq_left (by omega)] at hlt
 exact dig_done (top2 hvl hv1 hv0) hlt (top3 hul h2 h1 h0) hqr hq hv h
theorem est_start {us vs : List Nat} {m u2 u1 v1 : Nat} (hdu : Dg b64 us) (hul : us.length = m + 3) (hvl : vs.length = m + 2)
  (h2 : us[m + 2]? = some u2) (h1 : us[m + 1]? = some u1) (hv1 : vs[m + 1]? = some v1) (hv : 0 < v1) :
  V b64 us / V b64 vs ≤ (u2 * b64 + u1) / v1 := by
 have hlt := V_lt (us.take (m + 1)) (hdu.take (m + 1))
 rw [List.length_take, Nat.min_eq_left (by omega)] at hlt
 have e1 : V b64 vs = v1 * b64 ^ (m + 1) + V b64 (vs.take (m + 1)) := by
  have h : V b64 vs = V b64 (vs.take (m + 2)) := by rw [List.take_of_length_le (by omega)]
  rw [h, V_take_succ hv1, Nat.add_comm, Nat.mul_comm]
 have e2 : V b64 us = (u2 * b64 + u1) * b64 ^ (m + 1) + V b64 (us.take (m + 1)) := top2 (m := m + 1) hul h2 h1
 exact dig_start e1 e2 hlt hv
theorem est_top {us vs : List Nat} {m u2 v1 : Nat} (hdv : Dg b64 vs) (hul : us.length = m + 3) (hvl : vs.length = m + 2)
  (h2 : us[m + 2]? = some u2) (hv1 : vs[m + 1]? = some v1) (hn : 9223372036854775808 ≤ v1) (h : v1 ≤ u2) (huv : V b64 us < V b64 vs * b64) :
  V b64 us / V b64 vs ≤ 18446744073709551615 ∧ 18446744073709551615 ≤ V b64 us / V b64 vs + 1 := by
 have hlt := V_lt (vs.take (m + 1)) (hdv.take (m + 1))
 rw [List.length_take, Nat.min_eq_left (by omega)] at hlt
 have e1 : V b64 vs = v1 * b64 ^ (m + 1) + V b64 (vs.take (m + 1)) := by
  have h : V b64 vs = V b64 (vs.take (m + 2)) := by rw [List.take_of_length_le (by omega)]
  rw [h, V_take_succ hv1, Nat.add_comm, Nat.mul_comm]
 have e2 : V b64 us = u2 * (b64 * b64 ^ (m + 1)) + V b64 (us.take (m + 2)) := by
  have h : V b64 us = V b64 (us.take (m + 3)) := by rw [List.take_of_length_le (by omega)]
  rw [h, V_take_succ h2, Nat.add_comm, Nat.mul_comm, Nat.mul_comm b64, ← Nat.pow_succ]
 exact dig_top (B := b64) e1 hlt e2 h (by rw [show b64 = 18446744073709551616 from rfl]; omega) huv (by decide)
theorem est_low {high low q v0 r u0 : Nat} (h : b64 * high + low = q * v0) (hl : low < b64) (hc : high < r ∨ (high = r ∧ low ≤ u0)) : q * v0 ≤ r * b64 + u0 := by
 rw [← h, Nat.mul_comm r]
 rcases hc with h1 | ⟨h1, h2⟩
 ·have := Nat.mul_le_mul_left b64 h1
  rw [Nat.mul_succ] at this
  omega
 ·subst h1; omega
theorem est_high {high low q v0 r u0 : Nat} (h : b64 * high + low = q * v0) (hu : u0 < b64) (hc : ¬ high < r ∧ (high = r → ¬ low ≤ u0)) : r * b64 + u0 < q * v0 := by
 rw [← h, Nat.mul_comm r]
 rcases Nat.lt_or_ge r high with h1 | h1
 ·have := Nat.mul_le_mul_left b64 h1
  rw [Nat.mul_succ] at this
  omega
 ·have h2 : high = r := by omega
  have h3 := hc.2 h2
  subst h2; omega
theorem est_over {q v0 r u0 : Nat} (hq : q < b64) (hv : v0 < b64) (hr : b64 ≤ r) : q * v0 ≤ r * b64 + u0 := by
 have h1 : q * v0 ≤ b64 * b64 := Nat.mul_le_mul (Nat.le_of_lt hq) (Nat.le_of_lt hv)
 have h2 : b64 * b64 ≤ r * b64 := Nat.mul_le_mul_right _ hr
 omega
theorem quiet_add {P : Program} {f : FuncId} {args : Array Value} {w : World} {a n : Nat} {v : Value}
  (h : Calls P f args (w.drewN (a + n)) fun e w' => e = .returned v ∧ ∃ m, w' = (w.drewN (a + n)).drewN m) :
  Calls P f args (w.drewN (a + n)) fun e w'' => e = .returned v ∧ ∃ m, w'' = w.drewN (a + m) :=
 h.mono fun _ _ ⟨he, m, hm⟩ => ⟨he, n + m, by rw [hm, World.drewN_drewN, Nat.add_assoc]⟩
theorem est_cases (hi lo r u0 : Nat) : hi < r ∨ (hi = r ∧ lo ≤ u0) ∨ (hi = r ∧ ¬ lo ≤ u0) ∨ r < hi := by omega
def EstAt (Q T v1 q r c : Nat) : Prop := Q ≤ q ∧ q < b64 ∧ ((c = 0 ∧ q * v1 + r = T ∧ r < b64) ∨ (c = 1 ∧ q ≤ Q + 1))
theorem est_next {Q T v1 v0 u0 q r s c : Nat} (hqr : q * v1 + (r + v1) = T) (hq : Q ≤ q) (ht : s + b64 * c = r + v1) (hs : s < b64) (hc : c ≤ 1) (hq64 : q < 18446744073709551616)
  (done : q * v1 + (r + v1) = T → q < b64 → q * v0 ≤ (r + v1) * b64 + u0 → q ≤ Q + 1) (hv : v0 < b64) : EstAt Q T v1 q s c := by
 refine ⟨hq, lt64.2 hq64, ?_⟩
 have h01 : c = 0 ∨ c = 1 := by omega
 rcases h01 with h | h
 ·subst h
  exact .inl ⟨rfl, by rw [← hqr]; omega, hs⟩
 ·subst h
  exact .inr ⟨rfl, done hqr (lt64.2 hq64) (est_over (lt64.2 hq64) hv (by omega))⟩
def RetEst (w : World) (C : Prop) (Q : Nat) (e : Ending) (w' : World) : Prop := ∃ q k : Nat, e = .returned (.int .u64 (q : Int)) ∧ q < b64 ∧ (C → Q ≤ q ∧ q ≤ Q + 1) ∧ w' = w.drewN k
theorem estimate_any (w : World) (g off cu gv ov cv nu n n1 m : Nat) (us vs : List Nat) (hu : ∀ (k x : Nat), us[k]? = some x → w.cell? ⟨g, off + k, none⟩ = some (.int .u64 (x : Int))) (hv : ∀ (k x : Nat), vs[k]? = some x → w.cell? ⟨gv, ov + k, none⟩ = some (.int .u64 (x : Int)))
  (hn1 : n1 = m + 1) (hn : n = m + 2) (hnu : nu = n + 1) (hul : us.length = m + 3) (hvl : vs.length = m + 2) (hmax : nu ≤ 1000000000) (hdu : Dg b64 us) (hdv : Dg b64 vs) :
  Calls Tryz.prog 117 #[.slice (some ⟨g, off, none⟩) nu cu, .slice (some ⟨gv, ov, none⟩) n cv] w fun e w' => RetEst w (V b64 us < V b64 vs * b64 ∧ ∀ x, vs[m + 1]? = some x → 9223372036854775808 ≤ x) (V b64 us / V b64 vs) e w' := by
 obtain ⟨u2, hu2⟩ := get_lt (zs := us) (k := m + 2) (by omega)
 obtain ⟨u1, hu1⟩ := get_lt (zs := us) (k := m + 1) (by omega)
 obtain ⟨u0, hu0⟩ := get_lt (zs := us) (k := m) (by omega)
 obtain ⟨v1, hv1⟩ := get_lt (zs := vs) (k := m + 1) (by omega)
 obtain ⟨v0, hv0⟩ := get_lt (zs := vs) (k := m) (by omega)
 have cu2 := hu _ _ hu2
 have cu1 := hu _ _ hu1
 have cu0 := hu _ _ hu0
 have cv1 := hv _ _ hv1
 have cv0 := hv _ _ hv0
 have bu2 := lt64.1 (hdu.get hu2)
 have bu1 := lt64.1 (hdu.get hu1)
 have bu0 := lt64.1 (hdu.get hu0)
 have bv1 := lt64.1 (hdv.get hv1)
 have bv0 := lt64.1 (hdv.get hv0)
 rw [← hn] at cu2
 rw [← hn1] at cu1 cv1
 obtain ⟨Q, hQ⟩ : ∃ Q, V b64 us / V b64 vs = Q := ⟨_, rfl⟩
 obtain ⟨C, hC⟩ : ∃ C, (V b64 us < V b64 vs * b64 ∧ ∀ x, vs[m + 1]? = some x → 9223372036854775808 ≤ x) = C := ⟨_, rfl⟩
 have top : v1 ≤ u2 → C → Q ≤ 18446744073709551615 ∧ 18446744073709551615 ≤ Q + 1 := fun h hc => by
  rw [← hC] at hc
  exact hQ ▸ est_top hdv hul hvl hu2 hv1 (hc.2 _ hv1) h hc.1
 rw [hC]
 clear hC
 have start : 0 < v1 → Q ≤ (u2 * b64 + u1) / v1 := fun hp => hQ ▸ est_start hdu hul hvl hu2 hu1 hv1 hp
 have more : ∀ q r, q * v1 + r = u2 * b64 + u1 → r * b64 + u0 < q * v0 → 0 < q ∧ Q ≤ q - 1 := fun q r h1 h2 => hQ ▸ est_more hdu hul hvl hu2 hu1 hu0 hv1 hv0 h1 h2
 have done : 0 < v1 → ∀ q r, q * v1 + r = u2 * b64 + u1 → q < b64 → q * v0 ≤ r * b64 + u0 → q ≤ Q + 1 := fun hp q r h1 h2 h3 => hQ ▸ est_done hdv hul hvl hu2 hu1 hu0 hv1 hv0 h1 (Nat.le_of_lt h2) hp h3
 rw [hQ]
 have TOP := hid top
 have START := hid start
 have MORE := hid more
 have DONE0 := hid done
 have i1 : (n : Int) - 1 = (n1 : Int) := by omega
 have i2 : (n : Int) - 2 = (m : Int) := by omega
 have i3 : (n : Int) < nu := by omega
 have i4 : (n1 : Int) < n := by omega
 have i5 : (n1 : Int) < nu := by omega
 have i6 : (m : Int) < n := by omega
 have i7 : (m : Int) < nu := by omega
 have i8 : (n : Int) ≤ 1000000000 := by omega
 have i9 : (n1 : Int) ≤ 1000000000 := by omega
 have i10 : (m : Int) ≤ 1000000000 := by omega
 have i11 : (2 : Int) ≤ n := by omega
 clear top start more done hQ hu hv hul hvl hmax hdu hdv hu2 hu1 hu0 hv1 hv0 hn1 hn hnu
 by_cases hge : v1 ≤ u2
 ·have hgi : (v1 : Int) ≤ (u2 : Int) := by omega
  go_enter Tryz.func117, Tryz.ntmps117
  go_wp2
  go_step3
  go_wp2
  go_quiet (fail)
  go_wp2
  try rw [Exit.noGoto_ret]
  go_ret
  exact ⟨18446744073709551615, _, rfl, by decide, TOP.out hge, rfl⟩
 ·have hgi : ¬ (v1 : Int) ≤ (u2 : Int) := by omega
  have hdv := fun W => div64_any u2 u1 v1 (by omega) (lt64.2 bu1) (lt64.2 bv1) W
  have hdm := Nat.div_add_mod (u2 * b64 + u1) v1
  have hml := Nat.mod_lt (u2 * b64 + u1) (show 0 < v1 by omega)
  have hql : (u2 * b64 + u1) / v1 < b64 := by
   refine Nat.div_lt_of_lt_mul ?_
   have h1 := Nat.mul_le_mul_right b64 (show u2 + 1 ≤ v1 by omega)
   rw [Nat.add_mul, Nat.one_mul] at h1
   have := lt64.2 bu1
   omega
  have hst := START.out (by omega)
  have bv1p : (0 : Int) < v1 := by omega
  have DONE := hid (DONE0.out (by omega))
  obtain ⟨q0, hq0⟩ : ∃ q0, (u2 * b64 + u1) / v1 = q0 := ⟨_, rfl⟩
  obtain ⟨r0, hr0⟩ : ∃ q0, (u2 * b64 + u1) % v1 = q0 := ⟨_, rfl⟩
  rw [hq0] at hdv hdm hql hst
  rw [hr0] at hdv hdm hml
  rw [Nat.mul_comm] at hdm
  have HDV := hid hdv
  have HDM := hid hdm
  have HQL := hid hql
  have HST := hid hst
  clear hdv hdm hql hst hq0 hr0 START DONE0
  go_enter Tryz.func117, Tryz.ntmps117
  go_wp2
  go_step3
  go_wp2
  go_quiet (fail)
  go_wp2
  go_quiet ((go_at_call 111; exact quiet_add (HDV.out _)))
  go_wp2
  go_step3
  go_wp2
  go_loopw [6, 7, 8] (fun qv rv ov wr => ∃ q r c kd : Nat, wr = w.drewN kd ∧ qv = .int .u64 (q : Int) ∧ rv = .int .u64 (r : Int) ∧ ov = .int .u64 (c : Int) ∧ EstAt Q (u2 * b64 + u1) v1 q r c) (fun qv _ _ _ => (intOf qv).toNat)
  case atStart => exact ⟨q0, r0, 0, _, World.drewN_drewN _ _ _, rfl, rfl, rfl, HST.out, HQL.out, .inl ⟨rfl, HDM.out, by rw [lt64]; omega⟩⟩
  case round =>
   obtain ⟨q, r, c, kd, rfl, rfl, rfl, rfl, hq1, hq2, hat⟩ := hrel
   have HAT := hid hat
   have HQ1 := hid hq1
   have HQ2 := hid hq2
   have hqi : (q : Int) ≤ 18446744073709551615 := by have := lt64.1 hq2; omega
   clear hat hq1
   rcases HAT.out with ⟨hc, hqr, hr⟩ | ⟨hc, hqx⟩
   ·subst hc
    have HQR := hid hqr
    have hri : (r : Int) ≤ 18446744073709551615 := by have := lt64.1 hr; omega
    clear HAT hqr hr
    go_wp2_with fail
    refine (mul64_any q v0 hq2 (lt64.2 bv0) _).mono ?_
    rintro e w1 ⟨hi, lo, rfl, hmu, hhi, hlo, rfl⟩
    have HMU := hid hmu
    clear hmu
    have hhi' : (hi : Int) ≤ 18446744073709551615 := by have := lt64.1 hhi; omega
    have hlo' : (lo : Int) ≤ 18446744073709551615 := by have := lt64.1 hlo; omega
    rcases est_cases hi lo r u0 with h | h | h | h
    ·have t1 : (hi : Int) < (r : Int) := by omega
     go_wp2
     try rw [Exit.noGoto_ret]
     go_ret
     exact ⟨q, _, rfl, HQ2.out, fun _ => ⟨HQ1.out, DONE.out q r HQR.out HQ2.out (est_low HMU.out hlo (.inl h))⟩, rfl⟩
    ·obtain ⟨h1, h2⟩ := h
     have t1 : ¬ (hi : Int) < (r : Int) := by omega
     have t3 : ((hi : Int) == (r : Int)) = true := by simp; omega
     have t2 : (lo : Int) ≤ (u0 : Int) := by omega
     go_wp2
     try rw [Exit.noGoto_ret]
     go_ret
     exact ⟨q, _, rfl, HQ2.out, fun _ => ⟨HQ1.out, DONE.out q r HQR.out HQ2.out (est_low HMU.out hlo (.inr ⟨h1, h2⟩))⟩, rfl⟩
    ·obtain ⟨h1, h2⟩ := h
     have t1 : ¬ (hi : Int) < (r : Int) := by omega
     have t3 : ((hi : Int) == (r : Int)) = true := by simp; omega
     have t2 : ¬ (lo : Int) ≤ (u0 : Int) := by omega
     have hmq := MORE.out q r HQR.out (est_high HMU.out (lt64.2 bu0) ⟨by omega, fun _ => by omega⟩)
     obtain ⟨q', hq'⟩ : ∃ q', q - 1 = q' := ⟨_, rfl⟩
     rw [hq'] at hmq
     have hq1 : IntKind.u64.wrap ((q : Int) - 1) = (q' : Int) := by have := hmq.1; rw [wrap_emod]; omega
     have hq1b : (q' : Int) ≤ 18446744073709551615 := by omega
     have hmeas : q' < q := by have := hmq.1; omega
     have hqr' : q' * v1 + (r + v1) = u2 * b64 + u1 := by
      have h1 := HQR.out
      obtain rfl : q = q' + 1 := by have := hmq.1; omega
      rw [Nat.add_mul, Nat.one_mul] at h1
      omega
     have HMQ := hid hmq.2
     have HQR' := hid hqr'
     have hr64 := lt64.2 (show r < 18446744073709551616 by omega)
     clear hmq hq' hqr'
     go_wp2_with (with_reducible show wpList _ _ _ _ _ _; refine wl_add64 (o := ⟨some 62, _, _, _, _, _⟩) rfl _ _ _ rfl r v1 0 rfl rfl rfl hr64 (lt64.2 bv1) (Nat.zero_le _) ?_; intro s c ht1 ht2 ht3; simp only [Nat.add_zero] at ht1; have HT := hid ht1; have HT2 := hid ht2; clear ht1 ht2)
     go_roundw
     case rel => exact ⟨q', s, c, kd, rfl, by go_num, rfl, rfl, est_next HQR'.out HMQ.out HT.out HT2.out ht3 (by omega) (fun h1 h2 h3 => DONE.out _ _ h1 h2 h3) (lt64.2 bv0)⟩
     case measure => simp [intOf]; omega
    ·have t1 : ¬ (hi : Int) < (r : Int) := by omega
     have t3 : ((hi : Int) == (r : Int)) = false := by simp; omega
     have hmq := MORE.out q r HQR.out (est_high HMU.out (lt64.2 bu0) ⟨by omega, fun _ => by omega⟩)
     obtain ⟨q', hq'⟩ : ∃ q', q - 1 = q' := ⟨_, rfl⟩
     rw [hq'] at hmq
     have hq1 : IntKind.u64.wrap ((q : Int) - 1) = (q' : Int) := by have := hmq.1; rw [wrap_emod]; omega
     have hq1b : (q' : Int) ≤ 18446744073709551615 := by omega
     have hmeas : q' < q := by have := hmq.1; omega
     have hqr' : q' * v1 + (r + v1) = u2 * b64 + u1 := by
      have h1 := HQR.out
      obtain rfl : q = q' + 1 := by have := hmq.1; omega
      rw [Nat.add_mul, Nat.one_mul] at h1
      omega
     have HMQ := hid hmq.2
     have HQR' := hid hqr'
     have hr64 := lt64.2 (show r < 18446744073709551616 by omega)
     clear hmq hq' hqr'
     go_wp2_with (with_reducible show wpList _ _ _ _ _ _; refine wl_add64 (o := ⟨some 62, _, _, _, _, _⟩) rfl _ _ _ rfl r v1 0 rfl rfl rfl hr64 (lt64.2 bv1) (Nat.zero_le _) ?_; intro s c ht1 ht2 ht3; simp only [Nat.add_zero] at ht1; have HT := hid ht1; have HT2 := hid ht2; clear ht1 ht2)
     go_roundw
     case rel => exact ⟨q', s, c, kd, rfl, by go_num, rfl, rfl, est_next HQR'.out HMQ.out HT.out HT2.out ht3 (by omega) (fun h1 h2 h3 => DONE.out _ _ h1 h2 h3) (lt64.2 bv0)⟩
     case measure => simp [intOf]; omega
   ·subst hc
    go_wp2
    try rw [Exit.noGoto_ret]
    go_ret
    exact ⟨q, _, rfl, HQ2.out, fun _ => ⟨HQ1.out, hqx⟩, rfl⟩
end Go.Proofs.YtbejcollbkeedaaGreat
namespace Go.Proofs.YtbejcollbkeedaaGreat
open Go.RowKit Go.Shelf
theorem bit_of {xs : List Nat} {N j x : Nat} (h : V b64 xs = N) (hd : Dg b64 xs) (hx : xs[j / 64]?.getD 0 = x) : N / 2 ^ j % 2 = x / 2 ^ (j % 64) % 2 := by
 have e1 : 2 ^ j = b64 ^ (j / 64) * 2 ^ (j % 64) := by
  rw [show b64 = 2 ^ 64 from rfl, ← Nat.pow_mul, ← Nat.pow_add]
  congr 1
  omega
 have e3 : b64 = 2 ^ (j % 64) * (2 * 2 ^ (63 - j % 64)) := by
  rw [← Nat.pow_succ', ← Nat.pow_add, show j % 64 + (63 - j % 64 + 1) = 64 by omega]
  rfl
 rw [e1, ← Nat.div_div_eq_div_mul, ← h, div_pow_digits b64_pos xs hd, hx]
 generalize V b64 (xs.drop (j / 64 + 1)) = T
 rw [e3, Nat.mul_assoc, Nat.mul_comm (2 ^ (j % 64)), Nat.add_mul_div_right _ _ (Nat.pow_pos (by decide)), Nat.mul_assoc, Nat.add_mul_mod_self_left]
theorem bit_any (w : World) (B : Nat) (A : Option Addr) (n c : Nat) (xs : List Nat) (hs : Sl w B A n c xs) (hd : Dg b64 xs) (i : Nat) (hi : i ≤ 9223372036854775807) :
  Calls Tryz.prog 87 #[.slice A n c, .int .i64 (i : Int)] w fun e w' => e = .returned (.int .u64 ((V b64 xs / 2 ^ i % 2 : Nat) : Int)) ∧ w = w' := by
 have hlc := hs.cap
 have hmx := hs.max
 have hi0 : ¬ (i : Int) < 0 := by omega
 by_cases hlt : i / 64 < n
 ·obtain ⟨b, off, x, rfl, hb, hx, hc⟩ := hs.at_ hlt
  have hbt := bit_of (j := i) rfl hd (by rw [hx])
  rw [hbt]
  have hge : ¬ (n : Int) ≤ (i : Int) / 64 := by omega
  have hi2 : (i : Int) / 64 < n := by omega
  have hxl := lt64.1 (hd.get hx)
  obtain ⟨y, hy⟩ : ∃ y, x / 2 ^ (i % 64) = y := ⟨_, rfl⟩
  have hyl : y < 18446744073709551616 := by rw [← hy]; exact Nat.lt_of_le_of_lt (Nat.div_le_self _ _) hxl
  have HY := hid hy
  have HYL := hid hyl
  clear hbt hx hxl hy hyl
  go_enter Tryz.func87, Tryz.ntmps87
  go_wp2
  go_ret
  refine ⟨?_, rfl⟩
  have ha := and_one_u64 (y : Int) (by omega) (by have := HYL.out; omega)
  show Ending.returned (Value.int IntKind.u64 (bits BinOp.and IntKind.u64 ((x / 2 ^ (i % 64) : Nat) : Int) 1)) = _
  rw [HY.out, ha, ← HY.out]
  rfl
 ·have hbt := bit_of (j := i) rfl hd (by rw [List.getElem?_eq_none (by rw [← hs.len]; omega)])
  rw [hbt]
  have hge : (n : Int) ≤ (i : Int) / 64 := by omega
  clear hbt
  go_enter Tryz.func87, Tryz.ntmps87
  go_wp2
  go_ret
  exact ⟨by simp, rfl⟩
attribute [local go_sem] Oper.semAt_some
abbrev encE (N k : Nat) : Ix k → Array Value := fun i => #[.int .i64 (i.1 : Int), .int .u64 ((N / 2 ^ i.1 % 2 : Nat) : Int)]
end Go.Proofs.YtbejcollbkeedaaGreat
namespace Go.Proofs.YtbejcollbkeedaaGreat
open Go.RowKit
theorem bits_topq {q : Nat} {xs : List Nat} {m x N t : Nat} (h : Nm (2 ^ q) xs N) (hm : xs.length = m + 1) (hx : xs[m]? = some x) (h1 : x < 2 ^ t) (h2 : t ≠ 0 → 2 ^ (t - 1) ≤ x) : IsBits N (q * m + t) := by
 have hx0 : x ≠ 0 := by
  refine h.2.1 x ?_
  rw [List.getLast?_eq_getElem?, hm]
  simpa using hx
 have ht : t ≠ 0 := by intro e; subst e; simp at h1; exact hx0 h1
 have h2' := h2 ht
 have hN : N = V (2 ^ q) (xs.take m) + (2 ^ q) ^ m * x := by
  rw [← h.2.2, ← V_take_succ hx, List.take_of_length_le (by omega)]
 have hlt := V_lt (xs.take m) (h.1.take m)
 rw [List.length_take, Nat.min_eq_left (by omega)] at hlt
 rw [← Nat.pow_mul] at hN hlt
 refine ⟨?_, fun _ => ?_⟩
 ·rw [Nat.pow_add]
  have := Nat.mul_le_mul_left (2 ^ (q * m)) h1
  rw [Nat.mul_succ] at this
  omega
 ·rw [show q * m + t - 1 = q * m + (t - 1) by omega, Nat.pow_add]
  have := Nat.mul_le_mul_left (2 ^ (q * m)) h2'
  omega
theorem rbits_any (w : World) (B : Nat) (A : Option Addr) (n c : Nat) (xs : List Nat) (hs : Sl w B A n c xs) (N : Nat) (hN : Nm b32 xs N) (hn : n ≤ 1000000000) :
  Calls Tryz.prog 56 #[.slice A n c] w fun e w' => ∃ k : Nat, e = .returned (.int .i64 (k : Int)) ∧ IsBits N k ∧ w = w' := by
 have HN := hid hN
 clear hN
 by_cases h0 : n = 0
 ·subst h0
  go_enter Tryz.func56, Tryz.ntmps56
  go_wp2
  go_ret
  refine ⟨0, rfl, ⟨?_, fun h => absurd rfl h⟩, rfl⟩
  have : xs = [] := List.eq_nil_of_length_eq_zero hs.len.symm
  rw [← HN.out.2.2, this]
  decide
 ·obtain ⟨m, rfl⟩ : ∃ m, n = m + 1 := ⟨n - 1, by omega⟩
  obtain ⟨b, off, x, rfl, hb, hx, hc⟩ := hs.at_ (k := m) (by omega)
  have hxl := lt32.1 (HN.out.1.get hx)
  have HX := hid hx
  have HXL := hid hxl
  clear hx hxl
  have hm0 : (((m + 1 : Nat) : Int) == 0) = false := by simp; omega
  have hm1 : ((m + 1 : Nat) : Int) - 1 = (m : Int) := by omega
  go_enter Tryz.func56, Tryz.ntmps56
  go_wp2_with fail
  go_loopw [4, 5] (fun kv tv wr => ∃ t y : Nat, kv = .int .i64 (t : Nat) ∧ tv = .int .u64 ((y : Nat) : Int) ∧ y = x / 2 ^ t ∧ (t ≠ 0 → 2 ^ (t - 1) ≤ x) ∧ t ≤ 32 ∧ wr = w) (fun kv _ _ => 64 - (intOf kv).toNat)
  case atStart => exact ⟨0, x, rfl, rfl, by simp, fun h => absurd rfl h, by omega, rfl⟩
  case round =>
   obtain ⟨t, y, rfl, rfl, hy, ht, ht32, rfl⟩ := hrel
   have HY := hid hy
   have HT := hid ht
   clear hy ht
   by_cases hlt : 0 < y
   ·have hyi : (0 : Int) < y := by omega
    have h2 : 2 ^ t ≤ x := by
     have := HY.out
     exact (Nat.div_pos_iff.1 (by omega)).2
    have ht31 : t < 32 := by
     apply Classical.byContradiction
     intro h
     have h3 : 2 ^ 32 ≤ 2 ^ t := Nat.pow_le_pow_right (by decide) (by omega)
     have h4 := HXL.out
     have h5 : (2 : Nat) ^ 32 = 4294967296 := by decide
     omega
    have hyl : (y : Int) < 4294967296 := by
     have h6 := HY.out
     have h7 := Nat.div_le_self x (2 ^ t)
     have h8 := HXL.out
     omega
    have H2 := hid h2
    clear h2
    go_wp2
    go_roundw
    case rel => exact ⟨t + 1, y / 2, by go_num, by go_num, by rw [HY.out, Nat.div_div_eq_div_mul, Nat.pow_succ], fun _ => by simpa using H2.out, by omega, by trivial⟩
    case measure => simp [intOf]; omega
   ·obtain rfl : y = 0 := by omega
    have hyi : ¬ (0 : Int) < (0 : Nat) := by omega
    have hx1 : x < 2 ^ t := by
     have := HY.out
     exact (Nat.div_eq_zero_iff_lt (Nat.pow_pos (by decide))).1 this.symm
    have HX1 := hid hx1
    clear hx1
    go_wp2
    go_ret
    exact ⟨32 * m + t, ret_i64 (by omega), bits_topq (q := 32) HN.out hs.len.symm HX.out HX1.out HT.out, rfl⟩
end Go.Proofs.YtbejcollbkeedaaGreat
