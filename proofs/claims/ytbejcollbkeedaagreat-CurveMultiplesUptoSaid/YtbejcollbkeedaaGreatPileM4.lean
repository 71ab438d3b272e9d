/- Parts of one proof, joined: RefJ, RefK, QuoM, QuoF, QuoG, QuoW, Few, WSums, RefL. -/
import Derived.Test.YtbejcollbkeedaaGreatPileM3
import Derived.Deep.RegionHeld3
import Derived.Test.YtbejcollbkeedaaGreatPileM1
import Derived.OpenShut
set_option linter.unusedVariables false
set_option linter.unusedSimpArgs false
set_option linter.unusedSectionVars false
set_option maxRecDepth 100000
set_option maxHeartbeats 8000000
open Go.Lib (hid)
namespace Go.Proofs.YtbejcollbkeedaaGreat
open Go.RowKit
theorem rbit_any (w : World) (B : Nat) (A : Option Addr) (n c : Nat) (xs : List Nat) (hs : Sl w B A n c xs) (hd : Dg b32 xs) (i : Int) (hi : i ≤ 9223372036854775807) :
  Calls Tryz.prog 58 #[.slice A n c, .int .i64 i] w fun e w' => e = .returned (.int .u64 (if i < 0 then 0 else ((V b32 xs / 2 ^ i.toNat % 2 : Nat) : Int))) ∧ w = w' := by
 by_cases hi0 : i < 0
 ·rw [if_pos hi0]
  go_enter Tryz.func58, Tryz.ntmps58
  go_wp2
  go_ret
  exact ⟨rfl, rfl⟩
 ·rw [if_neg hi0]
  obtain ⟨i, rfl⟩ := Int.eq_ofNat_of_zero_le (Int.not_lt.1 hi0)
  rw [Int.toNat_natCast]
  obtain ⟨L, hL⟩ : ∃ L, i / 32 = L := ⟨_, rfl⟩
  obtain ⟨p, hp⟩ : ∃ p, i % 32 = p := ⟨_, rfl⟩
  have hLi : (i : Int) / 32 = (L : Int) := by omega
  have hpi : (i : Int) % 32 = (p : Int) := by omega
  have hp64 : (p : Int) < 64 := by omega
  have hp32 : p < 32 := by omega
  have hbt : ∀ x, xs[L]?.getD 0 = x → V b32 xs / 2 ^ i % 2 = x / 2 ^ p % 2 := by
   intro x hx
   have e1 : 2 ^ i = b32 ^ L * 2 ^ p := by
    rw [show b32 = 2 ^ 32 from rfl, ← Nat.pow_mul, ← Nat.pow_add]
    congr 1
    omega
   have e3 : b32 = 2 ^ p * (2 * 2 ^ (31 - p)) := by
    rw [← Nat.pow_succ', ← Nat.pow_add, show p + (31 - p + 1) = 32 by omega]
    rfl
   rw [e1, ← Nat.div_div_eq_div_mul, div_pow_digits b32_pos xs hd, hx]
   generalize V b32 (xs.drop (L + 1)) = T
   rw [e3, Nat.mul_assoc, Nat.mul_comm (2 ^ p), Nat.add_mul_div_right _ _ (Nat.pow_pos (by decide)), Nat.mul_assoc, Nat.add_mul_mod_self_left]
  have HBT := hid hbt
  clear hbt hL hp
  by_cases hlt : L < n
  ·obtain ⟨b, off, x, rfl, hb, hx, hc⟩ := hs.at_ hlt
   have hge : ¬ (n : Int) ≤ (L : Int) := by omega
   have hLi2 : (L : Int) < n := by omega
   obtain ⟨v, hv⟩ : ∃ v, V b32 xs / 2 ^ i % 2 = v := ⟨_, rfl⟩
   have hfin : ((x : Int) / 2 ^ p).tmod 2 = (v : Int) := by
    have h1 : (x : Int) / 2 ^ p = ((x / 2 ^ p : Nat) : Int) := by rw [Int.natCast_ediv, Int.natCast_pow]; rfl
    rw [← hv, HBT.out x (by rw [hx, Option.getD_some]), h1]
    rfl
   rw [hv]
   have HF := hid hfin
   clear hfin hx hv
   go_enter Tryz.func58, Tryz.ntmps58
   go_wp2
   go_ret
   refine ⟨?_, rfl⟩
   show Ending.returned (.int .u64 (((x : Int) / 2 ^ p).tmod 2)) = _
   rw [HF.out]
  ·have hge : (n : Int) ≤ (L : Int) := by omega
   rw [HBT.out 0 (by rw [List.getElem?_eq_none (by rw [← hs.len]; omega)]; rfl)]
   simp only [Nat.zero_div, Nat.zero_mod]
   go_enter Tryz.func58, Tryz.ntmps58
   go_wp2
   go_ret
   exact ⟨rfl, rfl⟩
theorem small_step {xs zs : List Nat} {m r x t : Nat} (hx : xs[t]? = some x) (hl : t < zs.length) (h : V b32 (xs.drop (t + 1)) = m * V b32 (zs.drop (t + 1)) + r) :
  V b32 (xs.drop t) = m * V b32 ((zs.set t ((r * 4294967296 + x) / m)).drop t) + (r * 4294967296 + x) % m := by
 have hx' := (List.getElem?_eq_some_iff.1 hx)
 obtain ⟨ht, hxe⟩ := hx'
 have e1 : (zs.set t ((r * 4294967296 + x) / m)).drop t = ((r * 4294967296 + x) / m) :: zs.drop (t + 1) := by
  rw [List.drop_eq_getElem_cons (l := zs.set t ((r * 4294967296 + x) / m)) (i := t) (by rw [List.length_set]; exact hl), List.drop_set_of_lt (by omega), List.getElem_set_self]
 rw [List.drop_eq_getElem_cons ht, hxe, V_cons, h, e1, V_cons]
 have h1 := Nat.div_add_mod (r * 4294967296 + x) m
 have e : b32 = 4294967296 := rfl
 rw [Nat.mul_add, Nat.mul_add, Nat.mul_left_comm b32 m, e]
 omega
theorem small_any (w : World) (B : Nat) (hB : B ≤ w.heap.size) (A : Option Addr) (n c : Nat) (xs : List Nat) (hs : Sl w B A n c xs) (hd : Dg b32 xs) (hn : n ≤ 1000000000) (m : Nat) (hm0 : 0 < m) (hm : m < 4294967296) :
  Calls Tryz.prog 98 #[.slice A n c, .int .u64 (m : Int)] w fun e w' => ∃ A' n' c' q, e = .returned (.tuple #[.slice A' n' c', .int .u64 ((V b32 xs % m : Nat) : Int)]) ∧ Nm b32 q (V b32 xs / m) ∧ Sl w' w'.heap.size A' n' c' q ∧ Below w.heap.size w w' := by
 have hlc := hs.cap
 have hmx := hs.max
 have hmi : (0 : Int) < m := by omega
 have hmi2 : (m : Int) < 4294967296 := by omega
 obtain ⟨Q0, hQ0⟩ : ∃ q, V b32 xs / m = q := ⟨_, rfl⟩
 obtain ⟨R0, hR0⟩ : ∃ q, V b32 xs % m = q := ⟨_, rfl⟩
 rw [hQ0, hR0]
 have HQ0 := hid hQ0
 have HR0 := hid hR0
 clear hQ0 hR0
 go_enter Tryz.func98, Tryz.ntmps98
 go_wp2_with (at_make; refine wl_make rfl _ _ Tryz.underlying28 rfl _ n rfl (by omega) (by omega) ?_; intro w1 hR hB1 hz1; obtain ⟨g, hg⟩ : ∃ g, g = w.heap.size := ⟨_, rfl⟩; rw [← hg] at hR ⊢; have HG := hid hg; have HZ1 := hid hz1; clear hg hz1)
 go_loopw [7, 8] (fun cv i wr => ∃ k zs r, k ≤ n ∧ i = .int .i64 ((k : Int) - 1) ∧ cv = .int .u64 ((r : Nat) : Int) ∧ r < m ∧ Row wr g zs ∧ Only w1 wr g ∧ wr.heap.size = w1.heap.size ∧ zs.length = n ∧ Dg b32 zs ∧ V b32 (xs.drop k) = m * V b32 (zs.drop k) + r) (fun _ i _ => (intOf i + 1).toNat)
 case atStart => exact ⟨n, _, 0, Nat.le_refl _, rfl, rfl, hm0, hR, Only.refl _ _, rfl, by simp, dg_zeros b32_pos _, by rw [List.drop_of_length_le (by rw [← hs.len]; exact Nat.le_refl _), List.drop_of_length_le (by simp)]; simp [V]⟩
 case round =>
  obtain ⟨k, zs, r, hk, rfl, rfl, hrm, hr, ho, hz, hzl, hdz, hv⟩ := hrel
  have HZ := hid hz
  have HZL := hid hzl
  have HV := hid hv
  clear hz hzl hv
  have hbel : Below w.heap.size w wr := hB1.trans (ho.below (by rw [HG.out]; exact Nat.le_refl _) (by rw [HZ1.out]; omega))
  by_cases h0 : k = 0
  ·subst h0
   have hsl := hr.sl (by rw [HZL.out]; omega)
   rw [HZL.out] at hsl
   have hv := HV.out
   rw [List.drop_zero, List.drop_zero] at hv
   have hR9 : R0 = r := by rw [← HR0.out, hv, Nat.mul_add_mod, Nat.mod_eq_of_lt hrm]
   have hQ9 : Q0 = V b32 zs := by rw [← HQ0.out, hv, Nat.mul_add_div hm0, Nat.div_eq_of_lt hrm, Nat.add_zero]
   clear HR0 HQ0
   have HQ9 := hid hQ9
   have HR9 := hid hR9
   clear hQ9 hR9
   go_wp2_with (go_at_call 60; refine (rtrim_sl _ _ _ _ _ zs hsl).mono ?_; rintro e w2 ⟨t, rfl, h1, h2, rfl⟩)
   go_ret2
   exact ⟨_, _, _, _, by rw [HR9.out]; rfl, HQ9.out ▸ trimmed_nm hdz, h1, hbel⟩
  ·obtain ⟨t, rfl⟩ : ∃ t, k = t + 1 := ⟨k - 1, by omega⟩
   have hsr := hs.below (hbel.mono hB)
   obtain ⟨b, off, x, rfl, hb, hx, hc⟩ := hsr.at_ (k := t) (by omega)
   have hxl := lt32.1 (hd.get hx)
   have hxi : (x : Int) < 4294967296 := by omega
   have hti : ((t + 1 : Nat) : Int) - 1 = (t : Int) := by omega
   have htn : (t : Int) < n := by omega
   have hbg : b ≠ g := by have := HG.out; omega
   have hbg' : g ≠ b := fun e => hbg e.symm
   obtain ⟨y, hy⟩ := get_lt (zs := zs) (k := t) (by rw [HZL.out]; omega)
   have hcy := hr.at_ hy
   have hf := hr.frozen
   have hst := small_step hx (zs := zs) (by rw [HZL.out]; omega) HV.out
   have hrb : r * 4294967296 + x < m * 4294967296 := by omega
   have hrb2 : (r : Int) * 4294967296 + x < 18446744073709551616 := by omega
   have hq : (r * 4294967296 + x) / m < 4294967296 := Nat.div_lt_of_lt_mul hrb
   have hr1 : (r * 4294967296 + x) % m < m := Nat.mod_lt _ hm0
   obtain ⟨cv, hcv⟩ : ∃ cv, r * 4294967296 + x = cv := ⟨_, rfl⟩
   have hcvi : (r : Int) * 4294967296 + x = (cv : Int) := by omega
   rw [hcv] at hq hr1 hst
   have hwq : IntKind.u64.wrap ((cv : Int) / m) = ((cv / m : Nat) : Int) := by rw [← Int.natCast_ediv, wrap_nat64 (by omega)]
   have HWQ := hid hwq
   have HST := hid hst
   have HQ := hid hq
   have HR1 := hid hr1
   have HCV := hid hcv
   have hcv64 : (cv : Int) < 18446744073709551616 := by omega
   clear hst hy hx hq hr1 hcv hrb2 hwq
   go_wp2
   go_roundw
   case rel =>
    exact ⟨t, zs.set t (cv / m), cv % m, by omega, rfl, rfl, HR1.out, hr.set_ HWQ.out, ho.set _ _, by simpa [World.setCell] using HZ.out, by simp [HZL.out], hdz.set _ (lt32.2 HQ.out), HST.out⟩
   case measure => simp [intOf]
theorem times_step {xs zs : List Nat} {s c x k : Nat} (hx : xs[k]? = some x) (hl : k < zs.length) (h : V b32 (zs.take k) + b32 ^ k * c = s * V b32 (xs.take k)) :
  V b32 ((zs.set k ((c + x * s) % 4294967296)).take (k + 1)) + b32 ^ (k + 1) * ((c + x * s) / 4294967296) = s * V b32 (xs.take (k + 1)) := by
 rw [V_set_take _ hl, V_take_succ hx, Nat.mul_add, ← h, Nat.pow_succ]
 have h1 := Nat.div_add_mod (c + x * s) 4294967296
 have h2 : b32 ^ k * ((c + x * s) % 4294967296) + b32 ^ k * b32 * ((c + x * s) / 4294967296) = b32 ^ k * (c + x * s) := by
  rw [Nat.mul_assoc, ← Nat.mul_add]
  congr 1
  rw [show b32 = 4294967296 from rfl]
  omega
 rw [Nat.mul_add] at h2
 have h3 : s * (b32 ^ k * x) = b32 ^ k * (x * s) := by rw [Nat.mul_left_comm, Nat.mul_comm s]
 omega
theorem times_any (w : World) (B : Nat) (hB : B ≤ w.heap.size) (A : Option Addr) (n c : Nat) (xs : List Nat) (hs : Sl w B A n c xs) (hd : Dg b32 xs) (hn : n ≤ 1000000000) (s : Nat) (hs1 : s < 4294967296) :
  Calls Tryz.prog 99 #[.slice A n c, .int .u64 (s : Int)] w fun e w' => ∃ g zs, e = .returned (.slice (some ⟨g, 0, none⟩) (n + 1) (n + 1)) ∧ w.heap.size ≤ g ∧ Row w' g zs ∧ zs.length = n + 1 ∧ Dg b32 zs ∧ V b32 zs = s * V b32 xs ∧ Below w.heap.size w w' := by
 have hlc := hs.cap
 have hmx := hs.max
 have HL := hid hs.len
 go_enter Tryz.func99, Tryz.ntmps99
 go_wp2_with (at_make; refine wl_make rfl _ _ Tryz.underlying28 rfl _ (n + 1) rfl (by omega) (by omega) ?_; intro w1 hR hB1 hz1; obtain ⟨g, hg⟩ : ∃ g, g = w.heap.size := ⟨_, rfl⟩; rw [← hg] at hR ⊢; have HG := hid hg; have HZ1 := hid hz1; clear hg hz1)
 go_loopw [6, 7] (fun cv i wr => ∃ k zs r, k ≤ n ∧ i = .int .i64 (k : Nat) ∧ cv = .int .u64 ((r : Nat) : Int) ∧ r < 4294967296 ∧ Row wr g zs ∧ Only w1 wr g ∧ wr.heap.size = w1.heap.size ∧ zs.length = n + 1 ∧ Dg b32 zs ∧ (∀ t, k ≤ t → t < n + 1 → zs[t]? = some 0) ∧ V b32 (zs.take k) + b32 ^ k * r = s * V b32 (xs.take k)) (fun _ i _ => n - (intOf i).toNat)
 case atStart => exact ⟨0, _, 0, Nat.zero_le _, rfl, rfl, by omega, hR, Only.refl _ _, rfl, by simp, dg_zeros b32_pos _, fun t _ ht => by simp [ht], by simp [V]⟩
 case round =>
  obtain ⟨k, zs, r, hk, rfl, rfl, hrl, hr, ho, hz, hzl, hdz, hzz, hv⟩ := hrel
  have HZ := hid hz
  have HZL := hid hzl
  have HV := hid hv
  have HZZ := hid hzz
  clear hz hzl hv hzz
  have hgw : w.heap.size ≤ g := by rw [HG.out]; exact Nat.le_refl _
  have hbel : Below w.heap.size w wr := hB1.trans (ho.below hgw (by rw [HZ1.out]; omega))
  have hcy := hr.at_ (HZZ.out k (Nat.le_refl _) (by omega))
  have hf := hr.frozen
  by_cases hlt : k < n
  ·have hsr := hs.below (hbel.mono hB)
   have hki : (k : Int) < n := by omega
   obtain ⟨b, off, x, rfl, hb, hx, hc⟩ := hsr.at_ hlt
   have hxl := lt32.1 (hd.get hx)
   have hbg : b ≠ g := by have := HG.out; omega
   have hbg' : g ≠ b := fun e => hbg e.symm
   have hst := times_step hx (zs := zs) (by rw [HZL.out]; omega) HV.out
   have hxs := mul_le32 (x := x) (y := s) (by omega) (by omega)
   obtain ⟨cv, hcv⟩ : ∃ cv, r + x * s = cv := ⟨_, rfl⟩
   have hcvi : (r : Int) + (x : Int) * s = (cv : Int) := by rw [← Int.natCast_mul]; omega
   have hcv64 : (cv : Int) < 18446744073709551616 := by omega
   have hxsi : (x : Int) * s < 18446744073709551616 := by rw [← Int.natCast_mul]; omega
   have hxs0 : (0 : Int) ≤ (x : Int) * s := Int.mul_nonneg (by omega) (by omega)
   have hc2 : cv / 4294967296 < 4294967296 := by omega
   rw [hcv] at hst
   have HST := hid hst
   clear hst hx hcv hxs
   go_wp2
   go_roundw
   case rel =>
    exact ⟨k + 1, zs.set k (cv % 4294967296), cv / 4294967296, by omega, by go_num, rfl, hc2, hr.set_ (by omega), ho.set _ _, by simpa [World.setCell] using HZ.out, by simp [HZL.out], hdz.set _ (Nat.mod_lt _ (by decide)), fun t h1 h2 => by rw [List.getElem?_set_ne (by omega)]; exact HZZ.out t (by omega) h2, HST.out⟩
   case measure => simp [intOf]; omega
  ·obtain rfl : k = n := by omega
   go_wp2
   go_ret
   refine ⟨g, zs.set k r, rfl, hgw, hr.set _ _, by simp [HZL.out], hdz.set _ (lt32.2 hrl), ?_, hbel.setCell (p := ⟨g, k, none⟩) hgw _⟩
   have h1 := V_set_take (B := b32) r (zs := zs) (k := k) (by rw [HZL.out]; omega)
   rw [List.take_of_length_le (by rw [List.length_set, HZL.out]; exact Nat.le_refl _)] at h1
   rw [h1, HV.out, List.take_of_length_le (by rw [← HL.out]; exact Nat.le_refl _)]
theorem Only.row {w w' : World} {g h : Nat} {zs : List Nat} (ho : Only w w' g) (hr : Row w h zs) (hne : h ≠ g) : Row w' h zs := (ho.block h hr.lt (fun e => by injection e with e; omega)).trans hr
theorem less_step {zs uw : List Nat} {i g c y x bo off wi bo' gv gv' : Nat} (hl : i < zs.length) (hx : uw[i]? = some x) (hoff : off = (c + y * g) % 4294967296 + bo) (hwi : off + wi = x + 4294967296 * bo') (hg : gv' = gv + b32 ^ i * (y * g))
  (h : V b32 (zs.take i) + gv = V b32 (uw.take i) + b32 ^ i * (bo + c)) :
  V b32 ((zs.set i wi).take (i + 1)) + gv' = V b32 (uw.take (i + 1)) + b32 ^ (i + 1) * (bo' + (c + y * g) / 4294967296) := by
 rw [V_set_take _ hl, V_take_succ hx, hg, Nat.pow_succ]
 have h1 := Nat.div_add_mod (c + y * g) 4294967296
 have e : bo + c + wi + y * g = x + 4294967296 * (bo' + (c + y * g) / 4294967296) := by omega
 have h2 : b32 ^ i * (bo + c) + b32 ^ i * wi + b32 ^ i * (y * g) = b32 ^ i * x + b32 ^ i * b32 * (bo' + (c + y * g) / 4294967296) := by
  rw [← Nat.mul_add, ← Nat.mul_add, Nat.mul_assoc, ← Nat.mul_add]
  exact congrArg _ e
 omega
theorem splice_V {us zs : List Nat} {k n1 gv : Nat} (hl : zs.length = n1) (hk : k + n1 ≤ us.length) (h : V b32 zs + gv = V b32 ((us.drop k).take n1)) : V b32 (splice us k zs) + b32 ^ k * gv = V b32 us := by
 have e1 : V b32 us = V b32 (us.take k) + b32 ^ k * (V b32 ((us.drop k).take n1) + b32 ^ n1 * V b32 ((us.drop k).drop n1)) := by
  have h1 := V_split (B := b32) us k
  rw [Nat.min_eq_left (by omega)] at h1
  have h2 := V_split (B := b32) (us.drop k) n1
  rw [Nat.min_eq_left (by rw [List.length_drop]; omega)] at h2
  rw [h1, ← h2]
 have e2 : V b32 (splice us k zs) = V b32 (us.take k) + b32 ^ k * (V b32 zs + b32 ^ n1 * V b32 ((us.drop k).drop n1)) := by
  unfold splice
  rw [V_append, V_append, List.length_take, Nat.min_eq_left (by omega), hl, List.drop_drop]
 rw [e1, e2, ← h, Nat.mul_add, Nat.mul_add, Nat.mul_add]
 omega
theorem less_any (w : World) (gu gv gw : Nat) (us vs ws : List Nat) (hu : Row w gu us) (hv : Row w gv vs) (hw : Row w gw ws) (hdu : Dg b32 us) (hdv : Dg b32 vs) (hdw : Dg b32 ws) (_huv : gu ≠ gv) (huw : gu ≠ gw) (hvw : gv ≠ gw)
  (nu n cv k g : Nat) (hnu : us.length = nu) (hnv : n ≤ vs.length) (hnw : ws.length = n + 1) (hk : k + n + 1 ≤ nu) (hmax : nu ≤ 1000000000) (_hcv : n ≤ cv) (hg : g < 4294967296) :
  Calls Tryz.prog 100 #[.slice (some ⟨gu, 0, none⟩) nu nu, .slice (some ⟨gv, 0, none⟩) n cv, .slice (some ⟨gw, 0, none⟩) ((n + 1 : Nat) : Nat) ((n + 1 : Nat) : Nat), .int .i64 (k : Int), .int .u64 (g : Int)] w fun e w' =>
   ∃ wm, Only w wm gw ∧ wm.heap.size = w.heap.size ∧ ∃ zs, Row wm gw zs ∧ zs.length = n + 1 ∧ Dg b32 zs ∧
    ((e = .returned (.bool false) ∧ V b32 ((us.drop k).take (n + 1)) < g * V b32 (vs.take n) ∧ wm = w') ∨
     (e = .returned (.bool true) ∧ V b32 zs + g * V b32 (vs.take n) = V b32 ((us.drop k).take (n + 1)) ∧ Only wm w' gu ∧ Row w' gu (splice us k zs) ∧ w'.heap.size = w.heap.size)) := by
 have HNU := hid hnu
 have HNV := hid hnv
 have HNW := hid hnw
 clear hnu hnv hnw
 go_enter Tryz.func100, Tryz.ntmps100
 go_wp2_with fail
 go_loopw [12, 13, 14] (fun cv bv iv wr => ∃ (i c bo : Nat) (zs : List Nat), i ≤ n + 1 ∧ iv = .int .i64 (i : Nat) ∧ cv = .int .u64 ((c : Nat) : Int) ∧ bv = .int .u64 ((bo : Nat) : Int) ∧ c < 4294967296 ∧ bo ≤ 1 ∧ (i = n + 1 → c = 0) ∧ Row wr gw zs ∧ Only w wr gw ∧ wr.heap.size = w.heap.size ∧ zs.length = n + 1 ∧ Dg b32 zs ∧
  V b32 (zs.take i) + g * V b32 ((vs.take n).take i) = V b32 ((us.drop k).take i) + b32 ^ i * (bo + c)) (fun _ _ iv _ => n + 1 - (intOf iv).toNat)
 case atStart => exact ⟨0, 0, 0, ws, by omega, rfl, rfl, rfl, by omega, by omega, fun h => absurd h (by omega), hw, Only.refl _ _, rfl, HNW.out, hdw, by simp [V]⟩
 case round =>
  obtain ⟨i, c, bo, zs, hi, rfl, rfl, rfl, hc1, hbo, hlast, hr, ho, hz, hzl, hdz, hvz⟩ := hrel
  have hru := ho.row hu huw
  have hrv := ho.row hv hvw
  have HZ := hid hz
  have HZL := hid hzl
  have HV := hid hvz
  have HLAST := hid hlast
  clear hz hzl hvz hlast
  by_cases hle : i ≤ n
  ·have hli : (i : Int) ≤ n := by omega
   obtain ⟨x, hx⟩ := get_lt (zs := us) (k := k + i) (by rw [HNU.out]; omega)
   have hxc := hru.at_ hx
   have hxl := lt32.1 (hdu.get hx)
   have hux : (us.drop k)[i]? = some x := by rw [List.getElem?_drop]; exact hx
   obtain ⟨z0, hz0⟩ := get_lt (zs := zs) (k := i) (by rw [HZL.out]; omega)
   have hzc := hr.at_ hz0
   have hf := hr.frozen
   have hki : (k : Int) + i < nu := by omega
   have hki0 : (0 : Int) ≤ (k : Int) + i := by omega
   have HUX := hid hux
   clear hx hz0 hux
   obtain ⟨y, hy9, hyl, hgv⟩ : ∃ y, ((i < n ∧ vs[i]? = some y) ∨ (i = n ∧ y = 0)) ∧ y < 4294967296 ∧ g * V b32 ((vs.take n).take (i + 1)) = g * V b32 ((vs.take n).take i) + b32 ^ i * (y * g) := by
    by_cases h : i < n
    ·obtain ⟨y, hy⟩ := get_lt (zs := vs) (k := i) (by have := HNV.out; omega)
     refine ⟨y, .inl ⟨h, hy⟩, lt32.1 (hdv.get hy), ?_⟩
     rw [V_take_succ (x := y) (by rw [List.getElem?_take, if_pos h]; exact hy), Nat.mul_add, Nat.mul_left_comm, Nat.mul_comm g y]
    ·have : i = n := by omega
     refine ⟨0, .inr ⟨this, rfl⟩, by omega, ?_⟩
     rw [List.take_of_length_le (l := vs.take n) (i := i + 1) (by rw [List.length_take]; omega), List.take_of_length_le (l := vs.take n) (i := i) (by rw [List.length_take]; omega)]
     simp
   have hyg := mul_le32 (x := y) (y := g) (by omega) (by omega)
   obtain ⟨cn, hcn⟩ : ∃ cn, c + y * g = cn := ⟨_, rfl⟩
   have hcni : (c : Int) + (y : Int) * g = (cn : Int) := by rw [← Int.natCast_mul]; omega
   have hcn64 : (cn : Int) < 18446744073709551616 := by omega
   have hygi : (y : Int) * g < 18446744073709551616 := by rw [← Int.natCast_mul]; omega
   have hyg0 : (0 : Int) ≤ (y : Int) * g := Int.mul_nonneg (by omega) (by omega)
   have hcd : cn / 4294967296 < 4294967296 := by omega
   obtain ⟨off, hoff⟩ : ∃ off, off = cn % 4294967296 + bo := ⟨_, rfl⟩
   have hoffi : (cn : Int) % 4294967296 + bo = (off : Int) := by omega
   have hoffl : off ≤ 4294967296 := by omega
   have hstep := fun (wi bo' : Nat) (h : off + wi = x + 4294967296 * bo') => less_step (zs := zs) (i := i) (g := g) (c := c) (y := y) (bo := bo) (bo' := bo') (by rw [HZL.out]; omega) HUX.out (by rw [hcn]; exact hoff) h hgv HV.out
   rw [hcn] at hstep
   have HST := hid hstep
   have hl0 : i + 1 = n + 1 → cn / 4294967296 = 0 := by
    intro h
    rcases hy9 with ⟨h1, _⟩ | ⟨h1, h2⟩
    ·omega
    ·subst h2; omega
   have HL0 := hid hl0
   have HY9 := hid hy9
   clear hstep hl0 hy9 hgv hyg hcn hoff
   have fin : ∀ (wi bo' : Nat) (W : World), off + wi = x + 4294967296 * bo' → bo' ≤ 1 → wi < 4294967296 → Row W gw (zs.set i wi) → Only w W gw → W.heap.size = w.heap.size →
     ∃ (i1 c1 bo1 : Nat) (zs1 : List Nat), i1 ≤ n + 1 ∧ Value.int IntKind.i64 (((i + 1 : Nat)) : Int) = .int .i64 (i1 : Nat) ∧ Value.int IntKind.u64 ((cn / 4294967296 : Nat) : Int) = .int .u64 ((c1 : Nat) : Int) ∧ Value.int IntKind.u64 ((bo' : Nat) : Int) = .int .u64 ((bo1 : Nat) : Int) ∧ c1 < 4294967296 ∧ bo1 ≤ 1 ∧ (i1 = n + 1 → c1 = 0) ∧ Row W gw zs1 ∧ Only w W gw ∧ W.heap.size = w.heap.size ∧ zs1.length = n + 1 ∧ Dg b32 zs1 ∧
      V b32 (zs1.take i1) + g * V b32 ((vs.take n).take i1) = V b32 ((us.drop k).take i1) + b32 ^ i1 * (bo1 + c1) := by
    intro wi bo' W h1 h2 h3 hW hO hS
    exact ⟨i + 1, cn / 4294967296, bo', _, by omega, rfl, rfl, rfl, hcd, h2, HL0.out, hW, hO, hS, by simp [HZL.out], hdz.set _ (lt32.2 h3), HST.out wi bo' h1⟩
   have FIN := hid fin
   clear fin
   by_cases hin : i < n
   ·have hini : (i : Int) < n := by omega
    have hy : vs[i]? = some y := (HY9.out.resolve_right (fun h => by have := h.1; omega)).2
    have hyc := hrv.at_ hy
    clear hy
    by_cases hxo : x < off
    ·have hxoi : (x : Int) < off := by omega
     go_wp2
     go_roundw
     case rel => exact FIN.out (x + 4294967296 - off) 1 _ (by omega) (by omega) (by omega) (hr.set_ (by omega)) (ho.set _ _) (by simpa [World.setCell] using HZ.out)
     case measure => simp [intOf]; omega
    ·have hxoi : ¬ (x : Int) < off := by omega
     go_wp2
     go_roundw
     case rel => exact FIN.out (x - off) 0 _ (by omega) (by omega) (by omega) (hr.set_ (by omega)) (ho.set _ _) (by simpa [World.setCell] using HZ.out)
     case measure => simp [intOf]; omega
   ·have hini : ¬ (i : Int) < n := by omega
    have hy0 : y = 0 := (HY9.out.resolve_left (fun h => by have := h.1; omega)).2
    subst hy0
    have hcc : c = cn := by omega
    subst hcc
    by_cases hxo : x < off
    ·have hxoi : (x : Int) < off := by omega
     go_wp2
     go_roundw
     case rel => exact FIN.out (x + 4294967296 - off) 1 _ (by omega) (by omega) (by omega) (hr.set_ (by omega)) (ho.set _ _) (by simpa [World.setCell] using HZ.out)
     case measure => simp [intOf]; omega
    ·have hxoi : ¬ (x : Int) < off := by omega
     go_wp2
     go_roundw
     case rel => exact FIN.out (x - off) 0 _ (by omega) (by omega) (by omega) (hr.set_ (by omega)) (ho.set _ _) (by simpa [World.setCell] using HZ.out)
     case measure => simp [intOf]; omega
  ·obtain rfl : i = n + 1 := by omega
   have hv := HV.out
   have hc0 := HLAST.out rfl
   rw [hc0, Nat.add_zero, List.take_of_length_le (by rw [HZL.out]; exact Nat.le_refl _), List.take_of_length_le (l := vs.take n) (by rw [List.length_take]; omega)] at hv
   have hzlt := V_lt zs hdz
   rw [HZL.out] at hzlt
   have HV2 := hid hv
   have HZLT := hid hzlt
   clear hv hzlt
   by_cases hb : bo = 0
   ·subst hb
    have hsw := hr.sl (by rw [HZL.out]; omega)
    rw [HZL.out] at hsw
    have hkn : (k : Int) ≤ nu := by omega
    obtain ⟨dn, hdn⟩ : ∃ dn, k + dn = nu := ⟨nu - k, by omega⟩
    have hdni : (nu : Int) - k = (dn : Int) := by omega
    go_wp2_with (with_reducible show wpList _ _ _ _ _ _; refine wl_copy (o := ⟨some 64, _, _, _, _, _⟩) rfl _ _ _ _ Tryz.underlying28 rfl gu k _ _ _ _ _ rfl rfl _ zs hru _ hsw (by rw [HNU.out]; omega) (by omega) ?_; intro w2 hR2 ho2 hs2' v2; have HS2 := hid hs2'; clear hs2')
    go_ret
    have h1 := HV2.out
    rw [Nat.mul_zero, Nat.add_zero] at h1
    exact ⟨wr, ho, HZ.out, zs, hr, HZL.out, hdz, .inr ⟨rfl, h1, ho2, hR2, HS2.out.trans HZ.out⟩⟩
   ·obtain rfl : bo = 1 := by omega
    go_wp2
    go_ret
    refine ⟨wr, ho, HZ.out, zs, hr, HZL.out, hdz, .inl ⟨rfl, ?_, rfl⟩⟩
    have h1 := HV2.out
    have h2 := HZLT.out
    rw [Nat.mul_one] at h1
    omega
end Go.Proofs.YtbejcollbkeedaaGreat
namespace Go.Proofs.YtbejcollbkeedaaGreat
theorem quo_win {B : Nat} {us : List Nat} {v k n1 : Nat} (hlen : k + n1 ≤ us.length) (h : V B us < v * B ^ (k + 1)) (hv : v * B ≤ B ^ n1) :
  V B us = V B (us.take k) + B ^ k * V B ((us.drop k).take n1) ∧ V B ((us.drop k).take n1) < v * B := by
 have h1 := V_split (B := B) us k
 rw [Nat.min_eq_left (by omega)] at h1
 have h2 := V_split (B := B) (us.drop k) n1
 rw [Nat.min_eq_left (by rw [List.length_drop]; omega)] at h2
 obtain ⟨W, hW⟩ : ∃ W, V B ((us.drop k).take n1) = W := ⟨_, rfl⟩
 obtain ⟨R, hR⟩ : ∃ R, V B ((us.drop k).drop n1) = R := ⟨_, rfl⟩
 obtain ⟨D, hD⟩ : ∃ D, V B (us.drop k) = D := ⟨_, rfl⟩
 rw [hD, hW, hR] at h2
 rw [hD] at h1
 rw [hW]
 have hD2 : D < v * B := by
  apply Classical.byContradiction
  intro hge
  have h3 := Nat.mul_le_mul_left (B ^ k) (Nat.le_of_not_lt hge)
  have e : B ^ k * (v * B) = v * B ^ (k + 1) := by rw [Nat.pow_succ, Nat.mul_left_comm]
  omega
 have hR0 : R = 0 := by
  apply Classical.byContradiction
  intro h0
  have h3 : B ^ n1 * 1 ≤ B ^ n1 * R := Nat.mul_le_mul_left _ (by omega)
  omega
 subst hR0
 rw [Nat.mul_zero, Nat.add_zero] at h2
 subst h2
 exact ⟨h1, hD2⟩
theorem quo_guess {B : Nat} {us vs : List Nat} {k p d1 d2 vt : Nat} (hd : Dg B us) (h1 : us[k + p]? = some d1) (h2 : us[k + p + 1]? = some d2) (hvt : vs[p]? = some vt) (hvt0 : 0 < vt) :
  V B ((us.drop k).take (p + 2)) / V B (vs.take (p + 1)) ≤ (d2 * B + d1) / vt := by
 have e1 : V B ((us.drop k).take (p + 2)) = V B ((us.drop k).take p) + B ^ p * (d2 * B + d1) := by
  rw [V_take_succ (x := d2) (by rw [List.getElem?_drop]; exact h2), V_take_succ (x := d1) (by rw [List.getElem?_drop]; exact h1), Nat.pow_succ, Nat.mul_add, Nat.mul_comm d2 B, Nat.mul_assoc]
  omega
 have hlo := V_lt ((us.drop k).take p) ((hd.drop k).take p)
 have hll : ((us.drop k).take p).length = p := by
  rw [List.length_take, List.length_drop]
  have := (List.getElem?_eq_some_iff.1 h1).1
  omega
 rw [hll] at hlo
 have hv : B ^ p * vt ≤ V B (vs.take (p + 1)) := by
  rw [V_take_succ hvt]; omega
 obtain ⟨T, hT⟩ : ∃ T, d2 * B + d1 = T := ⟨_, rfl⟩
 rw [hT] at e1 ⊢
 have hlt : V B ((us.drop k).take (p + 2)) < (T / vt + 1) * V B (vs.take (p + 1)) := by
  have h3 : T < (T / vt + 1) * vt := by
   have := Nat.div_add_mod T vt
   have := Nat.mod_lt T hvt0
   rw [Nat.add_mul, Nat.one_mul, Nat.mul_comm (T / vt)]
   omega
  have h4 := Nat.mul_le_mul_left (B ^ p) h3
  have h5 := Nat.mul_le_mul_left (T / vt + 1) hv
  have e2 : (T / vt + 1) * (B ^ p * vt) = B ^ p * ((T / vt + 1) * vt) := Nat.mul_left_comm _ _ _
  rw [Nat.mul_succ] at h4
  omega
 exact Nat.le_of_lt_succ (Nat.div_lt_of_lt_mul (by rw [Nat.mul_comm]; exact hlt))
theorem quo_step {B : Nat} {us zs qs us2 : List Nat} {U v k g n1 : Nat} (hlen : k + n1 ≤ us.length) (hk : k < qs.length) (hd : Dg B us)
  (hwin : V B us = V B (us.take k) + B ^ k * V B ((us.drop k).take n1)) (hz : V B zs + g * v = V B ((us.drop k).take n1)) (hzv : V B zs < v) (hsp : V B us2 + B ^ k * (g * v) = V B us)
  (hv : V B us + V B (qs.drop (k + 1)) * B ^ (k + 1) * v = U) :
  V B us2 + V B ((qs.set k g).drop k) * B ^ k * v = U ∧ V B us2 < v * B ^ k := by
 have e1 : (qs.set k g).drop k = g :: qs.drop (k + 1) := by
  rw [List.drop_eq_getElem_cons (l := qs.set k g) (i := k) (by rw [List.length_set]; exact hk), List.drop_set_of_lt (by omega), List.getElem_set_self]
 obtain ⟨Q, hQ⟩ : ∃ Q, V B (qs.drop (k + 1)) = Q := ⟨_, rfl⟩
 obtain ⟨P, hP⟩ : ∃ P, B ^ k = P := ⟨_, rfl⟩
 refine ⟨?_, ?_⟩
 ·rw [e1, V_cons, hQ, hP]
  rw [hQ, Nat.pow_succ, hP] at hv
  rw [hP] at hsp
  have e2 : (g + B * Q) * P * v = P * (g * v) + Q * (P * B) * v := by
   rw [Nat.add_mul, Nat.add_mul, Nat.mul_comm g P, Nat.mul_assoc P, Nat.mul_comm B Q, Nat.mul_assoc Q B P, Nat.mul_comm B P]
  omega
 ·have hlo := V_lt (us.take k) (hd.take k)
  rw [List.length_take, Nat.min_eq_left (by omega)] at hlo
  rw [← hz, Nat.mul_add] at hwin
  have h3 := Nat.mul_le_mul_left (B ^ k) (show V B zs + 1 ≤ v from hzv)
  rw [Nat.mul_add, Nat.mul_one, Nat.mul_comm (B ^ k) v] at h3
  omega
theorem quo_digit {W v g : Nat} {r : Nat} (h : r + g * v = W) (hle : W / v ≤ g) (hv : 0 < v) : r < v := by
 apply Classical.byContradiction
 intro hge
 have h1 : (g + 1) * v ≤ W := by rw [Nat.add_mul, Nat.one_mul]; omega
 have h2 := (Nat.le_div_iff_mul_le hv).2 h1
 omega
end Go.Proofs.YtbejcollbkeedaaGreat
namespace Go.Proofs.YtbejcollbkeedaaGreat
open Go.RowKit
theorem upper_zero {B k : Nat} {xs : List Nat} (hB : 0 < B) (h : V B xs < B ^ k) : ∀ t x, k ≤ t → xs[t]? = some x → x = 0 := by
 intro t x hkt hx
 have htl := (List.getElem?_eq_some_iff.1 hx).1
 have h1 := V_split (B := B) xs k
 rw [Nat.min_eq_left (by omega)] at h1
 have h2 : V B (xs.drop k) = 0 := by
  rcases Nat.eq_zero_or_pos (V B (xs.drop k)) with h0 | h0
  ·exact h0
  ·have := Nat.mul_le_mul_left (B ^ k) h0
   omega
 refine V_eq_zero hB h2 x ?_
 have h3 : (xs.drop k)[t - k]? = some x := by rw [List.getElem?_drop, show k + (t - k) = t by omega]; exact hx
 exact List.mem_of_getElem? h3
theorem lt_of_upper {B k : Nat} {xs : List Nat} (hB : 0 < B) (hd : Dg B xs) (h : ∀ t x, k ≤ t → xs[t]? = some x → x = 0) : V B xs < B ^ k := by
 have h1 := V_split (B := B) xs k
 have h2 : xs.drop k = List.replicate (xs.drop k).length 0 := by
  refine List.eq_replicate_of_mem fun x hx => ?_
  obtain ⟨i, hi, rfl⟩ := List.mem_iff_getElem.1 hx
  refine h (k + i) _ (by omega) ?_
  rw [← List.getElem?_drop, List.getElem?_eq_getElem hi]
 rw [h2, V_replicate, Nat.mul_zero, Nat.add_zero] at h1
 rw [h1]
 refine Nat.lt_of_lt_of_le (V_lt _ (hd.take k)) (Nat.pow_le_pow_right hB ?_)
 rw [List.length_take]; omega
theorem dig_right {B k n1 v W Q q us zs L : Nat} (hus : us = L + B ^ k * W) (hL : L < B ^ k) (hQ : W / v = Q) (hq1 : Q ≤ q) (h : zs + B ^ k * (v * q) = us + B ^ (k + n1) * 0) (hv : 0 < v) : q = Q := by
 refine Nat.le_antisymm ?_ hq1
 rw [← hQ]
 refine (Nat.le_div_iff_mul_le hv).2 ?_
 apply Classical.byContradiction
 intro hne
 have h1 := Nat.mul_le_mul_left (B ^ k) (show W + 1 ≤ v * q by rw [Nat.mul_comm v]; omega)
 rw [Nat.mul_add, Nat.mul_one] at h1
 omega
theorem dig_wrong {B k n1 v W Q q us zs L : Nat} (hus : us = L + B ^ k * W) (hQ : W / v = Q) (hq2 : q ≤ Q + 1) (h : zs + B ^ k * (v * q) = us + B ^ (k + n1) * 1) (hz : zs < B ^ (k + n1)) : q = Q + 1 := by
 refine Nat.le_antisymm hq2 ?_
 apply Classical.byContradiction
 intro hne
 have h1 : q ≤ W / v := by omega
 have h2 : v * q ≤ W := Nat.le_trans (Nat.mul_le_mul_left v h1) (Nat.mul_div_le _ _)
 have h3 := Nat.mul_le_mul_left (B ^ k) h2
 omega
theorem dig_back {B k n v W Q us zs z2 z3 L c c2 un s : Nat} (hus : us = L + B ^ k * W) (hQ : W / v = Q) (h : zs + B ^ k * (v * (Q + 1)) = us + B ^ (k + n + 1) * 1)
  (h2 : z2 + B ^ (k + n) * c = zs + B ^ k * v) (h3 : z3 + B ^ (k + n) * un = z2 + B ^ (k + n) * s) (h4 : s + B * c2 = un + c) (hc : c2 ≤ 1) (hz : z3 < B ^ (k + n + 1)) : z3 + B ^ k * (Q * v) = us := by
 have h5 : v * Q ≤ W := by rw [← hQ]; exact Nat.mul_div_le _ _
 have h6 := Nat.mul_le_mul_left (B ^ k) h5
 have h7 : B ^ (k + n) * s + B ^ (k + n + 1) * c2 = B ^ (k + n) * un + B ^ (k + n) * c := by
  rw [Nat.pow_succ, Nat.mul_assoc, ← Nat.mul_add, ← Nat.mul_add, h4]
 rw [Nat.mul_add v, Nat.mul_one, Nat.mul_add] at h
 rw [Nat.mul_comm Q]
 have h01 : c2 = 0 ∨ c2 = 1 := by omega
 rcases h01 with h8 | h8
 ·subst h8; omega
 ·subst h8; omega
theorem callAdd64_0 (x y : Nat) (w : World) :
  (callFunc 105 #[.int .u64 (x : Int), .int .u64 (y : Int), .int .u64 0]).run Tryz.prog w =
   .ok (.value (.tuple #[.int .u64 (((x + y) % 18446744073709551616 : Nat) : Int), .int .u64 (((x + y) / 18446744073709551616 : Nat) : Int)])) w := callAdd64 x y 0 (by decide) w
def RetDig (w : World) (g off : Nat) (us : List Nat) (Q v : Nat) (e : Ending) (w' : World) : Prop :=
 e = .returned (.int .u64 (Q : Int)) ∧ ∃ us2, Row w' g us2 ∧ Only w w' g ∧ w'.heap.size = w.heap.size ∧ us2.length = us.length ∧ Dg b64 us2 ∧ V b64 us2 + b64 ^ off * (Q * v) = V b64 us
theorem digit_any (w : World) (g off cz : Nat) (us : List Nat) (hr : Row w g us) (B : Nat) (A : Option Addr) (n nu m c : Nat) (vs : List Nat) (hs : Sl w B A n c vs) (hB : B ≤ g) (hn : n = m + 2) (hnu : nu = n + 1)
  (hfit : off + n + 1 ≤ us.length) (hmax : us.length ≤ 1000000000) (hd : Dg b64 us) (hd2 : Dg b64 vs) (htop : ∀ x, vs[m + 1]? = some x → 9223372036854775808 ≤ x) (hlt : V b64 us < V b64 vs * b64 ^ (off + 1)) :
  Calls Tryz.prog 114 #[.slice (some ⟨g, off, none⟩) nu cz, .slice A n c] w fun e w' => RetDig w g off us (V b64 ((us.drop off).take (n + 1)) / V b64 vs) (V b64 vs) e w' := by
 have hvl : vs.length = m + 2 := by rw [← hs.len, hn]
 have hvb : V b64 vs * b64 ≤ b64 ^ (n + 1) := by
  have h1 := V_lt vs hd2
  rw [← hs.len] at h1
  rw [Nat.pow_succ]
  exact Nat.mul_le_mul_right _ (Nat.le_of_lt h1)
 obtain ⟨hwin, hwl⟩ := quo_win (n1 := n + 1) (k := off) (by omega) hlt hvb
 have hup := upper_zero (k := off + n + 1) b64_pos (by
  refine Nat.lt_of_lt_of_le hlt ?_
  have h1 := V_lt vs hd2
  rw [← hs.len] at h1
  have h2 := Nat.mul_le_mul_right (b64 ^ (off + 1)) (Nat.le_of_lt h1)
  rw [← Nat.pow_add, show n + (off + 1) = off + n + 1 by omega] at h2
  exact h2)
 have hLo := V_lt (us.take off) (hd.take off)
 rw [List.length_take, Nat.min_eq_left (by omega)] at hLo
 obtain ⟨win, hwinL⟩ : ∃ win, (us.drop off).take (n + 1) = win := ⟨_, rfl⟩
 rw [hwinL] at hwin hwl ⊢
 have hwlen : win.length = m + 3 := by rw [← hwinL, List.length_take, List.length_drop]; omega
 have hwd : Dg b64 win := by rw [← hwinL]; exact (hd.drop _).take _
 have hu : ∀ (k x : Nat), win[k]? = some x → w.cell? ⟨g, off + k, none⟩ = some (.int .u64 (x : Int)) := by
  intro k x hx
  rw [← hwinL, List.getElem?_take] at hx
  split at hx
  ·rw [List.getElem?_drop] at hx; exact hr.at_ hx
  ·cases hx
 obtain ⟨gv, ov, x0, hA, hgv, hx0, hcx0⟩ := hs.at_ (k := 0) (by omega)
 subst hA
 have hv : ∀ (k x : Nat), vs[k]? = some x → w.cell? ⟨gv, ov + k, none⟩ = some (.int .u64 (x : Int)) := by
  intro k x hx
  obtain ⟨b', o', x', hA', _, hx', hc'⟩ := hs.at_ (k := k) (by rw [hs.len]; exact (List.getElem?_eq_some_iff.1 hx).1)
  injection hA' with hA'
  injection hA' with e1 e2
  subst e1 e2
  rw [hx] at hx'
  rw [Option.some.inj hx']
  exact hc'
 have hest := estimate_any w g off cz gv ov c nu n (m + 1) m win vs hu hv rfl hn hnu hwlen hvl (by omega) hwd hd2
 have HC := hid (show V b64 win < V b64 vs * b64 ∧ ∀ x, vs[m + 1]? = some x → 9223372036854775808 ≤ x from ⟨hwl, htop⟩)
 obtain ⟨C, hC⟩ : ∃ C, (V b64 win < V b64 vs * b64 ∧ ∀ x, vs[m + 1]? = some x → 9223372036854775808 ≤ x) = C := ⟨_, rfl⟩
 rw [hC] at hest HC
 clear hC
 obtain ⟨Q, hQ⟩ : ∃ Q, V b64 win / V b64 vs = Q := ⟨_, rfl⟩
 rw [hQ] at hest ⊢
 have hvpos : 0 < V b64 vs := by
  rcases Nat.eq_zero_or_pos (V b64 vs) with h | h
  ·rw [h] at hwl; omega
  ·exact h
 obtain ⟨un, hun⟩ := get_lt (zs := us) (k := off + n) (by omega)
 have hQ64 : Q < b64 := by rw [← hQ]; exact Nat.div_lt_of_lt_mul hwl
 have HEST := hid hest
 have HQ := hid hQ
 have HN := hid hn
 have HNU := hid hnu
 have HWIN := hid hwin
 have HUP := hid hup
 have HLO := hid hLo
 have HVP := hid hvpos
 have HQ64 := hid hQ64
 have hnn : (n : Int) < nu := by omega
 have hn9 : (n : Int) ≤ 1000000000 := by omega
 have HFIT := hid hfit
 clear hest hQ hn hnu hwin hup hLo hu hv hwinL hwlen hwd hwl hvb hvl hvpos hlt htop hun un hx0 hcx0 x0 hQ64
 go_enter Tryz.func114, Tryz.ntmps114
 go_wp2_with fail
 refine HEST.out.mono ?_
 rintro e w1 ⟨q, kd, rfl, hq3, hq12, rfl⟩
 obtain ⟨hq1, hq2⟩ := hq12 HC.out
 clear hq12
 have HQ1 := hid hq1
 have HQ2 := hid hq2
 clear hq1 hq2
 go_wp2_with fail
 have hnu := HNU.out
 clear HNU
 subst hnu
 refine (subMul_any _ g off cz us (hr.drewN kd) B _ n c vs (hs.drewN kd) hB HFIT.out hmax hd hd2 q hq3).mono ?_
 rintro e w2 ⟨bo, zs, hbo, hr2, ho2, hz2, hl2, hd3, hzz, hV⟩
 have HV := hid hV
 have HZZ := hid hzz
 have HL2 := hid hl2
 have HZ2 := hid hz2
 have hzup : V b64 zs < b64 ^ (off + n + 1) := lt_of_upper b64_pos hd3 fun t x ht hx => HUP.out t x ht (by rw [← hzz t (.inr ht)]; exact hx)
 have HZUP := hid hzup
 clear hV hzz hl2 hz2 hzup
 rcases hbo with ⟨rfl, rfl⟩ | ⟨rfl, rfl⟩
 ·obtain rfl : q = Q := dig_right (n1 := n + 1) HWIN.out HLO.out HQ.out HQ1.out HV.out HVP.out
  go_wp2
  go_ret
  refine ⟨rfl, zs, hr2, (Only.refl w g).drewN kd |>.trans ho2, HZ2.out, HL2.out, hd3, ?_⟩
  have := HV.out
  rw [Nat.mul_zero, Nat.add_zero, Nat.mul_comm (V b64 vs)] at this
  exact this
 ·have hqe := dig_wrong (n1 := n + 1) HWIN.out HQ.out HQ2.out HV.out HZUP.out
  have hqm : (q : Int) - 1 = (Q : Int) := by omega
  obtain ⟨un, hun⟩ := get_lt (zs := zs) (k := off + n) (by rw [HL2.out]; have := HFIT.out; omega)
  have hcu := hr2.at_ hun
  have hul := hd3.get hun
  have hfz := hr2.frozen
  have hs2 := (hs.drewN kd).below (ho2.below hB (Nat.le_of_lt (Nat.lt_of_le_of_lt hB hr.lt)))
  have hr2' : Row w2.drew g zs := hr2
  have hs2' : Sl w2.drew B (some ⟨gv, ov, none⟩) n c vs := hs2
  have hadd := addTo_any w2.drew g off (n + 1) cz zs hr2' B _ n c vs hs2' hB (by rw [HL2.out]; have := HFIT.out; omega) (by omega) hd3 hd2
  have hcall := fun (y : Nat) (W : World) => callAdd64_0 un y W
  have hQi : (Q : Int) ≤ 18446744073709551615 := by have := lt64.1 HQ64.out; omega
  have hnn : (n : Int) < ((n + 1 : Nat) : Int) := by omega
  have hnn2 : (n : Int) < (n : Int) + 1 := by omega
  have HADD := hid hadd
  have HUN := hid hun
  have HQE := hid hqe
  clear hadd hun hqe
  go_wp2
  go_region_with ((go_at_call 93; refine HADD.out.mono ?_; rintro e w3 ⟨c1, z2, rfl, hc1, hr3, ho3, hz3, hl3, hd4, hzz3, hv3⟩; have hcu3 := hr3.at_ ((hzz3 _ (.inr (Nat.le_refl _))).trans HUN.out); have hfz3 := hr3.frozen; have HZZ3 := hid hzz3; have HV3 := hid hv3; have HL3 := hid hl3; have HZ3 := hid hz3; clear hzz3 hv3 hl3 hz3))
  all_goals
   go_wp2
   go_ret
   have hsi : (((un : Int) + (c1 : Int)) % 18446744073709551616) = (((un + c1) % 18446744073709551616 : Nat) : Int) := by omega
   have hs64 : (un + c1) % 18446744073709551616 < b64 := Nat.mod_lt _ (by decide)
   have h4 := hr3.set_ (i := off + n) hsi
   have hun3 := (HZZ3.out _ (.inr (Nat.le_refl _))).trans HUN.out
   have hd5 := hd4.set (off + n) hs64
   have hvset := V_set (B := b64) ((un + c1) % 18446744073709551616) hun3
   have hzup : V b64 (z2.set (off + n) ((un + c1) % 18446744073709551616)) < b64 ^ (off + n + 1) := lt_of_upper b64_pos hd5 fun t x ht hx => by
    rw [List.getElem?_set_ne (by omega)] at hx
    exact HUP.out t x ht (by rw [← HZZ.out t (.inr ht), ← HZZ3.out t (.inr (by omega))]; exact hx)
   refine ⟨rfl, _, h4, ((Only.refl w g).drewN kd |>.trans ho2).trans ((show Only w2 w2.drew g from (Only.refl w2 g).drewN 1).trans (ho3.set (off + n) _)), ?_, ?_, hd5, ?_⟩
   ·have h1 := HZ3.out
    have h2 := HZ2.out
    simp [World.setCell] at *
    omega
   ·rw [List.length_set, HL3.out, HL2.out]
   ·have hq1 := HV.out
    rw [HQE.out] at hq1
    exact dig_back (B := b64) (n := n) (c := c1) (c2 := (un + c1) / 18446744073709551616) (un := un) (s := (un + c1) % 18446744073709551616) HWIN.out HQ.out hq1 HV3.out hvset (by have := Nat.div_add_mod (un + c1) 18446744073709551616; unfold b64; omega) (by have := lt64.1 hul; omega) hzup
def RetDigC (w : World) (g off : Nat) (us : List Nat) (C : Prop) (Q v : Nat) (e : Ending) (w' : World) : Prop :=
 ∃ q us2, e = .returned (.int .u64 ((q : Nat) : Int)) ∧ q < b64 ∧ Row w' g us2 ∧ Only w w' g ∧ w'.heap.size = w.heap.size ∧ us2.length = us.length ∧ Dg b64 us2 ∧ (C → q = Q ∧ V b64 us2 + b64 ^ off * (Q * v) = V b64 us)
theorem wrap_pred (q : Nat) : ∃ q' : Nat, IntKind.u64.wrap ((q : Int) - 1) = (q' : Int) ∧ q' < b64 :=
 ⟨(q + 18446744073709551615) % 18446744073709551616, by rw [wrap_emod]; omega, Nat.mod_lt _ (by decide)⟩
theorem digit_weak (w : World) (g off cz : Nat) (us : List Nat) (hr : Row w g us) (B : Nat) (A : Option Addr) (n nu m c : Nat) (vs : List Nat) (hs : Sl w B A n c vs) (hB : B ≤ g) (hn : n = m + 2) (hnu : nu = n + 1)
  (hfit : off + n + 1 ≤ us.length) (hmax : us.length ≤ 1000000000) (hd : Dg b64 us) (hd2 : Dg b64 vs) (Q : Nat) :
  Calls Tryz.prog 114 #[.slice (some ⟨g, off, none⟩) nu cz, .slice A n c] w fun e w' => RetDigC w g off us False Q (V b64 vs) e w' := by
 have hvl : vs.length = m + 2 := by rw [← hs.len, hn]
 obtain ⟨win, hwinL⟩ : ∃ win, (us.drop off).take (n + 1) = win := ⟨_, rfl⟩
 have hwlen : win.length = m + 3 := by rw [← hwinL, List.length_take, List.length_drop]; omega
 have hwd : Dg b64 win := by rw [← hwinL]; exact (hd.drop _).take _
 have hu : ∀ (k x : Nat), win[k]? = some x → w.cell? ⟨g, off + k, none⟩ = some (.int .u64 (x : Int)) := by
  intro k x hx
  rw [← hwinL, List.getElem?_take] at hx
  split at hx
  ·rw [List.getElem?_drop] at hx; exact hr.at_ hx
  ·cases hx
 obtain ⟨gv, ov, x0, hA, hgv, hx0, hcx0⟩ := hs.at_ (k := 0) (by omega)
 subst hA
 have hv : ∀ (k x : Nat), vs[k]? = some x → w.cell? ⟨gv, ov + k, none⟩ = some (.int .u64 (x : Int)) := by
  intro k x hx
  obtain ⟨b', o', x', hA', _, hx', hc'⟩ := hs.at_ (k := k) (by rw [hs.len]; exact (List.getElem?_eq_some_iff.1 hx).1)
  injection hA' with hA'
  injection hA' with e1 e2
  subst e1 e2
  rw [hx] at hx'
  rw [Option.some.inj hx']
  exact hc'
 have hest := estimate_any w g off cz gv ov c nu n (m + 1) m win vs hu hv rfl hn hnu hwlen hvl (by omega) hwd hd2
 obtain ⟨C, hC⟩ : ∃ C, (V b64 win < V b64 vs * b64 ∧ ∀ x, vs[m + 1]? = some x → 9223372036854775808 ≤ x) = C := ⟨_, rfl⟩
 obtain ⟨Q0, hQ0⟩ : ∃ Q, V b64 win / V b64 vs = Q := ⟨_, rfl⟩
 rw [hC, hQ0] at hest
 have HEST := hid hest
 have HNU := hid hnu
 have hnn : (n : Int) < nu := by omega
 have hn9 : (n : Int) ≤ 1000000000 := by omega
 have HFIT := hid hfit
 clear hest hn hnu hu hv hwinL hwlen hwd hvl hx0 hcx0 x0 hC hQ0
 go_enter Tryz.func114, Tryz.ntmps114
 go_wp2_with fail
 refine HEST.out.mono ?_
 rintro e w1 ⟨q, kd, rfl, hq3, hq12, rfl⟩
 clear hq12
 go_wp2_with fail
 have hnu := HNU.out
 clear HNU
 subst hnu
 refine (subMul_any _ g off cz us (hr.drewN kd) B _ n c vs (hs.drewN kd) hB HFIT.out hmax hd hd2 q hq3).mono ?_
 rintro e w2 ⟨bo, zs, hbo, hr2, ho2, hz2, hl2, hd3, hzz, hV⟩
 have HL2 := hid hl2
 have HZ2 := hid hz2
 clear hV hzz hl2 hz2
 rcases hbo with ⟨rfl, rfl⟩ | ⟨rfl, rfl⟩
 ·go_wp2
  go_ret
  exact ⟨q, zs, rfl, hq3, hr2, (Only.refl w g).drewN kd |>.trans ho2, HZ2.out, HL2.out, hd3, fun h => h.elim⟩
 ·obtain ⟨q', hq', hq4⟩ := wrap_pred q
  obtain ⟨un, hun⟩ := get_lt (zs := zs) (k := off + n) (by rw [HL2.out]; have := HFIT.out; omega)
  have hcu := hr2.at_ hun
  have hul := hd3.get hun
  have hfz := hr2.frozen
  have hs2 := (hs.drewN kd).below (ho2.below hB (Nat.le_of_lt (Nat.lt_of_le_of_lt hB hr.lt)))
  have hr2' : Row w2.drew g zs := hr2
  have hs2' : Sl w2.drew B (some ⟨gv, ov, none⟩) n c vs := hs2
  have hadd := addTo_any w2.drew g off (n + 1) cz zs hr2' B _ n c vs hs2' hB (by rw [HL2.out]; have := HFIT.out; omega) (by omega) hd3 hd2
  have hcall := fun (y : Nat) (W : World) => callAdd64_0 un y W
  have hnn : (n : Int) < ((n + 1 : Nat) : Int) := by omega
  have hnn2 : (n : Int) < (n : Int) + 1 := by omega
  have HADD := hid hadd
  have HUN := hid hun
  have HQ4 := hid hq4
  clear hadd hun hq4
  go_wp2
  go_region_with ((go_at_call 93; refine HADD.out.mono ?_; rintro e w3 ⟨c1, z2, rfl, hc1, hr3, ho3, hz3, hl3, hd4, hzz3, hv3⟩; have hcu3 := hr3.at_ ((hzz3 _ (.inr (Nat.le_refl _))).trans HUN.out); have hfz3 := hr3.frozen; have HL3 := hid hl3; have HZ3 := hid hz3; clear hzz3 hv3 hl3 hz3))
  all_goals
   go_wp2
   go_ret
   have hsi : (((un : Int) + (c1 : Int)) % 18446744073709551616) = (((un + c1) % 18446744073709551616 : Nat) : Int) := by omega
   have hs64 : (un + c1) % 18446744073709551616 < b64 := Nat.mod_lt _ (by decide)
   have h4 := hr3.set_ (i := off + n) hsi
   refine ⟨q', _, rfl, HQ4.out, h4, ((Only.refl w g).drewN kd |>.trans ho2).trans ((show Only w2 w2.drew g from (Only.refl w2 g).drewN 1).trans (ho3.set (off + n) _)), ?_, ?_, hd4.set (off + n) hs64, fun h => h.elim⟩
   ·have h1 := HZ3.out
    have h2 := HZ2.out
    simp [World.setCell] at *
    omega
   ·rw [List.length_set, HL3.out, HL2.out]
theorem digit_all (w : World) (g off cz : Nat) (us : List Nat) (hr : Row w g us) (B : Nat) (A : Option Addr) (n nu m c : Nat) (vs : List Nat) (hs : Sl w B A n c vs) (hB : B ≤ g) (hn : n = m + 2) (hnu : nu = n + 1)
  (hfit : off + n + 1 ≤ us.length) (hmax : us.length ≤ 1000000000) (hd : Dg b64 us) (hd2 : Dg b64 vs) (htop : ∀ x, vs[m + 1]? = some x → 9223372036854775808 ≤ x) :
  Calls Tryz.prog 114 #[.slice (some ⟨g, off, none⟩) nu cz, .slice A n c] w fun e w' => RetDigC w g off us (V b64 us < V b64 vs * b64 ^ (off + 1)) (V b64 ((us.drop off).take (n + 1)) / V b64 vs) (V b64 vs) e w' := by
 by_cases hlt : V b64 us < V b64 vs * b64 ^ (off + 1)
 ·refine (digit_any w g off cz us hr B A n nu m c vs hs hB hn hnu hfit hmax hd hd2 htop hlt).mono ?_
  rintro e w' ⟨he, us2, h1, h2, h3, h4, h5, h6⟩
  refine ⟨_, us2, he, ?_, h1, h2, h3, h4, h5, fun _ => ⟨rfl, h6⟩⟩
  have hvb : V b64 vs * b64 ≤ b64 ^ (n + 1) := by
   have h1 := V_lt vs hd2
   rw [← hs.len] at h1
   rw [Nat.pow_succ]
   exact Nat.mul_le_mul_right _ (Nat.le_of_lt h1)
  exact Nat.div_lt_of_lt_mul (quo_win (n1 := n + 1) (k := off) (by omega) hlt hvb).2
 ·refine (digit_weak w g off cz us hr B A n nu m c vs hs hB hn hnu hfit hmax hd hd2 0).mono ?_
  rintro e w' ⟨q, us2, h1, h2, h3, h4, h5, h6, h7, _⟩
  exact ⟨q, us2, h1, h2, h3, h4, h5, h6, h7, fun h => absurd h hlt⟩
end Go.Proofs.YtbejcollbkeedaaGreat
namespace Go.Proofs.YtbejcollbkeedaaGreat
open Go.RowKit Go.Shelf
attribute [local go_sem] Oper.semAt_some
def KpR (n₀ Bs gq n : Nat) (W W' : World) : Prop := Below n₀ W W' ∧ W'.heap[Bs]? = W.heap[Bs]? ∧ (∀ zs, Row W gq zs → zs.length = n → ∃ zs', Row W' gq zs' ∧ zs'.length = n)
theorem KpR.refl (n₀ Bs gq n : Nat) (W : World) : KpR n₀ Bs gq n W W := ⟨Below.refl _ _, rfl, fun zs h hl => ⟨zs, h, hl⟩⟩
theorem KpR.trans {n₀ Bs gq n : Nat} {A B C : World} (h : KpR n₀ Bs gq n A B) (k : KpR n₀ Bs gq n B C) : KpR n₀ Bs gq n A C :=
 ⟨h.1.trans k.1, k.2.1.trans h.2.1, fun zs hr hl => by
  obtain ⟨z1, h1, h2⟩ := h.2.2 zs hr hl
  exact k.2.2 z1 h1 h2⟩
theorem KpR.put {n₀ Bs gq n : Nat} {w : World} (hn : n₀ ≤ w.heap.size) (hb : Bs < w.heap.size) (hq : gq < w.heap.size) (W : World) (l : Nat) (o o' : Obj) (hl : w.heap.size ≤ l) (h : W.heap[l]? = some o) (hc : o.isCells = false) (hw : o.isWalk = false) : KpR n₀ Bs gq n W (W.putObj l o') := by
 have k := KpB.put hn hb W l o o' hl h hc hw
 have k2 := KpB.put hn hq W l o o' hl h hc hw
 exact ⟨k.1, k.2, fun zs hr hz => ⟨zs, k2.2.trans hr, hz⟩⟩
abbrev encR (n : Nat) : Ix n × Nat → Array Value := fun i => #[.int .i64 (i.1.1 : Int), .int .u64 (i.2 : Int)]
def firsts {n : Nat} (l : List (Ix n × Nat)) : List Nat := l.map (·.1.1)
theorem firsts_snoc {n : Nat} (l : List (Ix n × Nat)) (x : Ix n × Nat) : firsts (l ++ [x]) = firsts l ++ [x.1.1] := by simp [firsts]
theorem firsts_length {n : Nat} (l : List (Ix n × Nat)) : (firsts l).length = l.length := by simp [firsts]
theorem back1R_in (F : Fence) (nn : Nat) (h7 : F.fn 109) (hro : F.round = none) (hn : 1 ≤ nn) (l Bs n₀ n gq : Nat) (hm9 : n ≤ 9223372036854775807) (J Jx : List (Ix n × Nat) → World → Prop)
  (hY : ∀ pre x W, J pre W → pre.length < n → YieldAt F (nn - 1) Tryz.prog l (encR n x) W fun e W' =>
   (e = .returned (.bool true) ∧ J (pre ++ [x]) W' ∧ KpR n₀ Bs gq n W W') ∨ (e = .returned (.bool false) ∧ Jx (pre ++ [x]) W'))
  (W : World) (hBs : W.cell? ⟨Bs, 0, none⟩ = some (.slice (some ⟨gq, 0, none⟩) n n)) (zs0 : List Nat) (hr0 : Row W gq zs0) (hl0 : zs0.length = n) (h0 : J [] W) :
  CallsIn F nn Tryz.prog 109 #[.func (.yield l) #[] #[], .pointer (some ⟨Bs, 0, none⟩)] W fun e W' => (∃ v, e = .returned v) ∧
   ((∃ ys : List (Ix n × Nat), firsts ys = downL n n ∧ J ys W') ∨ (∃ pre : List (Ix n × Nat), (∃ k, k ≤ n ∧ firsts pre = downL n k) ∧ Jx pre W')) := by
 have HR0 := hid (show ∃ zs, Row W gq zs ∧ zs.length = n from ⟨zs0, hr0, hl0⟩)
 clear hr0 hl0 zs0
 refine callsIn_of_wp Tryz.func109 rfl h7 ?_ hro
 simp only [Tryz.ntmps109, List.size_toArray, List.length_cons, List.length_nil, Nat.reduceAdd, Nat.reduceSub, Array.replicate_succ, Array.replicate_zero, List.push_toArray, List.append_toArray, List.nil_append, List.cons_append]
 gi_wp2
 gi_loopw [3] (fun i wr => ∃ (m : Nat) (pre : List (Ix n × Nat)), m ≤ n ∧ i = .int .i64 ((m : Int) - 1) ∧ firsts pre = downL n (n - m) ∧ J pre wr ∧ KpR n₀ Bs gq n W wr)
  (fun i _ => (intOf i + 1).toNat)
 case atStart => exact ⟨n, [], Nat.le_refl _, rfl, by simp [firsts, downL], h0, KpR.refl _ _ _ _ _⟩
 case round =>
  obtain ⟨m, pre, hm, rfl, hpre, hJs, hnx⟩ := hrel
  have HP := hid hpre
  clear hpre
  by_cases hm0 : m = 0
  ·subst hm0
   gi_wp2
   go_end0
   exact ⟨⟨_, rfl⟩, .inl ⟨pre, HP.out, hJs⟩⟩
  ·obtain ⟨t, rfl⟩ : ∃ t, m = t + 1 := ⟨m - 1, by omega⟩
   have htn : t < n := by omega
   have hBc : wr.cell? ⟨Bs, 0, none⟩ = some (.slice (some ⟨gq, 0, none⟩) n n) := (World.cell?_of_block (a := ⟨Bs, 0, none⟩) hnx.2.1).trans hBs
   obtain ⟨zs0, hr0, hl0⟩ := HR0.out
   obtain ⟨zs, hr, hzl⟩ := hnx.2.2 zs0 hr0 hl0
   obtain ⟨x, hx⟩ := get_lt (zs := zs) (k := t) (by omega)
   have hc := hr.at_ hx
   have hpl : pre.length < n := by
    have := congrArg List.length HP.out
    rw [firsts_length, downL_length] at this
    omega
   obtain ⟨fn, tmps, assign, body, hy, hR⟩ := hY pre (⟨t, htn⟩, x) wr hJs hpl
   dsimp only [encR] at hy
   clear hx hzl hl0 hr0 zs0
   have hti : (t : Int) < n := by omega
   have ht0 : (0 : Int) ≤ ((t + 1 : Nat) : Int) - 1 := by omega
   have hc' : wr.cell? ⟨gq, 0 + t, none⟩ = some (.int .u64 (x : Int)) := by rw [Nat.zero_add]; exact hc
   gi_wp2
   refine hR.mono ?_
   rintro e W3 (⟨rfl, hJ3, hk3⟩ | ⟨rfl, hJx3⟩)
   ·gi_wp2
    go_roundw
    case rel => exact ⟨t, pre ++ [(⟨t, htn⟩, x)], by omega, by go_num, by rw [firsts_snoc, HP.out, show n - t = (n - (t + 1)) + 1 by omega, downL_succ]; simp; omega, hJ3, hnx.trans hk3⟩
    case measure => simp [intOf]
   ·gi_wp2
    refine bodyPost_ret (results_none rfl _ _ _) rfl ?_
    exact ⟨⟨_, rfl⟩, .inr ⟨_, ⟨n - t, by omega, by rw [firsts_snoc, HP.out, show n - t = (n - (t + 1)) + 1 by omega, downL_succ]; simp; omega⟩, hJx3⟩⟩
theorem backR_stops (F : Fence) (nn : Nat) (h7 : F.fn 109) (hro : F.round = none) (hn : 1 ≤ nn) (Bs n₀ n gq : Nat) (zs : List Nat) (w : World) (hBs : Bs < w.heap.size) (hm : n ≤ 9223372036854775807)
  (hc : w.cell? ⟨Bs, 0, none⟩ = some (.slice (some ⟨gq, 0, none⟩) n n)) (hr : Row w gq zs) (hl : zs.length = n) :
  SeqStopsK F nn Tryz.prog 109 #[.pointer (some ⟨Bs, 0, none⟩)] (encR n) (KpR n₀ Bs gq n) (fun ys => firsts ys = downL n n) (fun pre => ∃ k, k ≤ n ∧ firsts pre = downL n k) n w := fun l J Jx W hW _ _ hY h0 => by
 have hc' := (hW.cell (p := ⟨Bs, 0, none⟩) hBs).trans hc
 exact back1R_in F nn h7 hro hn l Bs n₀ n gq hm J Jx hY W hc' zs (hr.below hW hr.lt) hl h0
theorem wrote_congr (ops : Array Oper) (v1 v2 : Nat → Value) (L : Array Bool) (t0 : Array Value) (h : ∀ j, L.getD j false = true → v1 j = v2 j) : ∀ k, wrote ops v1 L t0 k = wrote ops v2 L t0 k := by
 intro k
 induction k with
 | zero => rfl
 | succ k ih =>
  simp only [wrote]
  split
  ·next hk => rw [ih, h k hk]
  ·exact ih
theorem wpIn_region_rel {β : Type} {F : Fence} {n : Nat} {P : Program} {id : Nat} {ops : Array Oper} {Q : Exit → Act → World → Prop} {a : Act} {w : World} (hm : P.follows .mixedOrders = true) (hd : Distinct ops)
  (vals : β → Nat → Value) (Wo : β → Array Bool → World → Prop) (b0 : β) (hw0 : Wo b0 (Array.replicate ops.size false) w.drew)
  (hstep : ∀ (b : β) (L : Array Bool) (a' : Act) (w' : World), Wo b L w' → L.size = ops.size → a'.defers = a.defers → (∀ (j : Nat) (oj : Oper), ops[j]? = some oj → L.getD j false = true → ∀ e ∈ oj.after, Region.binds .any e = true → L.getD e.on false = true) →
   (∀ t, (∀ (i : Nat) (oi : Oper), ops[i]? = some oi → oi.dst ≠ some t) → a'.tmps.getD t undef = a.tmps.getD t undef) →
   (∀ (j : Nat) (oj : Oper) t, ops[j]? = some oj → oj.dst = some t → L.getD j false = true → t < a.tmps.size → a'.tmps.getD t undef = vals b j) →
   ∀ i ∈ Region.ready .any ops L, ∀ oi, ops[i]? = some oi → ∀ (K : Act → World → Prop), (∀ b' w'', (∀ j, L.getD j false = true → vals b' j = vals b j) → Wo b' (L.setIfInBounds i true) w'' → K (a'.put oi.dst (vals b' i)) w'') → wpOpIn F n P ops Q i K a' w')
  (hend : ∀ (b : β) (L : Array Bool) (w' : World), Wo b L w' → (∀ i, i < ops.size → L.getD i false = true) → Q .normal { tmps := wrote ops (vals b) (Array.replicate ops.size true) a.tmps ops.size, defers := a.defers } w')
  (hacyc : ∀ L : Array Bool, L.size = ops.size → Region.ready .any ops L = [] → ∀ i, i < ops.size → L.getD i false = true) : (Code.region id ops true).wpIn F n P Q a w := by
 refine wpIn_region_any hm ?_
 refine wpAnyIn_inv (fun L a' w' => (L.size = ops.size ∧ ∀ (j : Nat) (oj : Oper), ops[j]? = some oj → L.getD j false = true → ∀ e ∈ oj.after, Region.binds .any e = true → L.getD e.on false = true) ∧ ∃ b, a' = { tmps := wrote ops (vals b) L a.tmps ops.size, defers := a.defers } ∧ Wo b L w') ?_ ?_ (fun L a w h => h.1.1) _ _ _ _ ⟨⟨by simp, ?_⟩, b0, ?_, hw0⟩ ?_
 ·rintro L a' w' ⟨⟨hs, hcl⟩, b, rfl, hW⟩ i hi
  obtain ⟨h1, o, ho, hdep⟩ := mem_ready.1 hi
  have hi' : i < L.size := by rw [hs]; exact (Array.getElem?_eq_some_iff.1 ho).1
  have hf : L.getD i false = false := by
   rw [Array.getD_eq_getD_getElem?, Array.getElem?_eq_getElem hi'] at h1 ⊢
   simpa using h1
  refine hstep b L { tmps := wrote ops (vals b) L a.tmps ops.size, defers := a.defers } _ hW hs rfl hcl (fun t ht => wrote_old ops (vals b) L a.tmps t ht _) (fun j oj t hj hjt hL ht => wrote_new ops (vals b) L a.tmps hd hj hjt hL ht _ (Array.getElem?_eq_some_iff.1 hj).1) i hi o ho _ fun b' w'' hv hw'' => ⟨⟨by simp [hs], ?_⟩, b', ?_, hw''⟩
  ·have hmono : ∀ t, L.getD t false = true → (L.setIfInBounds i true).getD t false = true := by
    intro t ht
    by_cases e : t = i
    ·subst e; simp [Array.getD_eq_getD_getElem?, hi']
    ·simp only [Array.getD_eq_getD_getElem?] at ht ⊢
     rw [Array.getElem?_setIfInBounds_ne (fun h => e h.symm)]; exact ht
   intro j oj hj hLj e he hb
   by_cases hji : j = i
   ·subst hji
    obtain rfl : o = oj := Option.some.inj (ho.symm.trans hj)
    exact hmono _ (hdep e he hb)
   ·refine hmono _ (hcl j oj hj ?_ e he hb)
    simp only [Array.getD_eq_getD_getElem?] at hLj ⊢
    rw [Array.getElem?_setIfInBounds_ne (fun h => hji h.symm)] at hLj
    exact hLj
  rw [wrote_set ops (vals b') L a.tmps hd ho hi' hf, if_pos (by rw [← hs]; exact hi'), wrote_congr ops (vals b') (vals b) L a.tmps hv]
  unfold Act.put
  cases o.dst <;> rfl
 ·rintro L a' w' ⟨⟨hs, _⟩, b, rfl, hW⟩ hr
  have hall := hacyc L hs hr
  have e : L = Array.replicate ops.size true := by
   apply Array.ext
   ·simp [hs]
   ·intro i h1 h2
    have := hall i (by omega)
    rw [Array.getD_eq_getD_getElem?, Array.getElem?_eq_getElem h1] at this
    simpa using this
  have h := hend b L w' hW hall
  rw [e]
  exact h
 ·intro j oj _ hLj
  exfalso
  rw [Array.getD_eq_getD_getElem?, Array.getElem?_replicate] at hLj
  split at hLj <;> simp at hLj
 ·have : ∀ k, wrote ops (vals b0) (Array.replicate ops.size false) a.tmps k = a.tmps := by
   intro k
   induction k with
   | zero => rfl
   | succ k ih =>
    simp only [wrote]
    rw [if_neg (by rw [Array.getD_eq_getD_getElem?, Array.getElem?_replicate]; split <;> simp)]
    exact ih
  rw [this]
 ·simp
theorem step_copyU {w : World} {ops : Array Oper} {o : Oper} {a : Act} {K : Act → World → Prop} {Q : Exit → Act → World → Prop} {E : Prop} (hgd : o.guard = none) (d s : Operand) (dT sT : TypeId) (hu : Tryz.prog.underlying dT = some (.slice 63))
  (ho : o.op = .call { callee := .builtin .copy, args := #[d, s], argTypes := #[dT, sT] })
  (g off dLen dCap : Nat) (sp : Option Addr) (sLen sCap : Nat) (hd : a.eval d = .slice (some ⟨g, off, none⟩) dLen dCap) (hs : a.eval s = .slice sp sLen sCap)
  (zs ys : List Nat) (hg : Row w g zs) (B : Nat) (hsl : Sl w B sp sLen sCap ys) (hfit : off + dLen ≤ zs.length) (hle : sLen ≤ dLen)
  (h : ∀ w' v, Row w' g (splice zs off ys) → Only w w' g → w'.heap.size = w.heap.size → K (a.put o.dst v) w') :
  if Region.wanted o (yielded ops a.tmps) = true then Oper.wp Tryz.prog o a w K Q else E := by
 have hw : Region.wanted o (yielded ops a.tmps) = true := by simp [Region.wanted, hgd]
 rw [if_pos hw]
 have hsz : (Tryz.prog.info? 63).map (·.size) = some 1 := by
  obtain ⟨i0, hi, hz0, hz1, hz2⟩ := info_parts Tryz.infoU
  rw [hi]; simp [hz1]
 have hr := hsl.rd
 have hl := hsl.len
 subst hl
 have hmin : Nat.min ys.length dLen = ys.length := Nat.min_eq_left hle
 by_cases hn : ys = []
 ·subst hn
  have hrun := run_copy_none (P := Tryz.prog) w dT sT o.type 63 (some ⟨g, off, none⟩) sp dLen dCap ([] : List Nat).length sCap hu hsz (by simp)
  unfold Oper.wp
  simp only [List.length_nil] at hrun hs
  simp [execOp, ho, resolve, invoke, builtin, hd, hs, hrun, Result.andThen]
  exact h w _ (by simpa [splice] using hg) (Only.refl _ _) rfl
 ·obtain ⟨b, o', rfl, _, hc⟩ := hr hn
  have hrun := run_copy_row (P := Tryz.prog) w dT sT o.type 63 g off dLen dCap ⟨b, o', none⟩ ys.length sCap _ _ (ys.map U) hu hsz hg (by simp [hmin]) (fun j u hu => by
   rw [Addr.add_lit]
   simp only [List.getElem?_map, Option.map_eq_some_iff] at hu
   obtain ⟨y, hy, rfl⟩ := hu
   exact hc j y hy) (by simp; omega) (oneCellU ys)
  unfold Oper.wp
  simp [execOp, ho, resolve, invoke, builtin, hd, hs, hrun, Result.andThen]
  refine h _ _ ?_ ⟨rfl, rfl, rfl, by simp [World.setRow], fun k _ hk => setRow_other w g k _ (fun e => hk (by rw [e]))⟩ (by simp [World.setRow])
  have := setRow_heap w g _ (((zs.map U).toArray).toList.take off ++ (ys.map U ++ ((zs.map U).toArray).toList.drop (off + (ys.map U).length))).toArray _ _ hg
  unfold Row
  simp only [List.length_map] at this
  simpa [← splice_map, splice] using this
theorem step_call2 {P : Program} {ops : Array Oper} {o : Oper} {a : Act} {w : World} {K : Act → World → Prop} {Q : Exit → Act → World → Prop} {E : Prop} (hg : o.guard = none) (g : FuncId) (p q : Operand) (ts : Array TypeId)
  (ho : o.op = .call { callee := .value (.func g), args := #[p, q], argTypes := ts }) (x y : Value) (hp : a.eval p = x) (hq : a.eval q = y) (hnf : (callFunc g #[x, y]).run P w = .ok (.enter g #[x, y]) w)
  (hc : Calls P g #[x, y] w fun e w' => ∃ v, e = .returned v ∧ K (a.put o.dst v) w') : if Region.wanted o (yielded ops a.tmps) = true then Oper.wp P o a w K Q else E := by
 have hw : Region.wanted o (yielded ops a.tmps) = true := by simp [Region.wanted, hg]
 rw [if_pos hw]
 have hev : a.eval (.func g) = .func (.func g) #[] #[] := rfl
 unfold Oper.wp
 simp [execOp, ho, resolve, invoke, hev, hp, hq, hnf, Deferred.ofValue, Oper.upon]
 refine hc.mono ?_
 rintro e w' ⟨v, rfl, h⟩
 exact h
end Go.Proofs.YtbejcollbkeedaaGreat
namespace Go.Proofs.YtbejcollbkeedaaGreat
open Go.RowKit
theorem wl_quo {w : World} {ops : Array Oper} {rest : List Oper} {o : Oper} {a : Act} {Q : Exit → Act → World → Prop} (hgd : o.guard = none) (l r : Operand)
  (hop : o.op = Op.binOp BinOp.quo 63 l r 63) (N D : Nat) (hl : a.eval l = .int .u64 (N : Int)) (hr : a.eval r = .int .u64 (D : Int)) (hN : N < 18446744073709551616) (hD : 0 < D)
  (h : wpList Tryz.prog ops Q rest (a.put o.dst (.int .u64 ((N / D : Nat) : Int))) w) :
  wpList Tryz.prog ops Q (o :: rest) a w := by
 refine wpList_plain hgd fun K hK => ?_
 have h2 : IntKind.u64.wrap ((N : Int) / D) = ((N / D : Nat) : Int) := by rw [← Int.natCast_ediv, wrap_nat64 (Nat.lt_of_le_of_lt (Nat.div_le_self _ _) hN)]
 unfold Oper.wp
 simp only [execOp, hop]
 rw [hl, hr]
 have hb : (binOp BinOp.quo 63 (.int .u64 (N : Int)) (.int .u64 (D : Int))).run Tryz.prog w = .ok (.int .u64 ((N / D : Nat) : Int)) w := by
  simp [h2, go_sem]
  omega
 simp [eqGuard, hb, Result.andThen]
 exact hK _ _ h
theorem cut_any (w : World) (B : Nat) (A : Option Addr) (n c : Nat) (xs : List Nat) (hs : Sl w B A n c xs) (k : Nat) (hk : k ≤ 1000000) :
  Calls Tryz.prog 19 #[.slice A n c, .int .i64 k] w fun e w' => RetS w (xs.take k) e w' := by
 have hlc := hs.cap
 have hm := hs.max
 by_cases h : n < k
 ·have e : xs.take k = xs.take n := by rw [List.take_of_length_le (by rw [← hs.len]; omega), List.take_of_length_le (by rw [← hs.len]; omega)]
  rw [e]
  have HS := hs.take (Nat.le_refl n)
  go_enter Tryz.func19, Tryz.ntmps19
  go_wp2_with (at_builtin; refine wl_append_nil rfl _ _ Tryz.underlying23 rfl A n c (xs.take n) rfl B HS (by omega) ?_; intro A' c' w1 h1 h2)
  go_ret
  exact ⟨A', n, c', rfl, h1, h2⟩
 ·have HS := hs.take (k := k) (by omega)
  go_enter Tryz.func19, Tryz.ntmps19
  go_wp2_with (at_builtin; refine wl_append_nil rfl _ _ Tryz.underlying23 rfl A k c (xs.take k) rfl B HS (by omega) ?_; intro A' c' w1 h1 h2)
  go_ret
  exact ⟨A', k, c', rfl, h1, h2⟩
theorem rcmp_ret (w : World) (B : Nat) (A1 : Option Addr) (n1 c1 : Nat) (xs : List Nat) (hs1 : Sl w B A1 n1 c1 xs) (B2 : Nat) (A2 : Option Addr) (n2 c2 : Nat) (ys : List Nat) (hs2 : Sl w B2 A2 n2 c2 ys) (N M : Nat) (hN : Nm b32 xs N) (hM : Nm b32 ys M) :
  Calls Tryz.prog 47 #[.slice A1 n1 c1, .slice A2 n2 c2] w fun e w' => RetV w (.int .i64 (ncmp N M)) e w' :=
 (rcmp_any w B A1 n1 c1 xs hs1 B2 A2 n2 c2 ys hs2 N M hN hM).mono fun _ _ ⟨he, q, hq⟩ => ⟨he, by rw [hq]; exact below_drewN (Below.refl _ _) q⟩
theorem quo_end {N M s Q r : Nat} (hs : 0 < s) (hM : 0 < M) (h : r + Q * (s * M) = s * N) (hr : r < s * M) : Q = N / M ∧ r = s * (N % M) := by
 have hv : 0 < s * M := Nat.mul_pos hs hM
 have h1 : s * N / (s * M) = Q := by rw [← h, Nat.add_mul_div_right _ _ hv, Nat.div_eq_of_lt hr, Nat.zero_add]
 have h2 : s * N % (s * M) = r := by rw [← h, Nat.add_mul_mod_self_right, Nat.mod_eq_of_lt hr]
 rw [Nat.mul_div_mul_left _ _ hs] at h1
 rw [Nat.mul_mod_mul_left] at h2
 exact ⟨h1.symm, h2.symm⟩
theorem scale_len {ys : List Nat} {M p top s : Nat} (hM : Nm b32 ys M) (hl : ys.length = p + 1) (ht : ys[p]? = some top) (hs : s = 4294967296 / (top + 1)) :
  0 < s ∧ s < 4294967296 ∧ b32 ^ p ≤ M ∧ ∀ vt, Nm b32 vt (s * M) → vt.length = p + 1 := by
 have htl := lt32.1 (hM.1.get ht)
 have ht0 : top ≠ 0 := by
  refine hM.2.1 top ?_
  rw [List.getLast?_eq_getElem?, hl]
  simpa using ht
 have hs0 : 0 < s := by rw [hs]; exact Nat.div_pos (by omega) (by omega)
 have hs1 : s * (top + 1) ≤ 4294967296 := by rw [hs]; exact Nat.div_mul_le_self _ _
 have hs2 : s < 4294967296 := by
  have : s * 2 ≤ s * (top + 1) := Nat.mul_le_mul_left _ (by omega)
  omega
 have e : M = V b32 (ys.take p) + b32 ^ p * top := by
  rw [← hM.2.2, ← V_take_succ ht, List.take_of_length_le (by omega)]
 have hlo := V_lt (ys.take p) (hM.1.take p)
 rw [List.length_take, Nat.min_eq_left (by omega)] at hlo
 have hge : b32 ^ p ≤ M := by
  have := Nat.mul_le_mul_left (b32 ^ p) (show 1 ≤ top by omega)
  omega
 have hlt : M < b32 ^ p * (top + 1) := by rw [Nat.mul_succ]; omega
 refine ⟨hs0, hs2, hge, fun vt hv => ?_⟩
 have h1 : s * M < b32 ^ (p + 1) := by
  have h2 := Nat.mul_lt_mul_of_pos_left hlt hs0
  have h3 : s * (b32 ^ p * (top + 1)) = b32 ^ p * (s * (top + 1)) := Nat.mul_left_comm _ _ _
  have h4 := Nat.mul_le_mul_left (b32 ^ p) hs1
  rw [Nat.pow_succ, show b32 = 4294967296 from rfl] at *
  omega
 have h5 := hv.length_le (by decide) h1
 have h6 : ¬ vt.length ≤ p := by
  intro h
  have h7 := V_lt vt hv.1
  rw [hv.2.2] at h7
  have h8 : b32 ^ vt.length ≤ b32 ^ p := Nat.pow_le_pow_right b32_pos h
  have h9 : M ≤ s * M := Nat.le_mul_of_pos_left _ hs0
  omega
 omega
theorem rquo_long (w : World) (A1 : Option Addr) (n c1 : Nat) (xs : List Nat) (hs1 : Sl w w.heap.size A1 n c1 xs) (A2 : Option Addr) (m c2 : Nat) (ys : List Nat) (hs2 : Sl w w.heap.size A2 m c2 ys) (N M : Nat) (hN : Nm b32 xs N) (hM : Nm b32 ys M)
  (hn : n ≤ 100000000) (hm : m ≤ 100000000) (hNM : M ≤ N) (p : Nat) (hmp : m = p + 1) (hp : 1 ≤ p) :
  Calls Tryz.prog 81 #[.slice A1 n c1, .slice A2 m c2] w fun e w' => ∃ A3 n3 c3 q A4 n4 c4 r, e = .returned (.tuple #[.slice A3 n3 c3, .slice A4 n4 c4]) ∧ Sl w' w'.heap.size A3 n3 c3 q ∧ Nm b32 q (N / M) ∧ Sl w' w'.heap.size A4 n4 c4 r ∧ Nm b32 r (N % M) ∧ Below w.heap.size w w' := by
 have hlc1 := hs1.cap
 have hmx1 := hs1.max
 have hlc2 := hs2.cap
 have hmx2 := hs2.max
 have hB : Below w.heap.size w w := Below.refl _ _
 obtain ⟨top, htop⟩ : ∃ top, ys[p]? = some top := get_lt (by rw [← hs2.len]; omega)
 have htl := lt32.1 (hM.1.get htop)
 obtain ⟨s, hs⟩ : ∃ s, s = 4294967296 / (top + 1) := ⟨_, rfl⟩
 obtain ⟨hs0, hs32, hpM, hscale⟩ := scale_len hM (by rw [← hs2.len]; exact hmp) htop hs
 have HSC := hid hscale
 have HPM := hid hpM
 have HMP := hid hmp
 obtain ⟨cv, hcv⟩ : ∃ cv, ncmp N M = cv := ⟨_, rfl⟩
 have hcv0 : ¬ cv < 0 := by
  rcases Nat.lt_or_ge M N with h | h
  ·rw [ncmp_gt h] at hcv; omega
  ·rw [Nat.le_antisymm h hNM, ncmp_eq] at hcv; omega
 have hcmp := rcmp_ret w _ _ _ _ _ hs1 _ _ _ _ _ hs2 _ _ hN hM
 rw [hcv] at hcmp
 have HCMP := hid hcmp
 have hm1 : ((m : Int) == 1) = false := by simp; omega
 have hmi : (m : Int) - 1 = (p : Int) := by omega
 have hpm : (p : Int) < m := by omega
 obtain ⟨b2, o2, t2, rfl, hb2, ht2, hc2⟩ := hs2.at_ (k := p) (by omega)
 obtain rfl : t2 = top := by rw [htop] at ht2; exact (Option.some.inj ht2).symm
 obtain ⟨t1, ht1⟩ : ∃ t1, t2 + 1 = t1 := ⟨_, rfl⟩
 have hti1 : (t2 : Int) + 1 = (t1 : Int) := by omega
 have hti2 : (t1 : Int) ≤ 4294967296 := by omega
 have hti3 : (0 : Int) < t1 := by omega
 have hs9 : 4294967296 / t1 = s := by rw [hs, ← ht1]
 have HS9 := hid hs9
 have ht0 : 0 < t1 := by omega
 have hvt0 : t2 ≠ 0 := by
  refine hM.2.1 t2 ?_
  rw [List.getLast?_eq_getElem?, ← hs2.len, hmp]
  simpa using htop
 have HT2 := hid ht1
 have HTL := hid htl
 clear hcmp hcv hs htop ht2 hscale hpM hmp ht1 htl hs9
 go_enter Tryz.func81, Tryz.ntmps81
 go_wp2_with fail
 refine HCMP.out.mono ?_
 rintro e w1 ⟨rfl, hc⟩
 replace hs1 := hs1.later hc (Nat.le_refl _)
 replace hs2 := hs2.later hc (Nat.le_refl _)
 replace hc2 := (hc.cell (p := ⟨b2, o2 + p, none⟩) hb2).trans hc2
 replace hB := hB.trans (hc.mono hB.size)
 clear hc
 go_wp2_with (with_reducible show wpList _ _ _ _ _ _; refine wl_quo (o := ⟨some 45, _, _, _, _, _⟩) rfl _ _ rfl 4294967296 t1 rfl rfl (by decide) ht0 ?_; rw [HS9.out])
 refine (times_any w1 _ (Nat.le_refl _) _ _ _ _ hs1 hN.1 (by omega) s hs32).mono ?_
 rintro e w2 ⟨gu, us, rfl, hgu, hru, hul, hdu, hvu, hc⟩
 have hw1 := hB.size
 replace hs2 := hs2.later hc (Nat.le_refl _)
 replace hB := hB.trans (hc.mono hB.size)
 have hw0 : w.heap.size ≤ gu := Nat.le_trans hw1 hgu
 clear hw1
 clear hc
 go_wp2_with fail
 refine (times_any w2 _ (Nat.le_refl _) _ _ _ _ hs2 hM.1 (by omega) s hs32).mono ?_
 rintro e w3 ⟨gv, vs, rfl, hgv, hrv, hvl, hdv, hvv, hc⟩
 have hgu2 := hru.lt
 replace hru := hru.below hc hgu2
 replace hB := hB.trans (hc.mono hB.size)
 have huv : gu < gv := by omega
 clear hc hgu2
 have hslv := hrv.sl (by rw [hvl]; omega)
 rw [hvl] at hslv
 go_wp2_with fail
 refine (rtrim_sl _ _ _ _ _ vs hslv).mono ?_
 rintro e w9 ⟨mm, rfl, hst, hmm, rfl⟩
 have hnmv := trimmed_nm hdv
 rw [hvv, hM.2.2] at hnmv
 have hmm2 : mm = m := by rw [hst.len, HSC.out _ hnmv, HMP.out]
 subst hmm2
 have hvtake : V b32 (vs.take mm) = s * M := by
  have e : vs.take mm = trimmed vs := by
   have h1 := hst.len
   rw [trimmed_length] at h1
   rw [h1]; rfl
  rw [e]; exact hnmv.2.2
 have hvu2 : V b32 us = s * N := by rw [hvu, hN.2.2]
 have hnm : mm ≤ n + 1 := by
  apply Classical.byContradiction
  intro h
  have h1 := V_lt xs hN.1
  rw [hN.2.2, ← hs1.len] at h1
  have h2 : b32 ^ n ≤ b32 ^ p := Nat.pow_le_pow_right b32_pos (by omega)
  have := HPM.out
  omega
 obtain ⟨nq, hnq⟩ : ∃ nq, n + 1 = mm + nq := ⟨n + 1 - mm, by omega⟩
 have hU : s * N < s * M * b32 ^ nq := by
  have h1 := V_lt xs hN.1
  rw [hN.2.2, ← hs1.len] at h1
  have h2 : n = p + nq := by have := HMP.out; omega
  have h3 := Nat.mul_le_mul_right (b32 ^ nq) HPM.out
  rw [← Nat.pow_add, ← h2] at h3
  rw [Nat.mul_assoc]
  exact Nat.mul_lt_mul_of_pos_left (Nat.lt_of_lt_of_le h1 h3) hs0
 have hnqi : ((n + 1 : Nat) : Int) - mm = (nq : Int) := by omega
 have hnqi2 : (n : Int) + 1 - mm = (nq : Int) := by omega
 have HVT := hid hvtake
 have HVU := hid hvu2
 have HU := hid hU
 have HNQ := hid hnq
 have HUL := hid hul
 have HVL := hid hvl
 have HNMV := hid hnmv
 clear hvtake hvu2 hU hnq hul hvl hnmv hvu hvv hst hslv
 go_wp2_with (first | (at_make; refine wl_make rfl _ _ Tryz.underlying28 rfl _ nq rfl (by omega) (by omega) ?_; intro w4 hRq hB4 hz4; obtain ⟨gq, hgq⟩ : ∃ gq, gq = w3.heap.size := ⟨_, rfl⟩; rw [← hgq] at hRq ⊢; have HGQ := hid hgq; have HZ4 := hid hz4; clear hgq hz4) | (at_make; refine wl_make rfl _ _ Tryz.underlying28 rfl _ (mm + 1) rfl (by omega) (by omega) ?_; intro w5 hRw hB5 hz5; obtain ⟨gw, hgw⟩ : ∃ gw, gw = w4.heap.size := ⟨_, rfl⟩; rw [← hgw] at hRw ⊢; have HGW := hid hgw; have HZ5 := hid hz5; clear hgw hz5))
 have hgq := HGQ.out
 have hgw := HGW.out
 have hz4 := HZ4.out
 have hz5 := HZ5.out
 have hgv3 := hrv.lt
 have hgq4 := hRq.lt
 have hgw5 := hRw.lt
 replace hru := (hru.below hB4 (by omega)).below hB5 (by omega)
 replace hrv := (hrv.below hB4 (by omega)).below hB5 (by omega)
 replace hRq := hRq.below hB5 (by omega)
 have hwq : w.heap.size ≤ gq := by omega
 have hB9 : Below w.heap.size w w5 := hB.trans ((hB4.mono (by omega)).trans (hB5.mono (by omega)))
 have hvq : gv < gq := by omega
 have hqw : gq < gw := by omega
 have hww : w.heap.size ≤ gw := by omega
 clear hgq hgw hgv3 hgq4 hgw5 hB4 hB5 hz4 hz5 hB hgu hgv
 have hMpos : 0 < M := Nat.lt_of_lt_of_le (Nat.pow_pos b32_pos) HPM.out
 have hvpos : 0 < s * M := Nat.mul_pos hs0 hMpos
 have HVP := hid hvpos
 have HMP0 := hid hMpos
 clear hvpos hMpos
 obtain ⟨vt, hvt⟩ : ∃ vt, vs[p]? = some vt := get_lt (by rw [HVL.out]; omega)
 have hvt1 : 0 < vt := by
  have hnm9 := HNMV.out
  have h1 : (trimmed vs)[p]? = some vt := by
   have h3 := HSC.out _ hnm9
   obtain ⟨z, hz⟩ := get_lt (zs := trimmed vs) (k := p) (by omega)
   have := trimmed_get hz
   rw [hvt] at this
   rw [hz, ← Option.some.inj this]
  have h2 := hnm9.2.1 vt (by rw [List.getLast?_eq_getElem?, HSC.out _ hnm9]; simpa using h1)
  omega
 have hvtl := lt32.1 (hdv.get hvt)
 have HVTT := hid hvt
 clear hvt
 have hnui : ((n + 1 : Nat) : Int) = (n : Int) + 1 := by omega
 go_loopw [14] (fun kv wr => ∃ (t : Nat) (ux qs ws : List Nat), t ≤ nq ∧ kv = .int .i64 ((t : Int) - 1) ∧ Row wr gu ux ∧ Row wr gv vs ∧ Row wr gq qs ∧ Row wr gw ws ∧ ux.length = n + 1 ∧ qs.length = nq ∧ ws.length = mm + 1 ∧ Dg b32 ux ∧ Dg b32 qs ∧ Dg b32 ws ∧ Below w.heap.size w wr ∧
  V b32 ux + V b32 (qs.drop t) * b32 ^ t * (s * M) = s * N ∧ V b32 ux < s * M * b32 ^ t) (fun kv _ => (intOf kv + 1).toNat)
 case atStart => exact ⟨nq, us, _, _, Nat.le_refl _, rfl, hru, hrv, hRq, hRw, HUL.out, by simp, by simp, hdu, dg_zeros b32_pos _, dg_zeros b32_pos _, hB9, by rw [List.drop_of_length_le (by simp), HVU.out]; simp [V], by rw [HVU.out]; exact HU.out⟩
 case round =>
  obtain ⟨t, ux, qs, ws, ht, rfl, hru, hrv, hrq, hrw, hul, hql, hwl, hdu, hdq, hdw, hbel, hv1, hv2⟩ := hrel
  have HUL' := hid hul
  have HQL := hid hql
  have HWL := hid hwl
  have HV1 := hid hv1
  have HV2 := hid hv2
  clear hul hql hwl hv1 hv2
  by_cases h0 : t = 0
  ·subst h0
   have hv1 := HV1.out
   have hv2 := HV2.out
   rw [List.drop_zero, Nat.pow_zero, Nat.mul_one] at hv1
   rw [Nat.pow_zero, Nat.mul_one] at hv2
   obtain ⟨e1, e2⟩ := quo_end hs0 HMP0.out hv1 hv2
   have hslu := hru.sl (by rw [HUL'.out]; omega)
   rw [HUL'.out] at hslu
   have hnt := trimmed_nm hdu
   rw [e2] at hnt
   have hslq := hrq.sl (by rw [HQL.out]; omega)
   rw [HQL.out] at hslq
   have hnt2 := trimmed_nm hdq
   rw [e1] at hnt2
   have HNT := hid hnt
   have HNT2 := hid hnt2
   have hdiv : s * (N % M) / s = N % M := Nat.mul_div_cancel_left _ hs0
   have HDIV := hid hdiv
   clear hv1 hv2 e1 e2 hnt hnt2 hdiv HV1 HV2
   go_wp2_with fail
   refine (rtrim_sl _ _ _ _ _ ux hslu).mono ?_
   rintro e w9 ⟨m1, rfl, hst, hm1, rfl⟩
   go_wp2_with fail
   refine (small_any _ _ (Nat.le_refl _) _ _ _ _ hst HNT.out.1 (by omega) s hs0 hs32).mono ?_
   rintro e w9 ⟨A4, n4, c4, q4, rfl, hq4, hsl4, hc⟩
   rw [HNT.out.2.2, HDIV.out] at hq4
   have hslq2 := hslq.later hc (Nat.le_refl _)
   have hB' := hbel.trans (hc.mono hbel.size)
   clear hslq hc
   go_wp2_with fail
   refine (rtrim_sl _ _ _ _ _ qs hslq2).mono ?_
   rintro e w10 ⟨m5, rfl, hst5, hm5, rfl⟩
   go_wp2_with fail
   go_ret2
   exact ⟨_, _, _, _, _, _, _, _, rfl, hst5, HNT2.out, hsl4, hq4, hB'⟩
  ·obtain ⟨k, rfl⟩ : ∃ k, t = k + 1 := ⟨t - 1, by omega⟩
   have hp1 := HMP.out
   have hnq := HNQ.out
   have hul := HUL'.out
   have hkm : k + mm + 1 ≤ n + 1 := by omega
   obtain ⟨d2, hd2⟩ := get_lt (zs := ux) (k := k + mm) (by omega)
   obtain ⟨d1, hd1⟩ := get_lt (zs := ux) (k := k + p) (by omega)
   have hc2 := hru.at_ hd2
   have hc1 := hru.at_ hd1
   have hcv := hrv.at_ HVTT.out
   have hd2l := lt32.1 (hdu.get hd2)
   have hd1l := lt32.1 (hdu.get hd1)
   have hvle : s * M * b32 ≤ b32 ^ (mm + 1) := by
    have h1 := V_lt _ HNMV.out.1
    rw [HNMV.out.2.2, HSC.out _ HNMV.out, ← HMP.out] at h1
    rw [Nat.pow_succ]
    exact Nat.mul_le_mul_right _ (Nat.le_of_lt h1)
   have hwin := quo_win (n1 := mm + 1) (by omega) HV2.out hvle
   have hguess := quo_guess (k := k) (p := p) hdu hd1 (by rw [Nat.add_assoc, ← hp1]; exact hd2) HVTT.out hvt1
   rw [show p + 2 = mm + 1 by omega, ← hp1, HVT.out] at hguess
   obtain ⟨W, hW⟩ : ∃ W, V b32 ((ux.drop k).take (mm + 1)) = W := ⟨_, rfl⟩
   rw [hW] at hwin hguess
   have hqd : W / (s * M) < 4294967296 := Nat.div_lt_of_lt_mul hwin.2
   obtain ⟨T, hT⟩ : ∃ T, d2 * 4294967296 + d1 = T := ⟨_, rfl⟩
   have hTi : (d2 : Int) * 4294967296 + d1 = (T : Int) := by omega
   have hT64 : (T : Int) ≤ 18446744073709551615 := by omega
   rw [show d2 * b32 + d1 = T from hT] at hguess
   obtain ⟨g0, hg0⟩ : ∃ g0, T / vt = g0 := ⟨_, rfl⟩
   have hg0i2 : (T : Int) / vt = (g0 : Int) := by rw [← Int.natCast_ediv, hg0]
   have hg0b : (g0 : Int) ≤ 18446744073709551615 := by have := Nat.div_le_self T vt; omega
   rw [hg0] at hguess
   have hvti : (0 : Int) < vt := by omega
   have hki : ((k + 1 : Nat) : Int) - 1 = (k : Int) := by omega
   have hkmi : (k : Int) + mm < n + 1 := by omega
   have hkpi : (k : Int) + mm - 1 = ((k + p : Nat) : Int) := by omega
   have hkp2 : (k : Int) + p < n + 1 := by omega
   obtain ⟨g1, hg1, hg1l, hg1q⟩ : ∃ g1, ((4294967296 ≤ g0 ∧ g1 = 4294967295) ∨ (g0 < 4294967296 ∧ g1 = g0)) ∧ g1 < 4294967296 ∧ W / (s * M) ≤ g1 := by
    by_cases h : 4294967296 ≤ g0
    ·exact ⟨4294967295, .inl ⟨h, rfl⟩, by omega, by omega⟩
    ·exact ⟨g0, .inr ⟨by omega, rfl⟩, by omega, hguess⟩
   have HW := hid hW
   have HWIN := hid hwin
   have HG1 := hid hg1
   have HG1Q := hid hg1q
   have hd2i : (d2 : Int) ≤ 4294967295 := by omega
   have hd1i : (d1 : Int) ≤ 4294967295 := by omega
   have hg1i : (g1 : Int) ≤ 4294967295 := by omega
   have HVTL := hid hvtl
   have HG1L := hid hg1l
   have HS32 := hid hs32
   clear hW hwin hg1 hg1q hguess hqd hg0 hT hd1 hd2 hvle hp1 hnq hul hd2l hd1l hvtl hg1l hs32
   go_wp2
   go_quiet (fail)
   have hsplit : (4294967296 ≤ (g0 : Int) ∧ g1 = 4294967295) ∨ (¬ 4294967296 ≤ (g0 : Int) ∧ g0 = g1) := by
    rcases HG1.out with ⟨h1, h2⟩ | ⟨h1, h2⟩
    ·exact .inl ⟨by omega, h2⟩
    ·exact .inr ⟨by omega, h2.symm⟩
   have HSP := hid hsplit
   clear hsplit
   rcases HSP.out with ⟨hge, hgg⟩ | ⟨hge, hgg⟩
   all_goals
    have HGG := hid hgg
    clear hgg
    go_wp2_with fail
    go_loopw [15] (fun gvv wz => ∃ (g : Nat) (wx : List Nat), gvv = .int .u64 (g : Nat) ∧ g ≤ 4294967295 ∧ W / (s * M) ≤ g ∧ Row wz gu ux ∧ Row wz gv vs ∧ Row wz gq qs ∧ Row wz gw wx ∧ wx.length = mm + 1 ∧ Dg b32 wx ∧ Below w.heap.size w wz) (fun gvv _ => (intOf gvv).toNat)
    case atStart =>
     refine ⟨g1, ws, ?_, by omega, HG1Q.out, hru, hrv, hrq, hrw, HWL.out, hdw, below_drewN hbel _⟩
     have := HGG.out
     subst this
     rfl
    case round =>
     obtain ⟨g, wx, rfl, hgl, hgq, hru', hrv', hrq', hrw', hwl', hdw', hbel'⟩ := hrel
     have HGL := hid hgl
     have HGQ' := hid hgq
     have hgi : (g : Int) ≤ 4294967295 := by omega
     clear hgl hgq
     go_wp2_with fail
     refine (less_any wr gu gv gw ux vs wx hru' hrv' hrw' hdu hdv hdw' (by omega) (by omega) (by omega) (n + 1) mm mm k g HUL'.out (by rw [HVL.out]; omega) hwl' (by omega) (by omega) (Nat.le_refl _) (by have := HGL.out; omega)).mono ?_
     rintro e w9 ⟨wm, hom, hszm, zs, hRz, hzl, hdz, hend⟩
     have hrum := hom.row hru' (by omega)
     have hrvm := hom.row hrv' (by omega)
     have hrqm := hom.row hrq' (by omega)
     have hsz := hbel'.size
     have hbm := hbel'.trans (hom.below hww hsz)
     rcases hend with ⟨rfl, hlt, rfl⟩ | ⟨rfl, heq, hou, hRu, hsz2⟩
     ·rw [HW.out, HVT.out] at hlt
      have hgpos : W / (s * M) + 1 ≤ g := Nat.div_lt_of_lt_mul (by rw [Nat.mul_comm]; exact hlt)
      have hg0' : 0 < g := Nat.lt_of_lt_of_le (Nat.succ_pos _) hgpos
      obtain ⟨gp, rfl⟩ : ∃ gp, g = gp + 1 := ⟨g - 1, by omega⟩
      have hgp9 : W / (s * M) ≤ gp := Nat.le_of_lt_succ hgpos
      clear hg0'
      have HGP9 := hid hgp9
      clear hlt hgpos hgp9
      go_wp2
      go_roundw
      case rel => exact ⟨gp, zs, by go_num, by have := HGL.out; omega, HGP9.out, hrum, hrvm, hrqm, hRz, hzl, hdz, hbm⟩
      case measure => simp [intOf]
     ·rw [HW.out, HVT.out] at heq
      have hrv9 := hou.row hrvm (by omega)
      have hrq9 := hou.row hrqm (by omega)
      have hRw9 := hou.row hRz (by omega)
      have hb9 := hbm.trans (hou.below hw0 (by have := hbm.size; exact this))
      have hfq := hrq9.frozen
      obtain ⟨q0, hq0⟩ := get_lt (zs := qs) (k := k) (by rw [HQL.out]; omega)
      have hcq := hrq9.at_ hq0
      have hzv := quo_digit heq HGQ'.out HVP.out
      have hsp := splice_V (us := ux) (zs := zs) (k := k) (n1 := mm + 1) (gv := g * (s * M)) hzl (by rw [HUL'.out]; have := HNQ.out; omega) (by rw [HW.out]; exact heq)
      have hstep := quo_step (B := b32) (n1 := mm + 1) (by rw [HUL'.out]; have := HNQ.out; omega) (by rw [HQL.out]; omega) hdu (by rw [HW.out]; exact HWIN.out.1) (by rw [HW.out]; exact heq) hzv hsp HV1.out
      have HSTEP := hid hstep
      have hdsp : Dg b32 (splice ux k zs) := (hdu.take _).append (hdz.append (hdu.drop _))
      have hlsp : (splice ux k zs).length = n + 1 := by
       unfold splice
       rw [List.length_append, List.length_append, List.length_take, List.length_drop, HUL'.out, hzl]
       have := HNQ.out
       omega
      have HLSP := hid hlsp
      have hgl9 := HGL.out
      clear heq hzv hsp hstep hlsp hq0
      go_wp2
      go_roundw
      case rel => exact ⟨k, splice ux k zs, qs.set k g, zs, by omega, by go_num, hRu.far (by show gu ≠ gq; omega) _, hrv9.far (by show gv ≠ gq; omega) _, hrq9.set _ _, hRw9.far (by show gw ≠ gq; omega) _, HLSP.out, by simp [HQL.out], hzl, hdsp, hdq.set _ (lt32.2 (by omega)), hdz, hb9.setCell (p := ⟨gq, k, none⟩) hwq _, HSTEP.out.1, HSTEP.out.2⟩
      case measure => simp [intOf]
end Go.Proofs.YtbejcollbkeedaaGreat
