/- The reference's Sub. -/
import Derived.Test.YtfiakaenenbhpaaRefD
namespace Go.Proofs.Ytfiakaenenbhpaa
open Go.RowKit

theorem Row.set_ {w : World} {g : Nat} {zs : List Nat} (h : Row w g zs) {i x : Nat} {z : Int} (e : z = (x : Int)) : Row (w.setCell ⟨g, i, none⟩ (.int .u64 z)) g (zs.set i x) := by subst e; exact h.set i x

set_option maxRecDepth 100000 in
set_option maxHeartbeats 800000 in
theorem rsub_any (w : World) (B : Nat) (hB : B ≤ w.heap.size) (A1 : Option Addr) (n1 c1 : Nat) (xs : List Nat) (hs1 : Sl w B A1 n1 c1 xs) (A2 : Option Addr) (n2 c2 : Nat) (ys : List Nat) (hs2 : Sl w B A2 n2 c2 ys)
    (hd : Dg b32 xs) (hd2 : Dg b32 ys) (h1 : n1 ≤ 1000000000) (h2 : n2 ≤ n1) (hle : V b32 ys ≤ V b32 xs) :
    Calls Try.prog 20 #[.slice A1 n1 c1, .slice A2 n2 c2] w fun e w' => RetN b32 w (V b32 xs - V b32 ys) e w' := by
  have hlc1 := hs1.cap
  have hm1 := hs1.max
  have hlc2 := hs2.cap
  have hm2 := hs2.max
  go_enter Try.func20, Try.ntmps20
  go_wp2_with (at_make; refine wl_make rfl _ _ Try.underlying26 rfl _ n1 rfl (by omega) (by omega) ?_; intro w1 hR hB1 hz1; obtain ⟨g, hg⟩ : ∃ g, g = w.heap.size := ⟨_, rfl⟩; rw [← hg] at hR ⊢; have HG := Lib.hid hg; have HZ1 := Lib.hid hz1; clear hg hz1)
  go_loopw [6, 7] (fun cv i wr => ∃ k c zs, k ≤ n1 ∧ i = .int .i64 (k : Nat) ∧ cv = .int .u64 ((c : Nat) : Int) ∧ c ≤ 1 ∧ Row wr g zs ∧ Only w1 wr g ∧ wr.heap.size = w1.heap.size ∧ zs.length = n1 ∧ Dg b32 zs ∧ V b32 (zs.take k) + V b32 (ys.take k) = V b32 (xs.take k) + b32 ^ k * c) (fun _ i _ => n1 - (intOf i).toNat)
  case atStart => exact ⟨0, 0, _, Nat.zero_le _, rfl, rfl, by omega, hR, Only.refl _ _, rfl, by simp, dg_zeros b32_pos _, rfl⟩
  case round =>
    obtain ⟨k, c, zs, hk, rfl, rfl, hc1, hr, ho, hz, hzl, hdz, hv⟩ := hrel
    have HZ := Lib.hid hz
    have HZL := Lib.hid hzl
    have HV := Lib.hid hv
    clear hz hzl hv
    have hbel : Below w.heap.size w wr := hB1.trans (ho.below (by rw [HG.out]; exact Nat.le_refl _) (by rw [HZ1.out]; omega))
    by_cases hlt : k < n1
    · have hs1r := hs1.below (hbel.mono hB)
      have hs2r := hs2.below (hbel.mono hB)
      have hf := hr.frozen
      obtain ⟨y0, hy0⟩ := get_lt (zs := zs) (k := k) (by rw [HZL.out]; omega)
      have hcy := hr.at_ hy0
      clear hy0
      have hki : (k : Int) < n1 := by omega
      obtain ⟨b, off, x', rfl, hb1, hx', hc⟩ := hs1r.at_ hlt
      have hxl : (x' : Int) < 4294967296 := by have := lt32.1 (hd.get hx'); omega
      have HX := Lib.hid hx'
      clear hx'
      have hbg : b ≠ g := by have := HG.out; omega
      have hbg' : g ≠ b := fun e => hbg e.symm
      obtain ⟨y, hy⟩ : ∃ y, ys[k]?.getD 0 = y := ⟨_, rfl⟩
      by_cases hx2 : k < n2
      · obtain ⟨b2, off2, y', rfl, hb2, hy', hc2⟩ := hs2r.at_ hx2
        rw [hy'] at hy
        simp only [Option.getD_some] at hy
        subst hy
        have HY : Hid (ys[k]?.getD 0 = y') := by show _ = _; rw [hy']; rfl
        have hyl : (y' : Int) < 4294967296 := by have := lt32.1 (hd2.get hy'); omega
        clear hy'
        have hx2i : (k : Int) < n2 := by omega
        have hbg2 : b2 ≠ g := by have := HG.out; omega
        have hbg2' : g ≠ b2 := fun e => hbg2 e.symm
        by_cases hlt : x' < c + y'
        · have hli : (x' : Int) < (c : Int) + y' := by omega
          have hst := sub_step (B := b32) (zs := zs) (k := k) (c := c) (d := 1) (z := x' + 4294967296 - (c + y')) (x := x') (y := y') (by rw [HZL.out]; omega) HV.out (by rw [HX.out]; rfl) HY.out (by rw [b32_eq]; omega)
          have HST := Lib.hid hst
          clear hst
          go_wp2
          go_roundw
          case rel => exact ⟨k + 1, 1, zs.set k (x' + 4294967296 - (c + y')), by omega, by go_num, by go_num, by omega, hr.set_ (by omega), (ho.set _ _), by simpa [World.setCell] using HZ.out, by simp [HZL.out], hdz.set _ (by rw [lt32]; omega), HST.out⟩
          case measure => simp [intOf]; omega
        · have hli : ¬ (x' : Int) < (c : Int) + y' := by omega
          have hst := sub_step (B := b32) (zs := zs) (k := k) (c := c) (d := 0) (z := x' - (c + y')) (x := x') (y := y') (by rw [HZL.out]; omega) HV.out (by rw [HX.out]; rfl) HY.out (by omega)
          have HST := Lib.hid hst
          clear hst
          go_wp2
          go_roundw
          case rel => exact ⟨k + 1, 0, zs.set k (x' - (c + y')), by omega, by go_num, by go_num, by omega, hr.set_ (by omega), (ho.set _ _), by simpa [World.setCell] using HZ.out, by simp [HZL.out], hdz.set _ (by rw [lt32]; omega), HST.out⟩
          case measure => simp [intOf]; omega
      · have hx2i : ¬ (k : Int) < n2 := by omega
        rw [List.getElem?_eq_none (by rw [← hs2.len]; omega)] at hy
        simp only [Option.getD_none] at hy
        subst hy
        have HY : Hid (ys[k]?.getD 0 = 0) := by show _ = _; rw [List.getElem?_eq_none (by rw [← hs2.len]; omega)]; rfl
        by_cases hlt : x' < c
        · have hli : (x' : Int) < (c : Int) := by omega
          have hst := sub_step (B := b32) (zs := zs) (k := k) (c := c) (d := 1) (z := x' + 4294967296 - (c)) (x := x') (y := 0) (by rw [HZL.out]; omega) HV.out (by rw [HX.out]; rfl) HY.out (by rw [b32_eq]; omega)
          have HST := Lib.hid hst
          clear hst
          go_wp2
          go_roundw
          case rel => exact ⟨k + 1, 1, zs.set k (x' + 4294967296 - (c)), by omega, by go_num, by go_num, by omega, hr.set_ (by omega), (ho.set _ _), by simpa [World.setCell] using HZ.out, by simp [HZL.out], hdz.set _ (by rw [lt32]; omega), HST.out⟩
          case measure => simp [intOf]; omega
        · have hli : ¬ (x' : Int) < (c : Int) := by omega
          have hst := sub_step (B := b32) (zs := zs) (k := k) (c := c) (d := 0) (z := x' - (c)) (x := x') (y := 0) (by rw [HZL.out]; omega) HV.out (by rw [HX.out]; rfl) HY.out (by omega)
          have HST := Lib.hid hst
          clear hst
          go_wp2
          go_roundw
          case rel => exact ⟨k + 1, 0, zs.set k (x' - (c)), by omega, by go_num, by go_num, by omega, hr.set_ (by omega), (ho.set _ _), by simpa [World.setCell] using HZ.out, by simp [HZL.out], hdz.set _ (by rw [lt32]; omega), HST.out⟩
          case measure => simp [intOf]; omega
    · obtain rfl : k = n1 := by omega
      have hsl := hr.sl (by rw [HZL.out]; omega)
      rw [HZL.out] at hsl
      go_wp2_with (go_at_call 36; refine (rtrim_sl _ _ _ _ _ zs hsl).mono ?_; rintro e w2 ⟨m, rfl, h1, h2, rfl⟩)
      go_ret
      exact retN_trim h1 hdz (sub_end hdz hs1.len.symm (by rw [← hs2.len]; omega) HZL.out hle HV.out) hbel
end Go.Proofs.Ytfiakaenenbhpaa
