/- The reference's Add and Sub. -/
import Derived.Test.YtfiakaenenbhpaaRefC
namespace Go.Proofs.Ytfiakaenenbhpaa
open Go.RowKit

theorem dg_zeros {B : Nat} (hB : 0 < B) (n : Nat) : Dg B (List.replicate n 0) := fun x hx => by rw [List.eq_of_mem_replicate hx]; exact hB

/-- what is trimmed is the normal form, read where it was -/
theorem retN_trim {B : Nat} {w w' : World} {b m : Nat} {A : Option Addr} {zs : List Nat} {N : Nat} (h : Sl w' w'.heap.size A m b (trimmed zs)) (hd : Dg B zs) (hv : V B zs = N) (hb : Below w.heap.size w w') :
    RetN B w N (.returned (.slice A m b)) w' := ⟨_, hv ▸ trimmed_nm hd, _, _, _, rfl, h, hb⟩

set_option maxRecDepth 100000 in
set_option maxHeartbeats 800000 in
theorem radd_any (w : World) (B : Nat) (hB : B ≤ w.heap.size) (A1 : Option Addr) (n1 c1 : Nat) (xs : List Nat) (hs1 : Sl w B A1 n1 c1 xs) (A2 : Option Addr) (n2 c2 : Nat) (ys : List Nat) (hs2 : Sl w B A2 n2 c2 ys)
    (hd : Dg b32 xs) (hd2 : Dg b32 ys) (h1 : n1 ≤ 1000000000) (h2 : n2 ≤ 1000000000) :
    Calls Try.prog 13 #[.slice A1 n1 c1, .slice A2 n2 c2] w fun e w' => RetN b32 w (V b32 xs + V b32 ys) e w' := by
  have hlc1 := hs1.cap
  have hm1 := hs1.max
  have hlc2 := hs2.cap
  have hm2 := hs2.max
  by_cases hgt : n1 < n2
  · have hgi : (n1 : Int) < n2 := by omega
    obtain ⟨n, hn⟩ : ∃ n, n = n2 := ⟨_, rfl⟩
    have hn1 : n1 ≤ n := by omega
    have hn2 : n2 ≤ n := by omega
    have HN := Lib.hid hn
    clear hn
    go_enter Try.func13, Try.ntmps13
    go_wp2_with (at_make; refine wl_make rfl _ _ Try.underlying26 rfl _ (n2 + 1) rfl (by omega) (by omega) ?_; intro w1 hR hB1 hz1; obtain ⟨g, hg⟩ : ∃ g, g = w.heap.size := ⟨_, rfl⟩; rw [← hg] at hR ⊢; have HG := Lib.hid hg; have HZ1 := Lib.hid hz1; clear hg hz1)
    go_loopw [7, 8] (fun cv i wr => ∃ k c zs, k ≤ n2 + 1 ∧ i = .int .i64 (k : Nat) ∧ cv = .int .u64 ((c : Nat) : Int) ∧ c ≤ 1 ∧ Row wr g zs ∧ Only w1 wr g ∧ wr.heap.size = w1.heap.size ∧ zs.length = n2 + 1 ∧ Dg b32 zs ∧ V b32 (zs.take k) + b32 ^ k * c = V b32 (xs.take k) + V b32 (ys.take k)) (fun _ i _ => n2 + 1 - (intOf i).toNat)
    case atStart => exact ⟨0, 0, _, Nat.zero_le _, rfl, rfl, by omega, hR, Only.refl _ _, rfl, by simp, dg_zeros b32_pos _, rfl⟩
    case round =>
      obtain ⟨k, c, zs, hk, rfl, rfl, hc1, hr, ho, hz, hzl, hdz, hv⟩ := hrel
      have HZ := Lib.hid hz
      have HZL := Lib.hid hzl
      have HV := Lib.hid hv
      clear hz hzl hv
      have hbel : Below w.heap.size w wr := hB1.trans (ho.below (by rw [HG.out]; exact Nat.le_refl _) (by rw [HZ1.out]; omega))
      by_cases hle : k ≤ n2
      · have hs1r := hs1.below (hbel.mono hB)
        have hs2r := hs2.below (hbel.mono hB)
        have hf := hr.frozen
        obtain ⟨y0, hy0⟩ := get_lt (zs := zs) (k := k) (by rw [HZL.out]; omega)
        have hcy := hr.at_ hy0
        clear hy0
        have hki : (k : Int) ≤ n2 := by omega
        obtain ⟨x, hx⟩ : ∃ x, xs[k]?.getD 0 = x := ⟨_, rfl⟩
        obtain ⟨y, hy⟩ : ∃ y, ys[k]?.getD 0 = y := ⟨_, rfl⟩
        have hst := add_step (B := b32) (zs := zs) (k := k) (c := c) (x := x) (y := y) (by rw [HZL.out]; omega) HV.out hx hy
        have HST := Lib.hid hst
        clear hst
        by_cases hx1 : k < n1
        · obtain ⟨b, off, x', rfl, hb1, hx', hc⟩ := hs1r.at_ hx1
          rw [hx'] at hx
          simp only [Option.getD_some] at hx
          subst hx
          have hxl : (x' : Int) < 4294967296 := by have := lt32.1 (hd.get hx'); omega
          clear hx'
          have hx1i : (k : Int) < n1 := by omega
          have hbg : b ≠ g := by have := HG.out; omega
          have hbg' : g ≠ b := fun e => hbg e.symm
          by_cases hx2 : k < n2
          · obtain ⟨b2, off2, y', rfl, hb2, hy', hc2⟩ := hs2r.at_ hx2
            rw [hy'] at hy
            simp only [Option.getD_some] at hy
            subst hy
            have hyl : (y' : Int) < 4294967296 := by have := lt32.1 (hd2.get hy'); omega
            clear hy'
            have hx2i : (k : Int) < n2 := by omega
            have hbg2 : b2 ≠ g := by have := HG.out; omega
            have hbg2' : g ≠ b2 := fun e => hbg2 e.symm
            go_wp2
            go_roundw
            case rel => exact ⟨k + 1, (c + x' + y') / 4294967296, zs.set k ((c + x' + y') % 4294967296), by omega, by go_num, by go_num, by omega, hr.set _ _, ho.set _ _, by simpa [World.setCell] using HZ.out, by simp [HZL.out], hdz.set _ (Nat.mod_lt _ (by decide)), HST.out⟩
            case measure => simp [intOf]; omega
          · exfalso; omega
        · have hx1i : ¬ (k : Int) < n1 := by omega
          rw [List.getElem?_eq_none (by rw [← hs1.len]; omega)] at hx
          simp only [Option.getD_none] at hx
          subst hx
          by_cases hx2 : k < n2
          · obtain ⟨b2, off2, y', rfl, hb2, hy', hc2⟩ := hs2r.at_ hx2
            rw [hy'] at hy
            simp only [Option.getD_some] at hy
            subst hy
            have hyl : (y' : Int) < 4294967296 := by have := lt32.1 (hd2.get hy'); omega
            clear hy'
            have hx2i : (k : Int) < n2 := by omega
            have hbg2 : b2 ≠ g := by have := HG.out; omega
            have hbg2' : g ≠ b2 := fun e => hbg2 e.symm
            go_wp2
            go_roundw
            case rel => exact ⟨k + 1, (c + 0 + y') / 4294967296, zs.set k ((c + 0 + y') % 4294967296), by omega, by go_num, by go_num, by omega, hr.set _ _, ho.set _ _, by simpa [World.setCell] using HZ.out, by simp [HZL.out], hdz.set _ (Nat.mod_lt _ (by decide)), HST.out⟩
            case measure => simp [intOf]; omega
          · have hx2i : ¬ (k : Int) < n2 := by omega
            rw [List.getElem?_eq_none (by rw [← hs2.len]; omega)] at hy
            simp only [Option.getD_none] at hy
            subst hy
            go_wp2
            exact ⟨⟨k + 1, c / 4294967296, zs.set k (c % 4294967296), by omega, by go_num, by go_num, by omega, hr.set _ _, ho.set _ _, by simpa [World.setCell] using HZ.out, by simp [HZL.out], hdz.set _ (Nat.mod_lt _ (by decide)), HST.out⟩, by simp [intOf]; omega⟩
      · obtain rfl : k = n2 + 1 := by omega
        have hsl := hr.sl (by rw [HZL.out]; omega)
        rw [HZL.out] at hsl
        have hki : ¬ ((n2 + 1 : Nat) : Int) ≤ n2 := by omega
        go_wp2_with (go_at_call 36; refine (rtrim_sl _ _ _ _ _ zs hsl).mono ?_; rintro e w2 ⟨m, rfl, h1, h2, rfl⟩)
        go_ret
        exact retN_trim h1 hdz (add_end (by decide) hd hd2 (by rw [← hs1.len]; omega) (by rw [← hs2.len]; omega) HZL.out HV.out) hbel
  · have hgi : ¬ (n1 : Int) < n2 := by omega
    obtain ⟨n, hn⟩ : ∃ n, n = n1 := ⟨_, rfl⟩
    have hn1 : n1 ≤ n := by omega
    have hn2 : n2 ≤ n := by omega
    have HN := Lib.hid hn
    clear hn
    go_enter Try.func13, Try.ntmps13
    go_wp2_with (at_make; refine wl_make rfl _ _ Try.underlying26 rfl _ (n1 + 1) rfl (by omega) (by omega) ?_; intro w1 hR hB1 hz1; obtain ⟨g, hg⟩ : ∃ g, g = w.heap.size := ⟨_, rfl⟩; rw [← hg] at hR ⊢; have HG := Lib.hid hg; have HZ1 := Lib.hid hz1; clear hg hz1)
    go_loopw [7, 8] (fun cv i wr => ∃ k c zs, k ≤ n1 + 1 ∧ i = .int .i64 (k : Nat) ∧ cv = .int .u64 ((c : Nat) : Int) ∧ c ≤ 1 ∧ Row wr g zs ∧ Only w1 wr g ∧ wr.heap.size = w1.heap.size ∧ zs.length = n1 + 1 ∧ Dg b32 zs ∧ V b32 (zs.take k) + b32 ^ k * c = V b32 (xs.take k) + V b32 (ys.take k)) (fun _ i _ => n1 + 1 - (intOf i).toNat)
    case atStart => exact ⟨0, 0, _, Nat.zero_le _, rfl, rfl, by omega, hR, Only.refl _ _, rfl, by simp, dg_zeros b32_pos _, rfl⟩
    case round =>
      obtain ⟨k, c, zs, hk, rfl, rfl, hc1, hr, ho, hz, hzl, hdz, hv⟩ := hrel
      have HZ := Lib.hid hz
      have HZL := Lib.hid hzl
      have HV := Lib.hid hv
      clear hz hzl hv
      have hbel : Below w.heap.size w wr := hB1.trans (ho.below (by rw [HG.out]; exact Nat.le_refl _) (by rw [HZ1.out]; omega))
      by_cases hle : k ≤ n1
      · have hs1r := hs1.below (hbel.mono hB)
        have hs2r := hs2.below (hbel.mono hB)
        have hf := hr.frozen
        obtain ⟨y0, hy0⟩ := get_lt (zs := zs) (k := k) (by rw [HZL.out]; omega)
        have hcy := hr.at_ hy0
        clear hy0
        have hki : (k : Int) ≤ n1 := by omega
        obtain ⟨x, hx⟩ : ∃ x, xs[k]?.getD 0 = x := ⟨_, rfl⟩
        obtain ⟨y, hy⟩ : ∃ y, ys[k]?.getD 0 = y := ⟨_, rfl⟩
        have hst := add_step (B := b32) (zs := zs) (k := k) (c := c) (x := x) (y := y) (by rw [HZL.out]; omega) HV.out hx hy
        have HST := Lib.hid hst
        clear hst
        by_cases hx1 : k < n1
        · obtain ⟨b, off, x', rfl, hb1, hx', hc⟩ := hs1r.at_ hx1
          rw [hx'] at hx
          simp only [Option.getD_some] at hx
          subst hx
          have hxl : (x' : Int) < 4294967296 := by have := lt32.1 (hd.get hx'); omega
          clear hx'
          have hx1i : (k : Int) < n1 := by omega
          have hbg : b ≠ g := by have := HG.out; omega
          have hbg' : g ≠ b := fun e => hbg e.symm
          by_cases hx2 : k < n2
          · obtain ⟨b2, off2, y', rfl, hb2, hy', hc2⟩ := hs2r.at_ hx2
            rw [hy'] at hy
            simp only [Option.getD_some] at hy
            subst hy
            have hyl : (y' : Int) < 4294967296 := by have := lt32.1 (hd2.get hy'); omega
            clear hy'
            have hx2i : (k : Int) < n2 := by omega
            have hbg2 : b2 ≠ g := by have := HG.out; omega
            have hbg2' : g ≠ b2 := fun e => hbg2 e.symm
            go_wp2
            go_roundw
            case rel => exact ⟨k + 1, (c + x' + y') / 4294967296, zs.set k ((c + x' + y') % 4294967296), by omega, by go_num, by go_num, by omega, hr.set _ _, ho.set _ _, by simpa [World.setCell] using HZ.out, by simp [HZL.out], hdz.set _ (Nat.mod_lt _ (by decide)), HST.out⟩
            case measure => simp [intOf]; omega
          · have hx2i : ¬ (k : Int) < n2 := by omega
            rw [List.getElem?_eq_none (by rw [← hs2.len]; omega)] at hy
            simp only [Option.getD_none] at hy
            subst hy
            go_wp2
            go_roundw
            case rel => exact ⟨k + 1, (c + x' + 0) / 4294967296, zs.set k ((c + x' + 0) % 4294967296), by omega, by go_num, by go_num, by omega, hr.set _ _, ho.set _ _, by simpa [World.setCell] using HZ.out, by simp [HZL.out], hdz.set _ (Nat.mod_lt _ (by decide)), HST.out⟩
            case measure => simp [intOf]; omega
        · have hx1i : ¬ (k : Int) < n1 := by omega
          rw [List.getElem?_eq_none (by rw [← hs1.len]; omega)] at hx
          simp only [Option.getD_none] at hx
          subst hx
          by_cases hx2 : k < n2
          · exfalso; omega
          · have hx2i : ¬ (k : Int) < n2 := by omega
            rw [List.getElem?_eq_none (by rw [← hs2.len]; omega)] at hy
            simp only [Option.getD_none] at hy
            subst hy
            go_wp2
            exact ⟨⟨k + 1, c / 4294967296, zs.set k (c % 4294967296), by omega, by go_num, by go_num, by omega, hr.set _ _, ho.set _ _, by simpa [World.setCell] using HZ.out, by simp [HZL.out], hdz.set _ (Nat.mod_lt _ (by decide)), HST.out⟩, by simp [intOf]; omega⟩
      · obtain rfl : k = n1 + 1 := by omega
        have hsl := hr.sl (by rw [HZL.out]; omega)
        rw [HZL.out] at hsl
        have hki : ¬ ((n1 + 1 : Nat) : Int) ≤ n1 := by omega
        go_wp2_with (go_at_call 36; refine (rtrim_sl _ _ _ _ _ zs hsl).mono ?_; rintro e w2 ⟨m, rfl, h1, h2, rfl⟩)
        go_ret
        exact retN_trim h1 hdz (add_end (by decide) hd hd2 (by rw [← hs1.len]; omega) (by rw [← hs2.len]; omega) HZL.out HV.out) hbel
end Go.Proofs.Ytfiakaenenbhpaa
