/- The reference's Bytes. -/
import Derived.Test.YtfiakaenenbhpaaRefH
namespace Go.Proofs.Ytfiakaenenbhpaa
open Go.RowKit

theorem lt_of_isBits {N k m : Nat} (hlt : N < 256 ^ m) (hk : IsBits N k) : k ≤ 8 * m := by
  apply Classical.byContradiction
  intro h
  have h1 := hk.2 (by omega)
  have h2 : 2 ^ (8 * m) ≤ 2 ^ (k - 1) := Nat.pow_le_pow_right (by decide) (by omega)
  rw [show (256 : Nat) = 2 ^ 8 from rfl, ← Nat.pow_mul] at hlt
  omega
theorem ge_of_isBits {N k m : Nat} (hge : 256 ^ m ≤ N) (hk : IsBits N k) : 8 * m < k := by
  apply Classical.byContradiction
  intro h
  have h1 := hk.1
  have h2 : 2 ^ k ≤ 2 ^ (8 * m) := Nat.pow_le_pow_right (by decide) (by omega)
  rw [show (256 : Nat) = 2 ^ 8 from rfl, ← Nat.pow_mul] at hge
  omega

set_option maxRecDepth 100000 in
set_option maxHeartbeats 800000 in
theorem rbytes_no (w : World) (B : Nat) (A : Option Addr) (n c : Nat) (xs : List Nat) (hs : Sl w B A n c xs) (N : Nat) (hN : Nm b32 xs N) (hn : n ≤ 1000000000) (m : Int) (hm : m < 0 ∨ 65536 < m ∨ (0 ≤ m ∧ m ≤ 65536 ∧ 256 ^ m.toNat ≤ N)) :
    Calls Try.prog 32 #[.slice A n c, .int .i64 m] w fun e w' => e = .returned (.tuple #[.slice none 0 0, .bool false]) ∧ w = w' := by
  rcases hm with hm | hm | ⟨hm0, hm1, hge⟩
  · go_enter Try.func32, Try.ntmps32
    go_wp2_with fail
    go_ret2
    exact ⟨rfl, rfl⟩
  · have hm0 : ¬ m < 0 := by omega
    go_enter Try.func32, Try.ntmps32
    go_wp2_with fail
    go_ret2
    exact ⟨rfl, rfl⟩
  · obtain ⟨m, rfl⟩ := Int.eq_ofNat_of_zero_le hm0
    rw [Int.toNat_natCast] at hge
    have HGE := Lib.hid hge
    clear hge
    have hm2 : ¬ (m : Int) < 0 := by omega
    have hm3 : ¬ (65536 : Int) < m := by omega
    go_enter Try.func32, Try.ntmps32
    go_wp2_with fail
    refine (rbits_any w B A n c xs hs N hN hn).mono ?_
    rintro e w1 ⟨k, rfl, hk, rfl⟩
    have hkb := ge_of_isBits HGE.out hk
    have hkb' : 8 * (m : Int) < (k : Int) := by omega
    clear hkb hk
    go_wp2_with fail
    go_ret2
    exact ⟨rfl, rfl⟩

set_option maxRecDepth 100000 in
set_option maxHeartbeats 1600000 in
theorem rbytes_yes (w : World) (B : Nat) (hB : B ≤ w.heap.size) (A : Option Addr) (n c : Nat) (xs : List Nat) (hs : Sl w B A n c xs) (N : Nat) (hN : Nm b32 xs N) (hn : n ≤ 1000000000) (m : Nat) (hm : m ≤ 65536) (hlt : N < 256 ^ m) :
    Calls Try.prog 32 #[.slice A n c, .int .i64 (m : Int)] w fun e w' => ∃ g, e = .returned (.tuple #[.slice (some ⟨g, 0, none⟩) m m, .bool true]) ∧ Row8 w' g (be m N) ∧ Below w.heap.size w w' := by
  have HN := Lib.hid hN
  have HLT := Lib.hid hlt
  clear hlt
  have hm0 : ¬ (m : Int) < 0 := by omega
  have hm1 : ¬ (65536 : Int) < m := by omega
  go_enter Try.func32, Try.ntmps32
  go_wp2_with fail
  refine (rbits_any w B A n c xs hs N hN hn).mono ?_
  rintro e w1 ⟨k, rfl, hk, rfl⟩
  have hkb := lt_of_isBits HLT.out hk
  have hkb' : ¬ 8 * (m : Int) < (k : Int) := by omega
  clear hkb hk hN
  go_wp2_with (at_make; refine wl_make8 rfl _ _ Try.underlying51 rfl _ m rfl rfl (by omega) ?_; intro w1 hR hB1 hz1; obtain ⟨g, hg⟩ : ∃ g, g = w.heap.size := ⟨_, rfl⟩; rw [← hg] at hR ⊢; have HG := Lib.hid hg; have HZ1 := Lib.hid hz1; clear hg hz1)
  have hgw : w.heap.size ≤ g := by rw [HG.out]; exact Nat.le_refl _
  go_loopw [7] (fun i wr => ∃ k zs, k ≤ m ∧ i = .int .i64 (k : Nat) ∧ Row8 wr g zs ∧ Only w1 wr g ∧ wr.heap.size = w1.heap.size ∧ zs.length = m ∧ (∀ t, m - k ≤ t → t < m → zs[t]? = (be m N)[t]?) ∧ (∀ t, t < m - k → zs[t]? = some 0)) (fun i _ => m - (intOf i).toNat)
  case atStart => exact ⟨0, _, Nat.zero_le _, rfl, hR, Only.refl _ _, rfl, by simp, fun t h1 h2 => absurd h1 (by omega), fun t ht => by rw [List.getElem?_replicate, if_pos (by omega)]⟩
  case round =>
    obtain ⟨k, zs, hk, rfl, hr, ho, hz, hzl, hz1, hz2⟩ := hrel
    have HZ := Lib.hid hz
    have HZL := Lib.hid hzl
    have HZ1' := Lib.hid hz1
    have HZ2 := Lib.hid hz2
    clear hz hzl hz1 hz2
    have hbel : Below w.heap.size w wr := hB1.trans (ho.below hgw (by rw [HZ1.out]; omega))
    have stop : (k = m ∨ n ≤ k / 4) → zs = be m N := by
      intro h
      apply List.ext_getElem?
      intro t
      rcases Nat.lt_or_ge t m with h1 | h1
      · rcases Nat.lt_or_ge t (m - k) with h2 | h2
        · rw [HZ2.out t h2, be_get h1]
          have h3 : n ≤ (m - 1 - t) / 4 := by
            rcases h with h | h
            · omega
            · exact Nat.le_trans h (Nat.div_le_div_right (by omega))
          rw [byte_ofq (q := 4) (x := 0) (by decide) HN.out.2.2 HN.out.1 (by rw [List.getElem?_eq_none (by rw [← hs.len]; exact h3)]; rfl)]
          simp
        · exact HZ1'.out t h2 h1
      · rw [List.getElem?_eq_none (by rw [HZL.out]; exact h1), List.getElem?_eq_none (by rw [be_length]; exact h1)]
    have STOP := Lib.hid stop
    clear stop
    by_cases hlt : k < m
    · have hki : (k : Int) < m := by omega
      by_cases hLt : k / 4 < n
      · have hsr := hs.below (hbel.mono hB)
        have hf := hr.frozen
        obtain ⟨j, hj⟩ : ∃ j, j = m - 1 - k := ⟨_, rfl⟩
        have hjm : j + k + 1 = m := by omega
        have hjk : (m : Int) - 1 - k = (j : Int) := by omega
        have hji : (j : Int) < m := by omega
        obtain ⟨y, hy⟩ := get_lt (zs := zs) (k := j) (by rw [HZL.out]; omega)
        have hcy := hr.at_ hy
        clear hy
        have hbe : (be m N)[j]? = some (N / 256 ^ k % 256) := by rw [be_get (by omega), show m - 1 - j = k by omega]
        obtain ⟨b, off, x, rfl, hb, hx, hc⟩ := hsr.at_ hLt
        have hbyte : N / 256 ^ k % 256 = x / 2 ^ (k % 4 * 8) % 256 := by
          rw [byte_ofq (q := 4) (x := x) (by decide) HN.out.2.2 HN.out.1 (by rw [hx]; rfl), show (256 : Nat) = 2 ^ 8 from rfl, ← Nat.pow_mul, Nat.mul_comm 8]
        obtain ⟨L, hL⟩ : ∃ L, k / 4 = L := ⟨_, rfl⟩
        obtain ⟨sh, hsh⟩ : ∃ sh, k % 4 * 8 = sh := ⟨_, rfl⟩
        rw [hL] at hc hLt
        rw [hsh] at hbyte
        rw [hbyte] at hbe
        have hLj : (k : Int) / 4 = (L : Int) := by omega
        have hsj : 8 * ((k : Int) % 4) = (sh : Int) := by omega
        have hsh64 : (sh : Int) < 64 := by omega
        have hLi : (L : Int) < n := by omega
        have HBE := Lib.hid hbe
        have HJM := Lib.hid hjm
        clear hbe hj hjm hbyte hx hL hsh
        go_wp2
        go_roundw
        case rel =>
          refine ⟨k + 1, zs.set j (x / 2 ^ sh % 256), by omega, by go_num, hr.set_ (by rw [Int.natCast_emod, Int.natCast_ediv, Int.natCast_pow]; rfl), ho.set _ _, by simpa [World.setCell] using HZ.out, by simp [HZL.out], fun t ht1 ht2 => ?_, fun t ht => by rw [List.getElem?_set_ne (by have := HJM.out; omega)]; exact HZ2.out t (by omega)⟩
          by_cases htj : t = j
          · subst htj
            rw [HBE.out, set_get _ (by rw [HZL.out]; exact ht2)]
          · rw [List.getElem?_set_ne (fun e => htj e.symm)]; exact HZ1'.out t (by have := HJM.out; omega) ht2
        case measure => simp [intOf]; omega
      · have hLi : ¬ (k : Int) / 4 < n := by omega
        go_wp2
        go_ret2
        exact ⟨g, rfl, STOP.out (.inr (by omega)) ▸ hr, hbel⟩
    · obtain rfl : k = m := by omega
      go_wp2
      go_ret2
      exact ⟨g, rfl, STOP.out (.inl trivial) ▸ hr, hbel⟩
end Go.Proofs.Ytfiakaenenbhpaa
