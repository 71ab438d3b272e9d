/- math/bits.Div64, of any words. -/
import Derived.Test.YtfiakaenenbhpaaLimbO
import Derived.Test.YtfiakaenenbhpaaDivM
import Derived.Outline
import Derived.WalkSmall
namespace Go.Proofs.Ytfiakaenenbhpaa
open Go.RowKit

theorem lz_any (x : Nat) (hx : x < b64) (h0 : x ≠ 0) (w : World) :
    Calls Try.prog 60 #[.int .u64 (x : Int)] w fun e w' => ∃ s : Nat, e = .returned (.int .i64 (s : Int)) ∧ (s < 64 ∧ 9223372036854775808 ≤ x * 2 ^ s ∧ x * 2 ^ s < 18446744073709551616) ∧ w = w' := by
  have hx' := lt64.1 hx
  refine (Try.bits_LeadingZeros64 (x : Int) w (by omega) (by omega)).mono ?_
  rintro e w' ⟨rfl, rfl⟩
  obtain ⟨c1, c2, c3⟩ := Lib.bitLenAux_bounds 64 x hx h0
  have hle : Lib.bitLen x ≤ 64 := Lib.bitLen_le x 64 (Nat.le_refl _) hx
  obtain ⟨k, hk⟩ : ∃ k, Lib.bitLen x = k := ⟨_, rfl⟩
  have hk' : Lib.bitLenAux 64 x = k := hk
  rw [hk'] at c1 c2 c3
  rw [hk] at hle
  have hk1 : 1 ≤ k := by
    rcases Nat.eq_zero_or_pos k with h | h
    · rw [h] at c3; simp at c3; omega
    · exact h
  refine ⟨64 - k, by rw [Int.toNat_natCast, hk]; congr 2; omega, ⟨by omega, ?_, ?_⟩, rfl⟩
  · have h1 := Nat.mul_le_mul_right (2 ^ (64 - k)) c2
    rw [← Nat.pow_add, show k - 1 + (64 - k) = 63 by omega] at h1
    exact h1
  · have h1 : (x + 1) * 2 ^ (64 - k) ≤ 2 ^ k * 2 ^ (64 - k) := Nat.mul_le_mul_right _ c3
    rw [← Nat.pow_add, show k + (64 - k) = 64 by omega, Nat.add_mul, Nat.one_mul] at h1
    have h2 : 0 < 2 ^ (64 - k) := Nat.pow_pos (by decide)
    have h3 : (2 : Nat) ^ 64 = 18446744073709551616 := by decide
    omega

theorem and_mask32 (x : Nat) (hx : x < 18446744073709551616) : bits BinOp.and IntKind.u64 (x : Int) 4294967295 = ((x % 4294967296 : Nat) : Int) := by
  have h := bits_and_u64_nat x 4294967295 (by omega) (by omega)
  rw [show x &&& 4294967295 = x % 4294967296 from Nat.and_two_pow_sub_one_eq_mod x 32] at h
  exact h

theorem wrap_emod (z : Int) : IntKind.u64.wrap z = z % 18446744073709551616 := rfl
/-- the words as the program reckons them: the first guess -/
theorem half_guess (u y1 : Nat) (hu : u < 18446744073709551616) : ∃ m : Nat, IntKind.u64.wrap ((u : Int) / y1) = ((u / y1 : Nat) : Int) ∧ IntKind.u64.wrap (((u / y1 : Nat) : Int) * y1) = (m : Int) ∧ IntKind.u64.wrap ((u : Int) - m) = ((u - u / y1 * y1 : Nat) : Int) := by
  have h1 : u / y1 * y1 ≤ u := Nat.div_mul_le_self _ _
  refine ⟨u / y1 * y1, ?_, ?_, ?_⟩
  · rw [← Int.natCast_ediv, wrap_nat64 (Nat.lt_of_le_of_lt (Nat.div_le_self _ _) hu)]
  · rw [← Int.natCast_mul, wrap_nat64 (by omega)]
  · rw [← Int.natCast_sub h1, wrap_nat64 (by omega)]
/-- .. and what is left -/
theorem half_left {u d q Y R : Nat} (h : q * Y + R = u * 4294967296 + d) (hR : R < 18446744073709551616) : ∃ A A2 D : Nat, IntKind.u64.wrap ((u : Int) * 4294967296) = (A : Int) ∧ IntKind.u64.wrap ((A : Int) + d) = (A2 : Int) ∧ IntKind.u64.wrap ((q : Int) * Y) = (D : Int) ∧ IntKind.u64.wrap ((A2 : Int) - D) = (R : Int) := by
  obtain ⟨P, hP⟩ : ∃ P, q * Y = P := ⟨_, rfl⟩
  rw [hP] at h
  refine ⟨u * 4294967296 % 18446744073709551616, (u * 4294967296 % 18446744073709551616 + d) % 18446744073709551616, P % 18446744073709551616, ?_, ?_, ?_, ?_⟩
  · rw [wrap_emod]; omega
  · rw [wrap_emod]; omega
  · rw [← Int.natCast_mul, hP, wrap_emod]; omega
  · rw [wrap_emod]; omega
/-- the round's tests -/
theorem half_test (q r y0 d : Nat) (hq : q < 4294967296) (hr : r < 4294967296) (hy : y0 < 4294967296) (hd : d < 4294967296) :
    ∃ m t : Nat, IntKind.u64.wrap ((q : Int) * y0) = (m : Int) ∧ IntKind.u64.wrap (4294967296 * (r : Int)) = (t : Int) ∧ IntKind.u64.wrap ((t : Int) + d) = ((4294967296 * r + d : Nat) : Int) ∧ m = q * y0 := by
  have h1 := mul_le32 hq hy
  refine ⟨q * y0, 4294967296 * r, ?_, ?_, ?_, rfl⟩
  · rw [← Int.natCast_mul, wrap_nat64 (by omega)]
  · rw [wrap_emod]; omega
  · rw [wrap_emod]; omega

theorem up_sum {u L l1 l0 X : Nat} (h : u * 18446744073709551616 + L = X) (hl : L = l1 * 4294967296 + l0) : u * 18446744073709551616 + l1 * 4294967296 + l0 = X := by
  rw [hl, ← Nat.add_assoc] at h; exact h
theorem half_cases (q r y0 d : Nat) : 4294967296 ≤ q ∨ (q < 4294967296 ∧ 4294967296 * r + d < q * y0) ∨ (q < 4294967296 ∧ q * y0 ≤ 4294967296 * r + d) := by omega

set_option maxRecDepth 100000 in
set_option maxHeartbeats 4000000 in
theorem div64_pos (hi lo d : Nat) (hh : hi < d) (h0 : 0 < hi) (hlo : lo < b64) (hd : d < b64) (w : World) :
    Calls Try.prog 58 #[.int .u64 (hi : Int), .int .u64 (lo : Int), .int .u64 (d : Int)] w fun e w' =>
      e = .returned (.tuple #[.int .u64 (((hi * b64 + lo) / d : Nat) : Int), .int .u64 (((hi * b64 + lo) % d : Nat) : Int)]) ∧ ∃ q, w' = w.drewN q := by
  obtain ⟨Q, hQ⟩ : ∃ Q, (hi * b64 + lo) / d = Q := ⟨_, rfl⟩
  obtain ⟨R, hR⟩ : ∃ R, (hi * b64 + lo) % d = R := ⟨_, rfl⟩
  rw [hQ, hR]
  have HQ := Lib.hid hQ
  have HR := Lib.hid hR
  have hlo' := lt64.1 hlo
  have hd' := lt64.1 hd
  have h1 : ((d : Int) == 0) = false := by simp; omega
  have h2 : ¬ (d : Int) ≤ (hi : Int) := by omega
  have h3 : ((hi : Int) == 0) = false := by simp; omega
  clear hQ hR hlo hd
  go_enter Try.func58, Try.ntmps58
  go_wp2_with fail
  refine (lz_any d (lt64.2 hd') (by omega) w).mono ?_
  rintro e w1 ⟨s, rfl, ⟨hs, hy1, hy2⟩, rfl⟩
  obtain ⟨Y, hY⟩ : ∃ Y, d * 2 ^ s = Y := ⟨_, rfl⟩
  obtain ⟨c1, c2, c3, c4⟩ := up_words hs hh hlo' hy2
  obtain ⟨r, hr⟩ : ∃ r, 64 - s = r := ⟨_, rfl⟩
  obtain ⟨a, ha⟩ : ∃ a, hi * 2 ^ s = a := ⟨_, rfl⟩
  obtain ⟨b, hb⟩ : ∃ b, lo / 2 ^ r = b := ⟨_, rfl⟩
  obtain ⟨L, hL⟩ : ∃ L, lo * 2 ^ s % 18446744073709551616 = L := ⟨_, rfl⟩
  rw [hY] at hy1 hy2 c3
  rw [hr, hb] at c2 c3 c4
  rw [ha] at c1 c2 c3 c4
  rw [hL] at c4
  have hL64 : L < 18446744073709551616 := by rw [← hL]; exact Nat.mod_lt _ (by decide)
  obtain ⟨u, hu⟩ : ∃ u, a + b = u := ⟨_, rfl⟩
  rw [hu] at c2 c3 c4
  obtain ⟨y1, hy1e⟩ : ∃ y1, Y / 4294967296 = y1 := ⟨_, rfl⟩
  obtain ⟨y0, hy0e⟩ : ∃ y0, Y % 4294967296 = y0 := ⟨_, rfl⟩
  obtain ⟨l1, hl1e⟩ : ∃ y1, L / 4294967296 = y1 := ⟨_, rfl⟩
  obtain ⟨l0, hl0e⟩ : ∃ y0, L % 4294967296 = y0 := ⟨_, rfl⟩
  have hYe : Y = y1 * 4294967296 + y0 := by omega
  have hLe : L = l1 * 4294967296 + l0 := by omega
  have by1 : 2147483648 ≤ y1 := by omega
  have by1' : y1 < 4294967296 := by omega
  have by0 : y0 < 4294967296 := by omega
  have bl1 : l1 < 4294967296 := by omega
  have bl0 : l0 < 4294967296 := by omega
  have hb64 : b ≤ 18446744073709551615 := by omega
  have f1 : IntKind.u64.wrap ((d : Int) * 2 ^ s) = (Y : Int) := by
    rw [show (d : Int) * 2 ^ s = ((d * 2 ^ s : Nat) : Int) by rw [Int.natCast_mul, Int.natCast_pow]; rfl, hY, wrap_nat64 hy2]
  have f2 : (Y : Int) / 4294967296 = (y1 : Int) := by omega
  have f3 : bits BinOp.and IntKind.u64 (Y : Int) 4294967295 = (y0 : Int) := by rw [and_mask32 Y hy2, hy0e]
  have f4 : IntKind.u64.wrap ((hi : Int) * 2 ^ s) = (a : Int) := by
    rw [show (hi : Int) * 2 ^ s = ((hi * 2 ^ s : Nat) : Int) by rw [Int.natCast_mul, Int.natCast_pow]; rfl, ha, wrap_nat64 c1]
  have f5 : (lo : Int) / 2 ^ r = (b : Int) := by
    rw [← hb, Int.natCast_ediv, Int.natCast_pow]; rfl
  have f6 : bits BinOp.or IntKind.u64 (a : Int) (b : Int) = (u : Int) := by rw [or_nat64 c1 (by omega), c2]
  have f7 : IntKind.u64.wrap ((lo : Int) * 2 ^ s) = (L : Int) := by
    rw [show (lo : Int) * 2 ^ s = ((lo * 2 ^ s : Nat) : Int) by rw [Int.natCast_mul, Int.natCast_pow]; rfl, wrap_mod64, hL]
  have f8 : (L : Int) / 4294967296 = (l1 : Int) := by omega
  have f9 : bits BinOp.and IntKind.u64 (L : Int) 4294967295 = (l0 : Int) := by rw [and_mask32 L hL64, hl0e]
  have f10 : (64 : Int) - s = (r : Int) := by omega
  have hr64 : (r : Int) < 65 := by omega
  have hy0p : (0 : Int) < y1 := by omega
  have HC4 := Lib.hid c4
  have HY := Lib.hid hY
  have HYE := Lib.hid hYe
  have HLE := Lib.hid hLe
  have hu64 : (u : Int) ≤ 18446744073709551615 := by omega
  clear c1 c2 c4 hY hr ha hb hL hu hy1e hy0e hl1e hl0e hYe hLe hL64 hb64
  have hY0 : 0 < Y := by omega
  obtain ⟨m0, k1, k2, k3⟩ := half_guess u y1 (by omega)
  obtain ⟨s1, s2, s3, s4, s5⟩ := half_start (d := l1) HYE.out by1 by0 bl1 c3
  obtain ⟨e1, e2, e3⟩ := half_rest hY0 c3 bl1
  obtain ⟨Q1, hQ1⟩ : ∃ Q1, (u * 4294967296 + l1) / Y = Q1 := ⟨_, rfl⟩
  obtain ⟨R1, hR1⟩ : ∃ R1, (u * 4294967296 + l1) % Y = R1 := ⟨_, rfl⟩
  rw [hQ1, hR1] at e2
  rw [hQ1] at e1 s4
  rw [hR1] at e3
  obtain ⟨g0, hg0⟩ : ∃ g0, u / y1 = g0 := ⟨_, rfl⟩
  rw [hg0] at k1 k2 k3 s1 s2 s3 s4 s5
  obtain ⟨r0, hr0⟩ : ∃ r0, u - g0 * y1 = r0 := ⟨_, rfl⟩
  rw [hr0] at k3 s1 s3
  have S1 := Lib.hid s1
  have S4 := Lib.hid s4
  have S5 := Lib.hid s5
  have HQ1 := Lib.hid hQ1
  have E2 := Lib.hid e2
  have hr0b : r0 < 4294967296 := by omega
  have hY0' := Lib.hid hY0
  have C3 := Lib.hid c3
  clear s1 s2 s3 s4 s5 hQ1 hR1 e2 hg0 hr0 hY0 c3
  go_wp2
  clear k1 k2 k3
  go_loop [15, 16] (fun qv rv => ∃ q r : Nat, qv = .int .u64 (q : Int) ∧ rv = .int .u64 (r : Int) ∧ q * y1 + r = u ∧ Q1 ≤ q ∧ q ≤ 4294967297 ∧ r < 4294967296) (fun qv _ => (intOf qv).toNat)
  case atStart => exact ⟨g0, r0, rfl, rfl, S1.out, S4.out, S5.out, hr0b⟩
  case round =>
    obtain ⟨q, r, rfl, rfl, hqr, hlo1, hq5, hr32⟩ := hrel
    have HQR := Lib.hid hqr
    have HLO := Lib.hid hlo1
    have hri : (r : Int) ≤ 4294967295 := by omega
    have hqi : (q : Int) ≤ 4294967297 := by omega
    have hy1i : (y1 : Int) ≤ 4294967295 := by omega
    have HR32 := Lib.hid hr32
    clear hqr hlo1 hq5 hr32
    rcases half_cases q r y0 l1 with h | h | h
    · -- the guess has more than a half
      obtain ⟨m1, m2, m3⟩ := half_more HYE.out HQR.out C3.out bl1 (by rw [HQ1.out]; exact HLO.out) (.inl h)
      rw [HQ1.out] at m2
      obtain ⟨q', hq'⟩ : ∃ q', q - 1 = q' := ⟨_, rfl⟩
      rw [hq'] at m2 m3
      have hge : (4294967296 : Int) ≤ (q : Int) := by omega
      have M2 := Lib.hid m2
      have M3 := Lib.hid m3
      have hq1i : (q' : Int) ≤ 4294967296 := by omega
      have hq2 : (q : Int) - 1 = (q' : Int) := by omega
      have hmeas : q' < q := by omega
      clear m1 m2 m3 h hq'
      by_cases hov : 4294967296 ≤ r + y1
      · have hov' : (4294967296 : Int) ≤ (r : Int) + y1 := by omega
        obtain rfl : Q1 = q' := by rw [← HQ1.out]; exact Eq.symm <| half_done HYE.out hY0'.out M3.out (by rw [HQ1.out]; exact M2.out) (half_over HYE.out by0 M3.out C3.out hov)
        have by1'' := by1
        obtain ⟨A, A2, D, g1, g2, g3, g4⟩ := half_left E2.out (by omega)
        obtain ⟨m0, k1, k2, k3⟩ := half_guess R1 y1 (by omega)
        obtain ⟨s1, s2, s3, s4, s5⟩ := half_start (d := l0) HYE.out by1 by0 bl0 e3
        obtain ⟨Q0, hQ0⟩ : ∃ Q0, (R1 * 4294967296 + l0) / Y = Q0 := ⟨_, rfl⟩
        obtain ⟨R0, hR0⟩ : ∃ R0, (R1 * 4294967296 + l0) % Y = R0 := ⟨_, rfl⟩
        obtain ⟨e4, e5, e6⟩ := half_rest hY0'.out e3 bl0
        rw [hQ0, hR0] at e5
        rw [hQ0] at e4 s4
        rw [hR0] at e6
        obtain ⟨A4, A5, D5, g5, g6, g7, g8⟩ := half_left e5 (by omega)
        obtain ⟨fq, fr⟩ := halves E2.out e5 e6
        have hU := up_sum HC4.out HLE.out
        rw [hU, ← HY.out] at fq fr
        obtain ⟨dq1, dq2⟩ := down_quo (U := hi * 18446744073709551616 + lo) (y := d) (p := 2 ^ s) (Nat.pow_pos (by decide))
        rw [dq1] at fq
        have fq' : Q1 * 4294967296 + Q0 = Q := fq.trans HQ.out
        have fr' : R0 / 2 ^ s = R := by rw [fr, dq2]; exact HR.out
        have FQ := Lib.hid (show (Q1 : Int) * 4294967296 + (Q0 : Int) = (Q : Int) by omega)
        have FR := Lib.hid (show (R0 : Int) / 2 ^ s = (R : Int) by rw [← fr', Int.natCast_ediv, Int.natCast_pow]; rfl)
        obtain ⟨g0, hg0⟩ : ∃ g0, R1 / y1 = g0 := ⟨_, rfl⟩
        rw [hg0] at k1 k2 k3 s1 s2 s3 s4 s5
        obtain ⟨r0, hr0⟩ : ∃ r0, R1 - g0 * y1 = r0 := ⟨_, rfl⟩
        rw [hr0] at k3 s1 s3
        have S1 := Lib.hid s1
        have S4 := Lib.hid s4
        have S5 := Lib.hid s5
        have HQ0 := Lib.hid hQ0
        have G5 := Lib.hid g5
        have G6 := Lib.hid g6
        have G7 := Lib.hid g7
        have G8 := Lib.hid g8
        have hr0b : r0 < 4294967296 := by omega
        have hq1b : (Q1 : Int) ≤ 4294967295 := by omega
        have hq0b : (Q0 : Int) ≤ 4294967295 := by omega
        have hr1b : (R1 : Int) ≤ 18446744073709551615 := by omega
        clear s1 s2 s3 s4 s5 hQ0 hR0 e4 e5 e6 hg0 hr0 fq fr fq' fr' hU dq1 dq2 g5 g6 g7 g8
        go_wp2
        clear k1 k2 k3 g1 g2 g3 g4
        go_loop [18, 16] (fun qv rv => ∃ q r : Nat, qv = .int .u64 (q : Int) ∧ rv = .int .u64 (r : Int) ∧ q * y1 + r = R1 ∧ Q0 ≤ q ∧ q ≤ 4294967297 ∧ r < 4294967296) (fun qv _ => (intOf qv).toNat)
        case atStart => exact ⟨g0, r0, rfl, rfl, S1.out, S4.out, S5.out, hr0b⟩
        case round =>
          obtain ⟨q, r, rfl, rfl, hqr, hlo1, hq5, hr32⟩ := hrel
          have HQR := Lib.hid hqr
          have HLO := Lib.hid hlo1
          have hri : (r : Int) ≤ 4294967295 := by omega
          have hqi : (q : Int) ≤ 4294967297 := by omega
          have hy1i : (y1 : Int) ≤ 4294967295 := by omega
          have HR32 := Lib.hid hr32
          clear hqr hlo1 hq5 hr32
          rcases half_cases q r y0 l0 with h | h | h
          · -- the guess has more than a half
            obtain ⟨m1, m2, m3⟩ := half_more HYE.out HQR.out e3 bl0 (by rw [HQ0.out]; exact HLO.out) (.inl h)
            rw [HQ0.out] at m2
            obtain ⟨q', hq'⟩ : ∃ q', q - 1 = q' := ⟨_, rfl⟩
            rw [hq'] at m2 m3
            have hge : (4294967296 : Int) ≤ (q : Int) := by omega
            have M2 := Lib.hid m2
            have M3 := Lib.hid m3
            have hq1i : (q' : Int) ≤ 4294967296 := by omega
            have hq2 : (q : Int) - 1 = (q' : Int) := by omega
            have hmeas : q' < q := by omega
            clear m1 m2 m3 h hq'
            by_cases hov : 4294967296 ≤ r + y1
            · have hov' : (4294967296 : Int) ≤ (r : Int) + y1 := by omega
              obtain rfl : Q0 = q' := by rw [← HQ0.out]; exact Eq.symm <| half_done HYE.out hY0'.out M3.out (by rw [HQ0.out]; exact M2.out) (half_over HYE.out by0 M3.out e3 hov)
              go_wp2
              go_wp2
              go_ret2
              refine ⟨?_, 0, rfl⟩
              have h5 : (Q1 : Int) * 4294967296 + (Q0 : Int) = (Q : Int) := FQ.out
              have h6 : (R0 : Int) / 2 ^ s = (R : Int) := FR.out
              show Ending.returned (.tuple #[.int .u64 ((Q1 : Int) * 4294967296 + (Q0 : Int)), .int .u64 (IntKind.u64.wrap (IntKind.u64.wrap (IntKind.u64.wrap ((R1 : Int) * 4294967296) + (l0 : Int)) - IntKind.u64.wrap ((Q0 : Int) * (Y : Int))) / 2 ^ s)]) = _
              rw [G5.out, G6.out, G7.out, G8.out, h5, h6]
            · have hov' : ¬ (4294967296 : Int) ≤ (r : Int) + y1 := by omega
              go_wp2
              go_round
              case rel => exact ⟨q', r + y1, by go_num, by go_num, M3.out, M2.out, by omega, by omega⟩
              case measure => simp [intOf]; omega
          · -- the guess is too great
            obtain ⟨m, t, t1, t2, t3, t4⟩ := half_test q r y0 l0 h.1 HR32.out by0 bl0
            obtain ⟨td, htd⟩ : ∃ td, 4294967296 * r + l0 = td := ⟨_, rfl⟩
            rw [htd] at t3
            have hlt : (td : Int) < (m : Int) := by have := h.2; omega
            have hlt2 : ¬ (4294967296 : Int) ≤ (q : Int) := by have := h.1; omega
            clear htd t4
            obtain ⟨m1, m2, m3⟩ := half_more HYE.out HQR.out e3 bl0 (by rw [HQ0.out]; exact HLO.out) (.inr h.2)
            rw [HQ0.out] at m2
            obtain ⟨q', hq'⟩ : ∃ q', q - 1 = q' := ⟨_, rfl⟩
            rw [hq'] at m2 m3
            have M2 := Lib.hid m2
            have M3 := Lib.hid m3
            have hq1i : (q' : Int) ≤ 4294967296 := by omega
            have hq2 : (q : Int) - 1 = (q' : Int) := by omega
            have hmeas : q' < q := by omega
            clear m1 m2 m3 h hq'
            by_cases hov : 4294967296 ≤ r + y1
            · have hov' : (4294967296 : Int) ≤ (r : Int) + y1 := by omega
              obtain rfl : Q0 = q' := by rw [← HQ0.out]; exact Eq.symm <| half_done HYE.out hY0'.out M3.out (by rw [HQ0.out]; exact M2.out) (half_over HYE.out by0 M3.out e3 hov)
              go_wp2
              go_wp2
              go_ret2
              refine ⟨?_, 0, rfl⟩
              have h5 : (Q1 : Int) * 4294967296 + (Q0 : Int) = (Q : Int) := FQ.out
              have h6 : (R0 : Int) / 2 ^ s = (R : Int) := FR.out
              show Ending.returned (.tuple #[.int .u64 ((Q1 : Int) * 4294967296 + (Q0 : Int)), .int .u64 (IntKind.u64.wrap (IntKind.u64.wrap (IntKind.u64.wrap ((R1 : Int) * 4294967296) + (l0 : Int)) - IntKind.u64.wrap ((Q0 : Int) * (Y : Int))) / 2 ^ s)]) = _
              rw [G5.out, G6.out, G7.out, G8.out, h5, h6]
            · have hov' : ¬ (4294967296 : Int) ≤ (r : Int) + y1 := by omega
              go_wp2
              go_round
              case rel => exact ⟨q', r + y1, by go_num, by go_num, M3.out, M2.out, by omega, by omega⟩
              case measure => simp [intOf]; omega
          · -- the guess is right
            obtain ⟨m, t, t1, t2, t3, t4⟩ := half_test q r y0 l0 h.1 HR32.out by0 bl0
            obtain ⟨td, htd⟩ : ∃ td, 4294967296 * r + l0 = td := ⟨_, rfl⟩
            rw [htd] at t3
            have hlt : ¬ (td : Int) < (m : Int) := by have := h.2; omega
            have hlt2 : ¬ (4294967296 : Int) ≤ (q : Int) := by have := h.1; omega
            obtain rfl : Q0 = q := by rw [← HQ0.out]; exact Eq.symm <| half_done HYE.out hY0'.out HQR.out (by rw [HQ0.out]; exact HLO.out) h.2
            clear htd t4 h
            go_wp2
            go_ret2
            refine ⟨?_, 0, rfl⟩
            have h5 : (Q1 : Int) * 4294967296 + (Q0 : Int) = (Q : Int) := FQ.out
            have h6 : (R0 : Int) / 2 ^ s = (R : Int) := FR.out
            show Ending.returned (.tuple #[.int .u64 ((Q1 : Int) * 4294967296 + (Q0 : Int)), .int .u64 (IntKind.u64.wrap (IntKind.u64.wrap (IntKind.u64.wrap ((R1 : Int) * 4294967296) + (l0 : Int)) - IntKind.u64.wrap ((Q0 : Int) * (Y : Int))) / 2 ^ s)]) = _
            rw [G5.out, G6.out, G7.out, G8.out, h5, h6]
      · have hov' : ¬ (4294967296 : Int) ≤ (r : Int) + y1 := by omega
        go_wp2
        go_round
        case rel => exact ⟨q', r + y1, by go_num, by go_num, M3.out, M2.out, by omega, by omega⟩
        case measure => simp [intOf]; omega
    · -- the guess is too great
      obtain ⟨m, t, t1, t2, t3, t4⟩ := half_test q r y0 l1 h.1 HR32.out by0 bl1
      obtain ⟨td, htd⟩ : ∃ td, 4294967296 * r + l1 = td := ⟨_, rfl⟩
      rw [htd] at t3
      have hlt : (td : Int) < (m : Int) := by have := h.2; omega
      have hlt2 : ¬ (4294967296 : Int) ≤ (q : Int) := by have := h.1; omega
      clear htd t4
      obtain ⟨m1, m2, m3⟩ := half_more HYE.out HQR.out C3.out bl1 (by rw [HQ1.out]; exact HLO.out) (.inr h.2)
      rw [HQ1.out] at m2
      obtain ⟨q', hq'⟩ : ∃ q', q - 1 = q' := ⟨_, rfl⟩
      rw [hq'] at m2 m3
      have M2 := Lib.hid m2
      have M3 := Lib.hid m3
      have hq1i : (q' : Int) ≤ 4294967296 := by omega
      have hq2 : (q : Int) - 1 = (q' : Int) := by omega
      have hmeas : q' < q := by omega
      clear m1 m2 m3 h hq'
      by_cases hov : 4294967296 ≤ r + y1
      · have hov' : (4294967296 : Int) ≤ (r : Int) + y1 := by omega
        obtain rfl : Q1 = q' := by rw [← HQ1.out]; exact Eq.symm <| half_done HYE.out hY0'.out M3.out (by rw [HQ1.out]; exact M2.out) (half_over HYE.out by0 M3.out C3.out hov)
        have by1'' := by1
        obtain ⟨A, A2, D, g1, g2, g3, g4⟩ := half_left E2.out (by omega)
        obtain ⟨m0, k1, k2, k3⟩ := half_guess R1 y1 (by omega)
        obtain ⟨s1, s2, s3, s4, s5⟩ := half_start (d := l0) HYE.out by1 by0 bl0 e3
        obtain ⟨Q0, hQ0⟩ : ∃ Q0, (R1 * 4294967296 + l0) / Y = Q0 := ⟨_, rfl⟩
        obtain ⟨R0, hR0⟩ : ∃ R0, (R1 * 4294967296 + l0) % Y = R0 := ⟨_, rfl⟩
        obtain ⟨e4, e5, e6⟩ := half_rest hY0'.out e3 bl0
        rw [hQ0, hR0] at e5
        rw [hQ0] at e4 s4
        rw [hR0] at e6
        obtain ⟨A4, A5, D5, g5, g6, g7, g8⟩ := half_left e5 (by omega)
        obtain ⟨fq, fr⟩ := halves E2.out e5 e6
        have hU := up_sum HC4.out HLE.out
        rw [hU, ← HY.out] at fq fr
        obtain ⟨dq1, dq2⟩ := down_quo (U := hi * 18446744073709551616 + lo) (y := d) (p := 2 ^ s) (Nat.pow_pos (by decide))
        rw [dq1] at fq
        have fq' : Q1 * 4294967296 + Q0 = Q := fq.trans HQ.out
        have fr' : R0 / 2 ^ s = R := by rw [fr, dq2]; exact HR.out
        have FQ := Lib.hid (show (Q1 : Int) * 4294967296 + (Q0 : Int) = (Q : Int) by omega)
        have FR := Lib.hid (show (R0 : Int) / 2 ^ s = (R : Int) by rw [← fr', Int.natCast_ediv, Int.natCast_pow]; rfl)
        obtain ⟨g0, hg0⟩ : ∃ g0, R1 / y1 = g0 := ⟨_, rfl⟩
        rw [hg0] at k1 k2 k3 s1 s2 s3 s4 s5
        obtain ⟨r0, hr0⟩ : ∃ r0, R1 - g0 * y1 = r0 := ⟨_, rfl⟩
        rw [hr0] at k3 s1 s3
        have S1 := Lib.hid s1
        have S4 := Lib.hid s4
        have S5 := Lib.hid s5
        have HQ0 := Lib.hid hQ0
        have G5 := Lib.hid g5
        have G6 := Lib.hid g6
        have G7 := Lib.hid g7
        have G8 := Lib.hid g8
        have hr0b : r0 < 4294967296 := by omega
        have hq1b : (Q1 : Int) ≤ 4294967295 := by omega
        have hq0b : (Q0 : Int) ≤ 4294967295 := by omega
        have hr1b : (R1 : Int) ≤ 18446744073709551615 := by omega
        clear s1 s2 s3 s4 s5 hQ0 hR0 e4 e5 e6 hg0 hr0 fq fr fq' fr' hU dq1 dq2 g5 g6 g7 g8
        go_wp2
        clear k1 k2 k3 g1 g2 g3 g4
        go_loop [18, 16] (fun qv rv => ∃ q r : Nat, qv = .int .u64 (q : Int) ∧ rv = .int .u64 (r : Int) ∧ q * y1 + r = R1 ∧ Q0 ≤ q ∧ q ≤ 4294967297 ∧ r < 4294967296) (fun qv _ => (intOf qv).toNat)
        case atStart => exact ⟨g0, r0, rfl, rfl, S1.out, S4.out, S5.out, hr0b⟩
        case round =>
          obtain ⟨q, r, rfl, rfl, hqr, hlo1, hq5, hr32⟩ := hrel
          have HQR := Lib.hid hqr
          have HLO := Lib.hid hlo1
          have hri : (r : Int) ≤ 4294967295 := by omega
          have hqi : (q : Int) ≤ 4294967297 := by omega
          have hy1i : (y1 : Int) ≤ 4294967295 := by omega
          have HR32 := Lib.hid hr32
          clear hqr hlo1 hq5 hr32
          rcases half_cases q r y0 l0 with h | h | h
          · -- the guess has more than a half
            obtain ⟨m1, m2, m3⟩ := half_more HYE.out HQR.out e3 bl0 (by rw [HQ0.out]; exact HLO.out) (.inl h)
            rw [HQ0.out] at m2
            obtain ⟨q', hq'⟩ : ∃ q', q - 1 = q' := ⟨_, rfl⟩
            rw [hq'] at m2 m3
            have hge : (4294967296 : Int) ≤ (q : Int) := by omega
            have M2 := Lib.hid m2
            have M3 := Lib.hid m3
            have hq1i : (q' : Int) ≤ 4294967296 := by omega
            have hq2 : (q : Int) - 1 = (q' : Int) := by omega
            have hmeas : q' < q := by omega
            clear m1 m2 m3 h hq'
            by_cases hov : 4294967296 ≤ r + y1
            · have hov' : (4294967296 : Int) ≤ (r : Int) + y1 := by omega
              obtain rfl : Q0 = q' := by rw [← HQ0.out]; exact Eq.symm <| half_done HYE.out hY0'.out M3.out (by rw [HQ0.out]; exact M2.out) (half_over HYE.out by0 M3.out e3 hov)
              go_wp2
              go_wp2
              go_ret2
              refine ⟨?_, 0, rfl⟩
              have h5 : (Q1 : Int) * 4294967296 + (Q0 : Int) = (Q : Int) := FQ.out
              have h6 : (R0 : Int) / 2 ^ s = (R : Int) := FR.out
              show Ending.returned (.tuple #[.int .u64 ((Q1 : Int) * 4294967296 + (Q0 : Int)), .int .u64 (IntKind.u64.wrap (IntKind.u64.wrap (IntKind.u64.wrap ((R1 : Int) * 4294967296) + (l0 : Int)) - IntKind.u64.wrap ((Q0 : Int) * (Y : Int))) / 2 ^ s)]) = _
              rw [G5.out, G6.out, G7.out, G8.out, h5, h6]
            · have hov' : ¬ (4294967296 : Int) ≤ (r : Int) + y1 := by omega
              go_wp2
              go_round
              case rel => exact ⟨q', r + y1, by go_num, by go_num, M3.out, M2.out, by omega, by omega⟩
              case measure => simp [intOf]; omega
          · -- the guess is too great
            obtain ⟨m, t, t1, t2, t3, t4⟩ := half_test q r y0 l0 h.1 HR32.out by0 bl0
            obtain ⟨td, htd⟩ : ∃ td, 4294967296 * r + l0 = td := ⟨_, rfl⟩
            rw [htd] at t3
            have hlt : (td : Int) < (m : Int) := by have := h.2; omega
            have hlt2 : ¬ (4294967296 : Int) ≤ (q : Int) := by have := h.1; omega
            clear htd t4
            obtain ⟨m1, m2, m3⟩ := half_more HYE.out HQR.out e3 bl0 (by rw [HQ0.out]; exact HLO.out) (.inr h.2)
            rw [HQ0.out] at m2
            obtain ⟨q', hq'⟩ : ∃ q', q - 1 = q' := ⟨_, rfl⟩
            rw [hq'] at m2 m3
            have M2 := Lib.hid m2
            have M3 := Lib.hid m3
            have hq1i : (q' : Int) ≤ 4294967296 := by omega
            have hq2 : (q : Int) - 1 = (q' : Int) := by omega
            have hmeas : q' < q := by omega
            clear m1 m2 m3 h hq'
            by_cases hov : 4294967296 ≤ r + y1
            · have hov' : (4294967296 : Int) ≤ (r : Int) + y1 := by omega
              obtain rfl : Q0 = q' := by rw [← HQ0.out]; exact Eq.symm <| half_done HYE.out hY0'.out M3.out (by rw [HQ0.out]; exact M2.out) (half_over HYE.out by0 M3.out e3 hov)
              go_wp2
              go_wp2
              go_ret2
              refine ⟨?_, 0, rfl⟩
              have h5 : (Q1 : Int) * 4294967296 + (Q0 : Int) = (Q : Int) := FQ.out
              have h6 : (R0 : Int) / 2 ^ s = (R : Int) := FR.out
              show Ending.returned (.tuple #[.int .u64 ((Q1 : Int) * 4294967296 + (Q0 : Int)), .int .u64 (IntKind.u64.wrap (IntKind.u64.wrap (IntKind.u64.wrap ((R1 : Int) * 4294967296) + (l0 : Int)) - IntKind.u64.wrap ((Q0 : Int) * (Y : Int))) / 2 ^ s)]) = _
              rw [G5.out, G6.out, G7.out, G8.out, h5, h6]
            · have hov' : ¬ (4294967296 : Int) ≤ (r : Int) + y1 := by omega
              go_wp2
              go_round
              case rel => exact ⟨q', r + y1, by go_num, by go_num, M3.out, M2.out, by omega, by omega⟩
              case measure => simp [intOf]; omega
          · -- the guess is right
            obtain ⟨m, t, t1, t2, t3, t4⟩ := half_test q r y0 l0 h.1 HR32.out by0 bl0
            obtain ⟨td, htd⟩ : ∃ td, 4294967296 * r + l0 = td := ⟨_, rfl⟩
            rw [htd] at t3
            have hlt : ¬ (td : Int) < (m : Int) := by have := h.2; omega
            have hlt2 : ¬ (4294967296 : Int) ≤ (q : Int) := by have := h.1; omega
            obtain rfl : Q0 = q := by rw [← HQ0.out]; exact Eq.symm <| half_done HYE.out hY0'.out HQR.out (by rw [HQ0.out]; exact HLO.out) h.2
            clear htd t4 h
            go_wp2
            go_ret2
            refine ⟨?_, 0, rfl⟩
            have h5 : (Q1 : Int) * 4294967296 + (Q0 : Int) = (Q : Int) := FQ.out
            have h6 : (R0 : Int) / 2 ^ s = (R : Int) := FR.out
            show Ending.returned (.tuple #[.int .u64 ((Q1 : Int) * 4294967296 + (Q0 : Int)), .int .u64 (IntKind.u64.wrap (IntKind.u64.wrap (IntKind.u64.wrap ((R1 : Int) * 4294967296) + (l0 : Int)) - IntKind.u64.wrap ((Q0 : Int) * (Y : Int))) / 2 ^ s)]) = _
            rw [G5.out, G6.out, G7.out, G8.out, h5, h6]
      · have hov' : ¬ (4294967296 : Int) ≤ (r : Int) + y1 := by omega
        go_wp2
        go_round
        case rel => exact ⟨q', r + y1, by go_num, by go_num, M3.out, M2.out, by omega, by omega⟩
        case measure => simp [intOf]; omega
    · -- the guess is right
      obtain ⟨m, t, t1, t2, t3, t4⟩ := half_test q r y0 l1 h.1 HR32.out by0 bl1
      obtain ⟨td, htd⟩ : ∃ td, 4294967296 * r + l1 = td := ⟨_, rfl⟩
      rw [htd] at t3
      have hlt : ¬ (td : Int) < (m : Int) := by have := h.2; omega
      have hlt2 : ¬ (4294967296 : Int) ≤ (q : Int) := by have := h.1; omega
      obtain rfl : Q1 = q := by rw [← HQ1.out]; exact Eq.symm <| half_done HYE.out hY0'.out HQR.out (by rw [HQ1.out]; exact HLO.out) h.2
      clear htd t4 h
      have by1'' := by1
      obtain ⟨A, A2, D, g1, g2, g3, g4⟩ := half_left E2.out (by omega)
      obtain ⟨m0, k1, k2, k3⟩ := half_guess R1 y1 (by omega)
      obtain ⟨s1, s2, s3, s4, s5⟩ := half_start (d := l0) HYE.out by1 by0 bl0 e3
      obtain ⟨Q0, hQ0⟩ : ∃ Q0, (R1 * 4294967296 + l0) / Y = Q0 := ⟨_, rfl⟩
      obtain ⟨R0, hR0⟩ : ∃ R0, (R1 * 4294967296 + l0) % Y = R0 := ⟨_, rfl⟩
      obtain ⟨e4, e5, e6⟩ := half_rest hY0'.out e3 bl0
      rw [hQ0, hR0] at e5
      rw [hQ0] at e4 s4
      rw [hR0] at e6
      obtain ⟨A4, A5, D5, g5, g6, g7, g8⟩ := half_left e5 (by omega)
      obtain ⟨fq, fr⟩ := halves E2.out e5 e6
      have hU := up_sum HC4.out HLE.out
      rw [hU, ← HY.out] at fq fr
      obtain ⟨dq1, dq2⟩ := down_quo (U := hi * 18446744073709551616 + lo) (y := d) (p := 2 ^ s) (Nat.pow_pos (by decide))
      rw [dq1] at fq
      have fq' : Q1 * 4294967296 + Q0 = Q := fq.trans HQ.out
      have fr' : R0 / 2 ^ s = R := by rw [fr, dq2]; exact HR.out
      have FQ := Lib.hid (show (Q1 : Int) * 4294967296 + (Q0 : Int) = (Q : Int) by omega)
      have FR := Lib.hid (show (R0 : Int) / 2 ^ s = (R : Int) by rw [← fr', Int.natCast_ediv, Int.natCast_pow]; rfl)
      obtain ⟨g0, hg0⟩ : ∃ g0, R1 / y1 = g0 := ⟨_, rfl⟩
      rw [hg0] at k1 k2 k3 s1 s2 s3 s4 s5
      obtain ⟨r0, hr0⟩ : ∃ r0, R1 - g0 * y1 = r0 := ⟨_, rfl⟩
      rw [hr0] at k3 s1 s3
      have S1 := Lib.hid s1
      have S4 := Lib.hid s4
      have S5 := Lib.hid s5
      have HQ0 := Lib.hid hQ0
      have G5 := Lib.hid g5
      have G6 := Lib.hid g6
      have G7 := Lib.hid g7
      have G8 := Lib.hid g8
      have hr0b : r0 < 4294967296 := by omega
      have hq1b : (Q1 : Int) ≤ 4294967295 := by omega
      have hq0b : (Q0 : Int) ≤ 4294967295 := by omega
      have hr1b : (R1 : Int) ≤ 18446744073709551615 := by omega
      clear s1 s2 s3 s4 s5 hQ0 hR0 e4 e5 e6 hg0 hr0 fq fr fq' fr' hU dq1 dq2 g5 g6 g7 g8
      go_wp2
      clear k1 k2 k3 g1 g2 g3 g4
      go_loop [18, 16] (fun qv rv => ∃ q r : Nat, qv = .int .u64 (q : Int) ∧ rv = .int .u64 (r : Int) ∧ q * y1 + r = R1 ∧ Q0 ≤ q ∧ q ≤ 4294967297 ∧ r < 4294967296) (fun qv _ => (intOf qv).toNat)
      case atStart => exact ⟨g0, r0, rfl, rfl, S1.out, S4.out, S5.out, hr0b⟩
      case round =>
        obtain ⟨q, r, rfl, rfl, hqr, hlo1, hq5, hr32⟩ := hrel
        have HQR := Lib.hid hqr
        have HLO := Lib.hid hlo1
        have hri : (r : Int) ≤ 4294967295 := by omega
        have hqi : (q : Int) ≤ 4294967297 := by omega
        have hy1i : (y1 : Int) ≤ 4294967295 := by omega
        have HR32 := Lib.hid hr32
        clear hqr hlo1 hq5 hr32
        rcases half_cases q r y0 l0 with h | h | h
        · -- the guess has more than a half
          obtain ⟨m1, m2, m3⟩ := half_more HYE.out HQR.out e3 bl0 (by rw [HQ0.out]; exact HLO.out) (.inl h)
          rw [HQ0.out] at m2
          obtain ⟨q', hq'⟩ : ∃ q', q - 1 = q' := ⟨_, rfl⟩
          rw [hq'] at m2 m3
          have hge : (4294967296 : Int) ≤ (q : Int) := by omega
          have M2 := Lib.hid m2
          have M3 := Lib.hid m3
          have hq1i : (q' : Int) ≤ 4294967296 := by omega
          have hq2 : (q : Int) - 1 = (q' : Int) := by omega
          have hmeas : q' < q := by omega
          clear m1 m2 m3 h hq'
          by_cases hov : 4294967296 ≤ r + y1
          · have hov' : (4294967296 : Int) ≤ (r : Int) + y1 := by omega
            obtain rfl : Q0 = q' := by rw [← HQ0.out]; exact Eq.symm <| half_done HYE.out hY0'.out M3.out (by rw [HQ0.out]; exact M2.out) (half_over HYE.out by0 M3.out e3 hov)
            go_wp2
            go_wp2
            go_ret2
            refine ⟨?_, 0, rfl⟩
            have h5 : (Q1 : Int) * 4294967296 + (Q0 : Int) = (Q : Int) := FQ.out
            have h6 : (R0 : Int) / 2 ^ s = (R : Int) := FR.out
            show Ending.returned (.tuple #[.int .u64 ((Q1 : Int) * 4294967296 + (Q0 : Int)), .int .u64 (IntKind.u64.wrap (IntKind.u64.wrap (IntKind.u64.wrap ((R1 : Int) * 4294967296) + (l0 : Int)) - IntKind.u64.wrap ((Q0 : Int) * (Y : Int))) / 2 ^ s)]) = _
            rw [G5.out, G6.out, G7.out, G8.out, h5, h6]
          · have hov' : ¬ (4294967296 : Int) ≤ (r : Int) + y1 := by omega
            go_wp2
            go_round
            case rel => exact ⟨q', r + y1, by go_num, by go_num, M3.out, M2.out, by omega, by omega⟩
            case measure => simp [intOf]; omega
        · -- the guess is too great
          obtain ⟨m, t, t1, t2, t3, t4⟩ := half_test q r y0 l0 h.1 HR32.out by0 bl0
          obtain ⟨td, htd⟩ : ∃ td, 4294967296 * r + l0 = td := ⟨_, rfl⟩
          rw [htd] at t3
          have hlt : (td : Int) < (m : Int) := by have := h.2; omega
          have hlt2 : ¬ (4294967296 : Int) ≤ (q : Int) := by have := h.1; omega
          clear htd t4
          obtain ⟨m1, m2, m3⟩ := half_more HYE.out HQR.out e3 bl0 (by rw [HQ0.out]; exact HLO.out) (.inr h.2)
          rw [HQ0.out] at m2
          obtain ⟨q', hq'⟩ : ∃ q', q - 1 = q' := ⟨_, rfl⟩
          rw [hq'] at m2 m3
          have M2 := Lib.hid m2
          have M3 := Lib.hid m3
          have hq1i : (q' : Int) ≤ 4294967296 := by omega
          have hq2 : (q : Int) - 1 = (q' : Int) := by omega
          have hmeas : q' < q := by omega
          clear m1 m2 m3 h hq'
          by_cases hov : 4294967296 ≤ r + y1
          · have hov' : (4294967296 : Int) ≤ (r : Int) + y1 := by omega
            obtain rfl : Q0 = q' := by rw [← HQ0.out]; exact Eq.symm <| half_done HYE.out hY0'.out M3.out (by rw [HQ0.out]; exact M2.out) (half_over HYE.out by0 M3.out e3 hov)
            go_wp2
            go_wp2
            go_ret2
            refine ⟨?_, 0, rfl⟩
            have h5 : (Q1 : Int) * 4294967296 + (Q0 : Int) = (Q : Int) := FQ.out
            have h6 : (R0 : Int) / 2 ^ s = (R : Int) := FR.out
            show Ending.returned (.tuple #[.int .u64 ((Q1 : Int) * 4294967296 + (Q0 : Int)), .int .u64 (IntKind.u64.wrap (IntKind.u64.wrap (IntKind.u64.wrap ((R1 : Int) * 4294967296) + (l0 : Int)) - IntKind.u64.wrap ((Q0 : Int) * (Y : Int))) / 2 ^ s)]) = _
            rw [G5.out, G6.out, G7.out, G8.out, h5, h6]
          · have hov' : ¬ (4294967296 : Int) ≤ (r : Int) + y1 := by omega
            go_wp2
            go_round
            case rel => exact ⟨q', r + y1, by go_num, by go_num, M3.out, M2.out, by omega, by omega⟩
            case measure => simp [intOf]; omega
        · -- the guess is right
          obtain ⟨m, t, t1, t2, t3, t4⟩ := half_test q r y0 l0 h.1 HR32.out by0 bl0
          obtain ⟨td, htd⟩ : ∃ td, 4294967296 * r + l0 = td := ⟨_, rfl⟩
          rw [htd] at t3
          have hlt : ¬ (td : Int) < (m : Int) := by have := h.2; omega
          have hlt2 : ¬ (4294967296 : Int) ≤ (q : Int) := by have := h.1; omega
          obtain rfl : Q0 = q := by rw [← HQ0.out]; exact Eq.symm <| half_done HYE.out hY0'.out HQR.out (by rw [HQ0.out]; exact HLO.out) h.2
          clear htd t4 h
          go_wp2
          go_ret2
          refine ⟨?_, 0, rfl⟩
          have h5 : (Q1 : Int) * 4294967296 + (Q0 : Int) = (Q : Int) := FQ.out
          have h6 : (R0 : Int) / 2 ^ s = (R : Int) := FR.out
          show Ending.returned (.tuple #[.int .u64 ((Q1 : Int) * 4294967296 + (Q0 : Int)), .int .u64 (IntKind.u64.wrap (IntKind.u64.wrap (IntKind.u64.wrap ((R1 : Int) * 4294967296) + (l0 : Int)) - IntKind.u64.wrap ((Q0 : Int) * (Y : Int))) / 2 ^ s)]) = _
          rw [G5.out, G6.out, G7.out, G8.out, h5, h6]
end Go.Proofs.Ytfiakaenenbhpaa
