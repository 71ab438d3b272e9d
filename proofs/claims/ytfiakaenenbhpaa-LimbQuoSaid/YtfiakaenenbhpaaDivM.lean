/- Numbers for the quotient of two words by one, and for a digit of the long division. -/
import Derived.Test.YtfiakaenenbhpaaMathB
namespace Go.Proofs.Ytfiakaenenbhpaa

theorem half_eq {Y y1 y0 u q r : Nat} (hY : Y = y1 * 4294967296 + y0) (hqr : q * y1 + r = u) : q * Y + 4294967296 * r = u * 4294967296 + q * y0 := by
  subst hY
  rw [← hqr, Nat.mul_add, Nat.add_mul, ← Nat.mul_assoc]
  omega
/-- the first guess -/
theorem half_start {Y y1 y0 u d : Nat} (hY : Y = y1 * 4294967296 + y0) (h1 : 2147483648 ≤ y1) (h0 : y0 < 4294967296) (hd : d < 4294967296) (hu : u < Y) :
    (u / y1) * y1 + (u - u / y1 * y1) = u ∧ u / y1 * y1 ≤ u ∧ u - u / y1 * y1 < y1 ∧ (u * 4294967296 + d) / Y ≤ u / y1 ∧ u / y1 ≤ 4294967297 := by
  have hdm := Nat.div_add_mod u y1
  have hml := Nat.mod_lt u (show 0 < y1 by omega)
  rw [Nat.mul_comm] at hdm
  obtain ⟨q, hq⟩ : ∃ q, u / y1 = q := ⟨_, rfl⟩
  rw [hq] at hdm ⊢
  refine ⟨by omega, by omega, by omega, ?_, ?_⟩
  · refine Nat.le_of_lt_succ (Nat.div_lt_of_lt_mul ?_)
    have h2 : (q + 1) * y1 = q * y1 + y1 := by rw [Nat.add_mul, Nat.one_mul]
    have h3 : Y * (q + 1) = (q + 1) * y1 * 4294967296 + y0 * (q + 1) := by rw [hY, Nat.add_mul, Nat.mul_comm (q + 1) y1, Nat.mul_right_comm]
    rw [h3, h2]
    omega
  · apply Classical.byContradiction
    intro h
    have h2 : 4294967298 * y1 ≤ q * y1 := Nat.mul_le_mul_right _ (by omega)
    omega
/-- the guess is too great -/
theorem half_more {Y y1 y0 u d q r : Nat} (hY : Y = y1 * 4294967296 + y0) (hqr : q * y1 + r = u) (hu : u < Y) (hd : d < 4294967296) (hlo : (u * 4294967296 + d) / Y ≤ q)
    (h : 4294967296 ≤ q ∨ 4294967296 * r + d < q * y0) : 0 < q ∧ (u * 4294967296 + d) / Y ≤ q - 1 ∧ (q - 1) * y1 + (r + y1) = u := by
  have he := half_eq hY hqr
  have hq0 : 0 < q := by
    rcases h with h | h
    · omega
    · rcases Nat.eq_zero_or_pos q with h' | h'
      · rw [h'] at h; omega
      · exact h'
  obtain ⟨p, rfl⟩ : ∃ p, q = p + 1 := ⟨q - 1, by omega⟩
  refine ⟨by omega, ?_, ?_⟩
  · rw [Nat.add_sub_cancel]
    refine Nat.le_of_lt_succ (Nat.div_lt_of_lt_mul ?_)
    rcases h with h | h
    · have h2 : Y * 4294967296 ≤ Y * (p + 1) := Nat.mul_le_mul_left _ h
      show u * 4294967296 + d < Y * (p + 1)
      omega
    · show u * 4294967296 + d < Y * (p + 1)
      rw [Nat.mul_comm Y]
      omega
  · rw [Nat.add_mul, Nat.one_mul] at hqr
    rw [Nat.add_sub_cancel]
    omega
/-- .. and is right where the loop ends -/
theorem half_done {Y y1 y0 u d q r : Nat} (hY : Y = y1 * 4294967296 + y0) (hy : 0 < Y) (hqr : q * y1 + r = u) (hlo : (u * 4294967296 + d) / Y ≤ q)
    (h : q * y0 ≤ 4294967296 * r + d) : q = (u * 4294967296 + d) / Y := by
  have he := half_eq hY hqr
  refine Nat.le_antisymm ?_ hlo
  exact (Nat.le_div_iff_mul_le hy).2 (by omega)
/-- .. also where the rest has grown too long -/
theorem half_over {Y y1 y0 u d q r : Nat} (hY : Y = y1 * 4294967296 + y0) (h0 : y0 < 4294967296) (hqr : q * y1 + r = u) (hu : u < Y) (hr : 4294967296 ≤ r) : q * y0 ≤ 4294967296 * r + d := by
  have hq : q < 4294967296 := by
    apply Classical.byContradiction
    intro h
    have h2 : 4294967296 * y1 ≤ q * y1 := Nat.mul_le_mul_right _ (by omega)
    omega
  have h2 := mul_le32 hq h0
  omega
theorem half_rest {Y u d : Nat} (hy : 0 < Y) (hu : u < Y) (hd : d < 4294967296) : (u * 4294967296 + d) / Y < 4294967296 ∧ (u * 4294967296 + d) / Y * Y + (u * 4294967296 + d) % Y = u * 4294967296 + d ∧ (u * 4294967296 + d) % Y < Y := by
  refine ⟨Nat.div_lt_of_lt_mul ?_, ?_, Nat.mod_lt _ hy⟩
  · have h2 : (u + 1) * 4294967296 ≤ Y * 4294967296 := Nat.mul_le_mul_right _ hu
    omega
  · rw [Nat.mul_comm]; exact Nat.div_add_mod _ _
/-- both halves -/
theorem halves {Y u d1 d0 q1 r1 q0 r0 : Nat} (h1 : q1 * Y + r1 = u * 4294967296 + d1) (h0 : q0 * Y + r0 = r1 * 4294967296 + d0) (hr : r0 < Y) :
    q1 * 4294967296 + q0 = (u * 18446744073709551616 + d1 * 4294967296 + d0) / Y ∧ r0 = (u * 18446744073709551616 + d1 * 4294967296 + d0) % Y := by
  have e : u * 18446744073709551616 + d1 * 4294967296 + d0 = r0 + Y * (q1 * 4294967296 + q0) := by
    rw [Nat.mul_add, Nat.mul_comm Y q0, ← Nat.mul_assoc, Nat.mul_comm Y q1]
    omega
  refine ⟨?_, ?_⟩
  · rw [e, Nat.add_mul_div_left _ _ (by omega), Nat.div_eq_of_lt hr, Nat.zero_add]
  · rw [e, Nat.add_mul_mod_self_left, Nat.mod_eq_of_lt hr]
/-- the words moved up -/
theorem up_words {hi lo y s : Nat} (hs : s < 64) (hh : hi < y) (hlo : lo < 18446744073709551616) (hy : y * 2 ^ s < 18446744073709551616) :
    hi * 2 ^ s < 18446744073709551616 ∧ (hi * 2 ^ s ||| lo / 2 ^ (64 - s)) = hi * 2 ^ s + lo / 2 ^ (64 - s) ∧ hi * 2 ^ s + lo / 2 ^ (64 - s) < y * 2 ^ s ∧
      (hi * 2 ^ s + lo / 2 ^ (64 - s)) * 18446744073709551616 + lo * 2 ^ s % 18446744073709551616 = (hi * 18446744073709551616 + lo) * 2 ^ s := by
  have e64 : 18446744073709551616 = 2 ^ s * 2 ^ (64 - s) := by rw [← Nat.pow_add, show s + (64 - s) = 64 by omega]
  have hp : 0 < 2 ^ s := Nat.pow_pos (by decide)
  have hup : lo / 2 ^ (64 - s) < 2 ^ s := by
    refine Nat.div_lt_of_lt_mul ?_
    rw [← Nat.pow_add, show 64 - s + s = 64 by omega]
    exact hlo
  have hq : lo * 2 ^ s / 18446744073709551616 = lo / 2 ^ (64 - s) := by
    rw [e64, Nat.mul_comm lo, Nat.mul_div_mul_left _ _ hp]
  have h1 : (hi + 1) * 2 ^ s ≤ y * 2 ^ s := Nat.mul_le_mul_right _ hh
  rw [Nat.add_mul, Nat.one_mul] at h1
  refine ⟨by omega, ?_, by omega, ?_⟩
  · rw [Nat.mul_comm hi, ← Nat.two_pow_add_eq_or_of_lt hup]
  · have h2 := Nat.div_add_mod (lo * 2 ^ s) 18446744073709551616
    rw [hq] at h2
    rw [Nat.add_mul (hi * 18446744073709551616), Nat.mul_right_comm hi]
    omega
theorem down_quo {U y p : Nat} (hp : 0 < p) : U * p / (y * p) = U / y ∧ U * p % (y * p) / p = U % y := by
  refine ⟨Nat.mul_div_mul_right _ _ hp, ?_⟩
  rw [Nat.mul_mod_mul_right, Nat.mul_div_cancel _ hp]

/-! a digit of the long division: B the base, v the divisor, its two greatest digits v1, v0; u the number, its three greatest u2, u1, u0; P the weight of v0 -/
/-- the guess is too great -/
theorem dig_more {B P v v1 v0 vr u u2 u1 u0 ur q r : Nat} (hv : v = (v1 * B + v0) * P + vr) (hu : u = ((u2 * B + u1) * B + u0) * P + ur) (hur : ur < P) (hqr : q * v1 + r = u2 * B + u1)
    (h : r * B + u0 < q * v0) : 0 < q ∧ u / v ≤ q - 1 := by
  have hq0 : 0 < q := by
    rcases Nat.eq_zero_or_pos q with h' | h'
    · rw [h'] at h; omega
    · exact h'
  obtain ⟨p, rfl⟩ : ∃ p, q = p + 1 := ⟨q - 1, by omega⟩
  refine ⟨hq0, ?_⟩
  rw [Nat.add_sub_cancel]
  refine Nat.le_of_lt_succ (Nat.div_lt_of_lt_mul ?_)
  show u < v * (p + 1)
  have h1 : (u2 * B + u1) * B + u0 + 1 ≤ (p + 1) * (v1 * B + v0) := by
    rw [← hqr, Nat.mul_add, Nat.add_mul, ← Nat.mul_assoc]
    omega
  have h2 := Nat.mul_le_mul_right P h1
  rw [Nat.add_mul, Nat.one_mul, Nat.mul_assoc] at h2
  have h3 : v * (p + 1) = (p + 1) * ((v1 * B + v0) * P) + vr * (p + 1) := by rw [hv, Nat.add_mul, Nat.mul_comm (p + 1)]
  have h4 := Nat.zero_le (vr * (p + 1))
  omega
/-- .. and at most one too great where the loop ends -/
theorem dig_done {B P v v1 v0 vr u u2 u1 u0 ur q r : Nat} (hv : v = (v1 * B + v0) * P + vr) (hvr : vr < P) (hu : u = ((u2 * B + u1) * B + u0) * P + ur) (hqr : q * v1 + r = u2 * B + u1) (hqB : q ≤ B) (hv1 : 0 < v1)
    (h : q * v0 ≤ r * B + u0) : q ≤ u / v + 1 := by
  have h1 : q * (v1 * B + v0) ≤ (u2 * B + u1) * B + u0 := by
    rw [← hqr, Nat.mul_add, Nat.add_mul, ← Nat.mul_assoc]
    omega
  have h2 := Nat.mul_le_mul_right P h1
  have h3 : q * v ≤ u + B * P := by
    rw [hv, Nat.mul_add, ← Nat.mul_assoc]
    have h4 : q * vr ≤ B * P := Nat.mul_le_mul hqB (Nat.le_of_lt hvr)
    omega
  have h5 : B * P ≤ v := by
    have h6 : 1 * (B * P) ≤ v1 * (B * P) := Nat.mul_le_mul_right _ hv1
    rw [hv, Nat.add_mul, Nat.mul_assoc]
    omega
  rcases Nat.eq_zero_or_pos v with h0 | h0
  · subst h0
    have : B * P = 0 := by omega
    rcases Nat.mul_eq_zero.1 this with h' | h'
    · have : q = 0 := by omega
      rw [this]; exact Nat.zero_le _
    · omega
  · rcases Nat.eq_zero_or_pos q with h' | h'
    · rw [h']; exact Nat.zero_le _
    · obtain ⟨p, rfl⟩ : ∃ p, q = p + 1 := ⟨q - 1, by omega⟩
      refine Nat.succ_le_succ ((Nat.le_div_iff_mul_le h0).2 ?_)
      rw [Nat.add_mul, Nat.one_mul] at h3
      omega
/-- both greatest digits are equal: no digit is greater than B - 1, and the quotient is not below B - 2 -/
theorem dig_top {B P v v1 vr u u2 ur : Nat} (hv : v = v1 * P + vr) (hvr : vr < P) (hu : u = u2 * (B * P) + ur) (h2 : v1 ≤ u2) (hB : B ≤ 2 * v1 + 2) (huv : u < v * B) (hB0 : 2 ≤ B) : u / v ≤ B - 1 ∧ B - 1 ≤ u / v + 1 := by
  have hv0 : 0 < v := by
    rcases Nat.eq_zero_or_pos v with h' | h'
    · rw [h'] at huv; omega
    · exact h'
  refine ⟨?_, ?_⟩
  · have : u / v < B := Nat.div_lt_of_lt_mul huv
    omega
  · obtain ⟨b, rfl⟩ : ∃ b, B = b + 2 := ⟨B - 2, by omega⟩
    show b + 1 ≤ u / v + 1
    refine Nat.succ_le_succ ((Nat.le_div_iff_mul_le hv0).2 ?_)
    have h3 : v ≤ (v1 + 1) * P := by rw [hv, Nat.add_mul, Nat.one_mul]; omega
    have h4 := Nat.mul_le_mul_left b h3
    have h5 : b * (v1 + 1) ≤ v1 * (b + 2) := by
      rw [Nat.mul_add, Nat.mul_add, Nat.mul_comm b v1]; omega
    have h6 := Nat.mul_le_mul_right P h5
    have h7 : v1 * (b + 2) * P ≤ u2 * ((b + 2) * P) := by rw [Nat.mul_assoc]; exact Nat.mul_le_mul_right _ h2
    rw [Nat.mul_assoc] at h6
    omega
/-- the first guess -/
theorem dig_start {P v v1 vr u t ur : Nat} (hv : v = v1 * P + vr) (hu : u = t * P + ur) (hur : ur < P) (hv1 : 0 < v1) : u / v ≤ t / v1 := by
  refine Nat.le_of_lt_succ (Nat.div_lt_of_lt_mul ?_)
  show u < v * (t / v1 + 1)
  have h1 := Nat.div_add_mod t v1
  have h2 := Nat.mod_lt t hv1
  have h3 : t + 1 ≤ v1 * (t / v1 + 1) := by rw [Nat.mul_add]; omega
  have h4 := Nat.mul_le_mul_right P h3
  rw [Nat.add_mul, Nat.one_mul] at h4
  have h5 : v * (t / v1 + 1) = v1 * (t / v1 + 1) * P + vr * (t / v1 + 1) := by rw [hv, Nat.add_mul, Nat.mul_right_comm]
  omega
end Go.Proofs.Ytfiakaenenbhpaa
