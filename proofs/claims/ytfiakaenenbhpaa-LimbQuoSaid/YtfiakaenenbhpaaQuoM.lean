/- Long division by digits: numbers alone. -/
import Derived.Test.YtfiakaenenbhpaaRefK
namespace Go.Proofs.Ytfiakaenenbhpaa

theorem quo_win {B : Nat} {us : List Nat} {v k n1 : Nat} (hlen : k + n1 ≤ us.length) (h : V B us < v * B ^ (k + 1)) (hv : v * B ≤ B ^ n1) :
    V B us = V B (us.take k) + B ^ k * V B ((us.drop k).take n1) ∧ V B ((us.drop k).take n1) < v * B := by
  have h1 := V_split (B := B) us k
  rw [Nat.min_eq_left (by omega)] at h1
  have h2 := V_split (B := B) (us.drop k) n1
  rw [Nat.min_eq_left (by rw [List.length_drop]; omega)] at h2
  obtain ⟨W, hW⟩ : ∃ W, V B ((us.drop k).take n1) = W := ⟨_, rfl⟩
  obtain ⟨R, hR⟩ : ∃ R, V B ((us.drop k).drop n1) = R := ⟨_, rfl⟩
  obtain ⟨D, hD⟩ : ∃ D, V B (us.drop k) = D := ⟨_, rfl⟩
  rw [hD, hW, hR] at h2
  rw [hD] at h1
  rw [hW]
  have hD2 : D < v * B := by
    apply Classical.byContradiction
    intro hge
    have h3 := Nat.mul_le_mul_left (B ^ k) (Nat.le_of_not_lt hge)
    have e : B ^ k * (v * B) = v * B ^ (k + 1) := by rw [Nat.pow_succ, Nat.mul_left_comm]
    omega
  have hR0 : R = 0 := by
    apply Classical.byContradiction
    intro h0
    have h3 : B ^ n1 * 1 ≤ B ^ n1 * R := Nat.mul_le_mul_left _ (by omega)
    omega
  subst hR0
  rw [Nat.mul_zero, Nat.add_zero] at h2
  subst h2
  exact ⟨h1, hD2⟩

theorem quo_guess {B : Nat} {us vs : List Nat} {k p d1 d2 vt : Nat} (hd : Dg B us) (h1 : us[k + p]? = some d1) (h2 : us[k + p + 1]? = some d2) (hvt : vs[p]? = some vt) (hvt0 : 0 < vt) :
    V B ((us.drop k).take (p + 2)) / V B (vs.take (p + 1)) ≤ (d2 * B + d1) / vt := by
  have e1 : V B ((us.drop k).take (p + 2)) = V B ((us.drop k).take p) + B ^ p * (d2 * B + d1) := by
    rw [V_take_succ (x := d2) (by rw [List.getElem?_drop]; exact h2), V_take_succ (x := d1) (by rw [List.getElem?_drop]; exact h1), Nat.pow_succ, Nat.mul_add, Nat.mul_comm d2 B, Nat.mul_assoc]
    omega
  have hlo := V_lt ((us.drop k).take p) ((hd.drop k).take p)
  have hll : ((us.drop k).take p).length = p := by
    rw [List.length_take, List.length_drop]
    have := (List.getElem?_eq_some_iff.1 h1).1
    omega
  rw [hll] at hlo
  have hv : B ^ p * vt ≤ V B (vs.take (p + 1)) := by
    rw [V_take_succ hvt]; omega
  obtain ⟨T, hT⟩ : ∃ T, d2 * B + d1 = T := ⟨_, rfl⟩
  rw [hT] at e1 ⊢
  have hlt : V B ((us.drop k).take (p + 2)) < (T / vt + 1) * V B (vs.take (p + 1)) := by
    have h3 : T < (T / vt + 1) * vt := by
      have := Nat.div_add_mod T vt
      have := Nat.mod_lt T hvt0
      rw [Nat.add_mul, Nat.one_mul, Nat.mul_comm (T / vt)]
      omega
    have h4 := Nat.mul_le_mul_left (B ^ p) h3
    have h5 := Nat.mul_le_mul_left (T / vt + 1) hv
    have e2 : (T / vt + 1) * (B ^ p * vt) = B ^ p * ((T / vt + 1) * vt) := Nat.mul_left_comm _ _ _
    rw [Nat.mul_succ] at h4
    omega
  exact Nat.le_of_lt_succ (Nat.div_lt_of_lt_mul (by rw [Nat.mul_comm]; exact hlt))

/-- one digit of the quotient more -/
theorem quo_step {B : Nat} {us zs qs us2 : List Nat} {U v k g n1 : Nat} (hlen : k + n1 ≤ us.length) (hk : k < qs.length) (hd : Dg B us)
    (hwin : V B us = V B (us.take k) + B ^ k * V B ((us.drop k).take n1)) (hz : V B zs + g * v = V B ((us.drop k).take n1)) (hzv : V B zs < v) (hsp : V B us2 + B ^ k * (g * v) = V B us)
    (hv : V B us + V B (qs.drop (k + 1)) * B ^ (k + 1) * v = U) :
    V B us2 + V B ((qs.set k g).drop k) * B ^ k * v = U ∧ V B us2 < v * B ^ k := by
  have e1 : (qs.set k g).drop k = g :: qs.drop (k + 1) := by
    rw [List.drop_eq_getElem_cons (l := qs.set k g) (i := k) (by rw [List.length_set]; exact hk), List.drop_set_of_lt (by omega), List.getElem_set_self]
  obtain ⟨Q, hQ⟩ : ∃ Q, V B (qs.drop (k + 1)) = Q := ⟨_, rfl⟩
  obtain ⟨P, hP⟩ : ∃ P, B ^ k = P := ⟨_, rfl⟩
  refine ⟨?_, ?_⟩
  · rw [e1, V_cons, hQ, hP]
    rw [hQ, Nat.pow_succ, hP] at hv
    rw [hP] at hsp
    have e2 : (g + B * Q) * P * v = P * (g * v) + Q * (P * B) * v := by
      rw [Nat.add_mul, Nat.add_mul, Nat.mul_comm g P, Nat.mul_assoc P, Nat.mul_comm B Q, Nat.mul_assoc Q B P, Nat.mul_comm B P]
    omega
  · have hlo := V_lt (us.take k) (hd.take k)
    rw [List.length_take, Nat.min_eq_left (by omega)] at hlo
    rw [← hz, Nat.mul_add] at hwin
    have h3 := Nat.mul_le_mul_left (B ^ k) (show V B zs + 1 ≤ v from hzv)
    rw [Nat.mul_add, Nat.mul_one, Nat.mul_comm (B ^ k) v] at h3
    omega
theorem quo_digit {W v g : Nat} {r : Nat} (h : r + g * v = W) (hle : W / v ≤ g) (hv : 0 < v) : r < v := by
  apply Classical.byContradiction
  intro hge
  have h1 : (g + 1) * v ≤ W := by rw [Nat.add_mul, Nat.one_mul]; omega
  have h2 := (Nat.le_div_iff_mul_le hv).2 h1
  omega
end Go.Proofs.Ytfiakaenenbhpaa
