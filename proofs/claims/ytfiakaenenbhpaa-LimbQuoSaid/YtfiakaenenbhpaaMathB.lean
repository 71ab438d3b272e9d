/- Steps of schoolbook sums, differences, products and orders, on lists of digits. -/
import Derived.Test.YtfiakaenenbhpaaMath
namespace Go.Proofs.Ytfiakaenenbhpaa

theorem V_take_get {B : Nat} (xs : List Nat) (k : Nat) : V B (xs.take (k + 1)) = V B (xs.take k) + B ^ k * (xs[k]?.getD 0) := by
  rcases Nat.lt_or_ge k xs.length with h | h
  · obtain ⟨x, hx⟩ := get_lt h
    rw [V_take_succ hx, hx]; rfl
  · rw [List.take_of_length_le (by omega), List.take_of_length_le (by omega), List.getElem?_eq_none h]; simp

/-- one digit of a sum -/
theorem add_step {B : Nat} {zs xs ys : List Nat} {k c x y : Nat} (hz : k < zs.length) (hv : V B (zs.take k) + B ^ k * c = V B (xs.take k) + V B (ys.take k)) (hx : xs[k]?.getD 0 = x) (hy : ys[k]?.getD 0 = y) :
    V B ((zs.set k ((c + x + y) % B)).take (k + 1)) + B ^ (k + 1) * ((c + x + y) / B) = V B (xs.take (k + 1)) + V B (ys.take (k + 1)) := by
  rw [V_set_take _ hz, V_take_get xs, V_take_get ys, hx, hy, Nat.pow_succ, Nat.mul_assoc, Nat.add_assoc, ← Nat.mul_add, Nat.mod_add_div, Nat.mul_add, Nat.mul_add]
  omega

/-- one digit of a difference -/
theorem sub_step {B : Nat} {zs xs ys : List Nat} {k c d z x y : Nat} (hz : k < zs.length) (hv : V B (zs.take k) + V B (ys.take k) = V B (xs.take k) + B ^ k * c) (hx : xs[k]?.getD 0 = x) (hy : ys[k]?.getD 0 = y)
    (he : z + (y + c) = x + B * d) :
    V B ((zs.set k z).take (k + 1)) + V B (ys.take (k + 1)) = V B (xs.take (k + 1)) + B ^ (k + 1) * d := by
  rw [V_set_take _ hz, V_take_get xs, V_take_get ys, hx, hy, Nat.pow_succ, Nat.mul_assoc]
  have h1 : B ^ k * z + (B ^ k * y + B ^ k * c) = B ^ k * x + B ^ k * (B * d) := by rw [← Nat.mul_add, ← Nat.mul_add, he, Nat.mul_add]
  omega

/-- the value with one digit set -/
theorem V_set {B : Nat} {zs : List Nat} {i old : Nat} (x : Nat) (h : zs[i]? = some old) : V B (zs.set i x) + B ^ i * old = V B zs + B ^ i * x := by
  induction zs generalizing i with
  | nil => simp at h
  | cons y r ih =>
    cases i with
    | zero => simp at h; subst h; simp [V]; omega
    | succ i =>
      have h1 := ih (i := i) (by simpa using h)
      simp only [List.set_cons_succ, V, Nat.pow_succ]
      have h2 : B * V B (r.set i x) + B ^ i * B * old = B * V B r + B ^ i * B * x := by
        have := congrArg (B * ·) h1
        simp only [Nat.mul_add] at this
        rw [show B ^ i * B * old = B * (B ^ i * old) by rw [Nat.mul_comm (B ^ i), Nat.mul_assoc], show B ^ i * B * x = B * (B ^ i * x) by rw [Nat.mul_comm (B ^ i), Nat.mul_assoc]]
        exact this
      omega

/-- one digit of a row of a product -/
theorem mul_step {B : Nat} {zs ys : List Nat} {i j c d x y E : Nat} (hd : zs[i + j]? = some d) (hy : ys[j]? = some y) (hv : V B zs + B ^ (i + j) * c = E + B ^ i * (x * V B (ys.take j))) :
    V B (zs.set (i + j) ((c + (d + x * y)) % B)) + B ^ (i + (j + 1)) * ((c + (d + x * y)) / B) = E + B ^ i * (x * V B (ys.take (j + 1))) := by
  have h1 := V_set (B := B) ((c + (d + x * y)) % B) hd
  have h2 : B ^ (i + (j + 1)) * ((c + (d + x * y)) / B) + B ^ (i + j) * ((c + (d + x * y)) % B) = B ^ (i + j) * (c + (d + x * y)) := by
    rw [show i + (j + 1) = (i + j) + 1 by omega, Nat.pow_succ, Nat.mul_assoc, ← Nat.mul_add]
    congr 1
    have := Nat.mod_add_div (c + (d + x * y)) B
    omega
  rw [V_take_succ hy, Nat.mul_add, Nat.mul_add]
  have h3 : B ^ i * (x * (B ^ j * y)) = B ^ (i + j) * (x * y) := by
    rw [Nat.pow_add, Nat.mul_assoc, ← Nat.mul_assoc x, Nat.mul_comm x, Nat.mul_assoc]
  rw [Nat.mul_add, Nat.mul_add] at h2
  rw [h3]
  omega

theorem mul_le32 {x y : Nat} (hx : x < 4294967296) (hy : y < 4294967296) : x * y ≤ 18446744065119617025 := by
  have := Nat.mul_le_mul (Nat.le_of_lt_succ hx) (Nat.le_of_lt_succ hy)
  simpa using this

/-- the order of numbers of equal length, at the highest digit that differs -/
theorem cmp_lt {B : Nat} {xs ys : List Nat} {m x y : Nat} (hd : Dg B xs) (hl : xs.length = ys.length) (hx : xs[m]? = some x) (hy : ys[m]? = some y) (he : xs.drop (m + 1) = ys.drop (m + 1)) (h : x < y) : V B xs < V B ys := by
  have hm : m < xs.length := (List.getElem?_eq_some_iff.1 hx).1
  have e1 := V_split (B := B) xs (m + 1)
  have e2 := V_split (B := B) ys (m + 1)
  rw [V_take_succ hx, Nat.min_eq_left (by omega)] at e1
  rw [V_take_succ hy, Nat.min_eq_left (by omega), ← he] at e2
  have h1 := V_lt (xs.take m) (hd.take m)
  rw [List.length_take, Nat.min_eq_left (by omega)] at h1
  have h2 : B ^ m * (x + 1) ≤ B ^ m * y := Nat.mul_le_mul_left _ h
  rw [Nat.mul_add, Nat.mul_one] at h2
  omega
theorem drop_eq_of {xs ys : List Nat} {m x : Nat} (hx : xs[m]? = some x) (hy : ys[m]? = some x) (he : xs.drop (m + 1) = ys.drop (m + 1)) : xs.drop m = ys.drop m := by
  rw [List.drop_eq_getElem_cons (List.getElem?_eq_some_iff.1 hx).1, List.drop_eq_getElem_cons (List.getElem?_eq_some_iff.1 hy).1, he, (List.getElem?_eq_some_iff.1 hx).2, (List.getElem?_eq_some_iff.1 hy).2]
/-- -1, 0, 1 -/
def ncmp (a b : Nat) : Int := if a < b then -1 else if b < a then 1 else 0
theorem ncmp_lt {a b : Nat} (h : a < b) : ncmp a b = -1 := by simp [ncmp, h]
theorem ncmp_gt {a b : Nat} (h : b < a) : ncmp a b = 1 := by unfold ncmp; rw [if_neg (by omega), if_pos h]
theorem ncmp_eq (a : Nat) : ncmp a a = 0 := by simp [ncmp]
theorem add_end {B : Nat} (hB : 2 ≤ B) {xs ys zs : List Nat} {c n : Nat} (hd : Dg B xs) (hd2 : Dg B ys) (h1 : xs.length ≤ n) (h2 : ys.length ≤ n) (hz : zs.length = n + 1) (hv : V B (zs.take (n + 1)) + B ^ (n + 1) * c = V B (xs.take (n + 1)) + V B (ys.take (n + 1))) :
    V B zs = V B xs + V B ys := by
  rw [List.take_of_length_le (by omega), List.take_of_length_le (by omega), List.take_of_length_le (by omega)] at hv
  have a1 := V_lt xs hd
  have a2 := V_lt ys hd2
  have a3 : B ^ xs.length ≤ B ^ n := Nat.pow_le_pow_right (show 0 < B by omega) h1
  have a4 : B ^ ys.length ≤ B ^ n := Nat.pow_le_pow_right (show 0 < B by omega) h2
  have a5 : B ^ (n + 1) = B ^ n * B := Nat.pow_succ ..
  have a6 : B ^ n * 2 ≤ B ^ n * B := Nat.mul_le_mul_left _ hB
  have hc : c = 0 := by
    rcases Nat.eq_zero_or_pos c with h | h
    · exact h
    · have := Nat.mul_le_mul_left (B ^ (n + 1)) h
      omega
  subst hc
  omega

theorem sub_end {B : Nat} {xs ys zs : List Nat} {c n : Nat} (hd : Dg B zs) (h1 : xs.length = n) (h2 : ys.length ≤ n) (hz : zs.length = n) (hle : V B ys ≤ V B xs) (hv : V B (zs.take n) + V B (ys.take n) = V B (xs.take n) + B ^ n * c) :
    V B zs = V B xs - V B ys := by
  rw [List.take_of_length_le (by omega), List.take_of_length_le (by omega), List.take_of_length_le (by omega)] at hv
  have a1 := V_lt zs hd
  rw [hz] at a1
  have hc : c = 0 := by
    rcases Nat.eq_zero_or_pos c with h | h
    · exact h
    · have := Nat.mul_le_mul_left (B ^ n) h
      omega
  subst hc
  omega
/-- the row's end: the carry becomes the next digit -/
theorem mul_row {B : Nat} {zs xs ys : List Nat} {k m c x E : Nat} (hz : zs[k + m]? = some 0) (hm : m = ys.length) (hx : xs[k]? = some x) (hE : E = V B (xs.take k) * V B ys) (hv : V B zs + B ^ (k + m) * c = E + B ^ k * (x * V B (ys.take m))) :
    V B (zs.set (k + m) c) = V B (xs.take (k + 1)) * V B ys := by
  have h1 := V_set (B := B) c hz
  rw [List.take_of_length_le (by omega)] at hv
  rw [V_take_succ hx, Nat.add_mul, ← hE, Nat.mul_assoc]
  omega
/-- one limb of a sum in place -/
theorem addTo_step {B : Nat} {zs ys : List Nat} {o k c s c' old y E : Nat} (hz : zs[o + k]? = some old) (hy : ys[k]? = some y) (hv : V B zs + B ^ (o + k) * c = E + B ^ o * V B (ys.take k)) (he : s + B * c' = old + y + c) :
    V B (zs.set (o + k) s) + B ^ (o + (k + 1)) * c' = E + B ^ o * V B (ys.take (k + 1)) := by
  have h1 := V_set (B := B) s hz
  have h2 : B ^ (o + k) * s + B ^ (o + k) * (B * c') = B ^ (o + k) * old + B ^ (o + k) * y + B ^ (o + k) * c := by rw [← Nat.mul_add, he, Nat.mul_add, Nat.mul_add]
  rw [V_take_succ hy, Nat.mul_add, ← Nat.mul_assoc, ← Nat.pow_add, show o + (k + 1) = (o + k) + 1 by omega, Nat.pow_succ, Nat.mul_assoc]
  omega
/-- one limb of a product by a limb, added in place -/
theorem addMul_step {B : Nat} {zs ys : List Nat} {o k c s c' old y d E : Nat} (hz : zs[o + k]? = some old) (hy : ys[k]? = some y) (hv : V B zs + B ^ (o + k) * c = E + B ^ o * (V B (ys.take k) * d)) (he : s + B * c' = old + y * d + c) :
    V B (zs.set (o + k) s) + B ^ (o + (k + 1)) * c' = E + B ^ o * (V B (ys.take (k + 1)) * d) := by
  have h1 := V_set (B := B) s hz
  have h2 : B ^ (o + k) * s + B ^ (o + k) * (B * c') = B ^ (o + k) * old + B ^ (o + k) * (y * d) + B ^ (o + k) * c := by rw [← Nat.mul_add, he, Nat.mul_add, Nat.mul_add]
  rw [V_take_succ hy, Nat.add_mul, Nat.mul_add, Nat.mul_assoc (B ^ k), ← Nat.mul_assoc (B ^ o) (B ^ k), ← Nat.pow_add, show o + (k + 1) = (o + k) + 1 by omega, Nat.pow_succ, Nat.mul_assoc]
  omega
theorem mul_lt_sq {B x y : Nat} (hx : x < B) (hy : y < B) : x * y + 2 * B ≤ B * B + 1 := by
  obtain ⟨b, rfl⟩ : ∃ b, B = b + 1 := ⟨B - 1, by omega⟩
  have := Nat.mul_le_mul (Nat.le_of_lt_succ hx) (Nat.le_of_lt_succ hy)
  rw [Nat.add_mul, Nat.mul_add b, Nat.one_mul]; omega
theorem lt_of_mul_lt_sq {B x : Nat} (h : B * x < B * B) : x < B := Nat.lt_of_mul_lt_mul_left h
theorem amul_bound1 {B hi lo y d sum c1 old : Nat} (h : B * hi + lo = y * d) (hy : y < B) (hd : d < B) (h1 : sum + B * c1 = lo + old) (ho : old < B) : hi + c1 < B := by
  apply lt_of_mul_lt_sq (B := B)
  have := mul_lt_sq hy hd
  rw [Nat.mul_add]; omega
theorem amul_bound2 {B hi lo y d sum c1 old s c2 c : Nat} (h : B * hi + lo = y * d) (hy : y < B) (hd : d < B) (h1 : sum + B * c1 = lo + old) (ho : old < B) (h2 : s + B * c2 = sum + c) (hc : c < B) : hi + c1 + c2 < B := by
  apply lt_of_mul_lt_sq (B := B)
  have := mul_lt_sq hy hd
  rw [Nat.mul_add, Nat.mul_add]; omega
theorem amul_eq {B hi lo y d sum c1 old s c2 c : Nat} (h : B * hi + lo = y * d) (h1 : sum + B * c1 = lo + old) (h2 : s + B * c2 = sum + c) : s + B * (hi + c1 + c2) = old + y * d + c := by
  rw [Nat.mul_add, Nat.mul_add]; omega
/-- a row of a product, its carry laid behind it -/
theorem lmul_row {B : Nat} {zs zs' xs ys : List Nat} {k m c x : Nat} (hz : zs'[k + m]? = some 0) (hx : xs[k]? = some x) (hE : V B zs = V B (xs.take k) * V B ys) (hv : V B zs' + B ^ (k + m) * c = V B zs + B ^ k * (V B ys * x)) :
    V B (zs'.set (k + m) c) = V B (xs.take (k + 1)) * V B ys := by
  have h1 := V_set (B := B) c hz
  rw [V_take_succ hx, Nat.add_mul, ← hE, Nat.mul_assoc, Nat.mul_comm x]
  omega
end Go.Proofs.Ytfiakaenenbhpaa
