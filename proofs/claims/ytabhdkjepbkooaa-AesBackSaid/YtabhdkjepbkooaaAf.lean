/- GF(2^128), numbers alone: products commute. -/
set_option linter.unusedVariables false
set_option linter.unusedSimpArgs false
namespace Go.Proofs.Ytabhdkjepbkooaa

/-- the product with x: the most significant bit is the coefficient of the lowest power -/
def raiseV (v : BitVec 128) : BitVec 128 := (v >>> 1) ^^^ (if v.getLsbD 0 then 0xe1000000000000000000000000000000#128 else 0)
def raiseN : Nat → BitVec 128 → BitVec 128
  | 0, v => v
  | n + 1, v => raiseV (raiseN n v)
def xsum : Nat → (Nat → BitVec 128) → BitVec 128
  | 0, _ => 0
  | n + 1, g => xsum n g ^^^ g n
/-- the product -/
def timesV (e f : BitVec 128) : BitVec 128 := xsum 128 (fun i => if e.getMsbD i then raiseN i f else 0)
theorem xor4 (a b c d : BitVec 128) : (a ^^^ b) ^^^ (c ^^^ d) = (a ^^^ c) ^^^ (b ^^^ d) := by
  rw [BitVec.xor_assoc, ← BitVec.xor_assoc b c d, BitVec.xor_comm b c, BitVec.xor_assoc c b d, ← BitVec.xor_assoc]
theorem raiseV_zero : raiseV 0 = 0 := by decide
theorem raiseV_xor (a b : BitVec 128) : raiseV (a ^^^ b) = raiseV a ^^^ raiseV b := by
  unfold raiseV
  rw [BitVec.ushiftRight_xor_distrib, BitVec.getLsbD_xor, xor4]
  congr 1
  cases a.getLsbD 0 <;> cases b.getLsbD 0 <;> decide
theorem raiseN_zero : ∀ n, raiseN n 0 = 0
  | 0 => rfl
  | n + 1 => by rw [raiseN, raiseN_zero n, raiseV_zero]
theorem raiseN_xor (a b : BitVec 128) : ∀ n, raiseN n (a ^^^ b) = raiseN n a ^^^ raiseN n b
  | 0 => rfl
  | n + 1 => by rw [raiseN, raiseN_xor a b n, raiseV_xor]; rfl
theorem raiseN_add (v : BitVec 128) (j : Nat) : ∀ i, raiseN i (raiseN j v) = raiseN (i + j) v
  | 0 => by rw [Nat.zero_add]; rfl
  | i + 1 => by rw [raiseN, raiseN_add v j i, show i + 1 + j = (i + j) + 1 by omega, raiseN]
theorem raiseN_xsum (i : Nat) (g : Nat → BitVec 128) : ∀ n, raiseN i (xsum n g) = xsum n (fun j => raiseN i (g j))
  | 0 => raiseN_zero i
  | n + 1 => by rw [xsum, raiseN_xor, raiseN_xsum i g n]; rfl
theorem xsum_congr {n : Nat} {g h : Nat → BitVec 128} (e : ∀ i, i < n → g i = h i) : xsum n g = xsum n h := by
  induction n with
  | zero => rfl
  | succ n ih => rw [xsum, xsum, ih (fun i hi => e i (by omega)), e n (by omega)]
theorem xsum_zero : ∀ n, xsum n (fun _ => 0) = 0
  | 0 => rfl
  | n + 1 => by rw [xsum, xsum_zero n]; rfl
theorem xsum_xor (g h : Nat → BitVec 128) : ∀ n, xsum n (fun i => g i ^^^ h i) = xsum n g ^^^ xsum n h
  | 0 => by show (0 : BitVec 128) = 0 ^^^ 0; decide
  | n + 1 => by rw [xsum, xsum, xsum, xsum_xor g h n, xor4]
theorem xsum_swap (g : Nat → Nat → BitVec 128) (m : Nat) : ∀ n, xsum n (fun i => xsum m (fun j => g i j)) = xsum m (fun j => xsum n (fun i => g i j))
  | 0 => by
    show (0 : BitVec 128) = xsum m (fun _ => 0)
    rw [xsum_zero]
  | n + 1 => by rw [xsum, xsum_swap g m n, ← xsum_xor]; rfl
/-- the number 1 of the field -/
def oneV : BitVec 128 := 0x80000000000000000000000000000000#128
theorem oneV_bit (j k : Nat) (hj : j < 128) (hk : k < 128) : (oneV >>> j).getMsbD k = decide (k = j) := by
  have ho : oneV = BitVec.twoPow 128 127 := by decide
  rw [BitVec.getMsbD_eq_getLsbD, BitVec.getLsbD_ushiftRight, ho, BitVec.getLsbD_twoPow]
  by_cases h : k = j
  · subst h; simp; omega
  · simp [h]; omega
theorem raiseN_one : ∀ j, j < 128 → raiseN j oneV = oneV >>> j
  | 0, _ => by rw [BitVec.ushiftRight_zero]; rfl
  | j + 1, h => by
    rw [raiseN, raiseN_one j (by omega), raiseV]
    have hb : (oneV >>> j).getLsbD 0 = false := by
      have h2 := oneV_bit j 127 (by omega) (by omega)
      rw [BitVec.getMsbD_eq_getLsbD] at h2
      simp at h2
      rw [decide_eq_false (by omega)] at h2
      simpa using h2
    rw [hb, if_neg (by simp)]
    show oneV >>> j >>> 1 ^^^ 0#128 = _
    rw [BitVec.xor_zero, ← BitVec.shiftRight_add]
theorem bits_of (f : BitVec 128) (k : Nat) (hk : k < 128) : ∀ n, n ≤ 128 → (xsum n (fun j => if f.getMsbD j then oneV >>> j else 0)).getMsbD k = (decide (k < n) && f.getMsbD k)
  | 0, _ => by simp [xsum]
  | n + 1, h => by
    rw [xsum, BitVec.getMsbD_xor, bits_of f k hk n (by omega)]
    cases hf : f.getMsbD n with
    | false =>
      simp only [Bool.false_eq_true, if_false]
      rw [show (0 : BitVec 128).getMsbD k = false by simp, Bool.xor_false]
      by_cases e : k = n
      · subst e; simp [hf]
      · rw [show decide (k < n + 1) = decide (k < n) by simp; omega]
    | true =>
      rw [if_pos rfl, oneV_bit n k (by omega) hk]
      by_cases e : k = n
      · subst e; simp [hf]
      · rw [show decide (k < n + 1) = decide (k < n) by simp; omega, decide_eq_false e, Bool.xor_false]
theorem expand (f : BitVec 128) : f = xsum 128 (fun j => if f.getMsbD j then oneV >>> j else 0) := by
  apply BitVec.eq_of_getMsbD_eq
  intro k hk
  rw [bits_of f k hk 128 (Nat.le_refl _), decide_eq_true hk, Bool.true_and]
theorem timesV_two (e f : BitVec 128) : timesV e f = xsum 128 (fun i => xsum 128 (fun j => if e.getMsbD i && f.getMsbD j then raiseN (i + j) oneV else 0)) := by
  unfold timesV
  refine xsum_congr fun i hi => ?_
  cases he : e.getMsbD i with
  | false =>
    simp only [Bool.false_and, Bool.false_eq_true, if_false]
    rw [xsum_zero]
  | true =>
    simp only [Bool.true_and, if_true]
    conv => lhs; rw [expand f]
    rw [raiseN_xsum]
    refine xsum_congr fun j hj => ?_
    cases f.getMsbD j with
    | false => simp only [Bool.false_eq_true, if_false]; exact raiseN_zero i
    | true => simp only [if_true]; rw [← raiseN_one j hj, raiseN_add]
theorem timesV_comm (e f : BitVec 128) : timesV e f = timesV f e := by
  rw [timesV_two, timesV_two, xsum_swap]
  refine xsum_congr fun j _ => xsum_congr fun i _ => ?_
  rw [Bool.and_comm, Nat.add_comm]
end Go.Proofs.Ytabhdkjepbkooaa
