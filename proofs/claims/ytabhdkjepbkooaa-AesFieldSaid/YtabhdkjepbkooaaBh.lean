/- The reference's Times, numbers alone: the shift by bytes, from the last byte on. -/
import Derived.Test.YtabhdkjepbkooaaAp
set_option linter.unusedVariables false
set_option linter.unusedSimpArgs false
namespace Go.Proofs.Ytabhdkjepbkooaa

/-- a byte shifted, with the bit of the one ahead -/
def shB (s : List (BitVec 8)) (i : Nat) : BitVec 8 := (s.getD i 0) >>> 1 ^^^ (if 0 < i ∧ (s.getD (i - 1) 0).getLsbD 0 then 0x80 else 0)
/-- the bytes from j on are shifted -/
def midL (s : List (BitVec 8)) (j : Nat) : List (BitVec 8) := st16 (fun i => if j ≤ i then shB s i else s.getD i 0)
theorem midL_length (s : List (BitVec 8)) (j : Nat) : (midL s j).length = 16 := st16_length _
theorem midL_top (s : List (BitVec 8)) (h : s.length = 16) : midL s 16 = s := by
  conv => rhs; rw [← st16_of s h]
  unfold midL
  refine st16_congr fun i hi => ?_
  rw [if_neg (by omega)]
theorem midL_set (s : List (BitVec 8)) (j : Nat) (hj : j < 16) : (midL s (j + 1)).set j (shB s j) = midL s j := by
  unfold midL
  rw [st16_set _ _ _ hj]
  refine st16_congr fun i hi => ?_
  by_cases e : i = j
  · subst e; rw [if_pos rfl, if_pos (Nat.le_refl _)]
  · rw [if_neg e]
    by_cases h : j ≤ i
    · rw [if_pos h, if_pos (by omega)]
    · rw [if_neg h, if_neg (by omega)]
theorem midL_get (s : List (BitVec 8)) (j k : Nat) (hk : k < 16) (h : k < j) : (midL s j).getD k 0 = s.getD k 0 := by
  unfold midL
  rw [st16_get _ _ hk, if_neg (by omega)]
theorem shrL_mid (s : List (BitVec 8)) : shrL s = if (s.getD 15 0).getLsbD 0 then (midL s 0).set 0 ((midL s 0).getD 0 0 ^^^ 0xe1) else midL s 0 := by
  by_cases h : (s.getD 15 0).getLsbD 0 = true
  · rw [if_pos h]
    unfold shrL midL
    rw [st16_set _ _ _ (by decide), st16_get _ _ (by decide)]
    refine st16_congr fun i hi => ?_
    by_cases e : i = 0
    · subst e
      rw [if_pos (show (0 = 0 ∧ _) from ⟨rfl, h⟩), if_pos rfl, if_pos (Nat.le_refl _)]
      rfl
    · rw [if_neg e, if_neg (show ¬ (i = 0 ∧ _) from fun x => e x.1), if_pos (Nat.zero_le _)]
      exact BitVec.xor_zero
  · rw [if_neg h]
    unfold shrL midL
    refine st16_congr fun i hi => ?_
    rw [if_neg (show ¬ (i = 0 ∧ _) from fun x => h x.2), if_pos (Nat.zero_le _)]
    exact BitVec.xor_zero
/-- bytes as numbers -/
theorem byte_half : ∀ x : BitVec 8, i8 x / (2 : Int) = i8 (x >>> 1) := by decide +kernel
theorem byte_odd : ∀ x : BitVec 8, i8 x % (2 : Int) = if x.getLsbD 0 then (1 : Int) else 0 := by decide +kernel
theorem byte_top : ∀ x : BitVec 8, i8 (x >>> 1) + (128 : Int) = i8 (x >>> 1 ^^^ 0x80) := by decide +kernel
theorem byte_low : ∀ x : BitVec 8, 0 ≤ i8 (x >>> 1) ∧ i8 (x >>> 1) ≤ 127 := by decide +kernel
theorem byte_bit : ∀ (x : BitVec 8) (k : Fin 8), i8 x / (2 : Int) ^ k.val % (2 : Int) = if x.getLsbD k.val then (1 : Int) else 0 := by decide +kernel
theorem byte_e1 (x : BitVec 8) : bits .xor .u8 (i8 x) 225 = i8 (x ^^^ 0xe1) := b8_xor x 0xe1
end Go.Proofs.Ytabhdkjepbkooaa
