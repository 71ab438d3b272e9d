/- GHASH's blocks as bit vectors, numbers alone. -/
import Derived.Test.YtabhdkjepbkooaaAf
import Derived.Test.YtabhdkjepbkooaaAh
set_option linter.unusedVariables false
set_option linter.unusedSimpArgs false
namespace Go.Proofs.Ytabhdkjepbkooaa

/-- the bytes as one number, the first one the greatest -/
def foldQ (bs : List (BitVec 8)) : BitVec 64 := bs.foldl (fun w b => w <<< 8 ||| b.setWidth 64) 0
theorem foldQ_bit (bs : List (BitVec 8)) : ∀ i, i < 64 → (foldQ bs).getLsbD i = (bs.reverse.getD (i / 8) 0).getLsbD (i % 8) := by
  unfold foldQ
  rw [← List.foldr_reverse]
  generalize bs.reverse = l
  induction l with
  | nil => intro i hi; simp
  | cons b l ih =>
    intro i hi
    rw [List.foldr_cons, BitVec.getLsbD_or, BitVec.getLsbD_shiftLeft, BitVec.getLsbD_setWidth]
    by_cases h : i < 8
    · rw [show i / 8 = 0 by omega, show i % 8 = i by omega]
      simp [h, hi]
    · obtain ⟨j, rfl⟩ : ∃ j, i = j + 8 := ⟨i - 8, by omega⟩
      rw [show (j + 8) / 8 = j / 8 + 1 by omega, show (j + 8) % 8 = j % 8 by omega, List.getD_cons_succ, ← ih j (by omega)]
      simp [h, hi]
/-- a block as an element: missing bytes are 0 -/
def elV (bs : List (BitVec 8)) : BitVec 128 := foldQ ((List.range 8).map (fun i => bs.getD i 0)) ++ foldQ ((List.range 8).map (fun i => bs.getD (8 + i) 0))
theorem range8_rev (f : Nat → BitVec 8) (k : Nat) (h : k < 8) : ((List.range 8).map f).reverse.getD k 0 = f (7 - k) := by
  have hk : k = 0 ∨ k = 1 ∨ k = 2 ∨ k = 3 ∨ k = 4 ∨ k = 5 ∨ k = 6 ∨ k = 7 := by omega
  rcases hk with rfl | rfl | rfl | rfl | rfl | rfl | rfl | rfl <;> rfl
theorem elV_bit (bs : List (BitVec 8)) (i : Nat) (hi : i < 128) : (elV bs).getLsbD i = (bs.getD (15 - i / 8) 0).getLsbD (i % 8) := by
  unfold elV
  rw [BitVec.getLsbD_append]
  by_cases h : i < 64
  · rw [if_pos h, foldQ_bit _ i h, range8_rev _ _ (by omega), show 8 + (7 - i / 8) = 15 - i / 8 by omega]
  · rw [if_neg h, foldQ_bit _ (i - 64) (by omega), range8_rev _ _ (by omega), show 7 - (i - 64) / 8 = 15 - i / 8 by omega, show (i - 64) % 8 = i % 8 by omega]
/-- the block of an element -/
def byV (v : BitVec 128) : List (BitVec 8) := st16 (fun k => (v >>> (120 - 8 * k)).setWidth 8)
theorem byV_bit (v : BitVec 128) (k j : Nat) (hk : k < 16) (hj : j < 8) : ((byV v).getD k 0).getLsbD j = v.getLsbD (120 - 8 * k + j) := by
  unfold byV
  rw [st16_get _ k hk, BitVec.getLsbD_setWidth, BitVec.getLsbD_ushiftRight]
  simp [hj]
theorem byV_length (v : BitVec 128) : (byV v).length = 16 := st16_length _
theorem elV_byV (v : BitVec 128) : elV (byV v) = v := by
  apply BitVec.eq_of_getLsbD_eq
  intro i hi
  rw [elV_bit _ i hi, byV_bit _ _ _ (by omega) (by omega), show 120 - 8 * (15 - i / 8) + i % 8 = i by omega]
theorem byte_ext {a b : BitVec 8} (h : ∀ j, j < 8 → a.getLsbD j = b.getLsbD j) : a = b := BitVec.eq_of_getLsbD_eq h
theorem byV_elV (bs : List (BitVec 8)) (h : bs.length = 16) : byV (elV bs) = bs := by
  rw [← st16_of bs h]
  conv => lhs; unfold byV
  refine st16_congr fun k hk => byte_ext fun j hj => ?_
  rw [BitVec.getLsbD_setWidth, BitVec.getLsbD_ushiftRight, elV_bit _ _ (by omega), show 15 - (120 - 8 * k + j) / 8 = k by omega, show (120 - 8 * k + j) % 8 = j by omega, st16_get _ k hk]
  simp [hj]
theorem byV_inj {u v : BitVec 128} (h : byV u = byV v) : u = v := by rw [← elV_byV u, h, elV_byV]
theorem byV_xor (u v : BitVec 128) : byV (u ^^^ v) = addV (byV u) (byV v) := by
  unfold addV
  conv => lhs; unfold byV
  refine st16_congr fun k hk => byte_ext fun j hj => ?_
  rw [BitVec.getLsbD_xor, byV_bit _ k j hk hj, byV_bit _ k j hk hj, BitVec.getLsbD_setWidth, BitVec.getLsbD_ushiftRight, BitVec.getLsbD_xor]
  simp [hj]
theorem elV_xor (a b : List (BitVec 8)) (ha : a.length = 16) (hb : b.length = 16) : elV (addV a b) = elV a ^^^ elV b := by
  apply byV_inj
  rw [byV_xor, byV_elV a ha, byV_elV b hb, byV_elV _ (addV_length _ _)]
/-- the program's halves -/
theorem byV_halves (hi lo : BitVec 64) : byV (hi ++ lo) = (List.range 8).map (fun k => (hi >>> (56 - 8 * k)).setWidth 8) ++ (List.range 8).map (fun k => (lo >>> (56 - 8 * k)).setWidth 8) := by
  have e : (List.range 8).map (fun k => (hi >>> (56 - 8 * k)).setWidth 8) ++ (List.range 8).map (fun k => (lo >>> (56 - 8 * k)).setWidth 8) = st16 (fun k => if k < 8 then (hi >>> (56 - 8 * k)).setWidth 8 else (lo >>> (56 - 8 * (k - 8))).setWidth 8) := rfl
  rw [e]
  unfold byV
  refine st16_congr fun k hk => byte_ext fun j hj => ?_
  rw [BitVec.getLsbD_setWidth, BitVec.getLsbD_ushiftRight, BitVec.getLsbD_append]
  by_cases h : k < 8
  · rw [if_pos h, if_neg (by omega), BitVec.getLsbD_setWidth, BitVec.getLsbD_ushiftRight, show 120 - 8 * k + j - 64 = 56 - 8 * k + j by omega]
  · rw [if_neg h, if_pos (by omega), BitVec.getLsbD_setWidth, BitVec.getLsbD_ushiftRight, show 120 - 8 * k + j = 56 - 8 * (k - 8) + j by omega]
theorem raise_halves (hi lo : BitVec 64) : raiseV (hi ++ lo) = (hi >>> 1 ^^^ ((lo &&& 1) * 0xe1) <<< 56) ++ (hi <<< 63 ||| lo >>> 1) := by
  have hand : lo &&& 1 = if lo.getLsbD 0 then 1 else 0 := by
    apply BitVec.eq_of_getLsbD_eq
    intro i hi
    rw [BitVec.getLsbD_and]
    by_cases h : i = 0
    · subst h; cases lo.getLsbD 0 <;> simp
    · cases lo.getLsbD 0 <;> simp [h, BitVec.getLsbD_one]
  have hsh : (hi ++ lo) >>> 1 = (hi >>> 1) ++ (hi <<< 63 ||| lo >>> 1) := by
    apply BitVec.eq_of_getLsbD_eq
    intro i hi2
    rw [BitVec.getLsbD_ushiftRight, BitVec.getLsbD_append, BitVec.getLsbD_append, BitVec.getLsbD_or, BitVec.getLsbD_shiftLeft, BitVec.getLsbD_ushiftRight, BitVec.getLsbD_ushiftRight]
    by_cases h : i < 63
    · rw [if_pos (by omega), if_pos (by omega)]; simp [h]
    · by_cases h2 : i = 63
      · subst h2
        simp
      · rw [if_neg (by omega), if_neg (by omega), show 1 + i - 64 = 1 + (i - 64) by omega]
  have h0 : (hi ++ lo).getLsbD 0 = lo.getLsbD 0 := by rw [BitVec.getLsbD_append]; simp
  have hx : ∀ a b c d : BitVec 64, (a ^^^ b) ++ (c ^^^ d) = (a ++ c) ^^^ (b ++ d) := fun a b c d => by
    apply BitVec.eq_of_getLsbD_eq
    intro i hi
    rw [BitVec.getLsbD_xor, BitVec.getLsbD_append, BitVec.getLsbD_append, BitVec.getLsbD_append]
    split <;> rw [BitVec.getLsbD_xor]
  unfold raiseV
  rw [h0, hsh, hand]
  have := hx (hi >>> 1) (((if lo.getLsbD 0 = true then (1 : BitVec 64) else 0) * 0xe1) <<< 56) (hi <<< 63 ||| lo >>> 1) 0#64
  rw [BitVec.xor_zero] at this
  rw [this]
  congr 1
  cases lo.getLsbD 0 <;> decide
/-- the reference's shift by bytes -/
def shrL (s : List (BitVec 8)) : List (BitVec 8) := st16 (fun k => (s.getD k 0) >>> 1 ^^^ (if 0 < k ∧ (s.getD (k - 1) 0).getLsbD 0 then 0x80 else 0) ^^^ (if k = 0 ∧ (s.getD 15 0).getLsbD 0 then 0xe1 else 0))
theorem shrL_byV (v : BitVec 128) : shrL (byV v) = byV (raiseV v) := by
  unfold shrL
  conv => rhs; unfold byV
  refine st16_congr fun k hk => byte_ext fun j hj => ?_
  have hl : ((byV v).getD 15 0).getLsbD 0 = v.getLsbD 0 := byV_bit v 15 0 (by decide) (by decide)
  rw [BitVec.getLsbD_xor, BitVec.getLsbD_xor, BitVec.getLsbD_ushiftRight, BitVec.getLsbD_setWidth, BitVec.getLsbD_ushiftRight, hl]
  unfold raiseV
  rw [BitVec.getLsbD_xor, BitVec.getLsbD_ushiftRight]
  have hE : ∀ i, i < 128 → (0xe1000000000000000000000000000000#128).getLsbD i = (decide (120 ≤ i) && (0xe1#8).getLsbD (i - 120)) := by decide +kernel
  have h80 : ∀ j, j < 8 → (0x80#8).getLsbD j = decide (j = 7) := by decide
  by_cases hj7 : j = 7
  · subst hj7
    rw [show ((byV v).getD k 0).getLsbD (1 + 7) = false from BitVec.getLsbD_of_ge _ _ (by decide)]
    by_cases h0 : k = 0
    · subst h0
      rw [if_neg (by simp), show v.getLsbD (1 + (120 - 8 * 0 + 7)) = false from BitVec.getLsbD_of_ge _ _ (by decide)]
      cases v.getLsbD 0 <;> simp
    · have hp : ((byV v).getD (k - 1) 0).getLsbD 0 = v.getLsbD (1 + (120 - 8 * k + 7)) := by
        rw [byV_bit _ _ _ (by omega) (by omega)]; congr 1; omega
      rw [hp, if_neg (show ¬ (k = 0 ∧ _) by intro h; exact h0 h.1)]
      have hz : (if v.getLsbD 0 = true then 0xe1000000000000000000000000000000#128 else 0).getLsbD (120 - 8 * k + 7) = false := by
        cases v.getLsbD 0
        · simp
        · rw [if_pos rfl, hE _ (by omega), decide_eq_false (by omega), Bool.false_and]
      rw [hz]
      have hk0 : 0 < k := by omega
      cases v.getLsbD (1 + (120 - 8 * k + 7)) <;> simp [h0, hk0]
  · rw [byV_bit _ _ _ hk (by omega), show 120 - 8 * k + (1 + j) = 1 + (120 - 8 * k + j) by omega]
    have h8 : (if 0 < k ∧ ((byV v).getD (k - 1) 0).getLsbD 0 = true then (0x80 : BitVec 8) else 0).getLsbD j = false := by
      split
      · rw [show (0x80 : BitVec 8) = 0x80#8 from rfl, h80 j hj, decide_eq_false hj7]
      · simp
    rw [h8, Bool.xor_false]
    have hz : (if v.getLsbD 0 = true then 0xe1000000000000000000000000000000#128 else 0).getLsbD (120 - 8 * k + j) = (if k = 0 ∧ v.getLsbD 0 = true then (0xe1 : BitVec 8) else 0).getLsbD j := by
      cases v.getLsbD 0
      · simp
      · rw [if_pos rfl, hE _ (by omega)]
        by_cases h0 : k = 0
        · subst h0
          rw [decide_eq_true (by omega), show 120 - 8 * 0 + j - 120 = j by omega]; simp
        · rw [decide_eq_false (by omega)]; simp [h0]
    rw [hz]
    simp [hj]
end Go.Proofs.Ytabhdkjepbkooaa
