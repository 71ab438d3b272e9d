/- What came in, in the words of Base; lengths. -/
import Derived.Test.YtfiakaenenbhpaaBegun
import Derived.Test.YtfiakaenenbhpaaFew
import Derived.OpenShut
namespace Go.Proofs.Ytfiakaenenbhpaa
open Go.RowKit

theorem sl_of_row {w : World} {a : Option Addr} {len cap : Nat} {zs : List Int}
    (h : (a = none ∧ len = 0 ∧ cap = 0 ∧ zs = []) ∨ ∃ x, a = some x ∧ len ≤ cap ∧ cap ≤ maxLen ∧ zs.length = cap ∧ (∀ i, i < zs.length → w.cell? (x.add i) = some (.int .u64 (zs.getD i 0))) ∧ ∀ n ∈ zs, (Lit.int .u64 n).wf = true) :
    ∃ xs, Sl w w.heap.size a len cap xs ∧ Dg b64 xs := by
  rcases h with ⟨rfl, rfl, rfl, rfl⟩ | ⟨x, rfl, hl, hm, hz, hc, hwf⟩
  · exact ⟨[], Sl.nil _ _ _ (by omega), fun x hx => by cases hx⟩
  · have hb : ∀ n ∈ zs, 0 ≤ n ∧ n ≤ 18446744073709551615 := fun n hn => bounds_u64 (hwf n hn)
    refine ⟨(zs.take len).map Int.toNat, ⟨by simp; omega, hl, by simpa [maxLen] using hm, fun hne => ?_⟩, fun y hy => ?_⟩
    · have hlen : 0 < len := by
        rcases Nat.eq_zero_or_pos len with h | h
        · subst h; simp at hne
        · exact h
      obtain ⟨b, off, spot⟩ := x
      have h0 := hc 0 (by omega)
      have hsp : spot = none := by simpa [Addr.add] using World.cell?_spot h0
      subst hsp
      refine ⟨b, off, rfl, World.block_lt_of_cell? w _ (by simpa [Addr.add] using h0), fun k y hy => ?_⟩
      rw [List.getElem?_map, Option.map_eq_some_iff] at hy
      obtain ⟨z, hzk, rfl⟩ := hy
      rw [List.getElem?_take] at hzk
      split at hzk
      · rename_i hkl
        have h1 := hc k (by omega)
        rw [Addr.add_lit, List.getD_eq_getElem?_getD, hzk] at h1
        have := hb z (List.mem_of_getElem? hzk)
        rw [Int.toNat_of_nonneg this.1]
        exact h1
      · cases hzk
    · obtain ⟨z, hz, rfl⟩ := List.mem_map.1 hy
      have := hb z (List.mem_of_mem_take hz)
      rw [lt64]
      omega

theorem len32 {xs : List Nat} {N k : Nat} (h : Nm b32 xs N) (hN : N < b64 ^ k) : xs.length ≤ 2 * k := by
  refine h.length_le (by decide) ?_
  rw [b64_eq, Nat.mul_pow, ← Nat.pow_add, ← Nat.two_mul] at hN
  exact hN
theorem V20 {xs : List Nat} (hd : Dg b64 xs) : V b64 (xs.take 20) < b64 ^ 20 := by
  have h := V_lt (xs.take 20) (hd.take 20)
  have h2 : b64 ^ (xs.take 20).length ≤ b64 ^ 20 := Nat.pow_le_pow_right b64_pos (by rw [List.length_take]; exact Nat.min_le_left _ _)
  omega
theorem add20 {B a b : Nat} (hB : 2 ≤ B) (ha : a < B ^ 20) (hb : b < B ^ 20) : a + b < B ^ 21 := by
  rw [Nat.pow_succ]
  have := Nat.mul_le_mul_left (B ^ 20) hB
  omega
theorem mul20 {B a b : Nat} (ha : a < B ^ 20) (hb : b < B ^ 20) : a * b < B ^ 40 := by
  rw [show 40 = 20 + 20 from rfl, Nat.pow_add]
  exact Nat.mul_lt_mul'' ha hb
end Go.Proofs.Ytfiakaenenbhpaa
