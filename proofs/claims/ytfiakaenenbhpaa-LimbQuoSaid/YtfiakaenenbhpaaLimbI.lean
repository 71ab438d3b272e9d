/- limb.Bits. -/
import Derived.Test.YtfiakaenenbhpaaLimbH
import Derived.Lib.BitFns
import Derived.Lib.ItoaNum
namespace Go.Proofs.Ytfiakaenenbhpaa
open Go.RowKit

/-- k is the least with n < 2^k -/
def IsBits (n k : Nat) : Prop := n < 2 ^ k ∧ (k ≠ 0 → 2 ^ (k - 1) ≤ n)
theorem IsBits.unique {n k l : Nat} (h : IsBits n k) (h' : IsBits n l) : k = l := by
  rcases Nat.lt_trichotomy k l with hl | hl | hl
  · have h1 := h'.2 (by omega)
    have h2 : 2 ^ k ≤ 2 ^ (l - 1) := Nat.pow_le_pow_right (by decide) (by omega)
    have := h.1
    omega
  · exact hl
  · have h1 := h.2 (by omega)
    have h2 : 2 ^ l ≤ 2 ^ (k - 1) := Nat.pow_le_pow_right (by decide) (by omega)
    have := h'.1
    omega
theorem b64_pow (m : Nat) : b64 ^ m = 2 ^ (64 * m) := by
  rw [show b64 = 2 ^ 64 from rfl, ← Nat.pow_mul]
theorem bits_top {xs : List Nat} {m x N : Nat} (h : Nm b64 xs N) (hm : xs.length = m + 1) (hx : xs[m]? = some x) : IsBits N (m * 64 + Lib.bitLen x) ∧ Lib.bitLen x ≤ 64 := by
  have hxl := h.1.get hx
  have hx0 : x ≠ 0 := by
    refine h.2.1 x ?_
    rw [List.getLast?_eq_getElem?, hm]
    simpa using hx
  obtain ⟨c1, c2, c3⟩ := Lib.bitLenAux_bounds 64 x hxl hx0
  have hN : N = V b64 (xs.take m) + b64 ^ m * x := by
    rw [← h.2.2, ← V_take_succ hx, List.take_of_length_le (by omega)]
  have hlt := V_lt (xs.take m) (h.1.take m)
  rw [List.length_take, Nat.min_eq_left (by omega)] at hlt
  rw [b64_pow] at hN hlt
  have hle : Lib.bitLen x ≤ 64 := Lib.bitLen_le x 64 (Nat.le_refl _) hxl
  obtain ⟨k, hk⟩ : ∃ k, Lib.bitLen x = k := ⟨_, rfl⟩
  have hk' : Lib.bitLenAux 64 x = k := hk
  rw [hk'] at c1 c2 c3
  rw [hk] at hle ⊢
  refine ⟨⟨?_, fun _ => ?_⟩, hle⟩
  · rw [Nat.mul_comm m, Nat.pow_add]
    have := Nat.mul_le_mul_left (2 ^ (64 * m)) c3
    rw [Nat.mul_succ] at this
    omega
  · rw [show m * 64 + k - 1 = 64 * m + (k - 1) by omega, Nat.pow_add]
    have := Nat.mul_le_mul_left (2 ^ (64 * m)) c2
    omega

theorem ret_i64 {a b : Int} (h : a = b) : Ending.returned (.int .i64 a) = .returned (.int .i64 b) := by rw [h]

set_option maxRecDepth 100000 in
set_option maxHeartbeats 800000 in
theorem bits_any (w : World) (B : Nat) (A : Option Addr) (n c : Nat) (xs : List Nat) (hs : Sl w B A n c xs) (hd : Dg b64 xs) (hn : n ≤ 17592186044416) :
    Calls Try.prog 29 #[.slice A n c] w fun e w' => ∃ k : Nat, e = .returned (.int .i64 (k : Int)) ∧ IsBits (V b64 xs) k ∧ w = w' := by
  have hX := trimmed_nm hd
  have HX := Lib.hid hX
  clear hX
  go_enter Try.func29, Try.ntmps29
  go_wp2_with fail
  refine (ltrim_sl w B A n c xs hs).mono ?_; rintro e w1 ⟨m, rfl, h3, h4, rfl⟩
  by_cases h0 : m = 0
  · subst h0
    go_wp2
    go_ret
    refine ⟨0, rfl, ⟨?_, fun h => absurd rfl h⟩, rfl⟩
    have : trimmed xs = [] := List.eq_nil_of_length_eq_zero h3.len.symm
    rw [← HX.out.2.2, this]
    decide
  · obtain ⟨t, rfl⟩ : ∃ t, m = t + 1 := ⟨m - 1, by omega⟩
    obtain ⟨b, off, x, rfl, hb, hx, hc⟩ := h3.at_ (k := t) (by omega)
    have hbt := bits_top HX.out h3.len.symm hx
    have hxl := lt64.1 (HX.out.1.get hx)
    obtain ⟨k, hk⟩ : ∃ k, Lib.bitLen x = k := ⟨_, rfl⟩
    rw [hk] at hbt
    have hk64 := hbt.2
    have HBT := Lib.hid hbt
    have HK := Lib.hid hk
    have HXX := Lib.hid hx
    have HXL := Lib.hid hxl
    clear hbt hk hx hxl
    have hm0 : (((t + 1 : Nat) : Int) == 0) = false := by simp; omega
    go_wp2_with (go_at_call 51; refine (Try.bits_Len64 (x : Int) _ (by omega) (by have := HXL.out; omega)).mono ?_; rw [Int.toNat_natCast, HK.out]; rintro e w2 ⟨rfl, rfl⟩)
    go_ret
    exact ⟨t * 64 + k, ret_i64 (by omega), HBT.out.1, rfl⟩
end Go.Proofs.Ytfiakaenenbhpaa
