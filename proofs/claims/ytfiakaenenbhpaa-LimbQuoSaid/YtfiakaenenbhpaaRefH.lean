/- The reference's Bits, Bytes. -/
import Derived.Test.YtfiakaenenbhpaaRefG
namespace Go.Proofs.Ytfiakaenenbhpaa
open Go.RowKit

theorem bits_topq {q : Nat} {xs : List Nat} {m x N t : Nat} (h : Nm (2 ^ q) xs N) (hm : xs.length = m + 1) (hx : xs[m]? = some x) (h1 : x < 2 ^ t) (h2 : t ≠ 0 → 2 ^ (t - 1) ≤ x) : IsBits N (q * m + t) := by
  have hx0 : x ≠ 0 := by
    refine h.2.1 x ?_
    rw [List.getLast?_eq_getElem?, hm]
    simpa using hx
  have ht : t ≠ 0 := by intro e; subst e; simp at h1; exact hx0 h1
  have h2' := h2 ht
  have hN : N = V (2 ^ q) (xs.take m) + (2 ^ q) ^ m * x := by
    rw [← h.2.2, ← V_take_succ hx, List.take_of_length_le (by omega)]
  have hlt := V_lt (xs.take m) (h.1.take m)
  rw [List.length_take, Nat.min_eq_left (by omega)] at hlt
  rw [← Nat.pow_mul] at hN hlt
  refine ⟨?_, fun _ => ?_⟩
  · rw [Nat.pow_add]
    have := Nat.mul_le_mul_left (2 ^ (q * m)) h1
    rw [Nat.mul_succ] at this
    omega
  · rw [show q * m + t - 1 = q * m + (t - 1) by omega, Nat.pow_add]
    have := Nat.mul_le_mul_left (2 ^ (q * m)) h2'
    omega

set_option maxRecDepth 100000 in
set_option maxHeartbeats 800000 in
theorem rbits_any (w : World) (B : Nat) (A : Option Addr) (n c : Nat) (xs : List Nat) (hs : Sl w B A n c xs) (N : Nat) (hN : Nm b32 xs N) (hn : n ≤ 1000000000) :
    Calls Try.prog 26 #[.slice A n c] w fun e w' => ∃ k : Nat, e = .returned (.int .i64 (k : Int)) ∧ IsBits N k ∧ w = w' := by
  have HN := Lib.hid hN
  clear hN
  by_cases h0 : n = 0
  · subst h0
    go_enter Try.func26, Try.ntmps26
    go_wp2
    go_ret
    refine ⟨0, rfl, ⟨?_, fun h => absurd rfl h⟩, rfl⟩
    have : xs = [] := List.eq_nil_of_length_eq_zero hs.len.symm
    rw [← HN.out.2.2, this]
    decide
  · obtain ⟨m, rfl⟩ : ∃ m, n = m + 1 := ⟨n - 1, by omega⟩
    obtain ⟨b, off, x, rfl, hb, hx, hc⟩ := hs.at_ (k := m) (by omega)
    have hxl := lt32.1 (HN.out.1.get hx)
    have HX := Lib.hid hx
    have HXL := Lib.hid hxl
    clear hx hxl
    have hm0 : (((m + 1 : Nat) : Int) == 0) = false := by simp; omega
    have hm1 : ((m + 1 : Nat) : Int) - 1 = (m : Int) := by omega
    go_enter Try.func26, Try.ntmps26
    go_wp2_with fail
    go_loopw [4, 5] (fun kv tv wr => ∃ t y : Nat, kv = .int .i64 (t : Nat) ∧ tv = .int .u64 ((y : Nat) : Int) ∧ y = x / 2 ^ t ∧ (t ≠ 0 → 2 ^ (t - 1) ≤ x) ∧ t ≤ 32 ∧ wr = w) (fun kv _ _ => 64 - (intOf kv).toNat)
    case atStart => exact ⟨0, x, rfl, rfl, by simp, fun h => absurd rfl h, by omega, rfl⟩
    case round =>
      obtain ⟨t, y, rfl, rfl, hy, ht, ht32, rfl⟩ := hrel
      have HY := Lib.hid hy
      have HT := Lib.hid ht
      clear hy ht
      by_cases hlt : 0 < y
      · have hyi : (0 : Int) < y := by omega
        have h2 : 2 ^ t ≤ x := by
          have := HY.out
          exact (Nat.div_pos_iff.1 (by omega)).2
        have ht31 : t < 32 := by
          apply Classical.byContradiction
          intro h
          have h3 : 2 ^ 32 ≤ 2 ^ t := Nat.pow_le_pow_right (by decide) (by omega)
          have h4 := HXL.out
          have h5 : (2 : Nat) ^ 32 = 4294967296 := by decide
          omega
        have hyl : (y : Int) < 4294967296 := by
          have h6 := HY.out
          have h7 := Nat.div_le_self x (2 ^ t)
          have h8 := HXL.out
          omega
        have H2 := Lib.hid h2
        clear h2
        go_wp2
        go_roundw
        case rel => exact ⟨t + 1, y / 2, by go_num, by go_num, by rw [HY.out, Nat.div_div_eq_div_mul, Nat.pow_succ], fun _ => by simpa using H2.out, by omega, by trivial⟩
        case measure => simp [intOf]; omega
      · obtain rfl : y = 0 := by omega
        have hyi : ¬ (0 : Int) < (0 : Nat) := by omega
        have hx1 : x < 2 ^ t := by
          have := HY.out
          exact (Nat.div_eq_zero_iff_lt (Nat.pow_pos (by decide))).1 this.symm
        have HX1 := Lib.hid hx1
        clear hx1
        go_wp2
        go_ret
        exact ⟨32 * m + t, ret_i64 (by omega), bits_topq (q := 32) HN.out hs.len.symm HX.out HX1.out HT.out, rfl⟩

/-- a byte of a number, out of its digit -/
theorem byte_ofq {q : Nat} (hq : 0 < q) {xs : List Nat} {N j x : Nat} (h : V (256 ^ q) xs = N) (hd : Dg (256 ^ q) xs) (hx : xs[j / q]?.getD 0 = x) : N / 256 ^ j % 256 = x / 256 ^ (j % q) % 256 := by
  have e1 : 256 ^ j = (256 ^ q) ^ (j / q) * 256 ^ (j % q) := by
    rw [← Nat.pow_mul, ← Nat.pow_add, Nat.div_add_mod]
  have hlt := Nat.mod_lt j hq
  obtain ⟨r, hr⟩ : ∃ r, q = j % q + (r + 1) := ⟨q - j % q - 1, by omega⟩
  have e3 : 256 ^ q = 256 ^ (j % q) * (256 * 256 ^ r) := by
    rw [← Nat.pow_succ', ← Nat.pow_add, ← hr]
  rw [e1, ← Nat.div_div_eq_div_mul, ← h, div_pow_digits (Nat.pow_pos (by decide)) xs hd, hx]
  generalize V (256 ^ q) (xs.drop (j / q + 1)) = T
  rw [e3, Nat.mul_assoc, Nat.mul_comm (256 ^ (j % q)), Nat.add_mul_div_right _ _ (Nat.pow_pos (by decide)), Nat.mul_assoc, Nat.add_mul_mod_self_left]
end Go.Proofs.Ytfiakaenenbhpaa
