/- limb.trim, the reference's trim. -/
import Derived.Test.YtfiakaenenbhpaaBase
namespace Go.Proofs.Ytfiakaenenbhpaa
open Go.RowKit

def lenOf : Value → Nat | .slice _ n _ => n | _ => 0

set_option maxHeartbeats 400000 in
theorem ltrim_any (w : World) (B : Nat) (A : Option Addr) (N c : Nat) (xs : List Nat) (hs : Sl w B A N c xs) :
    Calls Try.prog 38 #[.slice A N c] w fun e w' => e = .returned (.slice A (trimL xs N) c) ∧ w = w' := by
  have hlc := hs.cap
  have hm := hs.max
  have HL := Lib.hid hs.len
  go_enter Try.func38, Try.ntmps38
  go_wp2
  go_loop [0] (fun s => ∃ n, n ≤ N ∧ s = .slice A n c ∧ trimL xs n = trimL xs N) (fun s => lenOf s)
  case atStart => exact ⟨_, Nat.le_refl _, rfl, rfl⟩
  case round =>
    obtain ⟨n, hn, rfl, ht⟩ := hrel
    have HT := Lib.hid ht
    clear ht
    by_cases h0 : n = 0
    · subst h0
      go_wp2
      go_ret
      have := HT.out
      simp only [trimL] at this
      rw [← this]
      exact ⟨rfl, rfl⟩
    · obtain ⟨m, rfl⟩ : ∃ m, n = m + 1 := ⟨n - 1, by omega⟩
      obtain ⟨b, off, x, rfl, _, hx, hc⟩ := hs.at_ (k := m) (by omega)
      have hp : (0 : Int) < ((m + 1 : Nat) : Int) := by omega
      have HX := Lib.hid hx
      clear hx
      by_cases hz : x = 0
      · have hzb : (((x : Nat) : Int) == 0) = true := by simpa using hz
        have HZ := Lib.hid hz
        clear hz
        go_wp2
        go_round
        case rel => exact ⟨m, by omega, rfl, by rw [← HT.out, trimL_zero (by rw [HX.out, HZ.out])]⟩
        case measure => simp [lenOf]
      · have hzb : (((x : Nat) : Int) == 0) = false := by simpa using hz
        have HZ := Lib.hid hz
        clear hz
        go_wp2
        go_ret
        have h := HT.out
        rw [trimL_pos HX.out HZ.out] at h
        rw [← h]
        exact ⟨rfl, rfl⟩

/-- 's[:n:n]' -/
theorem rtrim_any (w : World) (B : Nat) (A : Option Addr) (N c : Nat) (xs : List Nat) (hs : Sl w B A N c xs) :
    Calls Try.prog 36 #[.slice A N c] w fun e w' => e = .returned (.slice A (trimL xs N) (trimL xs N)) ∧ w = w' := by
  have hlc := hs.cap
  have hm := hs.max
  have HL := Lib.hid hs.len
  go_enter Try.func36, Try.ntmps36
  go_wp2
  go_loop [3] (fun s => ∃ n : Nat, n ≤ N ∧ s = .int .i64 n ∧ trimL xs n = trimL xs N) (fun s => (intOf s).toNat)
  case atStart => exact ⟨_, Nat.le_refl _, rfl, rfl⟩
  case round =>
    obtain ⟨n, hn, rfl, ht⟩ := hrel
    have HT := Lib.hid ht
    clear ht
    by_cases h0 : n = 0
    · subst h0
      go_wp2
      go_ret
      have := HT.out
      simp only [trimL] at this
      rw [← this]
      exact ⟨rfl, rfl⟩
    · obtain ⟨m, rfl⟩ : ∃ m, n = m + 1 := ⟨n - 1, by omega⟩
      obtain ⟨b, off, x, rfl, _, hx, hc⟩ := hs.at_ (k := m) (by omega)
      have hp : (0 : Int) < ((m + 1 : Nat) : Int) := by omega
      have HX := Lib.hid hx
      clear hx
      by_cases hz : x = 0
      · have hzb : (((x : Nat) : Int) == 0) = true := by simpa using hz
        have HZ := Lib.hid hz
        clear hz
        go_wp2
        go_round
        case rel => exact ⟨m, by omega, rfl, by rw [← HT.out, trimL_zero (by rw [HX.out, HZ.out])]⟩
        case measure => simp [intOf]
      · have hzb : (((x : Nat) : Int) == 0) = false := by simpa using hz
        have HZ := Lib.hid hz
        clear hz
        go_wp2
        go_ret
        have h := HT.out
        rw [trimL_pos HX.out HZ.out] at h
        rw [← h]
        exact ⟨rfl, rfl⟩
theorem sl_trim {w : World} {B N c : Nat} {A : Option Addr} {xs : List Nat} (hs : Sl w B A N c xs) : Sl w B A (trimL xs N) c (trimmed xs) := by
  have h := hs.take (k := trimL xs N) (trimL_le _ _)
  unfold trimmed
  rw [← hs.len]
  exact h
theorem sl_trim2 {w : World} {B N c : Nat} {A : Option Addr} {xs : List Nat} (hs : Sl w B A N c xs) : Sl w B A (trimL xs N) (trimL xs N) (trimmed xs) := by
  have h := sl_trim hs
  exact ⟨h.len, Nat.le_refl _, Nat.le_trans h.cap h.max, h.rd⟩
/-- as callers want it -/
theorem ltrim_sl (w : World) (B : Nat) (A : Option Addr) (N c : Nat) (xs : List Nat) (hs : Sl w B A N c xs) :
    Calls Try.prog 38 #[.slice A N c] w fun e w' => ∃ m, e = .returned (.slice A m c) ∧ Sl w B A m c (trimmed xs) ∧ m ≤ N ∧ w = w' :=
  (ltrim_any w B A N c xs hs).mono fun _ _ ⟨he, hw⟩ => ⟨_, he, sl_trim hs, trimL_le _ _, hw⟩
theorem rtrim_sl (w : World) (B : Nat) (A : Option Addr) (N c : Nat) (xs : List Nat) (hs : Sl w B A N c xs) :
    Calls Try.prog 36 #[.slice A N c] w fun e w' => ∃ m, e = .returned (.slice A m m) ∧ Sl w B A m m (trimmed xs) ∧ m ≤ N ∧ w = w' :=
  (rtrim_any w B A N c xs hs).mono fun _ _ ⟨he, hw⟩ => ⟨_, he, sl_trim2 hs, trimL_le _ _, hw⟩
end Go.Proofs.Ytfiakaenenbhpaa
