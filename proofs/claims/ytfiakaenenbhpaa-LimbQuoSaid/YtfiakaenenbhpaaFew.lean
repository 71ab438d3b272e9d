/- The law's Cut and few. -/
import Derived.Test.YtfiakaenenbhpaaTrim
import Derived.Test.YtfiakaenenbhpaaLaws
namespace Go.Proofs.Ytfiakaenenbhpaa
open Go.RowKit

set_option maxHeartbeats 400000 in
theorem cut_any (w : World) (B : Nat) (A : Option Addr) (n c : Nat) (xs : List Nat) (hs : Sl w B A n c xs) (k : Nat) (hk : k ≤ 1000000) :
    Calls Try.prog 35 #[.slice A n c, .int .i64 k] w fun e w' => RetS w (xs.take k) e w' := by
  have hlc := hs.cap
  have hm := hs.max
  by_cases h : n < k
  · have e : xs.take k = xs.take n := by rw [List.take_of_length_le (by rw [← hs.len]; omega), List.take_of_length_le (by rw [← hs.len]; omega)]
    rw [e]
    have HS := hs.take (Nat.le_refl n)
    go_enter Try.func35, Try.ntmps35
    go_wp2_with (at_builtin; refine wl_append_nil rfl _ _ Try.underlying23 rfl A n c (xs.take n) rfl B HS (by omega) ?_; intro A' c' w1 h1 h2)
    go_ret
    exact ⟨A', n, c', rfl, h1, h2⟩
  · have HS := hs.take (k := k) (by omega)
    go_enter Try.func35, Try.ntmps35
    go_wp2_with (at_builtin; refine wl_append_nil rfl _ _ Try.underlying23 rfl A k c (xs.take k) rfl B HS (by omega) ?_; intro A' c' w1 h1 h2)
    go_ret
    exact ⟨A', k, c', rfl, h1, h2⟩

set_option maxHeartbeats 400000 in
theorem few_any (w : World) (B : Nat) (A : Option Addr) (n c : Nat) (xs : List Nat) (hs : Sl w B A n c xs) :
    Calls Try.prog 9 #[.slice A n c] w fun e w' => RetS w (xs.take 20) e w' := by
  go_enter Try.func9, Try.ntmps9
  go_wp2_with (go_at_call 35; refine (cut_any _ B A n c xs hs 20 (by decide)).mono ?_; rintro e w1 ⟨A', n', c', rfl, h1, h2⟩)
  go_ret
  exact ⟨A', n', c', rfl, h1, h2⟩
end Go.Proofs.Ytfiakaenenbhpaa
