/- The reference's Is and Cmp. -/
import Derived.Test.YtfiakaenenbhpaaRefB
import Derived.Test.YtfiakaenenbhpaaMathB
namespace Go.Proofs.Ytfiakaenenbhpaa
open Go.RowKit

/-- the function returns v, all else being as it was -/
def RetV (w : World) (v : Value) (e : Ending) (w' : World) : Prop := e = .returned v ∧ Below w.heap.size w w'

set_option maxRecDepth 100000 in
set_option maxHeartbeats 400000 in
theorem is_any (w : World) (B : Nat) (hB : B ≤ w.heap.size) (A1 : Option Addr) (n1 c1 : Nat) (xs : List Nat) (hs1 : Sl w B A1 n1 c1 xs) (A : Option Addr) (n c : Nat) (ds : List Nat) (hs : Sl w B A n c ds) (N : Nat) (hX : Nm b64 xs N) (hN : Nm b32 ds N) (hn : n ≤ 1000000000) :
    Calls Try.prog 11 #[.slice A1 n1 c1, .slice A n c] w fun e w' => RetV w (.bool true) e w' := by
  have hlc1 := hs1.cap
  have hm1 := hs1.max
  go_enter Try.func11, Try.ntmps11
  go_wp2_with (go_at_call 37; refine (to_any _ B hB _ _ _ ds hs N hN hn).mono ?_; rintro e w1 ⟨ys, hY, A2, n2, c2, rfl, hs2, hb⟩; obtain rfl := nm_unique (by decide) hY hX; have hn12 : n2 = n1 := (by rw [hs1.len, hs2.len]); subst hn12)
  have hs1' := hs1.below (hb.mono hB)
  have hlc2 := hs2.cap
  have hm2 := hs2.max
  go_wp2
  go_loopw [6] (fun i wr => ∃ k q : Nat, k ≤ n2 ∧ i = .int .i64 (k : Nat) ∧ wr = w1.drewN q) (fun i _ => n2 - (intOf i).toNat)
  case atStart => exact ⟨0, 0, Nat.zero_le _, rfl, rfl⟩
  case round =>
    obtain ⟨k, q, hk, rfl, rfl⟩ := hrel
    by_cases hlt : k < n2
    · obtain ⟨b, off, x, rfl, _, hx, hc⟩ := hs1'.at_ hlt
      obtain ⟨b', off', x', rfl, _, hx', hc'⟩ := hs2.at_ hlt
      rw [hx] at hx'
      injection hx' with hx'
      subst hx'
      clear hx
      have hkn : (k : Int) < n2 := by omega
      have hk0 : (0 : Int) ≤ k := by omega
      go_wp2
      go_quiet (fail)
      go_wp2
      go_roundw
      case rel => exact ⟨k + 1, _, by omega, by go_num, rfl⟩
      case measure => simp [intOf]; omega
    · go_wp2
      go_ret
      exact ⟨rfl, below_drewN hb _⟩

set_option maxRecDepth 100000 in
set_option maxHeartbeats 400000 in
theorem rcmp_any (w : World) (B : Nat) (A1 : Option Addr) (n1 c1 : Nat) (xs : List Nat) (hs1 : Sl w B A1 n1 c1 xs) (B2 : Nat) (A2 : Option Addr) (n2 c2 : Nat) (ys : List Nat) (hs2 : Sl w B2 A2 n2 c2 ys) (N M : Nat) (hN : Nm b32 xs N) (hM : Nm b32 ys M) :
    Calls Try.prog 18 #[.slice A1 n1 c1, .slice A2 n2 c2] w fun e w' => e = .returned (.int .i64 (ncmp N M)) ∧ ∃ q, w' = w.drewN q := by
  have hlc1 := hs1.cap
  have hm1 := hs1.max
  have hlc2 := hs2.cap
  have hm2 := hs2.max
  have hD := hN.1
  have hD2 := hM.1
  by_cases hne : n1 = n2
  · subst hne
    have HL : Hid (xs.length = ys.length) := by rw [← hs1.len, ← hs2.len]; exact rfl
    have hL1 := Lib.hid hs1.len
    have hnn : ((n1 : Int) != n1) = false := by simp
    go_enter Try.func18, Try.ntmps18
    go_wp2
    go_loopw [5] (fun i wr => ∃ k q : Nat, k ≤ n1 ∧ i = .int .i64 ((k : Int) - 1) ∧ xs.drop k = ys.drop k ∧ wr = w.drewN q) (fun i _ => (intOf i + 1).toNat)
    case atStart => exact ⟨n1, 0, Nat.le_refl _, rfl, by rw [List.drop_of_length_le (by rw [hL1.out]; omega), List.drop_of_length_le (by rw [← HL.out, hL1.out]; omega)], rfl⟩
    case round =>
      obtain ⟨k, q, hk, rfl, he, rfl⟩ := hrel
      have HE := Lib.hid he
      clear he
      by_cases h0 : k = 0
      · subst h0
        have he := HE.out
        simp only [List.drop_zero] at he
        have e0 : Hid (ncmp N M = 0) := by show _ = _; rw [← hN.2.2, ← hM.2.2, he, ncmp_eq]
        go_wp2
        go_ret
        exact ⟨by rw [e0.out]; rfl, _, by first | rfl | (simp only [World.drewN_drewN]; rfl)⟩
      · obtain ⟨m, rfl⟩ : ∃ m, k = m + 1 := ⟨k - 1, by omega⟩
        obtain ⟨b, off, x, rfl, _, hx, hc⟩ := hs1.at_ (k := m) (by omega)
        obtain ⟨b', off', y, rfl, _, hy, hc'⟩ := hs2.at_ (k := m) (by omega)
        have HX := Lib.hid hx
        have HY := Lib.hid hy
        clear hx hy
        have hmn : (m : Int) < n1 := by omega
        have hm0 : (0 : Int) ≤ m := by omega
        have hmm : (0 : Int) ≤ ((m + 1 : Nat) : Int) - 1 := by omega
        rcases Nat.lt_trichotomy x y with h | h | h
        · have e0 : Hid (ncmp N M = -1) := ncmp_lt (by rw [← hN.2.2, ← hM.2.2]; exact cmp_lt hD HL.out HX.out HY.out HE.out h)
          have hxy : (x : Int) < y := by omega
          go_wp2
          go_quiet (fail)
          go_wp2
          go_ret
          exact ⟨by rw [e0.out]; rfl, _, by first | rfl | (simp only [World.drewN_drewN]; rfl)⟩
        · subst h
          go_wp2
          go_quiet (fail)
          go_wp2
          go_quiet (fail)
          go_wp2
          go_roundw
          case rel => exact ⟨m, _, by omega, by go_num, drop_eq_of HX.out HY.out HE.out, rfl⟩
          case measure => simp [intOf]
        · have e0 : Hid (ncmp N M = 1) := ncmp_gt (by rw [← hN.2.2, ← hM.2.2]; exact cmp_lt hD2 HL.out.symm HY.out HX.out HE.out.symm h)
          have hxy : (y : Int) < x := by omega
          have hxy' : ¬ (x : Int) < y := by omega
          go_wp2
          go_quiet (fail)
          go_wp2
          go_quiet (fail)
          go_wp2
          go_ret
          exact ⟨by rw [e0.out]; rfl, _, by first | rfl | (simp only [World.drewN_drewN]; rfl)⟩
  · rcases Nat.lt_or_gt_of_ne hne with h | h
    · have e0 : ncmp N M = -1 := ncmp_lt (by rw [← hN.2.2, ← hM.2.2]; exact lt_of_length hD (by decide) hM.2.1 (by rw [← hs1.len, ← hs2.len]; exact h))
      rw [e0]
      have hni : ((n1 : Int) != n2) = true := by simp; omega
      have hlt : (n1 : Int) < n2 := by omega
      go_enter Try.func18, Try.ntmps18
      go_wp2
      go_ret
      exact ⟨rfl, 0, rfl⟩
    · have e0 : ncmp N M = 1 := ncmp_gt (by rw [← hN.2.2, ← hM.2.2]; exact lt_of_length hD2 (by decide) hN.2.1 (by rw [← hs1.len, ← hs2.len]; exact h))
      rw [e0]
      have hni : ((n1 : Int) != n2) = true := by simp; omega
      have hlt : ¬ (n1 : Int) < n2 := by omega
      go_enter Try.func18, Try.ntmps18
      go_wp2
      go_ret
      exact ⟨rfl, 0, rfl⟩
end Go.Proofs.Ytfiakaenenbhpaa
