/- limb.Bit, Each. -/
import Derived.Test.YtfiakaenenbhpaaLimbJ
import Derived.WalkSmall
namespace Go.Proofs.Ytfiakaenenbhpaa
open Go.RowKit Go.Shelf

theorem bit_of {xs : List Nat} {N j x : Nat} (h : V b64 xs = N) (hd : Dg b64 xs) (hx : xs[j / 64]?.getD 0 = x) : N / 2 ^ j % 2 = x / 2 ^ (j % 64) % 2 := by
  have e1 : 2 ^ j = b64 ^ (j / 64) * 2 ^ (j % 64) := by
    rw [show b64 = 2 ^ 64 from rfl, ← Nat.pow_mul, ← Nat.pow_add]
    congr 1
    omega
  have e3 : b64 = 2 ^ (j % 64) * (2 * 2 ^ (63 - j % 64)) := by
    rw [← Nat.pow_succ', ← Nat.pow_add, show j % 64 + (63 - j % 64 + 1) = 64 by omega]
    rfl
  rw [e1, ← Nat.div_div_eq_div_mul, ← h, div_pow_digits b64_pos xs hd, hx]
  generalize V b64 (xs.drop (j / 64 + 1)) = T
  rw [e3, Nat.mul_assoc, Nat.mul_comm (2 ^ (j % 64)), Nat.add_mul_div_right _ _ (Nat.pow_pos (by decide)), Nat.mul_assoc, Nat.add_mul_mod_self_left]

set_option maxRecDepth 100000 in
set_option maxHeartbeats 800000 in
theorem bit_any (w : World) (B : Nat) (A : Option Addr) (n c : Nat) (xs : List Nat) (hs : Sl w B A n c xs) (hd : Dg b64 xs) (i : Nat) (hi : i ≤ 9223372036854775807) :
    Calls Try.prog 30 #[.slice A n c, .int .i64 (i : Int)] w fun e w' => e = .returned (.int .u64 ((V b64 xs / 2 ^ i % 2 : Nat) : Int)) ∧ w = w' := by
  have hlc := hs.cap
  have hmx := hs.max
  have hi0 : ¬ (i : Int) < 0 := by omega
  by_cases hlt : i / 64 < n
  · obtain ⟨b, off, x, rfl, hb, hx, hc⟩ := hs.at_ hlt
    have hbt := bit_of (j := i) rfl hd (by rw [hx])
    rw [hbt]
    have hge : ¬ (n : Int) ≤ (i : Int) / 64 := by omega
    have hi2 : (i : Int) / 64 < n := by omega
    have hxl := lt64.1 (hd.get hx)
    obtain ⟨y, hy⟩ : ∃ y, x / 2 ^ (i % 64) = y := ⟨_, rfl⟩
    have hyl : y < 18446744073709551616 := by rw [← hy]; exact Nat.lt_of_le_of_lt (Nat.div_le_self _ _) hxl
    have HY := Lib.hid hy
    have HYL := Lib.hid hyl
    clear hbt hx hxl hy hyl
    go_enter Try.func30, Try.ntmps30
    go_wp2
    go_ret
    refine ⟨?_, rfl⟩
    have ha := and_one_u64 (y : Int) (by omega) (by have := HYL.out; omega)
    show Ending.returned (Value.int IntKind.u64 (bits BinOp.and IntKind.u64 ((x / 2 ^ (i % 64) : Nat) : Int) 1)) = _
    rw [HY.out, ha, ← HY.out]
    rfl
  · have hbt := bit_of (j := i) rfl hd (by rw [List.getElem?_eq_none (by rw [← hs.len]; omega)])
    rw [hbt]
    have hge : (n : Int) ≤ (i : Int) / 64 := by omega
    clear hbt
    go_enter Try.func30, Try.ntmps30
    go_wp2
    go_ret
    exact ⟨by simp, rfl⟩

attribute [local go_sem] Oper.semAt_some
abbrev encE (N k : Nat) : Ix k → Array Value := fun i => #[.int .i64 (i.1 : Int), .int .u64 ((N / 2 ^ i.1 % 2 : Nat) : Int)]

set_option maxRecDepth 100000 in
set_option maxHeartbeats 2000000 in
theorem each1_in (nn : Nat) (hn : 1 ≤ nn) (l Bs n₀ n c : Nat) (A : Option Addr) (xs : List Nat) (k0 : Nat) (hk0 : IsBits (V b64 xs) k0) (hd : Dg b64 xs) (hk1 : k0 ≤ 4611686018427387904) (hn1 : n ≤ 17592186044416) (J Jx : List (Ix k0) → World → Prop)
    (hY : ∀ pre x W, J pre W → pre.length < k0 → YieldAt Fence.wide (nn - 1) Try.prog l (encE (V b64 xs) k0 x) W fun e W' =>
      (e = .returned (.bool true) ∧ J (pre ++ [x]) W' ∧ KpB n₀ Bs W W') ∨ (e = .returned (.bool false) ∧ Jx (pre ++ [x]) W'))
    (W : World) (hBs : W.cell? ⟨Bs, 0, none⟩ = some (.slice A n c)) (hs : Sl W n₀ A n c xs) (h0 : J [] W) :
    CallsIn Fence.wide nn Try.prog 50 #[.func (.yield l) #[] #[], .pointer (some ⟨Bs, 0, none⟩)] W fun e W' => (∃ v, e = .returned v) ∧
      ((∃ ys : List (Ix k0), ys.map (·.1) = downL k0 k0 ∧ J ys W') ∨ (∃ pre : List (Ix k0), (∃ k, k ≤ k0 ∧ pre.map (·.1) = downL k0 k) ∧ Jx pre W')) := by
  refine callsIn_of_wp Try.func50 rfl trivial ?_ rfl
  simp only [Try.ntmps50, List.size_toArray, List.length_cons, List.length_nil, Nat.reduceAdd, Nat.reduceSub, Array.replicate_succ, Array.replicate_zero, List.push_toArray, List.append_toArray, List.nil_append, List.cons_append]
  gi_wp2_with (refine ⟨trivial, ?_⟩; gi_at_call 29; refine (callsIn_wide.2 (bits_any W n₀ A n c xs hs hd hn1)).mono ?_; rintro e W' ⟨k1, rfl, hk, rfl⟩; obtain rfl := hk0.unique hk; clear hk)
  gi_loopw [3] (fun i wr => ∃ (m : Nat) (pre : List (Ix k0)), m ≤ k0 ∧ i = .int .i64 ((m : Int) - 1) ∧ pre.map (·.1) = downL k0 (k0 - m) ∧ J pre wr ∧ KpB n₀ Bs W wr)
    (fun i _ => (intOf i + 1).toNat)
  case atStart => exact ⟨k0, [], Nat.le_refl _, rfl, by simp [downL], h0, KpB.refl _ _ _⟩
  case round =>
    obtain ⟨m, pre, hm, rfl, hpre, hJs, hnx⟩ := hrel
    have HP := Lib.hid hpre
    clear hpre
    by_cases hm0 : m = 0
    · subst hm0
      gi_wp2
      go_end0
      exact ⟨⟨_, rfl⟩, .inl ⟨pre, HP.out, hJs⟩⟩
    · obtain ⟨t, rfl⟩ : ∃ t, m = t + 1 := ⟨m - 1, by omega⟩
      have hBc : wr.cell? ⟨Bs, 0, none⟩ = some (.slice A n c) := (World.cell?_of_block (a := ⟨Bs, 0, none⟩) hnx.2).trans hBs
      have hsr := hs.below hnx.1
      have hpl : pre.length < k0 := by
        have := congrArg List.length HP.out
        rw [List.length_map, downL_length] at this
        omega
      obtain ⟨fn, tmps, assign, body, hy, hR⟩ := hY pre ⟨t, by omega⟩ wr hJs hpl
      dsimp only [encE] at hy
      obtain ⟨bv, hbv⟩ : ∃ bv, V b64 xs / 2 ^ t % 2 = bv := ⟨_, rfl⟩
      have hbt := bit_any wr n₀ A n c xs hsr hd t (by omega)
      rw [hbv] at hy hbt
      have HBT := Lib.hid hbt
      clear hbt hbv
      have ht0 : (0 : Int) ≤ ((t + 1 : Nat) : Int) - 1 := by omega
      gi_wp2_with (refine ⟨trivial, ?_⟩; gi_at_call 30; refine (callsIn_wide.2 HBT.out).mono ?_; rintro e W' ⟨rfl, rfl⟩)
      refine hR.mono ?_
      rintro e W3 (⟨rfl, hJ3, hk3⟩ | ⟨rfl, hJx3⟩)
      · gi_wp2
        go_roundw
        case rel => exact ⟨t, pre ++ [⟨t, by omega⟩], by omega, by go_num, by rw [List.map_append, HP.out, show k0 - t = (k0 - (t + 1)) + 1 by omega, downL_succ]; simp; omega, hJ3, hnx.trans hk3⟩
        case measure => simp [intOf]
      · gi_wp2
        refine bodyPost_ret (results_none rfl _ _ _) rfl ?_
        exact ⟨⟨_, rfl⟩, .inr ⟨_, ⟨k0 - t, by omega, by rw [List.map_append, HP.out, show k0 - t = (k0 - (t + 1)) + 1 by omega, downL_succ]; simp; omega⟩, hJx3⟩⟩

theorem each_stops (nn : Nat) (hn : 1 ≤ nn) (Bs n₀ n c : Nat) (A : Option Addr) (xs : List Nat) (k0 : Nat) (hk0 : IsBits (V b64 xs) k0) (hd : Dg b64 xs) (hk1 : k0 ≤ 4611686018427387904) (hn1 : n ≤ 17592186044416) (w : World) (hBs : Bs < w.heap.size) (hn₀ : n₀ ≤ w.heap.size)
    (hc : w.cell? ⟨Bs, 0, none⟩ = some (.slice A n c)) (hI : Sl w n₀ A n c xs) :
    SeqStopsK Fence.wide nn Try.prog 50 #[.pointer (some ⟨Bs, 0, none⟩)] (encE (V b64 xs) k0) (KpB n₀ Bs) (fun ys => ys.map (·.1) = downL k0 k0) (fun pre => ∃ k, k ≤ k0 ∧ pre.map (·.1) = downL k0 k) k0 w := fun l J Jx W hW _ _ hY h0 => by
  have hc' := (hW.cell (p := ⟨Bs, 0, none⟩) hBs).trans hc
  exact each1_in nn hn l Bs n₀ n c A xs k0 hk0 hd hk1 hn1 J Jx hY W hc' (hI.below (hW.mono hn₀)) h0

set_option maxRecDepth 100000 in
set_option maxHeartbeats 800000 in
/-- Each boxes a copy, and hands back the iterator over it. -/
theorem each_any (w : World) (B : Nat) (A : Option Addr) (n c : Nat) (xs : List Nat) (hs : Sl w B A n c xs) (hd : Dg b64 xs) (hn : n ≤ 17592186044416) :
    Calls Try.prog 27 #[.slice A n c] w fun e w' => ∃ g A2 n2 c2 ys, e = .returned (.func (.func 50) #[] #[.pointer (some ⟨g, 0, none⟩)]) ∧ Nm b64 ys (V b64 xs) ∧ g < w'.heap.size ∧ w'.cell? ⟨g, 0, none⟩ = some (.slice A2 n2 c2) ∧ Sl w' w'.heap.size A2 n2 c2 ys ∧ Below w.heap.size w w' := by
  go_enter Try.func27, Try.ntmps27
  go_wp2_with (go_at_call 16; refine (norm_any w B A n c xs hs hd hn).mono ?_; rintro e w1 ⟨ys, hN, A2, n2, c2, rfl, hs2, hb⟩)
  go_ret
  refine ⟨w1.heap.size, A2, n2, c2, ys, rfl, hN, by simp, by simp, ?_, hb.alloc hb.size _⟩
  exact (hs2.below ((Below.refl _ w1).alloc (Nat.le_refl _) _)).more (by simp)
end Go.Proofs.Ytfiakaenenbhpaa
