/- The reference's To and Is. -/
import Derived.Test.YtfiakaenenbhpaaRefA
import Derived.Deep.QuietTactic
namespace Go.Proofs.Ytfiakaenenbhpaa
open Go.RowKit

theorem to_pair {ds ys : List Nat} {k x y : Nat} (hl : ys.length = k) (hv : V b64 ys = V b32 (ds.take (2 * k))) (hx : ds[2 * k]? = some x) (hy : ds[2 * k + 1]? = some y) :
    V b64 (ys ++ [x + y * b32]) = V b32 (ds.take (2 * (k + 1))) := by
  rw [show 2 * (k + 1) = 2 * k + 1 + 1 by omega, V_take_succ hy, V_take_succ hx, V_append, hv, hl, Nat.add_assoc]
  rw [V_cons, V_nil, Nat.mul_zero, Nat.add_zero, b64_eq, Nat.mul_pow, ← Nat.pow_add, ← Nat.two_mul, Nat.pow_succ, Nat.mul_assoc, ← Nat.mul_add, Nat.mul_comm y]
theorem to_one {ds ys : List Nat} {k x : Nat} (hl : ys.length = k) (hv : V b64 ys = V b32 (ds.take (2 * k))) (hx : ds[2 * k]? = some x) (hn : 2 * k + 1 = ds.length) :
    V b64 (ys ++ [x]) = V b32 (ds.take (2 * (k + 1))) := by
  rw [List.take_of_length_le (i := 2 * (k + 1)) (by omega), ← List.take_length (l := ds), ← hn, V_take_succ hx, V_append, hv, hl]
  simp only [V, Nat.mul_zero, Nat.add_zero]
  rw [b64_eq, Nat.mul_pow, ← Nat.pow_add, ← Nat.two_mul]
theorem to_end {ds ys : List Nat} {k N : Nat} (hl : ys.length = k) (hd : Dg b64 ys) (hv : V b64 ys = V b32 (ds.take (2 * k))) (h1 : ds.length ≤ 2 * k) (h2 : 2 * k ≤ ds.length + 1) (hN : Nm b32 ds N) : Nm b64 ys N := by
  rw [List.take_of_length_le h1, hN.2.2] at hv
  by_cases hz : ys = []
  · subst hz
    exact ⟨hd, fun x hx => by simp at hx, hv⟩
  refine ⟨hd, Nz_of_ge hd ?_, hv⟩
  by_cases h0 : ds = []
  · subst h0
    have : ys.length = 0 := by simp at h2; omega
    obtain rfl : ys = [] := List.eq_nil_of_length_eq_zero this
    simp at hz
  · have := V_ge (B := b32) hN.2.1 h0
    rw [hN.2.2] at this
    rw [hv, hl, b64_eq, Nat.mul_pow, ← Nat.pow_add, ← Nat.two_mul]
    have hp : 0 < ds.length := List.length_pos_iff.2 h0
    exact Nat.le_trans (Nat.pow_le_pow_right b32_pos (by omega)) this

set_option maxRecDepth 100000 in
set_option maxHeartbeats 400000 in
theorem to_any (w : World) (B : Nat) (hB : B ≤ w.heap.size) (A : Option Addr) (n c : Nat) (ds : List Nat) (hs : Sl w B A n c ds) (N : Nat) (hN : Nm b32 ds N) (hn : n ≤ 1000000000) :
    Calls Try.prog 37 #[.slice A n c] w fun e w' => RetN b64 w N e w' := by
  have hlc := hs.cap
  have hm := hs.max
  have HL := Lib.hid hs.len
  have hd := hN.1
  go_enter Try.func37, Try.ntmps37
  go_wp2
  go_loopw [3, 4] (fun v i wr => ∃ j k ys, j = 2 * k ∧ j ≤ n + 1 ∧ i = .int .i64 (j : Nat) ∧ wr.ownsRow w.heap.size 58 1 v k (ys.map U) ∧ Below w.heap.size w wr ∧ ys.length = k ∧ Dg b64 ys ∧ V b64 ys = V b32 (ds.take (2 * k))) (fun _ i _ => n + 1 - (intOf i).toNat)
  case atStart => exact ⟨0, 0, [], rfl, Nat.zero_le _, rfl, World.ownsRow_nil _ _ _ _, Below.refl _ _, rfl, (fun x hx => by cases hx), rfl⟩
  case round =>
    obtain ⟨j, k, ys, hj, hjn, rfl, hown, hb, hyl, hdy, hv⟩ := hrel
    have hkj : k ≤ j := by omega
    have HJ := Lib.hid hj
    have HYL := Lib.hid hyl
    have HV := Lib.hid hv
    clear hyl hv hj
    by_cases hlt : j < n
    · have hsr := hs.below (hb.mono hB)
      obtain ⟨b, off, x, rfl, hbB, hx, hc⟩ := hsr.at_ hlt
      have hxl : (x : Int) < 4294967296 := by have := lt32.1 (hd.get hx); omega
      have HX := Lib.hid hx
      clear hx
      by_cases hlt2 : j + 1 < n
      · obtain ⟨b', off', y, he, hbB', hy, hc'⟩ := hsr.at_ hlt2
        simp only [Option.some.injEq, Addr.mk.injEq, and_true] at he
        obtain ⟨rfl, rfl⟩ := he
        have hyl : (y : Int) < 4294967296 := by have := lt32.1 (hd.get hy); omega
        have HY := Lib.hid hy
        clear hy
        have hl3 : (j : Int) + 1 < n := by omega
        go_wp2_with (at_builtin; refine wl_append_one rfl _ _ 23 Try.underlying23 rfl w.heap.size _ k ys rfl (hown.alloc _) ⟨wr.heap.size, 0, none⟩ 1 (x + y * b32) rfl (by simp [b32]) (by omega) (by have := hb.size; simp; omega) ?_; intro v' w1 hown' hk')
        go_wp2
        go_roundw
        case rel => exact ⟨j + 2, k + 1, ys ++ [x + y * b32], by have := HJ.out; omega, by omega, by go_num, hown', hk' _ _ (hb.alloc hb.size _) (Nat.le_refl _), by simp [HYL.out], hdy.append (fun z hz => by simp at hz; subst hz; rw [lt64]; unfold b32; omega), to_pair HYL.out HV.out (by rw [← HJ.out]; exact HX.out) (by rw [← HJ.out]; exact HY.out)⟩
        case measure => simp [intOf]; omega
      · have hl3 : ¬ (j : Int) + 1 < n := by omega
        go_wp2_with (at_builtin; refine wl_append_one rfl _ _ 23 Try.underlying23 rfl w.heap.size _ k ys rfl (hown.alloc _) ⟨wr.heap.size, 0, none⟩ 1 x rfl (by simp) (by omega) (by have := hb.size; simp; omega) ?_; intro v' w1 hown' hk')
        go_wp2
        go_roundw
        case rel => exact ⟨j + 2, k + 1, ys ++ [x], by have := HJ.out; omega, by omega, by go_num, hown', hk' _ _ (hb.alloc hb.size _) (Nat.le_refl _), by simp [HYL.out], hdy.append (fun z hz => by simp at hz; subst hz; rw [lt64]; omega), to_one HYL.out HV.out (by rw [← HJ.out]; exact HX.out) (by rw [← HJ.out, ← HL.out]; omega)⟩
        case measure => simp [intOf]; omega
    · obtain ⟨A', c', rfl, h1⟩ := Sl.of_own hown
      go_wp2
      go_ret
      exact ⟨ys, to_end HYL.out hdy HV.out (by rw [← HJ.out, ← HL.out]; omega) (by rw [← HJ.out, ← HL.out]; omega) hN, _, _, _, rfl, h1, hb⟩
end Go.Proofs.Ytfiakaenenbhpaa
