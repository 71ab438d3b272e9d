/- math/bits.Div64 at 0; limb.Quo of one limb by one. -/
import Derived.Test.YtfiakaenenbhpaaLimbG
namespace Go.Proofs.Ytfiakaenenbhpaa
open Go.RowKit

set_option maxRecDepth 100000 in
set_option maxHeartbeats 800000 in
theorem div64_zero (x d : Nat) (hx : x < b64) (hd0 : 0 < d) (w : World) :
    Calls Try.prog 58 #[.int .u64 ((0 : Nat) : Int), .int .u64 x, .int .u64 d] w fun e w' => e = .returned (.tuple #[.int .u64 ((x / d : Nat) : Int), .int .u64 ((x % d : Nat) : Int)]) ∧ ∃ q, w' = w.drewN q := by
  have h1 : ((d : Int) == 0) = false := by simp; omega
  have h2 : ¬ (d : Int) ≤ ((0 : Nat) : Int) := by omega
  have h2' : ¬ (d : Int) ≤ 0 := by omega
  have h3 : (1 : Int) ≤ d := by omega
  go_enter Try.func58, Try.ntmps58
  go_wp2
  have h4 : (x : Int) < 18446744073709551616 := by have := lt64.1 hx; omega
  have h7 : (0 : Int) ≤ (x : Int) / d := Int.ediv_nonneg (by omega) (by omega)
  have h5 : (x : Int) / d < 18446744073709551616 := Int.lt_of_le_of_lt (Int.ediv_le_self _ (by omega)) h4
  go_quiet (fail)
  go_wp2
  go_ret2
  exact ⟨rfl, _, rfl⟩

/-- two slices and true -/
def RetQ (w : World) (N M : Nat) (e : Ending) (w' : World) : Prop :=
  ∃ q A1 n1 c1 r A2 n2 c2, e = .returned (.tuple #[.slice A1 n1 c1, .slice A2 n2 c2, .bool true]) ∧ Sl w' w'.heap.size A1 n1 c1 q ∧ Sl w' w'.heap.size A2 n2 c2 r ∧ Below w.heap.size w w' ∧ Nm b64 q N ∧ Nm b64 r M

theorem trimmed_self {B : Nat} {xs : List Nat} {n : Nat} (hB : 1 < B) (h : Nm B xs n) : trimmed xs = xs := nm_unique hB (h.2.2 ▸ trimmed_nm h.1) h

set_option maxRecDepth 100000 in
set_option maxHeartbeats 1600000 in
theorem quo_one (w : World) (A1 : Option Addr) (c1 : Nat) (x : Nat) (hs1 : Sl w w.heap.size A1 1 c1 [x]) (A2 : Option Addr) (c2 : Nat) (d : Nat) (hs2 : Sl w w.heap.size A2 1 c2 [d]) (hx : x < b64) (hd : d < b64) (hd0 : 0 < d) (hle : d ≤ x) :
    Calls Try.prog 21 #[.slice A1 1 c1, .slice A2 1 c2] w fun e w' => RetQ w (x / d) (x % d) e w' := by
  have nx : Nm b64 [x] x := ⟨fun y hy => by simp at hy; omega, fun y hy => by simp at hy; omega, by simp [V]⟩
  have nd : Nm b64 [d] d := ⟨fun y hy => by simp at hy; omega, fun y hy => by simp at hy; omega, by simp [V]⟩
  have t1 := trimmed_self (by decide) nx
  have t2 := trimmed_self (by decide) nd
  have hcm : ¬ ncmp (V b64 [x]) (V b64 [d]) < 0 := by
    rw [nx.2.2, nd.2.2]; unfold ncmp; rw [if_neg (by omega)]; split <;> omega
  obtain ⟨cv, hcv⟩ : ∃ cv, ncmp (V b64 [x]) (V b64 [d]) = cv := ⟨_, rfl⟩
  rw [hcv] at hcm
  have HCV := Lib.hid hcv
  have T1 := Lib.hid t1
  have T2 := Lib.hid t2
  have NX := Lib.hid nx
  have ND := Lib.hid nd
  clear hcv t1 t2 nx nd
  obtain ⟨b, off, y, rfl, hb, hy, hc⟩ := hs2.at_ (k := 0) (by decide)
  simp at hy
  subst hy
  go_enter Try.func21, Try.ntmps21
  go_wp2_with fail
  refine (ltrim_sl w _ _ _ _ [x] hs1).mono ?_; rintro e w1 ⟨m1, rfl, h3, h4, rfl⟩
  have hm1 : m1 = 1 := by rw [h3.len, T1.out]; rfl
  subst hm1
  rw [T1.out] at h3
  go_wp2_with fail
  refine (ltrim_sl w _ _ _ _ [d] hs2).mono ?_; rintro e w1 ⟨m2, rfl, h5, h6, rfl⟩
  have hm2 : m2 = 1 := by rw [h5.len, T2.out]; rfl
  subst hm2
  rw [T2.out] at h5
  go_wp2_with fail
  refine (lcmp_any w _ _ _ [x] h3 _ _ _ [d] h5 NX.out.1 ND.out.1).mono ?_; rw [HCV.out]; rintro e w1 ⟨rfl, hb1⟩
  have hc1 : w1.cell? ⟨b, off, none⟩ = some (.int .u64 (d : Int)) := (hb1.cell (p := ⟨b, off, none⟩) hb).trans (by simpa using hc)
  go_wp2_with fail
  refine (shortQuo_any w1 _ rfl _ _ _ [x] (h3.later hb1 (Nat.le_refl _)) NX.out.1 (by decide) d hd0 hd (fun r => r = 0) rfl (fun r x _ _ h => absurd h (by decide)) (fun r x W hr hx => by subst hr; simpa using div64_zero x d hx hd0 W)).mono ?_
  rintro e w2 ⟨A3, m3, c3, q, A4, m4, c4, r, rfl, k1, k2, k3, k4, k5⟩
  go_wp2
  go_ret3
  refine ⟨q, _, _, _, r, _, _, _, rfl, k1, k2, hb1.trans (k3.mono hb1.size), ?_, ?_⟩
  · simpa [sq, sqStep, downL, V, List.range_succ] using k4
  · simpa [sq, sqStep, downL, V, List.range_succ] using k5
end Go.Proofs.Ytfiakaenenbhpaa
