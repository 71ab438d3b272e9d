/- Parts of one proof, joined: QuoE, LimbK, RefG, RefH, RefI, RefJ, RefK, QuoM, QuoF, QuoG, QuoW, Begun, Few, Open, WSums, RefL. -/
import Derived.Test.YtmmmcbklgmjalaaPileN3
import Derived.WalkMore
import Derived.Test.YtmmmcbklgmjalaaPileN2
import Derived.WalkSmall
import Derived.Deep.RegionHeld3
import Derived.Test.YtmmmcbklgmjalaaPileN1
import Derived.OpenShut

/- limb.estimate. -/
namespace Go.Proofs.Ytmmmcbklgmjalaa
open Go.RowKit

/-- the greatest digits of a number -/
theorem top2 {B : Nat} {xs : List Nat} {m a b : Nat} (hl : xs.length = m + 2) (ha : xs[m + 1]? = some a) (hb : xs[m]? = some b) : V B xs = (a * B + b) * B ^ m + V B (xs.take m) := by
  have h : V B xs = V B (xs.take (m + 2)) := by rw [List.take_of_length_le (by omega)]
  rw [h, V_take_succ ha, V_take_succ hb, Nat.pow_succ]
  generalize V B (xs.take m) = R
  generalize B ^ m = P
  grind
theorem top3 {B : Nat} {xs : List Nat} {m a b c : Nat} (hl : xs.length = m + 3) (ha : xs[m + 2]? = some a) (hb : xs[m + 1]? = some b) (hc : xs[m]? = some c) : V B xs = ((a * B + b) * B + c) * B ^ m + V B (xs.take m) := by
  have h : V B xs = V B (xs.take (m + 3)) := by rw [List.take_of_length_le (by omega)]
  have e1 : B ^ (m + 1) = B ^ m * B := Nat.pow_succ ..
  have e2 : B ^ (m + 2) = B ^ m * B * B := by rw [← e1]; exact Nat.pow_succ ..
  rw [h, V_take_succ ha, V_take_succ hb, V_take_succ hc, e2, e1]
  clear e1 e2 h
  generalize V B (xs.take m) = R
  generalize B ^ m = P
  grind

/-- one step of the correction: numbers -/
theorem est_more {us vs : List Nat} {m u2 u1 u0 v1 v0 q r : Nat} (hdu : Dg b64 us) (hul : us.length = m + 3) (hvl : vs.length = m + 2)
    (h2 : us[m + 2]? = some u2) (h1 : us[m + 1]? = some u1) (h0 : us[m]? = some u0) (hv1 : vs[m + 1]? = some v1) (hv0 : vs[m]? = some v0) (hqr : q * v1 + r = u2 * b64 + u1) (h : r * b64 + u0 < q * v0) :
    0 < q ∧ V b64 us / V b64 vs ≤ q - 1 := by
  have hlt := V_lt (us.take m) (hdu.take m)
  rw [List.length_take, Nat.min_eq_left (by omega)] at hlt
  exact dig_more (top2 hvl hv1 hv0) (top3 hul h2 h1 h0) hlt hqr h
theorem est_done {us vs : List Nat} {m u2 u1 u0 v1 v0 q r : Nat} (hdv : Dg b64 vs) (hul : us.length = m + 3) (hvl : vs.length = m + 2)
    (h2 : us[m + 2]? = some u2) (h1 : us[m + 1]? = some u1) (h0 : us[m]? = some u0) (hv1 : vs[m + 1]? = some v1) (hv0 : vs[m]? = some v0) (hqr : q * v1 + r = u2 * b64 + u1) (hq : q ≤ b64) (hv : 0 < v1) (h : q * v0 ≤ r * b64 + u0) :
    q ≤ V b64 us / V b64 vs + 1 := by
  have hlt := V_lt (vs.take m) (hdv.take m)
  rw [List.length_take, Nat.min_eq_left (by omega)] at hlt
  exact dig_done (top2 hvl hv1 hv0) hlt (top3 hul h2 h1 h0) hqr hq hv h
theorem est_start {us vs : List Nat} {m u2 u1 v1 : Nat} (hdu : Dg b64 us) (hul : us.length = m + 3) (hvl : vs.length = m + 2)
    (h2 : us[m + 2]? = some u2) (h1 : us[m + 1]? = some u1) (hv1 : vs[m + 1]? = some v1) (hv : 0 < v1) :
    V b64 us / V b64 vs ≤ (u2 * b64 + u1) / v1 := by
  have hlt := V_lt (us.take (m + 1)) (hdu.take (m + 1))
  rw [List.length_take, Nat.min_eq_left (by omega)] at hlt
  have e1 : V b64 vs = v1 * b64 ^ (m + 1) + V b64 (vs.take (m + 1)) := by
    have h : V b64 vs = V b64 (vs.take (m + 2)) := by rw [List.take_of_length_le (by omega)]
    rw [h, V_take_succ hv1, Nat.add_comm, Nat.mul_comm]
  have e2 : V b64 us = (u2 * b64 + u1) * b64 ^ (m + 1) + V b64 (us.take (m + 1)) := top2 (m := m + 1) hul h2 h1
  exact dig_start e1 e2 hlt hv
theorem est_top {us vs : List Nat} {m u2 v1 : Nat} (hdv : Dg b64 vs) (hul : us.length = m + 3) (hvl : vs.length = m + 2)
    (h2 : us[m + 2]? = some u2) (hv1 : vs[m + 1]? = some v1) (hn : 9223372036854775808 ≤ v1) (h : v1 ≤ u2) (huv : V b64 us < V b64 vs * b64) :
    V b64 us / V b64 vs ≤ 18446744073709551615 ∧ 18446744073709551615 ≤ V b64 us / V b64 vs + 1 := by
  have hlt := V_lt (vs.take (m + 1)) (hdv.take (m + 1))
  rw [List.length_take, Nat.min_eq_left (by omega)] at hlt
  have e1 : V b64 vs = v1 * b64 ^ (m + 1) + V b64 (vs.take (m + 1)) := by
    have h : V b64 vs = V b64 (vs.take (m + 2)) := by rw [List.take_of_length_le (by omega)]
    rw [h, V_take_succ hv1, Nat.add_comm, Nat.mul_comm]
  have e2 : V b64 us = u2 * (b64 * b64 ^ (m + 1)) + V b64 (us.take (m + 2)) := by
    have h : V b64 us = V b64 (us.take (m + 3)) := by rw [List.take_of_length_le (by omega)]
    rw [h, V_take_succ h2, Nat.add_comm, Nat.mul_comm, Nat.mul_comm b64, ← Nat.pow_succ]
  exact dig_top (B := b64) e1 hlt e2 h (by rw [show b64 = 18446744073709551616 from rfl]; omega) huv (by decide)
/-- where the loop may end -/
theorem est_low {high low q v0 r u0 : Nat} (h : b64 * high + low = q * v0) (hl : low < b64) (hc : high < r ∨ (high = r ∧ low ≤ u0)) : q * v0 ≤ r * b64 + u0 := by
  rw [← h, Nat.mul_comm r]
  rcases hc with h1 | ⟨h1, h2⟩
  · have := Nat.mul_le_mul_left b64 h1
    rw [Nat.mul_succ] at this
    omega
  · subst h1; omega
theorem est_high {high low q v0 r u0 : Nat} (h : b64 * high + low = q * v0) (hu : u0 < b64) (hc : ¬ high < r ∧ (high = r → ¬ low ≤ u0)) : r * b64 + u0 < q * v0 := by
  rw [← h, Nat.mul_comm r]
  rcases Nat.lt_or_ge r high with h1 | h1
  · have := Nat.mul_le_mul_left b64 h1
    rw [Nat.mul_succ] at this
    omega
  · have h2 : high = r := by omega
    have h3 := hc.2 h2
    subst h2; omega
theorem est_over {q v0 r u0 : Nat} (hq : q < b64) (hv : v0 < b64) (hr : b64 ≤ r) : q * v0 ≤ r * b64 + u0 := by
  have h1 : q * v0 ≤ b64 * b64 := Nat.mul_le_mul (Nat.le_of_lt hq) (Nat.le_of_lt hv)
  have h2 : b64 * b64 ≤ r * b64 := Nat.mul_le_mul_right _ hr
  omega

theorem quiet_add {P : Program} {f : FuncId} {args : Array Value} {w : World} {a n : Nat} {v : Value}
    (h : Calls P f args (w.drewN (a + n)) fun e w' => e = .returned v ∧ ∃ m, w' = (w.drewN (a + n)).drewN m) :
    Calls P f args (w.drewN (a + n)) fun e w'' => e = .returned v ∧ ∃ m, w'' = w.drewN (a + m) :=
  h.mono fun _ _ ⟨he, m, hm⟩ => ⟨he, n + m, by rw [hm, World.drewN_drewN, Nat.add_assoc]⟩

theorem est_cases (hi lo r u0 : Nat) : hi < r ∨ (hi = r ∧ lo ≤ u0) ∨ (hi = r ∧ ¬ lo ≤ u0) ∨ r < hi := by omega
/-- what stands at the head of the correction: the rest fits a word, or the guess is good -/
def EstAt (Q T v1 q r c : Nat) : Prop := Q ≤ q ∧ q < b64 ∧ ((c = 0 ∧ q * v1 + r = T ∧ r < b64) ∨ (c = 1 ∧ q ≤ Q + 1))
theorem est_next {Q T v1 v0 u0 q r s c : Nat} (hqr : q * v1 + (r + v1) = T) (hq : Q ≤ q) (ht : s + b64 * c = r + v1) (hs : s < b64) (hc : c ≤ 1) (hq64 : q < 18446744073709551616)
    (done : q * v1 + (r + v1) = T → q < b64 → q * v0 ≤ (r + v1) * b64 + u0 → q ≤ Q + 1) (hv : v0 < b64) : EstAt Q T v1 q s c := by
  refine ⟨hq, lt64.2 hq64, ?_⟩
  have h01 : c = 0 ∨ c = 1 := by omega
  rcases h01 with h | h
  · subst h
    exact .inl ⟨rfl, by rw [← hqr]; omega, hs⟩
  · subst h
    exact .inr ⟨rfl, done hqr (lt64.2 hq64) (est_over (lt64.2 hq64) hv (by omega))⟩

/-- the quotient, or one more -/
def RetEst (w : World) (C : Prop) (Q : Nat) (e : Ending) (w' : World) : Prop := ∃ q k : Nat, e = .returned (.int .u64 (q : Int)) ∧ q < b64 ∧ (C → Q ≤ q ∧ q ≤ Q + 1) ∧ w' = w.drewN k

set_option maxRecDepth 100000 in
set_option maxHeartbeats 4000000 in
theorem estimate_any (w : World) (g off cu gv ov cv nu n n1 m : Nat) (us vs : List Nat) (hu : ∀ (k x : Nat), us[k]? = some x → w.cell? ⟨g, off + k, none⟩ = some (.int .u64 (x : Int))) (hv : ∀ (k x : Nat), vs[k]? = some x → w.cell? ⟨gv, ov + k, none⟩ = some (.int .u64 (x : Int)))
    (hn1 : n1 = m + 1) (hn : n = m + 2) (hnu : nu = n + 1) (hul : us.length = m + 3) (hvl : vs.length = m + 2) (hmax : nu ≤ 1000000000) (hdu : Dg b64 us) (hdv : Dg b64 vs) :
    Calls Try.prog 84 #[.slice (some ⟨g, off, none⟩) nu cu, .slice (some ⟨gv, ov, none⟩) n cv] w fun e w' => RetEst w (V b64 us < V b64 vs * b64 ∧ ∀ x, vs[m + 1]? = some x → 9223372036854775808 ≤ x) (V b64 us / V b64 vs) e w' := by
  obtain ⟨u2, hu2⟩ := get_lt (zs := us) (k := m + 2) (by omega)
  obtain ⟨u1, hu1⟩ := get_lt (zs := us) (k := m + 1) (by omega)
  obtain ⟨u0, hu0⟩ := get_lt (zs := us) (k := m) (by omega)
  obtain ⟨v1, hv1⟩ := get_lt (zs := vs) (k := m + 1) (by omega)
  obtain ⟨v0, hv0⟩ := get_lt (zs := vs) (k := m) (by omega)
  have cu2 := hu _ _ hu2
  have cu1 := hu _ _ hu1
  have cu0 := hu _ _ hu0
  have cv1 := hv _ _ hv1
  have cv0 := hv _ _ hv0
  have bu2 := lt64.1 (hdu.get hu2)
  have bu1 := lt64.1 (hdu.get hu1)
  have bu0 := lt64.1 (hdu.get hu0)
  have bv1 := lt64.1 (hdv.get hv1)
  have bv0 := lt64.1 (hdv.get hv0)
  rw [← hn] at cu2
  rw [← hn1] at cu1 cv1
  obtain ⟨Q, hQ⟩ : ∃ Q, V b64 us / V b64 vs = Q := ⟨_, rfl⟩
  obtain ⟨C, hC⟩ : ∃ C, (V b64 us < V b64 vs * b64 ∧ ∀ x, vs[m + 1]? = some x → 9223372036854775808 ≤ x) = C := ⟨_, rfl⟩
  have top : v1 ≤ u2 → C → Q ≤ 18446744073709551615 ∧ 18446744073709551615 ≤ Q + 1 := fun h hc => by
    rw [← hC] at hc
    exact hQ ▸ est_top hdv hul hvl hu2 hv1 (hc.2 _ hv1) h hc.1
  rw [hC]
  clear hC
  have start : 0 < v1 → Q ≤ (u2 * b64 + u1) / v1 := fun hp => hQ ▸ est_start hdu hul hvl hu2 hu1 hv1 hp
  have more : ∀ q r, q * v1 + r = u2 * b64 + u1 → r * b64 + u0 < q * v0 → 0 < q ∧ Q ≤ q - 1 := fun q r h1 h2 => hQ ▸ est_more hdu hul hvl hu2 hu1 hu0 hv1 hv0 h1 h2
  have done : 0 < v1 → ∀ q r, q * v1 + r = u2 * b64 + u1 → q < b64 → q * v0 ≤ r * b64 + u0 → q ≤ Q + 1 := fun hp q r h1 h2 h3 => hQ ▸ est_done hdv hul hvl hu2 hu1 hu0 hv1 hv0 h1 (Nat.le_of_lt h2) hp h3
  rw [hQ]
  have TOP := Lib.hid top
  have START := Lib.hid start
  have MORE := Lib.hid more
  have DONE0 := Lib.hid done
  have i1 : (n : Int) - 1 = (n1 : Int) := by omega
  have i2 : (n : Int) - 2 = (m : Int) := by omega
  have i3 : (n : Int) < nu := by omega
  have i4 : (n1 : Int) < n := by omega
  have i5 : (n1 : Int) < nu := by omega
  have i6 : (m : Int) < n := by omega
  have i7 : (m : Int) < nu := by omega
  have i8 : (n : Int) ≤ 1000000000 := by omega
  have i9 : (n1 : Int) ≤ 1000000000 := by omega
  have i10 : (m : Int) ≤ 1000000000 := by omega
  have i11 : (2 : Int) ≤ n := by omega
  clear top start more done hQ hu hv hul hvl hmax hdu hdv hu2 hu1 hu0 hv1 hv0 hn1 hn hnu
  by_cases hge : v1 ≤ u2
  · have hgi : (v1 : Int) ≤ (u2 : Int) := by omega
    go_enter Try.func84, Try.ntmps84
    go_wp2
    go_step3
    go_wp2
    go_quiet (fail)
    go_wp2
    try rw [Exit.noGoto_ret]
    go_ret
    exact ⟨18446744073709551615, _, rfl, by decide, TOP.out hge, rfl⟩
  · have hgi : ¬ (v1 : Int) ≤ (u2 : Int) := by omega
    have hdv := fun W => div64_any u2 u1 v1 (by omega) (lt64.2 bu1) (lt64.2 bv1) W
    have hdm := Nat.div_add_mod (u2 * b64 + u1) v1
    have hml := Nat.mod_lt (u2 * b64 + u1) (show 0 < v1 by omega)
    have hql : (u2 * b64 + u1) / v1 < b64 := by
      refine Nat.div_lt_of_lt_mul ?_
      have h1 := Nat.mul_le_mul_right b64 (show u2 + 1 ≤ v1 by omega)
      rw [Nat.add_mul, Nat.one_mul] at h1
      have := lt64.2 bu1
      omega
    have hst := START.out (by omega)
    have bv1p : (0 : Int) < v1 := by omega
    have DONE := Lib.hid (DONE0.out (by omega))
    obtain ⟨q0, hq0⟩ : ∃ q0, (u2 * b64 + u1) / v1 = q0 := ⟨_, rfl⟩
    obtain ⟨r0, hr0⟩ : ∃ q0, (u2 * b64 + u1) % v1 = q0 := ⟨_, rfl⟩
    rw [hq0] at hdv hdm hql hst
    rw [hr0] at hdv hdm hml
    rw [Nat.mul_comm] at hdm
    have HDV := Lib.hid hdv
    have HDM := Lib.hid hdm
    have HQL := Lib.hid hql
    have HST := Lib.hid hst
    clear hdv hdm hql hst hq0 hr0 START DONE0
    go_enter Try.func84, Try.ntmps84
    go_wp2
    go_step3
    go_wp2
    go_quiet (fail)
    go_wp2
    go_quiet ((go_at_call 72; exact quiet_add (HDV.out _)))
    go_wp2
    go_step3
    go_wp2
    go_loopw [6, 7, 8] (fun qv rv ov wr => ∃ q r c kd : Nat, wr = w.drewN kd ∧ qv = .int .u64 (q : Int) ∧ rv = .int .u64 (r : Int) ∧ ov = .int .u64 (c : Int) ∧ EstAt Q (u2 * b64 + u1) v1 q r c) (fun qv _ _ _ => (intOf qv).toNat)
    case atStart => exact ⟨q0, r0, 0, _, World.drewN_drewN _ _ _, rfl, rfl, rfl, HST.out, HQL.out, .inl ⟨rfl, HDM.out, by rw [lt64]; omega⟩⟩
    case round =>
      obtain ⟨q, r, c, kd, rfl, rfl, rfl, rfl, hq1, hq2, hat⟩ := hrel
      have HAT := Lib.hid hat
      have HQ1 := Lib.hid hq1
      have HQ2 := Lib.hid hq2
      have hqi : (q : Int) ≤ 18446744073709551615 := by have := lt64.1 hq2; omega
      clear hat hq1
      rcases HAT.out with ⟨hc, hqr, hr⟩ | ⟨hc, hqx⟩
      · subst hc
        have HQR := Lib.hid hqr
        have hri : (r : Int) ≤ 18446744073709551615 := by have := lt64.1 hr; omega
        clear HAT hqr hr
        go_wp2_with fail
        refine (mul64_any q v0 hq2 (lt64.2 bv0) _).mono ?_
        rintro e w1 ⟨hi, lo, rfl, hmu, hhi, hlo, rfl⟩
        have HMU := Lib.hid hmu
        clear hmu
        have hhi' : (hi : Int) ≤ 18446744073709551615 := by have := lt64.1 hhi; omega
        have hlo' : (lo : Int) ≤ 18446744073709551615 := by have := lt64.1 hlo; omega
        rcases est_cases hi lo r u0 with h | h | h | h
        · have t1 : (hi : Int) < (r : Int) := by omega
          go_wp2
          try rw [Exit.noGoto_ret]
          go_ret
          exact ⟨q, _, rfl, HQ2.out, fun _ => ⟨HQ1.out, DONE.out q r HQR.out HQ2.out (est_low HMU.out hlo (.inl h))⟩, rfl⟩
        · obtain ⟨h1, h2⟩ := h
          have t1 : ¬ (hi : Int) < (r : Int) := by omega
          have t3 : ((hi : Int) == (r : Int)) = true := by simp; omega
          have t2 : (lo : Int) ≤ (u0 : Int) := by omega
          go_wp2
          try rw [Exit.noGoto_ret]
          go_ret
          exact ⟨q, _, rfl, HQ2.out, fun _ => ⟨HQ1.out, DONE.out q r HQR.out HQ2.out (est_low HMU.out hlo (.inr ⟨h1, h2⟩))⟩, rfl⟩
        · obtain ⟨h1, h2⟩ := h
          have t1 : ¬ (hi : Int) < (r : Int) := by omega
          have t3 : ((hi : Int) == (r : Int)) = true := by simp; omega
          have t2 : ¬ (lo : Int) ≤ (u0 : Int) := by omega
          have hmq := MORE.out q r HQR.out (est_high HMU.out (lt64.2 bu0) ⟨by omega, fun _ => by omega⟩)
          obtain ⟨q', hq'⟩ : ∃ q', q - 1 = q' := ⟨_, rfl⟩
          rw [hq'] at hmq
          have hq1 : IntKind.u64.wrap ((q : Int) - 1) = (q' : Int) := by have := hmq.1; rw [wrap_emod]; omega
          have hq1b : (q' : Int) ≤ 18446744073709551615 := by omega
          have hmeas : q' < q := by have := hmq.1; omega
          have hqr' : q' * v1 + (r + v1) = u2 * b64 + u1 := by
            have h1 := HQR.out
            obtain rfl : q = q' + 1 := by have := hmq.1; omega
            rw [Nat.add_mul, Nat.one_mul] at h1
            omega
          have HMQ := Lib.hid hmq.2
          have HQR' := Lib.hid hqr'
          have hr64 := lt64.2 (show r < 18446744073709551616 by omega)
          clear hmq hq' hqr'
          go_wp2_with (with_reducible show wpList _ _ _ _ _ _; refine wl_add64 (o := ⟨some 62, _, _, _, _, _⟩) rfl _ _ _ rfl r v1 0 rfl rfl rfl hr64 (lt64.2 bv1) (Nat.zero_le _) ?_; intro s c ht1 ht2 ht3; simp only [Nat.add_zero] at ht1; have HT := Lib.hid ht1; have HT2 := Lib.hid ht2; clear ht1 ht2)
          go_roundw
          case rel => exact ⟨q', s, c, kd, rfl, by go_num, rfl, rfl, est_next HQR'.out HMQ.out HT.out HT2.out ht3 (by omega) (fun h1 h2 h3 => DONE.out _ _ h1 h2 h3) (lt64.2 bv0)⟩
          case measure => simp [intOf]; omega
        · have t1 : ¬ (hi : Int) < (r : Int) := by omega
          have t3 : ((hi : Int) == (r : Int)) = false := by simp; omega
          have hmq := MORE.out q r HQR.out (est_high HMU.out (lt64.2 bu0) ⟨by omega, fun _ => by omega⟩)
          obtain ⟨q', hq'⟩ : ∃ q', q - 1 = q' := ⟨_, rfl⟩
          rw [hq'] at hmq
          have hq1 : IntKind.u64.wrap ((q : Int) - 1) = (q' : Int) := by have := hmq.1; rw [wrap_emod]; omega
          have hq1b : (q' : Int) ≤ 18446744073709551615 := by omega
          have hmeas : q' < q := by have := hmq.1; omega
          have hqr' : q' * v1 + (r + v1) = u2 * b64 + u1 := by
            have h1 := HQR.out
            obtain rfl : q = q' + 1 := by have := hmq.1; omega
            rw [Nat.add_mul, Nat.one_mul] at h1
            omega
          have HMQ := Lib.hid hmq.2
          have HQR' := Lib.hid hqr'
          have hr64 := lt64.2 (show r < 18446744073709551616 by omega)
          clear hmq hq' hqr'
          go_wp2_with (with_reducible show wpList _ _ _ _ _ _; refine wl_add64 (o := ⟨some 62, _, _, _, _, _⟩) rfl _ _ _ rfl r v1 0 rfl rfl rfl hr64 (lt64.2 bv1) (Nat.zero_le _) ?_; intro s c ht1 ht2 ht3; simp only [Nat.add_zero] at ht1; have HT := Lib.hid ht1; have HT2 := Lib.hid ht2; clear ht1 ht2)
          go_roundw
          case rel => exact ⟨q', s, c, kd, rfl, by go_num, rfl, rfl, est_next HQR'.out HMQ.out HT.out HT2.out ht3 (by omega) (fun h1 h2 h3 => DONE.out _ _ h1 h2 h3) (lt64.2 bv0)⟩
          case measure => simp [intOf]; omega
      · subst hc
        go_wp2
        try rw [Exit.noGoto_ret]
        go_ret
        exact ⟨q, _, rfl, HQ2.out, fun _ => ⟨HQ1.out, hqx⟩, rfl⟩
end Go.Proofs.Ytmmmcbklgmjalaa

/- limb.Bit, Each. -/
namespace Go.Proofs.Ytmmmcbklgmjalaa
open Go.RowKit Go.Shelf

theorem bit_of {xs : List Nat} {N j x : Nat} (h : V b64 xs = N) (hd : Dg b64 xs) (hx : xs[j / 64]?.getD 0 = x) : N / 2 ^ j % 2 = x / 2 ^ (j % 64) % 2 := by
  have e1 : 2 ^ j = b64 ^ (j / 64) * 2 ^ (j % 64) := by
    rw [show b64 = 2 ^ 64 from rfl, ← Nat.pow_mul, ← Nat.pow_add]
    congr 1
    omega
  have e3 : b64 = 2 ^ (j % 64) * (2 * 2 ^ (63 - j % 64)) := by
    rw [← Nat.pow_succ', ← Nat.pow_add, show j % 64 + (63 - j % 64 + 1) = 64 by omega]
    rfl
  rw [e1, ← Nat.div_div_eq_div_mul, ← h, div_pow_digits b64_pos xs hd, hx]
  generalize V b64 (xs.drop (j / 64 + 1)) = T
  rw [e3, Nat.mul_assoc, Nat.mul_comm (2 ^ (j % 64)), Nat.add_mul_div_right _ _ (Nat.pow_pos (by decide)), Nat.mul_assoc, Nat.add_mul_mod_self_left]

set_option maxRecDepth 100000 in
set_option maxHeartbeats 800000 in
theorem bit_any (w : World) (B : Nat) (A : Option Addr) (n c : Nat) (xs : List Nat) (hs : Sl w B A n c xs) (hd : Dg b64 xs) (i : Nat) (hi : i ≤ 9223372036854775807) :
    Calls Try.prog 50 #[.slice A n c, .int .i64 (i : Int)] w fun e w' => e = .returned (.int .u64 ((V b64 xs / 2 ^ i % 2 : Nat) : Int)) ∧ w = w' := by
  have hlc := hs.cap
  have hmx := hs.max
  have hi0 : ¬ (i : Int) < 0 := by omega
  by_cases hlt : i / 64 < n
  · obtain ⟨b, off, x, rfl, hb, hx, hc⟩ := hs.at_ hlt
    have hbt := bit_of (j := i) rfl hd (by rw [hx])
    rw [hbt]
    have hge : ¬ (n : Int) ≤ (i : Int) / 64 := by omega
    have hi2 : (i : Int) / 64 < n := by omega
    have hxl := lt64.1 (hd.get hx)
    obtain ⟨y, hy⟩ : ∃ y, x / 2 ^ (i % 64) = y := ⟨_, rfl⟩
    have hyl : y < 18446744073709551616 := by rw [← hy]; exact Nat.lt_of_le_of_lt (Nat.div_le_self _ _) hxl
    have HY := Lib.hid hy
    have HYL := Lib.hid hyl
    clear hbt hx hxl hy hyl
    go_enter Try.func50, Try.ntmps50
    go_wp2
    go_ret
    refine ⟨?_, rfl⟩
    have ha := and_one_u64 (y : Int) (by omega) (by have := HYL.out; omega)
    show Ending.returned (Value.int IntKind.u64 (bits BinOp.and IntKind.u64 ((x / 2 ^ (i % 64) : Nat) : Int) 1)) = _
    rw [HY.out, ha, ← HY.out]
    rfl
  · have hbt := bit_of (j := i) rfl hd (by rw [List.getElem?_eq_none (by rw [← hs.len]; omega)])
    rw [hbt]
    have hge : (n : Int) ≤ (i : Int) / 64 := by omega
    clear hbt
    go_enter Try.func50, Try.ntmps50
    go_wp2
    go_ret
    exact ⟨by simp, rfl⟩

attribute [local go_sem] Oper.semAt_some
abbrev encE (N k : Nat) : Ix k → Array Value := fun i => #[.int .i64 (i.1 : Int), .int .u64 ((N / 2 ^ i.1 % 2 : Nat) : Int)]

set_option maxRecDepth 100000 in
set_option maxHeartbeats 2000000 in
theorem each1_in (nn : Nat) (hn : 1 ≤ nn) (l Bs n₀ n c : Nat) (A : Option Addr) (xs : List Nat) (k0 : Nat) (hk0 : IsBits (V b64 xs) k0) (hd : Dg b64 xs) (hk1 : k0 ≤ 4611686018427387904) (hn1 : n ≤ 17592186044416) (J Jx : List (Ix k0) → World → Prop)
    (hY : ∀ pre x W, J pre W → pre.length < k0 → YieldAt Fence.wide (nn - 1) Try.prog l (encE (V b64 xs) k0 x) W fun e W' =>
      (e = .returned (.bool true) ∧ J (pre ++ [x]) W' ∧ KpB n₀ Bs W W') ∨ (e = .returned (.bool false) ∧ Jx (pre ++ [x]) W'))
    (W : World) (hBs : W.cell? ⟨Bs, 0, none⟩ = some (.slice A n c)) (hs : Sl W n₀ A n c xs) (h0 : J [] W) :
    CallsIn Fence.wide nn Try.prog 49 #[.func (.yield l) #[] #[], .pointer (some ⟨Bs, 0, none⟩)] W fun e W' => (∃ v, e = .returned v) ∧
      ((∃ ys : List (Ix k0), ys.map (·.1) = downL k0 k0 ∧ J ys W') ∨ (∃ pre : List (Ix k0), (∃ k, k ≤ k0 ∧ pre.map (·.1) = downL k0 k) ∧ Jx pre W')) := by
  refine callsIn_of_wp Try.func49 rfl trivial ?_ rfl
  simp only [Try.ntmps49, List.size_toArray, List.length_cons, List.length_nil, Nat.reduceAdd, Nat.reduceSub, Array.replicate_succ, Array.replicate_zero, List.push_toArray, List.append_toArray, List.nil_append, List.cons_append]
  gi_wp2_with (refine ⟨trivial, ?_⟩; gi_at_call 28; refine (callsIn_wide.2 (bits_any W n₀ A n c xs hs hd hn1)).mono ?_; rintro e W' ⟨k1, rfl, hk, rfl⟩; obtain rfl := hk0.unique hk; clear hk)
  gi_loopw [3] (fun i wr => ∃ (m : Nat) (pre : List (Ix k0)), m ≤ k0 ∧ i = .int .i64 ((m : Int) - 1) ∧ pre.map (·.1) = downL k0 (k0 - m) ∧ J pre wr ∧ KpB n₀ Bs W wr)
    (fun i _ => (intOf i + 1).toNat)
  case atStart => exact ⟨k0, [], Nat.le_refl _, rfl, by simp [downL], h0, KpB.refl _ _ _⟩
  case round =>
    obtain ⟨m, pre, hm, rfl, hpre, hJs, hnx⟩ := hrel
    have HP := Lib.hid hpre
    clear hpre
    by_cases hm0 : m = 0
    · subst hm0
      gi_wp2
      go_end0
      exact ⟨⟨_, rfl⟩, .inl ⟨pre, HP.out, hJs⟩⟩
    · obtain ⟨t, rfl⟩ : ∃ t, m = t + 1 := ⟨m - 1, by omega⟩
      have hBc : wr.cell? ⟨Bs, 0, none⟩ = some (.slice A n c) := (World.cell?_of_block (a := ⟨Bs, 0, none⟩) hnx.2).trans hBs
      have hsr := hs.below hnx.1
      have hpl : pre.length < k0 := by
        have := congrArg List.length HP.out
        rw [List.length_map, downL_length] at this
        omega
      obtain ⟨fn, tmps, assign, body, hy, hR⟩ := hY pre ⟨t, by omega⟩ wr hJs hpl
      dsimp only [encE] at hy
      obtain ⟨bv, hbv⟩ : ∃ bv, V b64 xs / 2 ^ t % 2 = bv := ⟨_, rfl⟩
      have hbt := bit_any wr n₀ A n c xs hsr hd t (by omega)
      rw [hbv] at hy hbt
      have HBT := Lib.hid hbt
      clear hbt hbv
      have ht0 : (0 : Int) ≤ ((t + 1 : Nat) : Int) - 1 := by omega
      gi_wp2_with (refine ⟨trivial, ?_⟩; gi_at_call 50; refine (callsIn_wide.2 HBT.out).mono ?_; rintro e W' ⟨rfl, rfl⟩)
      refine hR.mono ?_
      rintro e W3 (⟨rfl, hJ3, hk3⟩ | ⟨rfl, hJx3⟩)
      · gi_wp2
        go_roundw
        case rel => exact ⟨t, pre ++ [⟨t, by omega⟩], by omega, by go_num, by rw [List.map_append, HP.out, show k0 - t = (k0 - (t + 1)) + 1 by omega, downL_succ]; simp; omega, hJ3, hnx.trans hk3⟩
        case measure => simp [intOf]
      · gi_wp2
        refine bodyPost_ret (results_none rfl _ _ _) rfl ?_
        exact ⟨⟨_, rfl⟩, .inr ⟨_, ⟨k0 - t, by omega, by rw [List.map_append, HP.out, show k0 - t = (k0 - (t + 1)) + 1 by omega, downL_succ]; simp; omega⟩, hJx3⟩⟩

theorem each_stops (nn : Nat) (hn : 1 ≤ nn) (Bs n₀ n c : Nat) (A : Option Addr) (xs : List Nat) (k0 : Nat) (hk0 : IsBits (V b64 xs) k0) (hd : Dg b64 xs) (hk1 : k0 ≤ 4611686018427387904) (hn1 : n ≤ 17592186044416) (w : World) (hBs : Bs < w.heap.size) (hn₀ : n₀ ≤ w.heap.size)
    (hc : w.cell? ⟨Bs, 0, none⟩ = some (.slice A n c)) (hI : Sl w n₀ A n c xs) :
    SeqStopsK Fence.wide nn Try.prog 49 #[.pointer (some ⟨Bs, 0, none⟩)] (encE (V b64 xs) k0) (KpB n₀ Bs) (fun ys => ys.map (·.1) = downL k0 k0) (fun pre => ∃ k, k ≤ k0 ∧ pre.map (·.1) = downL k0 k) k0 w := fun l J Jx W hW _ _ hY h0 => by
  have hc' := (hW.cell (p := ⟨Bs, 0, none⟩) hBs).trans hc
  exact each1_in nn hn l Bs n₀ n c A xs k0 hk0 hd hk1 hn1 J Jx hY W hc' (hI.below (hW.mono hn₀)) h0

set_option maxRecDepth 100000 in
set_option maxHeartbeats 800000 in
/-- Each boxes a copy, and hands back the iterator over it. -/
theorem each_any (w : World) (B : Nat) (A : Option Addr) (n c : Nat) (xs : List Nat) (hs : Sl w B A n c xs) (hd : Dg b64 xs) (hn : n ≤ 17592186044416) :
    Calls Try.prog 31 #[.slice A n c] w fun e w' => ∃ g A2 n2 c2 ys, e = .returned (.func (.func 49) #[] #[.pointer (some ⟨g, 0, none⟩)]) ∧ Nm b64 ys (V b64 xs) ∧ g < w'.heap.size ∧ w'.cell? ⟨g, 0, none⟩ = some (.slice A2 n2 c2) ∧ Sl w' w'.heap.size A2 n2 c2 ys ∧ Below w.heap.size w w' := by
  go_enter Try.func31, Try.ntmps31
  go_wp2_with (go_at_call 48; refine (norm_any w B A n c xs hs hd hn).mono ?_; rintro e w1 ⟨ys, hN, A2, n2, c2, rfl, hs2, hb⟩)
  go_ret
  refine ⟨w1.heap.size, A2, n2, c2, ys, rfl, hN, by simp, by simp, ?_, hb.alloc hb.size _⟩
  exact (hs2.below ((Below.refl _ w1).alloc (Nat.le_refl _) _)).more (by simp)
end Go.Proofs.Ytmmmcbklgmjalaa

/- The reference's FromBytes. -/
namespace Go.Proofs.Ytmmmcbklgmjalaa
open Go.RowKit

theorem shl_nat {z x sh : Nat} (hs : z + x * 2 ^ sh < 18446744073709551616) : IntKind.u64.wrap ((z : Int) + IntKind.u64.wrap ((x : Int) * 2 ^ sh)) = ((z + x * 2 ^ sh : Nat) : Int) := by
  have e : (x : Int) * 2 ^ sh = ((x * 2 ^ sh : Nat) : Int) := by rw [Int.natCast_mul, Int.natCast_pow]; rfl
  rw [e, wrap_nat64 (by omega), ← Int.natCast_add, wrap_nat64 hs]

end Go.Proofs.Ytmmmcbklgmjalaa

/- The reference's Bits, Bytes. -/
namespace Go.Proofs.Ytmmmcbklgmjalaa
open Go.RowKit

theorem bits_topq {q : Nat} {xs : List Nat} {m x N t : Nat} (h : Nm (2 ^ q) xs N) (hm : xs.length = m + 1) (hx : xs[m]? = some x) (h1 : x < 2 ^ t) (h2 : t ≠ 0 → 2 ^ (t - 1) ≤ x) : IsBits N (q * m + t) := by
  have hx0 : x ≠ 0 := by
    refine h.2.1 x ?_
    rw [List.getLast?_eq_getElem?, hm]
    simpa using hx
  have ht : t ≠ 0 := by intro e; subst e; simp at h1; exact hx0 h1
  have h2' := h2 ht
  have hN : N = V (2 ^ q) (xs.take m) + (2 ^ q) ^ m * x := by
    rw [← h.2.2, ← V_take_succ hx, List.take_of_length_le (by omega)]
  have hlt := V_lt (xs.take m) (h.1.take m)
  rw [List.length_take, Nat.min_eq_left (by omega)] at hlt
  rw [← Nat.pow_mul] at hN hlt
  refine ⟨?_, fun _ => ?_⟩
  · rw [Nat.pow_add]
    have := Nat.mul_le_mul_left (2 ^ (q * m)) h1
    rw [Nat.mul_succ] at this
    omega
  · rw [show q * m + t - 1 = q * m + (t - 1) by omega, Nat.pow_add]
    have := Nat.mul_le_mul_left (2 ^ (q * m)) h2'
    omega

/-- a byte of a number, out of its digit -/
theorem byte_ofq {q : Nat} (hq : 0 < q) {xs : List Nat} {N j x : Nat} (h : V (256 ^ q) xs = N) (hd : Dg (256 ^ q) xs) (hx : xs[j / q]?.getD 0 = x) : N / 256 ^ j % 256 = x / 256 ^ (j % q) % 256 := by
  have e1 : 256 ^ j = (256 ^ q) ^ (j / q) * 256 ^ (j % q) := by
    rw [← Nat.pow_mul, ← Nat.pow_add, Nat.div_add_mod]
  have hlt := Nat.mod_lt j hq
  obtain ⟨r, hr⟩ : ∃ r, q = j % q + (r + 1) := ⟨q - j % q - 1, by omega⟩
  have e3 : 256 ^ q = 256 ^ (j % q) * (256 * 256 ^ r) := by
    rw [← Nat.pow_succ', ← Nat.pow_add, ← hr]
  rw [e1, ← Nat.div_div_eq_div_mul, ← h, div_pow_digits (Nat.pow_pos (by decide)) xs hd, hx]
  generalize V (256 ^ q) (xs.drop (j / q + 1)) = T
  rw [e3, Nat.mul_assoc, Nat.mul_comm (256 ^ (j % q)), Nat.add_mul_div_right _ _ (Nat.pow_pos (by decide)), Nat.mul_assoc, Nat.add_mul_mod_self_left]
end Go.Proofs.Ytmmmcbklgmjalaa

/- The reference's Bytes. -/
namespace Go.Proofs.Ytmmmcbklgmjalaa
open Go.RowKit

theorem lt_of_isBits {N k m : Nat} (hlt : N < 256 ^ m) (hk : IsBits N k) : k ≤ 8 * m := by
  apply Classical.byContradiction
  intro h
  have h1 := hk.2 (by omega)
  have h2 : 2 ^ (8 * m) ≤ 2 ^ (k - 1) := Nat.pow_le_pow_right (by decide) (by omega)
  rw [show (256 : Nat) = 2 ^ 8 from rfl, ← Nat.pow_mul] at hlt
  omega
theorem ge_of_isBits {N k m : Nat} (hge : 256 ^ m ≤ N) (hk : IsBits N k) : 8 * m < k := by
  apply Classical.byContradiction
  intro h
  have h1 := hk.1
  have h2 : 2 ^ k ≤ 2 ^ (8 * m) := Nat.pow_le_pow_right (by decide) (by omega)
  rw [show (256 : Nat) = 2 ^ 8 from rfl, ← Nat.pow_mul] at hge
  omega

end Go.Proofs.Ytmmmcbklgmjalaa

/- The reference's Power2, Bit, small, times. -/
namespace Go.Proofs.Ytmmmcbklgmjalaa
open Go.RowKit

theorem bit_neg (w : World) (A : Option Addr) (n c : Nat) (i : Int) (hi : i < 0) :
    Calls Try.prog 50 #[.slice A n c, .int .i64 i] w fun e w' => e = .returned (.int .u64 0) ∧ w = w' := by
  go_enter Try.func50, Try.ntmps50
  go_wp2
  go_ret
  exact ⟨rfl, rfl⟩

theorem small_step {xs zs : List Nat} {m r x t : Nat} (hx : xs[t]? = some x) (hl : t < zs.length) (h : V b32 (xs.drop (t + 1)) = m * V b32 (zs.drop (t + 1)) + r) :
    V b32 (xs.drop t) = m * V b32 ((zs.set t ((r * 4294967296 + x) / m)).drop t) + (r * 4294967296 + x) % m := by
  have hx' := (List.getElem?_eq_some_iff.1 hx)
  obtain ⟨ht, hxe⟩ := hx'
  have e1 : (zs.set t ((r * 4294967296 + x) / m)).drop t = ((r * 4294967296 + x) / m) :: zs.drop (t + 1) := by
    rw [List.drop_eq_getElem_cons (l := zs.set t ((r * 4294967296 + x) / m)) (i := t) (by rw [List.length_set]; exact hl), List.drop_set_of_lt (by omega), List.getElem_set_self]
  rw [List.drop_eq_getElem_cons ht, hxe, V_cons, h, e1, V_cons]
  have h1 := Nat.div_add_mod (r * 4294967296 + x) m
  have e : b32 = 4294967296 := rfl
  rw [Nat.mul_add, Nat.mul_add, Nat.mul_left_comm b32 m, e]
  omega

theorem times_step {xs zs : List Nat} {s c x k : Nat} (hx : xs[k]? = some x) (hl : k < zs.length) (h : V b32 (zs.take k) + b32 ^ k * c = s * V b32 (xs.take k)) :
    V b32 ((zs.set k ((c + x * s) % 4294967296)).take (k + 1)) + b32 ^ (k + 1) * ((c + x * s) / 4294967296) = s * V b32 (xs.take (k + 1)) := by
  rw [V_set_take _ hl, V_take_succ hx, Nat.mul_add, ← h, Nat.pow_succ]
  have h1 := Nat.div_add_mod (c + x * s) 4294967296
  have h2 : b32 ^ k * ((c + x * s) % 4294967296) + b32 ^ k * b32 * ((c + x * s) / 4294967296) = b32 ^ k * (c + x * s) := by
    rw [Nat.mul_assoc, ← Nat.mul_add]
    congr 1
    rw [show b32 = 4294967296 from rfl]
    omega
  rw [Nat.mul_add] at h2
  have h3 : s * (b32 ^ k * x) = b32 ^ k * (x * s) := by rw [Nat.mul_left_comm, Nat.mul_comm s]
  omega

end Go.Proofs.Ytmmmcbklgmjalaa

/- The reference's less. -/
namespace Go.Proofs.Ytmmmcbklgmjalaa
open Go.RowKit

theorem Only.row {w w' : World} {g h : Nat} {zs : List Nat} (ho : Only w w' g) (hr : Row w h zs) (hne : h ≠ g) : Row w' h zs := (ho.block h hr.lt (fun e => by injection e with e; omega)).trans hr

theorem less_step {zs uw : List Nat} {i g c y x bo off wi bo' gv gv' : Nat} (hl : i < zs.length) (hx : uw[i]? = some x) (hoff : off = (c + y * g) % 4294967296 + bo) (hwi : off + wi = x + 4294967296 * bo') (hg : gv' = gv + b32 ^ i * (y * g))
    (h : V b32 (zs.take i) + gv = V b32 (uw.take i) + b32 ^ i * (bo + c)) :
    V b32 ((zs.set i wi).take (i + 1)) + gv' = V b32 (uw.take (i + 1)) + b32 ^ (i + 1) * (bo' + (c + y * g) / 4294967296) := by
  rw [V_set_take _ hl, V_take_succ hx, hg, Nat.pow_succ]
  have h1 := Nat.div_add_mod (c + y * g) 4294967296
  have e : bo + c + wi + y * g = x + 4294967296 * (bo' + (c + y * g) / 4294967296) := by omega
  have h2 : b32 ^ i * (bo + c) + b32 ^ i * wi + b32 ^ i * (y * g) = b32 ^ i * x + b32 ^ i * b32 * (bo' + (c + y * g) / 4294967296) := by
    rw [← Nat.mul_add, ← Nat.mul_add, Nat.mul_assoc, ← Nat.mul_add]
    exact congrArg _ e
  omega

theorem splice_V {us zs : List Nat} {k n1 gv : Nat} (hl : zs.length = n1) (hk : k + n1 ≤ us.length) (h : V b32 zs + gv = V b32 ((us.drop k).take n1)) : V b32 (splice us k zs) + b32 ^ k * gv = V b32 us := by
  have e1 : V b32 us = V b32 (us.take k) + b32 ^ k * (V b32 ((us.drop k).take n1) + b32 ^ n1 * V b32 ((us.drop k).drop n1)) := by
    have h1 := V_split (B := b32) us k
    rw [Nat.min_eq_left (by omega)] at h1
    have h2 := V_split (B := b32) (us.drop k) n1
    rw [Nat.min_eq_left (by rw [List.length_drop]; omega)] at h2
    rw [h1, ← h2]
  have e2 : V b32 (splice us k zs) = V b32 (us.take k) + b32 ^ k * (V b32 zs + b32 ^ n1 * V b32 ((us.drop k).drop n1)) := by
    unfold splice
    rw [V_append, V_append, List.length_take, Nat.min_eq_left (by omega), hl, List.drop_drop]
  rw [e1, e2, ← h, Nat.mul_add, Nat.mul_add, Nat.mul_add]
  omega

end Go.Proofs.Ytmmmcbklgmjalaa

/- Long division by digits: numbers alone. -/
namespace Go.Proofs.Ytmmmcbklgmjalaa

theorem quo_win {B : Nat} {us : List Nat} {v k n1 : Nat} (hlen : k + n1 ≤ us.length) (h : V B us < v * B ^ (k + 1)) (hv : v * B ≤ B ^ n1) :
    V B us = V B (us.take k) + B ^ k * V B ((us.drop k).take n1) ∧ V B ((us.drop k).take n1) < v * B := by
  have h1 := V_split (B := B) us k
  rw [Nat.min_eq_left (by omega)] at h1
  have h2 := V_split (B := B) (us.drop k) n1
  rw [Nat.min_eq_left (by rw [List.length_drop]; omega)] at h2
  obtain ⟨W, hW⟩ : ∃ W, V B ((us.drop k).take n1) = W := ⟨_, rfl⟩
  obtain ⟨R, hR⟩ : ∃ R, V B ((us.drop k).drop n1) = R := ⟨_, rfl⟩
  obtain ⟨D, hD⟩ : ∃ D, V B (us.drop k) = D := ⟨_, rfl⟩
  rw [hD, hW, hR] at h2
  rw [hD] at h1
  rw [hW]
  have hD2 : D < v * B := by
    apply Classical.byContradiction
    intro hge
    have h3 := Nat.mul_le_mul_left (B ^ k) (Nat.le_of_not_lt hge)
    have e : B ^ k * (v * B) = v * B ^ (k + 1) := by rw [Nat.pow_succ, Nat.mul_left_comm]
    omega
  have hR0 : R = 0 := by
    apply Classical.byContradiction
    intro h0
    have h3 : B ^ n1 * 1 ≤ B ^ n1 * R := Nat.mul_le_mul_left _ (by omega)
    omega
  subst hR0
  rw [Nat.mul_zero, Nat.add_zero] at h2
  subst h2
  exact ⟨h1, hD2⟩

theorem quo_guess {B : Nat} {us vs : List Nat} {k p d1 d2 vt : Nat} (hd : Dg B us) (h1 : us[k + p]? = some d1) (h2 : us[k + p + 1]? = some d2) (hvt : vs[p]? = some vt) (hvt0 : 0 < vt) :
    V B ((us.drop k).take (p + 2)) / V B (vs.take (p + 1)) ≤ (d2 * B + d1) / vt := by
  have e1 : V B ((us.drop k).take (p + 2)) = V B ((us.drop k).take p) + B ^ p * (d2 * B + d1) := by
    rw [V_take_succ (x := d2) (by rw [List.getElem?_drop]; exact h2), V_take_succ (x := d1) (by rw [List.getElem?_drop]; exact h1), Nat.pow_succ, Nat.mul_add, Nat.mul_comm d2 B, Nat.mul_assoc]
    omega
  have hlo := V_lt ((us.drop k).take p) ((hd.drop k).take p)
  have hll : ((us.drop k).take p).length = p := by
    rw [List.length_take, List.length_drop]
    have := (List.getElem?_eq_some_iff.1 h1).1
    omega
  rw [hll] at hlo
  have hv : B ^ p * vt ≤ V B (vs.take (p + 1)) := by
    rw [V_take_succ hvt]; omega
  obtain ⟨T, hT⟩ : ∃ T, d2 * B + d1 = T := ⟨_, rfl⟩
  rw [hT] at e1 ⊢
  have hlt : V B ((us.drop k).take (p + 2)) < (T / vt + 1) * V B (vs.take (p + 1)) := by
    have h3 : T < (T / vt + 1) * vt := by
      have := Nat.div_add_mod T vt
      have := Nat.mod_lt T hvt0
      rw [Nat.add_mul, Nat.one_mul, Nat.mul_comm (T / vt)]
      omega
    have h4 := Nat.mul_le_mul_left (B ^ p) h3
    have h5 := Nat.mul_le_mul_left (T / vt + 1) hv
    have e2 : (T / vt + 1) * (B ^ p * vt) = B ^ p * ((T / vt + 1) * vt) := Nat.mul_left_comm _ _ _
    rw [Nat.mul_succ] at h4
    omega
  exact Nat.le_of_lt_succ (Nat.div_lt_of_lt_mul (by rw [Nat.mul_comm]; exact hlt))

/-- one digit of the quotient more -/
theorem quo_step {B : Nat} {us zs qs us2 : List Nat} {U v k g n1 : Nat} (hlen : k + n1 ≤ us.length) (hk : k < qs.length) (hd : Dg B us)
    (hwin : V B us = V B (us.take k) + B ^ k * V B ((us.drop k).take n1)) (hz : V B zs + g * v = V B ((us.drop k).take n1)) (hzv : V B zs < v) (hsp : V B us2 + B ^ k * (g * v) = V B us)
    (hv : V B us + V B (qs.drop (k + 1)) * B ^ (k + 1) * v = U) :
    V B us2 + V B ((qs.set k g).drop k) * B ^ k * v = U ∧ V B us2 < v * B ^ k := by
  have e1 : (qs.set k g).drop k = g :: qs.drop (k + 1) := by
    rw [List.drop_eq_getElem_cons (l := qs.set k g) (i := k) (by rw [List.length_set]; exact hk), List.drop_set_of_lt (by omega), List.getElem_set_self]
  obtain ⟨Q, hQ⟩ : ∃ Q, V B (qs.drop (k + 1)) = Q := ⟨_, rfl⟩
  obtain ⟨P, hP⟩ : ∃ P, B ^ k = P := ⟨_, rfl⟩
  refine ⟨?_, ?_⟩
  · rw [e1, V_cons, hQ, hP]
    rw [hQ, Nat.pow_succ, hP] at hv
    rw [hP] at hsp
    have e2 : (g + B * Q) * P * v = P * (g * v) + Q * (P * B) * v := by
      rw [Nat.add_mul, Nat.add_mul, Nat.mul_comm g P, Nat.mul_assoc P, Nat.mul_comm B Q, Nat.mul_assoc Q B P, Nat.mul_comm B P]
    omega
  · have hlo := V_lt (us.take k) (hd.take k)
    rw [List.length_take, Nat.min_eq_left (by omega)] at hlo
    rw [← hz, Nat.mul_add] at hwin
    have h3 := Nat.mul_le_mul_left (B ^ k) (show V B zs + 1 ≤ v from hzv)
    rw [Nat.mul_add, Nat.mul_one, Nat.mul_comm (B ^ k) v] at h3
    omega
theorem quo_digit {W v g : Nat} {r : Nat} (h : r + g * v = W) (hle : W / v ≤ g) (hv : 0 < v) : r < v := by
  apply Classical.byContradiction
  intro hge
  have h1 : (g + 1) * v ≤ W := by rw [Nat.add_mul, Nat.one_mul]; omega
  have h2 := (Nat.le_div_iff_mul_le hv).2 h1
  omega
end Go.Proofs.Ytmmmcbklgmjalaa

/- limb.digit. -/
namespace Go.Proofs.Ytmmmcbklgmjalaa
open Go.RowKit

theorem upper_zero {B k : Nat} {xs : List Nat} (hB : 0 < B) (h : V B xs < B ^ k) : ∀ t x, k ≤ t → xs[t]? = some x → x = 0 := by
  intro t x hkt hx
  have htl := (List.getElem?_eq_some_iff.1 hx).1
  have h1 := V_split (B := B) xs k
  rw [Nat.min_eq_left (by omega)] at h1
  have h2 : V B (xs.drop k) = 0 := by
    rcases Nat.eq_zero_or_pos (V B (xs.drop k)) with h0 | h0
    · exact h0
    · have := Nat.mul_le_mul_left (B ^ k) h0
      omega
  refine V_eq_zero hB h2 x ?_
  have h3 : (xs.drop k)[t - k]? = some x := by rw [List.getElem?_drop, show k + (t - k) = t by omega]; exact hx
  exact List.mem_of_getElem? h3
theorem lt_of_upper {B k : Nat} {xs : List Nat} (hB : 0 < B) (hd : Dg B xs) (h : ∀ t x, k ≤ t → xs[t]? = some x → x = 0) : V B xs < B ^ k := by
  have h1 := V_split (B := B) xs k
  have h2 : xs.drop k = List.replicate (xs.drop k).length 0 := by
    refine List.eq_replicate_of_mem fun x hx => ?_
    obtain ⟨i, hi, rfl⟩ := List.mem_iff_getElem.1 hx
    refine h (k + i) _ (by omega) ?_
    rw [← List.getElem?_drop, List.getElem?_eq_getElem hi]
  rw [h2, V_replicate, Nat.mul_zero, Nat.add_zero] at h1
  rw [h1]
  refine Nat.lt_of_lt_of_le (V_lt _ (hd.take k)) (Nat.pow_le_pow_right hB ?_)
  rw [List.length_take]; omega

/-- what the subtraction says: no borrow, the guess was right -/
theorem dig_right {B k n1 v W Q q us zs L : Nat} (hus : us = L + B ^ k * W) (hL : L < B ^ k) (hQ : W / v = Q) (hq1 : Q ≤ q) (h : zs + B ^ k * (v * q) = us + B ^ (k + n1) * 0) (hv : 0 < v) : q = Q := by
  refine Nat.le_antisymm ?_ hq1
  rw [← hQ]
  refine (Nat.le_div_iff_mul_le hv).2 ?_
  apply Classical.byContradiction
  intro hne
  have h1 := Nat.mul_le_mul_left (B ^ k) (show W + 1 ≤ v * q by rw [Nat.mul_comm v]; omega)
  rw [Nat.mul_add, Nat.mul_one] at h1
  omega
/-- .. a borrow: it was one too great -/
theorem dig_wrong {B k n1 v W Q q us zs L : Nat} (hus : us = L + B ^ k * W) (hQ : W / v = Q) (hq2 : q ≤ Q + 1) (h : zs + B ^ k * (v * q) = us + B ^ (k + n1) * 1) (hz : zs < B ^ (k + n1)) : q = Q + 1 := by
  refine Nat.le_antisymm hq2 ?_
  apply Classical.byContradiction
  intro hne
  have h1 : q ≤ W / v := by omega
  have h2 : v * q ≤ W := Nat.le_trans (Nat.mul_le_mul_left v h1) (Nat.mul_div_le _ _)
  have h3 := Nat.mul_le_mul_left (B ^ k) h2
  omega
theorem dig_back {B k n v W Q us zs z2 z3 L c c2 un s : Nat} (hus : us = L + B ^ k * W) (hQ : W / v = Q) (h : zs + B ^ k * (v * (Q + 1)) = us + B ^ (k + n + 1) * 1)
    (h2 : z2 + B ^ (k + n) * c = zs + B ^ k * v) (h3 : z3 + B ^ (k + n) * un = z2 + B ^ (k + n) * s) (h4 : s + B * c2 = un + c) (hc : c2 ≤ 1) (hz : z3 < B ^ (k + n + 1)) : z3 + B ^ k * (Q * v) = us := by
  have h5 : v * Q ≤ W := by rw [← hQ]; exact Nat.mul_div_le _ _
  have h6 := Nat.mul_le_mul_left (B ^ k) h5
  have h7 : B ^ (k + n) * s + B ^ (k + n + 1) * c2 = B ^ (k + n) * un + B ^ (k + n) * c := by
    rw [Nat.pow_succ, Nat.mul_assoc, ← Nat.mul_add, ← Nat.mul_add, h4]
  rw [Nat.mul_add v, Nat.mul_one, Nat.mul_add] at h
  rw [Nat.mul_comm Q]
  have h01 : c2 = 0 ∨ c2 = 1 := by omega
  rcases h01 with h8 | h8
  · subst h8; omega
  · subst h8; omega

theorem callAdd64_0 (x y : Nat) (w : World) :
    (callFunc 86 #[.int .u64 (x : Int), .int .u64 (y : Int), .int .u64 0]).run Try.prog w =
      .ok (.value (.tuple #[.int .u64 (((x + y) % 18446744073709551616 : Nat) : Int), .int .u64 (((x + y) / 18446744073709551616 : Nat) : Int)])) w := callAdd64 x y 0 (by decide) w

def RetDig (w : World) (g off : Nat) (us : List Nat) (Q v : Nat) (e : Ending) (w' : World) : Prop :=
  e = .returned (.int .u64 (Q : Int)) ∧ ∃ us2, Row w' g us2 ∧ Only w w' g ∧ w'.heap.size = w.heap.size ∧ us2.length = us.length ∧ Dg b64 us2 ∧ V b64 us2 + b64 ^ off * (Q * v) = V b64 us

set_option maxRecDepth 100000 in
set_option maxHeartbeats 400000 in
theorem digit_any (w : World) (g off cz : Nat) (us : List Nat) (hr : Row w g us) (B : Nat) (A : Option Addr) (n nu m c : Nat) (vs : List Nat) (hs : Sl w B A n c vs) (hB : B ≤ g) (hn : n = m + 2) (hnu : nu = n + 1)
    (hfit : off + n + 1 ≤ us.length) (hmax : us.length ≤ 1000000000) (hd : Dg b64 us) (hd2 : Dg b64 vs) (htop : ∀ x, vs[m + 1]? = some x → 9223372036854775808 ≤ x) (hlt : V b64 us < V b64 vs * b64 ^ (off + 1)) :
    Calls Try.prog 75 #[.slice (some ⟨g, off, none⟩) nu cz, .slice A n c] w fun e w' => RetDig w g off us (V b64 ((us.drop off).take (n + 1)) / V b64 vs) (V b64 vs) e w' := by
  have hvl : vs.length = m + 2 := by rw [← hs.len, hn]
  have hvb : V b64 vs * b64 ≤ b64 ^ (n + 1) := by
    have h1 := V_lt vs hd2
    rw [← hs.len] at h1
    rw [Nat.pow_succ]
    exact Nat.mul_le_mul_right _ (Nat.le_of_lt h1)
  obtain ⟨hwin, hwl⟩ := quo_win (n1 := n + 1) (k := off) (by omega) hlt hvb
  have hup := upper_zero (k := off + n + 1) b64_pos (by
    refine Nat.lt_of_lt_of_le hlt ?_
    have h1 := V_lt vs hd2
    rw [← hs.len] at h1
    have h2 := Nat.mul_le_mul_right (b64 ^ (off + 1)) (Nat.le_of_lt h1)
    rw [← Nat.pow_add, show n + (off + 1) = off + n + 1 by omega] at h2
    exact h2)
  have hLo := V_lt (us.take off) (hd.take off)
  rw [List.length_take, Nat.min_eq_left (by omega)] at hLo
  obtain ⟨win, hwinL⟩ : ∃ win, (us.drop off).take (n + 1) = win := ⟨_, rfl⟩
  rw [hwinL] at hwin hwl ⊢
  have hwlen : win.length = m + 3 := by rw [← hwinL, List.length_take, List.length_drop]; omega
  have hwd : Dg b64 win := by rw [← hwinL]; exact (hd.drop _).take _
  have hu : ∀ (k x : Nat), win[k]? = some x → w.cell? ⟨g, off + k, none⟩ = some (.int .u64 (x : Int)) := by
    intro k x hx
    rw [← hwinL, List.getElem?_take] at hx
    split at hx
    · rw [List.getElem?_drop] at hx; exact hr.at_ hx
    · cases hx
  obtain ⟨gv, ov, x0, hA, hgv, hx0, hcx0⟩ := hs.at_ (k := 0) (by omega)
  subst hA
  have hv : ∀ (k x : Nat), vs[k]? = some x → w.cell? ⟨gv, ov + k, none⟩ = some (.int .u64 (x : Int)) := by
    intro k x hx
    obtain ⟨b', o', x', hA', _, hx', hc'⟩ := hs.at_ (k := k) (by rw [hs.len]; exact (List.getElem?_eq_some_iff.1 hx).1)
    injection hA' with hA'
    injection hA' with e1 e2
    subst e1 e2
    rw [hx] at hx'
    rw [Option.some.inj hx']
    exact hc'
  have hest := estimate_any w g off cz gv ov c nu n (m + 1) m win vs hu hv rfl hn hnu hwlen hvl (by omega) hwd hd2
  have HC := Lib.hid (show V b64 win < V b64 vs * b64 ∧ ∀ x, vs[m + 1]? = some x → 9223372036854775808 ≤ x from ⟨hwl, htop⟩)
  obtain ⟨C, hC⟩ : ∃ C, (V b64 win < V b64 vs * b64 ∧ ∀ x, vs[m + 1]? = some x → 9223372036854775808 ≤ x) = C := ⟨_, rfl⟩
  rw [hC] at hest HC
  clear hC
  obtain ⟨Q, hQ⟩ : ∃ Q, V b64 win / V b64 vs = Q := ⟨_, rfl⟩
  rw [hQ] at hest ⊢
  have hvpos : 0 < V b64 vs := by
    rcases Nat.eq_zero_or_pos (V b64 vs) with h | h
    · rw [h] at hwl; omega
    · exact h
  obtain ⟨un, hun⟩ := get_lt (zs := us) (k := off + n) (by omega)
  have hQ64 : Q < b64 := by rw [← hQ]; exact Nat.div_lt_of_lt_mul hwl
  have HEST := Lib.hid hest
  have HQ := Lib.hid hQ
  have HN := Lib.hid hn
  have HNU := Lib.hid hnu
  have HWIN := Lib.hid hwin
  have HUP := Lib.hid hup
  have HLO := Lib.hid hLo
  have HVP := Lib.hid hvpos
  have HQ64 := Lib.hid hQ64
  have hnn : (n : Int) < nu := by omega
  have hn9 : (n : Int) ≤ 1000000000 := by omega
  have HFIT := Lib.hid hfit
  clear hest hQ hn hnu hwin hup hLo hu hv hwinL hwlen hwd hwl hvb hvl hvpos hlt htop hun un hx0 hcx0 x0 hQ64
  go_enter Try.func75, Try.ntmps75
  go_wp2_with fail
  refine HEST.out.mono ?_
  rintro e w1 ⟨q, kd, rfl, hq3, hq12, rfl⟩
  obtain ⟨hq1, hq2⟩ := hq12 HC.out
  clear hq12
  have HQ1 := Lib.hid hq1
  have HQ2 := Lib.hid hq2
  clear hq1 hq2
  go_wp2_with fail
  have hnu := HNU.out
  clear HNU
  subst hnu
  refine (subMul_any _ g off cz us (hr.drewN kd) B _ n c vs (hs.drewN kd) hB HFIT.out hmax hd hd2 q hq3).mono ?_
  rintro e w2 ⟨bo, zs, hbo, hr2, ho2, hz2, hl2, hd3, hzz, hV⟩
  have HV := Lib.hid hV
  have HZZ := Lib.hid hzz
  have HL2 := Lib.hid hl2
  have HZ2 := Lib.hid hz2
  have hzup : V b64 zs < b64 ^ (off + n + 1) := lt_of_upper b64_pos hd3 fun t x ht hx => HUP.out t x ht (by rw [← hzz t (.inr ht)]; exact hx)
  have HZUP := Lib.hid hzup
  clear hV hzz hl2 hz2 hzup
  rcases hbo with ⟨rfl, rfl⟩ | ⟨rfl, rfl⟩
  · obtain rfl : q = Q := dig_right (n1 := n + 1) HWIN.out HLO.out HQ.out HQ1.out HV.out HVP.out
    go_wp2
    go_ret
    refine ⟨rfl, zs, hr2, (Only.refl w g).drewN kd |>.trans ho2, HZ2.out, HL2.out, hd3, ?_⟩
    have := HV.out
    rw [Nat.mul_zero, Nat.add_zero, Nat.mul_comm (V b64 vs)] at this
    exact this
  · have hqe := dig_wrong (n1 := n + 1) HWIN.out HQ.out HQ2.out HV.out HZUP.out
    have hqm : (q : Int) - 1 = (Q : Int) := by omega
    obtain ⟨un, hun⟩ := get_lt (zs := zs) (k := off + n) (by rw [HL2.out]; have := HFIT.out; omega)
    have hcu := hr2.at_ hun
    have hul := hd3.get hun
    have hfz := hr2.frozen
    have hs2 := (hs.drewN kd).below (ho2.below hB (Nat.le_of_lt (Nat.lt_of_le_of_lt hB hr.lt)))
    have hr2' : Row w2.drew g zs := hr2
    have hs2' : Sl w2.drew B (some ⟨gv, ov, none⟩) n c vs := hs2
    have hadd := addTo_any w2.drew g off (n + 1) cz zs hr2' B _ n c vs hs2' hB (by rw [HL2.out]; have := HFIT.out; omega) (by omega) hd3 hd2
    have hcall := fun (y : Nat) (W : World) => callAdd64_0 un y W
    have hQi : (Q : Int) ≤ 18446744073709551615 := by have := lt64.1 HQ64.out; omega
    have hnn : (n : Int) < ((n + 1 : Nat) : Int) := by omega
    have hnn2 : (n : Int) < (n : Int) + 1 := by omega
    have HADD := Lib.hid hadd
    have HUN := Lib.hid hun
    have HQE := Lib.hid hqe
    clear hadd hun hqe
    go_wp2
    go_region_with ((go_at_call 79; refine HADD.out.mono ?_; rintro e w3 ⟨c1, z2, rfl, hc1, hr3, ho3, hz3, hl3, hd4, hzz3, hv3⟩; have hcu3 := hr3.at_ ((hzz3 _ (.inr (Nat.le_refl _))).trans HUN.out); have hfz3 := hr3.frozen; have HZZ3 := Lib.hid hzz3; have HV3 := Lib.hid hv3; have HL3 := Lib.hid hl3; have HZ3 := Lib.hid hz3; clear hzz3 hv3 hl3 hz3))
    all_goals
      go_wp2
      go_ret
      have hsi : (((un : Int) + (c1 : Int)) % 18446744073709551616) = (((un + c1) % 18446744073709551616 : Nat) : Int) := by omega
      have hs64 : (un + c1) % 18446744073709551616 < b64 := Nat.mod_lt _ (by decide)
      have h4 := hr3.set_ (i := off + n) hsi
      have hun3 := (HZZ3.out _ (.inr (Nat.le_refl _))).trans HUN.out
      have hd5 := hd4.set (off + n) hs64
      have hvset := V_set (B := b64) ((un + c1) % 18446744073709551616) hun3
      have hzup : V b64 (z2.set (off + n) ((un + c1) % 18446744073709551616)) < b64 ^ (off + n + 1) := lt_of_upper b64_pos hd5 fun t x ht hx => by
        rw [List.getElem?_set_ne (by omega)] at hx
        exact HUP.out t x ht (by rw [← HZZ.out t (.inr ht), ← HZZ3.out t (.inr (by omega))]; exact hx)
      refine ⟨rfl, _, h4, ((Only.refl w g).drewN kd |>.trans ho2).trans ((show Only w2 w2.drew g from (Only.refl w2 g).drewN 1).trans (ho3.set (off + n) _)), ?_, ?_, hd5, ?_⟩
      · have h1 := HZ3.out
        have h2 := HZ2.out
        simp [World.setCell] at *
        omega
      · rw [List.length_set, HL3.out, HL2.out]
      · have hq1 := HV.out
        rw [HQE.out] at hq1
        exact dig_back (B := b64) (n := n) (c := c1) (c2 := (un + c1) / 18446744073709551616) (un := un) (s := (un + c1) % 18446744073709551616) HWIN.out HQ.out hq1 HV3.out hvset (by have := Nat.div_add_mod (un + c1) 18446744073709551616; unfold b64; omega) (by have := lt64.1 hul; omega) hzup

/-- what digit does, whatever it is given; and what it says where it is given what it asks for -/
def RetDigC (w : World) (g off : Nat) (us : List Nat) (C : Prop) (Q v : Nat) (e : Ending) (w' : World) : Prop :=
  ∃ q us2, e = .returned (.int .u64 ((q : Nat) : Int)) ∧ q < b64 ∧ Row w' g us2 ∧ Only w w' g ∧ w'.heap.size = w.heap.size ∧ us2.length = us.length ∧ Dg b64 us2 ∧ (C → q = Q ∧ V b64 us2 + b64 ^ off * (Q * v) = V b64 us)

theorem wrap_pred (q : Nat) : ∃ q' : Nat, IntKind.u64.wrap ((q : Int) - 1) = (q' : Int) ∧ q' < b64 :=
  ⟨(q + 18446744073709551615) % 18446744073709551616, by rw [wrap_emod]; omega, Nat.mod_lt _ (by decide)⟩

set_option maxRecDepth 100000 in
set_option maxHeartbeats 400000 in
theorem digit_weak (w : World) (g off cz : Nat) (us : List Nat) (hr : Row w g us) (B : Nat) (A : Option Addr) (n nu m c : Nat) (vs : List Nat) (hs : Sl w B A n c vs) (hB : B ≤ g) (hn : n = m + 2) (hnu : nu = n + 1)
    (hfit : off + n + 1 ≤ us.length) (hmax : us.length ≤ 1000000000) (hd : Dg b64 us) (hd2 : Dg b64 vs) (Q : Nat) :
    Calls Try.prog 75 #[.slice (some ⟨g, off, none⟩) nu cz, .slice A n c] w fun e w' => RetDigC w g off us False Q (V b64 vs) e w' := by
  have hvl : vs.length = m + 2 := by rw [← hs.len, hn]
  obtain ⟨win, hwinL⟩ : ∃ win, (us.drop off).take (n + 1) = win := ⟨_, rfl⟩
  have hwlen : win.length = m + 3 := by rw [← hwinL, List.length_take, List.length_drop]; omega
  have hwd : Dg b64 win := by rw [← hwinL]; exact (hd.drop _).take _
  have hu : ∀ (k x : Nat), win[k]? = some x → w.cell? ⟨g, off + k, none⟩ = some (.int .u64 (x : Int)) := by
    intro k x hx
    rw [← hwinL, List.getElem?_take] at hx
    split at hx
    · rw [List.getElem?_drop] at hx; exact hr.at_ hx
    · cases hx
  obtain ⟨gv, ov, x0, hA, hgv, hx0, hcx0⟩ := hs.at_ (k := 0) (by omega)
  subst hA
  have hv : ∀ (k x : Nat), vs[k]? = some x → w.cell? ⟨gv, ov + k, none⟩ = some (.int .u64 (x : Int)) := by
    intro k x hx
    obtain ⟨b', o', x', hA', _, hx', hc'⟩ := hs.at_ (k := k) (by rw [hs.len]; exact (List.getElem?_eq_some_iff.1 hx).1)
    injection hA' with hA'
    injection hA' with e1 e2
    subst e1 e2
    rw [hx] at hx'
    rw [Option.some.inj hx']
    exact hc'
  have hest := estimate_any w g off cz gv ov c nu n (m + 1) m win vs hu hv rfl hn hnu hwlen hvl (by omega) hwd hd2
  obtain ⟨C, hC⟩ : ∃ C, (V b64 win < V b64 vs * b64 ∧ ∀ x, vs[m + 1]? = some x → 9223372036854775808 ≤ x) = C := ⟨_, rfl⟩
  obtain ⟨Q0, hQ0⟩ : ∃ Q, V b64 win / V b64 vs = Q := ⟨_, rfl⟩
  rw [hC, hQ0] at hest
  have HEST := Lib.hid hest
  have HNU := Lib.hid hnu
  have hnn : (n : Int) < nu := by omega
  have hn9 : (n : Int) ≤ 1000000000 := by omega
  have HFIT := Lib.hid hfit
  clear hest hn hnu hu hv hwinL hwlen hwd hvl hx0 hcx0 x0 hC hQ0
  go_enter Try.func75, Try.ntmps75
  go_wp2_with fail
  refine HEST.out.mono ?_
  rintro e w1 ⟨q, kd, rfl, hq3, hq12, rfl⟩
  clear hq12
  go_wp2_with fail
  have hnu := HNU.out
  clear HNU
  subst hnu
  refine (subMul_any _ g off cz us (hr.drewN kd) B _ n c vs (hs.drewN kd) hB HFIT.out hmax hd hd2 q hq3).mono ?_
  rintro e w2 ⟨bo, zs, hbo, hr2, ho2, hz2, hl2, hd3, hzz, hV⟩
  have HL2 := Lib.hid hl2
  have HZ2 := Lib.hid hz2
  clear hV hzz hl2 hz2
  rcases hbo with ⟨rfl, rfl⟩ | ⟨rfl, rfl⟩
  · go_wp2
    go_ret
    exact ⟨q, zs, rfl, hq3, hr2, (Only.refl w g).drewN kd |>.trans ho2, HZ2.out, HL2.out, hd3, fun h => h.elim⟩
  · obtain ⟨q', hq', hq4⟩ := wrap_pred q
    obtain ⟨un, hun⟩ := get_lt (zs := zs) (k := off + n) (by rw [HL2.out]; have := HFIT.out; omega)
    have hcu := hr2.at_ hun
    have hul := hd3.get hun
    have hfz := hr2.frozen
    have hs2 := (hs.drewN kd).below (ho2.below hB (Nat.le_of_lt (Nat.lt_of_le_of_lt hB hr.lt)))
    have hr2' : Row w2.drew g zs := hr2
    have hs2' : Sl w2.drew B (some ⟨gv, ov, none⟩) n c vs := hs2
    have hadd := addTo_any w2.drew g off (n + 1) cz zs hr2' B _ n c vs hs2' hB (by rw [HL2.out]; have := HFIT.out; omega) (by omega) hd3 hd2
    have hcall := fun (y : Nat) (W : World) => callAdd64_0 un y W
    have hnn : (n : Int) < ((n + 1 : Nat) : Int) := by omega
    have hnn2 : (n : Int) < (n : Int) + 1 := by omega
    have HADD := Lib.hid hadd
    have HUN := Lib.hid hun
    have HQ4 := Lib.hid hq4
    clear hadd hun hq4
    go_wp2
    go_region_with ((go_at_call 79; refine HADD.out.mono ?_; rintro e w3 ⟨c1, z2, rfl, hc1, hr3, ho3, hz3, hl3, hd4, hzz3, hv3⟩; have hcu3 := hr3.at_ ((hzz3 _ (.inr (Nat.le_refl _))).trans HUN.out); have hfz3 := hr3.frozen; have HL3 := Lib.hid hl3; have HZ3 := Lib.hid hz3; clear hzz3 hv3 hl3 hz3))
    all_goals
      go_wp2
      go_ret
      have hsi : (((un : Int) + (c1 : Int)) % 18446744073709551616) = (((un + c1) % 18446744073709551616 : Nat) : Int) := by omega
      have hs64 : (un + c1) % 18446744073709551616 < b64 := Nat.mod_lt _ (by decide)
      have h4 := hr3.set_ (i := off + n) hsi
      refine ⟨q', _, rfl, HQ4.out, h4, ((Only.refl w g).drewN kd |>.trans ho2).trans ((show Only w2 w2.drew g from (Only.refl w2 g).drewN 1).trans (ho3.set (off + n) _)), ?_, ?_, hd4.set (off + n) hs64, fun h => h.elim⟩
      · have h1 := HZ3.out
        have h2 := HZ2.out
        simp [World.setCell] at *
        omega
      · rw [List.length_set, HL3.out, HL2.out]

theorem digit_all (w : World) (g off cz : Nat) (us : List Nat) (hr : Row w g us) (B : Nat) (A : Option Addr) (n nu m c : Nat) (vs : List Nat) (hs : Sl w B A n c vs) (hB : B ≤ g) (hn : n = m + 2) (hnu : nu = n + 1)
    (hfit : off + n + 1 ≤ us.length) (hmax : us.length ≤ 1000000000) (hd : Dg b64 us) (hd2 : Dg b64 vs) (htop : ∀ x, vs[m + 1]? = some x → 9223372036854775808 ≤ x) :
    Calls Try.prog 75 #[.slice (some ⟨g, off, none⟩) nu cz, .slice A n c] w fun e w' => RetDigC w g off us (V b64 us < V b64 vs * b64 ^ (off + 1)) (V b64 ((us.drop off).take (n + 1)) / V b64 vs) (V b64 vs) e w' := by
  by_cases hlt : V b64 us < V b64 vs * b64 ^ (off + 1)
  · refine (digit_any w g off cz us hr B A n nu m c vs hs hB hn hnu hfit hmax hd hd2 htop hlt).mono ?_
    rintro e w' ⟨he, us2, h1, h2, h3, h4, h5, h6⟩
    refine ⟨_, us2, he, ?_, h1, h2, h3, h4, h5, fun _ => ⟨rfl, h6⟩⟩
    have hvb : V b64 vs * b64 ≤ b64 ^ (n + 1) := by
      have h1 := V_lt vs hd2
      rw [← hs.len] at h1
      rw [Nat.pow_succ]
      exact Nat.mul_le_mul_right _ (Nat.le_of_lt h1)
    exact Nat.div_lt_of_lt_mul (quo_win (n1 := n + 1) (k := off) (by omega) hlt hvb).2
  · refine (digit_weak w g off cz us hr B A n nu m c vs hs hB hn hnu hfit hmax hd hd2 0).mono ?_
    rintro e w' ⟨q, us2, h1, h2, h3, h4, h5, h6, h7, _⟩
    exact ⟨q, us2, h1, h2, h3, h4, h5, h6, h7, fun h => absurd h hlt⟩
end Go.Proofs.Ytmmmcbklgmjalaa

/- slices.Backward over a row that the loop's body writes; a region's law by a relation. -/
namespace Go.Proofs.Ytmmmcbklgmjalaa
open Go.RowKit Go.Shelf
attribute [local go_sem] Oper.semAt_some

/-- what a round keeps: all below n₀, the slice's box, and block gq as a row of length n -/
def KpR (n₀ Bs gq n : Nat) (W W' : World) : Prop := Below n₀ W W' ∧ W'.heap[Bs]? = W.heap[Bs]? ∧ (∀ zs, Row W gq zs → zs.length = n → ∃ zs', Row W' gq zs' ∧ zs'.length = n)
theorem KpR.refl (n₀ Bs gq n : Nat) (W : World) : KpR n₀ Bs gq n W W := ⟨Below.refl _ _, rfl, fun zs h hl => ⟨zs, h, hl⟩⟩
theorem KpR.trans {n₀ Bs gq n : Nat} {A B C : World} (h : KpR n₀ Bs gq n A B) (k : KpR n₀ Bs gq n B C) : KpR n₀ Bs gq n A C :=
  ⟨h.1.trans k.1, k.2.1.trans h.2.1, fun zs hr hl => by
    obtain ⟨z1, h1, h2⟩ := h.2.2 zs hr hl
    exact k.2.2 z1 h1 h2⟩
theorem KpR.put {n₀ Bs gq n : Nat} {w : World} (hn : n₀ ≤ w.heap.size) (hb : Bs < w.heap.size) (hq : gq < w.heap.size) (W : World) (l : Nat) (o o' : Obj) (hl : w.heap.size ≤ l) (h : W.heap[l]? = some o) (hc : o.isCells = false) (hw : o.isWalk = false) : KpR n₀ Bs gq n W (W.putObj l o') := by
  have k := KpB.put hn hb W l o o' hl h hc hw
  have k2 := KpB.put hn hq W l o o' hl h hc hw
  exact ⟨k.1, k.2, fun zs hr hz => ⟨zs, k2.2.trans hr, hz⟩⟩
abbrev encR (n : Nat) : Ix n × Nat → Array Value := fun i => #[.int .i64 (i.1.1 : Int), .int .u64 (i.2 : Int)]
def firsts {n : Nat} (l : List (Ix n × Nat)) : List Nat := l.map (·.1.1)
theorem firsts_snoc {n : Nat} (l : List (Ix n × Nat)) (x : Ix n × Nat) : firsts (l ++ [x]) = firsts l ++ [x.1.1] := by simp [firsts]
theorem firsts_length {n : Nat} (l : List (Ix n × Nat)) : (firsts l).length = l.length := by simp [firsts]

set_option maxRecDepth 100000 in
set_option maxHeartbeats 2000000 in
theorem back1R_in (F : Fence) (nn : Nat) (h7 : F.fn 82) (hro : F.round = none) (hn : 1 ≤ nn) (l Bs n₀ n gq : Nat) (hm9 : n ≤ 9223372036854775807) (J Jx : List (Ix n × Nat) → World → Prop)
    (hY : ∀ pre x W, J pre W → pre.length < n → YieldAt F (nn - 1) Try.prog l (encR n x) W fun e W' =>
      (e = .returned (.bool true) ∧ J (pre ++ [x]) W' ∧ KpR n₀ Bs gq n W W') ∨ (e = .returned (.bool false) ∧ Jx (pre ++ [x]) W'))
    (W : World) (hBs : W.cell? ⟨Bs, 0, none⟩ = some (.slice (some ⟨gq, 0, none⟩) n n)) (zs0 : List Nat) (hr0 : Row W gq zs0) (hl0 : zs0.length = n) (h0 : J [] W) :
    CallsIn F nn Try.prog 82 #[.func (.yield l) #[] #[], .pointer (some ⟨Bs, 0, none⟩)] W fun e W' => (∃ v, e = .returned v) ∧
      ((∃ ys : List (Ix n × Nat), firsts ys = downL n n ∧ J ys W') ∨ (∃ pre : List (Ix n × Nat), (∃ k, k ≤ n ∧ firsts pre = downL n k) ∧ Jx pre W')) := by
  have HR0 := Lib.hid (show ∃ zs, Row W gq zs ∧ zs.length = n from ⟨zs0, hr0, hl0⟩)
  clear hr0 hl0 zs0
  refine callsIn_of_wp Try.func82 rfl h7 ?_ hro
  simp only [Try.ntmps82, List.size_toArray, List.length_cons, List.length_nil, Nat.reduceAdd, Nat.reduceSub, Array.replicate_succ, Array.replicate_zero, List.push_toArray, List.append_toArray, List.nil_append, List.cons_append]
  gi_wp2
  gi_loopw [3] (fun i wr => ∃ (m : Nat) (pre : List (Ix n × Nat)), m ≤ n ∧ i = .int .i64 ((m : Int) - 1) ∧ firsts pre = downL n (n - m) ∧ J pre wr ∧ KpR n₀ Bs gq n W wr)
    (fun i _ => (intOf i + 1).toNat)
  case atStart => exact ⟨n, [], Nat.le_refl _, rfl, by simp [firsts, downL], h0, KpR.refl _ _ _ _ _⟩
  case round =>
    obtain ⟨m, pre, hm, rfl, hpre, hJs, hnx⟩ := hrel
    have HP := Lib.hid hpre
    clear hpre
    by_cases hm0 : m = 0
    · subst hm0
      gi_wp2
      go_end0
      exact ⟨⟨_, rfl⟩, .inl ⟨pre, HP.out, hJs⟩⟩
    · obtain ⟨t, rfl⟩ : ∃ t, m = t + 1 := ⟨m - 1, by omega⟩
      have htn : t < n := by omega
      have hBc : wr.cell? ⟨Bs, 0, none⟩ = some (.slice (some ⟨gq, 0, none⟩) n n) := (World.cell?_of_block (a := ⟨Bs, 0, none⟩) hnx.2.1).trans hBs
      obtain ⟨zs0, hr0, hl0⟩ := HR0.out
      obtain ⟨zs, hr, hzl⟩ := hnx.2.2 zs0 hr0 hl0
      obtain ⟨x, hx⟩ := get_lt (zs := zs) (k := t) (by omega)
      have hc := hr.at_ hx
      have hpl : pre.length < n := by
        have := congrArg List.length HP.out
        rw [firsts_length, downL_length] at this
        omega
      obtain ⟨fn, tmps, assign, body, hy, hR⟩ := hY pre (⟨t, htn⟩, x) wr hJs hpl
      dsimp only [encR] at hy
      clear hx hzl hl0 hr0 zs0
      have hti : (t : Int) < n := by omega
      have ht0 : (0 : Int) ≤ ((t + 1 : Nat) : Int) - 1 := by omega
      have hc' : wr.cell? ⟨gq, 0 + t, none⟩ = some (.int .u64 (x : Int)) := by rw [Nat.zero_add]; exact hc
      gi_wp2
      refine hR.mono ?_
      rintro e W3 (⟨rfl, hJ3, hk3⟩ | ⟨rfl, hJx3⟩)
      · gi_wp2
        go_roundw
        case rel => exact ⟨t, pre ++ [(⟨t, htn⟩, x)], by omega, by go_num, by rw [firsts_snoc, HP.out, show n - t = (n - (t + 1)) + 1 by omega, downL_succ]; simp; omega, hJ3, hnx.trans hk3⟩
        case measure => simp [intOf]
      · gi_wp2
        refine bodyPost_ret (results_none rfl _ _ _) rfl ?_
        exact ⟨⟨_, rfl⟩, .inr ⟨_, ⟨n - t, by omega, by rw [firsts_snoc, HP.out, show n - t = (n - (t + 1)) + 1 by omega, downL_succ]; simp; omega⟩, hJx3⟩⟩

theorem backR_stops (F : Fence) (nn : Nat) (h7 : F.fn 82) (hro : F.round = none) (hn : 1 ≤ nn) (Bs n₀ n gq : Nat) (zs : List Nat) (w : World) (hBs : Bs < w.heap.size) (hm : n ≤ 9223372036854775807)
    (hc : w.cell? ⟨Bs, 0, none⟩ = some (.slice (some ⟨gq, 0, none⟩) n n)) (hr : Row w gq zs) (hl : zs.length = n) :
    SeqStopsK F nn Try.prog 82 #[.pointer (some ⟨Bs, 0, none⟩)] (encR n) (KpR n₀ Bs gq n) (fun ys => firsts ys = downL n n) (fun pre => ∃ k, k ≤ n ∧ firsts pre = downL n k) n w := fun l J Jx W hW _ _ hY h0 => by
  have hc' := (hW.cell (p := ⟨Bs, 0, none⟩) hBs).trans hc
  exact back1R_in F nn h7 hro hn l Bs n₀ n gq hm J Jx hY W hc' zs (hr.below hW hr.lt) hl h0

theorem wrote_congr (ops : Array Oper) (v1 v2 : Nat → Value) (L : Array Bool) (t0 : Array Value) (h : ∀ j, L.getD j false = true → v1 j = v2 j) : ∀ k, wrote ops v1 L t0 k = wrote ops v2 L t0 k := by
  intro k
  induction k with
  | zero => rfl
  | succ k ih =>
    simp only [wrote]
    split
    · next hk => rw [ih, h k hk]
    · exact ih

/-- THE REGION: each operation, when its turn comes, yields a value; values and world meet a relation to what has been listed. -/
theorem wpIn_region_rel {β : Type} {F : Fence} {n : Nat} {P : Program} {id : Nat} {ops : Array Oper} {Q : Exit → Act → World → Prop} {a : Act} {w : World} (hm : P.follows .mixedOrders = true) (hd : Distinct ops)
    (vals : β → Nat → Value) (Wo : β → Array Bool → World → Prop) (b0 : β) (hw0 : Wo b0 (Array.replicate ops.size false) w.drew)
    (hstep : ∀ (b : β) (L : Array Bool) (a' : Act) (w' : World), Wo b L w' → L.size = ops.size → a'.defers = a.defers → (∀ (j : Nat) (oj : Oper), ops[j]? = some oj → L.getD j false = true → ∀ e ∈ oj.after, Region.binds .any e = true → L.getD e.on false = true) →
      (∀ t, (∀ (i : Nat) (oi : Oper), ops[i]? = some oi → oi.dst ≠ some t) → a'.tmps.getD t undef = a.tmps.getD t undef) →
      (∀ (j : Nat) (oj : Oper) t, ops[j]? = some oj → oj.dst = some t → L.getD j false = true → t < a.tmps.size → a'.tmps.getD t undef = vals b j) →
      ∀ i ∈ Region.ready .any ops L, ∀ oi, ops[i]? = some oi → ∀ (K : Act → World → Prop), (∀ b' w'', (∀ j, L.getD j false = true → vals b' j = vals b j) → Wo b' (L.setIfInBounds i true) w'' → K (a'.put oi.dst (vals b' i)) w'') → wpOpIn F n P ops Q i K a' w')
    (hend : ∀ (b : β) (L : Array Bool) (w' : World), Wo b L w' → (∀ i, i < ops.size → L.getD i false = true) → Q .normal { tmps := wrote ops (vals b) (Array.replicate ops.size true) a.tmps ops.size, defers := a.defers } w')
    (hacyc : ∀ L : Array Bool, L.size = ops.size → Region.ready .any ops L = [] → ∀ i, i < ops.size → L.getD i false = true) : (Code.region id ops true).wpIn F n P Q a w := by
  refine wpIn_region_any hm ?_
  refine wpAnyIn_inv (fun L a' w' => (L.size = ops.size ∧ ∀ (j : Nat) (oj : Oper), ops[j]? = some oj → L.getD j false = true → ∀ e ∈ oj.after, Region.binds .any e = true → L.getD e.on false = true) ∧ ∃ b, a' = { tmps := wrote ops (vals b) L a.tmps ops.size, defers := a.defers } ∧ Wo b L w') ?_ ?_ (fun L a w h => h.1.1) _ _ _ _ ⟨⟨by simp, ?_⟩, b0, ?_, hw0⟩ ?_
  · rintro L a' w' ⟨⟨hs, hcl⟩, b, rfl, hW⟩ i hi
    obtain ⟨h1, o, ho, hdep⟩ := mem_ready.1 hi
    have hi' : i < L.size := by rw [hs]; exact (Array.getElem?_eq_some_iff.1 ho).1
    have hf : L.getD i false = false := by
      rw [Array.getD_eq_getD_getElem?, Array.getElem?_eq_getElem hi'] at h1 ⊢
      simpa using h1
    refine hstep b L { tmps := wrote ops (vals b) L a.tmps ops.size, defers := a.defers } _ hW hs rfl hcl (fun t ht => wrote_old ops (vals b) L a.tmps t ht _) (fun j oj t hj hjt hL ht => wrote_new ops (vals b) L a.tmps hd hj hjt hL ht _ (Array.getElem?_eq_some_iff.1 hj).1) i hi o ho _ fun b' w'' hv hw'' => ⟨⟨by simp [hs], ?_⟩, b', ?_, hw''⟩
    · have hmono : ∀ t, L.getD t false = true → (L.setIfInBounds i true).getD t false = true := by
        intro t ht
        by_cases e : t = i
        · subst e; simp [Array.getD_eq_getD_getElem?, hi']
        · simp only [Array.getD_eq_getD_getElem?] at ht ⊢
          rw [Array.getElem?_setIfInBounds_ne (fun h => e h.symm)]; exact ht
      intro j oj hj hLj e he hb
      by_cases hji : j = i
      · subst hji
        obtain rfl : o = oj := Option.some.inj (ho.symm.trans hj)
        exact hmono _ (hdep e he hb)
      · refine hmono _ (hcl j oj hj ?_ e he hb)
        simp only [Array.getD_eq_getD_getElem?] at hLj ⊢
        rw [Array.getElem?_setIfInBounds_ne (fun h => hji h.symm)] at hLj
        exact hLj
    rw [wrote_set ops (vals b') L a.tmps hd ho hi' hf, if_pos (by rw [← hs]; exact hi'), wrote_congr ops (vals b') (vals b) L a.tmps hv]
    unfold Act.put
    cases o.dst <;> rfl
  · rintro L a' w' ⟨⟨hs, _⟩, b, rfl, hW⟩ hr
    have hall := hacyc L hs hr
    have e : L = Array.replicate ops.size true := by
      apply Array.ext
      · simp [hs]
      · intro i h1 h2
        have := hall i (by omega)
        rw [Array.getD_eq_getD_getElem?, Array.getElem?_eq_getElem h1] at this
        simpa using this
    have h := hend b L w' hW hall
    rw [e]
    exact h
  · intro j oj _ hLj
    exfalso
    rw [Array.getD_eq_getD_getElem?, Array.getElem?_replicate] at hLj
    split at hLj <;> simp at hLj
  · have : ∀ k, wrote ops (vals b0) (Array.replicate ops.size false) a.tmps k = a.tmps := by
      intro k
      induction k with
      | zero => rfl
      | succ k ih =>
        simp only [wrote]
        rw [if_neg (by rw [Array.getD_eq_getD_getElem?, Array.getElem?_replicate]; split <;> simp)]
        exact ih
    rw [this]
  · simp
theorem in_call_rel {F : Fence} {n : Nat} {P : Program} {ops : Array Oper} {Q : Exit → Act → World → Prop} {i : Nat} {o : Oper} {K : Act → World → Prop} {a : Act} {w : World} {v : Value} {f : FuncId} {args : Array Value} (ho : ops[i]? = some o) (hg : o.guard = none) (hdf : ∀ c, o.op ≠ .defer c) (hF : F.depth = none)
    (hab : ∀ f, o.about P w a.eval = some f → F.fn f) (hrun : (execOp a.eval o).run P w = .ok (.enter f args) w) (hc : CallsIn F (n - 1) P f args w fun e w' => e = .returned v ∧ K (a.put o.dst v) w') : wpOpIn F n P ops Q i K a w := by
  unfold wpOpIn
  simp only [ho, Region.wanted, hg, if_true]
  refine ⟨hab, ?_⟩
  rw [Oper.semAt_plain F _ _ hdf, hrun]
  refine ⟨(fun h => by (rw [hF] at h; cases h)), hc.mono ?_⟩
  rintro e w' ⟨rfl, h⟩
  exact h

/-- 'copy(d, s)' as one step of a region that draws -/
theorem step_copyU {w : World} {ops : Array Oper} {o : Oper} {a : Act} {K : Act → World → Prop} {Q : Exit → Act → World → Prop} {E : Prop} (hgd : o.guard = none) (d s : Operand) (dT sT : TypeId) (hu : Try.prog.underlying dT = some (.slice 49))
    (ho : o.op = .call { callee := .builtin .copy, args := #[d, s], argTypes := #[dT, sT] })
    (g off dLen dCap : Nat) (sp : Option Addr) (sLen sCap : Nat) (hd : a.eval d = .slice (some ⟨g, off, none⟩) dLen dCap) (hs : a.eval s = .slice sp sLen sCap)
    (zs ys : List Nat) (hg : Row w g zs) (B : Nat) (hsl : Sl w B sp sLen sCap ys) (hfit : off + dLen ≤ zs.length) (hle : sLen ≤ dLen)
    (h : ∀ w' v, Row w' g (splice zs off ys) → Only w w' g → w'.heap.size = w.heap.size → K (a.put o.dst v) w') :
    if Region.wanted o (yielded ops a.tmps) = true then Oper.wp Try.prog o a w K Q else E := by
  have hw : Region.wanted o (yielded ops a.tmps) = true := by simp [Region.wanted, hgd]
  rw [if_pos hw]
  have hsz : (Try.prog.info? 49).map (·.size) = some 1 := by
    obtain ⟨i0, hi, hz0, hz1, hz2⟩ := info_parts Try.infoU
    rw [hi]; simp [hz1]
  have hr := hsl.rd
  have hl := hsl.len
  subst hl
  have hmin : Nat.min ys.length dLen = ys.length := Nat.min_eq_left hle
  by_cases hn : ys = []
  · subst hn
    have hrun := run_copy_none (P := Try.prog) w dT sT o.type 49 (some ⟨g, off, none⟩) sp dLen dCap ([] : List Nat).length sCap hu hsz (by simp)
    unfold Oper.wp
    simp only [List.length_nil] at hrun hs
    simp [execOp, ho, resolve, invoke, builtin, hd, hs, hrun, Result.andThen]
    exact h w _ (by simpa [splice] using hg) (Only.refl _ _) rfl
  · obtain ⟨b, o', rfl, _, hc⟩ := hr hn
    have hrun := run_copy_row (P := Try.prog) w dT sT o.type 49 g off dLen dCap ⟨b, o', none⟩ ys.length sCap _ _ (ys.map U) hu hsz hg (by simp [hmin]) (fun j u hu => by
      rw [Addr.add_lit]
      simp only [List.getElem?_map, Option.map_eq_some_iff] at hu
      obtain ⟨y, hy, rfl⟩ := hu
      exact hc j y hy) (by simp; omega) (oneCellU ys)
    unfold Oper.wp
    simp [execOp, ho, resolve, invoke, builtin, hd, hs, hrun, Result.andThen]
    refine h _ _ ?_ ⟨rfl, rfl, rfl, by simp [World.setRow], fun k _ hk => setRow_other w g k _ (fun e => hk (by rw [e]))⟩ (by simp [World.setRow])
    have := setRow_heap w g _ (((zs.map U).toArray).toList.take off ++ (ys.map U ++ ((zs.map U).toArray).toList.drop (off + (ys.map U).length))).toArray _ _ hg
    unfold Row
    simp only [List.length_map] at this
    simpa [← splice_map, splice] using this
/-- a call of a Go function, as one step of a region that draws -/
theorem step_call2 {P : Program} {ops : Array Oper} {o : Oper} {a : Act} {w : World} {K : Act → World → Prop} {Q : Exit → Act → World → Prop} {E : Prop} (hg : o.guard = none) (g : FuncId) (p q : Operand) (ts : Array TypeId)
    (ho : o.op = .call { callee := .value (.func g), args := #[p, q], argTypes := ts }) (x y : Value) (hp : a.eval p = x) (hq : a.eval q = y) (hnf : (callFunc g #[x, y]).run P w = .ok (.enter g #[x, y]) w)
    (hc : Calls P g #[x, y] w fun e w' => ∃ v, e = .returned v ∧ K (a.put o.dst v) w') : if Region.wanted o (yielded ops a.tmps) = true then Oper.wp P o a w K Q else E := by
  have hw : Region.wanted o (yielded ops a.tmps) = true := by simp [Region.wanted, hg]
  rw [if_pos hw]
  have hev : a.eval (.func g) = .func (.func g) #[] #[] := rfl
  unfold Oper.wp
  simp [execOp, ho, resolve, invoke, hev, hp, hq, hnf, Deferred.ofValue, Oper.upon]
  refine hc.mono ?_
  rintro e w' ⟨v, rfl, h⟩
  exact h
end Go.Proofs.Ytmmmcbklgmjalaa

/- A quotient of two words, as one step of the walk. -/
namespace Go.Proofs.Ytmmmcbklgmjalaa
open Go.RowKit

theorem wl_quo {w : World} {ops : Array Oper} {rest : List Oper} {o : Oper} {a : Act} {Q : Exit → Act → World → Prop} (hgd : o.guard = none) (l r : Operand)
    (hop : o.op = Op.binOp BinOp.quo 49 l r 49) (N D : Nat) (hl : a.eval l = .int .u64 (N : Int)) (hr : a.eval r = .int .u64 (D : Int)) (hN : N < 18446744073709551616) (hD : 0 < D)
    (h : wpList Try.prog ops Q rest (a.put o.dst (.int .u64 ((N / D : Nat) : Int))) w) :
    wpList Try.prog ops Q (o :: rest) a w := by
  refine wpList_plain hgd fun K hK => ?_
  have h2 : IntKind.u64.wrap ((N : Int) / D) = ((N / D : Nat) : Int) := by rw [← Int.natCast_ediv, wrap_nat64 (Nat.lt_of_le_of_lt (Nat.div_le_self _ _) hN)]
  unfold Oper.wp
  simp only [execOp, hop]
  rw [hl, hr]
  have hb : (binOp BinOp.quo 49 (.int .u64 (N : Int)) (.int .u64 (D : Int))).run Try.prog w = .ok (.int .u64 ((N / D : Nat) : Int)) w := by
    simp [h2, go_sem]
    omega
  simp [eqGuard, hb, Result.andThen]
  exact hK _ _ h
end Go.Proofs.Ytmmmcbklgmjalaa

/- The law's begun: some numbers are told. -/
namespace Go.Proofs.Ytmmmcbklgmjalaa
open Go.RowKit Go.Shelf
attribute [local go_sem] Oper.semAt_some

theorem nm_one (x : Nat) (h0 : x ≠ 0) (h : x < b64) : Nm b64 [x] x := ⟨fun y hy => by simp at hy; omega, fun y hy => by simp at hy; omega, by simp [V]⟩
theorem sl_new (w : World) (x : Nat) : Sl (w.alloc (.cells #[.int .u64 (x : Int)] 49)) (w.heap.size + 1) (some ⟨w.heap.size, 0, none⟩) 1 1 [x] := by
  have h := (heap_new_row w x).sl (by simp)
  rw [World.size_alloc] at h
  exact h

theorem eql_nilFunc (g : Nat) (w : World) : (binOp .eql 71 (.func (.func 49) #[] #[.pointer (some ⟨g, 0, none⟩)]) .nilFunc).run Try.prog w = .ok (.bool false) w := by kernel_rfl

end Go.Proofs.Ytmmmcbklgmjalaa

/- The law's Cut and few. -/
namespace Go.Proofs.Ytmmmcbklgmjalaa
open Go.RowKit

set_option maxHeartbeats 400000 in
theorem cut_any (w : World) (B : Nat) (A : Option Addr) (n c : Nat) (xs : List Nat) (hs : Sl w B A n c xs) (k : Nat) (hk : k ≤ 1000000) :
    Calls Try.prog 14 #[.slice A n c, .int .i64 k] w fun e w' => RetS w (xs.take k) e w' := by
  have hlc := hs.cap
  have hm := hs.max
  by_cases h : n < k
  · have e : xs.take k = xs.take n := by rw [List.take_of_length_le (by rw [← hs.len]; omega), List.take_of_length_le (by rw [← hs.len]; omega)]
    rw [e]
    have HS := hs.take (Nat.le_refl n)
    go_enter Try.func14, Try.ntmps14
    go_wp2_with (at_builtin; refine wl_append_nil rfl _ _ Try.underlying32 rfl A n c (xs.take n) rfl B HS (by omega) ?_; intro A' c' w1 h1 h2)
    go_ret
    exact ⟨A', n, c', rfl, h1, h2⟩
  · have HS := hs.take (k := k) (by omega)
    go_enter Try.func14, Try.ntmps14
    go_wp2_with (at_builtin; refine wl_append_nil rfl _ _ Try.underlying32 rfl A k c (xs.take k) rfl B HS (by omega) ?_; intro A' c' w1 h1 h2)
    go_ret
    exact ⟨A', k, c', rfl, h1, h2⟩

end Go.Proofs.Ytmmmcbklgmjalaa

/- What came in, in the words of Base; lengths. -/
namespace Go.Proofs.Ytmmmcbklgmjalaa
open Go.RowKit

theorem sl_of_row {w : World} {a : Option Addr} {len cap : Nat} {zs : List Int}
    (h : (a = none ∧ len = 0 ∧ cap = 0 ∧ zs = []) ∨ ∃ x, a = some x ∧ len ≤ cap ∧ cap ≤ maxLen ∧ zs.length = cap ∧ (∀ i, i < zs.length → w.cell? (x.add i) = some (.int .u64 (zs.getD i 0))) ∧ ∀ n ∈ zs, (Lit.int .u64 n).wf = true) :
    ∃ xs, Sl w w.heap.size a len cap xs ∧ Dg b64 xs := by
  rcases h with ⟨rfl, rfl, rfl, rfl⟩ | ⟨x, rfl, hl, hm, hz, hc, hwf⟩
  · exact ⟨[], Sl.nil _ _ _ (by omega), fun x hx => by cases hx⟩
  · have hb : ∀ n ∈ zs, 0 ≤ n ∧ n ≤ 18446744073709551615 := fun n hn => bounds_u64 (hwf n hn)
    refine ⟨(zs.take len).map Int.toNat, ⟨by simp; omega, hl, by simpa [maxLen] using hm, fun hne => ?_⟩, fun y hy => ?_⟩
    · have hlen : 0 < len := by
        rcases Nat.eq_zero_or_pos len with h | h
        · subst h; simp at hne
        · exact h
      obtain ⟨b, off, spot⟩ := x
      have h0 := hc 0 (by omega)
      have hsp : spot = none := by simpa [Addr.add] using World.cell?_spot h0
      subst hsp
      refine ⟨b, off, rfl, World.block_lt_of_cell? w _ (by simpa [Addr.add] using h0), fun k y hy => ?_⟩
      rw [List.getElem?_map, Option.map_eq_some_iff] at hy
      obtain ⟨z, hzk, rfl⟩ := hy
      rw [List.getElem?_take] at hzk
      split at hzk
      · rename_i hkl
        have h1 := hc k (by omega)
        rw [Addr.add_lit, List.getD_eq_getElem?_getD, hzk] at h1
        have := hb z (List.mem_of_getElem? hzk)
        rw [Int.toNat_of_nonneg this.1]
        exact h1
      · cases hzk
    · obtain ⟨z, hz, rfl⟩ := List.mem_map.1 hy
      have := hb z (List.mem_of_mem_take hz)
      rw [lt64]
      omega

theorem len32 {xs : List Nat} {N k : Nat} (h : Nm b32 xs N) (hN : N < b64 ^ k) : xs.length ≤ 2 * k := by
  refine h.length_le (by decide) ?_
  rw [b64_eq, Nat.mul_pow, ← Nat.pow_add, ← Nat.two_mul] at hN
  exact hN
theorem V20 {xs : List Nat} (hd : Dg b64 xs) : V b64 (xs.take 20) < b64 ^ 20 := by
  have h := V_lt (xs.take 20) (hd.take 20)
  have h2 : b64 ^ (xs.take 20).length ≤ b64 ^ 20 := Nat.pow_le_pow_right b64_pos (by rw [List.length_take]; exact Nat.min_le_left _ _)
  omega
theorem add20 {B a b : Nat} (hB : 2 ≤ B) (ha : a < B ^ 20) (hb : b < B ^ 20) : a + b < B ^ 21 := by
  rw [Nat.pow_succ]
  have := Nat.mul_le_mul_left (B ^ 20) hB
  omega
theorem mul20 {B a b : Nat} (ha : a < B ^ 20) (hb : b < B ^ 20) : a * b < B ^ 40 := by
  rw [show 40 = 20 + 20 from rfl, Nat.pow_add]
  exact Nat.mul_lt_mul'' ha hb
end Go.Proofs.Ytmmmcbklgmjalaa

/- LimbSums, walked. -/
namespace Go.Proofs.Ytmmmcbklgmjalaa
open Go.RowKit

end Go.Proofs.Ytmmmcbklgmjalaa

/- The reference's Quo, a long divisor. -/
namespace Go.Proofs.Ytmmmcbklgmjalaa
open Go.RowKit

theorem quo_end {N M s Q r : Nat} (hs : 0 < s) (hM : 0 < M) (h : r + Q * (s * M) = s * N) (hr : r < s * M) : Q = N / M ∧ r = s * (N % M) := by
  have hv : 0 < s * M := Nat.mul_pos hs hM
  have h1 : s * N / (s * M) = Q := by rw [← h, Nat.add_mul_div_right _ _ hv, Nat.div_eq_of_lt hr, Nat.zero_add]
  have h2 : s * N % (s * M) = r := by rw [← h, Nat.add_mul_mod_self_right, Nat.mod_eq_of_lt hr]
  rw [Nat.mul_div_mul_left _ _ hs] at h1
  rw [Nat.mul_mod_mul_left] at h2
  exact ⟨h1.symm, h2.symm⟩
/-- the scale keeps the length -/
theorem scale_len {ys : List Nat} {M p top s : Nat} (hM : Nm b32 ys M) (hl : ys.length = p + 1) (ht : ys[p]? = some top) (hs : s = 4294967296 / (top + 1)) :
    0 < s ∧ s < 4294967296 ∧ b32 ^ p ≤ M ∧ ∀ vt, Nm b32 vt (s * M) → vt.length = p + 1 := by
  have htl := lt32.1 (hM.1.get ht)
  have ht0 : top ≠ 0 := by
    refine hM.2.1 top ?_
    rw [List.getLast?_eq_getElem?, hl]
    simpa using ht
  have hs0 : 0 < s := by rw [hs]; exact Nat.div_pos (by omega) (by omega)
  have hs1 : s * (top + 1) ≤ 4294967296 := by rw [hs]; exact Nat.div_mul_le_self _ _
  have hs2 : s < 4294967296 := by
    have : s * 2 ≤ s * (top + 1) := Nat.mul_le_mul_left _ (by omega)
    omega
  have e : M = V b32 (ys.take p) + b32 ^ p * top := by
    rw [← hM.2.2, ← V_take_succ ht, List.take_of_length_le (by omega)]
  have hlo := V_lt (ys.take p) (hM.1.take p)
  rw [List.length_take, Nat.min_eq_left (by omega)] at hlo
  have hge : b32 ^ p ≤ M := by
    have := Nat.mul_le_mul_left (b32 ^ p) (show 1 ≤ top by omega)
    omega
  have hlt : M < b32 ^ p * (top + 1) := by rw [Nat.mul_succ]; omega
  refine ⟨hs0, hs2, hge, fun vt hv => ?_⟩
  have h1 : s * M < b32 ^ (p + 1) := by
    have h2 := Nat.mul_lt_mul_of_pos_left hlt hs0
    have h3 : s * (b32 ^ p * (top + 1)) = b32 ^ p * (s * (top + 1)) := Nat.mul_left_comm _ _ _
    have h4 := Nat.mul_le_mul_left (b32 ^ p) hs1
    rw [Nat.pow_succ, show b32 = 4294967296 from rfl] at *
    omega
  have h5 := hv.length_le (by decide) h1
  have h6 : ¬ vt.length ≤ p := by
    intro h
    have h7 := V_lt vt hv.1
    rw [hv.2.2] at h7
    have h8 : b32 ^ vt.length ≤ b32 ^ p := Nat.pow_le_pow_right b32_pos h
    have h9 : M ≤ s * M := Nat.le_mul_of_pos_left _ hs0
    omega
  omega

end Go.Proofs.Ytmmmcbklgmjalaa
