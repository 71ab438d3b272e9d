/- limb.estimate. -/
import Derived.Test.YtfiakaenenbhpaaQuoD
import Derived.WalkMore
namespace Go.Proofs.Ytfiakaenenbhpaa
open Go.RowKit

/-- the greatest digits of a number -/
theorem top2 {B : Nat} {xs : List Nat} {m a b : Nat} (hl : xs.length = m + 2) (ha : xs[m + 1]? = some a) (hb : xs[m]? = some b) : V B xs = (a * B + b) * B ^ m + V B (xs.take m) := by
  have h : V B xs = V B (xs.take (m + 2)) := by rw [List.take_of_length_le (by omega)]
  rw [h, V_take_succ ha, V_take_succ hb, Nat.pow_succ]
  generalize V B (xs.take m) = R
  generalize B ^ m = P
  grind
theorem top3 {B : Nat} {xs : List Nat} {m a b c : Nat} (hl : xs.length = m + 3) (ha : xs[m + 2]? = some a) (hb : xs[m + 1]? = some b) (hc : xs[m]? = some c) : V B xs = ((a * B + b) * B + c) * B ^ m + V B (xs.take m) := by
  have h : V B xs = V B (xs.take (m + 3)) := by rw [List.take_of_length_le (by omega)]
  have e1 : B ^ (m + 1) = B ^ m * B := Nat.pow_succ ..
  have e2 : B ^ (m + 2) = B ^ m * B * B := by rw [← e1]; exact Nat.pow_succ ..
  rw [h, V_take_succ ha, V_take_succ hb, V_take_succ hc, e2, e1]
  clear e1 e2 h
  generalize V B (xs.take m) = R
  generalize B ^ m = P
  grind

/-- one step of the correction: numbers -/
theorem est_more {us vs : List Nat} {m u2 u1 u0 v1 v0 q r : Nat} (hdu : Dg b64 us) (hul : us.length = m + 3) (hvl : vs.length = m + 2)
    (h2 : us[m + 2]? = some u2) (h1 : us[m + 1]? = some u1) (h0 : us[m]? = some u0) (hv1 : vs[m + 1]? = some v1) (hv0 : vs[m]? = some v0) (hqr : q * v1 + r = u2 * b64 + u1) (h : r * b64 + u0 < q * v0) :
    0 < q ∧ V b64 us / V b64 vs ≤ q - 1 := by
  have hlt := V_lt (us.take m) (hdu.take m)
  rw [List.length_take, Nat.min_eq_left (by omega)] at hlt
  exact dig_more (top2 hvl hv1 hv0) (top3 hul h2 h1 h0) hlt hqr h
theorem est_done {us vs : List Nat} {m u2 u1 u0 v1 v0 q r : Nat} (hdv : Dg b64 vs) (hul : us.length = m + 3) (hvl : vs.length = m + 2)
    (h2 : us[m + 2]? = some u2) (h1 : us[m + 1]? = some u1) (h0 : us[m]? = some u0) (hv1 : vs[m + 1]? = some v1) (hv0 : vs[m]? = some v0) (hqr : q * v1 + r = u2 * b64 + u1) (hq : q ≤ b64) (hv : 0 < v1) (h : q * v0 ≤ r * b64 + u0) :
    q ≤ V b64 us / V b64 vs + 1 := by
  have hlt := V_lt (vs.take m) (hdv.take m)
  rw [List.length_take, Nat.min_eq_left (by omega)] at hlt
  exact dig_done (top2 hvl hv1 hv0) hlt (top3 hul h2 h1 h0) hqr hq hv h
theorem est_start {us vs : List Nat} {m u2 u1 v1 : Nat} (hdu : Dg b64 us) (hul : us.length = m + 3) (hvl : vs.length = m + 2)
    (h2 : us[m + 2]? = some u2) (h1 : us[m + 1]? = some u1) (hv1 : vs[m + 1]? = some v1) (hv : 0 < v1) :
    V b64 us / V b64 vs ≤ (u2 * b64 + u1) / v1 := by
  have hlt := V_lt (us.take (m + 1)) (hdu.take (m + 1))
  rw [List.length_take, Nat.min_eq_left (by omega)] at hlt
  have e1 : V b64 vs = v1 * b64 ^ (m + 1) + V b64 (vs.take (m + 1)) := by
    have h : V b64 vs = V b64 (vs.take (m + 2)) := by rw [List.take_of_length_le (by omega)]
    rw [h, V_take_succ hv1, Nat.add_comm, Nat.mul_comm]
  have e2 : V b64 us = (u2 * b64 + u1) * b64 ^ (m + 1) + V b64 (us.take (m + 1)) := top2 (m := m + 1) hul h2 h1
  exact dig_start e1 e2 hlt hv
theorem est_top {us vs : List Nat} {m u2 v1 : Nat} (hdv : Dg b64 vs) (hul : us.length = m + 3) (hvl : vs.length = m + 2)
    (h2 : us[m + 2]? = some u2) (hv1 : vs[m + 1]? = some v1) (hn : 9223372036854775808 ≤ v1) (h : v1 ≤ u2) (huv : V b64 us < V b64 vs * b64) :
    V b64 us / V b64 vs ≤ 18446744073709551615 ∧ 18446744073709551615 ≤ V b64 us / V b64 vs + 1 := by
  have hlt := V_lt (vs.take (m + 1)) (hdv.take (m + 1))
  rw [List.length_take, Nat.min_eq_left (by omega)] at hlt
  have e1 : V b64 vs = v1 * b64 ^ (m + 1) + V b64 (vs.take (m + 1)) := by
    have h : V b64 vs = V b64 (vs.take (m + 2)) := by rw [List.take_of_length_le (by omega)]
    rw [h, V_take_succ hv1, Nat.add_comm, Nat.mul_comm]
  have e2 : V b64 us = u2 * (b64 * b64 ^ (m + 1)) + V b64 (us.take (m + 2)) := by
    have h : V b64 us = V b64 (us.take (m + 3)) := by rw [List.take_of_length_le (by omega)]
    rw [h, V_take_succ h2, Nat.add_comm, Nat.mul_comm, Nat.mul_comm b64, ← Nat.pow_succ]
  exact dig_top (B := b64) e1 hlt e2 h (by rw [show b64 = 18446744073709551616 from rfl]; omega) huv (by decide)
/-- where the loop may end -/
theorem est_low {high low q v0 r u0 : Nat} (h : b64 * high + low = q * v0) (hl : low < b64) (hc : high < r ∨ (high = r ∧ low ≤ u0)) : q * v0 ≤ r * b64 + u0 := by
  rw [← h, Nat.mul_comm r]
  rcases hc with h1 | ⟨h1, h2⟩
  · have := Nat.mul_le_mul_left b64 h1
    rw [Nat.mul_succ] at this
    omega
  · subst h1; omega
theorem est_high {high low q v0 r u0 : Nat} (h : b64 * high + low = q * v0) (hu : u0 < b64) (hc : ¬ high < r ∧ (high = r → ¬ low ≤ u0)) : r * b64 + u0 < q * v0 := by
  rw [← h, Nat.mul_comm r]
  rcases Nat.lt_or_ge r high with h1 | h1
  · have := Nat.mul_le_mul_left b64 h1
    rw [Nat.mul_succ] at this
    omega
  · have h2 : high = r := by omega
    have h3 := hc.2 h2
    subst h2; omega
theorem est_over {q v0 r u0 : Nat} (hq : q < b64) (hv : v0 < b64) (hr : b64 ≤ r) : q * v0 ≤ r * b64 + u0 := by
  have h1 : q * v0 ≤ b64 * b64 := Nat.mul_le_mul (Nat.le_of_lt hq) (Nat.le_of_lt hv)
  have h2 : b64 * b64 ≤ r * b64 := Nat.mul_le_mul_right _ hr
  omega

theorem quiet_add {P : Program} {f : FuncId} {args : Array Value} {w : World} {a n : Nat} {v : Value}
    (h : Calls P f args (w.drewN (a + n)) fun e w' => e = .returned v ∧ ∃ m, w' = (w.drewN (a + n)).drewN m) :
    Calls P f args (w.drewN (a + n)) fun e w'' => e = .returned v ∧ ∃ m, w'' = w.drewN (a + m) :=
  h.mono fun _ _ ⟨he, m, hm⟩ => ⟨he, n + m, by rw [hm, World.drewN_drewN, Nat.add_assoc]⟩

theorem est_cases (hi lo r u0 : Nat) : hi < r ∨ (hi = r ∧ lo ≤ u0) ∨ (hi = r ∧ ¬ lo ≤ u0) ∨ r < hi := by omega
/-- what stands at the head of the correction: the rest fits a word, or the guess is good -/
def EstAt (Q T v1 q r c : Nat) : Prop := Q ≤ q ∧ q < b64 ∧ ((c = 0 ∧ q * v1 + r = T ∧ r < b64) ∨ (c = 1 ∧ q ≤ Q + 1))
theorem est_next {Q T v1 v0 u0 q r s c : Nat} (hqr : q * v1 + (r + v1) = T) (hq : Q ≤ q) (ht : s + b64 * c = r + v1) (hs : s < b64) (hc : c ≤ 1) (hq64 : q < 18446744073709551616)
    (done : q * v1 + (r + v1) = T → q < b64 → q * v0 ≤ (r + v1) * b64 + u0 → q ≤ Q + 1) (hv : v0 < b64) : EstAt Q T v1 q s c := by
  refine ⟨hq, lt64.2 hq64, ?_⟩
  have h01 : c = 0 ∨ c = 1 := by omega
  rcases h01 with h | h
  · subst h
    exact .inl ⟨rfl, by rw [← hqr]; omega, hs⟩
  · subst h
    exact .inr ⟨rfl, done hqr (lt64.2 hq64) (est_over (lt64.2 hq64) hv (by omega))⟩

/-- the quotient, or one more -/
def RetEst (w : World) (C : Prop) (Q : Nat) (e : Ending) (w' : World) : Prop := ∃ q k : Nat, e = .returned (.int .u64 (q : Int)) ∧ q < b64 ∧ (C → Q ≤ q ∧ q ≤ Q + 1) ∧ w' = w.drewN k

set_option maxRecDepth 100000 in
set_option maxHeartbeats 4000000 in
theorem estimate_any (w : World) (g off cu gv ov cv nu n n1 m : Nat) (us vs : List Nat) (hu : ∀ (k x : Nat), us[k]? = some x → w.cell? ⟨g, off + k, none⟩ = some (.int .u64 (x : Int))) (hv : ∀ (k x : Nat), vs[k]? = some x → w.cell? ⟨gv, ov + k, none⟩ = some (.int .u64 (x : Int)))
    (hn1 : n1 = m + 1) (hn : n = m + 2) (hnu : nu = n + 1) (hul : us.length = m + 3) (hvl : vs.length = m + 2) (hmax : nu ≤ 1000000000) (hdu : Dg b64 us) (hdv : Dg b64 vs) :
    Calls Try.prog 62 #[.slice (some ⟨g, off, none⟩) nu cu, .slice (some ⟨gv, ov, none⟩) n cv] w fun e w' => RetEst w (V b64 us < V b64 vs * b64 ∧ ∀ x, vs[m + 1]? = some x → 9223372036854775808 ≤ x) (V b64 us / V b64 vs) e w' := by
  obtain ⟨u2, hu2⟩ := get_lt (zs := us) (k := m + 2) (by omega)
  obtain ⟨u1, hu1⟩ := get_lt (zs := us) (k := m + 1) (by omega)
  obtain ⟨u0, hu0⟩ := get_lt (zs := us) (k := m) (by omega)
  obtain ⟨v1, hv1⟩ := get_lt (zs := vs) (k := m + 1) (by omega)
  obtain ⟨v0, hv0⟩ := get_lt (zs := vs) (k := m) (by omega)
  have cu2 := hu _ _ hu2
  have cu1 := hu _ _ hu1
  have cu0 := hu _ _ hu0
  have cv1 := hv _ _ hv1
  have cv0 := hv _ _ hv0
  have bu2 := lt64.1 (hdu.get hu2)
  have bu1 := lt64.1 (hdu.get hu1)
  have bu0 := lt64.1 (hdu.get hu0)
  have bv1 := lt64.1 (hdv.get hv1)
  have bv0 := lt64.1 (hdv.get hv0)
  rw [← hn] at cu2
  rw [← hn1] at cu1 cv1
  obtain ⟨Q, hQ⟩ : ∃ Q, V b64 us / V b64 vs = Q := ⟨_, rfl⟩
  obtain ⟨C, hC⟩ : ∃ C, (V b64 us < V b64 vs * b64 ∧ ∀ x, vs[m + 1]? = some x → 9223372036854775808 ≤ x) = C := ⟨_, rfl⟩
  have top : v1 ≤ u2 → C → Q ≤ 18446744073709551615 ∧ 18446744073709551615 ≤ Q + 1 := fun h hc => by
    rw [← hC] at hc
    exact hQ ▸ est_top hdv hul hvl hu2 hv1 (hc.2 _ hv1) h hc.1
  rw [hC]
  clear hC
  have start : 0 < v1 → Q ≤ (u2 * b64 + u1) / v1 := fun hp => hQ ▸ est_start hdu hul hvl hu2 hu1 hv1 hp
  have more : ∀ q r, q * v1 + r = u2 * b64 + u1 → r * b64 + u0 < q * v0 → 0 < q ∧ Q ≤ q - 1 := fun q r h1 h2 => hQ ▸ est_more hdu hul hvl hu2 hu1 hu0 hv1 hv0 h1 h2
  have done : 0 < v1 → ∀ q r, q * v1 + r = u2 * b64 + u1 → q < b64 → q * v0 ≤ r * b64 + u0 → q ≤ Q + 1 := fun hp q r h1 h2 h3 => hQ ▸ est_done hdv hul hvl hu2 hu1 hu0 hv1 hv0 h1 (Nat.le_of_lt h2) hp h3
  rw [hQ]
  have TOP := Lib.hid top
  have START := Lib.hid start
  have MORE := Lib.hid more
  have DONE0 := Lib.hid done
  have i1 : (n : Int) - 1 = (n1 : Int) := by omega
  have i2 : (n : Int) - 2 = (m : Int) := by omega
  have i3 : (n : Int) < nu := by omega
  have i4 : (n1 : Int) < n := by omega
  have i5 : (n1 : Int) < nu := by omega
  have i6 : (m : Int) < n := by omega
  have i7 : (m : Int) < nu := by omega
  have i8 : (n : Int) ≤ 1000000000 := by omega
  have i9 : (n1 : Int) ≤ 1000000000 := by omega
  have i10 : (m : Int) ≤ 1000000000 := by omega
  have i11 : (2 : Int) ≤ n := by omega
  clear top start more done hQ hu hv hul hvl hmax hdu hdv hu2 hu1 hu0 hv1 hv0 hn1 hn hnu
  by_cases hge : v1 ≤ u2
  · have hgi : (v1 : Int) ≤ (u2 : Int) := by omega
    go_enter Try.func62, Try.ntmps62
    go_wp2
    go_step3
    go_wp2
    go_quiet (fail)
    go_wp2
    try rw [Exit.noGoto_ret]
    go_ret
    exact ⟨18446744073709551615, _, rfl, by decide, TOP.out hge, rfl⟩
  · have hgi : ¬ (v1 : Int) ≤ (u2 : Int) := by omega
    have hdv := fun W => div64_any u2 u1 v1 (by omega) (lt64.2 bu1) (lt64.2 bv1) W
    have hdm := Nat.div_add_mod (u2 * b64 + u1) v1
    have hml := Nat.mod_lt (u2 * b64 + u1) (show 0 < v1 by omega)
    have hql : (u2 * b64 + u1) / v1 < b64 := by
      refine Nat.div_lt_of_lt_mul ?_
      have h1 := Nat.mul_le_mul_right b64 (show u2 + 1 ≤ v1 by omega)
      rw [Nat.add_mul, Nat.one_mul] at h1
      have := lt64.2 bu1
      omega
    have hst := START.out (by omega)
    have bv1p : (0 : Int) < v1 := by omega
    have DONE := Lib.hid (DONE0.out (by omega))
    obtain ⟨q0, hq0⟩ : ∃ q0, (u2 * b64 + u1) / v1 = q0 := ⟨_, rfl⟩
    obtain ⟨r0, hr0⟩ : ∃ q0, (u2 * b64 + u1) % v1 = q0 := ⟨_, rfl⟩
    rw [hq0] at hdv hdm hql hst
    rw [hr0] at hdv hdm hml
    rw [Nat.mul_comm] at hdm
    have HDV := Lib.hid hdv
    have HDM := Lib.hid hdm
    have HQL := Lib.hid hql
    have HST := Lib.hid hst
    clear hdv hdm hql hst hq0 hr0 START DONE0
    go_enter Try.func62, Try.ntmps62
    go_wp2
    go_step3
    go_wp2
    go_quiet (fail)
    go_wp2
    go_quiet ((go_at_call 58; exact quiet_add (HDV.out _)))
    go_wp2
    go_step3
    go_wp2
    go_loopw [6, 7, 8] (fun qv rv ov wr => ∃ q r c kd : Nat, wr = w.drewN kd ∧ qv = .int .u64 (q : Int) ∧ rv = .int .u64 (r : Int) ∧ ov = .int .u64 (c : Int) ∧ EstAt Q (u2 * b64 + u1) v1 q r c) (fun qv _ _ _ => (intOf qv).toNat)
    case atStart => exact ⟨q0, r0, 0, _, World.drewN_drewN _ _ _, rfl, rfl, rfl, HST.out, HQL.out, .inl ⟨rfl, HDM.out, by rw [lt64]; omega⟩⟩
    case round =>
      obtain ⟨q, r, c, kd, rfl, rfl, rfl, rfl, hq1, hq2, hat⟩ := hrel
      have HAT := Lib.hid hat
      have HQ1 := Lib.hid hq1
      have HQ2 := Lib.hid hq2
      have hqi : (q : Int) ≤ 18446744073709551615 := by have := lt64.1 hq2; omega
      clear hat hq1
      rcases HAT.out with ⟨hc, hqr, hr⟩ | ⟨hc, hqx⟩
      · subst hc
        have HQR := Lib.hid hqr
        have hri : (r : Int) ≤ 18446744073709551615 := by have := lt64.1 hr; omega
        clear HAT hqr hr
        go_wp2_with fail
        refine (mul64_any q v0 hq2 (lt64.2 bv0) _).mono ?_
        rintro e w1 ⟨hi, lo, rfl, hmu, hhi, hlo, rfl⟩
        have HMU := Lib.hid hmu
        clear hmu
        have hhi' : (hi : Int) ≤ 18446744073709551615 := by have := lt64.1 hhi; omega
        have hlo' : (lo : Int) ≤ 18446744073709551615 := by have := lt64.1 hlo; omega
        rcases est_cases hi lo r u0 with h | h | h | h
        · have t1 : (hi : Int) < (r : Int) := by omega
          go_wp2
          try rw [Exit.noGoto_ret]
          go_ret
          exact ⟨q, _, rfl, HQ2.out, fun _ => ⟨HQ1.out, DONE.out q r HQR.out HQ2.out (est_low HMU.out hlo (.inl h))⟩, rfl⟩
        · obtain ⟨h1, h2⟩ := h
          have t1 : ¬ (hi : Int) < (r : Int) := by omega
          have t3 : ((hi : Int) == (r : Int)) = true := by simp; omega
          have t2 : (lo : Int) ≤ (u0 : Int) := by omega
          go_wp2
          try rw [Exit.noGoto_ret]
          go_ret
          exact ⟨q, _, rfl, HQ2.out, fun _ => ⟨HQ1.out, DONE.out q r HQR.out HQ2.out (est_low HMU.out hlo (.inr ⟨h1, h2⟩))⟩, rfl⟩
        · obtain ⟨h1, h2⟩ := h
          have t1 : ¬ (hi : Int) < (r : Int) := by omega
          have t3 : ((hi : Int) == (r : Int)) = true := by simp; omega
          have t2 : ¬ (lo : Int) ≤ (u0 : Int) := by omega
          have hmq := MORE.out q r HQR.out (est_high HMU.out (lt64.2 bu0) ⟨by omega, fun _ => by omega⟩)
          obtain ⟨q', hq'⟩ : ∃ q', q - 1 = q' := ⟨_, rfl⟩
          rw [hq'] at hmq
          have hq1 : IntKind.u64.wrap ((q : Int) - 1) = (q' : Int) := by have := hmq.1; rw [wrap_emod]; omega
          have hq1b : (q' : Int) ≤ 18446744073709551615 := by omega
          have hmeas : q' < q := by have := hmq.1; omega
          have hqr' : q' * v1 + (r + v1) = u2 * b64 + u1 := by
            have h1 := HQR.out
            obtain rfl : q = q' + 1 := by have := hmq.1; omega
            rw [Nat.add_mul, Nat.one_mul] at h1
            omega
          have HMQ := Lib.hid hmq.2
          have HQR' := Lib.hid hqr'
          have hr64 := lt64.2 (show r < 18446744073709551616 by omega)
          clear hmq hq' hqr'
          go_wp2_with (with_reducible show wpList _ _ _ _ _ _; refine wl_add64 (o := ⟨some 62, _, _, _, _, _⟩) rfl _ _ _ rfl r v1 0 rfl rfl rfl hr64 (lt64.2 bv1) (Nat.zero_le _) ?_; intro s c ht1 ht2 ht3; simp only [Nat.add_zero] at ht1; have HT := Lib.hid ht1; have HT2 := Lib.hid ht2; clear ht1 ht2)
          go_roundw
          case rel => exact ⟨q', s, c, kd, rfl, by go_num, rfl, rfl, est_next HQR'.out HMQ.out HT.out HT2.out ht3 (by omega) (fun h1 h2 h3 => DONE.out _ _ h1 h2 h3) (lt64.2 bv0)⟩
          case measure => simp [intOf]; omega
        · have t1 : ¬ (hi : Int) < (r : Int) := by omega
          have t3 : ((hi : Int) == (r : Int)) = false := by simp; omega
          have hmq := MORE.out q r HQR.out (est_high HMU.out (lt64.2 bu0) ⟨by omega, fun _ => by omega⟩)
          obtain ⟨q', hq'⟩ : ∃ q', q - 1 = q' := ⟨_, rfl⟩
          rw [hq'] at hmq
          have hq1 : IntKind.u64.wrap ((q : Int) - 1) = (q' : Int) := by have := hmq.1; rw [wrap_emod]; omega
          have hq1b : (q' : Int) ≤ 18446744073709551615 := by omega
          have hmeas : q' < q := by have := hmq.1; omega
          have hqr' : q' * v1 + (r + v1) = u2 * b64 + u1 := by
            have h1 := HQR.out
            obtain rfl : q = q' + 1 := by have := hmq.1; omega
            rw [Nat.add_mul, Nat.one_mul] at h1
            omega
          have HMQ := Lib.hid hmq.2
          have HQR' := Lib.hid hqr'
          have hr64 := lt64.2 (show r < 18446744073709551616 by omega)
          clear hmq hq' hqr'
          go_wp2_with (with_reducible show wpList _ _ _ _ _ _; refine wl_add64 (o := ⟨some 62, _, _, _, _, _⟩) rfl _ _ _ rfl r v1 0 rfl rfl rfl hr64 (lt64.2 bv1) (Nat.zero_le _) ?_; intro s c ht1 ht2 ht3; simp only [Nat.add_zero] at ht1; have HT := Lib.hid ht1; have HT2 := Lib.hid ht2; clear ht1 ht2)
          go_roundw
          case rel => exact ⟨q', s, c, kd, rfl, by go_num, rfl, rfl, est_next HQR'.out HMQ.out HT.out HT2.out ht3 (by omega) (fun h1 h2 h3 => DONE.out _ _ h1 h2 h3) (lt64.2 bv0)⟩
          case measure => simp [intOf]; omega
      · subst hc
        go_wp2
        try rw [Exit.noGoto_ret]
        go_ret
        exact ⟨q, _, rfl, HQ2.out, fun _ => ⟨HQ1.out, hqx⟩, rfl⟩
end Go.Proofs.Ytfiakaenenbhpaa
