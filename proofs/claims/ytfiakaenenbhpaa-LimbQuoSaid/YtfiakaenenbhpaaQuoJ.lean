/- limb.Quo, whatever the numbers; the long division's contract is a premise here. -/
import Derived.Test.YtfiakaenenbhpaaLimbE
import Derived.Test.YtfiakaenenbhpaaLimbH
import Derived.Test.YtfiakaenenbhpaaQuoI
namespace Go.Proofs.Ytfiakaenenbhpaa
open Go.RowKit

/-- the long division's contract -/
def LongQ : Prop :=
  ∀ (w : World) (A1 : Option Addr) (m c1 : Nat) (xs : List Nat) (_ : Sl w w.heap.size A1 m c1 xs) (A2 : Option Addr) (n c2 : Nat) (ys : List Nat) (_ : Sl w w.heap.size A2 n c2 ys) (N M : Nat) (_ : Nm b64 xs N) (_ : Nm b64 ys M)
    (_ : m ≤ 100000000) (_ : M ≤ N) (p p1 : Nat) (_ : n = p + 2) (_ : p1 = p + 1),
    Calls Try.prog 46 #[.slice A1 m c1, .slice A2 n c2] w fun e w' =>
      ∃ A3 n3 c3 q A4 n4 c4 r, e = .returned (.tuple #[.slice A3 n3 c3, .slice A4 n4 c4]) ∧ Sl w' w'.heap.size A3 n3 c3 q ∧ Sl w' w'.heap.size A4 n4 c4 r ∧ Below w.heap.size w w' ∧ Nm b64 q (N / M) ∧ Nm b64 r (N % M)

set_option maxRecDepth 100000 in
set_option maxHeartbeats 1600000 in
theorem quo_zero (w : World) (A1 : Option Addr) (n1 c1 : Nat) (xs : List Nat) (hs1 : Sl w w.heap.size A1 n1 c1 xs) (A2 : Option Addr) (n2 c2 : Nat) (ys : List Nat) (hs2 : Sl w w.heap.size A2 n2 c2 ys) (hd2 : Dg b64 ys) (h0 : V b64 ys = 0) :
    Calls Try.prog 21 #[.slice A1 n1 c1, .slice A2 n2 c2] w fun e w' => e = .returned (.tuple #[.slice none 0 0, .slice none 0 0, .bool false]) ∧ Below w.heap.size w w' := by
  have ht : trimmed ys = [] := by
    have h := trimmed_nm hd2
    rw [h0] at h
    exact nm_unique (by decide) h ⟨fun x hx => (by cases hx), fun x hx => (by cases hx), rfl⟩
  have HT := Lib.hid ht
  clear ht
  go_enter Try.func21, Try.ntmps21
  go_wp2_with fail
  refine (ltrim_sl w _ _ _ _ xs hs1).mono ?_; rintro e w1 ⟨m1, rfl, h3, h4, rfl⟩
  go_wp2_with fail
  refine (ltrim_sl w _ _ _ _ ys hs2).mono ?_; rintro e w1 ⟨m2, rfl, h5, h6, rfl⟩
  have hm2 : m2 = 0 := by rw [h5.len, HT.out]; rfl
  subst hm2
  go_wp2_with fail
  go_ret3
  exact ⟨rfl, Below.refl _ _⟩

set_option maxRecDepth 100000 in
set_option maxHeartbeats 1600000 in
theorem quo_all (hL : LongQ) (w : World) (A1 : Option Addr) (n1 c1 : Nat) (xs : List Nat) (hs1 : Sl w w.heap.size A1 n1 c1 xs) (A2 : Option Addr) (n2 c2 : Nat) (ys : List Nat) (hs2 : Sl w w.heap.size A2 n2 c2 ys)
    (N M : Nat) (hN : V b64 xs = N) (hM : V b64 ys = M) (hd1 : Dg b64 xs) (hd2 : Dg b64 ys) (hn1 : n1 ≤ 100000000) (hM0 : 0 < M) :
    Calls Try.prog 21 #[.slice A1 n1 c1, .slice A2 n2 c2] w fun e w' => RetQ w (N / M) (N % M) e w' := by
  have nx := trimmed_nm hd1
  have ny := trimmed_nm hd2
  rw [hN] at nx
  rw [hM] at ny
  obtain ⟨X, hX⟩ : ∃ X, trimmed xs = X := ⟨_, rfl⟩
  obtain ⟨Y, hY⟩ : ∃ Y, trimmed ys = Y := ⟨_, rfl⟩
  rw [hX] at nx
  rw [hY] at ny
  have hYn : Y ≠ [] := by
    intro h
    have h2 := ny.2.2
    rw [h] at h2
    simp [V] at h2
    omega
  have hYl : Y.length ≠ 0 := fun h => hYn (List.eq_nil_of_length_eq_zero h)
  have NX := Lib.hid nx
  have NY := Lib.hid ny
  have HX := Lib.hid hX
  have HY := Lib.hid hY
  have HYL := Lib.hid hYl
  clear nx ny hX hY hYn hYl hN hM
  obtain ⟨cv, hcv⟩ : ∃ cv, ncmp N M = cv := ⟨_, rfl⟩
  have HCV := Lib.hid hcv
  rcases Nat.lt_or_ge N M with hlt | hge
  · have hc0 : cv < 0 := by rw [← hcv, ncmp_lt hlt]; decide
    clear hcv
    go_enter Try.func21, Try.ntmps21
    go_wp2_with fail
    refine (ltrim_sl w _ _ _ _ xs hs1).mono ?_; rintro e w1 ⟨m1, rfl, h3, h4, rfl⟩
    go_wp2_with fail
    refine (ltrim_sl w _ _ _ _ ys hs2).mono ?_; rintro e w1 ⟨m2, rfl, h5, h6, rfl⟩
    rw [HX.out] at h3
    rw [HY.out] at h5
    have hm2 : ¬ (m2 : Int) = 0 := by have := h5.len; have := HYL.out; omega
    have hcm := lcmp_any w _ _ _ _ h3 _ _ _ _ h5 NX.out.1 NY.out.1
    rw [NX.out.2.2, NY.out.2.2, HCV.out] at hcm
    have HCM := Lib.hid hcm
    clear hcm
    go_wp2_with fail
    refine HCM.out.mono ?_; rintro e w1 ⟨rfl, hb1⟩
    have hnm := norm_any w1 _ _ _ _ X (h3.later hb1 (Nat.le_refl _)) NX.out.1 (by omega)
    rw [NX.out.2.2] at hnm
    have HNM := Lib.hid hnm
    clear hnm
    go_wp2_with fail
    refine HNM.out.mono ?_
    rintro e w2 ⟨rs, hrs, A3, n3, c3, rfl, k1, k2⟩
    have HRS := Lib.hid hrs
    clear hrs
    go_wp2
    go_ret3
    refine ⟨[], _, _, _, rs, _, _, _, rfl, Sl.nil _ _ _ (by omega), k1, hb1.trans (k2.mono hb1.size), ?_, ?_⟩
    · rw [Nat.div_eq_of_lt hlt]
      exact ⟨fun x hx => (by cases hx), fun x hx => (by cases hx), rfl⟩
    · rw [Nat.mod_eq_of_lt hlt]
      exact HRS.out
  · have hc0 : ¬ cv < 0 := by
      rcases Nat.lt_or_ge M N with h | h
      · rw [ncmp_gt h] at hcv; omega
      · rw [Nat.le_antisymm h hge, ncmp_eq] at hcv; omega
    clear hcv
    rcases Nat.lt_or_ge 1 Y.length with hlong | hshort
    · have HLONG := Lib.hid hlong
      clear hlong
      go_enter Try.func21, Try.ntmps21
      go_wp2_with fail
      refine (ltrim_sl w _ _ _ _ xs hs1).mono ?_; rintro e w1 ⟨m1, rfl, h3, h4, rfl⟩
      go_wp2_with fail
      refine (ltrim_sl w _ _ _ _ ys hs2).mono ?_; rintro e w1 ⟨m2, rfl, h5, h6, rfl⟩
      rw [HX.out] at h3
      rw [HY.out] at h5
      have hm2 : ¬ (m2 : Int) = 0 := by have := h5.len; have := HYL.out; omega
      have hm1 : ¬ (m2 : Int) = 1 := by have := h5.len; have := HLONG.out; omega
      have hcm := lcmp_any w _ _ _ _ h3 _ _ _ _ h5 NX.out.1 NY.out.1
      rw [NX.out.2.2, NY.out.2.2, HCV.out] at hcm
      have HCM := Lib.hid hcm
      clear hcm
      go_wp2_with fail
      refine HCM.out.mono ?_; rintro e w1 ⟨rfl, hb1⟩
      have hlq := hL w1 _ _ _ X (h3.later hb1 (Nat.le_refl _)) _ _ _ Y (h5.later hb1 (Nat.le_refl _)) N M NX.out NY.out (by omega) hge (m2 - 2) (m2 - 1) (by omega) (by omega)
      have HLQ := Lib.hid hlq
      clear hlq
      go_wp2_with fail
      refine HLQ.out.mono ?_
      rintro e w2 ⟨A3, m3, c3, q, A4, m4, c4, r, rfl, k1, k2, k3, k4, k5⟩
      have HK4 := Lib.hid k4
      have HK5 := Lib.hid k5
      clear k4 k5
      go_wp2
      go_ret3
      exact ⟨q, _, _, _, r, _, _, _, rfl, k1, k2, hb1.trans (k3.mono hb1.size), HK4.out, HK5.out⟩
    · obtain ⟨d, hYd⟩ : ∃ d, Y = [d] := List.length_eq_one_iff.1 (by have := HYL.out; omega)
      subst hYd
      have hdM : d = M := by have h := NY.out.2.2; simp [V] at h; omega
      have hdl : d < b64 := NY.out.1 d (by simp)
      subst hdM
      go_enter Try.func21, Try.ntmps21
      go_wp2_with fail
      refine (ltrim_sl w _ _ _ _ xs hs1).mono ?_; rintro e w1 ⟨m1, rfl, h3, h4, rfl⟩
      go_wp2_with fail
      refine (ltrim_sl w _ _ _ _ ys hs2).mono ?_; rintro e w1 ⟨m2, rfl, h5, h6, rfl⟩
      rw [HX.out] at h3
      rw [HY.out] at h5
      have hm2 : m2 = 1 := h5.len
      subst hm2
      obtain ⟨b, off, y, rfl, hb, hy, hc⟩ := h5.at_ (k := 0) (by decide)
      simp at hy
      subst hy
      have hcm := lcmp_any w _ _ _ _ h3 _ _ _ _ h5 NX.out.1 NY.out.1
      rw [NX.out.2.2, NY.out.2.2, HCV.out] at hcm
      have HCM := Lib.hid hcm
      clear hcm
      go_wp2_with fail
      refine HCM.out.mono ?_; rintro e w1 ⟨rfl, hb1⟩
      have hc1 : w1.cell? ⟨b, off, none⟩ = some (.int .u64 (d : Int)) := (hb1.cell (p := ⟨b, off, none⟩) hb).trans (by simpa using hc)
      have hsq := shortQuo_full w1 _ _ _ X (h3.later hb1 (Nat.le_refl _)) NX.out.1 (by omega) d (by omega) hdl
      rw [NX.out.2.2] at hsq
      have HSQ := Lib.hid hsq
      clear hsq
      go_wp2_with fail
      refine HSQ.out.mono ?_
      rintro e w2 ⟨A3, m3, c3, q, A4, m4, c4, r, rfl, k1, k2, k3, k4, k5⟩
      have HK4 := Lib.hid k4
      have HK5 := Lib.hid k5
      clear k4 k5
      go_wp2
      go_ret3
      exact ⟨q, _, _, _, r, _, _, _, rfl, k1, k2, hb1.trans (k3.mono hb1.size), HK4.out, HK5.out⟩
end Go.Proofs.Ytfiakaenenbhpaa
