/- The reference's Quo. -/
import Derived.Test.YtfiakaenenbhpaaRefL
namespace Go.Proofs.Ytfiakaenenbhpaa
open Go.RowKit

set_option maxRecDepth 100000 in
set_option maxHeartbeats 1600000 in
theorem rquo_any (w : World) (A1 : Option Addr) (n c1 : Nat) (xs : List Nat) (hs1 : Sl w w.heap.size A1 n c1 xs) (A2 : Option Addr) (m c2 : Nat) (ys : List Nat) (hs2 : Sl w w.heap.size A2 m c2 ys) (N M : Nat) (hN : Nm b32 xs N) (hM : Nm b32 ys M)
    (hn : n ≤ 100000000) (hm : m ≤ 100000000) (hM0 : 0 < M) :
    Calls Try.prog 24 #[.slice A1 n c1, .slice A2 m c2] w fun e w' => ∃ A3 n3 c3 q A4 n4 c4 r, e = .returned (.tuple #[.slice A3 n3 c3, .slice A4 n4 c4]) ∧ Sl w' w'.heap.size A3 n3 c3 q ∧ Nm b32 q (N / M) ∧ Sl w' w'.heap.size A4 n4 c4 r ∧ Nm b32 r (N % M) ∧ Below w.heap.size w w' := by
  rcases Nat.lt_or_ge N M with hlt | hge
  · have hcmp := rcmp_ret w _ _ _ _ _ hs1 _ _ _ _ _ hs2 _ _ hN hM
    rw [ncmp_lt hlt] at hcmp
    have hq : Nm b32 [] (N / M) := by rw [Nat.div_eq_of_lt hlt]; exact ⟨fun x hx => (by cases hx), fun x hx => (by cases hx), rfl⟩
    have hr : Nm b32 xs (N % M) := by rw [Nat.mod_eq_of_lt hlt]; exact hN
    have HCMP := Lib.hid hcmp
    have HQ := Lib.hid hq
    have HR := Lib.hid hr
    clear hcmp hq hr
    go_enter Try.func24, Try.ntmps24
    go_wp2_with fail
    refine HCMP.out.mono ?_
    rintro e w1 ⟨rfl, hc⟩
    have hs3 := hs1.later hc (Nat.le_refl _)
    go_wp2_with fail
    go_ret2
    exact ⟨_, _, _, [], _, _, _, xs, rfl, Sl.nil _ _ _ (by omega), HQ.out, hs3, HR.out, hc⟩
  · have hmpos : m ≠ 0 := by
      intro h
      have h1 : ys = [] := List.eq_nil_of_length_eq_zero (by rw [← hs2.len]; exact h)
      have := hM.2.2
      rw [h1] at this
      simp [V] at this
      omega
    obtain ⟨p, hp⟩ : ∃ p, m = p + 1 := ⟨m - 1, by omega⟩
    rcases Nat.eq_zero_or_pos p with h0 | h1
    · subst h0
      obtain ⟨cv, hcv⟩ : ∃ cv, ncmp N M = cv := ⟨_, rfl⟩
      have hcv0 : ¬ cv < 0 := by
        rcases Nat.lt_or_ge M N with h | h
        · rw [ncmp_gt h] at hcv; omega
        · rw [Nat.le_antisymm h hge, ncmp_eq] at hcv; omega
      have hcmp := rcmp_ret w _ _ _ _ _ hs1 _ _ _ _ _ hs2 _ _ hN hM
      rw [hcv] at hcmp
      have HCMP := Lib.hid hcmp
      obtain ⟨b2, o2, y, rfl, hb2, hy, hc2⟩ := hs2.at_ (k := 0) (by omega)
      rw [Nat.add_zero] at hc2
      have hyl := lt32.1 (hM.1.get hy)
      have hyM : M = y := by
        have h9 := hM.2.2
        obtain ⟨z, hz⟩ : ∃ z, ys = [z] := List.length_eq_one_iff.1 (by rw [← hs2.len, hp])
        subst hz
        simp at hy
        subst hy
        simp [V] at h9
        omega
      have HYL := Lib.hid hyl
      have HYM := Lib.hid hyM
      clear hcmp hcv hyl hyM hy hmpos
      subst hp
      go_enter Try.func24, Try.ntmps24
      go_wp2_with fail
      refine HCMP.out.mono ?_
      rintro e w1 ⟨rfl, hc⟩
      replace hs1 := hs1.later hc (Nat.le_refl _)
      replace hc2 := (hc.cell (p := ⟨b2, o2, none⟩) hb2).trans hc2
      have hB := (Below.refl w.heap.size w).trans hc
      clear hc
      go_wp2_with fail
      have hsm := small_any w1 _ (Nat.le_refl _) _ _ _ _ hs1 hN.1 (by omega) y (by have := HYM.out; omega) HYL.out
      rw [hN.2.2] at hsm
      obtain ⟨R, hR⟩ : ∃ R, N % y = R := ⟨_, rfl⟩
      rw [hR] at hsm
      refine hsm.mono ?_
      rintro e w2 ⟨A3, n3, c3, q, rfl, hq, hsq, hc⟩
      replace hB := hB.trans (hc.mono hB.size)
      clear hc
      have hrow := heap_new_row w2 R
      have hslr := hrow.sl (by simp)
      have hbw := (Below.refl w2.heap.size w2).alloc (Nat.le_refl _) (.cells #[.int .u64 ((R : Nat) : Int)] 58)
      have hRl : R < b32 := by rw [← hR, lt32]; have h9 := Nat.mod_lt N (show 0 < y by have := HYM.out; omega); have := HYL.out; omega
      have hnr : Nm b32 (trimmed [R]) (N % M) := by
        have h := trimmed_nm (B := b32) (xs := [R]) (fun x hx => by simp at hx; subst hx; exact hRl)
        rw [HYM.out, hR]
        simpa [V] using h
      have HNR := Lib.hid hnr
      have hsq' := hsq.later hbw (Nat.le_refl _)
      have hB' := hB.trans (hbw.mono hB.size)
      have hq' : Nm b32 q (N / M) := by rw [HYM.out]; exact hq
      have HQ' := Lib.hid hq'
      clear hR hnr hrow hbw hsq hq hq'
      go_wp2_with (go_at_call 36; refine (rtrim_sl _ _ _ _ _ [R] hslr).mono ?_; rintro e w3 ⟨m5, rfl, hst5, hm5, rfl⟩)
      go_ret2
      exact ⟨_, _, _, _, _, _, _, _, rfl, hsq', HQ'.out, hst5, HNR.out, hB'⟩
    · exact rquo_long w _ _ _ _ hs1 _ _ _ _ hs2 N M hN hM hn hm hge p hp h1
end Go.Proofs.Ytfiakaenenbhpaa
