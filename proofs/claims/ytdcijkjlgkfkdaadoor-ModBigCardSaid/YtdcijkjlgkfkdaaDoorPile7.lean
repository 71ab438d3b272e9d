/- Parts of one proof, joined: ModL, NextM, ModN, ModO, Few2, RefM, ModR, ModS, WPowers, ModT, WInv, WBig. -/
import Derived.Test.YtdcijkjlgkfkdaaDoorPile6
import Derived.Test.YtdcijkjlgkfkdaaDoorPile3
import Derived.Test.YtdcijkjlgkfkdaaDoorPile4
import Derived.Test.YtdcijkjlgkfkdaaDoorPile5

/- modarith: fits, Next. -/
namespace Go.Proofs.YtdcijkjlgkfkdaaDoor
open Go.RowKit Go.Shelf

def FitN (P E : Nat) : Prop := ¬ HasSmall P ∧ Nat.gcd (P - 1) E = 1 ∧ ProbF P

set_option maxRecDepth 100000 in
set_option maxHeartbeats 1600000 in
theorem fits_any (w : World) (hG : FewG w) (A1 : Option Addr) (n1 c1 : Nat) (xs : List Nat) (hs1 : Sl w w.heap.size A1 n1 c1 xs) (A2 : Option Addr) (n2 c2 : Nat) (ys : List Nat) (hs2 : Sl w w.heap.size A2 n2 c2 ys) (hd1 : Dg b64 xs) (hd2 : Dg b64 ys)
    (hn1 : n1 ≤ 10000000) (hn2 : n2 ≤ 10000000) (P E : Nat) (hP : V b64 xs = P) (hE : V b64 ys = E) (h0 : 1 ≤ P) :
    Calls Tryd.prog 57 #[.slice A1 n1 c1, .slice A2 n2 c2] w fun e w' => RetB (FitN P E) e ∧ Below w.heap.size w w' := by
  have hsm := hasSmall_any w hG _ _ _ _ hs1 hd1 hn1 P hP
  have HSM := Lib.hid hsm
  have HG := Lib.hid hG
  have HP := Lib.hid hP
  have HE := Lib.hid hE
  have HD1 := Lib.hid hd1
  have HD2 := Lib.hid hd2
  have H0 := Lib.hid h0
  clear hsm hG hP hE hd1 hd2 h0
  go_enter Tryd.func57, Tryd.ntmps57
  go_wp2_with fail
  refine HSM.out.mono ?_
  rintro e w1 ⟨⟨b, rfl, hb⟩, hB⟩
  have HB := Lib.hid hb
  have hG1 := HG.out.later hB
  have HG1 := Lib.hid hG1
  replace hs1 := hs1.later hB (Nat.le_refl _)
  replace hs2 := hs2.later hB (Nat.le_refl _)
  clear hb hG1
  rcases b with _ | _
  · have ho1 : Calls Tryd.prog 36 #[.int .u64 1] w1 (fun e w' => RetN b64 w1 1 e w') := of_any 1 (by decide) w1
    have HO1 := Lib.hid ho1
    clear ho1
    go_wp2_with fail
    refine HO1.out.mono ?_
    rintro e w2 ⟨os, hos, Ao, no, co, rfl, hso, hc⟩
    replace hs1 := hs1.later hc (Nat.le_refl _)
    replace hs2 := hs2.later hc (Nat.le_refl _)
    replace hB := hB.trans (hc.mono hB.size)
    have hG2 := HG1.out.later hc
    have HG2 := Lib.hid hG2
    clear hc hG2
    have hsu := lsub_yes w2 _ _ _ _ hs1 _ _ _ _ hso HD1.out hos.1 (by omega) (by rw [hos.2.2, HP.out]; exact H0.out)
    rw [hos.2.2, HP.out] at hsu
    have HSU := Lib.hid hsu
    clear hsu hos hso
    go_wp2_with fail
    refine HSU.out.mono ?_
    rintro e w3 ⟨la, Al, nl, cl, hla, rfl, hsl, hc⟩
    replace hs1 := hs1.later hc (Nat.le_refl _)
    replace hs2 := hs2.later hc (Nat.le_refl _)
    replace hB := hB.trans (hc.mono hB.size)
    have hG3 := HG2.out.later hc
    have HG3 := Lib.hid hG3
    clear hc hG3
    have hnl : nl ≤ n1 := by
      rw [hsl.len]
      refine hla.length_le (by decide) (Nat.lt_of_le_of_lt (Nat.sub_le _ _) ?_)
      rw [← HP.out, hs1.len]
      exact V_lt _ HD1.out
    have hgc := gcd_any w3 _ _ _ _ hsl _ _ _ _ hs2 hla.1 HD2.out 10000000 (by decide) (by omega) (by omega) (P - 1) E hla.2.2 HE.out
    have HGC := Lib.hid hgc
    clear hgc hla hsl
    go_wp2_with fail
    refine HGC.out.mono ?_
    rintro e w4 ⟨gs, hgs, Ag, ng, cg, rfl, hsg, hc⟩
    replace hs1 := hs1.later hc (Nat.le_refl _)
    replace hB := hB.trans (hc.mono hB.size)
    have hG4 := HG3.out.later hc
    have HG4 := Lib.hid hG4
    clear hc hG4
    have heq : Calls Tryd.prog 50 #[.slice Ag ng cg, .int .u64 1] w4 fun e w' => (∃ b, e = .returned (.bool b) ∧ (b = true ↔ V b64 gs = 1)) ∧ Below w4.heap.size w4 w' := equals_any w4 _ _ _ _ hsg hgs.1 1 (by decide)
    rw [hgs.2.2] at heq
    have HEQ := Lib.hid heq
    clear heq hgs
    go_wp2_with fail
    refine HEQ.out.mono ?_
    rintro e w5 ⟨⟨b, rfl, hb⟩, hc⟩
    replace hs1 := hs1.later hc (Nat.le_refl _)
    replace hB := hB.trans (hc.mono hB.size)
    have hG5 := HG4.out.later hc
    have HG5 := Lib.hid hG5
    have HBE := Lib.hid hb
    clear hc hG5 hb
    have hns : ¬ HasSmall P := fun h => by have := HB.out.2 h; cases this
    have HNS := Lib.hid hns
    clear hns
    rcases b with _ | _
    · go_wp2
      go_ret
      exact ⟨⟨false, rfl, fun h => (by cases h), fun h => by have := HBE.out.2 h.2.1; cases this⟩, hB⟩
    · have hfe := mfew_any w5
      have HFE := Lib.hid hfe
      have hpr := probable_few w5 HG5.out _ _ _ _ hs1 HD1.out (by omega) P HP.out
      have HPR := Lib.hid hpr
      clear hfe hpr
      go_wp2_with fail
      refine HFE.out.mono ?_
      rintro e w6 ⟨rfl, rfl⟩
      go_wp2_with fail
      refine HPR.out.mono ?_
      rintro e w6 ⟨⟨b, rfl, hb⟩, hc⟩
      have HBP := Lib.hid hb
      clear hb
      go_wp2
      go_ret
      exact ⟨⟨b, rfl, HBP.out.trans ⟨fun h => ⟨HNS.out, HBE.out.1 (by first | rfl | trivial), h⟩, fun h => h.2.2⟩⟩, hB.trans (hc.mono hB.size)⟩
  · have hs := HB.out.1 rfl
    have HS := Lib.hid hs
    clear hs
    go_wp2
    go_ret
    exact ⟨⟨false, rfl, fun h => (by cases h), fun h => absurd HS.out h.1⟩, hB⟩

/-- Next's answer -/
def RetX (w : World) (N E k : Nat) (e : Ending) (w' : World) : Prop :=
  ((Lg 2048 N ∨ E % 2 = 0) ∧ e = .returned (.tuple #[.slice none 0 0, .bool false]) ∧ Below w.heap.size w w') ∨
  (¬ (Lg 2048 N ∨ E % 2 = 0) ∧ ∃ j ps A n c, j ≤ k ∧ FitN (firstN N + 2 * j) E ∧ (∀ i, i < j → ¬ FitN (firstN N + 2 * i) E) ∧ Nm b64 ps (firstN N + 2 * j) ∧ e = .returned (.tuple #[.slice A n c, .bool true]) ∧ Sl w' w'.heap.size A n c ps ∧ Below w.heap.size w w')

set_option maxRecDepth 100000 in
set_option maxHeartbeats 1600000 in
theorem next_any (w : World) (hG : FewG w) (A1 : Option Addr) (n1 c1 : Nat) (xs : List Nat) (hs1 : Sl w w.heap.size A1 n1 c1 xs) (A2 : Option Addr) (n2 c2 : Nat) (ys : List Nat) (hs2 : Sl w w.heap.size A2 n2 c2 ys) (hd1 : Dg b64 xs) (hd2 : Dg b64 ys)
    (hn1 : n1 ≤ 10000000) (hn2 : n2 ≤ 10000000) (N E : Nat) (hN : V b64 xs = N) (hE : V b64 ys = E) (k : Nat) (hk : E % 2 = 1 → FitN (firstN N + 2 * k) E) (K : Nat) (hK : K ≤ 10000000) (hkK : firstN N + 2 * k < b64 ^ K) :
    Calls Tryd.prog 26 #[.slice A1 n1 c1, .slice A2 n2 c2] w fun e w' => RetX w N E k e w' := by
  have hbs := bits_any w _ A1 n1 c1 xs hs1 hd1 (by omega)
  rw [hN] at hbs
  have hbi := bit_any w _ A2 n2 c2 ys hs2 hd2 0 (by decide)
  rw [hE, Nat.pow_zero, Nat.div_one] at hbi
  obtain ⟨bv, hbv⟩ : ∃ bv, E % 2 = bv := ⟨_, rfl⟩
  rw [hbv] at hbi
  have hbi2 : Calls Tryd.prog 55 #[.slice A2 n2 c2, .int .i64 0] w fun e w' => e = .returned (.int .u64 (bv : Int)) ∧ w = w' := hbi
  have hb2 : bv = 0 ∨ bv = 1 := by have := Nat.mod_lt E (show 0 < 2 by decide); omega
  have hfo := firstOdd_any w _ _ _ _ hs1 hd1 hn1 N hN
  have HBS := Lib.hid hbs
  have HBI := Lib.hid hbi2
  have HBV := Lib.hid hbv
  have HFO := Lib.hid hfo
  have HN := Lib.hid hN
  have HE := Lib.hid hE
  have HD1 := Lib.hid hd1
  have HD2 := Lib.hid hd2
  have HG := Lib.hid hG
  have HK := Lib.hid hk
  have HKK := Lib.hid hkK
  clear hbs hbi hbi2 hbv hfo hN hE hd1 hd2 hG hk hkK
  go_enter Tryd.func26, Tryd.ntmps26
  go_wp2_with fail
  refine HBS.out.mono ?_
  rintro e w1 ⟨kk, rfl, hkk, rfl⟩
  have hgt := bits_gt (q := 2048) hkk
  have HGT := Lib.hid hgt
  clear hgt hkk
  by_cases h1 : 2048 < kk
  · have hi : (2048 : Int) < (kk : Int) := by omega
    have HH := Lib.hid h1
    clear h1
    go_wp2
    go_ret2
    exact .inl ⟨.inl (HGT.out.1 HH.out), rfl, Below.refl _ _⟩
  · have hi : ¬ (2048 : Int) < (kk : Int) := by omega
    have HH := Lib.hid h1
    clear h1
    go_wp2_with fail
    refine HBI.out.mono ?_
    rintro e w2 ⟨rfl, rfl⟩
    rcases hb2 with h0 | h0
    · subst h0
      go_wp2
      go_ret2
      exact .inl ⟨.inr HBV.out, rfl, Below.refl _ _⟩
    · subst h0
      have hno : ¬ (Lg 2048 N ∨ E % 2 = 0) := fun h => by
        rcases h with h | h
        · exact HH.out (HGT.out.2 h)
        · rw [HBV.out] at h; cases h
      have HNO := Lib.hid hno
      clear hno
      go_wp2_with fail
      refine HFO.out.mono ?_
      rintro e w2 ⟨fs, hfs, Af, nf, cf, rfl, hsf, hb⟩
      have hst : Num w2 K (firstN N + 2 * 0) (.slice Af nf cf) := ⟨_, _, _, _, rfl, hsf, hfs, by have := HKK.out; omega⟩
      have HST := Lib.hid hst
      clear hst hfs hsf
      go_wp2
      go_loopw [6] (fun x wr => ∃ j : Nat, j ≤ k ∧ Num wr K (firstN N + 2 * j) x ∧ (∀ i, i < j → ¬ FitN (firstN N + 2 * i) E) ∧ Below w.heap.size w wr) (fun x wr => firstN N + 2 * k + 1 - numAt wr x)
      case atStart => exact ⟨0, Nat.zero_le _, HST.out, fun i h => absurd h (Nat.not_lt_zero _), hb⟩
      case round =>
        obtain ⟨j, hj, hx, hmin, hBr⟩ := hrel
        obtain ⟨px, Ap, np, cp, rfl, hsp, hpn, hpl⟩ := hx.len
        have HMIN := Lib.hid hmin
        have hfi := fits_any wr (HG.out.later hBr) _ _ _ _ hsp _ _ _ _ (hs2.later hBr (Nat.le_refl _)) hpn.1 HD2.out (by omega) (by omega) _ E hpn.2.2 HE.out (by have := (firstN_le N).2; omega)
        have HFI := Lib.hid hfi
        have HPN := Lib.hid hpn
        clear hmin hfi hpn hx
        go_wp2_with fail
        refine HFI.out.mono ?_
        rintro e w3 ⟨⟨b, rfl, hb⟩, hc⟩
        have HB := Lib.hid hb
        have hsp3 := hsp.later hc (Nat.le_refl _)
        have hB3 := hBr.trans (hc.mono hBr.size)
        clear hb
        rcases b with _ | _
        · have hnf : ¬ FitN (firstN N + 2 * j) E := fun h => by have := HB.out.2 h; cases this
          have hjk : j < k := by
            rcases Nat.lt_or_ge j k with h | h
            · exact h
            · obtain rfl : j = k := by omega
              exact absurd (HK.out HBV.out) hnf
          have ho2 : Calls Tryd.prog 36 #[.int .u64 2] w3 (fun e w' => RetN b64 w3 2 e w') := of_any 2 (by decide) w3
          have HO2 := Lib.hid ho2
          have HNF := Lib.hid hnf
          clear hnf ho2
          go_wp2_with fail
          refine HO2.out.mono ?_
          rintro e w4 ⟨os, hos, Ao, no, co, rfl, hso, hc4⟩
          have hno1 : no ≤ 1 := by rw [hso.len]; exact hos.length_le (by decide) (by decide)
          have had := ladd_any w4 _ (Nat.le_refl _) _ _ _ _ (hsp3.later hc4 (Nat.le_refl _)) _ _ _ _ hso HPN.out.1 hos.1 (by omega) (by omega)
          rw [hos.2.2, HPN.out.2.2] at had
          have HAD := Lib.hid had
          have hB4 := hB3.trans (hc4.mono hB3.size)
          clear had hos hso hc4
          go_wp2_with fail
          refine HAD.out.mono ?_
          rintro e w5 ⟨qs, hqs, Aq, nq, cq, rfl, hsq, hc5⟩
          have hnx : Num w5 K (firstN N + 2 * (j + 1)) (.slice Aq nq cq) := ⟨_, _, _, _, rfl, hsq, hqs, by have := HKK.out; omega⟩
          have m1 : numAt wr (.slice Ap np cp) = firstN N + 2 * j := (numAt_sl hsp).trans HPN.out.2.2
          have m2 : numAt w5 (.slice Aq nq cq) = firstN N + 2 * (j + 1) := hnx.at_
          have hB5 := hB4.trans (hc5.mono hB4.size)
          have HNX := Lib.hid hnx
          have HM1 := Lib.hid m1
          have HM2 := Lib.hid m2
          clear hnx m1 m2 hqs hsq hc5
          go_wp2
          go_roundw
          case rel =>
            refine ⟨j + 1, by omega, HNX.out, fun i hi => ?_, hB5⟩
            rcases Nat.lt_or_ge i j with h | h
            · exact HMIN.out i h
            · obtain rfl : i = j := by omega
              exact HNF.out
          case measure =>
            rw [HM1.out, HM2.out]
            omega
        · have hf := HB.out.1 rfl
          have HF := Lib.hid hf
          clear hf
          go_wp2
          go_ret2
          exact .inr ⟨HNO.out, j, px, Ap, np, cp, hj, HF.out, HMIN.out, HPN.out, rfl, hsp3, hB3⟩
end Go.Proofs.YtdcijkjlgkfkdaaDoor

/- Fermat's little theorem, and a number all of whose odd divisors are great: numbers alone. -/
namespace Go.Proofs.YtdcijkjlgkfkdaaDoor

def ch : Nat → Nat → Nat
  | _, 0 => 1
  | 0, _ + 1 => 0
  | n + 1, k + 1 => ch n k + ch n (k + 1)
theorem ch_over : ∀ n k, n < k → ch n k = 0
  | 0, 0, h => by omega
  | 0, k + 1, _ => rfl
  | n + 1, 0, h => by omega
  | n + 1, k + 1, h => by rw [ch, ch_over n k (by omega), ch_over n (k + 1) (by omega)]
theorem ch_zero (n : Nat) : ch n 0 = 1 := by cases n <;> rfl
theorem ch_self : ∀ n, ch n n = 1
  | 0 => rfl
  | n + 1 => by rw [ch, ch_self n, ch_over n (n + 1) (by omega)]
theorem ch_mul : ∀ n k, (k + 1) * ch (n + 1) (k + 1) = (n + 1) * ch n k
  | 0, 0 => rfl
  | 0, k + 1 => by rw [ch_over (0 + 1) (k + 1 + 1) (by omega), ch_over 0 (k + 1) (by omega)]; rfl
  | n + 1, 0 => by
      have h := ch_mul n 0
      rw [ch_zero] at h ⊢
      rw [ch, ch_zero]
      grind
  | n + 1, k + 1 => by
      have h1 := ch_mul n k
      have h2 := ch_mul n (k + 1)
      have e1 : ch (n + 2) (k + 2) = ch (n + 1) (k + 1) + ch (n + 1) (k + 2) := rfl
      have e2 : ch (n + 1) (k + 1) = ch n k + ch n (k + 1) := rfl
      rw [e1]
      generalize ch (n + 1) (k + 2) = X at *
      rw [e2] at h1 ⊢
      generalize ch n k = A at *
      generalize ch n (k + 1) = B at *
      grind
/-- the first k terms of (a + 1)^n -/
def bs (a n : Nat) : Nat → Nat
  | 0 => 0
  | k + 1 => bs a n k + ch n k * a ^ k
theorem bs_succ (a n : Nat) : ∀ k, bs a (n + 1) (k + 1) = a * bs a n k + bs a n (k + 1)
  | 0 => by simp [bs, ch_zero]
  | k + 1 => by
      have h := bs_succ a n k
      have e : ch (n + 1) (k + 1) = ch n k + ch n (k + 1) := rfl
      rw [bs, h, e, bs, bs, bs, Nat.pow_succ]
      grind
theorem bs_over (a n : Nat) : bs a n (n + 2) = bs a n (n + 1) := by
  rw [bs, ch_over n (n + 1) (by omega), Nat.zero_mul, Nat.add_zero]
theorem binomial (a : Nat) : ∀ n, (a + 1) ^ n = bs a n (n + 1)
  | 0 => by simp [bs, ch]
  | n + 1 => by
      have h := binomial a n
      rw [bs_succ, bs_over, ← h, Nat.pow_succ]
      grind

def IsP (p : Nat) : Prop := 1 < p ∧ ∀ d, d ∣ p → d = 1 ∨ d = p
theorem IsP.cop {p n : Nat} (h : IsP p) (hn : ¬ p ∣ n) : Nat.Coprime p n := by
  rcases h.2 _ (Nat.gcd_dvd_left p n) with h1 | h1
  · exact h1
  · exact absurd (h1 ▸ Nat.gcd_dvd_right p n) hn
theorem IsP.ch {p : Nat} (h : IsP p) {k : Nat} (h0 : 0 < k) (hk : k < p) : p ∣ ch p k := by
  obtain ⟨j, rfl⟩ : ∃ j, k = j + 1 := ⟨k - 1, by omega⟩
  obtain ⟨q, rfl⟩ : ∃ q, p = q + 1 := ⟨p - 1, by omega⟩
  have h1 : (q + 1) ∣ (j + 1) * Go.Proofs.YtdcijkjlgkfkdaaDoor.ch (q + 1) (j + 1) := ⟨_, ch_mul q j⟩
  refine (h.cop fun hd => ?_).dvd_of_dvd_mul_left h1
  have := Nat.le_of_dvd (by omega) hd
  omega
theorem bs_mod {a p : Nat} (h : IsP p) : ∀ k, 0 < k → k ≤ p → bs a p k % p = 1 % p
  | 0, h0, _ => by omega
  | 1, _, _ => by simp [bs, ch_zero]
  | k + 2, _, hk => by
      have h1 := bs_mod (a := a) h (k + 1) (by omega) (by omega)
      have h2 := h.ch (k := k + 1) (by omega) (by omega)
      rw [bs, Nat.add_mod, h1, Nat.mod_eq_zero_of_dvd (Nat.dvd_mul_right_of_dvd h2 _)]
      simp
theorem fermat {p : Nat} (h : IsP p) : ∀ a, a ^ p % p = a % p
  | 0 => by rw [Nat.zero_pow (by have := h.1; omega)]
  | a + 1 => by
      have h1 := fermat h a
      rw [binomial, bs, ch_self, Nat.one_mul, Nat.add_mod, bs_mod h p (by have := h.1; omega) (Nat.le_refl _), h1, ← Nat.add_mod, Nat.add_comm]
theorem fermat1 {p a : Nat} (h : IsP p) (ha : ¬ p ∣ a) : a ^ (p - 1) % p = 1 := by
  have h1 := fermat h a
  have hp := h.1
  obtain ⟨q, rfl⟩ : ∃ q, p = q + 1 := ⟨p - 1, by omega⟩
  rw [Nat.add_sub_cancel]
  have hpos : 0 < a := by
    rcases Nat.eq_zero_or_pos a with h0 | h0
    · subst h0; exact absurd (Nat.dvd_zero _) ha
    · exact h0
  have h3 : (q + 1) ∣ a * (a ^ q - 1) := by
    have e : a * (a ^ q - 1) = a ^ (q + 1) - a := by rw [Nat.mul_sub, Nat.pow_succ, Nat.mul_one, Nat.mul_comm]
    rw [e]
    exact Nat.dvd_of_mod_eq_zero (Nat.sub_mod_eq_zero_of_mod_eq h1)
  have h4 := (h.cop ha).dvd_of_dvd_mul_left h3
  obtain ⟨c, hc⟩ := h4
  have h5 : a ^ q = 1 + (q + 1) * c := by have := Nat.pow_pos (n := q) hpos; omega
  rw [h5, Nat.add_mul_mod_self_left, Nat.mod_eq_of_lt hp]
/-- every number above 1 has a prime divisor -/
theorem has_prime : ∀ n, 1 < n → ∃ p, IsP p ∧ p ∣ n := by
  intro n
  induction n using Nat.strongRecOn with
  | _ n ih =>
    intro hn
    by_cases h : ∀ d, d ∣ n → d = 1 ∨ d = n
    · exact ⟨n, ⟨hn, h⟩, Nat.dvd_refl _⟩
    · obtain ⟨d, hd⟩ := Classical.not_forall.1 h
      obtain ⟨h1, h2⟩ := Classical.not_imp.1 hd
      have hle := Nat.le_of_dvd (by omega) h1
      have hpos := Nat.pos_of_dvd_of_pos h1 (by omega)
      obtain ⟨p, hp, hpd⟩ := ih d (by omega) (by omega)
      exact ⟨p, hp, Nat.dvd_trans hpd h1⟩
/-- two's part and the rest -/
theorem two_part : ∀ n, 0 < n → ∃ j t, n = 2 ^ j * (2 * t + 1) := by
  intro n
  induction n using Nat.strongRecOn with
  | _ n ih =>
    intro hn
    by_cases h : n % 2 = 0
    · obtain ⟨j, t, hj⟩ := ih (n / 2) (by omega) (by omega)
      exact ⟨j + 1, t, by rw [Nat.pow_succ, Nat.mul_right_comm, ← hj]; omega⟩
    · exact ⟨0, n / 2, by omega⟩
theorem pow_mod_one {x p : Nat} (hp : 1 < p) (h : x % p = 1) (n : Nat) : x ^ n % p = 1 := by
  rw [Nat.pow_mod, h, Nat.one_pow, Nat.mod_eq_of_lt hp]
/-- minus one to an odd power -/
theorem neg_odd {y p : Nat} (hp : 1 < p) (h : y % p = p - 1) (t : Nat) : y ^ (2 * t + 1) % p = p - 1 := by
  have h2 : y ^ 2 % p = 1 := by
    rw [Nat.pow_mod, h]
    obtain ⟨q, rfl⟩ : ∃ q, p = q + 2 := ⟨p - 2, by omega⟩
    have e : (q + 2 - 1) ^ 2 = 1 + (q + 2) * q := by
      rw [show q + 2 - 1 = q + 1 by omega]; grind
    rw [e, Nat.add_mul_mod_self_left, Nat.mod_eq_of_lt (by omega)]
  rw [Nat.pow_succ, Nat.pow_mul, Nat.mul_mod, pow_mod_one hp h2, h, Nat.one_mul, Nat.mod_eq_of_lt (by omega)]
/-- x to 2^k is minus one modulo r: every prime divisor of r is above 2^k -/
theorem proth {r x k p : Nat} (hx : x ^ 2 ^ k % r = r - 1) (hr2 : r % 2 = 1) (hp : IsP p) (hd : p ∣ r) : 2 ^ (k + 1) < p := by
  have hp1 := hp.1
  obtain ⟨c, hc⟩ := hd
  have hodd : p % 2 = 1 := by
    apply Classical.byContradiction
    intro h
    have h0 : p % 2 = 0 := by omega
    have : r % 2 = 0 := by rw [hc, Nat.mul_mod, h0]; simp
    omega
  have hy : x ^ 2 ^ k % p = p - 1 := by
    have h1 : x ^ 2 ^ k % r % p = x ^ 2 ^ k % p := by rw [hc]; exact Nat.mod_mul_right_mod _ _ _
    rw [← h1, hx, hc]
    have hc0 : 0 < c := by
      rcases Nat.eq_zero_or_pos c with h | h
      · subst h; omega
      · exact h
    obtain ⟨b, rfl⟩ : ∃ b, c = b + 1 := ⟨c - 1, by omega⟩
    have e : p * (b + 1) - 1 = (p - 1) + p * b := by rw [Nat.mul_succ]; omega
    rw [e, Nat.add_mul_mod_self_left, Nat.mod_eq_of_lt (by omega)]
  have hnd : ¬ p ∣ x := by
    intro h
    have h1 : x ^ 2 ^ k % p = 0 := by rw [Nat.pow_mod, Nat.mod_eq_zero_of_dvd h, Nat.zero_pow (Nat.pow_pos (by decide)), Nat.zero_mod]
    omega
  have hf := fermat1 hp hnd
  obtain ⟨j, t, hj⟩ := two_part (p - 1) (by omega)
  by_cases hjk : j ≤ k
  · exfalso
    have h1 : (x ^ (p - 1)) ^ 2 ^ (k - j) % p = 1 := pow_mod_one hp1 hf _
    rw [← Nat.pow_mul, hj, Nat.mul_right_comm, ← Nat.pow_add, show j + (k - j) = k by omega, Nat.pow_mul, neg_odd hp1 hy] at h1
    omega
  · have h1 : 2 ^ (k + 1) ≤ 2 ^ j := Nat.pow_le_pow_right (by decide) (by omega)
    have h2 : 2 ^ j ≤ p - 1 := by rw [hj]; exact Nat.le_mul_of_pos_right _ (by omega)
    omega

/-- powers modulo m, as the kernel reckons them -/
def pw (a m : Nat) : Nat → Nat → Nat
  | 0, _ => 1 % m
  | f + 1, e => if e % 2 = 1 then (pw a m f (e / 2)) ^ 2 % m * a % m else (pw a m f (e / 2)) ^ 2 % m
theorem pw_eq (a m : Nat) : ∀ f e, e < 2 ^ f → pw a m f e = a ^ e % m
  | 0, e, h => by
      obtain rfl : e = 0 := by simp at h; exact h
      rfl
  | f + 1, e, h => by
      have ih := pw_eq a m f (e / 2) (by rw [Nat.pow_succ] at h; omega)
      rw [pw, ih, ← Nat.pow_mod, ← Nat.pow_mul]
      split
      · next h1 =>
        rw [Nat.mul_mod, Nat.mod_mod, ← Nat.mul_mod, ← Nat.pow_succ, show (e / 2 * 2).succ = e by omega]
      · next h1 =>
        rw [show e / 2 * 2 = e by omega]

/-- the number that the search for a prime comes to at the latest: 2 r + 1 -/
def bigR : Nat := 170141183460469344939355684071402373121
theorem pow_of_pw (a h k m v : Nat) (h1 : h * 2 ^ k < 2 ^ 128) (h2 : pw a m 128 (h * 2 ^ k) = v) : ∃ x, x ^ 2 ^ k % m = v :=
  ⟨a ^ h, by rw [← Nat.pow_mul, ← pw_eq a m 128 _ h1]; exact h2⟩
theorem bigR_pow : ∃ k x, k = 63 ∧ x ^ 2 ^ k % bigR = bigR - 1 := by
  have h : ∀ k, k = 63 → ∃ x, x ^ 2 ^ k % bigR = bigR - 1 := fun k hk =>
    pow_of_pw 3 9223372036854781945 k _ _ (by rw [hk]; decide) (by rw [hk]; decide +kernel)
  obtain ⟨x, hx⟩ := h 63 rfl
  exact ⟨63, x, rfl, hx⟩
theorem bigR_gcd {e : Nat} (h1 : e % 2 = 1) (h2 : e ≤ 18446744073709551615) : Nat.gcd (2 * bigR) e = 1 := by
  apply Classical.byContradiction
  intro hne
  have hpos : 0 < Nat.gcd (2 * bigR) e := Nat.gcd_pos_of_pos_right _ (by omega)
  obtain ⟨p, hp, hd⟩ := has_prime (Nat.gcd (2 * bigR) e) (by omega)
  have hpe := Nat.dvd_trans hd (Nat.gcd_dvd_right _ _)
  have hpr := Nat.dvd_trans hd (Nat.gcd_dvd_left _ _)
  have hle := Nat.le_of_dvd (by omega) hpe
  have hp2 : ¬ p ∣ 2 := by
    intro h
    have h3 := Nat.le_of_dvd (by decide) h
    have h4 := hp.1
    obtain rfl : p = 2 := by omega
    have := Nat.mod_eq_zero_of_dvd hpe
    omega
  have h5 := (hp.cop hp2).dvd_of_dvd_mul_left hpr
  obtain ⟨k, x, hk, hx⟩ := bigR_pow
  have h6 := proth hx (by decide) hp h5
  rw [hk] at h6
  omega
end Go.Proofs.YtdcijkjlgkfkdaaDoor

/- The search for primes: some numbers. -/
namespace Go.Proofs.YtdcijkjlgkfkdaaDoor
open Go.RowKit Go.Shelf

theorem pow_le_b (b k q e : Nat) (hb : b = 2 ^ e) (h : e * k ≤ q) : b ^ k ≤ 2 ^ q := by
  subst hb
  rw [← Nat.pow_mul]
  exact Nat.pow_le_pow_right (by decide) h
theorem not_lg {N q : Nat} (h : N < 2 ^ 129) (hq : 129 ≤ q) : ¬ Lg q N := fun h2 => by
  have h3 : 2 ^ 129 ≤ 2 ^ q := Nat.pow_le_pow_right (by decide) hq
  have h4 : 2 ^ q ≤ N := h2
  omega
theorem tst_of {N : Nat} (h1 : N % 2 = 1) (h2 : 2 ≤ N) (h : N < 2 ^ 129) : Tst N := ⟨h1, h2, not_lg h (by decide)⟩
/-- the test, where half of N - 1 is odd -/
theorem mr_half {N W x : Nat} (hT : Tst N) (h1 : (N - 1) % 2 = 0) (h2 : (N - 1) / 2 % 2 = 1) (hx : (W % N) ^ ((N - 1) / 2) % N = x) : MR N W ↔ (W % N = 0 ∨ x = 1 ∨ x = N - 1) := by
  have hz : Lz (N - 1) 1 := ⟨h1, h2⟩
  constructor
  · rintro (h | ⟨_, h | ⟨s, hs, h | ⟨i, hi, h⟩⟩⟩)
    · exact absurd hT h.1
    · exact .inl h
    · rw [← hz.unique hs, Nat.pow_one, hx] at h
      exact .inr (.inl h)
    · rw [← hz.unique hs] at hi
      obtain rfl : i = 0 := by omega
      rw [← hz.unique hs, Nat.pow_zero, Nat.pow_one, Nat.mul_one, hx] at h
      exact .inr (.inr h)
  · rintro (h | h | h)
    · exact .inr ⟨hT, .inl h⟩
    · exact .inr ⟨hT, .inr ⟨1, hz, .inl (by rw [Nat.pow_one, hx]; exact h)⟩⟩
    · exact .inr ⟨hT, .inr ⟨1, hz, .inr ⟨0, by decide, by rw [Nat.pow_zero, Nat.pow_one, Nat.mul_one, hx]; exact h⟩⟩⟩
theorem mr_pw {N W f : Nat} (hT : Tst N) (h1 : (N - 1) % 2 = 0) (h2 : (N - 1) / 2 % 2 = 1) (hf : (N - 1) / 2 < 2 ^ f) (b : Bool) (hb : (W % N == 0 || pw (W % N) N f ((N - 1) / 2) == 1 || pw (W % N) N f ((N - 1) / 2) == N - 1) = b) : MR N W ↔ b = true := by
  rw [mr_half hT h1 h2 (pw_eq (W % N) N f _ hf).symm, ← hb]
  simp [or_assoc]
def has_small (N : Nat) : Bool := (List.range 12).any fun i => N % fewL.getD i 0 == 0 && N != fewL.getD i 0
theorem hasSmall_iff (N : Nat) : HasSmall N ↔ has_small N = true := by
  simp [HasSmall, has_small, Sf]
theorem fit_11 : FitN 11 3 := by
  refine ⟨by rw [hasSmall_iff]; decide, by decide, .inr ⟨tst_of (by decide) (by decide) (by decide), ?_⟩⟩
  have : ∀ i : Fin 12, (fewL.getD i.1 0 % 11 == 0 || pw (fewL.getD i.1 0 % 11) 11 4 5 == 1 || pw (fewL.getD i.1 0 % 11) 11 4 5 == 10) = true := by decide
  exact fun i hi => (mr_pw (f := 4) (tst_of (by decide) (by decide) (by decide)) (by decide) (by decide) (by decide) true (this ⟨i, hi⟩)).2 rfl
theorem fit_9 : ¬ FitN 9 3 := fun h => h.1 (by rw [hasSmall_iff]; decide)
theorem tst_2047 : Tst 2047 := tst_of (by decide) (by decide) (by decide)
theorem mr_2047 : MR 2047 2 := (mr_pw (f := 11) tst_2047 (by decide) (by decide) (by decide) true (by decide +kernel)).2 rfl
theorem prob_2047 : ¬ ProbF 2047 := by
  rintro (h | h)
  · exact h.1 tst_2047
  · have h3 := h.2 1 (by decide)
    have := (mr_pw (W := 3) (f := 11) tst_2047 (by decide) (by decide) (by decide) false (by decide +kernel)).1 h3
    cases this
def bigP : Nat := 2 * bigR + 1
theorem fit_big {E : Nat} (h1 : E % 2 = 1) (h2 : E ≤ 18446744073709551615) : FitN bigP E := by
  have hT : Tst bigP := tst_of (by decide +kernel) (by decide +kernel) (by decide +kernel)
  refine ⟨by rw [hasSmall_iff]; decide +kernel, bigR_gcd h1 h2, .inr ⟨hT, ?_⟩⟩
  have : ∀ i : Fin 12, (fewL.getD i.1 0 % bigP == 0 || pw (fewL.getD i.1 0 % bigP) bigP 129 ((bigP - 1) / 2) == 1 || pw (fewL.getD i.1 0 % bigP) bigP 129 ((bigP - 1) / 2) == bigP - 1) = true := by decide +kernel
  exact fun i hi => (mr_pw (f := 129) hT (by decide +kernel) (by decide +kernel) (by decide +kernel) true (this ⟨i, hi⟩)).2 rfl
/-- from any number of two limbs on there is one -/
theorem fit_from {N E : Nat} (hN : N < b64 ^ 2) (h1 : E % 2 = 1) (h2 : E ≤ 18446744073709551615) : ∃ k, FitN (firstN N + 2 * k) E ∧ firstN N + 2 * k < b64 ^ 3 := by
  have hb : b64 ^ 2 + 3 ≤ bigP := by decide +kernel
  have h3 := firstN_le N
  have h4 := firstN_odd N
  have h5 : bigP % 2 = 1 := by decide +kernel
  have h6 : bigP < b64 ^ 3 := by decide +kernel
  refine ⟨(bigP - firstN N) / 2, ?_⟩
  rw [show firstN N + 2 * ((bigP - firstN N) / 2) = bigP by omega]
  exact ⟨fit_big h1 h2, h6⟩
end Go.Proofs.YtdcijkjlgkfkdaaDoor

/- The law's begun: some powers are told. -/
namespace Go.Proofs.YtdcijkjlgkfkdaaDoor
open Go.RowKit Go.Shelf
attribute [local go_sem] Oper.semAt_some

theorem newU (w : World) (x : Nat) (i : Int) (h : i = (x : Int)) : ∃ W, w.alloc (.cells #[.int .u64 i] 38) = W ∧ Sl W W.heap.size (some ⟨w.heap.size, 0, none⟩) 1 1 [x] ∧ Below w.heap.size w W := by
  subst h
  exact ⟨_, rfl, (sl_new w x).more (by simp), (Below.refl _ w).alloc (Nat.le_refl _) _⟩
theorem Sl.one {w : World} {B n c : Nat} {A : Option Addr} {xs : List Nat} {x : Nat} (h : Sl w B A n c xs) (hx : xs = [x]) : n = 1 ∧ ∃ b off, A = some ⟨b, off, none⟩ ∧ b < B ∧ w.cell? ⟨b, off, none⟩ = some (.int .u64 (x : Int)) := by
  subst hx
  obtain ⟨b, off, y, rfl, hb, hy, hc⟩ := h.at_ (k := 0) (by rw [h.len]; exact Nat.zero_lt_one)
  simp at hy
  subst hy
  exact ⟨h.len, b, off, rfl, hb, hc⟩

set_option maxRecDepth 100000 in
set_option maxHeartbeats 4000000 in
theorem begun2_any (w : World) (hG : FewG w) : Calls Tryd.prog 8 #[] w fun e w' => RetV w (.bool true) e w' := by
  have d1 : ∀ x : Nat, 0 < x → x < b64 → Dg b64 [x] := fun x h0 h => (nm_one x (by omega) h).1
  obtain ⟨W1, e1, s1, b1⟩ := newU w 3 3 rfl
  obtain ⟨W2, e2, s2, b2⟩ := newU W1 5 5 rfl
  obtain ⟨W3, e3, s3, b3⟩ := newU W2 7 7 rfl
  have hex := exp_any W3 _ _ _ _ ((s1.later b2 (Nat.le_refl _)).later b3 (Nat.le_refl _)) _ _ _ _ (s2.later b3 (Nat.le_refl _)) _ _ _ _ s3 (d1 3 (by decide) (by decide)) (d1 5 (by decide) (by decide)) (d1 7 (by decide) (by decide)) (by decide) (by decide) (by decide) 3 5 7 rfl rfl rfl
  have HEX := Lib.hid hex
  have hB : Below w.heap.size w W3 := b1.trans ((b2.mono b1.size).trans (b3.mono (Nat.le_trans b1.size b2.size)))
  have hG3 := ((hG.later b1).later b2).later b3
  clear hex s1 s2 s3 b1 b2 b3
  refine (callsIn_wide (n := 9)).1 ?_
  refine callsIn_of_wp_marks Tryd.func8 rfl trivial ?_ rfl
  simp only [Tryd.ntmps8, List.size_toArray, List.length_nil, Nat.reduceSub, Array.replicate_succ, Array.replicate_zero, List.push_toArray, List.append_toArray, List.nil_append, List.cons_append]
  gi_wp2_with fail
  clear e1 e2 e3
  refine ⟨trivial, (callsIn_wide.2 HEX.out).mono ?_⟩
  have nl : ∀ x : Nat, x < 129 → ¬ Lg 4096 x := fun x hx => not_lg (Nat.lt_trans hx (by decide)) (by decide)
  have NL := Lib.hid nl
  clear nl
  rintro e V1 ⟨b, A1, n1, c1, r1, rfl, hok, _, hyes, hr1, hb1⟩
  obtain rfl : b = true := hok.2 ⟨NL.out 3 (by decide), NL.out 5 (by decide), NL.out 7 (by decide), by decide⟩
  obtain rfl := nm_unique (by decide) (hyes rfl) (nm_one 5 (by decide) (by decide))
  replace hB := hB.trans (hb1.mono hB.size)
  replace hG3 := hG3.later hb1
  clear hok hyes hb1 HEX
  obtain ⟨W1, e1, s1, b1⟩ := newU V1 3 3 rfl
  obtain ⟨W2, e2, s2, b2⟩ := newU W1 7 7 rfl
  have hin := inverse_any W2 _ _ _ _ (s1.later b2 (Nat.le_refl _)) _ _ _ _ s2 (d1 3 (by decide) (by decide)) (d1 7 (by decide) (by decide)) 1 (by decide) (by decide) (by decide) 3 7 rfl rfl
  have HIN := Lib.hid hin
  have hb2 := b1.trans (b2.mono b1.size)
  replace hr1 := hr1.later hb2 (Nat.le_refl _)
  replace hB := hB.trans (hb2.mono hB.size)
  replace hG3 := hG3.later hb2
  clear hin s1 s2 b1 b2 hb2
  gi_wp2_with fail
  clear e1 e2
  refine ⟨trivial, (callsIn_wide.2 HIN.out).mono ?_⟩
  rintro e V2 ⟨b, A2, n2, c2, r2, rfl, hok, _, hyes, hr2, hb1⟩
  obtain rfl : b = true := hok.2 ⟨NL.out 3 (by decide), NL.out 7 (by decide), by decide, by decide⟩
  obtain ⟨R, hR, hRl, hR1⟩ := hyes rfl
  have hR5 : R = 5 := by omega
  subst hR5
  obtain rfl := nm_unique (by decide) hR (nm_one 5 (by decide) (by decide))
  replace hB := hB.trans (hb1.mono hB.size)
  replace hG3 := hG3.later hb1
  replace hr1 := hr1.later hb1 (Nat.le_refl _)
  clear hok hyes hb1 HIN hR hRl hR1
  obtain ⟨W1, e1, s1, b1⟩ := newU V2 8 8 rfl
  obtain ⟨W2, e2, s2, b2⟩ := newU W1 3 3 rfl
  have hne := next_any W2 (hG3.later (b1.trans (b2.mono b1.size))) _ _ _ _ (s1.later b2 (Nat.le_refl _)) _ _ _ _ s2 (d1 8 (by decide) (by decide)) (d1 3 (by decide) (by decide)) (by decide) (by decide) 8 3 rfl rfl 1 (fun _ => fit_11) 1 (by decide) (by decide)
  have HNE := Lib.hid hne
  have hb2 := b1.trans (b2.mono b1.size)
  replace hr1 := hr1.later hb2 (Nat.le_refl _)
  replace hr2 := hr2.later hb2 (Nat.le_refl _)
  replace hB := hB.trans (hb2.mono hB.size)
  replace hG3 := hG3.later hb2
  clear hne s1 s2 b1 b2 hb2
  gi_wp2_with fail
  clear e1 e2
  refine ⟨trivial, (callsIn_wide.2 HNE.out).mono ?_⟩
  rintro e V3 (⟨h, _⟩ | ⟨_, j, r3, A3, n3, c3, hj, hf, hmin, hn3, rfl, hr3, hb1⟩)
  · exfalso
    rcases h with h | h
    · exact not_lg (q := 2048) (N := 8) (by decide) (by decide) h
    · cases h
  obtain rfl : j = 1 := by
    rcases Nat.lt_or_ge j 1 with h | h
    · obtain rfl : j = 0 := by omega
      exact absurd hf fit_9
    · omega
  obtain rfl := nm_unique (by decide) hn3 (nm_one 11 (by decide) (by decide))
  replace hB := hB.trans (hb1.mono hB.size)
  replace hG3 := hG3.later hb1
  replace hr1 := hr1.later hb1 (Nat.le_refl _)
  replace hr2 := hr2.later hb1 (Nat.le_refl _)
  clear hj hf hmin hn3 hb1 HNE
  have hfe := mfew_any V3
  have HFE := Lib.hid hfe
  have hsn := seq_nil
  clear hfe
  gi_wp2_with fail
  refine ⟨trivial, (callsIn_wide.2 HFE.out).mono ?_⟩
  rintro e V4 ⟨rfl, rfl⟩
  obtain ⟨W0, e0, b0, c0, f0, s0⟩ := newboxE V3 3 (.int .i64 0)
  obtain ⟨g, hg⟩ : ∃ g, V3.heap.size = g := ⟨_, rfl⟩
  have b9 : Below V3.heap.size V3 (W0.setCell ⟨g, 0, none⟩ (.int .i64 0)) := b0.setCell (p := ⟨g, 0, none⟩) (by rw [hg]; exact Nat.le_refl _) _
  rw [hg] at c0 f0 s0
  have z9 : (W0.setCell ⟨g, 0, none⟩ (.int .i64 0)).heap.size = g + 1 := by simp [World.setCell]; omega
  have c9 : (W0.setCell ⟨g, 0, none⟩ (.int .i64 0)).cell? ⟨g, 0, none⟩ = some (.int .i64 0) := World.cell?_setCell_same' _ _ _ (by rw [c0]; rfl)
  have f9 : (W0.setCell ⟨g, 0, none⟩ (.int .i64 0)).frozen? ⟨g, 0, none⟩ = false := by rw [World.frozen?_setCell]; exact f0
  obtain ⟨W9, e9⟩ : ∃ W9, W0.setCell ⟨g, 0, none⟩ (.int .i64 0) = W9 := ⟨_, rfl⟩
  rw [e9] at b9 z9 c9 f9
  have hG0 := hG3.later b9
  have hseq := few1_in 8 (by decide) W9 hG0
  have HSEQ := Lib.hid hseq
  have HB := Lib.hid hB
  have HGG := Lib.hid hg
  have hgw : w.heap.size ≤ g := by have := hB.size; omega
  clear hseq HFE hB hG0
  gi_wp2_with fail
  rw [hg] at b9
  clear e0 e9 hg
  refine wpIn_rangeR rfl (by decide) (gf := 59) (lb := #[]) rfl trivial (enters_of Tryd.func59 (by kernel_rfl) rfl)
    HSEQ.out (fun _ _ => trivial) (fun _ _ _ _ _ _ _ _ => trivial) (fun _ => rfl)
    (fun pre W => (W.cell? ⟨g, 0, none⟩ = some (.int .i64 ((pre.length : Nat) : Int)) ∧ W.frozen? ⟨g, 0, none⟩ = false) ∧ Below g V3 W)
    (fun _ _ _ => False)
    (OwnFrom.and (Own.from (fun s A B row hs hg hr => ⟨cell_kept hs.1 hg hr, (frozen_kept hs.1 hg hr).trans hs.2⟩) _) (ownFrom_below (by have := HGG.out; omega) (by omega)))
    (fun _ _ _ _ _ hs _ _ => hs)
    (FewR.own _) ⟨⟨c9, f9⟩, b9⟩ ?a1x ?assign ?body ?done ?stop
  case assign =>
    intro l x W K hK
    gi_wp2
    exact hK
  case body =>
    rintro l pre x W ⟨⟨hc, hf⟩, hB⟩ _ hpl
    have hpi : ((pre.length : Nat) : Int) < 12 := by omega
    obtain ⟨pl, hpl2⟩ : ∃ pl, pre.length = pl := ⟨_, rfl⟩
    rw [hpl2] at hc hpi
    have HP := Lib.hid hpl2
    clear hpl2 hpl
    gi_wp2
    refine ⟨(KeepsOthers.setCell _ _ _).from _, trivial, ⟨?_, by rw [World.frozen?_setCell]; exact hf⟩, hB.setCell (p := ⟨g, 0, none⟩) (Nat.le_refl _) _⟩
    rw [List.length_append, HP.out]
    exact World.cell?_setCell_same' _ _ _ (by rw [hc]; rfl)
  case stop =>
    rintro D c pre W _ _ h _
    exact h.elim
  case done =>
    rintro D ds W hD hds ⟨⟨hc, hf⟩, hB⟩ hK
    have hl : ds.length = 12 := by have := congrArg List.length hds; simpa using this
    rw [hl] at hc
    have hB3 : Below V3.heap.size V3 W := by rw [HGG.out]; exact hB
    obtain ⟨rfl, p1, o1, rfl, _, k1⟩ := (hr1.later hB3 (Nat.le_refl _)).one rfl
    obtain ⟨rfl, p2, o2, rfl, _, k2⟩ := (hr2.later hB3 (Nat.le_refl _)).one rfl
    obtain ⟨rfl, p3, o3, rfl, _, k3⟩ := (hr3.later hB3 (Nat.le_refl _)).one rfl
    have hBW : Below w.heap.size w W := HB.out.trans (hB3.mono HB.out.size)
    have hGW := hG3.later hB3
    obtain ⟨W1, e1, s1, b1⟩ := newU W 2047 2047 rfl
    obtain ⟨W2, e2, s2, b2⟩ := newU W1 2 2 rfl
    have hst := strong_any W2 _ _ _ _ (s1.later b2 (Nat.le_refl _)) _ _ _ _ s2 (d1 2047 (by decide) (by decide)) (d1 2 (by decide) (by decide)) (by decide) (by decide) 2047 2 rfl rfl
    have hb2 := b1.trans (b2.mono b1.size)
    have HST := Lib.hid hst
    have HB2 := Lib.hid hb2
    have HBW := Lib.hid hBW
    have HGW := Lib.hid hGW
    have hDl : D < W.heap.size := (Array.getElem?_eq_some_iff.1 hK).1
    clear hst hb2 hBW hGW s1 s2 b1 b2 hB3 hl hds hB hr1 hr2 hr3
    gi_wp2_with fail
    clear e1 e2
    refine ⟨trivial, (callsIn_wide.2 HST.out).mono ?_⟩
    rintro e W3 ⟨⟨b, rfl, hb⟩, hb3⟩
    obtain rfl : b = true := hb.2 mr_2047
    have hb23 := HB2.out.trans (hb3.mono HB2.out.size)
    have hBW3 := HBW.out.trans (hb23.mono HBW.out.size)
    have hGW3 := HGW.out.later hb23
    have hD3 : W3.heap[D]? = some (.deferred (some [])) := (hb23.block D hDl).trans hK
    obtain ⟨W4, e4, s4, b4⟩ := newU W3 2047 2047 rfl
    have hfe := mfew_any W4
    have hpr := probable_few W4 (hGW3.later b4) _ _ _ _ s4 (d1 2047 (by decide) (by decide)) (by decide) 2047 rfl
    have hBW4 := hBW3.trans (b4.mono hBW3.size)
    have hDl3 : D < W3.heap.size := (Array.getElem?_eq_some_iff.1 hD3).1
    have hD4 : W4.heap[D]? = some (.deferred (some [])) := (b4.block D hDl3).trans hD3
    have HFE := Lib.hid hfe
    have HPR := Lib.hid hpr
    have HB4 := Lib.hid hBW4
    clear hb hb3 hb23 hBW3 hGW3 hD3 s4 b4 hfe hpr hBW4 hK HST HB2 HBW HGW
    gi_wp2_with fail
    clear e4
    refine ⟨trivial, (callsIn_wide.2 HFE.out).mono ?_⟩
    rintro e W5 ⟨rfl, rfl⟩
    gi_wp2_with fail
    refine ⟨trivial, (callsIn_wide.2 HPR.out).mono ?_⟩
    rintro e W5 ⟨⟨b, rfl, hb⟩, hb5⟩
    obtain rfl : b = false := by
      cases b
      · rfl
      · exact absurd (hb.1 rfl) prob_2047
    have hDl4 : D < W4.heap.size := (Array.getElem?_eq_some_iff.1 hD4).1
    have hD5 : W5.heap[D]? = some (.deferred (some [])) := (hb5.block D hDl4).trans hD4
    have hB5 := HB4.out.trans (hb5.mono HB4.out.size)
    clear hb hb5
    gi_wp2
    refine ⟨by simp, .inl ⟨_, _, rfl, run_takeDeferred hD5, ?_⟩⟩
    refine ⟨_, results_tmp rfl _ _ _, rfl, ?_⟩
    exact hB5.grown (grownBy_putObj' W5 D (.deferred none)) hB5.size (fun k e => by cases e; omega)
end Go.Proofs.YtdcijkjlgkfkdaaDoor

/- The second layer's few. -/
namespace Go.Proofs.YtdcijkjlgkfkdaaDoor
open Go.RowKit

set_option maxHeartbeats 400000 in
theorem few2_any (w : World) (B : Nat) (A : Option Addr) (n c : Nat) (xs : List Nat) (hs : Sl w B A n c xs) (k : Nat) (hk : k ≤ 1000000) :
    Calls Tryd.prog 9 #[.slice A n c, .int .i64 k] w fun e w' => RetS w (xs.take k) e w' := by
  go_enter Tryd.func9, Tryd.ntmps9
  go_wp2_with (go_at_call 31; refine (cut_any _ B A n c xs hs k hk).mono ?_; rintro e w1 ⟨A', n', c', rfl, h1, h2⟩)
  go_ret
  exact ⟨A', n', c', rfl, h1, h2⟩
end Go.Proofs.YtdcijkjlgkfkdaaDoor

/- The reference's Quo. -/
namespace Go.Proofs.YtdcijkjlgkfkdaaDoor
open Go.RowKit

set_option maxRecDepth 100000 in
set_option maxHeartbeats 1600000 in
theorem rquo_any (w : World) (A1 : Option Addr) (n c1 : Nat) (xs : List Nat) (hs1 : Sl w w.heap.size A1 n c1 xs) (A2 : Option Addr) (m c2 : Nat) (ys : List Nat) (hs2 : Sl w w.heap.size A2 m c2 ys) (N M : Nat) (hN : Nm b32 xs N) (hM : Nm b32 ys M)
    (hn : n ≤ 100000000) (hm : m ≤ 100000000) (hM0 : 0 < M) :
    Calls Tryd.prog 39 #[.slice A1 n c1, .slice A2 m c2] w fun e w' => ∃ A3 n3 c3 q A4 n4 c4 r, e = .returned (.tuple #[.slice A3 n3 c3, .slice A4 n4 c4]) ∧ Sl w' w'.heap.size A3 n3 c3 q ∧ Nm b32 q (N / M) ∧ Sl w' w'.heap.size A4 n4 c4 r ∧ Nm b32 r (N % M) ∧ Below w.heap.size w w' := by
  rcases Nat.lt_or_ge N M with hlt | hge
  · have hcmp := rcmp_ret w _ _ _ _ _ hs1 _ _ _ _ _ hs2 _ _ hN hM
    rw [ncmp_lt hlt] at hcmp
    have hq : Nm b32 [] (N / M) := by rw [Nat.div_eq_of_lt hlt]; exact ⟨fun x hx => (by cases hx), fun x hx => (by cases hx), rfl⟩
    have hr : Nm b32 xs (N % M) := by rw [Nat.mod_eq_of_lt hlt]; exact hN
    have HCMP := Lib.hid hcmp
    have HQ := Lib.hid hq
    have HR := Lib.hid hr
    clear hcmp hq hr
    go_enter Tryd.func39, Tryd.ntmps39
    go_wp2_with fail
    refine HCMP.out.mono ?_
    rintro e w1 ⟨rfl, hc⟩
    have hs3 := hs1.later hc (Nat.le_refl _)
    go_wp2_with fail
    go_ret2
    exact ⟨_, _, _, [], _, _, _, xs, rfl, Sl.nil _ _ _ (by omega), HQ.out, hs3, HR.out, hc⟩
  · have hmpos : m ≠ 0 := by
      intro h
      have h1 : ys = [] := List.eq_nil_of_length_eq_zero (by rw [← hs2.len]; exact h)
      have := hM.2.2
      rw [h1] at this
      simp [V] at this
      omega
    obtain ⟨p, hp⟩ : ∃ p, m = p + 1 := ⟨m - 1, by omega⟩
    rcases Nat.eq_zero_or_pos p with h0 | h1
    · subst h0
      obtain ⟨cv, hcv⟩ : ∃ cv, ncmp N M = cv := ⟨_, rfl⟩
      have hcv0 : ¬ cv < 0 := by
        rcases Nat.lt_or_ge M N with h | h
        · rw [ncmp_gt h] at hcv; omega
        · rw [Nat.le_antisymm h hge, ncmp_eq] at hcv; omega
      have hcmp := rcmp_ret w _ _ _ _ _ hs1 _ _ _ _ _ hs2 _ _ hN hM
      rw [hcv] at hcmp
      have HCMP := Lib.hid hcmp
      obtain ⟨b2, o2, y, rfl, hb2, hy, hc2⟩ := hs2.at_ (k := 0) (by omega)
      rw [Nat.add_zero] at hc2
      have hyl := lt32.1 (hM.1.get hy)
      have hyM : M = y := by
        have h9 := hM.2.2
        obtain ⟨z, hz⟩ : ∃ z, ys = [z] := List.length_eq_one_iff.1 (by rw [← hs2.len, hp])
        subst hz
        simp at hy
        subst hy
        simp [V] at h9
        omega
      have HYL := Lib.hid hyl
      have HYM := Lib.hid hyM
      clear hcmp hcv hyl hyM hy hmpos
      subst hp
      go_enter Tryd.func39, Tryd.ntmps39
      go_wp2_with fail
      refine HCMP.out.mono ?_
      rintro e w1 ⟨rfl, hc⟩
      replace hs1 := hs1.later hc (Nat.le_refl _)
      replace hc2 := (hc.cell (p := ⟨b2, o2, none⟩) hb2).trans hc2
      have hB := (Below.refl w.heap.size w).trans hc
      clear hc
      go_wp2_with fail
      have hsm := small_any w1 _ (Nat.le_refl _) _ _ _ _ hs1 hN.1 (by omega) y (by have := HYM.out; omega) HYL.out
      rw [hN.2.2] at hsm
      obtain ⟨R, hR⟩ : ∃ R, N % y = R := ⟨_, rfl⟩
      rw [hR] at hsm
      refine hsm.mono ?_
      rintro e w2 ⟨A3, n3, c3, q, rfl, hq, hsq, hc⟩
      replace hB := hB.trans (hc.mono hB.size)
      clear hc
      have hrow := heap_new_row w2 R
      have hslr := hrow.sl (by simp)
      have hbw := (Below.refl w2.heap.size w2).alloc (Nat.le_refl _) (.cells #[.int .u64 ((R : Nat) : Int)] 38)
      have hRl : R < b32 := by rw [← hR, lt32]; have h9 := Nat.mod_lt N (show 0 < y by have := HYM.out; omega); have := HYL.out; omega
      have hnr : Nm b32 (trimmed [R]) (N % M) := by
        have h := trimmed_nm (B := b32) (xs := [R]) (fun x hx => by simp at hx; subst hx; exact hRl)
        rw [HYM.out, hR]
        simpa [V] using h
      have HNR := Lib.hid hnr
      have hsq' := hsq.later hbw (Nat.le_refl _)
      have hB' := hB.trans (hbw.mono hB.size)
      have hq' : Nm b32 q (N / M) := by rw [HYM.out]; exact hq
      have HQ' := Lib.hid hq'
      clear hR hnr hrow hbw hsq hq hq'
      go_wp2_with (go_at_call 32; refine (rtrim_sl _ _ _ _ _ [R] hslr).mono ?_; rintro e w3 ⟨m5, rfl, hst5, hm5, rfl⟩)
      go_ret2
      exact ⟨_, _, _, _, _, _, _, _, rfl, hsq', HQ'.out, hst5, HNR.out, hB'⟩
    · exact rquo_long w _ _ _ _ hs1 _ _ _ _ hs2 N M hN hM hn hm hge p hp h1
end Go.Proofs.YtdcijkjlgkfkdaaDoor

/- baileyref2: Mod, Mul, Gcd. -/
namespace Go.Proofs.YtdcijkjlgkfkdaaDoor
open Go.RowKit

set_option maxRecDepth 100000 in
set_option maxHeartbeats 1600000 in
theorem rmod2_any (w : World) (A1 : Option Addr) (n c1 : Nat) (xs : List Nat) (hs1 : Sl w w.heap.size A1 n c1 xs) (A2 : Option Addr) (m c2 : Nat) (ys : List Nat) (hs2 : Sl w w.heap.size A2 m c2 ys) (N M : Nat) (hN : Nm b32 xs N) (hM : Nm b32 ys M)
    (hn : n ≤ 100000000) (hm : m ≤ 100000000) (hM0 : 0 < M) :
    Calls Tryd.prog 15 #[.slice A1 n c1, .slice A2 m c2] w fun e w' => RetN b32 w (N % M) e w' := by
  have hq := rquo_any w _ _ _ _ hs1 _ _ _ _ hs2 N M hN hM hn hm hM0
  have HQ := Lib.hid hq
  clear hq hN hM
  go_enter Tryd.func15, Tryd.ntmps15
  go_wp2_with fail
  refine HQ.out.mono ?_
  rintro e w1 ⟨A3, n3, c3, q, A4, n4, c4, r, rfl, _, _, hsr, hr, hc⟩
  have HR := Lib.hid hr
  clear hr
  go_wp2
  go_ret
  exact ⟨r, HR.out, _, _, _, rfl, hsr, hc⟩

set_option maxRecDepth 100000 in
set_option maxHeartbeats 1600000 in
theorem rmul2_any (w : World) (A1 : Option Addr) (n c1 : Nat) (xs : List Nat) (hs1 : Sl w w.heap.size A1 n c1 xs) (A2 : Option Addr) (m c2 : Nat) (ys : List Nat) (hs2 : Sl w w.heap.size A2 m c2 ys) (A3 : Option Addr) (k c3 : Nat) (zs : List Nat) (hs3 : Sl w w.heap.size A3 k c3 zs) (N P M : Nat) (hN : Nm b32 xs N) (hP : Nm b32 ys P) (hM : Nm b32 zs M)
    (hn : n ≤ 10000000) (hm : m ≤ 10000000) (hk : k ≤ 10000000) (hM0 : 0 < M) :
    Calls Tryd.prog 16 #[.slice A1 n c1, .slice A2 m c2, .slice A3 k c3] w fun e w' => RetN b32 w (N * P % M) e w' := by
  have hmu := rmul_any w _ (Nat.le_refl _) _ _ _ _ hs1 _ _ _ _ hs2 hN.1 hP.1 (by omega) (by omega)
  rw [hN.2.2, hP.2.2] at hmu
  have hl : N * P < b32 ^ (n + m) := by
    rw [Nat.pow_add]
    refine Nat.mul_lt_mul'' ?_ ?_
    · rw [← hN.2.2, hs1.len]; exact V_lt _ hN.1
    · rw [← hP.2.2, hs2.len]; exact V_lt _ hP.1
  have HMU := Lib.hid hmu
  have HL := Lib.hid hl
  have HM := Lib.hid hM
  clear hmu hN hP hl hM
  go_enter Tryd.func16, Tryd.ntmps16
  go_wp2_with fail
  refine HMU.out.mono ?_
  rintro e w1 ⟨ps, hps, Ap, np, cp, rfl, hsp, hc⟩
  have hnp : np ≤ n + m := by rw [hsp.len]; exact hps.length_le (by decide) HL.out
  have hmo := rmod2_any w1 _ _ _ _ hsp _ _ _ _ (hs3.later hc (Nat.le_refl _)) (N * P) M hps HM.out (by omega) (by omega) hM0
  have HMO := Lib.hid hmo
  clear hmo hps
  go_wp2_with fail
  refine HMO.out.mono ?_
  rintro e w2 ⟨rs, hrs, Ar, nr, cr, rfl, hsr, hc2⟩
  have HRS := Lib.hid hrs
  clear hrs
  go_wp2
  go_ret
  exact ⟨rs, HRS.out, _, _, _, rfl, hsr, hc.trans (hc2.mono hc.size)⟩

/-- a slice of 32-bit digits that reads as the number p, below b32 ^ K -/
def Num32 (w : World) (K p : Nat) (v : Value) : Prop := ∃ xs A n c, v = .slice A n c ∧ Sl w w.heap.size A n c xs ∧ Nm b32 xs p ∧ p < b32 ^ K
theorem Num32.len {w : World} {K p : Nat} {v : Value} (h : Num32 w K p v) : ∃ xs A n c, v = .slice A n c ∧ Sl w w.heap.size A n c xs ∧ Nm b32 xs p ∧ n ≤ K := by
  obtain ⟨xs, A, n, c, e, hs, hn, hl⟩ := h
  exact ⟨xs, A, n, c, e, hs, hn, by rw [hs.len]; exact hn.length_le (by decide) hl⟩
/-- how long the slice is: serves as a measure -/
noncomputable def lenAt : Value → Nat | .slice _ n _ => n | _ => 0
open Classical in
/-- the number that a slice of 32-bit digits reads as -/
noncomputable def num32At (w : World) (v : Value) : Nat :=
  if h : ∃ xs A n c, v = .slice A n c ∧ ∃ B, Sl w B A n c xs then V b32 (Classical.choose h) else 0
theorem num32At_sl {w : World} {B n c : Nat} {A : Option Addr} {xs : List Nat} (h : Sl w B A n c xs) : num32At w (.slice A n c) = V b32 xs := by
  have hex : ∃ xs A' n' c', Value.slice A n c = .slice A' n' c' ∧ ∃ B, Sl w B A' n' c' xs := ⟨xs, A, n, c, rfl, B, h⟩
  unfold num32At
  rw [dif_pos hex]
  obtain ⟨A', n', c', e, B', hs⟩ := Classical.choose_spec hex
  injection e with e1 e2 e3
  subst e1
  obtain rfl : n = n' := by first | exact e2 | omega
  obtain rfl : c = c' := by first | exact e3 | omega
  rw [sl_unique hs h]

set_option maxRecDepth 100000 in
set_option maxHeartbeats 1600000 in
theorem rgcd2_any (w : World) (A1 : Option Addr) (n1 c1 : Nat) (xs : List Nat) (hs1 : Sl w w.heap.size A1 n1 c1 xs) (A2 : Option Addr) (n2 c2 : Nat) (ys : List Nat) (hs2 : Sl w w.heap.size A2 n2 c2 ys) (N M : Nat) (hN : Nm b32 xs N) (hM : Nm b32 ys M)
    (K : Nat) (hK : K ≤ 100000000) (hn1 : n1 ≤ K) (hn2 : n2 ≤ K) :
    Calls Tryd.prog 19 #[.slice A1 n1 c1, .slice A2 n2 c2] w fun e w' => RetN b32 w (Nat.gcd N M) e w' := by
  have hNl : N < b32 ^ K := by
    rw [← hN.2.2]; exact Nat.lt_of_lt_of_le (V_lt _ hN.1) (Nat.pow_le_pow_right (by decide) (by rw [← hs1.len]; exact hn1))
  have hMl : M < b32 ^ K := by
    rw [← hM.2.2]; exact Nat.lt_of_lt_of_le (V_lt _ hM.1) (Nat.pow_le_pow_right (by decide) (by rw [← hs2.len]; exact hn2))
  have HA := Lib.hid (show Num32 w K N (.slice A1 n1 c1) from ⟨_, _, _, _, rfl, hs1, hN, hNl⟩)
  have HB := Lib.hid (show Num32 w K M (.slice A2 n2 c2) from ⟨_, _, _, _, rfl, hs2, hM, hMl⟩)
  clear hN hM hNl hMl hs1 hs2
  go_enter Tryd.func19, Tryd.ntmps19
  go_wp2
  go_loopw [0, 1] (fun x y wr => ∃ p q : Nat, Num32 wr K p x ∧ Num32 wr K q y ∧ Nat.gcd p q = Nat.gcd N M ∧ Below w.heap.size w wr) (fun _ y wr => num32At wr y)
  case atStart => exact ⟨N, M, HA.out, HB.out, rfl, Below.refl _ _⟩
  case round =>
    obtain ⟨p, q, hx, hy, hg, hB⟩ := hrel
    have HYY := Lib.hid hy
    obtain ⟨px, Ap, np, cp, rfl, hsp, hpn, hpl⟩ := hx.len
    obtain ⟨qx, Aq, nq, cq, rfl, hsq, hqn, hql⟩ := hy.len
    have HG := Lib.hid hg
    have HPN := Lib.hid hpn
    have HQN := Lib.hid hqn
    clear hg hpn hqn hx hy
    by_cases h0 : nq = 0
    · subst h0
      have hq0 : q = 0 := by
        have h1 : qx = [] := List.eq_nil_of_length_eq_zero hsq.len.symm
        have h2 := HQN.out.2.2
        rw [h1] at h2
        simpa [V] using h2.symm
      have HQ0 := Lib.hid hq0
      clear hq0
      go_wp2
      go_ret
      refine ⟨px, ?_, _, _, _, rfl, hsp, hB⟩
      have h := HG.out
      rw [HQ0.out, Nat.gcd_zero_right] at h
      rw [← h]
      exact HPN.out
    · have hq0 : 0 < q := by
        rcases Nat.eq_zero_or_pos q with h | h
        · exfalso
          have h2 : qx = [] := nm_unique (by decide) (h ▸ HQN.out) ⟨fun x hx => (by cases hx), fun x hx => (by cases hx), rfl⟩
          apply h0
          rw [hsq.len, h2]; rfl
        · exact h
      have hnq : (0 : Int) < (nq : Int) := by omega
      have hmo := rmod2_any wr _ _ _ _ hsp _ _ _ _ hsq p q HPN.out HQN.out (by omega) (by omega) hq0
      have HMO := Lib.hid hmo
      have hqK : q < b32 ^ K := by obtain ⟨_, _, _, _, _, _, _, h⟩ := HYY.out; exact h
      have HQK := Lib.hid hqK
      have HMQ := Lib.hid (Nat.mod_lt p hq0)
      clear hmo hq0 hqK h0
      go_wp2_with fail
      refine HMO.out.mono ?_
      rintro e w4 ⟨lr, hnr, Ar, nr, cr, rfl, hsr, hc⟩
      have hsq4 := hsq.later hc (Nat.le_refl _)
      have hB4 := hB.trans (hc.mono hB.size)
      have HNR := Lib.hid hnr
      clear hnr hc
      go_wp2
      go_roundw
      case rel =>
        refine ⟨q, p % q, ⟨_, _, _, _, rfl, hsq4, HQN.out, HQK.out⟩, ⟨_, _, _, _, rfl, hsr, HNR.out, Nat.lt_trans HMQ.out HQK.out⟩, ?_, hB4⟩
        rw [← HG.out, Nat.gcd_comm p q, Nat.gcd_rec q p, Nat.gcd_comm]
      case measure =>
        rw [num32At_sl hsr, num32At_sl hsq, HNR.out.2.2, HQN.out.2.2]
        exact HMQ.out
end Go.Proofs.YtdcijkjlgkfkdaaDoor

/- baileyref1.Of; baileyref2.Exp. -/
namespace Go.Proofs.YtdcijkjlgkfkdaaDoor
open Go.RowKit

set_option maxRecDepth 100000 in
theorem rof_any (x : Nat) (hx : x < b64) (w : World) :
    Calls Tryd.prog 22 #[.int .u64 (x : Int)] w fun e w' => RetN b32 w x e w' := by
  have hsl := (heap_new_row w x).sl (by simp)
  have hb : Below w.heap.size w (w.alloc (.cells #[.int .u64 (x : Int)] 38)) := (Below.refl _ w).alloc (Nat.le_refl _) _
  have hf := from_any _ _ (Nat.le_refl _) _ _ _ _ hsl (fun y hy => by simp at hy; omega) (by simp)
  have hv : V b64 [x] = x := by simp [V]
  rw [hv] at hf
  have HF := Lib.hid hf
  clear hf hv hsl
  go_enter Tryd.func22, Tryd.ntmps22
  go_wp2_with fail
  refine HF.out.mono ?_
  rintro e w1 ⟨zs, hz, A, n, c, rfl, hs, hc⟩
  have HZ := Lib.hid hz
  clear hz
  go_wp2
  go_ret
  exact ⟨zs, HZ.out, _, _, _, rfl, hs, hb.trans (hc.mono hb.size)⟩

set_option maxRecDepth 100000 in
set_option maxHeartbeats 4000000 in
theorem rexp2_any (w : World) (A1 : Option Addr) (n1 c1 : Nat) (xs : List Nat) (hs1 : Sl w w.heap.size A1 n1 c1 xs) (A2 : Option Addr) (n2 c2 : Nat) (ys : List Nat) (hs2 : Sl w w.heap.size A2 n2 c2 ys) (A3 : Option Addr) (n3 c3 : Nat) (zs : List Nat) (hs3 : Sl w w.heap.size A3 n3 c3 zs)
    (N E M : Nat) (hN : Nm b32 xs N) (hE : Nm b32 ys E) (hM : Nm b32 zs M) (hn1 : n1 ≤ 10000000) (hn2 : n2 ≤ 10000000) (hn3 : n3 ≤ 10000000) (hM0 : 0 < M) (k0 : Nat) (hk0 : IsBits E k0) (hk1 : k0 ≤ 1000000000) :
    Calls Tryd.prog 17 #[.slice A1 n1 c1, .slice A2 n2 c2, .slice A3 n3 c3] w fun e w' => RetN b32 w (N ^ E % M) e w' := by
  have ho : Calls Tryd.prog 22 #[.int .u64 1] w (fun e w' => RetN b32 w 1 e w') := rof_any 1 (by decide) w
  have hMl : M < b32 ^ n3 := by rw [← hM.2.2, hs3.len]; exact V_lt _ hM.1
  have HO := Lib.hid ho
  have HN := Lib.hid hN
  have HE := Lib.hid hE
  have HM := Lib.hid hM
  have HM0 := Lib.hid hM0
  have HK0 := Lib.hid hk0
  have HLT := Lib.hid (show ∀ y : Nat, y % M < b32 ^ n3 from fun y => Nat.lt_trans (Nat.mod_lt _ hM0) hMl)
  clear ho hN hE hM hM0 hk0 hMl
  go_enter Tryd.func17, Tryd.ntmps17
  go_wp2_with fail
  refine HO.out.mono ?_
  rintro e w1 ⟨os, hos, Ao, no, co, rfl, hso, hB⟩
  have hs1 := hs1.later hB (Nat.le_refl _)
  have hs2 := hs2.later hB (Nat.le_refl _)
  have hs3 := hs3.later hB (Nat.le_refl _)
  have hno : no ≤ 1 := by rw [hso.len]; exact hos.length_le (by decide) (k := 1) (by decide)
  have hmo := rmod2_any w1 _ _ _ _ hso _ _ _ _ hs3 1 M hos HM.out (by omega) (by omega) HM0.out
  have HMO := Lib.hid hmo
  clear hmo hos
  go_wp2_with fail
  refine HMO.out.mono ?_
  rintro e w2 ⟨ps, hps, Ap, np, cp, rfl, hsp, hc⟩
  replace hs1 := hs1.later hc (Nat.le_refl _)
  replace hs2 := hs2.later hc (Nat.le_refl _)
  replace hs3 := hs3.later hc (Nat.le_refl _)
  replace hB := hB.trans (hc.mono hB.size)
  clear hc
  have hmo := rmod2_any w2 _ _ _ _ hs1 _ _ _ _ hs3 N M HN.out HM.out (by omega) (by omega) HM0.out
  have HMO2 := Lib.hid hmo
  have HPS := Lib.hid hps
  clear hmo hps
  go_wp2_with fail
  refine HMO2.out.mono ?_
  rintro e w3 ⟨bs, hbs, Ab, nb, cb, rfl, hsb, hc⟩
  replace hs2 := hs2.later hc (Nat.le_refl _)
  replace hs3 := hs3.later hc (Nat.le_refl _)
  replace hsp := hsp.later hc (Nat.le_refl _)
  replace hB := hB.trans (hc.mono hB.size)
  clear hc hs1
  have hnb : nb ≤ n3 := by rw [hsb.len]; exact hbs.length_le (by decide) (HLT.out _)
  have HBS := Lib.hid hbs
  have hbi := rbits_any w3 _ _ _ _ _ hs2 E HE.out (by omega)
  have HBI := Lib.hid hbi
  clear hbs hbi
  go_wp2_with fail
  refine HBI.out.mono ?_
  rintro e w4 ⟨kk, rfl, hkk, rfl⟩
  obtain rfl := HK0.out.unique hkk
  clear hkk
  have hst : Num32 w3 n3 (N ^ (E / 2 ^ k0) % M) (.slice Ap np cp) := ⟨_, _, _, _, rfl, hsp, (exp_top HK0.out.1 : 1 % M = N ^ (E / 2 ^ k0) % M) ▸ HPS.out, HLT.out _⟩
  have HST := Lib.hid hst
  clear hst hsp
  go_wp2
  go_loopw [7, 8] (fun x i wr => ∃ k : Nat, k ≤ k0 ∧ i = .int .i64 ((k : Int) - 1) ∧ Num32 wr n3 (N ^ (E / 2 ^ k) % M) x ∧ Below w3.heap.size w3 wr) (fun _ i _ => (intOf i + 1).toNat)
  case atStart => exact ⟨k0, Nat.le_refl _, rfl, HST.out, Below.refl _ _⟩
  case round =>
    obtain ⟨k, hk, rfl, hx, hBr⟩ := hrel
    obtain ⟨px, Aq, nq, cq, rfl, hsq, hqn, hql⟩ := hx.len
    have HQN := Lib.hid hqn
    clear hx hqn
    by_cases h0 : k = 0
    · subst h0
      go_wp2
      go_ret
      refine ⟨px, ?_, _, _, _, rfl, hsq, hB.trans (hBr.mono hB.size)⟩
      have h := HQN.out
      rw [Nat.pow_zero, Nat.div_one] at h
      exact h
    · obtain ⟨t, rfl⟩ : ∃ t, k = t + 1 := ⟨k - 1, by omega⟩
      have ht0 : (0 : Int) ≤ ((t + 1 : Nat) : Int) - 1 := by omega
      have ht1 : ((t + 1 : Nat) : Int) - 1 = (t : Int) := by omega
      rw [ht1]
      have ht2 : (0 : Int) ≤ (t : Int) := by omega
      have hmu := rmul2_any wr _ _ _ _ hsq _ _ _ _ hsq _ _ _ _ (hs3.later hBr (Nat.le_refl _)) _ _ M HQN.out HQN.out HM.out (by omega) (by omega) (by omega) HM0.out
      have HMU := Lib.hid hmu
      clear hmu ht0 ht1
      go_wp2_with fail
      refine HMU.out.mono ?_
      rintro e w5 ⟨qs, hqs, Ar, nr, cr, rfl, hsr, hc⟩
      replace hBr := hBr.trans (hc.mono hBr.size)
      clear hc
      have HQS := Lib.hid hqs
      have hnr : nr ≤ n3 := by rw [hsr.len]; exact hqs.length_le (by decide) (HLT.out _)
      have hbt := rbit_any w5 _ _ _ _ _ (hs2.later hBr (Nat.le_refl _)) HE.out.1 (t : Int) (by omega)
      rw [if_neg (by omega), HE.out.2.2, Int.toNat_natCast] at hbt
      obtain ⟨bv, hbv⟩ : ∃ bv, E / 2 ^ t % 2 = bv := ⟨_, rfl⟩
      rw [hbv] at hbt
      have hb2 : bv = 0 ∨ bv = 1 := by have := Nat.mod_lt (E / 2 ^ t) (show 0 < 2 by decide); omega
      have HBT := Lib.hid hbt
      have HBV := Lib.hid hbv
      clear hqs hbt hbv
      go_wp2_with fail
      refine HBT.out.mono ?_
      rintro e w6 ⟨rfl, rfl⟩
      rcases hb2 with h | h
      · subst h
        go_wp2
        go_roundw
        case rel => exact ⟨t, by omega, by go_num, ⟨_, _, _, _, rfl, hsr, exp_zero rfl HBV.out ▸ HQS.out, HLT.out _⟩, hBr⟩
        case measure => simp [intOf]
      · subst h
        have hm2 := rmul2_any w5 _ _ _ _ hsr _ _ _ _ (hsb.later hBr (Nat.le_refl _)) _ _ _ _ (hs3.later hBr (Nat.le_refl _)) _ _ M HQS.out HBS.out HM.out (by omega) (by omega) (by omega) HM0.out
        have HM2 := Lib.hid hm2
        clear hm2
        go_wp2_with fail
        refine HM2.out.mono ?_
        rintro e w6 ⟨rs, hrs, As, ns, cs, rfl, hss, hc⟩
        replace hBr := hBr.trans (hc.mono hBr.size)
        have HRS := Lib.hid hrs
        clear hc hrs
        go_wp2
        go_roundw
        case rel => exact ⟨t, by omega, by go_num, ⟨_, _, _, _, rfl, hss, exp_one rfl HBV.out ▸ HRS.out, HLT.out _⟩, hBr⟩
        case measure => simp [intOf]
end Go.Proofs.YtdcijkjlgkfkdaaDoor

/- ModPowers, walked. -/
namespace Go.Proofs.YtdcijkjlgkfkdaaDoor
open Go.RowKit Go.Shelf

theorem not_lg_of {xs : List Nat} {N : Nat} (h : V b64 xs = N) (hd : Dg b64 xs) (hl : xs.length ≤ 60) : ¬ Lg 4096 N := fun h2 => by
  have h3 : N < b64 ^ 60 := by rw [← h]; exact Nat.lt_of_lt_of_le (V_lt _ hd) (Nat.pow_le_pow_right b64_pos hl)
  exact absurd (Nat.lt_of_lt_of_le h3 (pow_le_b b64 60 4096 64 rfl (by decide))) (Nat.not_lt.2 h2)
theorem nm_zero {xs : List Nat} (h : Nm b32 xs 0) : xs = [] := nm_unique (by decide) h ⟨fun y hy => by simp at hy, fun y hy => by simp at hy, rfl⟩
theorem lt832 {xs : List Nat} {M x : Nat} (h : V b64 xs = M) (hd : Dg b64 xs) (hl : xs.length ≤ 4) (hx : x < M) : x < b32 ^ 8 := by
  have h3 : M < b64 ^ 4 := by rw [← h]; exact Nat.lt_of_lt_of_le (V_lt _ hd) (Nat.pow_le_pow_right b64_pos hl)
  have h4 : b64 ^ 4 = b32 ^ 8 := by decide
  omega

set_option maxRecDepth 100000 in
set_option maxHeartbeats 4000000 in
theorem powers_walk (w : World) (hG : FewG w) (A1 : Option Addr) (n1 c1 : Nat) (xs : List Nat) (hs1 : Sl w w.heap.size A1 n1 c1 xs) (hd1 : Dg b64 xs) (A2 : Option Addr) (n2 c2 : Nat) (ys : List Nat) (hs2 : Sl w w.heap.size A2 n2 c2 ys) (hd2 : Dg b64 ys) (A3 : Option Addr) (n3 c3 : Nat) (zs : List Nat) (hs3 : Sl w w.heap.size A3 n3 c3 zs) (hd3 : Dg b64 zs) :
    Calls Tryd.prog 3 #[.slice A1 n1 c1, .slice A2 n2 c2, .slice A3 n3 c3] w fun e w' => RetV w (.bool true) e w' := by
  have hB : Below w.heap.size w w := Below.refl _ _
  have HG := Lib.hid hG
  clear hG
  have hda1 := hd1.take 5
  obtain ⟨q1, hq1⟩ : ∃ q, xs.take 5 = q := ⟨_, rfl⟩
  rw [hq1] at hda1
  have hl1 : q1.length ≤ 5 := by rw [← hq1, List.length_take]; exact Nat.min_le_left _ _
  obtain ⟨N, hN⟩ : ∃ N, V b64 q1 = N := ⟨_, rfl⟩
  have HQ1 := Lib.hid hq1
  have HD1 := Lib.hid hda1
  have HL1 := Lib.hid hl1
  have HN := Lib.hid hN
  clear hq1 hda1 hl1 hN hd1
  have hda2 := hd2.take 2
  obtain ⟨q2, hq2⟩ : ∃ q, ys.take 2 = q := ⟨_, rfl⟩
  rw [hq2] at hda2
  have hl2 : q2.length ≤ 2 := by rw [← hq2, List.length_take]; exact Nat.min_le_left _ _
  obtain ⟨E, hE⟩ : ∃ N, V b64 q2 = N := ⟨_, rfl⟩
  have HQ2 := Lib.hid hq2
  have HD2 := Lib.hid hda2
  have HL2 := Lib.hid hl2
  have HE := Lib.hid hE
  clear hq2 hda2 hl2 hE hd2
  have hda3 := hd3.take 4
  obtain ⟨q3, hq3⟩ : ∃ q, zs.take 4 = q := ⟨_, rfl⟩
  rw [hq3] at hda3
  have hl3 : q3.length ≤ 4 := by rw [← hq3, List.length_take]; exact Nat.min_le_left _ _
  obtain ⟨M, hM⟩ : ∃ N, V b64 q3 = N := ⟨_, rfl⟩
  have HQ3 := Lib.hid hq3
  have HD3 := Lib.hid hda3
  have HL3 := Lib.hid hl3
  have HM := Lib.hid hM
  clear hq3 hda3 hl3 hM hd3
  go_enter Tryd.func3, Tryd.ntmps3
  go_wp2_with fail
  refine (begun2_any w HG.out).mono ?_
  rintro e v1 ⟨rfl, hc⟩
  replace hs1 := hs1.later hc (Nat.le_refl _)
  replace hs2 := hs2.later hc (Nat.le_refl _)
  replace hs3 := hs3.later hc (Nat.le_refl _)
  replace hB := hB.trans (hc.mono hB.size)
  clear hc
  have hfw := few2_any v1 _ _ _ _ _ hs1 5 (by decide)
  rw [HQ1.out] at hfw
  have HFW := Lib.hid hfw
  clear hfw
  go_wp2_with fail
  refine (HFW.out).mono ?_
  rintro e v2 ⟨Ba1, m1, d1, rfl, hs1, hc⟩
  replace hs2 := hs2.later hc (Nat.le_refl _)
  replace hs3 := hs3.later hc (Nat.le_refl _)
  replace hB := hB.trans (hc.mono hB.size)
  clear hc
  have hm1 : m1 ≤ 5 := by rw [hs1.len]; exact HL1.out
  clear HFW
  have hfw := few2_any v2 _ _ _ _ _ hs2 2 (by decide)
  rw [HQ2.out] at hfw
  have HFW := Lib.hid hfw
  clear hfw
  go_wp2_with fail
  refine (HFW.out).mono ?_
  rintro e v3 ⟨Ba2, m2, d2, rfl, hs2, hc⟩
  replace hs3 := hs3.later hc (Nat.le_refl _)
  replace hs1 := hs1.later hc (Nat.le_refl _)
  replace hB := hB.trans (hc.mono hB.size)
  clear hc
  have hm2 : m2 ≤ 2 := by rw [hs2.len]; exact HL2.out
  clear HFW
  have hfw := few2_any v3 _ _ _ _ _ hs3 4 (by decide)
  rw [HQ3.out] at hfw
  have HFW := Lib.hid hfw
  clear hfw
  go_wp2_with fail
  refine (HFW.out).mono ?_
  rintro e v4 ⟨Ba3, m3, d3, rfl, hs3, hc⟩
  replace hs1 := hs1.later hc (Nat.le_refl _)
  replace hs2 := hs2.later hc (Nat.le_refl _)
  replace hB := hB.trans (hc.mono hB.size)
  clear hc
  have hm3 : m3 ≤ 4 := by rw [hs3.len]; exact HL3.out
  clear HFW
  have hfr := from_any v4 _ (Nat.le_refl _) _ _ _ _ hs1 HD1.out (by omega)
  rw [HN.out] at hfr
  have HFR := Lib.hid hfr
  clear hfr
  go_wp2_with fail
  refine (HFR.out).mono ?_
  rintro e v5 ⟨z1, hz1, C1, k1, e1, rfl, hr1, hc⟩
  replace hs1 := hs1.later hc (Nat.le_refl _)
  replace hs2 := hs2.later hc (Nat.le_refl _)
  replace hs3 := hs3.later hc (Nat.le_refl _)
  replace hB := hB.trans (hc.mono hB.size)
  clear hc
  have HZ1 := Lib.hid hz1
  have hk1 : k1 ≤ 10 := by
    rw [hr1.len]
    exact hz1.length_le (by decide) (Nat.lt_of_lt_of_le (by rw [← HN.out]; exact V_lt _ HD1.out) (by rw [← hs1.len, show b64 = b32 ^ 2 from rfl, ← Nat.pow_mul]; exact Nat.pow_le_pow_right (by decide) (by omega)))
  clear HFR hz1
  have hfr := from_any v5 _ (Nat.le_refl _) _ _ _ _ hs2 HD2.out (by omega)
  rw [HE.out] at hfr
  have HFR := Lib.hid hfr
  clear hfr
  go_wp2_with fail
  refine (HFR.out).mono ?_
  rintro e v6 ⟨z2, hz2, C2, k2, e2, rfl, hr2, hc⟩
  replace hs1 := hs1.later hc (Nat.le_refl _)
  replace hs2 := hs2.later hc (Nat.le_refl _)
  replace hs3 := hs3.later hc (Nat.le_refl _)
  replace hr1 := hr1.later hc (Nat.le_refl _)
  replace hB := hB.trans (hc.mono hB.size)
  clear hc
  have HZ2 := Lib.hid hz2
  have hk2 : k2 ≤ 4 := by
    rw [hr2.len]
    exact hz2.length_le (by decide) (Nat.lt_of_lt_of_le (by rw [← HE.out]; exact V_lt _ HD2.out) (by rw [← hs2.len, show b64 = b32 ^ 2 from rfl, ← Nat.pow_mul]; exact Nat.pow_le_pow_right (by decide) (by omega)))
  clear HFR hz2
  have hfr := from_any v6 _ (Nat.le_refl _) _ _ _ _ hs3 HD3.out (by omega)
  rw [HM.out] at hfr
  have HFR := Lib.hid hfr
  clear hfr
  go_wp2_with fail
  refine (HFR.out).mono ?_
  rintro e v7 ⟨z3, hz3, C3, k3, e3, rfl, hr3, hc⟩
  replace hs1 := hs1.later hc (Nat.le_refl _)
  replace hs2 := hs2.later hc (Nat.le_refl _)
  replace hs3 := hs3.later hc (Nat.le_refl _)
  replace hr1 := hr1.later hc (Nat.le_refl _)
  replace hr2 := hr2.later hc (Nat.le_refl _)
  replace hB := hB.trans (hc.mono hB.size)
  clear hc
  have HZ3 := Lib.hid hz3
  have hk3 : k3 ≤ 8 := by
    rw [hr3.len]
    exact hz3.length_le (by decide) (Nat.lt_of_lt_of_le (by rw [← HM.out]; exact V_lt _ HD3.out) (by rw [← hs3.len, show b64 = b32 ^ 2 from rfl, ← Nat.pow_mul]; exact Nat.pow_le_pow_right (by decide) (by omega)))
  clear HFR hz3
  have hmo := mod_any v7 _ _ _ _ hs1 _ _ _ _ hs3 HD1.out HD3.out (by omega) (by omega) N M HN.out HM.out
  have HMO := Lib.hid hmo
  clear hmo
  go_wp2_with fail
  refine (HMO.out).mono ?_
  rintro e v8 ⟨b1, F1, f1, g1, p1, rfl, hok1, hno1, hyes1, ht1, hc⟩
  replace hs1 := hs1.later hc (Nat.le_refl _)
  replace hs2 := hs2.later hc (Nat.le_refl _)
  replace hs3 := hs3.later hc (Nat.le_refl _)
  replace hr1 := hr1.later hc (Nat.le_refl _)
  replace hr2 := hr2.later hc (Nat.le_refl _)
  replace hr3 := hr3.later hc (Nat.le_refl _)
  replace hB := hB.trans (hc.mono hB.size)
  clear hc
  have HO1 := Lib.hid hok1
  have HN1 := Lib.hid hno1
  have HY1 := Lib.hid hyes1
  clear hok1 hno1 hyes1 HMO
  have hmu := mmul_any v8 _ _ _ _ hs1 _ _ _ _ hs2 _ _ _ _ hs3 HD1.out HD2.out HD3.out (by omega) (by omega) (by omega) N E M HN.out HE.out HM.out
  have HMU := Lib.hid hmu
  clear hmu
  go_wp2_with fail
  refine (HMU.out).mono ?_
  rintro e v9 ⟨b2, F2, f2, g2, p2, rfl, hok2, hno2, hyes2, ht2, hc⟩
  replace hs1 := hs1.later hc (Nat.le_refl _)
  replace hs2 := hs2.later hc (Nat.le_refl _)
  replace hs3 := hs3.later hc (Nat.le_refl _)
  replace hr1 := hr1.later hc (Nat.le_refl _)
  replace hr2 := hr2.later hc (Nat.le_refl _)
  replace hr3 := hr3.later hc (Nat.le_refl _)
  replace ht1 := ht1.later hc (Nat.le_refl _)
  replace hB := hB.trans (hc.mono hB.size)
  clear hc
  have HO2 := Lib.hid hok2
  have HN2 := Lib.hid hno2
  have HY2 := Lib.hid hyes2
  clear hok2 hno2 hyes2 HMU
  have hex := exp_any v9 _ _ _ _ hs1 _ _ _ _ hs2 _ _ _ _ hs3 HD1.out HD2.out HD3.out (by omega) (by omega) (by omega) N E M HN.out HE.out HM.out
  have HEX := Lib.hid hex
  clear hex
  go_wp2_with fail
  refine (HEX.out).mono ?_
  rintro e v10 ⟨b3, F3, f3, g3, p3, rfl, hok3, hno3, hyes3, ht3, hc⟩
  replace hs1 := hs1.later hc (Nat.le_refl _)
  replace hs2 := hs2.later hc (Nat.le_refl _)
  replace hs3 := hs3.later hc (Nat.le_refl _)
  replace hr1 := hr1.later hc (Nat.le_refl _)
  replace hr2 := hr2.later hc (Nat.le_refl _)
  replace hr3 := hr3.later hc (Nat.le_refl _)
  replace ht1 := ht1.later hc (Nat.le_refl _)
  replace ht2 := ht2.later hc (Nat.le_refl _)
  replace hB := hB.trans (hc.mono hB.size)
  clear hc
  have HO3 := Lib.hid hok3
  have HN3 := Lib.hid hno3
  have HY3 := Lib.hid hyes3
  clear hok3 hno3 hyes3 HEX
  have lN : ¬ Lg 4096 N := not_lg_of HN.out HD1.out (by rw [← hs1.len]; omega)
  have lE : ¬ Lg 4096 E := not_lg_of HE.out HD2.out (by rw [← hs2.len]; omega)
  have lM : ¬ Lg 4096 M := not_lg_of HM.out HD3.out (by rw [← hs3.len]; omega)
  by_cases hM0 : M = 0
  · obtain rfl : z3 = [] := nm_zero (hM0 ▸ HZ3.out)
    have hk30 : k3 = 0 := hr3.len
    subst hk30
    obtain rfl : b1 = false := by cases b1; rfl; exact absurd hM0 (HO1.out.1 rfl).2.2
    obtain rfl : b2 = false := by cases b2; rfl; exact absurd hM0 (HO2.out.1 rfl).2.2.2
    obtain rfl : b3 = false := by cases b3; rfl; exact absurd hM0 (HO3.out.1 rfl).2.2.2
    obtain ⟨rfl, rfl, rfl⟩ := HN1.out rfl
    obtain ⟨rfl, rfl, rfl⟩ := HN2.out rfl
    obtain ⟨rfl, rfl, rfl⟩ := HN3.out rfl
    clear lN lE lM hM0
    go_wp2
    go_ret
    exact ⟨rfl, hB⟩
  · have hk30 : ¬ (k3 : Int) = 0 := by
      intro h
      have h0 : k3 = 0 := by omega
      have : z3 = [] := List.eq_nil_of_length_eq_zero (by rw [← hr3.len]; exact h0)
      subst this
      exact hM0 (HZ3.out.2.2.symm.trans rfl)
    obtain rfl : b1 = true := HO1.out.2 ⟨lN, lM, hM0⟩
    obtain rfl : b2 = true := HO2.out.2 ⟨lN, lE, lM, hM0⟩
    obtain rfl : b3 = true := HO3.out.2 ⟨lN, lE, lM, hM0⟩
    have hp1 := HY1.out rfl
    have hp2 := HY2.out rfl
    have hp3 := HY3.out rfl
    have hMp : 0 < M := Nat.pos_of_ne_zero hM0
    obtain ⟨q0, hq0⟩ := bits_ex E
    have hql : q0 ≤ 4096 := Classical.byContradiction fun h => lE ((bits_gt (q := 4096) hq0).1 (by omega))
    have HP1 := Lib.hid hp1
    have HP2 := Lib.hid hp2
    have HP3 := Lib.hid hp3
    have HMP := Lib.hid hMp
    have HQ0 := Lib.hid hq0
    clear lN lE lM hM0 hp1 hp2 hp3 hMp hq0
    have hr := rmod2_any v10 _ _ _ _ hr1 _ _ _ _ hr3 N M HZ1.out HZ3.out (by omega) (by omega) HMP.out
    have HR := Lib.hid hr
    clear hr
    go_wp2_with fail
    refine (HR.out).mono ?_
    rintro e v11 ⟨ra, hra, Ca, ka, ea, rfl, hrr, hc⟩
    replace hs1 := hs1.later hc (Nat.le_refl _)
    replace hs2 := hs2.later hc (Nat.le_refl _)
    replace hs3 := hs3.later hc (Nat.le_refl _)
    replace hr1 := hr1.later hc (Nat.le_refl _)
    replace hr2 := hr2.later hc (Nat.le_refl _)
    replace hr3 := hr3.later hc (Nat.le_refl _)
    replace ht1 := ht1.later hc (Nat.le_refl _)
    replace ht2 := ht2.later hc (Nat.le_refl _)
    replace ht3 := ht3.later hc (Nat.le_refl _)
    replace hB := hB.trans (hc.mono hB.size)
    clear hc
    have HRN := Lib.hid hra
    have hka : ka ≤ 10000 := by
      rw [hrr.len]
      exact Nat.le_trans (hra.length_le (k := 8) (by decide) (lt832 HM.out HD3.out (by rw [← hs3.len]; exact hm3) (Nat.mod_lt _ HMP.out))) (by decide)
    clear HR hra
    have hi := is_any v11 _ (Nat.le_refl _) _ _ _ _ ht1 _ _ _ _ hrr _ HP1.out HRN.out (by omega)
    have HI := Lib.hid hi
    clear hi
    go_wp2_with fail
    refine (HI.out).mono ?_
    rintro e v12 ⟨rfl, hc⟩
    replace hs1 := hs1.later hc (Nat.le_refl _)
    replace hs2 := hs2.later hc (Nat.le_refl _)
    replace hs3 := hs3.later hc (Nat.le_refl _)
    replace hr1 := hr1.later hc (Nat.le_refl _)
    replace hr2 := hr2.later hc (Nat.le_refl _)
    replace hr3 := hr3.later hc (Nat.le_refl _)
    replace ht1 := ht1.later hc (Nat.le_refl _)
    replace ht2 := ht2.later hc (Nat.le_refl _)
    replace ht3 := ht3.later hc (Nat.le_refl _)
    replace hrr := hrr.later hc (Nat.le_refl _)
    replace hB := hB.trans (hc.mono hB.size)
    clear hc
    clear HI HRN hka
    clear hrr ht1
    have hr := rmul2_any v12 _ _ _ _ hr1 _ _ _ _ hr2 _ _ _ _ hr3 N E M HZ1.out HZ2.out HZ3.out (by omega) (by omega) (by omega) HMP.out
    have HR := Lib.hid hr
    clear hr
    go_wp2_with fail
    refine (HR.out).mono ?_
    rintro e v13 ⟨ra, hra, Ca, ka, ea, rfl, hrr, hc⟩
    replace hs1 := hs1.later hc (Nat.le_refl _)
    replace hs2 := hs2.later hc (Nat.le_refl _)
    replace hs3 := hs3.later hc (Nat.le_refl _)
    replace hr1 := hr1.later hc (Nat.le_refl _)
    replace hr2 := hr2.later hc (Nat.le_refl _)
    replace hr3 := hr3.later hc (Nat.le_refl _)
    replace ht2 := ht2.later hc (Nat.le_refl _)
    replace ht3 := ht3.later hc (Nat.le_refl _)
    replace hB := hB.trans (hc.mono hB.size)
    clear hc
    have HRN := Lib.hid hra
    have hka : ka ≤ 10000 := by
      rw [hrr.len]
      exact Nat.le_trans (hra.length_le (k := 8) (by decide) (lt832 HM.out HD3.out (by rw [← hs3.len]; exact hm3) (Nat.mod_lt _ HMP.out))) (by decide)
    clear HR hra
    have hi := is_any v13 _ (Nat.le_refl _) _ _ _ _ ht2 _ _ _ _ hrr _ HP2.out HRN.out (by omega)
    have HI := Lib.hid hi
    clear hi
    go_wp2_with fail
    refine (HI.out).mono ?_
    rintro e v14 ⟨rfl, hc⟩
    replace hs1 := hs1.later hc (Nat.le_refl _)
    replace hs2 := hs2.later hc (Nat.le_refl _)
    replace hs3 := hs3.later hc (Nat.le_refl _)
    replace hr1 := hr1.later hc (Nat.le_refl _)
    replace hr2 := hr2.later hc (Nat.le_refl _)
    replace hr3 := hr3.later hc (Nat.le_refl _)
    replace ht2 := ht2.later hc (Nat.le_refl _)
    replace ht3 := ht3.later hc (Nat.le_refl _)
    replace hrr := hrr.later hc (Nat.le_refl _)
    replace hB := hB.trans (hc.mono hB.size)
    clear hc
    clear HI HRN hka
    clear hrr ht2
    have hr := rexp2_any v14 _ _ _ _ hr1 _ _ _ _ hr2 _ _ _ _ hr3 N E M HZ1.out HZ2.out HZ3.out (by omega) (by omega) (by omega) HMP.out q0 HQ0.out (by omega)
    have HR := Lib.hid hr
    clear hr
    go_wp2_with fail
    refine (HR.out).mono ?_
    rintro e v15 ⟨ra, hra, Ca, ka, ea, rfl, hrr, hc⟩
    replace hs1 := hs1.later hc (Nat.le_refl _)
    replace hs2 := hs2.later hc (Nat.le_refl _)
    replace hs3 := hs3.later hc (Nat.le_refl _)
    replace hr1 := hr1.later hc (Nat.le_refl _)
    replace hr2 := hr2.later hc (Nat.le_refl _)
    replace hr3 := hr3.later hc (Nat.le_refl _)
    replace ht3 := ht3.later hc (Nat.le_refl _)
    replace hB := hB.trans (hc.mono hB.size)
    clear hc
    have HRN := Lib.hid hra
    have hka : ka ≤ 10000 := by
      rw [hrr.len]
      exact Nat.le_trans (hra.length_le (k := 8) (by decide) (lt832 HM.out HD3.out (by rw [← hs3.len]; exact hm3) (Nat.mod_lt _ HMP.out))) (by decide)
    clear HR hra
    have hi := is_any v15 _ (Nat.le_refl _) _ _ _ _ ht3 _ _ _ _ hrr _ HP3.out HRN.out (by omega)
    have HI := Lib.hid hi
    clear hi
    go_wp2_with fail
    refine (HI.out).mono ?_
    rintro e v16 ⟨rfl, hc⟩
    replace hs1 := hs1.later hc (Nat.le_refl _)
    replace hs2 := hs2.later hc (Nat.le_refl _)
    replace hs3 := hs3.later hc (Nat.le_refl _)
    replace hr1 := hr1.later hc (Nat.le_refl _)
    replace hr2 := hr2.later hc (Nat.le_refl _)
    replace hr3 := hr3.later hc (Nat.le_refl _)
    replace ht3 := ht3.later hc (Nat.le_refl _)
    replace hrr := hrr.later hc (Nat.le_refl _)
    replace hB := hB.trans (hc.mono hB.size)
    clear hc
    go_wp2
    go_ret
    exact ⟨rfl, hB⟩
end Go.Proofs.YtdcijkjlgkfkdaaDoor

/- baileyref2.Inverse. -/
namespace Go.Proofs.YtdcijkjlgkfkdaaDoor
open Go.RowKit

def RetInv32 (w : World) (N M : Nat) (e : Ending) (w' : World) : Prop :=
  ∃ b A n c r, e = .returned (.tuple #[.slice A n c, .bool b]) ∧ (b = true ↔ Nat.gcd M N = 1) ∧ (b = true → ∃ R, Nm b32 r R ∧ R < M ∧ N * R % M = 1) ∧ Sl w' w'.heap.size A n c r ∧ Below w.heap.size w w'

set_option maxRecDepth 100000 in
set_option maxHeartbeats 4000000 in
theorem rinverse2_any (w : World) (A1 : Option Addr) (n1 c1 : Nat) (xs : List Nat) (hs1 : Sl w w.heap.size A1 n1 c1 xs) (A3 : Option Addr) (n3 c3 : Nat) (zs : List Nat) (hs3 : Sl w w.heap.size A3 n3 c3 zs)
    (N M : Nat) (hN : Nm b32 xs N) (hM : Nm b32 zs M) (hn1 : n1 ≤ 10000000) (hn3 : n3 ≤ 10000000) (hM1 : 1 < M) :
    Calls Tryd.prog 23 #[.slice A1 n1 c1, .slice A3 n3 c3] w fun e w' => RetInv32 w N M e w' := by
  have hMl : M < b32 ^ n3 := by rw [← hM.2.2, hs3.len]; exact V_lt _ hM.1
  have hM0 : 0 < M := by omega
  have hmo := rmod2_any w _ _ _ _ hs1 _ _ _ _ hs3 N M hN hM (by omega) (by omega) hM0
  have HMO := Lib.hid hmo
  have HN := Lib.hid hN
  have HM := Lib.hid hM
  have HM1 := Lib.hid hM1
  have HM0 := Lib.hid hM0
  have HML := Lib.hid hMl
  clear hmo hN hM hM1 hM0 hMl hs1
  go_enter Tryd.func23, Tryd.ntmps23
  go_wp2_with fail
  refine HMO.out.mono ?_
  rintro e w1 ⟨ss, hss, As, ns, cs, rfl, hsS, hB⟩
  have hs3 := hs3.later hB (Nat.le_refl _)
  have HSS := Lib.hid hss
  have ho : Calls Tryd.prog 22 #[.int .u64 1] w1 (fun e w' => RetN b32 w1 1 e w') := rof_any 1 (by decide) w1
  have HO := Lib.hid ho
  clear ho hss
  go_wp2_with fail
  refine HO.out.mono ?_
  rintro e w2 ⟨os, hos, Ao, no, co, rfl, hso, hc⟩
  replace hs3 := hs3.later hc (Nat.le_refl _)
  replace hsS := hsS.later hc (Nat.le_refl _)
  replace hB := hB.trans (hc.mono hB.size)
  have hpow : ∀ y, y ≤ M → y < b32 ^ n3 := fun y h => Nat.lt_of_le_of_lt h HML.out
  have HPW := Lib.hid hpow
  have HI1 := Lib.hid (show Num32 w2 n3 M (.slice A3 n3 c3) from ⟨_, _, _, _, rfl, hs3, HM.out, HML.out⟩)
  have HI2 := Lib.hid (show Num32 w2 n3 (N % M) (.slice As ns cs) from ⟨_, _, _, _, rfl, hsS, HSS.out, hpow _ (Nat.le_of_lt (Nat.mod_lt _ HM0.out))⟩)
  have HI3 := Lib.hid (show Num32 w2 n3 0 (.slice none 0 0) from ⟨[], none, 0, 0, rfl, Sl.nil _ _ _ (by omega), ⟨fun x hx => (by cases hx), fun x hx => (by cases hx), rfl⟩, hpow _ (Nat.zero_le _)⟩)
  have HI4 := Lib.hid (show Num32 w2 n3 1 (.slice Ao no co) from ⟨_, _, _, _, rfl, hso, hos, hpow _ HM0.out⟩)
  clear hc hos hso hsS hpow
  go_wp2
  go_loopw [6, 7, 8, 9] (fun r s x y wr => ∃ rn sn xn yn : Nat, Num32 wr n3 rn r ∧ Num32 wr n3 sn s ∧ Num32 wr n3 xn x ∧ Num32 wr n3 yn y ∧ RInv N M rn sn xn yn ∧ (rn ≤ M ∧ sn ≤ M) ∧ Below w2.heap.size w2 wr) (fun _ s _ _ wr => num32At wr s)
  case atStart => exact ⟨M, N % M, 0, 1, HI1.out, HI2.out, HI3.out, HI4.out, RInv.start N M HM1.out, ⟨Nat.le_refl _, Nat.le_of_lt (Nat.mod_lt _ HM0.out)⟩, Below.refl _ _⟩
  case round =>
    obtain ⟨rn, sn, xn, yn, hr, hs, hx, hy, hinv, ⟨hrM, hsM⟩, hBr⟩ := hrel
    obtain ⟨rx, Ar, nr, cr, rfl, hsr, hrn, hrl⟩ := hr.len
    obtain ⟨sx, Aq, nq, cq, rfl, hsq, hsn, hsl⟩ := hs.len
    obtain ⟨xx, Ax, nx, cx, rfl, hsx, hxn, hxl⟩ := hx.len
    obtain ⟨yx, Ay, ny, cy, rfl, hsy, hyn, hyl⟩ := hy.len
    have HR := Lib.hid hrn
    have HS := Lib.hid hsn
    have HX := Lib.hid hxn
    have HY := Lib.hid hyn
    have HIN := Lib.hid hinv
    have HRM := Lib.hid hrM
    clear hr hs hx hy hrn hsn hxn hyn hinv hrM
    by_cases h0 : nq = 0
    · subst h0
      have hs0 : sn = 0 := by
        have h1 : sx = [] := List.eq_nil_of_length_eq_zero hsq.len.symm
        have h2 := HS.out.2.2
        rw [h1] at h2
        simpa [V] using h2.symm
      have hinv := HIN.out
      rw [hs0] at hinv
      have hdn := hinv.done HM1.out
      have HDN := Lib.hid hdn
      have HXM := Lib.hid hinv.lx
      clear hs0 hinv hdn
      have ho : Calls Tryd.prog 22 #[.int .u64 1] wr (fun e w' => RetN b32 wr 1 e w') := rof_any 1 (by decide) wr
      have HO2 := Lib.hid ho
      clear ho
      go_wp2_with fail
      refine HO2.out.mono ?_
      rintro e w3 ⟨os, hos, Ao2, no2, co2, rfl, hso, hc⟩
      replace hsr := hsr.later hc (Nat.le_refl _)
      replace hsx := hsx.later hc (Nat.le_refl _)
      replace hBr := hBr.trans (hc.mono hBr.size)
      have hcm := rcmp_ret w3 _ _ _ _ _ hsr _ _ _ _ _ hso rn 1 HR.out hos
      obtain ⟨cv, hcv⟩ : ∃ cv, ncmp rn 1 = cv := ⟨_, rfl⟩
      rw [hcv] at hcm
      have HCM := Lib.hid hcm
      have HCV := Lib.hid hcv
      clear hcm hcv hos hc
      by_cases h1 : rn = 1
      · have hc0 : cv = 0 := by rw [← HCV.out, h1, ncmp_eq]
        subst hc0
        have H1 := Lib.hid h1
        clear h1
        go_wp2_with fail
        refine HCM.out.mono ?_
        rintro e w4 ⟨rfl, hc⟩
        replace hsx := hsx.later hc (Nat.le_refl _)
        replace hBr := hBr.trans (hc.mono hBr.size)
        clear hc
        go_wp2
        go_ret2
        exact ⟨true, _, _, _, xx, rfl, ⟨fun _ => HDN.out.1.symm.trans H1.out, fun _ => rfl⟩, fun _ => ⟨xn, HX.out, HXM.out, HDN.out.2 H1.out⟩, hsx, hB.trans (hBr.mono hB.size)⟩
      · have hc0 : ¬ cv = 0 := by
          intro h
          have h2 := ncmp_ne h1
          rw [HCV.out, h] at h2
          cases h2
        have H1 := Lib.hid h1
        clear h1
        go_wp2_with fail
        refine HCM.out.mono ?_
        rintro e w4 ⟨rfl, hc⟩
        replace hBr := hBr.trans (hc.mono hBr.size)
        clear hc
        go_wp2
        go_ret2
        exact ⟨false, _, _, _, [], rfl, ⟨fun h => (by cases h), fun h => absurd (HDN.out.1.trans h) H1.out⟩, fun h => (by cases h), Sl.nil _ _ _ (by omega), hB.trans (hBr.mono hB.size)⟩
    · have hq0 : 0 < sn := by
        rcases Nat.eq_zero_or_pos sn with h | h
        · exfalso
          have h2 : sx = [] := nm_unique (by decide) (h ▸ HS.out) ⟨fun x hx => (by cases hx), fun x hx => (by cases hx), rfl⟩
          apply h0
          rw [hsq.len, h2]; rfl
        · exact h
      have hnq : (0 : Int) < (nq : Int) := by omega
      have HNA := Lib.hid (show num32At wr (.slice Aq nq cq) = sn from (num32At_sl hsq).trans HS.out.2.2)
      have hqo := rquo_any wr _ _ _ _ hsr _ _ _ _ hsq rn sn HR.out HS.out (by omega) (by omega) hq0
      obtain ⟨hle, hst⟩ := HIN.out.step HM1.out
      have hsm : sn ≤ M := hsM
      have hml := Nat.mod_lt rn hq0
      obtain ⟨Q, hQ⟩ : ∃ Q, rn / sn = Q := ⟨_, rfl⟩
      obtain ⟨R, hR⟩ : ∃ R, rn % sn = R := ⟨_, rfl⟩
      rw [hQ] at hle hst hqo
      rw [hR] at hst hqo hml
      have hQM : Q ≤ M := by rw [← hQ]; exact Nat.le_trans (Nat.div_le_self _ _) HRM.out
      obtain ⟨Z1, hZ1⟩ : ∃ Z1, Q * yn % M = Z1 := ⟨_, rfl⟩
      rw [hZ1] at hle hst
      obtain ⟨Z2, hZ2⟩ : ∃ Z2, (xn + M - Z1) % M = Z2 := ⟨_, rfl⟩
      rw [hZ2] at hst
      have hZ2l : Z2 < M := by rw [← hZ2]; exact Nat.mod_lt _ HM0.out
      have hZ1l : Z1 < M := by rw [← hZ1]; exact Nat.mod_lt _ HM0.out
      have HQO := Lib.hid hqo
      have HLE := Lib.hid hle
      have HSTP := Lib.hid hst
      have HMLT := Lib.hid hml
      have HQM := Lib.hid hQM
      have HZ1 := Lib.hid hZ1
      have HZ2 := Lib.hid hZ2
      have HZ1L := Lib.hid hZ1l
      have HZ2L := Lib.hid hZ2l
      have HSM := Lib.hid hsm
      clear hqo hle hst hml hQM hZ1 hZ2 hZ1l hZ2l hsm hQ hR h0 hq0
      go_wp2_with fail
      refine HQO.out.mono ?_
      rintro e w3 ⟨A5, n5, c5, q, A6, n6, c6, r, rfl, hsqq, hqn, hsrr, hrrn, hc⟩
      replace hsq := hsq.later hc (Nat.le_refl _)
      replace hsx := hsx.later hc (Nat.le_refl _)
      replace hsy := hsy.later hc (Nat.le_refl _)
      replace hBr := hBr.trans (hc.mono hBr.size)
      clear hc hsr
      have hl5 : n5 ≤ n3 := by rw [hsqq.len]; exact hqn.length_le (by decide) (HPW.out _ HQM.out)
      have hmu := rmul_any w3 _ (Nat.le_refl _) _ _ _ _ hsqq _ _ _ _ hsy hqn.1 HY.out.1 (by omega) (by omega)
      rw [hqn.2.2, HY.out.2.2] at hmu
      have HMU := Lib.hid hmu
      have HRR := Lib.hid hrrn
      clear hmu hqn hrrn
      go_wp2_with fail
      refine HMU.out.mono ?_
      rintro e w4 ⟨ps, hps, Ap, np, cp, rfl, hsp, hc⟩
      replace hsq := hsq.later hc (Nat.le_refl _)
      replace hsx := hsx.later hc (Nat.le_refl _)
      replace hsy := hsy.later hc (Nat.le_refl _)
      replace hsrr := hsrr.later hc (Nat.le_refl _)
      replace hBr := hBr.trans (hc.mono hBr.size)
      clear hc hsqq
      have hyM : yn ≤ M := Nat.le_of_lt HIN.out.ly
      have hlp : np ≤ n3 + n3 := by
        rw [hsp.len]
        refine hps.length_le (by decide) ?_
        rw [Nat.pow_add]
        exact Nat.mul_lt_mul'' (HPW.out _ HQM.out) (HPW.out _ hyM)
      have hmo := rmod2_any w4 _ _ _ _ hsp _ _ _ _ (hs3.later hBr (Nat.le_refl _)) (Q * yn) M hps HM.out (by omega) (by omega) HM0.out
      rw [HZ1.out] at hmo
      have HMO3 := Lib.hid hmo
      clear hmo hps hyM
      go_wp2_with fail
      refine HMO3.out.mono ?_
      rintro e w5 ⟨z1, hz1, Az, nz, cz, rfl, hsz, hc⟩
      replace hsq := hsq.later hc (Nat.le_refl _)
      replace hsx := hsx.later hc (Nat.le_refl _)
      replace hsy := hsy.later hc (Nat.le_refl _)
      replace hsrr := hsrr.later hc (Nat.le_refl _)
      replace hBr := hBr.trans (hc.mono hBr.size)
      clear hc hsp
      have HZN := Lib.hid hz1
      have had := radd_any w5 _ (Nat.le_refl _) _ _ _ _ hsx _ _ _ _ (hs3.later hBr (Nat.le_refl _)) HX.out.1 HM.out.1 (by omega) (by omega)
      rw [HX.out.2.2, HM.out.2.2] at had
      have HAD := Lib.hid had
      clear hz1 had
      go_wp2_with fail
      refine HAD.out.mono ?_
      rintro e w6 ⟨us, hus, Au, nu, cu, rfl, hsu, hc⟩
      replace hsq := hsq.later hc (Nat.le_refl _)
      replace hsy := hsy.later hc (Nat.le_refl _)
      replace hsrr := hsrr.later hc (Nat.le_refl _)
      replace hsz := hsz.later hc (Nat.le_refl _)
      replace hBr := hBr.trans (hc.mono hBr.size)
      clear hc hsx
      have hxM := HIN.out.lx
      have hsum : xn + M < b32 ^ (n3 + 1) := by
        rw [Nat.pow_succ]
        have h1 := HML.out
        have h2 : b32 ^ n3 * 2 ≤ b32 ^ n3 * b32 := Nat.mul_le_mul_left _ (by decide)
        omega
      have hlu : nu ≤ n3 + 1 := by rw [hsu.len]; exact hus.length_le (by decide) hsum
      have hlz : nz ≤ nu := by rw [hsz.len, hsu.len]; exact len_le_of (by decide) HZN.out hus HLE.out
      have hsb := rsub_any w6 _ (Nat.le_refl _) _ _ _ _ hsu _ _ _ _ hsz hus.1 HZN.out.1 (by omega) hlz (by rw [HZN.out.2.2, hus.2.2]; exact HLE.out)
      rw [HZN.out.2.2, hus.2.2] at hsb
      have HSB := Lib.hid hsb
      clear hsb hus hxM
      have HSUM := Lib.hid hsum
      clear hsum
      go_wp2_with fail
      refine HSB.out.mono ?_
      rintro e w7 ⟨vs, hvs, Av, nv, cv, rfl, hsv, hc⟩
      replace hsq := hsq.later hc (Nat.le_refl _)
      replace hsy := hsy.later hc (Nat.le_refl _)
      replace hsrr := hsrr.later hc (Nat.le_refl _)
      replace hBr := hBr.trans (hc.mono hBr.size)
      clear hc hsu hsz
      have hlv : nv ≤ n3 + 1 := by rw [hsv.len]; exact hvs.length_le (by decide) (Nat.lt_of_le_of_lt (Nat.sub_le _ _) HSUM.out)
      have hmo := rmod2_any w7 _ _ _ _ hsv _ _ _ _ (hs3.later hBr (Nat.le_refl _)) (xn + M - Z1) M hvs HM.out (by omega) (by omega) HM0.out
      rw [HZ2.out] at hmo
      have HMO4 := Lib.hid hmo
      clear hmo hvs
      go_wp2_with fail
      refine HMO4.out.mono ?_
      rintro e w8 ⟨z2, hz2, Az2, nz2, cz2, rfl, hsz2, hc⟩
      replace hsq := hsq.later hc (Nat.le_refl _)
      replace hsy := hsy.later hc (Nat.le_refl _)
      replace hsrr := hsrr.later hc (Nat.le_refl _)
      replace hBr := hBr.trans (hc.mono hBr.size)
      have HZ2N := Lib.hid hz2
      clear hc hsv hz2
      go_wp2
      go_roundw
      case rel => exact ⟨sn, R, yn, Z2, ⟨_, _, _, _, rfl, hsq, HS.out, HPW.out _ HSM.out⟩, ⟨_, _, _, _, rfl, hsrr, HRR.out, HPW.out _ (Nat.le_trans (Nat.le_of_lt HMLT.out) HSM.out)⟩, ⟨_, _, _, _, rfl, hsy, HY.out, HPW.out _ (Nat.le_of_lt HIN.out.ly)⟩, ⟨_, _, _, _, rfl, hsz2, HZ2N.out, HPW.out _ (Nat.le_of_lt HZ2L.out)⟩, HSTP.out, ⟨HSM.out, Nat.le_trans (Nat.le_of_lt HMLT.out) HSM.out⟩, hBr⟩
      case measure =>
        rw [num32At_sl hsrr, HNA.out, HRR.out.2.2]
        exact HMLT.out
end Go.Proofs.YtdcijkjlgkfkdaaDoor

/- ModInverse, walked. -/
namespace Go.Proofs.YtdcijkjlgkfkdaaDoor
open Go.RowKit Go.Shelf

theorem rcmp_b (w : World) (B : Nat) (A1 : Option Addr) (n1 c1 : Nat) (xs : List Nat) (hs1 : Sl w B A1 n1 c1 xs) (B2 : Nat) (A2 : Option Addr) (n2 c2 : Nat) (ys : List Nat) (hs2 : Sl w B2 A2 n2 c2 ys) (N M : Nat) (hN : Nm b32 xs N) (hM : Nm b32 ys M) :
    Calls Tryd.prog 21 #[.slice A1 n1 c1, .slice A2 n2 c2] w fun e w' => e = .returned (.int .i64 (ncmp N M)) ∧ Below w.heap.size w w' := by
  refine (rcmp_any w B A1 n1 c1 xs hs1 B2 A2 n2 c2 ys hs2 N M hN hM).mono ?_
  rintro e w' ⟨rfl, q, rfl⟩
  exact ⟨rfl, below_drewN (Below.refl _ _) q⟩
theorem gcd_lt {N M B : Nat} (h1 : N < B) (h2 : M < B) : Nat.gcd N M < B := by
  rcases Nat.eq_zero_or_pos N with h | h
  · subst h; rwa [Nat.gcd_zero_left]
  · exact Nat.lt_of_le_of_lt (Nat.gcd_le_left _ h) h1

set_option maxRecDepth 100000 in
set_option maxHeartbeats 4000000 in
theorem inv_walk (w : World) (hG : FewG w) (A1 : Option Addr) (n1 c1 : Nat) (xs : List Nat) (hs1 : Sl w w.heap.size A1 n1 c1 xs) (hd1 : Dg b64 xs) (A2 : Option Addr) (n2 c2 : Nat) (ys : List Nat) (hs2 : Sl w w.heap.size A2 n2 c2 ys) (hd2 : Dg b64 ys) :
    Calls Tryd.prog 4 #[.slice A1 n1 c1, .slice A2 n2 c2] w fun e w' => RetV w (.bool true) e w' := by
  have hB : Below w.heap.size w w := Below.refl _ _
  have HG := Lib.hid hG
  clear hG
  have hda1 := hd1.take 6
  obtain ⟨q1, hq1⟩ : ∃ q, xs.take 6 = q := ⟨_, rfl⟩
  rw [hq1] at hda1
  have hl1 : q1.length ≤ 6 := by rw [← hq1, List.length_take]; exact Nat.min_le_left _ _
  obtain ⟨N, hN⟩ : ∃ N, V b64 q1 = N := ⟨_, rfl⟩
  have HQ1 := Lib.hid hq1
  have HD1 := Lib.hid hda1
  have HL1 := Lib.hid hl1
  have HN := Lib.hid hN
  clear hq1 hda1 hl1 hN hd1
  have hda2 := hd2.take 6
  obtain ⟨q2, hq2⟩ : ∃ q, ys.take 6 = q := ⟨_, rfl⟩
  rw [hq2] at hda2
  have hl2 : q2.length ≤ 6 := by rw [← hq2, List.length_take]; exact Nat.min_le_left _ _
  obtain ⟨M, hM⟩ : ∃ N, V b64 q2 = N := ⟨_, rfl⟩
  have HQ2 := Lib.hid hq2
  have HD2 := Lib.hid hda2
  have HL2 := Lib.hid hl2
  have HM := Lib.hid hM
  clear hq2 hda2 hl2 hM hd2
  go_enter Tryd.func4, Tryd.ntmps4
  go_wp2_with fail
  refine (begun2_any w HG.out).mono ?_
  rintro e v1 ⟨rfl, hc⟩
  replace hs1 := hs1.later hc (Nat.le_refl _)
  replace hs2 := hs2.later hc (Nat.le_refl _)
  replace hB := hB.trans (hc.mono hB.size)
  clear hc
  have hfw := few2_any v1 _ _ _ _ _ hs1 6 (by decide)
  rw [HQ1.out] at hfw
  have HFW := Lib.hid hfw
  clear hfw
  go_wp2_with fail
  refine (HFW.out).mono ?_
  rintro e v2 ⟨Ba1, m1, d1, rfl, hs1, hc⟩
  replace hs2 := hs2.later hc (Nat.le_refl _)
  replace hB := hB.trans (hc.mono hB.size)
  clear hc
  have hm1 : m1 ≤ 6 := by rw [hs1.len]; exact HL1.out
  clear HFW
  have hfw := few2_any v2 _ _ _ _ _ hs2 6 (by decide)
  rw [HQ2.out] at hfw
  have HFW := Lib.hid hfw
  clear hfw
  go_wp2_with fail
  refine (HFW.out).mono ?_
  rintro e v3 ⟨Ba2, m2, d2, rfl, hs2, hc⟩
  replace hs1 := hs1.later hc (Nat.le_refl _)
  replace hB := hB.trans (hc.mono hB.size)
  clear hc
  have hm2 : m2 ≤ 6 := by rw [hs2.len]; exact HL2.out
  clear HFW
  have hfr := from_any v3 _ (Nat.le_refl _) _ _ _ _ hs1 HD1.out (by omega)
  rw [HN.out] at hfr
  have HFR := Lib.hid hfr
  clear hfr
  go_wp2_with fail
  refine (HFR.out).mono ?_
  rintro e v4 ⟨z1, hz1, C1, k1, e1, rfl, hr1, hc⟩
  replace hs1 := hs1.later hc (Nat.le_refl _)
  replace hs2 := hs2.later hc (Nat.le_refl _)
  replace hB := hB.trans (hc.mono hB.size)
  clear hc
  have HZ1 := Lib.hid hz1
  have hk1 : k1 ≤ 12 := by
    rw [hr1.len]
    exact hz1.length_le (by decide) (Nat.lt_of_lt_of_le (by rw [← HN.out]; exact V_lt _ HD1.out) (by rw [← hs1.len, show b64 = b32 ^ 2 from rfl, ← Nat.pow_mul]; exact Nat.pow_le_pow_right (by decide) (by omega)))
  clear HFR hz1
  have hfr := from_any v4 _ (Nat.le_refl _) _ _ _ _ hs2 HD2.out (by omega)
  rw [HM.out] at hfr
  have HFR := Lib.hid hfr
  clear hfr
  go_wp2_with fail
  refine (HFR.out).mono ?_
  rintro e v5 ⟨z2, hz2, C2, k2, e2, rfl, hr2, hc⟩
  replace hs1 := hs1.later hc (Nat.le_refl _)
  replace hs2 := hs2.later hc (Nat.le_refl _)
  replace hr1 := hr1.later hc (Nat.le_refl _)
  replace hB := hB.trans (hc.mono hB.size)
  clear hc
  have HZ2 := Lib.hid hz2
  have hk2 : k2 ≤ 12 := by
    rw [hr2.len]
    exact hz2.length_le (by decide) (Nat.lt_of_lt_of_le (by rw [← HM.out]; exact V_lt _ HD2.out) (by rw [← hs2.len, show b64 = b32 ^ 2 from rfl, ← Nat.pow_mul]; exact Nat.pow_le_pow_right (by decide) (by omega)))
  clear HFR hz2
  have hgc := gcd_any v5 _ _ _ _ hs1 _ _ _ _ hs2 HD1.out HD2.out 6 (by decide) hm1 hm2 N M HN.out HM.out
  have HGC := Lib.hid hgc
  clear hgc
  go_wp2_with fail
  refine (HGC.out).mono ?_
  rintro e v6 ⟨gs, hgs, Ag, ng, cg, rfl, hg1, hc⟩
  replace hs1 := hs1.later hc (Nat.le_refl _)
  replace hs2 := hs2.later hc (Nat.le_refl _)
  replace hr1 := hr1.later hc (Nat.le_refl _)
  replace hr2 := hr2.later hc (Nat.le_refl _)
  replace hB := hB.trans (hc.mono hB.size)
  clear hc
  have HGS := Lib.hid hgs
  clear HGC hgs
  have hrg := rgcd2_any v6 _ _ _ _ hr1 _ _ _ _ hr2 N M HZ1.out HZ2.out 12 (by decide) hk1 hk2
  have HRG := Lib.hid hrg
  clear hrg
  go_wp2_with fail
  refine (HRG.out).mono ?_
  rintro e v7 ⟨rs, hrs, Ar, nr, cr, rfl, hg2, hc⟩
  replace hs1 := hs1.later hc (Nat.le_refl _)
  replace hs2 := hs2.later hc (Nat.le_refl _)
  replace hr1 := hr1.later hc (Nat.le_refl _)
  replace hr2 := hr2.later hc (Nat.le_refl _)
  replace hg1 := hg1.later hc (Nat.le_refl _)
  replace hB := hB.trans (hc.mono hB.size)
  clear hc
  have hnr : nr ≤ 1000 := by
    rw [hg2.len]
    refine Nat.le_trans (hrs.length_le (k := 12) (by decide) ?_) (by decide)
    exact gcd_lt (by rw [← HZ1.out.2.2]; exact Nat.lt_of_lt_of_le (V_lt _ HZ1.out.1) (Nat.pow_le_pow_right (by decide) (by rw [← hr1.len]; exact hk1))) (by rw [← HZ2.out.2.2]; exact Nat.lt_of_lt_of_le (V_lt _ HZ2.out.1) (Nat.pow_le_pow_right (by decide) (by rw [← hr2.len]; exact hk2)))
  have HRS := Lib.hid hrs
  clear HRG hrs
  have hi := is_any v7 _ (Nat.le_refl _) _ _ _ _ hg1 _ _ _ _ hg2 _ HGS.out HRS.out (by omega)
  have HI := Lib.hid hi
  clear hi
  go_wp2_with fail
  refine (HI.out).mono ?_
  rintro e v8 ⟨rfl, hc⟩
  replace hs1 := hs1.later hc (Nat.le_refl _)
  replace hs2 := hs2.later hc (Nat.le_refl _)
  replace hr1 := hr1.later hc (Nat.le_refl _)
  replace hr2 := hr2.later hc (Nat.le_refl _)
  replace hg1 := hg1.later hc (Nat.le_refl _)
  replace hg2 := hg2.later hc (Nat.le_refl _)
  replace hB := hB.trans (hc.mono hB.size)
  clear hc
  clear HI HGS HRS hnr
  clear hg1 hg2
  have hin := inverse_any v8 _ _ _ _ hs1 _ _ _ _ hs2 HD1.out HD2.out 6 (by decide) hm1 hm2 N M HN.out HM.out
  have HIN := Lib.hid hin
  clear hin
  go_wp2_with fail
  refine (HIN.out).mono ?_
  rintro e v9 ⟨b1, F1, f1, g1, p1, rfl, hok1, hno1, hyes1, ht1, hc⟩
  replace hs1 := hs1.later hc (Nat.le_refl _)
  replace hs2 := hs2.later hc (Nat.le_refl _)
  replace hr1 := hr1.later hc (Nat.le_refl _)
  replace hr2 := hr2.later hc (Nat.le_refl _)
  replace hB := hB.trans (hc.mono hB.size)
  clear hc
  have HO1 := Lib.hid hok1
  have HN1 := Lib.hid hno1
  have HY1 := Lib.hid hyes1
  clear hok1 hno1 hyes1 HIN
  have ho2 : Calls Tryd.prog 22 #[.int .u64 2] v9 (fun e w' => RetN b32 v9 2 e w') := rof_any 2 (by decide) v9
  have HO2 := Lib.hid ho2
  clear ho2
  go_wp2_with fail
  refine (HO2.out).mono ?_
  rintro e v10 ⟨os, hos, Ao, no, co, rfl, hso, hc⟩
  replace hs1 := hs1.later hc (Nat.le_refl _)
  replace hs2 := hs2.later hc (Nat.le_refl _)
  replace hr1 := hr1.later hc (Nat.le_refl _)
  replace hr2 := hr2.later hc (Nat.le_refl _)
  replace ht1 := ht1.later hc (Nat.le_refl _)
  replace hB := hB.trans (hc.mono hB.size)
  clear hc
  have HOS := Lib.hid hos
  clear HO2 hos
  have hcm := rcmp_b v10 _ _ _ _ _ hr2 _ _ _ _ _ hso M 2 HZ2.out HOS.out
  obtain ⟨cv, hcv⟩ : ∃ cv, ncmp M 2 = cv := ⟨_, rfl⟩
  rw [hcv] at hcm
  have HCM := Lib.hid hcm
  have HCV := Lib.hid hcv
  have lN : ¬ Lg 4096 N := not_lg_of HN.out HD1.out (by rw [← hs1.len]; omega)
  have lM : ¬ Lg 4096 M := not_lg_of HM.out HD2.out (by rw [← hs2.len]; omega)
  have HLN := Lib.hid lN
  have HLM := Lib.hid lM
  clear hcm hcv lN lM
  go_wp2_with fail
  refine (HCM.out).mono ?_
  rintro e v11 ⟨rfl, hc⟩
  replace hs1 := hs1.later hc (Nat.le_refl _)
  replace hs2 := hs2.later hc (Nat.le_refl _)
  replace hr1 := hr1.later hc (Nat.le_refl _)
  replace hr2 := hr2.later hc (Nat.le_refl _)
  replace ht1 := ht1.later hc (Nat.le_refl _)
  replace hso := hso.later hc (Nat.le_refl _)
  replace hB := hB.trans (hc.mono hB.size)
  clear hc
  clear HCM HOS
  clear hso
  by_cases hM2 : M < 2
  · have h0 : (cv : Int) < 0 := by rw [← HCV.out]; unfold ncmp; rw [if_pos hM2]; decide
    obtain rfl : b1 = false := by
      cases b1
      · rfl
      · have := (HO1.out.1 rfl).2.2.1; omega
    obtain ⟨rfl, rfl, rfl⟩ := HN1.out rfl
    have HM2 := Lib.hid hM2
    clear hM2
    go_wp2
    go_ret
    exact ⟨rfl, hB⟩
  · have h0 : ¬ (cv : Int) < 0 := by rw [← HCV.out]; unfold ncmp; rw [if_neg hM2]; split <;> decide
    have hM1 : 1 < M := by omega
    have HM1 := Lib.hid hM1
    have hri := rinverse2_any v11 _ _ _ _ hr1 _ _ _ _ hr2 N M HZ1.out HZ2.out (by omega) (by omega) hM1
    have HRI := Lib.hid hri
    clear hM2 hM1 hri
    go_wp2_with fail
    refine (HRI.out).mono ?_
    rintro e v12 ⟨b2, F2, f2, g2, p2, rfl, hok2, hyes2, ht2, hc⟩
    replace hs1 := hs1.later hc (Nat.le_refl _)
    replace hs2 := hs2.later hc (Nat.le_refl _)
    replace hr1 := hr1.later hc (Nat.le_refl _)
    replace hr2 := hr2.later hc (Nat.le_refl _)
    replace ht1 := ht1.later hc (Nat.le_refl _)
    replace hB := hB.trans (hc.mono hB.size)
    clear hc
    clear HRI
    by_cases hg : Nat.gcd M N = 1
    · obtain rfl : b1 = true := HO1.out.2 ⟨HLN.out, HLM.out, HM1.out, hg⟩
      obtain rfl : b2 = true := hok2.2 hg
      obtain ⟨R, hR, hRl, hR1⟩ := HY1.out rfl
      obtain ⟨S, hS, hSl, hS1⟩ := hyes2 rfl
      obtain rfl : R = S := inverse_unique hRl hSl hR1 hS1
      have hgl : f2 ≤ 1000 := by
        rw [ht2.len]
        refine Nat.le_trans (hS.length_le (k := 12) (by decide) (Nat.lt_trans hSl ?_)) (by decide)
        rw [← HZ2.out.2.2]
        exact Nat.lt_of_lt_of_le (V_lt _ HZ2.out.1) (Nat.pow_le_pow_right (by decide) (by rw [← hr2.len]; exact hk2))
      have hi := is_any v12 _ (Nat.le_refl _) _ _ _ _ ht1 _ _ _ _ ht2 _ hR hS (by omega)
      have HI := Lib.hid hi
      clear hi hg hok2 hyes2 hR hRl hR1 hS hSl hS1
      go_wp2_with fail
      refine HI.out.mono ?_
      rintro e wz ⟨rfl, hc⟩
      go_wp2
      go_ret
      exact ⟨rfl, hB.trans (hc.mono hB.size)⟩
    · obtain rfl : b1 = false := by
        cases b1
        · rfl
        · exact absurd (HO1.out.1 rfl).2.2.2 hg
      obtain rfl : b2 = false := by
        cases b2
        · rfl
        · exact absurd (hok2.1 rfl) hg
      obtain ⟨rfl, rfl, rfl⟩ := HN1.out rfl
      clear hg hok2 hyes2
      go_wp2
      go_ret
      exact ⟨rfl, hB⟩
end Go.Proofs.YtdcijkjlgkfkdaaDoor

/- ModBig, walked. -/
namespace Go.Proofs.YtdcijkjlgkfkdaaDoor
open Go.RowKit Go.Shelf

theorem v_top (m : Nat) : V b64 (List.replicate m 0 ++ [1]) = b64 ^ m := by
  induction m with
  | zero => simp [V]
  | succ m ih => simp only [List.replicate_succ, List.cons_append, V, ih, Nat.pow_succ, Nat.zero_add]; rw [Nat.mul_comm]
theorem dg_top (m : Nat) : Dg b64 (List.replicate m 0 ++ [1]) := fun y hy => by
  rcases List.mem_append.1 hy with h | h
  · have := (List.mem_replicate.1 h).2; subst this; decide
  · simp at h; subst h; decide
theorem set_top (m : Nat) : (List.replicate (m + 1) 0).set m 1 = List.replicate m 0 ++ [1] := by
  rw [List.replicate_succ']
  rw [List.set_append_right _ _ (by simp)]
  simp

theorem lg_pow_iff (q a : Nat) : Lg q (2 ^ a) ↔ q ≤ a := Nat.pow_le_pow_iff_right (by decide)

set_option maxRecDepth 100000 in
set_option maxHeartbeats 4000000 in
theorem big_in (w : World) (hG : FewG w) (n m : Nat) (hnm : n = m + 1) (h1 : 60 ≤ n) (h2 : n ≤ 70) :
    Calls Tryd.prog 5 #[.int .i64 (n : Int)] w fun e w' => RetV w (.bool true) e w' := by
  have hB : Below w.heap.size w w := Below.refl _ _
  have HG := Lib.hid hG
  have i1 : ¬ (n : Int) < 60 := by omega
  have i2 : ¬ (70 : Int) < (n : Int) := by omega
  have i4 : (n : Int) - 1 = (m : Int) := by omega
  have i5 : (m : Int) < n := by omega
  have HNM := Lib.hid hnm
  clear hG hnm
  go_enter Tryd.func5, Tryd.ntmps5
  go_wp2_with fail
  refine (begun2_any w HG.out).mono ?_
  rintro e v1 ⟨rfl, hc⟩
  replace hB := hB.trans (hc.mono hB.size)
  clear hc
  go_wp2_with (at_make; refine wl_make rfl _ _ Tryd.underlying23 rfl n n rfl rfl (by omega) ?_; intro v2 hR hb2 hz2; obtain ⟨g, hg⟩ : ∃ g, v1.heap.size = g := ⟨_, rfl⟩; rw [hg] at hR hb2 hz2 ⊢; have HGG := Lib.hid hg; have HB2 := Lib.hid hb2; have HZ2 := Lib.hid hz2; have HROW := Lib.hid hR; have hcm := hR.at_ (i := m) (x := 0) (by rw [List.getElem?_replicate, if_pos (by omega)]); have hfm := hR.frozen m; clear hg hb2 hz2 hR; obtain ⟨v3, e3⟩ : ∃ v3, v2.setCell ⟨g, m, none⟩ (.int .u64 1) = v3 := ⟨_, rfl⟩; obtain ⟨v4, e4, s3, b4⟩ := newU v3 3 3 rfl)
  have hR3 : Row v3 g (List.replicate m 0 ++ [1]) := by
    have h := HROW.out.set m 1
    rw [HNM.out, set_top] at h
    rw [← e3]
    exact h
  have hlen : (List.replicate m 0 ++ [1]).length = n := by simp; exact HNM.out.symm
  have hB3 : Below v1.heap.size v1 v3 := by rw [HGG.out, ← e3]; exact HB2.out.setCell (p := ⟨g, m, none⟩) (Nat.le_refl _) _
  have hs := (hR3.sl (by rw [hlen]; omega)).later b4 (Nat.le_refl _)
  rw [hlen] at hs
  replace hB := hB.trans ((hB3.trans (b4.mono hB3.size)).mono hB.size)
  have hV : V b64 (List.replicate m 0 ++ [1]) = b64 ^ m := v_top m
  have hd3 := (nm_one 3 (by decide) (by decide)).1
  have hpos : 0 < b64 ^ m := Nat.pow_pos (by decide)
  have hl3 : ¬ Lg 4096 3 := not_lg (by decide) (by decide)
  have h4 : b64 ^ m = 2 ^ (64 * m) := by rw [show b64 = 2 ^ 64 from rfl, ← Nat.pow_mul]
  have hbig : Lg 4096 (b64 ^ m) ↔ 64 < n := by
    rw [h4, lg_pow_iff, HNM.out]
    omega
  have hM1 : 1 < b64 ^ m := by
    rw [h4]
    exact Nat.one_lt_two_pow (by omega)
  have hmo := mod_any v4 _ _ _ _ hs _ _ _ _ s3 (dg_top m) hd3 (by omega) (by decide) (b64 ^ m) 3 hV rfl
  have HS := Lib.hid hs
  have HS3 := Lib.hid s3
  have HMO := Lib.hid hmo
  have HBIG := Lib.hid hbig
  have HL3 := Lib.hid hl3
  have HM1 := Lib.hid hM1
  have HV := Lib.hid hV
  have HB := Lib.hid hB
  have hn0 : n ≤ 70 := h2
  clear hs s3 hmo hbig hl3 hM1 hV h4 hpos hB3 b4 hR3 hlen e3 e4 hcm hfm hB
  refine HMO.out.mono ?_
  rintro e v5 ⟨b1, F1, f1, g1, p1, rfl, hok1, -, -, -, hc⟩
  have hb1 : b1 = true ↔ ¬ 64 < n := hok1.trans ⟨fun h h64 => h.1 (HBIG.out.2 h64), fun h => ⟨fun h' => h (HBIG.out.1 h'), HL3.out, by decide⟩⟩
  have hs5 := HS.out.later hc (Nat.le_refl _)
  have s5 := HS3.out.later hc (Nat.le_refl _)
  have hB5 := HB.out.trans (hc.mono HB.out.size)
  have hex := exp_any v5 _ _ _ _ s5 _ _ _ _ s5 _ _ _ _ hs5 hd3 hd3 (dg_top m) (by decide) (by decide) (by omega) 3 3 (b64 ^ m) rfl rfl HV.out
  have HEX := Lib.hid hex
  have HB1 := Lib.hid hb1
  clear hok1 hc hex hb1 HMO HB
  go_wp2_with fail
  refine HEX.out.mono ?_
  rintro e v6 ⟨b2, F2, f2, g2, p2, rfl, hok2, -, -, -, hc⟩
  have hb2 : b2 = true ↔ ¬ 64 < n := hok2.trans ⟨fun h h64 => h.2.2.1 (HBIG.out.2 h64), fun h => ⟨HL3.out, HL3.out, fun h' => h (HBIG.out.1 h'), by have := HM1.out; omega⟩⟩
  have hs6 := hs5.later hc (Nat.le_refl _)
  have s6 := s5.later hc (Nat.le_refl _)
  have hB6 := hB5.trans (hc.mono hB5.size)
  have hin := inverse_any v6 _ _ _ _ s6 _ _ _ _ hs6 hd3 (dg_top m) 70 (by decide) (by decide) hn0 3 (b64 ^ m) rfl HV.out
  have HIN := Lib.hid hin
  have HB2 := Lib.hid hb2
  clear hok2 hc hin hb2 hs5 s5 hB5 HEX
  go_wp2_with fail
  refine HIN.out.mono ?_
  rintro e v7 ⟨b3, F3, f3, g3, p3, rfl, hok3, -, -, -, hc⟩
  have hb3 : 64 < n → b3 = false := fun h => by
    cases b3
    · rfl
    · exact absurd (HBIG.out.2 h) (hok3.1 rfl).2.1
  have hB7 := hB6.trans (hc.mono hB6.size)
  have HB3 := Lib.hid hb3
  clear hok3 hc hb3 hs6 s6 hB6 HIN
  by_cases h64 : 64 < n
  · have hi : (64 : Int) < (n : Int) := by omega
    obtain rfl : b1 = false := by cases b1; rfl; exact absurd h64 (HB1.out.1 rfl)
    obtain rfl : b2 = false := by cases b2; rfl; exact absurd h64 (HB2.out.1 rfl)
    obtain rfl := HB3.out h64
    clear h64
    go_wp2
    go_ret
    exact ⟨rfl, hB7⟩
  · have hi : ¬ (64 : Int) < (n : Int) := by omega
    obtain rfl : b1 = true := HB1.out.2 h64
    obtain rfl : b2 = true := HB2.out.2 h64
    clear h64
    go_wp2
    go_ret
    exact ⟨rfl, hB7⟩

set_option maxRecDepth 100000 in
theorem big_walk (w : World) (hG : FewG w) (n : Int) (hn : (Lit.int .i64 n).wf = true) :
    Calls Tryd.prog 5 #[.int .i64 n] w fun e w' => RetV w (.bool true) e w' := by
  by_cases h : 60 ≤ n ∧ n ≤ 70
  · obtain ⟨k, rfl⟩ : ∃ k : Nat, n = (k : Int) := ⟨n.toNat, by omega⟩
    exact big_in w hG k (k - 1) (by omega) (by omega) (by omega)
  · have HG := Lib.hid hG
    clear hG
    rcases Int.lt_or_le n 60 with h1 | h1
    · clear h
      go_enter Tryd.func5, Tryd.ntmps5
      go_wp2_with fail
      refine (begun2_any w HG.out).mono ?_
      rintro e v1 ⟨rfl, hc⟩
      go_wp2
      go_ret
      exact ⟨rfl, hc⟩
    · have h2 : (70 : Int) < n := by omega
      clear h
      go_enter Tryd.func5, Tryd.ntmps5
      go_wp2_with fail
      refine (begun2_any w HG.out).mono ?_
      rintro e v1 ⟨rfl, hc⟩
      go_wp2
      go_ret
      exact ⟨rfl, hc⟩
end Go.Proofs.YtdcijkjlgkfkdaaDoor
