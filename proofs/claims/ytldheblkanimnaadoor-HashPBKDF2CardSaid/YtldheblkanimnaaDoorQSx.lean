/- PBKDF2 of the program and of the reference, of any sizes. -/
import Derived.Test.YtldheblkanimnaaDoorQSv
set_option linter.unusedVariables false
set_option linter.unusedSimpArgs false
namespace Go.Proofs.YtldheblkanimnaaDoor
open Go.RowKit Go.Shelf

set_option maxRecDepth 100000 in
set_option maxHeartbeats 4000000 in
theorem rpbk_no (w : World) (k : Int) (v1 v2 : Value) (R N : Int) (h : KindOk k → R < 1 ∨ 65536 < R ∨ N < 1 ∨ 65536 < N) :
    Calls Tryd.prog 27 #[.int .i64 k, v1, v2, .int .i64 R, .int .i64 N] w fun e w' => e = .returned (.slice none 0 0) ∧ Below w.heap.size w w' := by
  have hsz := rsize_any w k
  by_cases hk : KindOk k
  · have hp := sizeV_pos hk
    obtain ⟨s, hs⟩ : ∃ s, sizeV k = s := ⟨_, rfl⟩
    rw [hs] at hsz hp
    have ks : ¬ s = 0 := by omega
    have b1 : (s == 0) = false := by simpa using ks
    have HSZ := Lib.hid hsz
    have hN := h hk
    clear hsz hs hk h hp
    by_cases h1 : R < 1
    · have b2 : decide (R < 1) = true := by simpa using h1
      clear hN
      go_enter Tryd.func27, Tryd.ntmps27
      go_wp2_with fail
      refine HSZ.out.mono ?_
      rintro e w' ⟨rfl, rfl⟩
      go_wp2_with fail
      go_quiet (fail)
      go_wp2
      go_ret
      exact ⟨rfl, below_drewN (Below.refl _ _) _⟩
    · have b2 : decide (R < 1) = false := by simpa using h1
      by_cases h2 : 65536 < R
      · have b3 : decide (65536 < R) = true := by simpa using h2
        clear hN
        go_enter Tryd.func27, Tryd.ntmps27
        go_wp2_with fail
        refine HSZ.out.mono ?_
        rintro e w' ⟨rfl, rfl⟩
        go_wp2_with fail
        go_quiet (fail)
        go_wp2
        go_ret
        exact ⟨rfl, below_drewN (Below.refl _ _) _⟩
      · have b3 : decide (65536 < R) = false := by simpa using h2
        by_cases h3 : N < 1
        · have b4 : decide (N < 1) = true := by simpa using h3
          clear hN
          go_enter Tryd.func27, Tryd.ntmps27
          go_wp2_with fail
          refine HSZ.out.mono ?_
          rintro e w' ⟨rfl, rfl⟩
          go_wp2_with fail
          go_quiet (fail)
          go_wp2
          go_ret
          exact ⟨rfl, below_drewN (Below.refl _ _) _⟩
        · have b4 : decide (N < 1) = false := by simpa using h3
          have h4 : 65536 < N := by omega
          have b5 : decide (65536 < N) = true := by simpa using h4
          clear hN
          go_enter Tryd.func27, Tryd.ntmps27
          go_wp2_with fail
          refine HSZ.out.mono ?_
          rintro e w' ⟨rfl, rfl⟩
          go_wp2_with fail
          go_quiet (fail)
          go_wp2
          go_ret
          exact ⟨rfl, below_drewN (Below.refl _ _) _⟩
  · rw [sizeV_no hk] at hsz
    have HSZ := Lib.hid hsz
    clear hsz h hk
    go_enter Tryd.func27, Tryd.ntmps27
    go_wp2_with fail
    refine HSZ.out.mono ?_
    rintro e w' ⟨rfl, rfl⟩
    go_wp2_with fail
    go_quiet (fail)
    go_wp2
    go_ret
    exact ⟨rfl, below_drewN (Below.refl _ _) _⟩
set_option maxRecDepth 100000 in
set_option maxHeartbeats 4000000 in
theorem rpbk_much (w : World) (k : Int) (hk : KindOk k) (v1 v2 : Value) (R N : Nat) (hR1 : 1 ≤ R) (hR2 : R ≤ 65536) (hN1 : 1 ≤ N) (hN2 : N ≤ 65536) (h : 65536 < R * ((N + szN k - 1) / szN k)) :
    Calls Tryd.prog 27 #[.int .i64 k, v1, v2, .int .i64 (R : Int), .int .i64 (N : Int)] w fun e w' => e = .returned (.slice none 0 0) ∧ Below w.heap.size w w' := by
  obtain ⟨s, hs0⟩ : ∃ s, szN k = s := ⟨_, rfl⟩
  have hs20 : 20 ≤ s ∧ s ≤ 64 := by have := szN_le hk; omega
  have hsz := rsize_any w k
  rw [szN_eq hk, hs0] at hsz
  rw [hs0] at h
  obtain ⟨q, hq⟩ : ∃ q, (N + s - 1) / s = q := ⟨_, rfl⟩
  rw [hq] at h
  have hqb : q ≤ 65600 := by rw [← hq]; exact Nat.le_trans (Nat.div_le_self _ _) (by omega)
  have hqI : ((N : Int) + (s : Int) - 1) / (s : Int) = (q : Int) := by rw [← hq, Int.natCast_ediv]; congr 1; omega
  have hqT : ((N : Int) + (s : Int) - 1).tdiv (s : Int) = (q : Int) := by rw [Int.tdiv_eq_ediv_of_nonneg (by omega)]; exact hqI
  obtain ⟨p, hp⟩ : ∃ p, 65536 / R = p := ⟨_, rfl⟩
  have hpI : (65536 : Int) / (R : Int) = (p : Int) := by rw [← hp, Int.natCast_ediv]; rfl
  have hpT : (65536 : Int).tdiv (R : Int) = (p : Int) := by rw [Int.tdiv_eq_ediv_of_nonneg (by omega)]; exact hpI
  have hqp : p < q := by
    apply Nat.lt_of_not_le
    intro hle
    rw [← hp] at hle
    have := (Nat.le_div_iff_mul_le (by omega)).1 hle
    rw [Nat.mul_comm] at this
    omega
  have hpb : p ≤ 65536 := by rw [← hp]; exact Nat.div_le_self _ _
  have b1 : ((s : Int) == 0) = false := by simp; omega
  have b2 : decide ((R : Int) < 1) = false := by simp; omega
  have b3 : decide (65536 < (R : Int)) = false := by simp; omega
  have b4 : decide ((N : Int) < 1) = false := by simp; omega
  have b5 : decide (65536 < (N : Int)) = false := by simp; omega
  have b6 : decide ((p : Int) < (q : Int)) = true := by simp; omega
  have kqp : (p : Int) < q := by omega
  have ks0 : ¬ (s : Int) = 0 := by omega
  have kR0 : ¬ (R : Int) = 0 := by omega
  have ks1 : (20 : Int) ≤ s := by omega
  have ks2 : (s : Int) ≤ 64 := by omega
  have kN1 : (1 : Int) ≤ N := by omega
  have kN2 : (N : Int) ≤ 65536 := by omega
  have kR1 : (1 : Int) ≤ R := by omega
  have kR2 : (R : Int) ≤ 65536 := by omega
  have kq : (q : Int) ≤ 65600 := by omega
  have kp : (p : Int) ≤ 65536 := by omega
  have HSZ := Lib.hid hsz
  clear hsz hk hs0 hq hp h hqb hpb hqp
  go_enter Tryd.func27, Tryd.ntmps27
  go_wp2_with fail
  refine HSZ.out.mono ?_
  rintro e w' ⟨rfl, rfl⟩
  go_wp2_with fail
  go_quiet (fail)
  go_wp2
  go_ret
  exact ⟨rfl, below_drewN (Below.refl _ _) _⟩
/-- the key from a password; nothing where the document gives nothing -/
def pbkK (k : Int) (pin salt : List (BitVec 8)) (R N : Int) : List (BitVec 8) := if (1 ≤ k ∧ k ≤ 5) ∧ (1 ≤ R ∧ R ≤ 65536) ∧ (1 ≤ N ∧ N ≤ 65536) ∧ R.toNat * ((N.toNat + szN k - 1) / szN k) ≤ 65536 then pbkL k pin salt R.toNat N.toNat else []
theorem pbkK_any (w : World) (k : Int) (hGS : StartsG w) (hGR : RootsG w) (B : Nat) (A1 : Option Addr) (n1 c1 : Nat) (pin : List (BitVec 8)) (hs1 : SlV w B A1 n1 c1 (pin.map W8)) (hz1 : A1 = none → c1 = 0) (A2 : Option Addr) (n2 c2 : Nat) (salt : List (BitVec 8)) (hs2 : SlV w B A2 n2 c2 (salt.map W8)) (hz2 : A2 = none → c2 = 0) (hB : B ≤ w.heap.size) (hn1 : n1 ≤ 1000) (hn2 : n2 ≤ 1000) (R N : Int) :
    Calls Tryd.prog 26 #[.int .i64 k, .slice A1 n1 c1, .slice A2 n2 c2, .int .i64 R, .int .i64 N] w fun e w' => ∃ v, e = .returned v ∧ FreshV w' w.heap.size v (pbkK k pin salt R N) ∧ Below w.heap.size w w' := by
  by_cases h0 : (1 ≤ k ∧ k ≤ 5) ∧ (1 ≤ R ∧ R ≤ 65536) ∧ (1 ≤ N ∧ N ≤ 65536)
  · obtain ⟨hk, hR, hN⟩ := h0
    obtain ⟨r, rfl⟩ : ∃ r : Nat, R = (r : Int) := ⟨R.toNat, by omega⟩
    obtain ⟨m, rfl⟩ : ∃ m : Nat, N = (m : Int) := ⟨N.toNat, by omega⟩
    by_cases h : r * ((m + szN k - 1) / szN k) ≤ 65536
    · refine (pbk_any w k hk hGS hGR B A1 n1 c1 pin hs1 hz1 A2 n2 c2 salt hs2 hz2 hB hn1 hn2 r m (by omega) (by omega) (by omega) (by omega) h).mono ?_
      rintro e w' ⟨v, rfl, ho, hb⟩
      refine ⟨v, rfl, ?_, hb⟩
      rw [pbkK, if_pos ⟨hk, hR, hN, by rw [Int.toNat_natCast, Int.toNat_natCast]; exact h⟩, Int.toNat_natCast, Int.toNat_natCast]
      exact ho
    · refine (pbk_much w k hk _ A2 n2 c2 r m (by omega) (by omega) (by omega) (by omega) (by omega)).mono ?_
      rintro e w' ⟨rfl, hb⟩
      refine ⟨_, rfl, ?_, hb⟩
      rw [pbkK, if_neg (fun hh => h (by have := hh.2.2.2; rwa [Int.toNat_natCast, Int.toNat_natCast] at this))]
      exact FreshV.nil_ _ _
  · refine (pbk_no w k _ A2 n2 c2 R N (fun hk => by have hk' : 1 ≤ k ∧ k ≤ 5 := hk; omega)).mono ?_
    rintro e w' ⟨rfl, hb⟩
    refine ⟨_, rfl, ?_, hb⟩
    rw [pbkK, if_neg (fun hh => h0 ⟨hh.1, hh.2.1, hh.2.2.1⟩)]
    exact FreshV.nil_ _ _
theorem rpbkK_any (w : World) (k : Int) (B : Nat) (A1 : Option Addr) (n1 c1 : Nat) (pin : List (BitVec 8)) (hs1 : SlV w B A1 n1 c1 (pin.map W8)) (hz1 : A1 = none → c1 = 0) (A2 : Option Addr) (n2 c2 : Nat) (salt : List (BitVec 8)) (hs2 : SlV w B A2 n2 c2 (salt.map W8)) (hz2 : A2 = none → c2 = 0) (hB : B ≤ w.heap.size) (hn1 : n1 ≤ 1000) (hn2 : n2 ≤ 1000) (R N : Int) :
    Calls Tryd.prog 27 #[.int .i64 k, .slice A1 n1 c1, .slice A2 n2 c2, .int .i64 R, .int .i64 N] w fun e w' => ∃ v, e = .returned v ∧ FreshV w' w.heap.size v (pbkK k pin salt R N) ∧ Below w.heap.size w w' := by
  by_cases h0 : (1 ≤ k ∧ k ≤ 5) ∧ (1 ≤ R ∧ R ≤ 65536) ∧ (1 ≤ N ∧ N ≤ 65536)
  · obtain ⟨hk, hR, hN⟩ := h0
    obtain ⟨r, rfl⟩ : ∃ r : Nat, R = (r : Int) := ⟨R.toNat, by omega⟩
    obtain ⟨m, rfl⟩ : ∃ m : Nat, N = (m : Int) := ⟨N.toNat, by omega⟩
    by_cases h : r * ((m + szN k - 1) / szN k) ≤ 65536
    · refine (rpbk_any w k hk B A1 n1 c1 pin hs1 hz1 A2 n2 c2 salt hs2 hz2 hB hn1 hn2 r m (by omega) (by omega) (by omega) (by omega) h).mono ?_
      rintro e w' ⟨v, rfl, ho, hb⟩
      refine ⟨v, rfl, ?_, hb⟩
      rw [pbkK, if_pos ⟨hk, hR, hN, by rw [Int.toNat_natCast, Int.toNat_natCast]; exact h⟩, Int.toNat_natCast, Int.toNat_natCast]
      exact ho
    · refine (rpbk_much w k hk _ _ r m (by omega) (by omega) (by omega) (by omega) (by omega)).mono ?_
      rintro e w' ⟨rfl, hb⟩
      refine ⟨_, rfl, ?_, hb⟩
      rw [pbkK, if_neg (fun hh => h (by have := hh.2.2.2; rwa [Int.toNat_natCast, Int.toNat_natCast] at this))]
      exact FreshV.nil_ _ _
  · refine (rpbk_no w k _ _ R N (fun hk => by have hk' : 1 ≤ k ∧ k ≤ 5 := hk; omega)).mono ?_
    rintro e w' ⟨rfl, hb⟩
    refine ⟨_, rfl, ?_, hb⟩
    rw [pbkK, if_neg (fun hh => h0 ⟨hh.1, hh.2.1, hh.2.2.1⟩)]
    exact FreshV.nil_ _ _
end Go.Proofs.YtldheblkanimnaaDoor
