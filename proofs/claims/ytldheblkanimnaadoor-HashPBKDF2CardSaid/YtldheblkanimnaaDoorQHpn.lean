/- hashes: PBKDF2, what is refused. -/
import Derived.Test.YtldheblkanimnaaDoorPileB9
set_option linter.unusedVariables false
set_option linter.unusedSimpArgs false
namespace Go.Proofs.YtldheblkanimnaaDoor
open Go.RowKit Go.Shelf

set_option maxRecDepth 100000 in
set_option maxHeartbeats 1000000 in
theorem pbk_no (w : World) (k : Int) (v1 : Value) (A : Option Addr) (n c : Nat) (R N : Int) (h : KindOk k → R < 1 ∨ 65536 < R ∨ N < 1 ∨ 65536 < N) :
    Calls Tryd.prog 26 #[.int .i64 k, v1, .slice A n c, .int .i64 R, .int .i64 N] w fun e w' => e = .returned (.slice none 0 0) ∧ Below w.heap.size w w' := by
  obtain ⟨W1, e1, hB1, b1, s1⟩ := newBox w 22 (.slice A n c)
  obtain ⟨W2, e2, hB2, b2, s2⟩ := newBox W1 3 (.int .i64 R)
  obtain ⟨x2, hx2⟩ : ∃ b, W1.heap.size = b := ⟨_, rfl⟩
  rw [hx2] at b2
  have hB12 : Below w.heap.size w W2 := hB1.trans (hB2.mono hB1.size)
  have q2 := b2.1
  have HB12 := Lib.hid hB12
  clear hB12 hB1 hB2 b1 b2 s1 s2
  by_cases hk : KindOk k
  · have hv := valid_yes W2 k hk
    have HV := Lib.hid hv
    clear hv
    have hN := h hk
    clear h
    by_cases h1 : R < 1
    · clear hN
      go_enter Tryd.func26, Tryd.ntmps26
      go_wp2_with fail
      refine HV.out.mono ?_
      rintro e w' ⟨rfl, rfl⟩
      go_wp2
      go_ret
      exact ⟨rfl, HB12.out⟩
    · by_cases h2 : 65536 < R
      · clear hN
        go_enter Tryd.func26, Tryd.ntmps26
        go_wp2_with fail
        refine HV.out.mono ?_
        rintro e w' ⟨rfl, rfl⟩
        go_wp2
        go_ret
        exact ⟨rfl, HB12.out⟩
      · by_cases h3 : N < 1
        · clear hN
          go_enter Tryd.func26, Tryd.ntmps26
          go_wp2_with fail
          refine HV.out.mono ?_
          rintro e w' ⟨rfl, rfl⟩
          go_wp2
          go_ret
          exact ⟨rfl, HB12.out⟩
        · have h4 : 65536 < N := by omega
          clear hN
          go_enter Tryd.func26, Tryd.ntmps26
          go_wp2_with fail
          refine HV.out.mono ?_
          rintro e w' ⟨rfl, rfl⟩
          go_wp2
          go_ret
          exact ⟨rfl, HB12.out⟩
  · have hv := valid_no W2 k hk
    have HV := Lib.hid hv
    clear hv h
    go_enter Tryd.func26, Tryd.ntmps26
    go_wp2_with fail
    refine HV.out.mono ?_
    rintro e w' ⟨rfl, rfl⟩
    go_wp2
    go_ret
    exact ⟨rfl, HB12.out⟩
set_option maxRecDepth 100000 in
set_option maxHeartbeats 1000000 in
theorem pbk_much (w : World) (k : Int) (hk : KindOk k) (v1 : Value) (A : Option Addr) (n c : Nat) (R N : Nat) (hR1 : 1 ≤ R) (hR2 : R ≤ 65536) (hN1 : 1 ≤ N) (hN2 : N ≤ 65536) (h : 65536 < R * ((N + szN k - 1) / szN k)) :
    Calls Tryd.prog 26 #[.int .i64 k, v1, .slice A n c, .int .i64 (R : Int), .int .i64 (N : Int)] w fun e w' => e = .returned (.slice none 0 0) ∧ Below w.heap.size w w' := by
  obtain ⟨W1, e1, hB1, b1, s1⟩ := newBox w 22 (.slice A n c)
  obtain ⟨W2, e2, hB2, b2, s2⟩ := newBox W1 3 (.int .i64 (R : Int))
  obtain ⟨x2, hx2⟩ : ∃ b, W1.heap.size = b := ⟨_, rfl⟩
  rw [hx2] at b2
  have hB12 : Below w.heap.size w W2 := hB1.trans (hB2.mono hB1.size)
  have q2 := b2.1
  have HB12 := Lib.hid hB12
  have hv := valid_yes W2 k hk
  have hsz := size_any W2 k
  rw [szN_eq hk] at hsz
  obtain ⟨hs1, hs2⟩ := szN_ok hk
  obtain ⟨s, hs⟩ : ∃ s, szN k = s := ⟨_, rfl⟩
  rw [hs] at hsz h hs1 hs2
  obtain ⟨q, hq⟩ : ∃ q, (N + s - 1) / s = q := ⟨_, rfl⟩
  rw [hq] at h
  have hqI : ((N : Int) + (s : Int) - 1) / (s : Int) = (q : Int) := by rw [← hq, Int.natCast_ediv]; congr 1; omega
  have hqb : q ≤ 65600 := by rw [← hq]; exact Nat.le_trans (Nat.div_le_self _ _) (by omega)
  obtain ⟨p, hp⟩ : ∃ p, R * q = p := ⟨_, rfl⟩
  have hpI : (R : Int) * (q : Int) = (p : Int) := by rw [← hp]; simp
  rw [hp] at h
  have hpb : p ≤ 65536 * 65600 := by rw [← hp]; exact Nat.mul_le_mul hR2 hqb
  have kR1 : (1 : Int) ≤ R := by omega
  have kR2 : (R : Int) ≤ 65536 := by omega
  have kN1 : (1 : Int) ≤ N := by omega
  have kN2 : (N : Int) ≤ 65536 := by omega
  have ks1 : (1 : Int) ≤ s := by omega
  have ks2 : (s : Int) ≤ 64 := by omega
  have kq2 : (q : Int) ≤ 65600 := by omega
  have kp : (65536 : Int) < p := by omega
  have kpb : (p : Int) ≤ 4299161600 := by omega
  have HV := Lib.hid hv
  have HSZ := Lib.hid hsz
  clear hB12 hB1 hB2 b1 b2 s1 s2 hv hsz hq hp hs h hpb hqb
  go_enter Tryd.func26, Tryd.ntmps26
  go_wp2_with fail
  refine HV.out.mono ?_
  rintro e w' ⟨rfl, rfl⟩
  go_wp2_with fail
  refine HSZ.out.mono ?_
  rintro e w' ⟨rfl, rfl⟩
  go_wp2
  go_quiet (fail)
  go_wp2
  go_ret
  exact ⟨rfl, below_drewN HB12.out _⟩
end Go.Proofs.YtldheblkanimnaaDoor
