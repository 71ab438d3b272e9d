/- aescore: what takes the steps back; the boxes. -/
import Derived.Test.YtabhdkjepbkooaaAo
set_option linter.unusedVariables false
set_option linter.unusedSimpArgs false
namespace Go.Proofs.Ytabhdkjepbkooaa
open Go.RowKit

theorem mixS_len (s : List (BitVec 8)) : (mixS s).length = 16 := mixS_length s
set_option maxRecDepth 100000 in
set_option maxHeartbeats 1600000 in
theorem unmix_any (w : World) (s : List (BitVec 8)) (hl : s.length = 16) : Calls Try.prog 29 #[.agg (s.map W8).toArray] w fun e w' => e = .returned (.agg ((mixS (mixS (mixS s))).map W8).toArray) ∧ Below w.heap.size w w' := by
  obtain ⟨W1, e1, r1, b1, z1⟩ := newS w s
  obtain ⟨W2, e2, r2, b2, z2⟩ := newZ W1
  obtain ⟨g, hg⟩ : ∃ g, w.heap.size = g := ⟨_, rfl⟩
  have hB2 : Below g w W2 := by
    rw [← hg]
    exact b1.trans (b2.mono b1.size)
  have r1 := r1.later b2
  obtain ⟨g2, hg2⟩ : ∃ x, W1.heap.size = x := ⟨_, rfl⟩
  rw [hg] at r1
  rw [hg2] at r2
  have l1 : g < g2 := by omega
  have HG := Lib.hid hg
  have HZ := Lib.hid (show g ≤ W2.heap.size by omega)
  clear b1 b2 z1 z2
  obtain ⟨s1, hs1⟩ : ∃ x, mixS s = x := ⟨_, rfl⟩
  obtain ⟨s2, hs2⟩ : ∃ x, mixS s1 = x := ⟨_, rfl⟩
  obtain ⟨s3, hs3⟩ : ∃ x, mixS s2 = x := ⟨_, rfl⟩
  have m1 : ∀ w, Calls Try.prog 25 #[.agg (s.map W8).toArray] w fun e w' => e = .returned (.agg (s1.map W8).toArray) ∧ Below w.heap.size w w' := fun w => hs1 ▸ mix_any w s hl
  have m2 : ∀ w, Calls Try.prog 25 #[.agg (s1.map W8).toArray] w fun e w' => e = .returned (.agg (s2.map W8).toArray) ∧ Below w.heap.size w w' := fun w => hs2 ▸ mix_any w s1 (by rw [← hs1]; exact mixS_length _)
  have m3 : ∀ w, Calls Try.prog 25 #[.agg (s2.map W8).toArray] w fun e w' => e = .returned (.agg (s3.map W8).toArray) ∧ Below w.heap.size w w' := fun w => hs3 ▸ mix_any w s2 (by rw [← hs2]; exact mixS_length _)
  have hl3 : s3.length = 16 := by rw [← hs3]; exact mixS_length _
  have HS := Lib.hid (And.intro hs1 (And.intro hs2 hs3))
  have M1 := Lib.hid m1
  have M2 := Lib.hid m2
  have M3 := Lib.hid m3
  clear hs1 hs2 hs3 m1 m2 m3
  have hls : (s.map W8).length = 16 := by simpa using hl
  go_enter Try.func29, Try.ntmps29
  go_wp2_with (refine wlv_load rfl 50 16 _ Try.underlying50 Try.arrS _ rfl g rfl _ _ r1 hls ?_)
  refine (M1.out _).mono ?_
  rintro e V1 ⟨rfl, h1⟩
  go_wp2_with fail
  refine (M2.out _).mono ?_
  rintro e V2 ⟨rfl, h2⟩
  go_wp2_with fail
  refine (M3.out _).mono ?_
  rintro e V3 ⟨rfl, h3⟩
  have hB3 : Below W2.heap.size W2 V3 := h1.trans ((h2.mono h1.size).trans (h3.mono (Nat.le_trans h1.size h2.size)))
  have r3 := r2.later hB3
  have HB := Lib.hid hB3
  have hlw : (s3.map W8).length = 16 := by simpa using hl3
  clear h1 h2 h3 e1 e2 hg hg2 hB3
  go_wp2_with (refine wlv_store rfl 50 16 Try.arrS _ _ rfl g2 _ rfl rfl _ _ r3 (by simp) hlw (ones8 _) ?_; intro w2 hr2 hb2 hz2)
  refine ⟨rfl, _, results_rowV rfl _ g2 _ _ rfl hr2 Try.underlying50 Try.arrS hlw, by rw [HS.out.1, HS.out.2.1, HS.out.2.2], ?_⟩
  rw [HG.out]
  exact hb2 _ _ (hB2.trans (HB.out.mono HZ.out)) (by omega)

/-- ShiftRows and SubBytes taken back, with any box -/
def putB (box s : List (BitVec 8)) : List (BitVec 8) := st16 (fun i => boxAt box (s.getD (13 * i % 16) 0))
theorem st16_set (f : Nat → BitVec 8) (j : Nat) (x : BitVec 8) (hj : j < 16) : (st16 f).set j x = st16 (fun i => if i = j then x else f i) := by
  refine List.ext_getElem (by simp [st16]) fun i h1 h2 => ?_
  have hi : i < 16 := by simpa [st16] using h2
  rw [List.getElem_set]
  simp only [st16, List.getElem_map, List.getElem_range]
  by_cases h : j = i
  · subst h; simp
  · rw [if_neg h, if_neg (fun e => h e.symm)]
/-- k bytes put back -/
def putN (box s : List (BitVec 8)) (k : Nat) : List (BitVec 8) := st16 (fun i => if 13 * i % 16 < k then boxAt box (s.getD (13 * i % 16) 0) else 0)
theorem putN_zero (box s : List (BitVec 8)) : putN box s 0 = List.replicate 16 0 := rfl
theorem putN_all (box s : List (BitVec 8)) : putN box s 16 = putB box s := st16_congr fun i hi => by rw [if_pos (Nat.mod_lt _ (by decide))]
theorem putN_succ (box s : List (BitVec 8)) (k : Nat) (hk : k < 16) : (putN box s k).set (5 * k % 16) (boxAt box (s.getD k 0)) = putN box s (k + 1) := by
  unfold putN
  rw [st16_set _ _ _ (Nat.mod_lt _ (by decide))]
  refine st16_congr fun i hi => ?_
  by_cases h : i = 5 * k % 16
  · have h13 : 13 * i % 16 = k := by omega
    rw [if_pos h, h13, if_pos (by omega)]
  · have h13 : 13 * i % 16 ≠ k := by omega
    rw [if_neg h]
    by_cases h2 : 13 * i % 16 < k
    · rw [if_pos h2, if_pos (by omega)]
    · rw [if_neg h2, if_neg (by omega)]

set_option maxRecDepth 100000 in
set_option maxHeartbeats 1600000 in
theorem putBack_any (w : World) (s : List (BitVec 8)) (hl : s.length = 16) (box : List (BitVec 8)) (hbl : box.length = 256) : Calls Try.prog 30 #[.agg (s.map W8).toArray, .agg (box.map W8).toArray] w fun e w' => e = .returned (.agg ((putB box s).map W8).toArray) ∧ Below w.heap.size w w' := by
  obtain ⟨W1, e1, r1, b1, z1⟩ := newS w s
  obtain ⟨W2, e2, r2, b2, z2⟩ := newV W1 47 (box.map W8) _ rfl
  obtain ⟨W3, e3, r3, b3, z3⟩ := newZ W2
  obtain ⟨W4, e4, r4, b4, z4⟩ := newZ W3
  obtain ⟨g, hg⟩ : ∃ g, w.heap.size = g := ⟨_, rfl⟩
  have hB : Below g w W4 := by
    rw [← hg]
    exact b1.trans ((b2.mono b1.size).trans ((b3.mono (Nat.le_trans b1.size b2.size)).trans (b4.mono (Nat.le_trans b1.size (Nat.le_trans b2.size b3.size)))))
  have r1 := ((r1.later b2).later b3).later b4
  have r2 := (r2.later b3).later b4
  have r3 := r3.later b4
  obtain ⟨g2, hg2⟩ : ∃ x, W1.heap.size = x := ⟨_, rfl⟩
  obtain ⟨g3, hg3⟩ : ∃ x, W2.heap.size = x := ⟨_, rfl⟩
  obtain ⟨g4, hg4⟩ : ∃ x, W3.heap.size = x := ⟨_, rfl⟩
  rw [hg] at r1
  rw [hg2] at r2
  rw [hg3] at r3
  rw [hg4] at r4
  have l1 : g < g4 := by omega
  have l2 : g2 < g4 := by omega
  have l3 : g3 < g4 := by omega
  have l4 : g ≤ g3 := by omega
  have HG := Lib.hid hg
  clear b1 b2 b3 b4 z1 z2 z3 z4
  go_enter Try.func30, Try.ntmps30
  go_wp2
  clear e1 e2 e3 e4 hg hg2 hg3 hg4
  go_loopw [7] (fun i wr => ∃ k : Nat, k ≤ 16 ∧ i = .int .i64 (k : Nat) ∧ RowV 50 wr g4 ((putN box s k).map W8) ∧ Below g4 W4 wr) (fun i _ => 16 - (intOf i).toNat)
  case atStart => exact ⟨0, by decide, rfl, r4, Below.refl _ _⟩
  case round =>
    obtain ⟨k, hk, rfl, hr, hBr⟩ := hrel
    by_cases hk8 : k = 16
    · subst hk8
      rw [putN_all] at hr
      have hlw : ((putB box s).map W8).length = 16 := by simp [putB, st16]
      have r3' := r3.below hBr l3
      obtain ⟨R, hR⟩ : ∃ R, putB box s = R := ⟨_, rfl⟩
      rw [hR] at hr hlw
      have HR := Lib.hid hR
      clear hR
      go_wp2_with (first | refine wlv_load rfl 50 16 _ Try.underlying50 Try.arrS _ rfl g4 rfl _ _ hr hlw ?_ | (refine wlv_store rfl 50 16 Try.arrS _ _ rfl g3 _ rfl rfl _ _ r3' (by simp) hlw (ones8 _) ?_; intro w2 hr2 hb2 hz2))
      refine ⟨rfl, _, results_rowV rfl _ g3 _ _ rfl hr2 Try.underlying50 Try.arrS hlw, by rw [HR.out], ?_⟩
      rw [HG.out]
      exact hb2 _ _ (hB.trans (hBr.mono (by omega))) l4
    · have hki : (k : Int) < 16 := by omega
      have hps := putN_succ box s k (by omega)
      obtain ⟨j, hj⟩ : ∃ j, 5 * k % 16 = j := ⟨_, rfl⟩
      have hjl : j < 16 := by omega
      have hji : (5 * (k : Int)) % 16 = (j : Int) := by omega
      obtain ⟨x, hx⟩ : ∃ x, s.getD k 0 = x := ⟨_, rfl⟩
      have c1 := (r1.below hBr l1).at_ (map_at (l := s) (k := k) (by omega))
      rw [hx] at c1
      have c2 := (r2.below hBr l2).at_ (map_at (l := box) (k := x.toNat) (by have := x.isLt; omega))
      rw [show box.getD x.toNat 0 = boxAt box x from rfl, ← i8_nat x] at c2
      have h8 := i8_lt x
      rw [hj, hx] at hps
      have hfz := hr.frozen j
      obtain ⟨z, hz⟩ : ∃ z, (putN box s k).getD j 0 = z := ⟨_, rfl⟩
      have hcl := hr.at_ (map_at (l := putN box s k) (k := j) (by simp [putN, st16]; omega))
      rw [hz] at hcl
      have hr2 := hr.set j (W8 (boxAt box x))
      rw [← List.map_set, hps] at hr2
      have hB2 := below_setV hBr (Nat.le_refl _) j (W8 (boxAt box x))
      have HR2 := Lib.hid hr2
      have HB2 := Lib.hid hB2
      clear hr2 hB2 hr hBr hps hx hj hz
      go_wp2
      go_roundw
      case rel => exact ⟨k + 1, by omega, by go_num, HR2.out, HB2.out⟩
      case measure => simp [intOf]; omega
end Go.Proofs.Ytabhdkjepbkooaa
