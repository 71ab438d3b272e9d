/- aescore: the steps of a round. -/
import Derived.Test.YtabhdkjepbkooaaAi
import Derived.Test.YtabhdkjepbkooaaAl
set_option linter.unusedVariables false
set_option linter.unusedSimpArgs false
namespace Go.Proofs.Ytabhdkjepbkooaa
open Go.RowKit

theorem Try.arrS : (Try.prog.info? 50).map (·.size) = some 16 := by kernel_rfl
theorem Try.arr256 : (Try.prog.info? 47).map (·.size) = some 256 := by kernel_rfl
/-- SubBytes and ShiftRows with any box -/
def replB (box s : List (BitVec 8)) : List (BitVec 8) := st16 (fun i => boxAt box (s.getD (5 * i % 16) 0))
theorem replB_box (s : List (BitVec 8)) : replB boxL s = replV s := rfl
theorem map_at {l : List (BitVec 8)} {k : Nat} (h : k < l.length) : (l.map W8)[k]? = some (W8 (l.getD k 0)) := by
  rw [List.getElem?_map, List.getD_eq_getElem?_getD, List.getElem?_eq_getElem h]; rfl
theorem i8_nat (x : BitVec 8) : (i8 x).toNat = x.toNat := by simp [i8]
theorem get_at {l : List (BitVec 8)} {k : Nat} (h : k < l.length) : l[k]? = some (l.getD k 0) := by
  rw [List.getD_eq_getElem?_getD, List.getElem?_eq_getElem h]; rfl

/-- sixteen bytes of 0 -/
theorem newZ (w : World) : ∃ W, w.alloc (.cells #[.int .u8 0, .int .u8 0, .int .u8 0, .int .u8 0, .int .u8 0, .int .u8 0, .int .u8 0, .int .u8 0, .int .u8 0, .int .u8 0, .int .u8 0, .int .u8 0, .int .u8 0, .int .u8 0, .int .u8 0, .int .u8 0] 50) = W ∧ RowV 50 W w.heap.size ((List.replicate 16 (0 : BitVec 8)).map W8) ∧ Below w.heap.size w W ∧ W.heap.size = w.heap.size + 1 :=
  newV w 50 ((List.replicate 16 (0 : BitVec 8)).map W8) _ rfl
theorem newS (w : World) (s : List (BitVec 8)) : ∃ W, w.alloc (.cells (s.map W8).toArray 50) = W ∧ RowV 50 W w.heap.size (s.map W8) ∧ Below w.heap.size w W ∧ W.heap.size = w.heap.size + 1 :=
  newV w 50 (s.map W8) _ rfl

set_option maxRecDepth 100000 in
set_option maxHeartbeats 1600000 in
theorem replace_any (w : World) (s : List (BitVec 8)) (hl : s.length = 16) (box : List (BitVec 8)) (hbl : box.length = 256) : Calls Try.prog 24 #[.agg (s.map W8).toArray, .agg (box.map W8).toArray] w fun e w' => e = .returned (.agg ((replB box s).map W8).toArray) ∧ Below w.heap.size w w' := by
  obtain ⟨W1, e1, r1, b1, z1⟩ := newS w s
  obtain ⟨W2, e2, r2, b2, z2⟩ := newV W1 47 (box.map W8) _ rfl
  obtain ⟨W3, e3, r3, b3, z3⟩ := newZ W2
  obtain ⟨W4, e4, r4, b4, z4⟩ := newZ W3
  obtain ⟨g, hg⟩ : ∃ g, w.heap.size = g := ⟨_, rfl⟩
  have hB : Below g w W4 := by
    rw [← hg]
    exact b1.trans ((b2.mono b1.size).trans ((b3.mono (Nat.le_trans b1.size b2.size)).trans (b4.mono (Nat.le_trans b1.size (Nat.le_trans b2.size b3.size)))))
  have r1 := ((r1.later b2).later b3).later b4
  have r2 := (r2.later b3).later b4
  have r3 := r3.later b4
  obtain ⟨g2, hg2⟩ : ∃ x, W1.heap.size = x := ⟨_, rfl⟩
  obtain ⟨g3, hg3⟩ : ∃ x, W2.heap.size = x := ⟨_, rfl⟩
  obtain ⟨g4, hg4⟩ : ∃ x, W3.heap.size = x := ⟨_, rfl⟩
  rw [hg] at r1
  rw [hg2] at r2
  rw [hg3] at r3
  rw [hg4] at r4
  have l1 : g < g4 := by omega
  have l2 : g2 < g4 := by omega
  have l3 : g3 < g4 := by omega
  have l4 : g ≤ g3 := by omega
  have HG := Lib.hid hg
  clear b1 b2 b3 b4 z1 z2 z3 z4
  obtain ⟨R, hR⟩ : ∃ R, replB box s = R := ⟨_, rfl⟩
  have hRl : R.length = 16 := by rw [← hR]; exact st16_length _
  have hRk : ∀ k, k < 16 → R[k]? = some (boxAt box (s.getD (5 * k % 16) 0)) := fun k hk => by
    rw [get_at (by omega), ← hR, replB, st16_get _ k hk]
  have HR := Lib.hid hR
  clear hR
  go_enter Try.func24, Try.ntmps24
  go_wp2
  clear e1 e2 e3 e4 hg hg2 hg3 hg4
  go_loopw [7] (fun i wr => ∃ k : Nat, k ≤ 16 ∧ i = .int .i64 (k : Nat) ∧ RowV 50 wr g4 ((R.take k ++ List.replicate (R.length - k) 0).map W8) ∧ Below g4 W4 wr) (fun i _ => 16 - (intOf i).toNat)
  case atStart => exact ⟨0, by decide, rfl, by rw [fill_zero, hRl]; exact r4, Below.refl _ _⟩
  case round =>
    obtain ⟨k, hk, rfl, hr, hBr⟩ := hrel
    by_cases hk8 : k = 16
    · subst hk8
      rw [fill_all _ _ _ hRl.symm] at hr
      have hlw : (R.map W8).length = 16 := by simpa using hRl
      have r3' := r3.below hBr l3
      go_wp2_with (first | refine wlv_load rfl 50 16 _ Try.underlying50 Try.arrS _ rfl g4 rfl _ _ hr hlw ?_ | (refine wlv_store rfl 50 16 Try.arrS _ _ rfl g3 _ rfl rfl _ _ r3' (by simp) hlw (ones8 _) ?_; intro w2 hr2 hb2 hz2))
      refine ⟨rfl, _, results_rowV rfl _ g3 _ _ rfl hr2 Try.underlying50 Try.arrS hlw, by rw [HR.out], ?_⟩
      rw [HG.out]
      exact hb2 _ _ (hB.trans (hBr.mono (by omega))) l4
    · have hki : (k : Int) < 16 := by omega
      obtain ⟨j, hj⟩ : ∃ j, 5 * k % 16 = j := ⟨_, rfl⟩
      have hjl : j < 16 := by omega
      have hji : (5 * (k : Int)) % 16 = (j : Int) := by omega
      obtain ⟨x, hx⟩ : ∃ x, s.getD j 0 = x := ⟨_, rfl⟩
      have c1 := (r1.below hBr l1).at_ (map_at (l := s) (k := j) (by omega))
      rw [hx] at c1
      have c2 := (r2.below hBr l2).at_ (map_at (l := box) (k := x.toNat) (by have := x.isLt; omega))
      rw [show box.getD x.toNat 0 = boxAt box x from rfl] at c2
      rw [← i8_nat x] at c2
      have h8 := i8_lt x
      have hRk2 := hRk k (by omega)
      rw [hj, hx] at hRk2
      have hfz := hr.frozen k
      have hcl : wr.cell? ⟨g4, k, none⟩ = some (.int .u8 0) := hr.at_ (by rw [List.getElem?_map, fill_get _ _ _ (by omega)]; rfl)
      have hr2 := hr.set k (W8 (boxAt box x))
      rw [← List.map_set, fill_set _ _ _ _ hRk2] at hr2
      have hB2 := below_setV hBr (Nat.le_refl _) k (W8 (boxAt box x))
      have HR2 := Lib.hid hr2
      have HB2 := Lib.hid hB2
      clear hr2 hB2 hr hBr hRk hRk2 hx hj
      go_wp2
      go_roundw
      case rel => exact ⟨k + 1, by omega, by go_num, HR2.out, HB2.out⟩
      case measure => simp [intOf]; omega
end Go.Proofs.Ytabhdkjepbkooaa
