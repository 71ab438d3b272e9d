/- aescore: the boxes. -/
import Derived.Test.YtabhdkjepbkooaaAp
import Derived.Test.YtabhdkjepbkooaaZc
set_option linter.unusedVariables false
set_option linter.unusedSimpArgs false
namespace Go.Proofs.Ytabhdkjepbkooaa
open Go.RowKit
attribute [local go_sem] Try.zeroValue47 Try.zeroCells47_size Try.zeroCells47_ne

theorem run_index256 (w : World) (xs : List (BitVec 8)) (hl : xs.length = 256) (k : Nat) (x : BitVec 8) (hk : xs[k]? = some x) : (Instr.index 47 (.agg (xs.map W8).toArray) (.int .i64 (k : Int))).run Try.prog w = .ok (W8 x) w := by
  have hkn : k < 256 := by rw [← hl]; exact (List.getElem?_eq_some_iff.1 hk).1
  have h0 : (0 : Int) ≤ k := by omega
  have h1 : ¬ 256 ≤ k := by omega
  simp [Instr.index, run_underlying Try.underlying47, asIntOf, part, h0, h1, hk, go_sem]
theorem new256 (w : World) : ∃ W, w.alloc (.cells Try.zeroCells47 47) = W ∧ RowV 47 W w.heap.size ((List.replicate 256 (0 : BitVec 8)).map W8) ∧ Below w.heap.size w W ∧ W.heap.size = w.heap.size + 1 :=
  newV w 47 ((List.replicate 256 (0 : BitVec 8)).map W8) Try.zeroCells47 (by kernel_rfl)
/-- the box that takes the first k bytes of a box back -/
def invN (box : List (BitVec 8)) : Nat → List (BitVec 8)
  | 0 => List.replicate 256 0
  | k + 1 => (invN box k).set (box.getD k 0).toNat (BitVec.ofNat 8 k)
theorem invN_length (box : List (BitVec 8)) : ∀ k, (invN box k).length = 256
  | 0 => by rw [invN, List.length_replicate]
  | k + 1 => by rw [invN, List.length_set, invN_length box k]
theorem invN_box : invN boxL 256 = invL := by decide +kernel
theorem boxL_length : boxL.length = 256 := by kernel_rfl
theorem invL_length : invL.length = 256 := by kernel_rfl
theorem i8_ofNat (k : Nat) (h : k < 256) : i8 (BitVec.ofNat 8 k) = (k : Int) := by unfold i8; rw [BitVec.toNat_ofNat]; omega

set_option maxRecDepth 100000 in
set_option maxHeartbeats 1600000 in
theorem inverse_any (w : World) (box : List (BitVec 8)) (hbl : box.length = 256) : Calls Try.prog 27 #[.agg (box.map W8).toArray] w fun e w' => e = .returned (.agg ((invN box 256).map W8).toArray) ∧ Below w.heap.size w w' := by
  obtain ⟨W1, e1, r1, b1, z1⟩ := newV w 47 (box.map W8) _ rfl
  obtain ⟨W2, e2, r2, b2, z2⟩ := new256 W1
  obtain ⟨W3, e3, r3, b3, z3⟩ := new256 W2
  obtain ⟨g, hg⟩ : ∃ g, w.heap.size = g := ⟨_, rfl⟩
  have hB : Below g w W3 := by
    rw [← hg]
    exact b1.trans ((b2.mono b1.size).trans (b3.mono (Nat.le_trans b1.size b2.size)))
  have r1 := (r1.later b2).later b3
  have r2 := r2.later b3
  obtain ⟨g2, hg2⟩ : ∃ x, W1.heap.size = x := ⟨_, rfl⟩
  obtain ⟨g3, hg3⟩ : ∃ x, W2.heap.size = x := ⟨_, rfl⟩
  rw [hg] at r1
  rw [hg2] at r2
  rw [hg3] at r3
  have l1 : g < g3 := by omega
  have l2 : g2 < g3 := by omega
  have l4 : g ≤ g2 := by omega
  have HG := Lib.hid hg
  clear b1 b2 b3 z1 z2 z3
  have hlb : (box.map W8).length = 256 := by simpa using hbl
  go_enter Try.func27, Try.ntmps27
  go_wp2_with (refine wlv_load rfl 47 256 _ Try.underlying47 Try.arr256 _ rfl g rfl _ _ r1 hlb ?_)
  clear e1 e2 e3 hg hg2 hg3
  go_loopw [7] (fun i wr => ∃ k : Nat, k ≤ 256 ∧ i = .int .i64 (k : Nat) ∧ RowV 47 wr g3 ((invN box k).map W8) ∧ Below g3 W3 wr) (fun i _ => 256 - (intOf i).toNat)
  case atStart => exact ⟨0, by decide, rfl, r3, Below.refl _ _⟩
  case round =>
    obtain ⟨k, hk, rfl, hr, hBr⟩ := hrel
    by_cases hk8 : k = 256
    · subst hk8
      have hlw : ((invN box 256).map W8).length = 256 := by rw [List.length_map]; exact invN_length box 256
      have r2' := r2.below hBr l2
      obtain ⟨R, hR⟩ : ∃ R, invN box 256 = R := ⟨_, rfl⟩
      rw [hR] at hr hlw
      have HR := Lib.hid hR
      clear hR
      go_wp2_with (first | refine wlv_load rfl 47 256 _ Try.underlying47 Try.arr256 _ rfl g3 rfl _ _ hr hlw ?_ | (refine wlv_store rfl 47 256 Try.arr256 _ _ rfl g2 _ rfl rfl _ _ r2' (by rw [List.length_map, List.length_replicate]) hlw (ones8 _) ?_; intro w2 hr2 hb2 hz2))
      refine ⟨rfl, _, results_rowV rfl _ g2 _ _ rfl hr2 Try.underlying47 Try.arr256 hlw, by rw [HR.out], ?_⟩
      rw [HG.out]
      exact hb2 _ _ (hB.trans (hBr.mono (by omega))) l4
    · have hki : (k : Int) < 256 := by omega
      obtain ⟨x, hx⟩ : ∃ x, box.getD k 0 = x := ⟨_, rfl⟩
      have hix := run_index256 wr box hbl k x (by rw [get_at (by omega), hx])
      have h8 := i8_lt x
      have hcv := i8_ofNat k (by omega)
      obtain ⟨j, hj⟩ : ∃ j, (i8 x).toNat = j := ⟨_, rfl⟩
      have hjl : j < 256 := by omega
      have hfz := hr.frozen j
      obtain ⟨z, hz⟩ : ∃ z, (invN box k).getD j 0 = z := ⟨_, rfl⟩
      have hcl := hr.at_ (map_at (l := invN box k) (k := j) (by rw [invN_length]; exact hjl))
      rw [hz] at hcl
      have hr2 := hr.set j (W8 (BitVec.ofNat 8 k))
      rw [← List.map_set, show (invN box k).set j (BitVec.ofNat 8 k) = invN box (k + 1) by rw [invN, hx, ← hj, i8_nat]] at hr2
      have hB2 := below_setV hBr (Nat.le_refl _) j (W8 (BitVec.ofNat 8 k))
      rw [show W8 (BitVec.ofNat 8 k) = .int .u8 (k : Int) by rw [← hcv]] at hr2 hB2
      have HR2 := Lib.hid hr2
      have HB2 := Lib.hid hB2
      clear hr2 hB2 hr hBr hx hz hcv
      go_wp2
      go_roundw
      case rel => exact ⟨k + 1, by omega, by go_num, HR2.out, HB2.out⟩
      case measure => simp [intOf]; omega
theorem wlv_build {P : Program} {w : World} {ops : Array Oper} {rest : List Oper} {o : Oper} {a : Act} {Q : Exit → Act → World → Prop} (hgd : o.guard = none) (v : Value) (hr : (execOp a.eval o).run P w = .ok (.value v) w) (h : wpList P ops Q rest (a.put o.dst v) w) : wpList P ops Q (o :: rest) a w := by
  refine wpList_plain hgd fun K hK => ?_
  unfold Oper.wp
  rw [hr]
  exact hK _ _ h
set_option maxRecDepth 100000 in
set_option maxHeartbeats 1600000 in
theorem sbox_any (w : World) : Calls Try.prog 23 #[] w fun e w' => e = .returned (.agg (boxL.map W8).toArray) ∧ Below w.heap.size w w' := by
  obtain ⟨W1, e1, r1, b1, z1⟩ := new256 w
  obtain ⟨g, hg⟩ : ∃ g, w.heap.size = g := ⟨_, rfl⟩
  rw [hg] at r1 b1
  have HG := Lib.hid hg
  have hlb : (boxL.map W8).length = 256 := by kernel_rfl
  obtain ⟨bl, hbl⟩ : ∃ l, boxL = l := ⟨_, rfl⟩
  have HBL := Lib.hid hbl
  go_enter Try.func23, Try.ntmps23
  go_wp2_with (first | refine wlv_build (o := ⟨some 1, _, _, _, _, _⟩) rfl (.agg (boxL.map W8).toArray) (by kernel_rfl) ?_ | (refine wlv_store rfl 47 256 Try.arr256 _ _ rfl g (boxL.map W8) rfl rfl _ _ r1 (by rw [List.length_map, List.length_replicate]) hlb (ones8 _) ?_; intro w2 hr2 hb2 hz2))
  refine ⟨rfl, _, results_rowV rfl _ g _ _ rfl hr2 Try.underlying47 Try.arr256 hlb, rfl, ?_⟩
  rw [HG.out]
  exact hb2 _ _ b1 (Nat.le_refl _)
end Go.Proofs.Ytabhdkjepbkooaa
