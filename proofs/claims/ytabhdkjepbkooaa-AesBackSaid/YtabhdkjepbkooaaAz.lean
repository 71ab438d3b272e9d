/- aescore: word; bytes of an element. -/
import Derived.Test.YtabhdkjepbkooaaAy
import Derived.Test.YtabhdkjepbkooaaAp
set_option linter.unusedVariables false
set_option linter.unusedSimpArgs false
namespace Go.Proofs.Ytabhdkjepbkooaa
open Go.RowKit

theorem foldQ_succ (bs : List (BitVec 8)) (k : Nat) (b : BitVec 8) (h : bs[k]? = some b) : foldQ (bs.take (k + 1)) = foldQ (bs.take k) <<< 8 ||| b.setWidth 64 := by
  rw [List.take_add_one, h]; simp [foldQ]
set_option maxRecDepth 100000 in
set_option maxHeartbeats 1600000 in
theorem word_any (w : World) (B b off n c : Nat) (bs : List (BitVec 8)) (hs : SlV w B (some ⟨b, off, none⟩) n c (bs.map W8)) (hn : n = 8) :
    Calls Try.prog 44 #[.slice (some ⟨b, off, none⟩) n c] w fun e w' => e = .returned (W64 (foldQ bs)) ∧ w = w' := by
  have hl : bs.length = 8 := by have := hs.len; simp at this; omega
  have o64 := b64_or
  have s64 : ∀ x : BitVec 64, IntKind.u64.wrap (i64 x * 256) = i64 (x <<< 8) := fun x => b64_shl x 8
  subst hn
  go_enter Try.func44, Try.ntmps44
  go_wp2
  go_loopw [2, 7] (fun x j wr => ∃ k : Nat, k ≤ 8 ∧ j = .int .i64 (k : Nat) ∧ x = W64 (foldQ (bs.take k)) ∧ wr = w) (fun _ j _ => 8 - (intOf j).toNat)
  case atStart => exact ⟨0, by decide, rfl, rfl, rfl⟩
  case round =>
    obtain ⟨k, hk, rfl, rfl, rfl⟩ := hrel
    by_cases hk8 : k = 8
    · subst hk8
      rw [List.take_of_length_le (by omega)]
      go_wp2
      go_ret
      exact ⟨rfl, rfl⟩
    · have hki : (k : Int) < 8 := by omega
      obtain ⟨b2, o2, v, e1, hb, hv, hcl⟩ := hs.at_ (k := k) (by omega)
      injection e1 with e1
      injection e1 with e1 e2
      subst e1 e2
      rw [List.getElem?_map, Option.map_eq_some_iff] at hv
      obtain ⟨x, hx, rfl⟩ := hv
      have hst := foldQ_succ bs k x hx
      have h8 := i8_lt x
      have hcv : i8 x = i64 (x.setWidth 64) := c8_64'' x
      have HST := Lib.hid hst
      clear hst hx
      go_wp2
      go_roundw
      case rel => exact ⟨k + 1, by omega, by go_num, by rw [HST.out], by first | rfl | trivial⟩
      case measure => simp [intOf]; omega
/-- the bytes of the halves, k of each written -/
def halfN (h l : BitVec 64) (k : Nat) : List (BitVec 8) := st16 (fun i => if i < 8 then (if i < k then (h >>> (56 - 8 * i)).setWidth 8 else 0) else (if i - 8 < k then (l >>> (56 - 8 * (i - 8))).setWidth 8 else 0))
theorem halfN_zero (h l : BitVec 64) : halfN h l 0 = List.replicate 16 0 := rfl
theorem halfN_all (h l : BitVec 64) : halfN h l 8 = byV (h ++ l) := by
  rw [byV_halves]
  have e : (List.range 8).map (fun k => (h >>> (56 - 8 * k)).setWidth 8) ++ (List.range 8).map (fun k => (l >>> (56 - 8 * k)).setWidth 8) = st16 (fun k => if k < 8 then (h >>> (56 - 8 * k)).setWidth 8 else (l >>> (56 - 8 * (k - 8))).setWidth 8) := rfl
  rw [e]
  unfold halfN
  refine st16_congr fun i hi => ?_
  by_cases h8 : i < 8
  · rw [if_pos h8, if_pos h8, if_pos h8]
  · rw [if_neg h8, if_neg h8, if_pos (by omega)]
theorem halfN_succ (h l : BitVec 64) (k : Nat) (hk : k < 8) : ((halfN h l k).set k ((h >>> (56 - 8 * k)).setWidth 8)).set (8 + k) ((l >>> (56 - 8 * k)).setWidth 8) = halfN h l (k + 1) := by
  unfold halfN
  rw [st16_set _ _ _ (by omega), st16_set _ _ _ (by omega)]
  refine st16_congr fun i hi => ?_
  by_cases e1 : i = 8 + k
  · subst e1
    rw [if_pos rfl, if_neg (by omega), if_pos (by omega), show 8 + k - 8 = k by omega]
  · rw [if_neg e1]
    by_cases e2 : i = k
    · subst e2
      rw [if_pos rfl, if_pos hk, if_pos (by omega)]
    · rw [if_neg e2]
      by_cases h8 : i < 8
      · rw [if_pos h8, if_pos h8]
        by_cases h9 : i < k
        · rw [if_pos h9, if_pos (by omega)]
        · rw [if_neg h9, if_neg (by omega)]
      · rw [if_neg h8, if_neg h8]
        by_cases h9 : i - 8 < k
        · rw [if_pos h9, if_pos (by omega)]
        · rw [if_neg h9, if_neg (by omega)]
end Go.Proofs.Ytabhdkjepbkooaa
