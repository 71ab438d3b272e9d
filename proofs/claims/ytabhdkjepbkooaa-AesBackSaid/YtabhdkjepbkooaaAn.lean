/- aescore: MixColumns and the other steps. -/
import Derived.Test.YtabhdkjepbkooaaAm
import Derived.Test.YtabhdkjepbkooaaPure
import Derived.StillTailTactics
set_option linter.unusedVariables false
set_option linter.unusedSimpArgs false
namespace Go.Proofs.Ytabhdkjepbkooaa
open Go.RowKit

theorem mixed_set {α : Type} (ys ss : List α) (k : Nat) (y : α) (hl : ys.length = ss.length) (hy : ys[k]? = some y) : (ys.take k ++ ss.drop k).set k y = ys.take (k + 1) ++ ss.drop (k + 1) := by
  have hk : k < ys.length := (List.getElem?_eq_some_iff.1 hy).1
  have h1 : (ys.take k).length = k := by rw [List.length_take]; omega
  rw [List.set_append_right _ _ (by omega), h1, Nat.sub_self, List.drop_eq_getElem_cons (by omega), List.set_cons_zero, List.take_add_one, hy]
  simp
theorem mixed_get {α : Type} (ys ss : List α) (k j : Nat) (h : k ≤ j) (hl : k ≤ ys.length) : (ys.take k ++ ss.drop k)[j]? = ss[j]? := by
  have h1 : (ys.take k).length = k := by rw [List.length_take]; omega
  rw [List.getElem?_append_right (by omega), h1, List.getElem?_drop]
  congr 1; omega

set_option maxRecDepth 100000 in
set_option maxHeartbeats 1600000 in
theorem add_any (w : World) (s : List (BitVec 8)) (hl : s.length = 16) (B : Nat) (A : Option Addr) (n c : Nat) (key : List (BitVec 8)) (hs : SlV w B A n c (key.map W8)) (hB : B ≤ w.heap.size) (hn : n = 16) : Calls Try.prog 26 #[.agg (s.map W8).toArray, .slice A n c] w fun e w' => e = .returned (.agg ((addV s key).map W8).toArray) ∧ Below w.heap.size w w' := by
  have hkl : key.length = 16 := by have := hs.len; simp at this; omega
  obtain ⟨W1, e1, r1, b1, z1⟩ := newS w s
  obtain ⟨W2, e2, r2, b2, z2⟩ := newZ W1
  obtain ⟨g, hg⟩ : ∃ g, w.heap.size = g := ⟨_, rfl⟩
  have hB2 : Below g w W2 := by
    rw [← hg]
    exact b1.trans (b2.mono b1.size)
  have r1 := r1.later b2
  obtain ⟨g2, hg2⟩ : ∃ x, W1.heap.size = x := ⟨_, rfl⟩
  rw [hg] at r1
  rw [hg2] at r2
  have l1 : g < g2 := by omega
  have hs2 := hs.below (hB2.mono (hg ▸ hB))
  have HS := Lib.hid (hg ▸ hB : B ≤ g)
  have HG := Lib.hid hg
  clear b1 b2 z1 z2 hs
  obtain ⟨R, hR⟩ : ∃ R, addV s key = R := ⟨_, rfl⟩
  have hRl : R.length = 16 := by rw [← hR]; exact st16_length _
  have hRk : ∀ k, k < 16 → R[k]? = some (s.getD k 0 ^^^ key.getD k 0) := fun k hk => by
    rw [get_at (by omega), ← hR, addV, st16_get _ k hk]
  have HR := Lib.hid hR
  clear hR
  subst hn
  go_enter Try.func26, Try.ntmps26
  go_wp2
  clear e1 e2 hg hg2
  go_loopw [9] (fun i wr => ∃ k : Nat, k ≤ 16 ∧ i = .int .i64 (k : Nat) ∧ RowV 50 wr g ((R.take k ++ s.drop k).map W8) ∧ RowV 50 wr g2 ((List.replicate 16 (0 : BitVec 8)).map W8) ∧ Below g W2 wr) (fun i _ => 16 - (intOf i).toNat)
  case atStart => exact ⟨0, by decide, rfl, by simpa using r1, r2, Below.refl _ _⟩
  case round =>
    obtain ⟨k, hk, rfl, hr, hrr, hBr⟩ := hrel
    by_cases hk8 : k = 16
    · subst hk8
      rw [List.take_of_length_le (by omega), List.drop_of_length_le (by omega), List.append_nil] at hr
      have hlw : (R.map W8).length = 16 := by simpa using hRl
      go_wp2_with (first | refine wlv_load rfl 50 16 _ Try.underlying50 Try.arrS _ rfl g rfl _ _ hr hlw ?_ | (refine wlv_store rfl 50 16 Try.arrS _ _ rfl g2 _ rfl rfl _ _ hrr (by simp) hlw (ones8 _) ?_; intro w2 hr2 hb2 hz2))
      refine ⟨rfl, _, results_rowV rfl _ g2 _ _ rfl hr2 Try.underlying50 Try.arrS hlw, by rw [HR.out], ?_⟩
      rw [HG.out]
      exact hb2 _ _ (hB2.trans hBr) (by omega)
    · have hki : (k : Int) < 16 := by omega
      have hsr := hs2.below (hBr.mono HS.out)
      obtain ⟨b2, o2, v, rfl, hb, hv, hcl⟩ := hsr.at_ (k := k) (by omega)
      rw [map_at (by omega)] at hv
      injection hv with hv
      rw [← hv] at hcl
      have hRk2 := hRk k (by omega)
      have hx := b8_xor (s.getD k 0) (key.getD k 0)
      obtain ⟨x, hxe⟩ : ∃ x, s.getD k 0 = x := ⟨_, rfl⟩
      obtain ⟨y, hye⟩ : ∃ y, key.getD k 0 = y := ⟨_, rfl⟩
      have hc2 : wr.cell? ⟨g, k, none⟩ = some (W8 (s.getD k 0)) := hr.at_ (by rw [List.getElem?_map, mixed_get _ _ _ _ (Nat.le_refl _) (by omega), get_at (by omega)]; rfl)
      rw [hxe] at hc2 hx hRk2
      rw [hye] at hcl hx hRk2
      have hfz := hr.frozen k
      have hr2 := hr.set k (W8 (x ^^^ y))
      rw [← List.map_set, mixed_set _ _ _ _ (by omega) hRk2] at hr2
      have hrr2 := hrr.far (p := ⟨g, k, none⟩) (show g2 ≠ g by omega) (W8 (x ^^^ y))
      have hB3 := below_setV hBr (Nat.le_refl _) k (W8 (x ^^^ y))
      have HR2 := Lib.hid hr2
      have HRR2 := Lib.hid hrr2
      have HB3 := Lib.hid hB3
      clear hr2 hrr2 hB3 hr hrr hBr hRk hRk2 hxe hye hv hsr
      go_wp2
      go_roundw
      case rel => exact ⟨k + 1, by omega, by go_num, HR2.out, HRR2.out, HB3.out⟩
      case measure => simp [intOf]; omega
end Go.Proofs.Ytabhdkjepbkooaa
