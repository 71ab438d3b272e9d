/- aescore: bytes of an element. -/
import Derived.Test.YtabhdkjepbkooaaAz
import Derived.Test.YtabhdkjepbkooaaKa
set_option linter.unusedVariables false
set_option linter.unusedSimpArgs false
namespace Go.Proofs.Ytabhdkjepbkooaa
open Go.RowKit

set_option maxRecDepth 100000 in
set_option maxHeartbeats 1600000 in
theorem ebytes_any (w : World) (h l : BitVec 64) : Calls Try.prog 37 #[EV h l] w fun e w' => ∃ g, e = .returned (.slice (some ⟨g, 0, none⟩) 16 16) ∧ w.heap.size ≤ g ∧ RowV 5 w' g ((byV (h ++ l)).map W8) ∧ Below w.heap.size w w' := by
  obtain ⟨W1, e1, r1, b1, z1⟩ := newE w h l
  obtain ⟨g, hg⟩ : ∃ g, w.heap.size = g := ⟨_, rfl⟩
  rw [hg] at r1 b1
  have HG := Lib.hid hg
  have HB1 := Lib.hid b1
  have c10 := r1.at_ (i := 0) (v := W64 h) rfl
  have c11 := r1.at_ (i := 1) (v := W64 l) rfl
  clear b1 z1
  go_enter Try.func37, Try.ntmps37
  go_wp2_with (at_make; refine wlv_make Try.elem8 rfl _ rfl _ 16 rfl rfl (by decide) ?_; intro W2 r2 b2 z2)
  obtain ⟨g2, hg2⟩ : ∃ x, W1.heap.size = x := ⟨_, rfl⟩
  rw [hg2] at r2 b2 ⊢
  have l2 : g < g2 := by have := r1.lt; omega
  have r1 := r1.below b2 l2
  have HB2 := Lib.hid b2
  clear e1 hg hg2 b2 c10 c11
  go_loopw [6] (fun i wr => ∃ k : Nat, k ≤ 8 ∧ i = .int .i64 (k : Nat) ∧ RowV 5 wr g2 ((halfN h l k).map W8) ∧ Below g2 W2 wr) (fun i _ => 8 - (intOf i).toNat)
  case atStart => exact ⟨0, by decide, rfl, r2, Below.refl _ _⟩
  case round =>
    obtain ⟨k, hk, rfl, hr, hBr⟩ := hrel
    by_cases hk8 : k = 8
    · subst hk8
      rw [halfN_all] at hr
      have HR := Lib.hid hr
      have HBR := Lib.hid hBr
      clear hr hBr
      go_wp2
      go_ret
      exact ⟨g2, rfl, by rw [HG.out]; omega, HR.out, by rw [HG.out]; exact HB1.out.trans ((HB2.out.mono (by omega)).trans (HBR.out.mono (by omega)))⟩
    · have hki : (k : Int) < 8 := by omega
      have c10 := (r1.below hBr l2).at_ (i := 0) (v := W64 h) rfl
      have c11 := (r1.below hBr l2).at_ (i := 1) (v := W64 l) rfl
      obtain ⟨j, hj⟩ : ∃ j, 56 - 8 * k = j := ⟨_, rfl⟩
      have hjI : (56 : Int) - 8 * (k : Int) = (j : Int) := by omega
      have hj0 : (0 : Int) ≤ (j : Int) := by omega
      have hj64 : j ≤ 56 := by omega
      obtain ⟨q, hq⟩ : ∃ q, 8 + k = q := ⟨_, rfl⟩
      have hqI : (8 : Int) + (k : Int) = (q : Int) := by omega
      have hq16 : (q : Int) < 16 := by omega
      obtain ⟨h', hh'⟩ : ∃ x, h >>> j = x := ⟨_, rfl⟩
      obtain ⟨l', hl'⟩ : ∃ x, l >>> j = x := ⟨_, rfl⟩
      obtain ⟨x, hx⟩ : ∃ x, BitVec.setWidth 8 h' = x := ⟨_, rfl⟩
      obtain ⟨y, hy⟩ : ∃ x, BitVec.setWidth 8 l' = x := ⟨_, rfl⟩
      have n1 : i64 h / 2 ^ j = i64 h' := by rw [← hh']; exact b64_shr h j
      have n2 : i64 l / 2 ^ j = i64 l' := by rw [← hl']; exact b64_shr l j
      have n3 : i64 h' % 256 = i8 x := by rw [← hx]; exact c64_8' h'
      have n4 : i64 l' % 256 = i8 y := by rw [← hy]; exact c64_8' l'
      have hst := halfN_succ h l k (by omega)
      rw [hj, hh', hl', hx, hy, hq] at hst
      obtain ⟨L, hL⟩ : ∃ L, halfN h l k = L := ⟨_, rfl⟩
      have hLl : L.length = 16 := by rw [← hL]; exact st16_length _
      rw [hL] at hr hst
      have f1 := hr.frozen k
      have d1 := hr.at_ (map_at (l := L) (k := k) (by omega))
      obtain ⟨V, hV⟩ : ∃ V, wr.setCell ⟨g2, k, none⟩ (W8 x) = V := ⟨_, rfl⟩
      have hr2 := hr.set k (W8 x)
      rw [hV, ← List.map_set] at hr2
      have hb2 := below_setV hBr (Nat.le_refl _) k (W8 x)
      rw [hV] at hb2
      have c11' := (r1.below hb2 l2).at_ (i := 1) (v := W64 l) rfl
      have f2 := hr2.frozen q
      have d2 := hr2.at_ (map_at (l := L.set k x) (k := q) (by rw [List.length_set]; omega))
      have hr3 := hr2.set q (W8 y)
      rw [← List.map_set, hst] at hr3
      have HR3 := Lib.hid hr3
      have HB3 := Lib.hid (below_setV hb2 (Nat.le_refl _) q (W8 y))
      have HV := Lib.hid hV
      obtain ⟨z1, hz1⟩ : ∃ z, L.getD k 0 = z := ⟨_, rfl⟩
      obtain ⟨z2, hz2⟩ : ∃ z, (L.set k x).getD q 0 = z := ⟨_, rfl⟩
      rw [hz1] at d1
      rw [hz2] at d2
      clear hr3 hr2 hb2 hr hBr hst hL hh' hl' hx hy hz1 hz2 hj hq c11
      go_wp2
      go_roundw
      case rel => exact ⟨k + 1, by omega, by go_num, HR3.out, HB3.out⟩
      case measure => simp [intOf]; omega
end Go.Proofs.Ytabhdkjepbkooaa
