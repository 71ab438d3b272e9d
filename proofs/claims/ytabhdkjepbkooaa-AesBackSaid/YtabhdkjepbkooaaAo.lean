/- aescore: MixColumns. -/
import Derived.Test.YtabhdkjepbkooaaAn
set_option linter.unusedVariables false
set_option linter.unusedSimpArgs false
namespace Go.Proofs.Ytabhdkjepbkooaa
open Go.RowKit

/-- the columns before the c-th are done -/
def mixedL (R s : List (BitVec 8)) (k : Nat) : List (BitVec 8) := R.take k ++ s.drop k
theorem double_still (w : World) (b : BitVec 8) : Calls Try.prog 41 #[.int .u8 (i8 b)] w fun e w' => e = .returned (W8 (dblV b)) ∧ w' = w := (double_any w b).mono fun _ _ ⟨h1, h2⟩ => ⟨h1, h2.symm⟩
set_option maxRecDepth 100000 in
set_option maxHeartbeats 1600000 in
theorem mix_any (w : World) (s : List (BitVec 8)) (hl : s.length = 16) : Calls Try.prog 25 #[.agg (s.map W8).toArray] w fun e w' => e = .returned (.agg ((mixS s).map W8).toArray) ∧ Below w.heap.size w w' := by
  obtain ⟨W1, e1, r1, b1, z1⟩ := newS w s
  obtain ⟨W2, e2, r2, b2, z2⟩ := newZ W1
  obtain ⟨g, hg⟩ : ∃ g, w.heap.size = g := ⟨_, rfl⟩
  have hB2 : Below g w W2 := by
    rw [← hg]
    exact b1.trans (b2.mono b1.size)
  have r1 := r1.later b2
  obtain ⟨g2, hg2⟩ : ∃ x, W1.heap.size = x := ⟨_, rfl⟩
  rw [hg] at r1
  rw [hg2] at r2
  have l1 : g < g2 := by omega
  have HG := Lib.hid hg
  clear b1 b2 z1 z2
  obtain ⟨R, hR⟩ : ∃ R, mixS s = R := ⟨_, rfl⟩
  have hRl : R.length = 16 := by rw [← hR]; exact st16_length _
  have hRk : ∀ k, k < 16 → R[k]? = some ((mixV (colV s (k / 4))).at_ (k % 4)) := fun k hk => by
    rw [get_at (by omega), ← hR, mixS, st16_get _ k hk]
  have HR := Lib.hid hR
  have HRK := Lib.hid hRk
  clear hR hRk
  have hdb := double_still
  go_enter Try.func25, Try.ntmps25
  go_wp2
  clear e1 e2 hg hg2
  go_loopw [3] (fun i wr => ∃ k : Nat, k ≤ 4 ∧ i = .int .i64 ((4 * k : Nat) : Int) ∧ RowV 50 wr g ((R.take (4 * k) ++ s.drop (4 * k)).map W8) ∧ RowV 50 wr g2 ((List.replicate 16 (0 : BitVec 8)).map W8) ∧ Below g W2 wr) (fun i _ => 16 - (intOf i).toNat)
  case atStart => exact ⟨0, by decide, rfl, by simpa using r1, r2, Below.refl _ _⟩
  case round =>
    obtain ⟨k, hk, rfl, hr, hrr, hBr⟩ := hrel
    by_cases hk8 : k = 4
    · subst hk8
      rw [List.take_of_length_le (by omega), List.drop_of_length_le (by omega), List.append_nil] at hr
      have hlw : (R.map W8).length = 16 := by simpa using hRl
      go_wp2_with (first | refine wlv_load rfl 50 16 _ Try.underlying50 Try.arrS _ rfl g rfl _ _ hr hlw ?_ | (refine wlv_store rfl 50 16 Try.arrS _ _ rfl g2 _ rfl rfl _ _ hrr (by simp) hlw (ones8 _) ?_; intro w2 hr2 hb2 hz2))
      refine ⟨rfl, _, results_rowV rfl _ g2 _ _ rfl hr2 Try.underlying50 Try.arrS hlw, by rw [HR.out], ?_⟩
      rw [HG.out]
      exact hb2 _ _ (hB2.trans hBr) (by omega)
    · obtain ⟨p0, hp0⟩ : ∃ p, 4 * k = p := ⟨_, rfl⟩
      obtain ⟨p1, hp1⟩ : ∃ p, p0 + 1 = p := ⟨_, rfl⟩
      obtain ⟨p2, hp2⟩ : ∃ p, p0 + 2 = p := ⟨_, rfl⟩
      obtain ⟨p3, hp3⟩ : ∃ p, p0 + 3 = p := ⟨_, rfl⟩
      rw [hp0] at hr ⊢
      obtain ⟨v0, hv0⟩ : ∃ x, s.getD p0 0 = x := ⟨_, rfl⟩
      obtain ⟨v1, hv1⟩ : ∃ x, s.getD p1 0 = x := ⟨_, rfl⟩
      obtain ⟨v2, hv2⟩ : ∃ x, s.getD p2 0 = x := ⟨_, rfl⟩
      obtain ⟨v3, hv3⟩ : ∃ x, s.getD p3 0 = x := ⟨_, rfl⟩
      have hcv : colV s k = ⟨v0, v1, v2, v3⟩ := by
        unfold colV; rw [← hv0, ← hv1, ← hv2, ← hv3, ← hp1, ← hp2, ← hp3, ← hp0]
      have hk4 : k < 4 := by omega
      have R0 := HRK.out p0 (by omega)
      have R1 := HRK.out p1 (by omega)
      have R2 := HRK.out p2 (by omega)
      have R3 := HRK.out p3 (by omega)
      rw [show p0 / 4 = k by omega, show p0 % 4 = 0 by omega, hcv] at R0
      rw [show p1 / 4 = k by omega, show p1 % 4 = 1 by omega, hcv] at R1
      rw [show p2 / 4 = k by omega, show p2 % 4 = 2 by omega, hcv] at R2
      rw [show p3 / 4 = k by omega, show p3 % 4 = 3 by omega, hcv] at R3
      have cell : ∀ j x, p0 ≤ j → j < 16 → s.getD j 0 = x → wr.cell? ⟨g, j, none⟩ = some (W8 x) := fun j x h1 h2 h3 => hr.at_ (by rw [List.getElem?_map, mixed_get _ _ _ _ h1 (by omega), get_at (by omega), h3]; rfl)
      have c0 := cell p0 v0 (by omega) (by omega) hv0
      have c1 := cell p1 v1 (by omega) (by omega) hv1
      have c2 := cell p2 v2 (by omega) (by omega) hv2
      have c3 := cell p3 v3 (by omega) (by omega) hv3
      have i0 : (p0 : Int) < 16 := by omega
      have i1 : (p0 : Int) + 1 = (p1 : Int) := by omega
      have i2 : (p0 : Int) + 2 = (p2 : Int) := by omega
      have i3 : (p0 : Int) + 3 = (p3 : Int) := by omega
      have j1 : (p1 : Int) < 16 := by omega
      have j2 : (p2 : Int) < 16 := by omega
      have j3 : (p3 : Int) < 16 := by omega
      obtain ⟨x0, hx0⟩ : ∃ x, v0 ^^^ v1 = x := ⟨_, rfl⟩
      obtain ⟨x1, hx1⟩ : ∃ x, v1 ^^^ v2 = x := ⟨_, rfl⟩
      obtain ⟨x2, hx2⟩ : ∃ x, v2 ^^^ v3 = x := ⟨_, rfl⟩
      obtain ⟨x3, hx3⟩ : ∃ x, v3 ^^^ v0 = x := ⟨_, rfl⟩
      obtain ⟨al, hal⟩ : ∃ x, v0 ^^^ v1 ^^^ v2 ^^^ v3 = x := ⟨_, rfl⟩
      have a0 : bits .xor .u8 (i8 v0) (i8 v1) = i8 x0 := by rw [b8_xor, hx0]
      have a1 : bits .xor .u8 (i8 v1) (i8 v2) = i8 x1 := by rw [b8_xor, hx1]
      have a2 : bits .xor .u8 (i8 v2) (i8 v3) = i8 x2 := by rw [b8_xor, hx2]
      have a3 : bits .xor .u8 (i8 v3) (i8 v0) = i8 x3 := by rw [b8_xor, hx3]
      have a4 : bits .xor .u8 (bits .xor .u8 (i8 x0) (i8 v2)) (i8 v3) = i8 al := by rw [← hx0, b8_xor, b8_xor, hal]
      obtain ⟨d0, hd0⟩ : ∃ x, dblV x0 = x := ⟨_, rfl⟩
      obtain ⟨y0, hy0⟩ : ∃ x, d0 ^^^ al = x := ⟨_, rfl⟩
      obtain ⟨n0, hn0⟩ : ∃ x, v0 ^^^ y0 = x := ⟨_, rfl⟩
      have e0 : bits .xor .u8 (i8 d0) (i8 al) = i8 y0 := by rw [b8_xor, hy0]
      have f0 : bits .xor .u8 (i8 v0) (i8 y0) = i8 n0 := by rw [b8_xor, hn0]
      have RN0 : R[p0]? = some n0 := by rw [R0, ← hn0, ← hy0, ← hd0, ← hx0, ← hal]; rfl
      have D0 := Lib.hid (fun w => (hd0 ▸ double_still w x0 : Calls Try.prog 41 #[.int .u8 (i8 x0)] w fun e w' => e = .returned (W8 d0) ∧ w' = w))
      obtain ⟨d1, hd1⟩ : ∃ x, dblV x1 = x := ⟨_, rfl⟩
      obtain ⟨y1, hy1⟩ : ∃ x, d1 ^^^ al = x := ⟨_, rfl⟩
      obtain ⟨n1, hn1⟩ : ∃ x, v1 ^^^ y1 = x := ⟨_, rfl⟩
      have e1 : bits .xor .u8 (i8 d1) (i8 al) = i8 y1 := by rw [b8_xor, hy1]
      have f1 : bits .xor .u8 (i8 v1) (i8 y1) = i8 n1 := by rw [b8_xor, hn1]
      have RN1 : R[p1]? = some n1 := by rw [R1, ← hn1, ← hy1, ← hd1, ← hx1, ← hal]; rfl
      have D1 := Lib.hid (fun w => (hd1 ▸ double_still w x1 : Calls Try.prog 41 #[.int .u8 (i8 x1)] w fun e w' => e = .returned (W8 d1) ∧ w' = w))
      obtain ⟨d2, hd2⟩ : ∃ x, dblV x2 = x := ⟨_, rfl⟩
      obtain ⟨y2, hy2⟩ : ∃ x, d2 ^^^ al = x := ⟨_, rfl⟩
      obtain ⟨n2, hn2⟩ : ∃ x, v2 ^^^ y2 = x := ⟨_, rfl⟩
      have e2 : bits .xor .u8 (i8 d2) (i8 al) = i8 y2 := by rw [b8_xor, hy2]
      have f2 : bits .xor .u8 (i8 v2) (i8 y2) = i8 n2 := by rw [b8_xor, hn2]
      have RN2 : R[p2]? = some n2 := by rw [R2, ← hn2, ← hy2, ← hd2, ← hx2, ← hal]; rfl
      have D2 := Lib.hid (fun w => (hd2 ▸ double_still w x2 : Calls Try.prog 41 #[.int .u8 (i8 x2)] w fun e w' => e = .returned (W8 d2) ∧ w' = w))
      obtain ⟨d3, hd3⟩ : ∃ x, dblV x3 = x := ⟨_, rfl⟩
      obtain ⟨y3, hy3⟩ : ∃ x, d3 ^^^ al = x := ⟨_, rfl⟩
      obtain ⟨n3, hn3⟩ : ∃ x, v3 ^^^ y3 = x := ⟨_, rfl⟩
      have e3 : bits .xor .u8 (i8 d3) (i8 al) = i8 y3 := by rw [b8_xor, hy3]
      have f3 : bits .xor .u8 (i8 v3) (i8 y3) = i8 n3 := by rw [b8_xor, hn3]
      have RN3 : R[p3]? = some n3 := by rw [R3, ← hn3, ← hy3, ← hd3, ← hx3, ← hal]; rfl
      have D3 := Lib.hid (fun w => (hd3 ▸ double_still w x3 : Calls Try.prog 41 #[.int .u8 (i8 x3)] w fun e w' => e = .returned (W8 d3) ∧ w' = w))
      have HP := Lib.hid (And.intro hp0 (And.intro hp1 (And.intro hp2 hp3)))
      clear cell hv0 hcv hp0 hp1 hp2 hp3
      clear R0 R1 R2 R3 hx0 hx1 hx2 hx3 hal hd0 hd1 hd2 hd3 hy0 hy1 hy2 hy3 hn0 hn1 hn2 hn3 hdb
      have HV1 := Lib.hid hv1
      have HV2 := Lib.hid hv2
      have HV3 := Lib.hid hv3
      clear hv1 hv2 hv3
      have w1 : IntKind.i64.wrap (p1 : Int) = (p1 : Int) := by rw [IntKind.wrap_i64]; omega
      have w2 : IntKind.i64.wrap (p2 : Int) = (p2 : Int) := by rw [IntKind.wrap_i64]; omega
      have w3 : IntKind.i64.wrap (p3 : Int) = (p3 : Int) := by rw [IntKind.wrap_i64]; omega
      have HRN := Lib.hid (And.intro RN0 (And.intro RN1 (And.intro RN2 RN3)))
      clear RN0 RN1 RN2 RN3
      have hsl : s.length = 16 := hl
      have HL := Lib.hid (And.intro hRl hsl)
      go_wp2
      go_quiet (fail)
      go_wp2
      refine wp_region_still_tail 11 (by kernel_rfl) (by kernel_rfl) ?_
      simp only [List.take_succ_cons, List.take_zero, List.drop_succ_cons, List.drop_zero]
      show wpStill _ _ (World.drew _) (fun a' => wpList _ _ _ _ a' (World.drew _)) _ _
      generalize hV0 : World.drew _ = V0
      have hr0 : RowV 50 V0 g ((R.take p0 ++ s.drop p0).map W8) := by rw [← hV0]; exact hr
      have hq0 : RowV 50 V0 g2 ((List.replicate 16 (0 : BitVec 8)).map W8) := by rw [← hV0]; exact hrr
      have hb0 : Below g W2 V0 := by rw [← hV0]; exact below_drewN (below_drewN hBr _) 1
      have fz0 := hr0.frozen p0
      have c0 : V0.cell? ⟨g, p0, none⟩ = some (W8 v0) := by
        rw [← hV0]
        exact c0
      clear hV0
      iterate 6 (refine wpStill_step (fun K hK => ?_); go_simp; refine hK _ ?_; clear hK K)
      refine wpStill_step (fun K hK => ?_)
      go_simp
      refine ⟨_, D0.out _, hK _ ?_⟩
      clear hK K
      iterate 4 (refine wpStill_step (fun K hK => ?_); go_simp; refine hK _ ?_; clear hK K)
      refine wpStill_nil ?_
      have hs0 := hr0.set p0 (W8 n0)
      rw [← List.map_set, mixed_set _ _ _ _ (by have h1 := HL.out; omega) HRN.out.1] at hs0
      rw [show p0 + 1 = p1 by have h1 := HP.out; omega] at hs0
      have HR1 := Lib.hid hs0
      have HQ1 := Lib.hid (hq0.far (p := ⟨g, p0, none⟩) (show g2 ≠ g by omega) (W8 n0))
      have HB1 := Lib.hid (below_setV hb0 (Nat.le_refl _) p0 (W8 n0))
      have k1 : (V0.setCell ⟨g, p0, none⟩ (W8 n0)).cell? ⟨g, p1, none⟩ = some (W8 v1) := by
        have h1 := HL.out
        have h2 := HP.out
        exact HR1.out.at_ (by rw [List.getElem?_map, mixed_get _ _ _ _ (Nat.le_refl _) (by omega), get_at (by omega), HV1.out]; rfl)
      clear hs0 hr0 hq0 hb0
      go_wp2
      clear hr hrr hBr
      refine wp_region_still_tail 12 (by kernel_rfl) (by kernel_rfl) ?_
      simp only [List.take_succ_cons, List.take_zero, List.drop_succ_cons, List.drop_zero]
      show wpStill _ _ (World.drew _) (fun a' => wpList _ _ _ _ a' (World.drew _)) _ _
      generalize hV1 : World.drew _ = V1
      have hr1 : RowV 50 V1 g ((R.take p1 ++ s.drop p1).map W8) := by rw [← hV1]; exact HR1.out
      have hq1 : RowV 50 V1 g2 ((List.replicate 16 (0 : BitVec 8)).map W8) := by rw [← hV1]; exact HQ1.out
      have hb1 : Below g W2 V1 := by rw [← hV1]; exact below_drewN HB1.out 1
      have fz1 := hr1.frozen p1
      have c1 : V1.cell? ⟨g, p1, none⟩ = some (W8 v1) := by
        rw [← hV1]
        exact k1
      clear hV1
      iterate 7 (refine wpStill_step (fun K hK => ?_); go_simp; refine hK _ ?_; clear hK K)
      refine wpStill_step (fun K hK => ?_)
      go_simp
      refine ⟨_, D1.out _, hK _ ?_⟩
      clear hK K
      iterate 4 (refine wpStill_step (fun K hK => ?_); go_simp; refine hK _ ?_; clear hK K)
      refine wpStill_nil ?_
      have hs1 := hr1.set p1 (W8 n1)
      rw [← List.map_set, mixed_set _ _ _ _ (by have h1 := HL.out; omega) HRN.out.2.1] at hs1
      rw [show p1 + 1 = p2 by have h1 := HP.out; omega] at hs1
      have HR2 := Lib.hid hs1
      have HQ2 := Lib.hid (hq1.far (p := ⟨g, p1, none⟩) (show g2 ≠ g by omega) (W8 n1))
      have HB2 := Lib.hid (below_setV hb1 (Nat.le_refl _) p1 (W8 n1))
      have k2 : (V1.setCell ⟨g, p1, none⟩ (W8 n1)).cell? ⟨g, p2, none⟩ = some (W8 v2) := by
        have h1 := HL.out
        have h2 := HP.out
        exact HR2.out.at_ (by rw [List.getElem?_map, mixed_get _ _ _ _ (Nat.le_refl _) (by omega), get_at (by omega), HV2.out]; rfl)
      clear hs1 hr1 hq1 hb1
      go_wp2
      refine wp_region_still_tail 12 (by kernel_rfl) (by kernel_rfl) ?_
      simp only [List.take_succ_cons, List.take_zero, List.drop_succ_cons, List.drop_zero]
      show wpStill _ _ (World.drew _) (fun a' => wpList _ _ _ _ a' (World.drew _)) _ _
      generalize hV2 : World.drew _ = V2
      have hr2 : RowV 50 V2 g ((R.take p2 ++ s.drop p2).map W8) := by rw [← hV2]; exact HR2.out
      have hq2 : RowV 50 V2 g2 ((List.replicate 16 (0 : BitVec 8)).map W8) := by rw [← hV2]; exact HQ2.out
      have hb2 : Below g W2 V2 := by rw [← hV2]; exact below_drewN HB2.out 1
      have fz2 := hr2.frozen p2
      have c2 : V2.cell? ⟨g, p2, none⟩ = some (W8 v2) := by
        rw [← hV2]
        exact k2
      clear hV2
      iterate 7 (refine wpStill_step (fun K hK => ?_); go_simp; refine hK _ ?_; clear hK K)
      refine wpStill_step (fun K hK => ?_)
      go_simp
      refine ⟨_, D2.out _, hK _ ?_⟩
      clear hK K
      iterate 4 (refine wpStill_step (fun K hK => ?_); go_simp; refine hK _ ?_; clear hK K)
      refine wpStill_nil ?_
      have hs2 := hr2.set p2 (W8 n2)
      rw [← List.map_set, mixed_set _ _ _ _ (by have h1 := HL.out; omega) HRN.out.2.2.1] at hs2
      rw [show p2 + 1 = p3 by have h1 := HP.out; omega] at hs2
      have HR3 := Lib.hid hs2
      have HQ3 := Lib.hid (hq2.far (p := ⟨g, p2, none⟩) (show g2 ≠ g by omega) (W8 n2))
      have HB3 := Lib.hid (below_setV hb2 (Nat.le_refl _) p2 (W8 n2))
      have k3 : (V2.setCell ⟨g, p2, none⟩ (W8 n2)).cell? ⟨g, p3, none⟩ = some (W8 v3) := by
        have h1 := HL.out
        have h2 := HP.out
        exact HR3.out.at_ (by rw [List.getElem?_map, mixed_get _ _ _ _ (Nat.le_refl _) (by omega), get_at (by omega), HV3.out]; rfl)
      clear hs2 hr2 hq2 hb2
      go_wp2
      refine wp_region_still_tail 12 (by kernel_rfl) (by kernel_rfl) ?_
      simp only [List.take_succ_cons, List.take_zero, List.drop_succ_cons, List.drop_zero]
      show wpStill _ _ (World.drew _) (fun a' => wpList _ _ _ _ a' (World.drew _)) _ _
      generalize hV3 : World.drew _ = V3
      have hr3 : RowV 50 V3 g ((R.take p3 ++ s.drop p3).map W8) := by rw [← hV3]; exact HR3.out
      have hq3 : RowV 50 V3 g2 ((List.replicate 16 (0 : BitVec 8)).map W8) := by rw [← hV3]; exact HQ3.out
      have hb3 : Below g W2 V3 := by rw [← hV3]; exact below_drewN HB3.out 1
      have fz3 := hr3.frozen p3
      have c3 : V3.cell? ⟨g, p3, none⟩ = some (W8 v3) := by
        rw [← hV3]
        exact k3
      clear hV3
      iterate 7 (refine wpStill_step (fun K hK => ?_); go_simp; refine hK _ ?_; clear hK K)
      refine wpStill_step (fun K hK => ?_)
      go_simp
      refine ⟨_, D3.out _, hK _ ?_⟩
      clear hK K
      iterate 4 (refine wpStill_step (fun K hK => ?_); go_simp; refine hK _ ?_; clear hK K)
      refine wpStill_nil ?_
      have hs3 := hr3.set p3 (W8 n3)
      rw [← List.map_set, mixed_set _ _ _ _ (by have h1 := HL.out; omega) HRN.out.2.2.2] at hs3
      rw [show p3 + 1 = p0 + 4 by have h1 := HP.out; omega] at hs3
      have HR4 := Lib.hid hs3
      have HQ4 := Lib.hid (hq3.far (p := ⟨g, p3, none⟩) (show g2 ≠ g by omega) (W8 n3))
      have HB4 := Lib.hid (below_setV hb3 (Nat.le_refl _) p3 (W8 n3))
      clear hs3 hr3 hq3 hb3
      go_wp2
      go_roundw
      case rel => exact ⟨k + 1, by omega, by have h2 := HP.out; go_num, by have h2 := HP.out; rw [show 4 * (k + 1) = p0 + 4 by omega]; exact HR4.out, HQ4.out, HB4.out⟩
      case measure => simp [intOf]; omega
end Go.Proofs.Ytabhdkjepbkooaa
