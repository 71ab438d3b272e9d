/- Parts of one proof, joined: Ao, Ap, Az, Ba, Zc, Aq. -/
import Derived.Test.YtabhdkjepbkooaaPileC2
import Derived.Test.YtabhdkjepbkooaaPileC1

/- aescore: MixColumns. -/
set_option linter.unusedVariables false
set_option linter.unusedSimpArgs false
namespace Go.Proofs.Ytabhdkjepbkooaa
open Go.RowKit

/-- the columns before the c-th are done -/
def mixedL (R s : List (BitVec 8)) (k : Nat) : List (BitVec 8) := R.take k ++ s.drop k
theorem double_still (w : World) (b : BitVec 8) : Calls Try.prog 41 #[.int .u8 (i8 b)] w fun e w' => e = .returned (W8 (dblV b)) ∧ w' = w := (double_any w b).mono fun _ _ ⟨h1, h2⟩ => ⟨h1, h2.symm⟩
set_option maxRecDepth 100000 in
set_option maxHeartbeats 1600000 in
theorem mix_any (w : World) (s : List (BitVec 8)) (hl : s.length = 16) : Calls Try.prog 25 #[.agg (s.map W8).toArray] w fun e w' => e = .returned (.agg ((mixS s).map W8).toArray) ∧ Below w.heap.size w w' := by
  obtain ⟨W1, e1, r1, b1, z1⟩ := newS w s
  obtain ⟨W2, e2, r2, b2, z2⟩ := newZ W1
  obtain ⟨g, hg⟩ : ∃ g, w.heap.size = g := ⟨_, rfl⟩
  have hB2 : Below g w W2 := by
    rw [← hg]
    exact b1.trans (b2.mono b1.size)
  have r1 := r1.later b2
  obtain ⟨g2, hg2⟩ : ∃ x, W1.heap.size = x := ⟨_, rfl⟩
  rw [hg] at r1
  rw [hg2] at r2
  have l1 : g < g2 := by omega
  have HG := Lib.hid hg
  clear b1 b2 z1 z2
  obtain ⟨R, hR⟩ : ∃ R, mixS s = R := ⟨_, rfl⟩
  have hRl : R.length = 16 := by rw [← hR]; exact st16_length _
  have hRk : ∀ k, k < 16 → R[k]? = some ((mixV (colV s (k / 4))).at_ (k % 4)) := fun k hk => by
    rw [get_at (by omega), ← hR, mixS, st16_get _ k hk]
  have HR := Lib.hid hR
  have HRK := Lib.hid hRk
  clear hR hRk
  have hdb := double_still
  go_enter Try.func25, Try.ntmps25
  go_wp2
  clear e1 e2 hg hg2
  go_loopw [3] (fun i wr => ∃ k : Nat, k ≤ 4 ∧ i = .int .i64 ((4 * k : Nat) : Int) ∧ RowV 50 wr g ((R.take (4 * k) ++ s.drop (4 * k)).map W8) ∧ RowV 50 wr g2 ((List.replicate 16 (0 : BitVec 8)).map W8) ∧ Below g W2 wr) (fun i _ => 16 - (intOf i).toNat)
  case atStart => exact ⟨0, by decide, rfl, by simpa using r1, r2, Below.refl _ _⟩
  case round =>
    obtain ⟨k, hk, rfl, hr, hrr, hBr⟩ := hrel
    by_cases hk8 : k = 4
    · subst hk8
      rw [List.take_of_length_le (by omega), List.drop_of_length_le (by omega), List.append_nil] at hr
      have hlw : (R.map W8).length = 16 := by simpa using hRl
      go_wp2_with (first | refine wlv_load rfl 50 16 _ Try.underlying50 Try.arrS _ rfl g rfl _ _ hr hlw ?_ | (refine wlv_store rfl 50 16 Try.arrS _ _ rfl g2 _ rfl rfl _ _ hrr (by simp) hlw (ones8 _) ?_; intro w2 hr2 hb2 hz2))
      refine ⟨rfl, _, results_rowV rfl _ g2 _ _ rfl hr2 Try.underlying50 Try.arrS hlw, by rw [HR.out], ?_⟩
      rw [HG.out]
      exact hb2 _ _ (hB2.trans hBr) (by omega)
    · obtain ⟨p0, hp0⟩ : ∃ p, 4 * k = p := ⟨_, rfl⟩
      obtain ⟨p1, hp1⟩ : ∃ p, p0 + 1 = p := ⟨_, rfl⟩
      obtain ⟨p2, hp2⟩ : ∃ p, p0 + 2 = p := ⟨_, rfl⟩
      obtain ⟨p3, hp3⟩ : ∃ p, p0 + 3 = p := ⟨_, rfl⟩
      rw [hp0] at hr ⊢
      obtain ⟨v0, hv0⟩ : ∃ x, s.getD p0 0 = x := ⟨_, rfl⟩
      obtain ⟨v1, hv1⟩ : ∃ x, s.getD p1 0 = x := ⟨_, rfl⟩
      obtain ⟨v2, hv2⟩ : ∃ x, s.getD p2 0 = x := ⟨_, rfl⟩
      obtain ⟨v3, hv3⟩ : ∃ x, s.getD p3 0 = x := ⟨_, rfl⟩
      have hcv : colV s k = ⟨v0, v1, v2, v3⟩ := by
        unfold colV; rw [← hv0, ← hv1, ← hv2, ← hv3, ← hp1, ← hp2, ← hp3, ← hp0]
      have hk4 : k < 4 := by omega
      have R0 := HRK.out p0 (by omega)
      have R1 := HRK.out p1 (by omega)
      have R2 := HRK.out p2 (by omega)
      have R3 := HRK.out p3 (by omega)
      rw [show p0 / 4 = k by omega, show p0 % 4 = 0 by omega, hcv] at R0
      rw [show p1 / 4 = k by omega, show p1 % 4 = 1 by omega, hcv] at R1
      rw [show p2 / 4 = k by omega, show p2 % 4 = 2 by omega, hcv] at R2
      rw [show p3 / 4 = k by omega, show p3 % 4 = 3 by omega, hcv] at R3
      have cell : ∀ j x, p0 ≤ j → j < 16 → s.getD j 0 = x → wr.cell? ⟨g, j, none⟩ = some (W8 x) := fun j x h1 h2 h3 => hr.at_ (by rw [List.getElem?_map, mixed_get _ _ _ _ h1 (by omega), get_at (by omega), h3]; rfl)
      have c0 := cell p0 v0 (by omega) (by omega) hv0
      have c1 := cell p1 v1 (by omega) (by omega) hv1
      have c2 := cell p2 v2 (by omega) (by omega) hv2
      have c3 := cell p3 v3 (by omega) (by omega) hv3
      have i0 : (p0 : Int) < 16 := by omega
      have i1 : (p0 : Int) + 1 = (p1 : Int) := by omega
      have i2 : (p0 : Int) + 2 = (p2 : Int) := by omega
      have i3 : (p0 : Int) + 3 = (p3 : Int) := by omega
      have j1 : (p1 : Int) < 16 := by omega
      have j2 : (p2 : Int) < 16 := by omega
      have j3 : (p3 : Int) < 16 := by omega
      obtain ⟨x0, hx0⟩ : ∃ x, v0 ^^^ v1 = x := ⟨_, rfl⟩
      obtain ⟨x1, hx1⟩ : ∃ x, v1 ^^^ v2 = x := ⟨_, rfl⟩
      obtain ⟨x2, hx2⟩ : ∃ x, v2 ^^^ v3 = x := ⟨_, rfl⟩
      obtain ⟨x3, hx3⟩ : ∃ x, v3 ^^^ v0 = x := ⟨_, rfl⟩
      obtain ⟨al, hal⟩ : ∃ x, v0 ^^^ v1 ^^^ v2 ^^^ v3 = x := ⟨_, rfl⟩
      have a0 : bits .xor .u8 (i8 v0) (i8 v1) = i8 x0 := by rw [b8_xor, hx0]
      have a1 : bits .xor .u8 (i8 v1) (i8 v2) = i8 x1 := by rw [b8_xor, hx1]
      have a2 : bits .xor .u8 (i8 v2) (i8 v3) = i8 x2 := by rw [b8_xor, hx2]
      have a3 : bits .xor .u8 (i8 v3) (i8 v0) = i8 x3 := by rw [b8_xor, hx3]
      have a4 : bits .xor .u8 (bits .xor .u8 (i8 x0) (i8 v2)) (i8 v3) = i8 al := by rw [← hx0, b8_xor, b8_xor, hal]
      obtain ⟨d0, hd0⟩ : ∃ x, dblV x0 = x := ⟨_, rfl⟩
      obtain ⟨y0, hy0⟩ : ∃ x, d0 ^^^ al = x := ⟨_, rfl⟩
      obtain ⟨n0, hn0⟩ : ∃ x, v0 ^^^ y0 = x := ⟨_, rfl⟩
      have e0 : bits .xor .u8 (i8 d0) (i8 al) = i8 y0 := by rw [b8_xor, hy0]
      have f0 : bits .xor .u8 (i8 v0) (i8 y0) = i8 n0 := by rw [b8_xor, hn0]
      have RN0 : R[p0]? = some n0 := by rw [R0, ← hn0, ← hy0, ← hd0, ← hx0, ← hal]; rfl
      have D0 := Lib.hid (fun w => (hd0 ▸ double_still w x0 : Calls Try.prog 41 #[.int .u8 (i8 x0)] w fun e w' => e = .returned (W8 d0) ∧ w' = w))
      obtain ⟨d1, hd1⟩ : ∃ x, dblV x1 = x := ⟨_, rfl⟩
      obtain ⟨y1, hy1⟩ : ∃ x, d1 ^^^ al = x := ⟨_, rfl⟩
      obtain ⟨n1, hn1⟩ : ∃ x, v1 ^^^ y1 = x := ⟨_, rfl⟩
      have e1 : bits .xor .u8 (i8 d1) (i8 al) = i8 y1 := by rw [b8_xor, hy1]
      have f1 : bits .xor .u8 (i8 v1) (i8 y1) = i8 n1 := by rw [b8_xor, hn1]
      have RN1 : R[p1]? = some n1 := by rw [R1, ← hn1, ← hy1, ← hd1, ← hx1, ← hal]; rfl
      have D1 := Lib.hid (fun w => (hd1 ▸ double_still w x1 : Calls Try.prog 41 #[.int .u8 (i8 x1)] w fun e w' => e = .returned (W8 d1) ∧ w' = w))
      obtain ⟨d2, hd2⟩ : ∃ x, dblV x2 = x := ⟨_, rfl⟩
      obtain ⟨y2, hy2⟩ : ∃ x, d2 ^^^ al = x := ⟨_, rfl⟩
      obtain ⟨n2, hn2⟩ : ∃ x, v2 ^^^ y2 = x := ⟨_, rfl⟩
      have e2 : bits .xor .u8 (i8 d2) (i8 al) = i8 y2 := by rw [b8_xor, hy2]
      have f2 : bits .xor .u8 (i8 v2) (i8 y2) = i8 n2 := by rw [b8_xor, hn2]
      have RN2 : R[p2]? = some n2 := by rw [R2, ← hn2, ← hy2, ← hd2, ← hx2, ← hal]; rfl
      have D2 := Lib.hid (fun w => (hd2 ▸ double_still w x2 : Calls Try.prog 41 #[.int .u8 (i8 x2)] w fun e w' => e = .returned (W8 d2) ∧ w' = w))
      obtain ⟨d3, hd3⟩ : ∃ x, dblV x3 = x := ⟨_, rfl⟩
      obtain ⟨y3, hy3⟩ : ∃ x, d3 ^^^ al = x := ⟨_, rfl⟩
      obtain ⟨n3, hn3⟩ : ∃ x, v3 ^^^ y3 = x := ⟨_, rfl⟩
      have e3 : bits .xor .u8 (i8 d3) (i8 al) = i8 y3 := by rw [b8_xor, hy3]
      have f3 : bits .xor .u8 (i8 v3) (i8 y3) = i8 n3 := by rw [b8_xor, hn3]
      have RN3 : R[p3]? = some n3 := by rw [R3, ← hn3, ← hy3, ← hd3, ← hx3, ← hal]; rfl
      have D3 := Lib.hid (fun w => (hd3 ▸ double_still w x3 : Calls Try.prog 41 #[.int .u8 (i8 x3)] w fun e w' => e = .returned (W8 d3) ∧ w' = w))
      have HP := Lib.hid (And.intro hp0 (And.intro hp1 (And.intro hp2 hp3)))
      clear cell hv0 hcv hp0 hp1 hp2 hp3
      clear R0 R1 R2 R3 hx0 hx1 hx2 hx3 hal hd0 hd1 hd2 hd3 hy0 hy1 hy2 hy3 hn0 hn1 hn2 hn3 hdb
      have HV1 := Lib.hid hv1
      have HV2 := Lib.hid hv2
      have HV3 := Lib.hid hv3
      clear hv1 hv2 hv3
      have w1 : IntKind.i64.wrap (p1 : Int) = (p1 : Int) := by rw [IntKind.wrap_i64]; omega
      have w2 : IntKind.i64.wrap (p2 : Int) = (p2 : Int) := by rw [IntKind.wrap_i64]; omega
      have w3 : IntKind.i64.wrap (p3 : Int) = (p3 : Int) := by rw [IntKind.wrap_i64]; omega
      have HRN := Lib.hid (And.intro RN0 (And.intro RN1 (And.intro RN2 RN3)))
      clear RN0 RN1 RN2 RN3
      have hsl : s.length = 16 := hl
      have HL := Lib.hid (And.intro hRl hsl)
      go_wp2
      go_quiet (fail)
      go_wp2
      refine wp_region_still_tail 11 (by kernel_rfl) (by kernel_rfl) ?_
      simp only [List.take_succ_cons, List.take_zero, List.drop_succ_cons, List.drop_zero]
      show wpStill _ _ (World.drew _) (fun a' => wpList _ _ _ _ a' (World.drew _)) _ _
      generalize hV0 : World.drew _ = V0
      have hr0 : RowV 50 V0 g ((R.take p0 ++ s.drop p0).map W8) := by rw [← hV0]; exact hr
      have hq0 : RowV 50 V0 g2 ((List.replicate 16 (0 : BitVec 8)).map W8) := by rw [← hV0]; exact hrr
      have hb0 : Below g W2 V0 := by rw [← hV0]; exact below_drewN (below_drewN hBr _) 1
      have fz0 := hr0.frozen p0
      have c0 : V0.cell? ⟨g, p0, none⟩ = some (W8 v0) := by
        rw [← hV0]
        exact c0
      clear hV0
      iterate 6 (refine wpStill_step (fun K hK => ?_); go_simp; refine hK _ ?_; clear hK K)
      refine wpStill_step (fun K hK => ?_)
      go_simp
      refine ⟨_, D0.out _, hK _ ?_⟩
      clear hK K
      iterate 4 (refine wpStill_step (fun K hK => ?_); go_simp; refine hK _ ?_; clear hK K)
      refine wpStill_nil ?_
      have hs0 := hr0.set p0 (W8 n0)
      rw [← List.map_set, mixed_set _ _ _ _ (by have h1 := HL.out; omega) HRN.out.1] at hs0
      rw [show p0 + 1 = p1 by have h1 := HP.out; omega] at hs0
      have HR1 := Lib.hid hs0
      have HQ1 := Lib.hid (hq0.far (p := ⟨g, p0, none⟩) (show g2 ≠ g by omega) (W8 n0))
      have HB1 := Lib.hid (below_setV hb0 (Nat.le_refl _) p0 (W8 n0))
      have k1 : (V0.setCell ⟨g, p0, none⟩ (W8 n0)).cell? ⟨g, p1, none⟩ = some (W8 v1) := by
        have h1 := HL.out
        have h2 := HP.out
        exact HR1.out.at_ (by rw [List.getElem?_map, mixed_get _ _ _ _ (Nat.le_refl _) (by omega), get_at (by omega), HV1.out]; rfl)
      clear hs0 hr0 hq0 hb0
      go_wp2
      clear hr hrr hBr
      refine wp_region_still_tail 12 (by kernel_rfl) (by kernel_rfl) ?_
      simp only [List.take_succ_cons, List.take_zero, List.drop_succ_cons, List.drop_zero]
      show wpStill _ _ (World.drew _) (fun a' => wpList _ _ _ _ a' (World.drew _)) _ _
      generalize hV1 : World.drew _ = V1
      have hr1 : RowV 50 V1 g ((R.take p1 ++ s.drop p1).map W8) := by rw [← hV1]; exact HR1.out
      have hq1 : RowV 50 V1 g2 ((List.replicate 16 (0 : BitVec 8)).map W8) := by rw [← hV1]; exact HQ1.out
      have hb1 : Below g W2 V1 := by rw [← hV1]; exact below_drewN HB1.out 1
      have fz1 := hr1.frozen p1
      have c1 : V1.cell? ⟨g, p1, none⟩ = some (W8 v1) := by
        rw [← hV1]
        exact k1
      clear hV1
      iterate 7 (refine wpStill_step (fun K hK => ?_); go_simp; refine hK _ ?_; clear hK K)
      refine wpStill_step (fun K hK => ?_)
      go_simp
      refine ⟨_, D1.out _, hK _ ?_⟩
      clear hK K
      iterate 4 (refine wpStill_step (fun K hK => ?_); go_simp; refine hK _ ?_; clear hK K)
      refine wpStill_nil ?_
      have hs1 := hr1.set p1 (W8 n1)
      rw [← List.map_set, mixed_set _ _ _ _ (by have h1 := HL.out; omega) HRN.out.2.1] at hs1
      rw [show p1 + 1 = p2 by have h1 := HP.out; omega] at hs1
      have HR2 := Lib.hid hs1
      have HQ2 := Lib.hid (hq1.far (p := ⟨g, p1, none⟩) (show g2 ≠ g by omega) (W8 n1))
      have HB2 := Lib.hid (below_setV hb1 (Nat.le_refl _) p1 (W8 n1))
      have k2 : (V1.setCell ⟨g, p1, none⟩ (W8 n1)).cell? ⟨g, p2, none⟩ = some (W8 v2) := by
        have h1 := HL.out
        have h2 := HP.out
        exact HR2.out.at_ (by rw [List.getElem?_map, mixed_get _ _ _ _ (Nat.le_refl _) (by omega), get_at (by omega), HV2.out]; rfl)
      clear hs1 hr1 hq1 hb1
      go_wp2
      refine wp_region_still_tail 12 (by kernel_rfl) (by kernel_rfl) ?_
      simp only [List.take_succ_cons, List.take_zero, List.drop_succ_cons, List.drop_zero]
      show wpStill _ _ (World.drew _) (fun a' => wpList _ _ _ _ a' (World.drew _)) _ _
      generalize hV2 : World.drew _ = V2
      have hr2 : RowV 50 V2 g ((R.take p2 ++ s.drop p2).map W8) := by rw [← hV2]; exact HR2.out
      have hq2 : RowV 50 V2 g2 ((List.replicate 16 (0 : BitVec 8)).map W8) := by rw [← hV2]; exact HQ2.out
      have hb2 : Below g W2 V2 := by rw [← hV2]; exact below_drewN HB2.out 1
      have fz2 := hr2.frozen p2
      have c2 : V2.cell? ⟨g, p2, none⟩ = some (W8 v2) := by
        rw [← hV2]
        exact k2
      clear hV2
      iterate 7 (refine wpStill_step (fun K hK => ?_); go_simp; refine hK _ ?_; clear hK K)
      refine wpStill_step (fun K hK => ?_)
      go_simp
      refine ⟨_, D2.out _, hK _ ?_⟩
      clear hK K
      iterate 4 (refine wpStill_step (fun K hK => ?_); go_simp; refine hK _ ?_; clear hK K)
      refine wpStill_nil ?_
      have hs2 := hr2.set p2 (W8 n2)
      rw [← List.map_set, mixed_set _ _ _ _ (by have h1 := HL.out; omega) HRN.out.2.2.1] at hs2
      rw [show p2 + 1 = p3 by have h1 := HP.out; omega] at hs2
      have HR3 := Lib.hid hs2
      have HQ3 := Lib.hid (hq2.far (p := ⟨g, p2, none⟩) (show g2 ≠ g by omega) (W8 n2))
      have HB3 := Lib.hid (below_setV hb2 (Nat.le_refl _) p2 (W8 n2))
      have k3 : (V2.setCell ⟨g, p2, none⟩ (W8 n2)).cell? ⟨g, p3, none⟩ = some (W8 v3) := by
        have h1 := HL.out
        have h2 := HP.out
        exact HR3.out.at_ (by rw [List.getElem?_map, mixed_get _ _ _ _ (Nat.le_refl _) (by omega), get_at (by omega), HV3.out]; rfl)
      clear hs2 hr2 hq2 hb2
      go_wp2
      refine wp_region_still_tail 12 (by kernel_rfl) (by kernel_rfl) ?_
      simp only [List.take_succ_cons, List.take_zero, List.drop_succ_cons, List.drop_zero]
      show wpStill _ _ (World.drew _) (fun a' => wpList _ _ _ _ a' (World.drew _)) _ _
      generalize hV3 : World.drew _ = V3
      have hr3 : RowV 50 V3 g ((R.take p3 ++ s.drop p3).map W8) := by rw [← hV3]; exact HR3.out
      have hq3 : RowV 50 V3 g2 ((List.replicate 16 (0 : BitVec 8)).map W8) := by rw [← hV3]; exact HQ3.out
      have hb3 : Below g W2 V3 := by rw [← hV3]; exact below_drewN HB3.out 1
      have fz3 := hr3.frozen p3
      have c3 : V3.cell? ⟨g, p3, none⟩ = some (W8 v3) := by
        rw [← hV3]
        exact k3
      clear hV3
      iterate 7 (refine wpStill_step (fun K hK => ?_); go_simp; refine hK _ ?_; clear hK K)
      refine wpStill_step (fun K hK => ?_)
      go_simp
      refine ⟨_, D3.out _, hK _ ?_⟩
      clear hK K
      iterate 4 (refine wpStill_step (fun K hK => ?_); go_simp; refine hK _ ?_; clear hK K)
      refine wpStill_nil ?_
      have hs3 := hr3.set p3 (W8 n3)
      rw [← List.map_set, mixed_set _ _ _ _ (by have h1 := HL.out; omega) HRN.out.2.2.2] at hs3
      rw [show p3 + 1 = p0 + 4 by have h1 := HP.out; omega] at hs3
      have HR4 := Lib.hid hs3
      have HQ4 := Lib.hid (hq3.far (p := ⟨g, p3, none⟩) (show g2 ≠ g by omega) (W8 n3))
      have HB4 := Lib.hid (below_setV hb3 (Nat.le_refl _) p3 (W8 n3))
      clear hs3 hr3 hq3 hb3
      go_wp2
      go_roundw
      case rel => exact ⟨k + 1, by omega, by have h2 := HP.out; go_num, by have h2 := HP.out; rw [show 4 * (k + 1) = p0 + 4 by omega]; exact HR4.out, HQ4.out, HB4.out⟩
      case measure => simp [intOf]; omega
end Go.Proofs.Ytabhdkjepbkooaa

/- aescore: what takes the steps back; the boxes. -/
set_option linter.unusedVariables false
set_option linter.unusedSimpArgs false
namespace Go.Proofs.Ytabhdkjepbkooaa
open Go.RowKit

theorem mixS_len (s : List (BitVec 8)) : (mixS s).length = 16 := mixS_length s
set_option maxRecDepth 100000 in
set_option maxHeartbeats 1600000 in
theorem unmix_any (w : World) (s : List (BitVec 8)) (hl : s.length = 16) : Calls Try.prog 29 #[.agg (s.map W8).toArray] w fun e w' => e = .returned (.agg ((mixS (mixS (mixS s))).map W8).toArray) ∧ Below w.heap.size w w' := by
  obtain ⟨W1, e1, r1, b1, z1⟩ := newS w s
  obtain ⟨W2, e2, r2, b2, z2⟩ := newZ W1
  obtain ⟨g, hg⟩ : ∃ g, w.heap.size = g := ⟨_, rfl⟩
  have hB2 : Below g w W2 := by
    rw [← hg]
    exact b1.trans (b2.mono b1.size)
  have r1 := r1.later b2
  obtain ⟨g2, hg2⟩ : ∃ x, W1.heap.size = x := ⟨_, rfl⟩
  rw [hg] at r1
  rw [hg2] at r2
  have l1 : g < g2 := by omega
  have HG := Lib.hid hg
  have HZ := Lib.hid (show g ≤ W2.heap.size by omega)
  clear b1 b2 z1 z2
  obtain ⟨s1, hs1⟩ : ∃ x, mixS s = x := ⟨_, rfl⟩
  obtain ⟨s2, hs2⟩ : ∃ x, mixS s1 = x := ⟨_, rfl⟩
  obtain ⟨s3, hs3⟩ : ∃ x, mixS s2 = x := ⟨_, rfl⟩
  have m1 : ∀ w, Calls Try.prog 25 #[.agg (s.map W8).toArray] w fun e w' => e = .returned (.agg (s1.map W8).toArray) ∧ Below w.heap.size w w' := fun w => hs1 ▸ mix_any w s hl
  have m2 : ∀ w, Calls Try.prog 25 #[.agg (s1.map W8).toArray] w fun e w' => e = .returned (.agg (s2.map W8).toArray) ∧ Below w.heap.size w w' := fun w => hs2 ▸ mix_any w s1 (by rw [← hs1]; exact mixS_length _)
  have m3 : ∀ w, Calls Try.prog 25 #[.agg (s2.map W8).toArray] w fun e w' => e = .returned (.agg (s3.map W8).toArray) ∧ Below w.heap.size w w' := fun w => hs3 ▸ mix_any w s2 (by rw [← hs2]; exact mixS_length _)
  have hl3 : s3.length = 16 := by rw [← hs3]; exact mixS_length _
  have HS := Lib.hid (And.intro hs1 (And.intro hs2 hs3))
  have M1 := Lib.hid m1
  have M2 := Lib.hid m2
  have M3 := Lib.hid m3
  clear hs1 hs2 hs3 m1 m2 m3
  have hls : (s.map W8).length = 16 := by simpa using hl
  go_enter Try.func29, Try.ntmps29
  go_wp2_with (refine wlv_load rfl 50 16 _ Try.underlying50 Try.arrS _ rfl g rfl _ _ r1 hls ?_)
  refine (M1.out _).mono ?_
  rintro e V1 ⟨rfl, h1⟩
  go_wp2_with fail
  refine (M2.out _).mono ?_
  rintro e V2 ⟨rfl, h2⟩
  go_wp2_with fail
  refine (M3.out _).mono ?_
  rintro e V3 ⟨rfl, h3⟩
  have hB3 : Below W2.heap.size W2 V3 := h1.trans ((h2.mono h1.size).trans (h3.mono (Nat.le_trans h1.size h2.size)))
  have r3 := r2.later hB3
  have HB := Lib.hid hB3
  have hlw : (s3.map W8).length = 16 := by simpa using hl3
  clear h1 h2 h3 e1 e2 hg hg2 hB3
  go_wp2_with (refine wlv_store rfl 50 16 Try.arrS _ _ rfl g2 _ rfl rfl _ _ r3 (by simp) hlw (ones8 _) ?_; intro w2 hr2 hb2 hz2)
  refine ⟨rfl, _, results_rowV rfl _ g2 _ _ rfl hr2 Try.underlying50 Try.arrS hlw, by rw [HS.out.1, HS.out.2.1, HS.out.2.2], ?_⟩
  rw [HG.out]
  exact hb2 _ _ (hB2.trans (HB.out.mono HZ.out)) (by omega)

/-- ShiftRows and SubBytes taken back, with any box -/
def putB (box s : List (BitVec 8)) : List (BitVec 8) := st16 (fun i => boxAt box (s.getD (13 * i % 16) 0))
theorem st16_set (f : Nat → BitVec 8) (j : Nat) (x : BitVec 8) (hj : j < 16) : (st16 f).set j x = st16 (fun i => if i = j then x else f i) := by
  refine List.ext_getElem (by simp [st16]) fun i h1 h2 => ?_
  have hi : i < 16 := by simpa [st16] using h2
  rw [List.getElem_set]
  simp only [st16, List.getElem_map, List.getElem_range]
  by_cases h : j = i
  · subst h; simp
  · rw [if_neg h, if_neg (fun e => h e.symm)]
/-- k bytes put back -/
def putN (box s : List (BitVec 8)) (k : Nat) : List (BitVec 8) := st16 (fun i => if 13 * i % 16 < k then boxAt box (s.getD (13 * i % 16) 0) else 0)
theorem putN_zero (box s : List (BitVec 8)) : putN box s 0 = List.replicate 16 0 := rfl
theorem putN_all (box s : List (BitVec 8)) : putN box s 16 = putB box s := st16_congr fun i hi => by rw [if_pos (Nat.mod_lt _ (by decide))]
theorem putN_succ (box s : List (BitVec 8)) (k : Nat) (hk : k < 16) : (putN box s k).set (5 * k % 16) (boxAt box (s.getD k 0)) = putN box s (k + 1) := by
  unfold putN
  rw [st16_set _ _ _ (Nat.mod_lt _ (by decide))]
  refine st16_congr fun i hi => ?_
  by_cases h : i = 5 * k % 16
  · have h13 : 13 * i % 16 = k := by omega
    rw [if_pos h, h13, if_pos (by omega)]
  · have h13 : 13 * i % 16 ≠ k := by omega
    rw [if_neg h]
    by_cases h2 : 13 * i % 16 < k
    · rw [if_pos h2, if_pos (by omega)]
    · rw [if_neg h2, if_neg (by omega)]

set_option maxRecDepth 100000 in
set_option maxHeartbeats 1600000 in
theorem putBack_any (w : World) (s : List (BitVec 8)) (hl : s.length = 16) (box : List (BitVec 8)) (hbl : box.length = 256) : Calls Try.prog 30 #[.agg (s.map W8).toArray, .agg (box.map W8).toArray] w fun e w' => e = .returned (.agg ((putB box s).map W8).toArray) ∧ Below w.heap.size w w' := by
  obtain ⟨W1, e1, r1, b1, z1⟩ := newS w s
  obtain ⟨W2, e2, r2, b2, z2⟩ := newV W1 47 (box.map W8) _ rfl
  obtain ⟨W3, e3, r3, b3, z3⟩ := newZ W2
  obtain ⟨W4, e4, r4, b4, z4⟩ := newZ W3
  obtain ⟨g, hg⟩ : ∃ g, w.heap.size = g := ⟨_, rfl⟩
  have hB : Below g w W4 := by
    rw [← hg]
    exact b1.trans ((b2.mono b1.size).trans ((b3.mono (Nat.le_trans b1.size b2.size)).trans (b4.mono (Nat.le_trans b1.size (Nat.le_trans b2.size b3.size)))))
  have r1 := ((r1.later b2).later b3).later b4
  have r2 := (r2.later b3).later b4
  have r3 := r3.later b4
  obtain ⟨g2, hg2⟩ : ∃ x, W1.heap.size = x := ⟨_, rfl⟩
  obtain ⟨g3, hg3⟩ : ∃ x, W2.heap.size = x := ⟨_, rfl⟩
  obtain ⟨g4, hg4⟩ : ∃ x, W3.heap.size = x := ⟨_, rfl⟩
  rw [hg] at r1
  rw [hg2] at r2
  rw [hg3] at r3
  rw [hg4] at r4
  have l1 : g < g4 := by omega
  have l2 : g2 < g4 := by omega
  have l3 : g3 < g4 := by omega
  have l4 : g ≤ g3 := by omega
  have HG := Lib.hid hg
  clear b1 b2 b3 b4 z1 z2 z3 z4
  go_enter Try.func30, Try.ntmps30
  go_wp2
  clear e1 e2 e3 e4 hg hg2 hg3 hg4
  go_loopw [7] (fun i wr => ∃ k : Nat, k ≤ 16 ∧ i = .int .i64 (k : Nat) ∧ RowV 50 wr g4 ((putN box s k).map W8) ∧ Below g4 W4 wr) (fun i _ => 16 - (intOf i).toNat)
  case atStart => exact ⟨0, by decide, rfl, r4, Below.refl _ _⟩
  case round =>
    obtain ⟨k, hk, rfl, hr, hBr⟩ := hrel
    by_cases hk8 : k = 16
    · subst hk8
      rw [putN_all] at hr
      have hlw : ((putB box s).map W8).length = 16 := by simp [putB, st16]
      have r3' := r3.below hBr l3
      obtain ⟨R, hR⟩ : ∃ R, putB box s = R := ⟨_, rfl⟩
      rw [hR] at hr hlw
      have HR := Lib.hid hR
      clear hR
      go_wp2_with (first | refine wlv_load rfl 50 16 _ Try.underlying50 Try.arrS _ rfl g4 rfl _ _ hr hlw ?_ | (refine wlv_store rfl 50 16 Try.arrS _ _ rfl g3 _ rfl rfl _ _ r3' (by simp) hlw (ones8 _) ?_; intro w2 hr2 hb2 hz2))
      refine ⟨rfl, _, results_rowV rfl _ g3 _ _ rfl hr2 Try.underlying50 Try.arrS hlw, by rw [HR.out], ?_⟩
      rw [HG.out]
      exact hb2 _ _ (hB.trans (hBr.mono (by omega))) l4
    · have hki : (k : Int) < 16 := by omega
      have hps := putN_succ box s k (by omega)
      obtain ⟨j, hj⟩ : ∃ j, 5 * k % 16 = j := ⟨_, rfl⟩
      have hjl : j < 16 := by omega
      have hji : (5 * (k : Int)) % 16 = (j : Int) := by omega
      obtain ⟨x, hx⟩ : ∃ x, s.getD k 0 = x := ⟨_, rfl⟩
      have c1 := (r1.below hBr l1).at_ (map_at (l := s) (k := k) (by omega))
      rw [hx] at c1
      have c2 := (r2.below hBr l2).at_ (map_at (l := box) (k := x.toNat) (by have := x.isLt; omega))
      rw [show box.getD x.toNat 0 = boxAt box x from rfl, ← i8_nat x] at c2
      have h8 := i8_lt x
      rw [hj, hx] at hps
      have hfz := hr.frozen j
      obtain ⟨z, hz⟩ : ∃ z, (putN box s k).getD j 0 = z := ⟨_, rfl⟩
      have hcl := hr.at_ (map_at (l := putN box s k) (k := j) (by simp [putN, st16]; omega))
      rw [hz] at hcl
      have hr2 := hr.set j (W8 (boxAt box x))
      rw [← List.map_set, hps] at hr2
      have hB2 := below_setV hBr (Nat.le_refl _) j (W8 (boxAt box x))
      have HR2 := Lib.hid hr2
      have HB2 := Lib.hid hB2
      clear hr2 hB2 hr hBr hps hx hj hz
      go_wp2
      go_roundw
      case rel => exact ⟨k + 1, by omega, by go_num, HR2.out, HB2.out⟩
      case measure => simp [intOf]; omega
end Go.Proofs.Ytabhdkjepbkooaa

/- aescore: word; bytes of an element. -/
set_option linter.unusedVariables false
set_option linter.unusedSimpArgs false
namespace Go.Proofs.Ytabhdkjepbkooaa
open Go.RowKit

theorem foldQ_succ (bs : List (BitVec 8)) (k : Nat) (b : BitVec 8) (h : bs[k]? = some b) : foldQ (bs.take (k + 1)) = foldQ (bs.take k) <<< 8 ||| b.setWidth 64 := by
  rw [List.take_add_one, h]; simp [foldQ]
set_option maxRecDepth 100000 in
set_option maxHeartbeats 1600000 in
theorem word_any (w : World) (B b off n c : Nat) (bs : List (BitVec 8)) (hs : SlV w B (some ⟨b, off, none⟩) n c (bs.map W8)) (hn : n = 8) :
    Calls Try.prog 44 #[.slice (some ⟨b, off, none⟩) n c] w fun e w' => e = .returned (W64 (foldQ bs)) ∧ w = w' := by
  have hl : bs.length = 8 := by have := hs.len; simp at this; omega
  have o64 := b64_or
  have s64 : ∀ x : BitVec 64, IntKind.u64.wrap (i64 x * 256) = i64 (x <<< 8) := fun x => b64_shl x 8
  subst hn
  go_enter Try.func44, Try.ntmps44
  go_wp2
  go_loopw [2, 7] (fun x j wr => ∃ k : Nat, k ≤ 8 ∧ j = .int .i64 (k : Nat) ∧ x = W64 (foldQ (bs.take k)) ∧ wr = w) (fun _ j _ => 8 - (intOf j).toNat)
  case atStart => exact ⟨0, by decide, rfl, rfl, rfl⟩
  case round =>
    obtain ⟨k, hk, rfl, rfl, rfl⟩ := hrel
    by_cases hk8 : k = 8
    · subst hk8
      rw [List.take_of_length_le (by omega)]
      go_wp2
      go_ret
      exact ⟨rfl, rfl⟩
    · have hki : (k : Int) < 8 := by omega
      obtain ⟨b2, o2, v, e1, hb, hv, hcl⟩ := hs.at_ (k := k) (by omega)
      injection e1 with e1
      injection e1 with e1 e2
      subst e1 e2
      rw [List.getElem?_map, Option.map_eq_some_iff] at hv
      obtain ⟨x, hx, rfl⟩ := hv
      have hst := foldQ_succ bs k x hx
      have h8 := i8_lt x
      have hcv : i8 x = i64 (x.setWidth 64) := c8_64'' x
      have HST := Lib.hid hst
      clear hst hx
      go_wp2
      go_roundw
      case rel => exact ⟨k + 1, by omega, by go_num, by rw [HST.out], by first | rfl | trivial⟩
      case measure => simp [intOf]; omega
/-- the bytes of the halves, k of each written -/
def halfN (h l : BitVec 64) (k : Nat) : List (BitVec 8) := st16 (fun i => if i < 8 then (if i < k then (h >>> (56 - 8 * i)).setWidth 8 else 0) else (if i - 8 < k then (l >>> (56 - 8 * (i - 8))).setWidth 8 else 0))
theorem halfN_zero (h l : BitVec 64) : halfN h l 0 = List.replicate 16 0 := rfl
theorem halfN_all (h l : BitVec 64) : halfN h l 8 = byV (h ++ l) := by
  rw [byV_halves]
  have e : (List.range 8).map (fun k => (h >>> (56 - 8 * k)).setWidth 8) ++ (List.range 8).map (fun k => (l >>> (56 - 8 * k)).setWidth 8) = st16 (fun k => if k < 8 then (h >>> (56 - 8 * k)).setWidth 8 else (l >>> (56 - 8 * (k - 8))).setWidth 8) := rfl
  rw [e]
  unfold halfN
  refine st16_congr fun i hi => ?_
  by_cases h8 : i < 8
  · rw [if_pos h8, if_pos h8, if_pos h8]
  · rw [if_neg h8, if_neg h8, if_pos (by omega)]
theorem halfN_succ (h l : BitVec 64) (k : Nat) (hk : k < 8) : ((halfN h l k).set k ((h >>> (56 - 8 * k)).setWidth 8)).set (8 + k) ((l >>> (56 - 8 * k)).setWidth 8) = halfN h l (k + 1) := by
  unfold halfN
  rw [st16_set _ _ _ (by omega), st16_set _ _ _ (by omega)]
  refine st16_congr fun i hi => ?_
  by_cases e1 : i = 8 + k
  · subst e1
    rw [if_pos rfl, if_neg (by omega), if_pos (by omega), show 8 + k - 8 = k by omega]
  · rw [if_neg e1]
    by_cases e2 : i = k
    · subst e2
      rw [if_pos rfl, if_pos hk, if_pos (by omega)]
    · rw [if_neg e2]
      by_cases h8 : i < 8
      · rw [if_pos h8, if_pos h8]
        by_cases h9 : i < k
        · rw [if_pos h9, if_pos (by omega)]
        · rw [if_neg h9, if_neg (by omega)]
      · rw [if_neg h8, if_neg h8]
        by_cases h9 : i - 8 < k
        · rw [if_pos h9, if_pos (by omega)]
        · rw [if_neg h9, if_neg (by omega)]
end Go.Proofs.Ytabhdkjepbkooaa

/- aescore: bytes of an element. -/
set_option linter.unusedVariables false
set_option linter.unusedSimpArgs false
namespace Go.Proofs.Ytabhdkjepbkooaa
open Go.RowKit

set_option maxRecDepth 100000 in
set_option maxHeartbeats 1600000 in
theorem ebytes_any (w : World) (h l : BitVec 64) : Calls Try.prog 37 #[EV h l] w fun e w' => ∃ g, e = .returned (.slice (some ⟨g, 0, none⟩) 16 16) ∧ w.heap.size ≤ g ∧ RowV 5 w' g ((byV (h ++ l)).map W8) ∧ Below w.heap.size w w' := by
  obtain ⟨W1, e1, r1, b1, z1⟩ := newE w h l
  obtain ⟨g, hg⟩ : ∃ g, w.heap.size = g := ⟨_, rfl⟩
  rw [hg] at r1 b1
  have HG := Lib.hid hg
  have HB1 := Lib.hid b1
  have c10 := r1.at_ (i := 0) (v := W64 h) rfl
  have c11 := r1.at_ (i := 1) (v := W64 l) rfl
  clear b1 z1
  go_enter Try.func37, Try.ntmps37
  go_wp2_with (at_make; refine wlv_make Try.elem8 rfl _ rfl _ 16 rfl rfl (by decide) ?_; intro W2 r2 b2 z2)
  obtain ⟨g2, hg2⟩ : ∃ x, W1.heap.size = x := ⟨_, rfl⟩
  rw [hg2] at r2 b2 ⊢
  have l2 : g < g2 := by have := r1.lt; omega
  have r1 := r1.below b2 l2
  have HB2 := Lib.hid b2
  clear e1 hg hg2 b2 c10 c11
  go_loopw [6] (fun i wr => ∃ k : Nat, k ≤ 8 ∧ i = .int .i64 (k : Nat) ∧ RowV 5 wr g2 ((halfN h l k).map W8) ∧ Below g2 W2 wr) (fun i _ => 8 - (intOf i).toNat)
  case atStart => exact ⟨0, by decide, rfl, r2, Below.refl _ _⟩
  case round =>
    obtain ⟨k, hk, rfl, hr, hBr⟩ := hrel
    by_cases hk8 : k = 8
    · subst hk8
      rw [halfN_all] at hr
      have HR := Lib.hid hr
      have HBR := Lib.hid hBr
      clear hr hBr
      go_wp2
      go_ret
      exact ⟨g2, rfl, by rw [HG.out]; omega, HR.out, by rw [HG.out]; exact HB1.out.trans ((HB2.out.mono (by omega)).trans (HBR.out.mono (by omega)))⟩
    · have hki : (k : Int) < 8 := by omega
      have c10 := (r1.below hBr l2).at_ (i := 0) (v := W64 h) rfl
      have c11 := (r1.below hBr l2).at_ (i := 1) (v := W64 l) rfl
      obtain ⟨j, hj⟩ : ∃ j, 56 - 8 * k = j := ⟨_, rfl⟩
      have hjI : (56 : Int) - 8 * (k : Int) = (j : Int) := by omega
      have hj0 : (0 : Int) ≤ (j : Int) := by omega
      have hj64 : j ≤ 56 := by omega
      obtain ⟨q, hq⟩ : ∃ q, 8 + k = q := ⟨_, rfl⟩
      have hqI : (8 : Int) + (k : Int) = (q : Int) := by omega
      have hq16 : (q : Int) < 16 := by omega
      obtain ⟨h', hh'⟩ : ∃ x, h >>> j = x := ⟨_, rfl⟩
      obtain ⟨l', hl'⟩ : ∃ x, l >>> j = x := ⟨_, rfl⟩
      obtain ⟨x, hx⟩ : ∃ x, BitVec.setWidth 8 h' = x := ⟨_, rfl⟩
      obtain ⟨y, hy⟩ : ∃ x, BitVec.setWidth 8 l' = x := ⟨_, rfl⟩
      have n1 : i64 h / 2 ^ j = i64 h' := by rw [← hh']; exact b64_shr h j
      have n2 : i64 l / 2 ^ j = i64 l' := by rw [← hl']; exact b64_shr l j
      have n3 : i64 h' % 256 = i8 x := by rw [← hx]; exact c64_8' h'
      have n4 : i64 l' % 256 = i8 y := by rw [← hy]; exact c64_8' l'
      have hst := halfN_succ h l k (by omega)
      rw [hj, hh', hl', hx, hy, hq] at hst
      obtain ⟨L, hL⟩ : ∃ L, halfN h l k = L := ⟨_, rfl⟩
      have hLl : L.length = 16 := by rw [← hL]; exact st16_length _
      rw [hL] at hr hst
      have f1 := hr.frozen k
      have d1 := hr.at_ (map_at (l := L) (k := k) (by omega))
      obtain ⟨V, hV⟩ : ∃ V, wr.setCell ⟨g2, k, none⟩ (W8 x) = V := ⟨_, rfl⟩
      have hr2 := hr.set k (W8 x)
      rw [hV, ← List.map_set] at hr2
      have hb2 := below_setV hBr (Nat.le_refl _) k (W8 x)
      rw [hV] at hb2
      have c11' := (r1.below hb2 l2).at_ (i := 1) (v := W64 l) rfl
      have f2 := hr2.frozen q
      have d2 := hr2.at_ (map_at (l := L.set k x) (k := q) (by rw [List.length_set]; omega))
      have hr3 := hr2.set q (W8 y)
      rw [← List.map_set, hst] at hr3
      have HR3 := Lib.hid hr3
      have HB3 := Lib.hid (below_setV hb2 (Nat.le_refl _) q (W8 y))
      have HV := Lib.hid hV
      obtain ⟨z1, hz1⟩ : ∃ z, L.getD k 0 = z := ⟨_, rfl⟩
      obtain ⟨z2, hz2⟩ : ∃ z, (L.set k x).getD q 0 = z := ⟨_, rfl⟩
      rw [hz1] at d1
      rw [hz2] at d2
      clear hr3 hr2 hb2 hr hBr hst hL hh' hl' hx hy hz1 hz2 hj hq c11
      go_wp2
      go_roundw
      case rel => exact ⟨k + 1, by omega, by go_num, HR3.out, HB3.out⟩
      case measure => simp [intOf]; omega
end Go.Proofs.Ytabhdkjepbkooaa

/- The zeros of an array of 256 bytes, where the loader does not name them. -/
set_option linter.unusedVariables false
set_option linter.unusedSimpArgs false
namespace Go.Proofs.Ytabhdkjepbkooaa
open Go.RowKit

def Try.zeroCells47 : Array Value := --LG2
  (List.replicate 256 (Value.int .u8 0)).toArray
theorem Try.zeroValue47 (w : World) : --LG2
    (zeroValue 47).run Try.prog w = .ok (.agg Try.zeroCells47) w := by kernel_rfl
theorem Try.zeroCells47_size : --LG2
    Try.zeroCells47.size = 256 := by kernel_rfl
theorem Try.zeroCells47_ne : --LG2
    Try.zeroCells47 ≠ #[] := by intro h; have := congrArg Array.size h; rw [Try.zeroCells47_size] at this; cases this
end Go.Proofs.Ytabhdkjepbkooaa

/- aescore: the boxes. -/
set_option linter.unusedVariables false
set_option linter.unusedSimpArgs false
namespace Go.Proofs.Ytabhdkjepbkooaa
open Go.RowKit
attribute [local go_sem] Try.zeroValue47 Try.zeroCells47_size Try.zeroCells47_ne

theorem run_index256 (w : World) (xs : List (BitVec 8)) (hl : xs.length = 256) (k : Nat) (x : BitVec 8) (hk : xs[k]? = some x) : (Instr.index 47 (.agg (xs.map W8).toArray) (.int .i64 (k : Int))).run Try.prog w = .ok (W8 x) w := by
  have hkn : k < 256 := by rw [← hl]; exact (List.getElem?_eq_some_iff.1 hk).1
  have h0 : (0 : Int) ≤ k := by omega
  have h1 : ¬ 256 ≤ k := by omega
  simp [Instr.index, run_underlying Try.underlying47, asIntOf, part, h0, h1, hk, go_sem]
theorem new256 (w : World) : ∃ W, w.alloc (.cells Try.zeroCells47 47) = W ∧ RowV 47 W w.heap.size ((List.replicate 256 (0 : BitVec 8)).map W8) ∧ Below w.heap.size w W ∧ W.heap.size = w.heap.size + 1 :=
  newV w 47 ((List.replicate 256 (0 : BitVec 8)).map W8) Try.zeroCells47 (by kernel_rfl)
/-- the box that takes the first k bytes of a box back -/
def invN (box : List (BitVec 8)) : Nat → List (BitVec 8)
  | 0 => List.replicate 256 0
  | k + 1 => (invN box k).set (box.getD k 0).toNat (BitVec.ofNat 8 k)
theorem invN_length (box : List (BitVec 8)) : ∀ k, (invN box k).length = 256
  | 0 => by rw [invN, List.length_replicate]
  | k + 1 => by rw [invN, List.length_set, invN_length box k]
theorem invN_box : invN boxL 256 = invL := by decide +kernel
theorem boxL_length : boxL.length = 256 := by kernel_rfl
theorem invL_length : invL.length = 256 := by kernel_rfl
theorem i8_ofNat (k : Nat) (h : k < 256) : i8 (BitVec.ofNat 8 k) = (k : Int) := by unfold i8; rw [BitVec.toNat_ofNat]; omega

set_option maxRecDepth 100000 in
set_option maxHeartbeats 1600000 in
theorem inverse_any (w : World) (box : List (BitVec 8)) (hbl : box.length = 256) : Calls Try.prog 27 #[.agg (box.map W8).toArray] w fun e w' => e = .returned (.agg ((invN box 256).map W8).toArray) ∧ Below w.heap.size w w' := by
  obtain ⟨W1, e1, r1, b1, z1⟩ := newV w 47 (box.map W8) _ rfl
  obtain ⟨W2, e2, r2, b2, z2⟩ := new256 W1
  obtain ⟨W3, e3, r3, b3, z3⟩ := new256 W2
  obtain ⟨g, hg⟩ : ∃ g, w.heap.size = g := ⟨_, rfl⟩
  have hB : Below g w W3 := by
    rw [← hg]
    exact b1.trans ((b2.mono b1.size).trans (b3.mono (Nat.le_trans b1.size b2.size)))
  have r1 := (r1.later b2).later b3
  have r2 := r2.later b3
  obtain ⟨g2, hg2⟩ : ∃ x, W1.heap.size = x := ⟨_, rfl⟩
  obtain ⟨g3, hg3⟩ : ∃ x, W2.heap.size = x := ⟨_, rfl⟩
  rw [hg] at r1
  rw [hg2] at r2
  rw [hg3] at r3
  have l1 : g < g3 := by omega
  have l2 : g2 < g3 := by omega
  have l4 : g ≤ g2 := by omega
  have HG := Lib.hid hg
  clear b1 b2 b3 z1 z2 z3
  have hlb : (box.map W8).length = 256 := by simpa using hbl
  go_enter Try.func27, Try.ntmps27
  go_wp2_with (refine wlv_load rfl 47 256 _ Try.underlying47 Try.arr256 _ rfl g rfl _ _ r1 hlb ?_)
  clear e1 e2 e3 hg hg2 hg3
  go_loopw [7] (fun i wr => ∃ k : Nat, k ≤ 256 ∧ i = .int .i64 (k : Nat) ∧ RowV 47 wr g3 ((invN box k).map W8) ∧ Below g3 W3 wr) (fun i _ => 256 - (intOf i).toNat)
  case atStart => exact ⟨0, by decide, rfl, r3, Below.refl _ _⟩
  case round =>
    obtain ⟨k, hk, rfl, hr, hBr⟩ := hrel
    by_cases hk8 : k = 256
    · subst hk8
      have hlw : ((invN box 256).map W8).length = 256 := by rw [List.length_map]; exact invN_length box 256
      have r2' := r2.below hBr l2
      obtain ⟨R, hR⟩ : ∃ R, invN box 256 = R := ⟨_, rfl⟩
      rw [hR] at hr hlw
      have HR := Lib.hid hR
      clear hR
      go_wp2_with (first | refine wlv_load rfl 47 256 _ Try.underlying47 Try.arr256 _ rfl g3 rfl _ _ hr hlw ?_ | (refine wlv_store rfl 47 256 Try.arr256 _ _ rfl g2 _ rfl rfl _ _ r2' (by rw [List.length_map, List.length_replicate]) hlw (ones8 _) ?_; intro w2 hr2 hb2 hz2))
      refine ⟨rfl, _, results_rowV rfl _ g2 _ _ rfl hr2 Try.underlying47 Try.arr256 hlw, by rw [HR.out], ?_⟩
      rw [HG.out]
      exact hb2 _ _ (hB.trans (hBr.mono (by omega))) l4
    · have hki : (k : Int) < 256 := by omega
      obtain ⟨x, hx⟩ : ∃ x, box.getD k 0 = x := ⟨_, rfl⟩
      have hix := run_index256 wr box hbl k x (by rw [get_at (by omega), hx])
      have h8 := i8_lt x
      have hcv := i8_ofNat k (by omega)
      obtain ⟨j, hj⟩ : ∃ j, (i8 x).toNat = j := ⟨_, rfl⟩
      have hjl : j < 256 := by omega
      have hfz := hr.frozen j
      obtain ⟨z, hz⟩ : ∃ z, (invN box k).getD j 0 = z := ⟨_, rfl⟩
      have hcl := hr.at_ (map_at (l := invN box k) (k := j) (by rw [invN_length]; exact hjl))
      rw [hz] at hcl
      have hr2 := hr.set j (W8 (BitVec.ofNat 8 k))
      rw [← List.map_set, show (invN box k).set j (BitVec.ofNat 8 k) = invN box (k + 1) by rw [invN, hx, ← hj, i8_nat]] at hr2
      have hB2 := below_setV hBr (Nat.le_refl _) j (W8 (BitVec.ofNat 8 k))
      rw [show W8 (BitVec.ofNat 8 k) = .int .u8 (k : Int) by rw [← hcv]] at hr2 hB2
      have HR2 := Lib.hid hr2
      have HB2 := Lib.hid hB2
      clear hr2 hB2 hr hBr hx hz hcv
      go_wp2
      go_roundw
      case rel => exact ⟨k + 1, by omega, by go_num, HR2.out, HB2.out⟩
      case measure => simp [intOf]; omega
theorem wlv_build {P : Program} {w : World} {ops : Array Oper} {rest : List Oper} {o : Oper} {a : Act} {Q : Exit → Act → World → Prop} (hgd : o.guard = none) (v : Value) (hr : (execOp a.eval o).run P w = .ok (.value v) w) (h : wpList P ops Q rest (a.put o.dst v) w) : wpList P ops Q (o :: rest) a w := by
  refine wpList_plain hgd fun K hK => ?_
  unfold Oper.wp
  rw [hr]
  exact hK _ _ h
set_option maxRecDepth 100000 in
set_option maxHeartbeats 1600000 in
theorem sbox_any (w : World) : Calls Try.prog 23 #[] w fun e w' => e = .returned (.agg (boxL.map W8).toArray) ∧ Below w.heap.size w w' := by
  obtain ⟨W1, e1, r1, b1, z1⟩ := new256 w
  obtain ⟨g, hg⟩ : ∃ g, w.heap.size = g := ⟨_, rfl⟩
  rw [hg] at r1 b1
  have HG := Lib.hid hg
  have hlb : (boxL.map W8).length = 256 := by kernel_rfl
  obtain ⟨bl, hbl⟩ : ∃ l, boxL = l := ⟨_, rfl⟩
  have HBL := Lib.hid hbl
  go_enter Try.func23, Try.ntmps23
  go_wp2_with (first | refine wlv_build (o := ⟨some 1, _, _, _, _, _⟩) rfl (.agg (boxL.map W8).toArray) (by kernel_rfl) ?_ | (refine wlv_store rfl 47 256 Try.arr256 _ _ rfl g (boxL.map W8) rfl rfl _ _ r1 (by rw [List.length_map, List.length_replicate]) hlb (ones8 _) ?_; intro w2 hr2 hb2 hz2))
  refine ⟨rfl, _, results_rowV rfl _ g _ _ rfl hr2 Try.underlying47 Try.arr256 hlb, rfl, ?_⟩
  rw [HG.out]
  exact hb2 _ _ b1 (Nat.le_refl _)
end Go.Proofs.Ytabhdkjepbkooaa
