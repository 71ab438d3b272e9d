/- LimbSums, walked. -/
import Derived.Test.YtfiakaenenbhpaaOpen
namespace Go.Proofs.Ytfiakaenenbhpaa
open Go.RowKit

theorem rcmp_ret (w : World) (B : Nat) (A1 : Option Addr) (n1 c1 : Nat) (xs : List Nat) (hs1 : Sl w B A1 n1 c1 xs) (B2 : Nat) (A2 : Option Addr) (n2 c2 : Nat) (ys : List Nat) (hs2 : Sl w B2 A2 n2 c2 ys) (N M : Nat) (hN : Nm b32 xs N) (hM : Nm b32 ys M) :
    Calls Try.prog 18 #[.slice A1 n1 c1, .slice A2 n2 c2] w fun e w' => RetV w (.int .i64 (ncmp N M)) e w' :=
  (rcmp_any w B A1 n1 c1 xs hs1 B2 A2 n2 c2 ys hs2 N M hN hM).mono fun _ _ ⟨he, q, hq⟩ => ⟨he, by rw [hq]; exact below_drewN (Below.refl _ _) q⟩

set_option maxRecDepth 100000 in
set_option maxHeartbeats 2000000 in
theorem sums_walk (w : World) (A1 : Option Addr) (n1 c1 : Nat) (xs : List Nat) (hs1 : Sl w w.heap.size A1 n1 c1 xs) (hd1 : Dg b64 xs) (A2 : Option Addr) (n2 c2 : Nat) (ys : List Nat) (hs2 : Sl w w.heap.size A2 n2 c2 ys) (hd2 : Dg b64 ys) :
    Calls Try.prog 3 #[.slice A1 n1 c1, .slice A2 n2 c2] w fun e w' => RetV w (.bool true) e w' := by
  have hda := hd1.take 20
  have hdb := hd2.take 20
  have hVa := V20 hd1
  have hVb := V20 hd2
  have hB : Below w.heap.size w w := Below.refl _ _
  go_enter Try.func3, Try.ntmps3
  go_wp2_with fail
  refine (begun_any w).mono ?_
  rintro e w1 ⟨rfl, hc1⟩
  replace hs1 := hs1.later hc1 (Nat.le_refl _)
  replace hs2 := hs2.later hc1 (Nat.le_refl _)
  replace hB := hB.trans (hc1.mono hB.size)
  clear hc1
  go_wp2_with fail
  refine (few_any w1 _ _ _ _ xs hs1).mono ?_
  rintro e w2 ⟨Aa, na, ca, rfl, ha, hc2⟩
  replace hs1 := hs1.later hc2 (Nat.le_refl _)
  replace hs2 := hs2.later hc2 (Nat.le_refl _)
  replace hB := hB.trans (hc2.mono hB.size)
  clear hc2
  go_wp2_with fail
  refine (few_any w2 _ _ _ _ ys hs2).mono ?_
  rintro e w3 ⟨Ab, nb, cb, rfl, hb', hc3⟩
  replace hs1 := hs1.later hc3 (Nat.le_refl _)
  replace hs2 := hs2.later hc3 (Nat.le_refl _)
  replace ha := ha.later hc3 (Nat.le_refl _)
  replace hB := hB.trans (hc3.mono hB.size)
  clear hc3
  clear hs1 hs2
  have hna : na ≤ 20 := by rw [ha.len, List.length_take]; exact Nat.min_le_left _ _
  have hnb : nb ≤ 20 := by rw [hb'.len, List.length_take]; exact Nat.min_le_left _ _
  go_wp2_with fail
  refine (from_any w3 _ (Nat.le_refl _) _ _ _ _ ha hda (by omega)).mono ?_
  rintro e w4 ⟨dx, hX, Ax, nx, cx, rfl, hx, hc4⟩
  replace ha := ha.later hc4 (Nat.le_refl _)
  replace hb' := hb'.later hc4 (Nat.le_refl _)
  replace hB := hB.trans (hc4.mono hB.size)
  clear hc4
  go_wp2_with fail
  refine (from_any w4 _ (Nat.le_refl _) _ _ _ _ hb' hdb (by omega)).mono ?_
  rintro e w5 ⟨dy, hY, Ay, ny, cy, rfl, hy, hc5⟩
  replace ha := ha.later hc5 (Nat.le_refl _)
  replace hb' := hb'.later hc5 (Nat.le_refl _)
  replace hx := hx.later hc5 (Nat.le_refl _)
  replace hB := hB.trans (hc5.mono hB.size)
  clear hc5
  have hnx : nx ≤ 40 := by rw [hx.len]; exact len32 hX hVa
  have hny : ny ≤ 40 := by rw [hy.len]; exact len32 hY hVb
  go_wp2_with fail
  refine (ladd_any w5 _ (Nat.le_refl _) _ _ _ _ ha _ _ _ _ hb' hda hdb (by omega) (by omega)).mono ?_
  rintro e w6 ⟨z1, hZ1, A1', n1', c1', rfl, hz1, hc6⟩
  replace ha := ha.later hc6 (Nat.le_refl _)
  replace hb' := hb'.later hc6 (Nat.le_refl _)
  replace hx := hx.later hc6 (Nat.le_refl _)
  replace hy := hy.later hc6 (Nat.le_refl _)
  replace hB := hB.trans (hc6.mono hB.size)
  clear hc6
  go_wp2_with fail
  refine (radd_any w6 _ (Nat.le_refl _) _ _ _ _ hx _ _ _ _ hy hX.1 hY.1 (by omega) (by omega)).mono ?_
  rintro e w7 ⟨z2, hZ2, A2', n2', c2', rfl, hz2, hc7⟩
  replace ha := ha.later hc7 (Nat.le_refl _)
  replace hb' := hb'.later hc7 (Nat.le_refl _)
  replace hx := hx.later hc7 (Nat.le_refl _)
  replace hy := hy.later hc7 (Nat.le_refl _)
  replace hz1 := hz1.later hc7 (Nat.le_refl _)
  replace hB := hB.trans (hc7.mono hB.size)
  clear hc7
  rw [hX.2.2, hY.2.2] at hZ2
  have hn2' : n2' ≤ 42 := by rw [hz2.len]; exact len32 hZ2 (add20 (by decide) hVa hVb)
  go_wp2_with fail
  refine (is_any w7 _ (Nat.le_refl _) _ _ _ z1 hz1 _ _ _ z2 hz2 _ hZ1 hZ2 (by omega)).mono ?_
  rintro e w8 ⟨rfl, hc8⟩
  replace ha := ha.later hc8 (Nat.le_refl _)
  replace hb' := hb'.later hc8 (Nat.le_refl _)
  replace hx := hx.later hc8 (Nat.le_refl _)
  replace hy := hy.later hc8 (Nat.le_refl _)
  replace hz1 := hz1.later hc8 (Nat.le_refl _)
  replace hz2 := hz2.later hc8 (Nat.le_refl _)
  replace hB := hB.trans (hc8.mono hB.size)
  clear hc8
  clear hz1 hz2 hZ1 hZ2
  go_wp2_with fail
  refine (lmul_any w8 _ (Nat.le_refl _) _ _ _ _ ha _ _ _ _ hb' hda hdb (by omega) (by omega)).mono ?_
  rintro e w9 ⟨z3, hZ3, A3', n3', c3', rfl, hz3, hc9⟩
  replace ha := ha.later hc9 (Nat.le_refl _)
  replace hb' := hb'.later hc9 (Nat.le_refl _)
  replace hx := hx.later hc9 (Nat.le_refl _)
  replace hy := hy.later hc9 (Nat.le_refl _)
  replace hB := hB.trans (hc9.mono hB.size)
  clear hc9
  go_wp2_with fail
  refine (rmul_any w9 _ (Nat.le_refl _) _ _ _ _ hx _ _ _ _ hy hX.1 hY.1 (by omega) (by omega)).mono ?_
  rintro e w10 ⟨z4, hZ4, A4', n4', c4', rfl, hz4, hc10⟩
  replace ha := ha.later hc10 (Nat.le_refl _)
  replace hb' := hb'.later hc10 (Nat.le_refl _)
  replace hx := hx.later hc10 (Nat.le_refl _)
  replace hy := hy.later hc10 (Nat.le_refl _)
  replace hz3 := hz3.later hc10 (Nat.le_refl _)
  replace hB := hB.trans (hc10.mono hB.size)
  clear hc10
  rw [hX.2.2, hY.2.2] at hZ4
  have hn4' : n4' ≤ 80 := by rw [hz4.len]; exact len32 hZ4 (mul20 hVa hVb)
  go_wp2_with fail
  refine (is_any w10 _ (Nat.le_refl _) _ _ _ z3 hz3 _ _ _ z4 hz4 _ hZ3 hZ4 (by omega)).mono ?_
  rintro e w11 ⟨rfl, hc11⟩
  replace ha := ha.later hc11 (Nat.le_refl _)
  replace hb' := hb'.later hc11 (Nat.le_refl _)
  replace hx := hx.later hc11 (Nat.le_refl _)
  replace hy := hy.later hc11 (Nat.le_refl _)
  replace hz3 := hz3.later hc11 (Nat.le_refl _)
  replace hz4 := hz4.later hc11 (Nat.le_refl _)
  replace hB := hB.trans (hc11.mono hB.size)
  clear hc11
  clear hz3 hz4 hZ3 hZ4
  go_wp2_with fail
  refine (norm_any w11 _ _ _ _ _ ha hda (by omega)).mono ?_
  rintro e w12 ⟨z5, hZ5, A5', n5', c5', rfl, hz5, hc12⟩
  replace ha := ha.later hc12 (Nat.le_refl _)
  replace hb' := hb'.later hc12 (Nat.le_refl _)
  replace hx := hx.later hc12 (Nat.le_refl _)
  replace hy := hy.later hc12 (Nat.le_refl _)
  replace hB := hB.trans (hc12.mono hB.size)
  clear hc12
  go_wp2_with fail
  refine (is_any w12 _ (Nat.le_refl _) _ _ _ z5 hz5 _ _ _ dx hx _ hZ5 hX (by omega)).mono ?_
  rintro e w13 ⟨rfl, hc13⟩
  replace ha := ha.later hc13 (Nat.le_refl _)
  replace hb' := hb'.later hc13 (Nat.le_refl _)
  replace hx := hx.later hc13 (Nat.le_refl _)
  replace hy := hy.later hc13 (Nat.le_refl _)
  replace hz5 := hz5.later hc13 (Nat.le_refl _)
  replace hB := hB.trans (hc13.mono hB.size)
  clear hc13
  clear hz5 hZ5
  by_cases hlt : V b64 (xs.take 20) < V b64 (ys.take 20)
  · have e0 := ncmp_lt hlt
    have HE := Lib.hid e0
    clear e0
    go_wp2_with fail
    refine (lsub_no w13 _ _ _ _ ha _ _ _ _ hb' hda hdb hlt).mono ?_
    rintro e w14 ⟨rfl, hc⟩
    replace ha := ha.later hc (Nat.le_refl _)
    replace hb' := hb'.later hc (Nat.le_refl _)
    replace hx := hx.later hc (Nat.le_refl _)
    replace hy := hy.later hc (Nat.le_refl _)
    replace hB := hB.trans (hc.mono hB.size)
    clear hc
    go_wp2_with fail
    refine (rcmp_ret w14 _ _ _ _ _ hx _ _ _ _ _ hy _ _ hX hY).mono ?_
    rw [HE.out]
    rintro e w15 ⟨rfl, hc⟩
    replace ha := ha.later hc (Nat.le_refl _)
    replace hb' := hb'.later hc (Nat.le_refl _)
    replace hx := hx.later hc (Nat.le_refl _)
    replace hy := hy.later hc (Nat.le_refl _)
    replace hB := hB.trans (hc.mono hB.size)
    clear hc
    go_wp2_with fail
    refine (lcmp_any w15 _ _ _ _ ha _ _ _ _ hb' hda hdb).mono ?_
    rw [HE.out]
    rintro e w16 ⟨rfl, hc⟩
    replace ha := ha.later hc (Nat.le_refl _)
    replace hb' := hb'.later hc (Nat.le_refl _)
    replace hx := hx.later hc (Nat.le_refl _)
    replace hy := hy.later hc (Nat.le_refl _)
    replace hB := hB.trans (hc.mono hB.size)
    clear hc
    go_wp2_with fail
    go_ret
    exact ⟨rfl, hB⟩
  · have hle : V b64 (ys.take 20) ≤ V b64 (xs.take 20) := by omega
    obtain ⟨cv, hcv⟩ : ∃ cv, ncmp (V b64 (xs.take 20)) (V b64 (ys.take 20)) = cv := ⟨_, rfl⟩
    have hcn : ¬ cv < 0 := by rw [← hcv]; unfold ncmp; rw [if_neg hlt]; split <;> omega
    have HCV := Lib.hid hcv
    clear hcv
    have hcc : (cv == cv) = true := by simp
    have hnyx : ny ≤ nx := by rw [hx.len, hy.len]; exact len_le_of (by decide) hY hX hle
    go_wp2_with fail
    refine (lsub_yes w13 _ _ _ _ ha _ _ _ _ hb' hda hdb (by omega) hle).mono ?_
    rintro e w14 ⟨z6, A6, n6, c6, hZ6, rfl, hz6, hc⟩
    replace ha := ha.later hc (Nat.le_refl _)
    replace hb' := hb'.later hc (Nat.le_refl _)
    replace hx := hx.later hc (Nat.le_refl _)
    replace hy := hy.later hc (Nat.le_refl _)
    replace hB := hB.trans (hc.mono hB.size)
    clear hc
    go_wp2_with fail
    refine (rcmp_ret w14 _ _ _ _ _ hx _ _ _ _ _ hy _ _ hX hY).mono ?_
    rw [HCV.out]
    rintro e w15 ⟨rfl, hc⟩
    replace ha := ha.later hc (Nat.le_refl _)
    replace hb' := hb'.later hc (Nat.le_refl _)
    replace hx := hx.later hc (Nat.le_refl _)
    replace hy := hy.later hc (Nat.le_refl _)
    replace hz6 := hz6.later hc (Nat.le_refl _)
    replace hB := hB.trans (hc.mono hB.size)
    clear hc
    go_wp2_with fail
    refine (rsub_any w15 _ (Nat.le_refl _) _ _ _ _ hx _ _ _ _ hy hX.1 hY.1 (by omega) hnyx (by rw [hX.2.2, hY.2.2]; exact hle)).mono ?_
    rintro e w16 ⟨z7, hZ7, A7, n7, c7, rfl, hz7, hc⟩
    rw [hX.2.2, hY.2.2] at hZ7
    have hn7 : n7 ≤ 40 := by rw [hz7.len]; exact len32 (k := 20) hZ7 (Nat.lt_of_le_of_lt (Nat.sub_le _ _) hVa)
    replace ha := ha.later hc (Nat.le_refl _)
    replace hb' := hb'.later hc (Nat.le_refl _)
    replace hx := hx.later hc (Nat.le_refl _)
    replace hy := hy.later hc (Nat.le_refl _)
    replace hz6 := hz6.later hc (Nat.le_refl _)
    replace hB := hB.trans (hc.mono hB.size)
    clear hc
    go_wp2_with fail
    refine (is_any w16 _ (Nat.le_refl _) _ _ _ z6 hz6 _ _ _ z7 hz7 _ hZ6 hZ7 (by omega)).mono ?_
    rintro e w17 ⟨rfl, hc⟩
    replace ha := ha.later hc (Nat.le_refl _)
    replace hb' := hb'.later hc (Nat.le_refl _)
    replace hx := hx.later hc (Nat.le_refl _)
    replace hy := hy.later hc (Nat.le_refl _)
    replace hB := hB.trans (hc.mono hB.size)
    clear hc
    go_wp2_with fail
    refine (lcmp_any w17 _ _ _ _ ha _ _ _ _ hb' hda hdb).mono ?_
    rw [HCV.out]
    rintro e w18 ⟨rfl, hc⟩
    replace ha := ha.later hc (Nat.le_refl _)
    replace hb' := hb'.later hc (Nat.le_refl _)
    replace hx := hx.later hc (Nat.le_refl _)
    replace hy := hy.later hc (Nat.le_refl _)
    replace hB := hB.trans (hc.mono hB.size)
    clear hc
    go_wp2_with fail
    refine (rcmp_ret w18 _ _ _ _ _ hx _ _ _ _ _ hy _ _ hX hY).mono ?_
    rw [HCV.out]
    rintro e w19 ⟨rfl, hc⟩
    replace ha := ha.later hc (Nat.le_refl _)
    replace hb' := hb'.later hc (Nat.le_refl _)
    replace hx := hx.later hc (Nat.le_refl _)
    replace hy := hy.later hc (Nat.le_refl _)
    replace hB := hB.trans (hc.mono hB.size)
    clear hc
    go_wp2_with fail
    go_ret
    exact ⟨rfl, hB⟩
end Go.Proofs.Ytfiakaenenbhpaa
