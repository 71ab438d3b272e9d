/- LimbRing, walked. -/
import Derived.Test.YtopgjmbmhlbadaaOpen
import Derived.Test.YtopgjmbmhlbadaaLimbL
namespace Go.Proofs.Ytopgjmbmhlbadaa
open Go.RowKit

theorem zeros_V {B : Nat} (qa : List Nat) (k : Nat) : V B (qa ++ List.replicate k 0) = V B qa := V_zeros qa k

set_option maxRecDepth 100000 in
set_option maxHeartbeats 2000000 in
theorem ring_walk (w : World) (A1 : Option Addr) (n1 c1 : Nat) (xs : List Nat) (hs1 : Sl w w.heap.size A1 n1 c1 xs) (hd1 : Dg b64 xs) (A2 : Option Addr) (n2 c2 : Nat) (ys : List Nat) (hs2 : Sl w w.heap.size A2 n2 c2 ys) (hd2 : Dg b64 ys)
    (A3 : Option Addr) (n3 c3 : Nat) (us : List Nat) (hs3 : Sl w w.heap.size A3 n3 c3 us) (hd3 : Dg b64 us) (K : Int) :
    Calls Try.prog 7 #[.slice A1 n1 c1, .slice A2 n2 c2, .slice A3 n3 c3, .int .i64 K] w fun e w' => RetV w (.bool true) e w' := by
  have hda := hd1.take 20
  have hdb := hd2.take 20
  have hdc := hd3.take 20
  have hVa := V20 hd1
  have hVb := V20 hd2
  have hVc := V20 hd3
  have hB : Below w.heap.size w w := Below.refl _ _
  go_enter Try.func7, Try.ntmps7
  go_wp2_with fail
  refine (begun_any w).mono ?_
  rintro e w1 ⟨rfl, hc⟩
  replace hs1 := hs1.later hc (Nat.le_refl _)
  replace hs2 := hs2.later hc (Nat.le_refl _)
  replace hs3 := hs3.later hc (Nat.le_refl _)
  replace hB := hB.trans (hc.mono hB.size)
  clear hc
  go_wp2_with fail
  refine (few_any w1 _ _ _ _ xs hs1).mono ?_
  rintro e w2 ⟨Aa, na, ca, rfl, ha, hc⟩
  replace hs2 := hs2.later hc (Nat.le_refl _)
  replace hs3 := hs3.later hc (Nat.le_refl _)
  replace hB := hB.trans (hc.mono hB.size)
  clear hc hs1
  go_wp2_with fail
  refine (few_any w2 _ _ _ _ ys hs2).mono ?_
  rintro e w3 ⟨Ab, nb, cb, rfl, hb', hc⟩
  replace hs3 := hs3.later hc (Nat.le_refl _)
  replace ha := ha.later hc (Nat.le_refl _)
  replace hB := hB.trans (hc.mono hB.size)
  clear hc hs2
  go_wp2_with fail
  refine (few_any w3 _ _ _ _ us hs3).mono ?_
  rintro e w4 ⟨Ac, nc, cc, rfl, hc', hc⟩
  replace ha := ha.later hc (Nat.le_refl _)
  replace hb' := hb'.later hc (Nat.le_refl _)
  replace hB := hB.trans (hc.mono hB.size)
  clear hc hs3
  have hna : na ≤ 20 := by rw [ha.len, List.length_take]; exact Nat.min_le_left _ _
  have hnb : nb ≤ 20 := by rw [hb'.len, List.length_take]; exact Nat.min_le_left _ _
  have hnc : nc ≤ 20 := by rw [hc'.len, List.length_take]; exact Nat.min_le_left _ _
  obtain ⟨qa, has⟩ : ∃ qa, xs.take 20 = qa := ⟨_, rfl⟩
  obtain ⟨qb, hbs⟩ : ∃ qa, ys.take 20 = qa := ⟨_, rfl⟩
  obtain ⟨qc, hcs⟩ : ∃ qa, us.take 20 = qa := ⟨_, rfl⟩
  rw [has] at ha hda hVa
  rw [hbs] at hb' hdb hVb
  rw [hcs] at hc' hdc hVc
  clear has hbs hcs hd1 hd2 hd3
  go_wp2_with (at_builtin; refine wl_append_own rfl _ _ Try.underlying23 rfl Aa na ca qa rfl _ ha (by omega) ?_; intro v5 w5 hown h5)
  go_loopw [10, 11] (fun d i wr => ∃ k : Nat, k ≤ 4 ∧ i = .int .i64 (k : Nat) ∧ wr.ownsRow w4.heap.size 58 1 d (na + k) ((qa ++ List.replicate k 0).map U) ∧ Below w4.heap.size w4 wr) (fun _ i _ => 4 - (intOf i).toNat)
  case atStart => exact ⟨0, Nat.zero_le _, rfl, by simpa using hown, h5⟩
  case round =>
    obtain ⟨k, hk, rfl, hown, h5⟩ := hrel
    by_cases hlt : (k : Int) < K ∧ k < 4
    · obtain ⟨h6, h7⟩ := hlt
      have h8 : (k : Int) < 4 := by omega
      have hc0 : (wr.alloc (.cells #[.int .u64 0] 58)).cell? ⟨wr.heap.size, 0, none⟩ = some (.int .u64 ((0 : Nat) : Int)) := (heap_new_row wr 0).at_ rfl
      have hown1 := hown.alloc (.cells #[.int .u64 0] 58)
      have hk1 : na + k + 1 ≤ 17592186044416 := by omega
      have hsz1 : w4.heap.size ≤ (wr.alloc (.cells #[.int .u64 0] 58)).heap.size := by have := h5.size; simp; omega
      go_wp2_with (at_builtin; refine wl_append_one rfl _ _ _ Try.underlying23 rfl w4.heap.size _ (na + k) _ rfl hown1 _ _ 0 rfl hc0 hk1 hsz1 ?_; intro v6 w6 hown6 h6')
      go_roundw
      case rel => exact ⟨k + 1, by omega, by go_num, by rw [List.replicate_succ', ← List.append_assoc]; exact hown6, h6' _ _ (h5.alloc h5.size _) (Nat.le_refl _)⟩
      case measure => simp [intOf]; omega
    · obtain ⟨Ad, cd, rfl, hd0⟩ := Sl.of_own hown
      have hdd : Dg b64 (qa ++ List.replicate k 0) := hda.append (dg_zeros b64_pos k)
      have hVd := zeros_V (B := b64) qa k
      have hnd : na + k ≤ 24 := by omega
      clear hown
      obtain ⟨qd, hqd⟩ : ∃ qd, qa ++ List.replicate k 0 = qd := ⟨_, rfl⟩
      rw [hqd] at hd0 hdd hVd
      clear hqd
      obtain ⟨nd, hnde⟩ : ∃ nd, na + k = nd := ⟨_, rfl⟩
      rw [hnde] at hd0 hnd ⊢
      have hs4 := h5.size
      replace ha := ha.below h5
      replace hb' := hb'.below h5
      replace hc' := hc'.below h5
      replace hB := hB.trans (h5.mono hB.size)
      have hout : ¬ (k : Int) < K ∨ ((k : Int) < K ∧ ¬ (k : Int) < 4) := by omega
      clear h5 hlt hnde
      have HO := Lib.hid hout
      clear hout
      obtain ⟨B4, hB4⟩ : ∃ B4, B4 = w4.heap.size := ⟨_, rfl⟩
      rw [← hB4] at ha hb' hc' hs4
      have HB4 := Lib.hid hB4
      clear hB4
      rcases HO.out with h6 | ⟨h6, h7⟩
      all_goals
        go_wp2_with fail
        refine (ladd_any wr B4 hs4 _ _ _ _ hb' _ _ _ _ hc' hdb hdc (by omega) (by omega)).mono ?_
        rintro e w7 ⟨z1, hZ1, A1', m1, c1', rfl, hz1, hc⟩
        replace ha := ha.below (hc.mono hs4)
        replace hb' := hb'.below (hc.mono hs4)
        replace hc' := hc'.below (hc.mono hs4)
        replace hd0 := hd0.later hc (Nat.le_refl _)
        replace hs4 := Nat.le_trans hs4 hc.size
        replace hB := hB.trans (hc.mono hB.size)
        clear hc
        have hm1 : m1 ≤ 21 := by rw [hz1.len]; exact hZ1.length_le (by decide) (add20 (by decide) hVb hVc)
        have HZ1 := Lib.hid hZ1.2.2
        go_wp2_with fail
        refine (lmul_own w7 _ (Nat.le_refl _) _ _ _ _ hd0 _ _ _ _ hz1 hdd hZ1.1 (by omega) (by omega)).mono ?_
        rintro e w8 ⟨zs, m, cx, rfl, hR, hmz, hzl, hcz, hZ2, hz2, hc⟩
        obtain ⟨g, hg⟩ : ∃ g, g = w7.heap.size := ⟨_, rfl⟩
        rw [← hg] at hR hz2 hc hd0 hs4 ⊢
        have hgl := hc.size
        have hgR := hR.lt
        replace ha := ha.below (hc.mono hs4)
        replace hb' := hb'.below (hc.mono hs4)
        replace hc' := hc'.below (hc.mono hs4)
        replace hd0 := hd0.below hc
        have hWg : w.heap.size ≤ g := by rw [hg]; exact hB.size
        replace hB := hB.trans (hc.mono hWg)
        have HG := Lib.hid hg
        clear hc hz1 hg
        have HS4 := Lib.hid hs4
        have hB4 : B4 ≤ w8.heap.size := by omega
        go_wp2_with fail
        refine (lmul_any w8 B4 hB4 _ _ _ _ ha _ _ _ _ hb' hda hdb (by omega) (by omega)).mono ?_
        rintro e w9 ⟨z3, hZ3, A3', m3, c3', rfl, hz3, hc⟩
        replace ha := ha.below (hc.mono hB4)
        replace hb' := hb'.below (hc.mono hB4)
        replace hc' := hc'.below (hc.mono hB4)
        replace hd0 := hd0.below (hc.mono (Nat.le_of_lt hgR))
        replace hz2 := hz2.later hc (Nat.le_refl _)
        replace hR := hR.below hc hgR
        replace hgR := hR.lt
        replace hB4 := Nat.le_trans hB4 hc.size
        replace hB := hB.trans (hc.mono hB.size)
        clear hc
        go_wp2_with fail
        refine (lmul_any w9 B4 hB4 _ _ _ _ ha _ _ _ _ hc' hda hdc (by omega) (by omega)).mono ?_
        rintro e w10 ⟨z5, hZ5, A5', m5, c5', rfl, hz5, hc⟩
        replace ha := ha.below (hc.mono hB4)
        replace hb' := hb'.below (hc.mono hB4)
        replace hc' := hc'.below (hc.mono hB4)
        replace hd0 := hd0.below (hc.mono (Nat.le_of_lt hgR))
        replace hz2 := hz2.later hc (Nat.le_refl _)
        replace hz3 := hz3.later hc (Nat.le_refl _)
        replace hR := hR.below hc hgR
        replace hgR := hR.lt
        replace hB4 := Nat.le_trans hB4 hc.size
        replace hB := hB.trans (hc.mono hB.size)
        clear hc
        have hm3 : m3 ≤ 40 := by rw [hz3.len]; exact hZ3.length_le (by decide) (mul20 hVa hVb)
        have hm5 : m5 ≤ 40 := by rw [hz5.len]; exact hZ5.length_le (by decide) (mul20 hVa hVc)
        go_wp2_with fail
        refine (ladd_any w10 _ (Nat.le_refl _) _ _ _ _ hz3 _ _ _ _ hz5 hZ3.1 hZ5.1 (by omega) (by omega)).mono ?_
        rintro e w11 ⟨z6, hZ6, A6', m6, c6', rfl, hz6, hc⟩
        replace ha := ha.below (hc.mono hB4)
        replace hb' := hb'.below (hc.mono hB4)
        replace hc' := hc'.below (hc.mono hB4)
        replace hd0 := hd0.below (hc.mono (Nat.le_of_lt hgR))
        replace hz2 := hz2.later hc (Nat.le_refl _)
        replace hR := hR.below hc hgR
        replace hgR := hR.lt
        replace hB4 := Nat.le_trans hB4 hc.size
        replace hB := hB.trans (hc.mono hB.size)
        clear hc hz3 hz5
        have hcv : ncmp (V b64 (trimmed zs)) (V b64 z6) = 0 := by
          rw [hZ2.2.2, hZ6.2.2, hZ3.2.2, hZ5.2.2, hVd, HZ1.out, Nat.mul_add]; exact ncmp_eq _
        have HCV := Lib.hid hcv
        clear hcv hZ3 hZ5
        go_wp2_with fail
        refine (lcmp_any w11 _ _ _ _ hz2 _ _ _ _ hz6 hZ2.1 hZ6.1).mono ?_
        rw [HCV.out]
        rintro e w12 ⟨rfl, hc⟩
        replace ha := ha.below (hc.mono hB4)
        replace hb' := hb'.below (hc.mono hB4)
        replace hc' := hc'.below (hc.mono hB4)
        replace hd0 := hd0.below (hc.mono (Nat.le_of_lt hgR))
        replace hR := hR.below hc hgR
        replace hgR := hR.lt
        replace hB4 := Nat.le_trans hB4 hc.size
        replace hB := hB.trans (hc.mono hB.size)
        clear hc hz2 hz6 hZ2 hZ6 HCV
        have hm45 : m ≤ 45 := by omega
        have HZL := Lib.hid hmz
        clear hmz
        go_wp2_with fail
        go_loopw [15] (fun i wr => ∃ j zr, j ≤ m ∧ i = .int .i64 (j : Nat) ∧ Row wr g zr ∧ zr.length = zs.length ∧ Only w12 wr g) (fun i _ => m - (intOf i).toNat)
        case atStart => exact ⟨0, zs, Nat.zero_le _, rfl, hR, rfl, Only.refl _ _⟩
        case round =>
          obtain ⟨j, zr, hj, rfl, hr, hzr, ho⟩ := hrel
          have HZR := Lib.hid hzr
          clear hzr
          by_cases hlt : j < m
          · have hji : (j : Int) < m := by omega
            have hf := hr.frozen
            obtain ⟨y, hy⟩ := get_lt (zs := zr) (k := j) (by have := HZL.out; have := HZR.out; omega)
            have hcy := hr.at_ hy
            clear hy
            go_wp2
            go_roundw
            case rel => exact ⟨j + 1, zr.set j 5, by omega, by go_num, hr.set _ _, by simp [HZR.out], ho.set _ _⟩
            case measure => simp [intOf]; omega
          · obtain rfl : j = m := by omega
            have hol := ho.below (B := g) (Nat.le_refl _) (Nat.le_of_lt hgR)
            have hoB := ho.below (B := w.heap.size) hWg (Nat.le_trans hWg (Nat.le_of_lt hgR))
            have hB4g := HS4.out
            replace hB4 : B4 ≤ wr.heap.size := Nat.le_trans hB4 hol.size
            replace ha := ha.below (hol.mono hB4g)
            replace hb' := hb'.below (hol.mono hB4g)
            replace hc' := hc'.below (hol.mono hB4g)
            replace hd0 := hd0.below hol
            replace hB := hB.trans hoB
            replace hgR := hr.lt
            clear hol hoB hr ho hR HZR
            go_wp2_with fail
            refine (lmul_any wr B4 hB4 _ _ _ _ ha _ _ _ _ hb' hda hdb (by omega) (by omega)).mono ?_
            rintro e w13 ⟨z1, hZ1, A1', m1, c1', rfl, hz1, hc⟩
            replace ha := ha.below (hc.mono hB4)
            replace hb' := hb'.below (hc.mono hB4)
            replace hc' := hc'.below (hc.mono hB4)
            replace hd0 := hd0.below (hc.mono (Nat.le_of_lt hgR))
            replace hB4 := Nat.le_trans hB4 hc.size
            replace hgR := Nat.lt_of_lt_of_le hgR hc.size
            replace hB := hB.trans (hc.mono hB.size)
            clear hc
            have hm1 : m1 ≤ 40 := by rw [hz1.len]; exact hZ1.length_le (by decide) (mul20 hVa hVb)
            go_wp2_with fail
            refine (lmul_any w13 _ (Nat.le_refl _) _ _ _ _ hz1 _ _ _ _ (hc'.more hB4) hZ1.1 hdc (by omega) (by omega)).mono ?_
            rintro e w14 ⟨z2, hZ2, A2', m2, c2', rfl, hz2, hc⟩
            replace ha := ha.below (hc.mono hB4)
            replace hb' := hb'.below (hc.mono hB4)
            replace hc' := hc'.below (hc.mono hB4)
            replace hd0 := hd0.below (hc.mono (Nat.le_of_lt hgR))
            replace hB4 := Nat.le_trans hB4 hc.size
            replace hgR := Nat.lt_of_lt_of_le hgR hc.size
            replace hB := hB.trans (hc.mono hB.size)
            clear hc hz1
            go_wp2_with fail
            refine (lmul_any w14 B4 hB4 _ _ _ _ hb' _ _ _ _ hc' hdb hdc (by omega) (by omega)).mono ?_
            rintro e w15 ⟨z3, hZ3, A3', m3, c3', rfl, hz3, hc⟩
            replace ha := ha.below (hc.mono hB4)
            replace hd0 := hd0.below (hc.mono (Nat.le_of_lt hgR))
            replace hz2 := hz2.later hc (Nat.le_refl _)
            replace hB4 := Nat.le_trans hB4 hc.size
            replace hgR := Nat.lt_of_lt_of_le hgR hc.size
            replace hB := hB.trans (hc.mono hB.size)
            clear hc hb' hc'
            have hm3 : m3 ≤ 40 := by rw [hz3.len]; exact hZ3.length_le (by decide) (mul20 hVb hVc)
            go_wp2_with fail
            refine (lmul_any w15 _ (Nat.le_refl _) _ _ _ _ (ha.more hB4) _ _ _ _ hz3 hda hZ3.1 (by omega) (by omega)).mono ?_
            rintro e w16 ⟨z4, hZ4, A4', m4, c4', rfl, hz4, hc⟩
            replace ha := ha.below (hc.mono hB4)
            replace hd0 := hd0.below (hc.mono (Nat.le_of_lt hgR))
            replace hz2 := hz2.later hc (Nat.le_refl _)
            replace hB4 := Nat.le_trans hB4 hc.size
            replace hgR := Nat.lt_of_lt_of_le hgR hc.size
            replace hB := hB.trans (hc.mono hB.size)
            clear hc hz3
            have hcv : ncmp (V b64 z2) (V b64 z4) = 0 := by
              rw [hZ2.2.2, hZ4.2.2, hZ1.2.2, hZ3.2.2, Nat.mul_assoc]; exact ncmp_eq _
            have HCV := Lib.hid hcv
            clear hcv hZ1 hZ3
            go_wp2_with fail
            refine (lcmp_any w16 _ _ _ _ hz2 _ _ _ _ hz4 hZ2.1 hZ4.1).mono ?_
            rw [HCV.out]
            rintro e w17 ⟨rfl, hc⟩
            replace ha := ha.below (hc.mono hB4)
            replace hd0 := hd0.below (hc.mono (Nat.le_of_lt hgR))
            replace hB4 := Nat.le_trans hB4 hc.size
            replace hgR := Nat.lt_of_lt_of_le hgR hc.size
            replace hB := hB.trans (hc.mono hB.size)
            clear hc hz2 hz4 hZ2 hZ4 HCV
            have hcv : ncmp (V b64 qa) (V b64 qd) = 0 := by rw [hVd]; exact ncmp_eq _
            have HCV := Lib.hid hcv
            clear hcv
            go_wp2_with fail
            refine (lcmp_any w17 _ _ _ _ (ha.more hB4) _ _ _ _ (hd0.more (Nat.le_of_lt hgR)) hda hdd).mono ?_
            rw [HCV.out]
            rintro e w18 ⟨rfl, hc⟩
            replace hB := hB.trans (hc.mono hB.size)
            clear hc
            go_wp2_with fail
            go_ret
            exact ⟨rfl, hB⟩
end Go.Proofs.Ytopgjmbmhlbadaa
