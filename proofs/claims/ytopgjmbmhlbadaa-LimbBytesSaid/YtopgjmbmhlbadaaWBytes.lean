/- LimbBytes, walked. -/
import Derived.Test.YtopgjmbmhlbadaaOpen8
namespace Go.Proofs.Ytopgjmbmhlbadaa
open Go.RowKit

set_option maxRecDepth 100000 in
set_option maxHeartbeats 2000000 in
theorem bytes_walk (w : World) (A1 : Option Addr) (n1 c1 : Nat) (xs : List Nat) (hs1 : Sl w w.heap.size A1 n1 c1 xs) (hd1 : Dg b64 xs) (K : Int) (A2 : Option Addr) (n2 c2 : Nat) (bs : List Nat) (hs2 : Sl8 w w.heap.size A2 n2 c2 bs) :
    Calls Try.prog 6 #[.slice A1 n1 c1, .int .i64 K, .slice A2 n2 c2] w fun e w' => RetV w (.bool true) e w' := by
  have hda := hd1.take 20
  have hVa := V20 hd1
  have hB : Below w.heap.size w w := Below.refl _ _
  go_enter Try.func6, Try.ntmps6
  go_wp2_with fail
  refine (begun_any w).mono ?_
  rintro e w1 ⟨rfl, hc⟩
  replace hs1 := hs1.later hc (Nat.le_refl _)
  replace hs2 := (hs2.below hc).more hc.size
  replace hB := hB.trans (hc.mono hB.size)
  clear hc
  go_wp2_with fail
  refine (few_any w1 _ _ _ _ xs hs1).mono ?_
  rintro e w2 ⟨Aa, na, ca, rfl, ha, hc⟩
  replace hs2 := (hs2.below hc).more hc.size
  replace hB := hB.trans (hc.mono hB.size)
  clear hc hs1
  have hna : na ≤ 20 := by rw [ha.len, List.length_take]; exact Nat.min_le_left _ _
  obtain ⟨qa, hqa⟩ : ∃ qa, xs.take 20 = qa := ⟨_, rfl⟩
  rw [hqa] at ha hda hVa
  clear hqa hd1
  go_wp2_with fail
  refine (from_any w2 _ (Nat.le_refl _) _ _ _ _ ha hda (by omega)).mono ?_
  rintro e w3 ⟨dx, hX, Ax, nx, cx, rfl, hx, hc⟩
  replace ha := ha.later hc (Nat.le_refl _)
  replace hs2 := (hs2.below hc).more hc.size
  replace hB := hB.trans (hc.mono hB.size)
  clear hc
  have hnx : nx ≤ 40 := by rw [hx.len]; exact len32 hX hVa
  have key : ∀ (nb : Nat), nb ≤ 300 → nb ≤ n2 → Sl8 w3 w3.heap.size A2 nb c2 (bs.take nb) := fun nb _ h => hs2.take h
  have hlc2 := hs2.2.1
  have hmx2 := hs2.2.2.1
  have HK := Lib.hid key
  clear key hs2
  obtain ⟨nb, hnb, hnb2, hcase⟩ : ∃ nb, nb ≤ 300 ∧ nb ≤ n2 ∧ ((¬ (300 : Int) < n2 ∧ nb = n2) ∨ ((300 : Int) < n2 ∧ nb = 300)) := by
    by_cases h : n2 ≤ 300
    · exact ⟨n2, h, Nat.le_refl _, .inl ⟨by omega, rfl⟩⟩
    · exact ⟨300, Nat.le_refl _, by omega, .inr ⟨by omega, rfl⟩⟩
  have hb := HK.out nb hnb hnb2
  clear HK
  obtain ⟨qb, hqb⟩ : ∃ qb, bs.take nb = qb := ⟨_, rfl⟩
  rw [hqb] at hb
  clear hqb
  have HC := Lib.hid hcase
  clear hcase
  have hyes : (∃ m : Nat, K = m ∧ m ≤ 65536 ∧ V b64 qa < 256 ^ m) ∨ (K < 0 ∨ 65536 < K ∨ (0 ≤ K ∧ K ≤ 65536 ∧ 256 ^ K.toNat ≤ V b64 qa)) := by
    by_cases h1 : K < 0
    · exact .inr (.inl h1)
    by_cases h2 : 65536 < K
    · exact .inr (.inr (.inl h2))
    by_cases h3 : V b64 qa < 256 ^ K.toNat
    · exact .inl ⟨K.toNat, by omega, by omega, h3⟩
    · exact .inr (.inr (.inr ⟨by omega, by omega, by omega⟩))
  have HY := Lib.hid hyes
  clear hyes
  rcases HY.out with ⟨m, rfl, hm, hlt⟩ | hno
  · have HLT := Lib.hid hlt
    clear hlt
    rcases HC.out with ⟨h300, hn⟩ | ⟨h300, hn⟩
    all_goals
      subst hn
      go_wp2_with fail
      refine (bytes_yes w3 _ (Nat.le_refl _) _ _ _ _ ha hda (by omega) m hm HLT.out).mono ?_
      rintro e w4 ⟨g1, rfl, hr1, hc⟩
      replace hb := (hb.below hc).more hc.size
      replace hx := hx.later hc (Nat.le_refl _)
      replace hB := hB.trans (hc.mono hB.size)
      clear hc
      go_wp2_with fail
      refine (rbytes_yes w4 _ (Nat.le_refl _) _ _ _ _ hx _ hX (by omega) m hm HLT.out).mono ?_
      rintro e w5 ⟨g2, rfl, hr2, hc⟩
      replace hb := (hb.below hc).more hc.size
      replace hx := hx.later hc (Nat.le_refl _)
      replace hr1 := hr1.below hc hr1.lt
      replace hB := hB.trans (hc.mono hB.size)
      clear hc
      have hsl := hr1.sl (by rw [be_length]; omega) (be_lt m (V b64 qa))
      rw [be_length] at hsl
      go_wp2_with fail
      refine (frombytes_any w5 _ (Nat.le_refl _) _ _ _ _ hsl (by omega)).mono ?_
      rintro e w6 ⟨z1, hZ1, A1', n1', c1', rfl, hz1, hc⟩
      replace hb := (hb.below hc).more hc.size
      replace hx := hx.later hc (Nat.le_refl _)
      replace hr1 := hr1.below hc hr1.lt
      replace hr2 := hr2.below hc hr2.lt
      replace hB := hB.trans (hc.mono hB.size)
      clear hc
      clear hsl
      rw [be_value HLT.out] at hZ1
      go_wp2_with fail
      refine (is_any w6 _ (Nat.le_refl _) _ _ _ z1 hz1 _ _ _ _ hx _ hZ1 hX (by omega)).mono ?_
      rintro e w7 ⟨rfl, hc⟩
      replace hb := (hb.below hc).more hc.size
      replace hr1 := hr1.below hc hr1.lt
      replace hr2 := hr2.below hc hr2.lt
      replace hB := hB.trans (hc.mono hB.size)
      clear hc
      clear hz1 hZ1 hx
      have hcv1 := conv_row hr1 (be_length _ _) (be_lt _ _)
      have hcv2 := conv_row hr2 (be_length _ _) (be_lt _ _)
      clear hr1 hr2
      go_wp2_with (go_at_call 33; refine (frombytes_any _ _ (Nat.le_refl _) _ _ _ _ hb (by omega)).mono ?_; rintro e w8 ⟨z3, hZ3, A3', n3', c3', rfl, hz3, hc⟩)
      replace hb := (hb.below hc).more hc.size
      replace hB := hB.trans (hc.mono hB.size)
      clear hc
      go_wp2_with fail
      refine (rfrombytes_any w8 _ (Nat.le_refl _) _ _ _ _ hb (by omega)).mono ?_
      rintro e w9 ⟨z4, hZ4, A4', n4', c4', rfl, hz4, hc⟩
      replace hz3 := hz3.later hc (Nat.le_refl _)
      replace hB := hB.trans (hc.mono hB.size)
      clear hc
      have hn4 : n4' ≤ 75 := by
        rw [hz4.len]
        refine hZ4.length_le (by decide) (rev_lt hb.2.2.2.1 ?_)
        have := hb.1
        omega
      go_wp2_with fail
      refine (is_any w9 _ (Nat.le_refl _) _ _ _ z3 hz3 _ _ _ z4 hz4 _ hZ3 hZ4 (by omega)).mono ?_
      rintro e w10 ⟨rfl, hc⟩
      replace hB := hB.trans (hc.mono hB.size)
      clear hc
      go_wp2_with fail
      go_ret
      exact ⟨rfl, hB⟩
  · have HNO := Lib.hid hno
    clear hno
    rcases HC.out with ⟨h300, hn⟩ | ⟨h300, hn⟩
    all_goals
      subst hn
      go_wp2_with fail
      refine (bytes_no w3 _ _ _ _ _ ha hda (by omega) K HNO.out).mono ?_
      rintro e w4 ⟨rfl, rfl⟩
      go_wp2_with fail
      refine (rbytes_no w3 _ _ _ _ _ hx _ hX (by omega) K HNO.out).mono ?_
      rintro e w4 ⟨rfl, rfl⟩
      have hcv1 := conv_nil w3
      go_wp2_with (go_at_call 33; refine (frombytes_any _ _ (Nat.le_refl _) _ _ _ _ hb (by omega)).mono ?_; rintro e w8 ⟨z3, hZ3, A3', n3', c3', rfl, hz3, hc⟩)
      replace hb := (hb.below hc).more hc.size
      replace hB := hB.trans (hc.mono hB.size)
      clear hc
      go_wp2_with fail
      refine (rfrombytes_any w8 _ (Nat.le_refl _) _ _ _ _ hb (by omega)).mono ?_
      rintro e w9 ⟨z4, hZ4, A4', n4', c4', rfl, hz4, hc⟩
      replace hz3 := hz3.later hc (Nat.le_refl _)
      replace hB := hB.trans (hc.mono hB.size)
      clear hc
      have hn4 : n4' ≤ 75 := by
        rw [hz4.len]
        refine hZ4.length_le (by decide) (rev_lt hb.2.2.2.1 ?_)
        have := hb.1
        omega
      go_wp2_with fail
      refine (is_any w9 _ (Nat.le_refl _) _ _ _ z3 hz3 _ _ _ z4 hz4 _ hZ3 hZ4 (by omega)).mono ?_
      rintro e w10 ⟨rfl, hc⟩
      replace hB := hB.trans (hc.mono hB.size)
      clear hc
      go_wp2_with fail
      go_ret
      exact ⟨rfl, hB⟩
end Go.Proofs.Ytopgjmbmhlbadaa
