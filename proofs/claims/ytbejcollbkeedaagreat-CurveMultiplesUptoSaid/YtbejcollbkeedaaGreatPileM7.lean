/- Parts of one proof, joined: CuE, CuG, CuH. -/
import Derived.Test.YtbejcollbkeedaaGreatPileM6
import Derived.Test.YtbejcollbkeedaaGreatPileM2
set_option linter.unusedVariables false
set_option linter.unusedSimpArgs false
set_option linter.unusedSectionVars false
set_option maxRecDepth 100000
set_option maxHeartbeats 8000000
open Go.Lib (hid)
namespace Go.Proofs.YtbejcollbkeedaaGreat
open Go.RowKit
theorem numb_lit (w : World) (n : Nat) (xs : List Nat) (arr : Array Value) (ha : arr = (xs.map U).toArray) (k : Nat) (hn : n = xs.length) (hn0 : 0 < n) (hn1 : n ≤ 60) (hk : Nm b64 (rvk n xs (n / 2)) k) :
  Calls Tryz.prog 94 #[.slice (some ⟨w.heap.size, 0, none⟩) n n] (w.alloc (.cells arr 63)) fun e w' => RetU w k e w' := by
 subst ha
 have hr := RowV.new w 63 (xs.map U)
 have hb : Below w.heap.size w (w.alloc (.cells (xs.map U).toArray 63)) := (Below.refl _ w).alloc (Nat.le_refl _) _
 have hs := hr.sl (by simp; omega)
 rw [List.length_map, ← hn] at hs
 refine (numb_any _ _ (Nat.le_refl _) _ n n xs hs hn hn0 hn1).mono ?_
 rintro e w' ⟨A, c', rfl, hs', hB⟩
 exact ⟨_, rfl, ⟨_, A, n, c', rfl, hs', hk, by omega⟩, hb.trans (hB.mono hb.size)⟩
theorem nm_of {xs : List Nat} {k : Nat} (h : (xs.all fun x => decide (x < b64)) = true) (h2 : (match xs.getLast? with | some x => decide (x ≠ 0) | none => true) = true) (h3 : V b64 xs = k) : Nm b64 xs k := by
 refine ⟨fun x hx => by simpa using List.all_eq_true.1 h x hx, fun x hx => ?_, h3⟩
 rw [hx] at h2
 simpa using h2
theorem p256_any (w : World) : Calls Tryz.prog 77 #[] w fun e w' => ∃ v, e = .returned v ∧ Dm w' v crv256 ∧ Below w.heap.size w w' := by
 have hlit : ∀ (W : World) (xs : List Nat) (arr : Array Value) (k : Nat), arr = (xs.map U).toArray → xs.length = 4 → Nm b64 (rvk 4 xs (4 / 2)) k →
   Calls Tryz.prog 94 #[.slice (some ⟨W.heap.size, 0, none⟩) 4 4] (W.alloc (.cells arr 63)) fun e w' => RetU W k e w' :=
  fun W xs arr k h1 h2 h3 => numb_lit W 4 xs arr h1 k h2.symm (by decide) (by decide) h3
 obtain ⟨W0, e0, r0, b0, z0⟩ : ∃ W, w.alloc (.cells #[.int .i64 0, .slice none 0 0, .slice none 0 0, .slice none 0 0, .bool false, .slice none 0 0, .slice none 0 0] 73) = W ∧
   RowV 73 W w.heap.size [.int .i64 0, .slice none 0 0, .slice none 0 0, .slice none 0 0, .bool false, .slice none 0 0, .slice none 0 0] ∧ Below w.heap.size w W ∧ W.heap.size = w.heap.size + 1 :=
  ⟨_, rfl, RowV.new w _ [.int .i64 0, .slice none 0 0, .slice none 0 0, .slice none 0 0, .bool false, .slice none 0 0, .slice none 0 0], (Below.refl _ w).alloc (Nat.le_refl _) _, by simp⟩
 have HB0 := hid b0
 have HR := hid r0
 have HLIT := hid hlit
 have HZ := hid z0
 clear b0 r0 hlit z0
 go_enter Tryz.func77, Tryz.ntmps77
 go_wp2_with fail
 refine (HLIT.out W0 [18446744069414584321, 0, 4294967295, 18446744073709551615] _ 0xffffffff00000001000000000000000000000000ffffffffffffffffffffffff rfl rfl (nm_of (by decide +kernel) (by decide +kernel) (by decide +kernel))).mono ?_
 rintro e w1 ⟨v1, rfl, hv1, hb1⟩
 have HV1 := hid hv1
 have HB1 := hid hb1
 clear hv1 hb1
 go_wp2_with fail
 refine (HLIT.out w1 [6540974713487397863, 12964664127075681980, 7285987128567378166, 4309448131093880907] _ 0x5ac635d8aa3a93e7b3ebbd55769886bc651d06b0cc53b0f63bce3c3e27d2604b rfl rfl (nm_of (by decide +kernel) (by decide +kernel) (by decide +kernel))).mono ?_
 rintro e w2 ⟨v2, rfl, hv2, hb2⟩
 have HV1 := hid (HV1.out.later hb2)
 have HV2 := hid hv2
 have HB2 := hid (HB1.out.trans (hb2.mono HB1.out.size))
 clear hv2 hb2
 go_wp2_with fail
 refine (HLIT.out w2 [18446744069414584320, 18446744073709551615, 13611842547513532036, 17562291160714782033] _ 0xffffffff00000000ffffffffffffffffbce6faada7179e84f3b9cac2fc632551 rfl rfl (nm_of (by decide +kernel) (by decide +kernel) (by decide +kernel))).mono ?_
 rintro e w3 ⟨v3, rfl, hv3, hb3⟩
 have HV1 := hid (HV1.out.later hb3)
 have HV2 := hid (HV2.out.later hb3)
 have HV3 := hid hv3
 have HB3 := hid (HB2.out.trans (hb3.mono HB2.out.size))
 clear hv3 hb3
 go_wp2_with fail
 refine (HLIT.out w3 [7716867327612699207, 17923454489921339634, 8575836109218198432, 17627433388654248598] _ 0x6b17d1f2e12c4247f8bce6e563a440f277037d812deb33a0f4a13945d898c296 rfl rfl (nm_of (by decide +kernel) (by decide +kernel) (by decide +kernel))).mono ?_
 rintro e w4 ⟨v4, rfl, hv4, hb4⟩
 have HV1 := hid (HV1.out.later hb4)
 have HV2 := hid (HV2.out.later hb4)
 have HV3 := hid (HV3.out.later hb4)
 have HV4 := hid hv4
 have HB4 := hid (HB3.out.trans (hb4.mono HB3.out.size))
 clear hv4 hb4
 go_wp2_with fail
 refine (HLIT.out w4 [5756518291402817435, 10297457778147434006, 3156516839386865358, 14678990851816772085] _ 0x4fe342e2fe1a7f9b8ee7eb4a7c0f9e162bce33576b315ececbb6406837bf51f5 rfl rfl (nm_of (by decide +kernel) (by decide +kernel) (by decide +kernel))).mono ?_
 rintro e w5 ⟨v5, rfl, hv5, hb5⟩
 have HV1 := hid (HV1.out.later hb5)
 have HV2 := hid (HV2.out.later hb5)
 have HV3 := hid (HV3.out.later hb5)
 have HV4 := hid (HV4.out.later hb5)
 have HV5 := hid hv5
 have HB5 := hid (HB4.out.trans (hb5.mono HB4.out.size))
 clear hv5 hb5
 have hRW := HR.out.later HB5.out
 obtain ⟨gr, hgr⟩ : ∃ g, w.heap.size = g := ⟨_, rfl⟩
 rw [hgr] at hRW ⊢
 have HGR := hid hgr
 clear e0
 obtain ⟨A1, n1, c1, rfl⟩ := HV1.out.sl
 obtain ⟨A2, n2, c2, rfl⟩ := HV2.out.sl
 obtain ⟨A3, n3, c3, rfl⟩ := HV3.out.sl
 obtain ⟨A4, n4, c4, rfl⟩ := HV4.out.sl
 obtain ⟨A5, n5, c5, rfl⟩ := HV5.out.sl
 have hones : Ones [.int .i64 32, .slice A1 n1 c1, .slice A2 n2 c2, .slice A3 n3 c3, .bool false, .slice A4 n4 c4, .slice A5 n5 c5] := by
  intro v hv
  simp only [List.mem_cons, List.not_mem_nil, or_false] at hv
  rcases hv with rfl | rfl | rfl | rfl | rfl | rfl | rfl <;> rfl
 go_wp2_with ((with_reducible show wpList _ _ _ (⟨none, _, _, _, _, _⟩ :: _) _ _); refine wlS_store rfl 73 7 Tryz.sizeDom _ _ rfl gr [.int .i64 32, .slice A1 n1 c1, .slice A2 n2 c2, .slice A3 n3 c3, .bool false, .slice A4 n4 c4, .slice A5 n5 c5] rfl rfl 73 _ hRW rfl rfl hones ?_; intro w6 hr6 hg6 hz6)
 refine ⟨rfl, _, results_dom rfl _ gr _ rfl hr6 rfl, ?_⟩
 have hbw := HB0.out.trans (HB5.out.mono HB0.out.size)
 have hs6 : Sb w5 w6 := ⟨gr, NoU.of_row hRW (by intro v hv x; simp only [List.mem_cons, List.not_mem_nil, or_false] at hv; rcases hv with rfl | rfl | rfl | rfl | rfl | rfl | rfl <;> (intro h; cases h)), hg6⟩
 ·exact ⟨_, rfl, ⟨_, _, _, _, _, rfl, HV1.out.sb hs6, HV2.out.sb hs6, HV3.out.sb hs6, HV4.out.sb hs6, HV5.out.sb hs6⟩, below_grown hbw hg6 (by rw [HGR.out]; exact Nat.le_refl _) hbw.size⟩
theorem p384_any (w : World) : Calls Tryz.prog 78 #[] w fun e w' => ∃ v, e = .returned v ∧ Dm w' v crv384 ∧ Below w.heap.size w w' := by
 have hlit : ∀ (W : World) (xs : List Nat) (arr : Array Value) (k : Nat), arr = (xs.map U).toArray → xs.length = 6 → Nm b64 (rvk 6 xs (6 / 2)) k →
   Calls Tryz.prog 94 #[.slice (some ⟨W.heap.size, 0, none⟩) 6 6] (W.alloc (.cells arr 63)) fun e w' => RetU W k e w' :=
  fun W xs arr k h1 h2 h3 => numb_lit W 6 xs arr h1 k h2.symm (by decide) (by decide) h3
 obtain ⟨W0, e0, r0, b0, z0⟩ : ∃ W, w.alloc (.cells #[.int .i64 0, .slice none 0 0, .slice none 0 0, .slice none 0 0, .bool false, .slice none 0 0, .slice none 0 0] 73) = W ∧
   RowV 73 W w.heap.size [.int .i64 0, .slice none 0 0, .slice none 0 0, .slice none 0 0, .bool false, .slice none 0 0, .slice none 0 0] ∧ Below w.heap.size w W ∧ W.heap.size = w.heap.size + 1 :=
  ⟨_, rfl, RowV.new w _ [.int .i64 0, .slice none 0 0, .slice none 0 0, .slice none 0 0, .bool false, .slice none 0 0, .slice none 0 0], (Below.refl _ w).alloc (Nat.le_refl _) _, by simp⟩
 have HB0 := hid b0
 have HR := hid r0
 have HLIT := hid hlit
 have HZ := hid z0
 clear b0 r0 hlit z0
 go_enter Tryz.func78, Tryz.ntmps78
 go_wp2_with fail
 refine (HLIT.out W0 [18446744073709551615, 18446744073709551615, 18446744073709551615, 18446744073709551614, 18446744069414584320, 4294967295] _ 0xfffffffffffffffffffffffffffffffffffffffffffffffffffffffffffffffeffffffff0000000000000000ffffffff rfl rfl (nm_of (by decide +kernel) (by decide +kernel) (by decide +kernel))).mono ?_
 rintro e w1 ⟨v1, rfl, hv1, hb1⟩
 have HV1 := hid hv1
 have HB1 := hid hb1
 clear hv1 hb1
 go_wp2_with fail
 refine (HLIT.out w1 [12912154004749740004, 10992729701402291481, 1737717031765098770, 221811693264799578, 14291673747578343837, 3064076045283764975] _ 0xb3312fa7e23ee7e4988e056be3f82d19181d9c6efe8141120314088f5013875ac656398d8a2ed19d2a85c8edd3ec2aef rfl rfl (nm_of (by decide +kernel) (by decide +kernel) (by decide +kernel))).mono ?_
 rintro e w2 ⟨v2, rfl, hv2, hb2⟩
 have HV1 := hid (HV1.out.later hb2)
 have HV2 := hid hv2
 have HB2 := hid (HB1.out.trans (hb2.mono HB1.out.size))
 clear hv2 hb2
 go_wp2_with fail
 refine (HLIT.out w2 [18446744073709551615, 18446744073709551615, 18446744073709551615, 14367412456785391071, 6348401684107011962, 17072048233947408755] _ 0xffffffffffffffffffffffffffffffffffffffffffffffffc7634d81f4372ddf581a0db248b0a77aecec196accc52973 rfl rfl (nm_of (by decide +kernel) (by decide +kernel) (by decide +kernel))).mono ?_
 rintro e w3 ⟨v3, rfl, hv3, hb3⟩
 have HV1 := hid (HV1.out.later hb3)
 have HV2 := hid (HV2.out.later hb3)
 have HV3 := hid hv3
 have HB3 := hid (HB2.out.trans (hb3.mono HB2.out.size))
 clear hv3 hb3
 go_wp2_with fail
 refine (HLIT.out w3 [12288012358878168375, 10282218360005504372, 7934563412932533144, 6482722621138151992, 6125724927633205612, 4203087948775033527] _ 0xaa87ca22be8b05378eb1c71ef320ad746e1d3b628ba79b9859f741e082542a385502f25dbf55296c3a545e3872760ab7 rfl rfl (nm_of (by decide +kernel) (by decide +kernel) (by decide +kernel))).mono ?_
 rintro e w4 ⟨v4, rfl, hv4, hb4⟩
 have HV1 := hid (HV1.out.later hb4)
 have HV2 := hid (HV2.out.later hb4)
 have HV3 := hid (HV3.out.later hb4)
 have HV4 := hid hv4
 have HB4 := hid (HB3.out.trans (hb4.mono HB3.out.size))
 clear hv4 hb4
 go_wp2_with fail
 refine (HLIT.out w4 [3897828414440483951, 6745997240412855337, 17938995913990739068, 16850834916486723776, 747793036959711645, 8809917716911230559] _ 0x3617de4a96262c6f5d9e98bf9292dc29f8f41dbd289a147ce9da3113b5f0b8c00a60b1ce1d7e819d7a431d7c90ea0e5f rfl rfl (nm_of (by decide +kernel) (by decide +kernel) (by decide +kernel))).mono ?_
 rintro e w5 ⟨v5, rfl, hv5, hb5⟩
 have HV1 := hid (HV1.out.later hb5)
 have HV2 := hid (HV2.out.later hb5)
 have HV3 := hid (HV3.out.later hb5)
 have HV4 := hid (HV4.out.later hb5)
 have HV5 := hid hv5
 have HB5 := hid (HB4.out.trans (hb5.mono HB4.out.size))
 clear hv5 hb5
 have hRW := HR.out.later HB5.out
 obtain ⟨gr, hgr⟩ : ∃ g, w.heap.size = g := ⟨_, rfl⟩
 rw [hgr] at hRW ⊢
 have HGR := hid hgr
 clear e0
 obtain ⟨A1, n1, c1, rfl⟩ := HV1.out.sl
 obtain ⟨A2, n2, c2, rfl⟩ := HV2.out.sl
 obtain ⟨A3, n3, c3, rfl⟩ := HV3.out.sl
 obtain ⟨A4, n4, c4, rfl⟩ := HV4.out.sl
 obtain ⟨A5, n5, c5, rfl⟩ := HV5.out.sl
 have hones : Ones [.int .i64 48, .slice A1 n1 c1, .slice A2 n2 c2, .slice A3 n3 c3, .bool false, .slice A4 n4 c4, .slice A5 n5 c5] := by
  intro v hv
  simp only [List.mem_cons, List.not_mem_nil, or_false] at hv
  rcases hv with rfl | rfl | rfl | rfl | rfl | rfl | rfl <;> rfl
 go_wp2_with ((with_reducible show wpList _ _ _ (⟨none, _, _, _, _, _⟩ :: _) _ _); refine wlS_store rfl 73 7 Tryz.sizeDom _ _ rfl gr [.int .i64 48, .slice A1 n1 c1, .slice A2 n2 c2, .slice A3 n3 c3, .bool false, .slice A4 n4 c4, .slice A5 n5 c5] rfl rfl 73 _ hRW rfl rfl hones ?_; intro w6 hr6 hg6 hz6)
 refine ⟨rfl, _, results_dom rfl _ gr _ rfl hr6 rfl, ?_⟩
 have hbw := HB0.out.trans (HB5.out.mono HB0.out.size)
 have hs6 : Sb w5 w6 := ⟨gr, NoU.of_row hRW (by intro v hv x; simp only [List.mem_cons, List.not_mem_nil, or_false] at hv; rcases hv with rfl | rfl | rfl | rfl | rfl | rfl | rfl <;> (intro h; cases h)), hg6⟩
 ·exact ⟨_, rfl, ⟨_, _, _, _, _, rfl, HV1.out.sb hs6, HV2.out.sb hs6, HV3.out.sb hs6, HV4.out.sb hs6, HV5.out.sb hs6⟩, below_grown hbw hg6 (by rw [HGR.out]; exact Nat.le_refl _) hbw.size⟩
def crvOf (c : Int) : Option Crv := if c = 1 then some crv256 else if c = 2 then some crv384 else none
abbrev dom0 : Value := .agg #[.int .i64 0, .slice none 0 0, .slice none 0 0, .slice none 0 0, .bool false, .slice none 0 0, .slice none 0 0]
theorem domOf_no (w : World) (c : Int) (h : crvOf c = none) : Calls Tryz.prog 45 #[.int .i64 c] w fun e w' => e = .returned (.tuple #[dom0, .bool false]) ∧ Below w.heap.size w w' := by
 have h1 : c ≠ 1 := by rintro rfl; cases h
 have h2 : c ≠ 2 := by rintro rfl; cases h
 obtain ⟨W0, e0, r0, b0, z0⟩ := newS w 73 [.int .i64 0, .slice none 0 0, .slice none 0 0, .slice none 0 0, .bool false, .slice none 0 0, .slice none 0 0] _ rfl
 obtain ⟨gr, hgr⟩ : ∃ g, w.heap.size = g := ⟨_, rfl⟩
 have HGR := hid hgr
 rw [hgr] at r0
 go_enter Tryz.func45, Tryz.ntmps45
 go_wp2_with ((with_reducible show wpList _ _ _ (⟨none, _, _, _, _, _⟩ :: _) _ _); refine wlS_store rfl 73 7 Tryz.sizeDom _ _ rfl gr [.int .i64 0, .slice none 0 0, .slice none 0 0, .slice none 0 0, .bool false, .slice none 0 0, .slice none 0 0] rfl rfl 73 _ r0 rfl rfl (by intro v hv; simp only [List.mem_cons, List.not_mem_nil, or_false] at hv; rcases hv with rfl | rfl | rfl | rfl | rfl | rfl | rfl <;> rfl) ?_; intro w6 hr6 hg6 hz6)
 refine ⟨rfl, _, results_dom2 rfl _ gr _ rfl hr6 rfl, rfl, below_grown b0 hg6 (by rw [HGR.out]; exact Nat.le_refl _) b0.size⟩
theorem domOf_yes (w : World) (c : Int) (D : Crv) (h : crvOf c = some D) : Calls Tryz.prog 45 #[.int .i64 c] w fun e w' => ∃ v, e = .returned (.tuple #[v, .bool true]) ∧ Dm w' v D ∧ Below w.heap.size w w' := by
 have hD : (c = 1 ∧ D = crv256) ∨ (c = 2 ∧ D = crv384) := by
  unfold crvOf at h
  split at h
  ·exact .inl ⟨by assumption, (Option.some.inj h).symm⟩
  ·split at h
   ·exact .inr ⟨by assumption, (Option.some.inj h).symm⟩
   ·cases h
 obtain ⟨W0, e0, r0, b0, z0⟩ := newS w 73 [.int .i64 0, .slice none 0 0, .slice none 0 0, .slice none 0 0, .bool false, .slice none 0 0, .slice none 0 0] _ rfl
 obtain ⟨gr, hgr⟩ : ∃ g, w.heap.size = g := ⟨_, rfl⟩
 have HGR := hid hgr
 have HB0 := hid b0
 rw [hgr] at r0
 clear h b0 z0
 rcases hD with ⟨rfl, rfl⟩ | ⟨rfl, rfl⟩
 ·have HP := hid (p256_any W0)
  go_enter Tryz.func45, Tryz.ntmps45
  go_wp2_with fail
  refine HP.out.mono ?_
  rintro e w1 ⟨v, rfl, hv, hb⟩
  have HV := hid hv
  have hr1 := r0.later hb
  have HB1 := hid hb
  obtain ⟨vp, vb, vn, vx, vy, rfl, k1, k2, k3, k4, k5⟩ := hv
  have h1 := k1.one; have h2 := k2.one; have h3 := k3.one; have h4 := k4.one; have h5 := k5.one
  have hones : Ones [.int .i64 ((crv256.size : Nat) : Int), vp, vb, vn, .bool false, vx, vy] := by
   intro v hv
   simp only [List.mem_cons, List.not_mem_nil, or_false] at hv
   rcases hv with rfl | rfl | rfl | rfl | rfl | rfl | rfl
   ·rfl
   ·exact h1
   ·exact h2
   ·exact h3
   ·rfl
   ·exact h4
   ·exact h5
  clear k1 k2 k3 k4 k5 h1 h2 h3 h4 h5 hb
  go_wp2_with ((with_reducible show wpList _ _ _ (⟨none, _, _, _, _, _⟩ :: _) _ _); refine wlS_store rfl 73 7 Tryz.sizeDom _ _ rfl gr [.int .i64 ((crv256.size : Nat) : Int), vp, vb, vn, .bool false, vx, vy] rfl rfl 73 _ hr1 rfl rfl hones ?_; intro w6 hr6 hg6 hz6)
  have hbw := HB0.out.trans (HB1.out.mono HB0.out.size)
  refine ⟨rfl, _, results_dom2 rfl _ gr _ rfl hr6 rfl, _, rfl, HV.out.sb ⟨gr, NoU.of_row hr1 (by intro v hv x; simp only [List.mem_cons, List.not_mem_nil, or_false] at hv; rcases hv with rfl | rfl | rfl | rfl | rfl | rfl | rfl <;> (intro h; cases h)), hg6⟩, below_grown hbw hg6 (by rw [HGR.out]; exact Nat.le_refl _) hbw.size⟩
 ·have HP := hid (p384_any W0)
  go_enter Tryz.func45, Tryz.ntmps45
  go_wp2_with fail
  refine HP.out.mono ?_
  rintro e w1 ⟨v, rfl, hv, hb⟩
  have HV := hid hv
  have hr1 := r0.later hb
  have HB1 := hid hb
  obtain ⟨vp, vb, vn, vx, vy, rfl, k1, k2, k3, k4, k5⟩ := hv
  have h1 := k1.one; have h2 := k2.one; have h3 := k3.one; have h4 := k4.one; have h5 := k5.one
  have hones : Ones [.int .i64 ((crv384.size : Nat) : Int), vp, vb, vn, .bool false, vx, vy] := by
   intro v hv
   simp only [List.mem_cons, List.not_mem_nil, or_false] at hv
   rcases hv with rfl | rfl | rfl | rfl | rfl | rfl | rfl
   ·rfl
   ·exact h1
   ·exact h2
   ·exact h3
   ·rfl
   ·exact h4
   ·exact h5
  clear k1 k2 k3 k4 k5 h1 h2 h3 h4 h5 hb
  go_wp2_with ((with_reducible show wpList _ _ _ (⟨none, _, _, _, _, _⟩ :: _) _ _); refine wlS_store rfl 73 7 Tryz.sizeDom _ _ rfl gr [.int .i64 ((crv384.size : Nat) : Int), vp, vb, vn, .bool false, vx, vy] rfl rfl 73 _ hr1 rfl rfl hones ?_; intro w6 hr6 hg6 hz6)
  have hbw := HB0.out.trans (HB1.out.mono HB0.out.size)
  refine ⟨rfl, _, results_dom2 rfl _ gr _ rfl hr6 rfl, _, rfl, HV.out.sb ⟨gr, NoU.of_row hr1 (by intro v hv x; simp only [List.mem_cons, List.not_mem_nil, or_false] at hv; rcases hv with rfl | rfl | rfl | rfl | rfl | rfl | rfl <;> (intro h; cases h)), hg6⟩, below_grown hbw hg6 (by rw [HGR.out]; exact Nat.le_refl _) hbw.size⟩
def trN (p a : Nat) : Nat := sumN p (sumN p a a) a
theorem trN_lt {p a : Nat} (ha : a < p) : trN p a < p := sumN_lt (sumN_lt ha ha) ha
def nXX (p : Nat) (P Q : Nat × Nat × Nat) : Nat := P.1 * Q.1 % p
def nYY (p : Nat) (P Q : Nat × Nat × Nat) : Nat := P.2.1 * Q.2.1 % p
def nZZ (p : Nat) (P Q : Nat × Nat × Nat) : Nat := P.2.2 * Q.2.2 % p
def nXY (p : Nat) (P Q : Nat × Nat × Nat) : Nat := sumN p (P.1 * Q.2.1 % p) (P.2.1 * Q.1 % p)
def nXZ (p : Nat) (P Q : Nat × Nat × Nat) : Nat := sumN p (P.1 * Q.2.2 % p) (P.2.2 * Q.1 % p)
def nYZ (p : Nat) (P Q : Nat × Nat × Nat) : Nat := sumN p (P.2.1 * Q.2.2 % p) (P.2.2 * Q.2.1 % p)
def nS (p b : Nat) (P Q : Nat × Nat × Nat) : Nat := trN p (difN p (nXZ p P Q) (b * nZZ p P Q % p))
def nT (p : Nat) (P Q : Nat × Nat × Nat) : Nat := trN p (difN p (nXX p P Q) (nZZ p P Q))
def nW (p b : Nat) (P Q : Nat × Nat × Nat) : Nat := trN p (difN p (difN p (b * nXZ p P Q % p) (nXX p P Q)) (trN p (nZZ p P Q)))
def nPl (p b : Nat) (P Q : Nat × Nat × Nat) : Nat := sumN p (nYY p P Q) (nS p b P Q)
def nMi (p b : Nat) (P Q : Nat × Nat × Nat) : Nat := difN p (nYY p P Q) (nS p b P Q)
def rcbN (p b : Nat) (P Q : Nat × Nat × Nat) : Nat × Nat × Nat :=
 (difN p (nXY p P Q * nPl p b P Q % p) (nYZ p P Q * nW p b P Q % p), sumN p (nT p P Q * nW p b P Q % p) (nMi p b P Q * nPl p b P Q % p), sumN p (nYZ p P Q * nMi p b P Q % p) (nXY p P Q * nT p P Q % p))
theorem nums_lt {p b : Nat} (hp : 0 < p) (hb : b < p) (P Q : Nat × Nat × Nat) :
  nXX p P Q < p ∧ nYY p P Q < p ∧ nZZ p P Q < p ∧ nXY p P Q < p ∧ nXZ p P Q < p ∧ nYZ p P Q < p ∧ nS p b P Q < p ∧ nT p P Q < p ∧ nW p b P Q < p ∧ nPl p b P Q < p ∧ nMi p b P Q < p := by
 have m : ∀ x, x % p < p := fun x => Nat.mod_lt x hp
 have h1 : nXX p P Q < p := m _
 have h2 : nYY p P Q < p := m _
 have h3 : nZZ p P Q < p := m _
 have h4 : nXY p P Q < p := sumN_lt (m _) (m _)
 have h5 : nXZ p P Q < p := sumN_lt (m _) (m _)
 have h6 : nYZ p P Q < p := sumN_lt (m _) (m _)
 have h7 : nS p b P Q < p := trN_lt (difN_lt h5 (m _))
 have h8 : nT p P Q < p := trN_lt (difN_lt h1 h3)
 have h9 : nW p b P Q < p := trN_lt (difN_lt (difN_lt (m _) h1) (trN_lt h3))
 exact ⟨h1, h2, h3, h4, h5, h6, h7, h8, h9, sumN_lt h2 h7, difN_lt h2 h7⟩
theorem rcbN_lt {p b : Nat} (hp : 0 < p) (hb : b < p) (P Q : Nat × Nat × Nat) : (rcbN p b P Q).1 < p ∧ (rcbN p b P Q).2.1 < p ∧ (rcbN p b P Q).2.2 < p := by
 have m : ∀ x, x % p < p := fun x => Nat.mod_lt x hp
 exact ⟨difN_lt (m _) (m _), sumN_lt (m _) (m _), sumN_lt (m _) (m _)⟩
structure AddSt (W : World) (g0 g1 g2 g4 : Nat) (vp vb x1 y1 z1 x2 y2 z2 : Value) (p b : Nat) (P Q : Nat × Nat × Nat) : Prop where
 c1 : W.cell? ⟨g0, 1, none⟩ = some vp
 c2 : W.cell? ⟨g0, 2, none⟩ = some vb
 d0 : W.cell? ⟨g1, 0, none⟩ = some x1
 d1 : W.cell? ⟨g1, 1, none⟩ = some y1
 d2 : W.cell? ⟨g1, 2, none⟩ = some z1
 e0 : W.cell? ⟨g2, 0, none⟩ = some x2
 e1 : W.cell? ⟨g2, 1, none⟩ = some y2
 e2 : W.cell? ⟨g2, 2, none⟩ = some z2
 f0 : W.cell? ⟨g4, 0, none⟩ = some vp
 lt : g0 < W.heap.size ∧ g1 < W.heap.size ∧ g2 < W.heap.size ∧ g4 < W.heap.size
 np : Nu W vp p
 nb : Nu W vb b
 n1 : Nu W x1 P.1
 n2 : Nu W y1 P.2.1
 n3 : Nu W z1 P.2.2
 n4 : Nu W x2 Q.1
 n5 : Nu W y2 Q.2.1
 n6 : Nu W z2 Q.2.2
theorem AddSt.later {W V : World} {g0 g1 g2 g4 : Nat} {vp vb x1 y1 z1 x2 y2 z2 : Value} {p b : Nat} {P Q : Nat × Nat × Nat} (h : AddSt W g0 g1 g2 g4 vp vb x1 y1 z1 x2 y2 z2 p b P Q) (hB : Below W.heap.size W V) :
  AddSt V g0 g1 g2 g4 vp vb x1 y1 z1 x2 y2 z2 p b P Q where
 c1 := (hB.cell h.lt.1).trans h.c1
 c2 := (hB.cell h.lt.1).trans h.c2
 d0 := (hB.cell h.lt.2.1).trans h.d0
 d1 := (hB.cell h.lt.2.1).trans h.d1
 d2 := (hB.cell h.lt.2.1).trans h.d2
 e0 := (hB.cell h.lt.2.2.1).trans h.e0
 e1 := (hB.cell h.lt.2.2.1).trans h.e1
 e2 := (hB.cell h.lt.2.2.1).trans h.e2
 f0 := (hB.cell h.lt.2.2.2).trans h.f0
 lt := by
  obtain ⟨a, b, c, d⟩ := h.lt
  have := hB.size
  exact ⟨by omega, by omega, by omega, by omega⟩
 np := h.np.later hB
 nb := h.nb.later hB
 n1 := h.n1.later hB
 n2 := h.n2.later hB
 n3 := h.n3.later hB
 n4 := h.n4.later hB
 n5 := h.n5.later hB
 n6 := h.n6.later hB
def Spc.rt (T : Nat × Nat × Nat) : Spc := ⟨fun v V => Rt V v T, fun _ _ _ hb h => h.sb hb⟩
theorem AddSt.grown {W V : World} {g0 g1 g2 g4 gr : Nat} {vp vb x1 y1 z1 x2 y2 z2 : Value} {p b : Nat} {P Q : Nat × Nat × Nat} (h : AddSt W g0 g1 g2 g4 vp vb x1 y1 z1 x2 y2 z2 p b P Q) (hN : NoU W gr) (hG : W.grownBy V (some gr)) (hne : g0 ≠ gr ∧ g1 ≠ gr ∧ g2 ≠ gr ∧ g4 ≠ gr) :
  AddSt V g0 g1 g2 g4 vp vb x1 y1 z1 x2 y2 z2 p b P Q where
 c1 := (cell_grown hG h.lt.1 hne.1).trans h.c1
 c2 := (cell_grown hG h.lt.1 hne.1).trans h.c2
 d0 := (cell_grown hG h.lt.2.1 hne.2.1).trans h.d0
 d1 := (cell_grown hG h.lt.2.1 hne.2.1).trans h.d1
 d2 := (cell_grown hG h.lt.2.1 hne.2.1).trans h.d2
 e0 := (cell_grown hG h.lt.2.2.1 hne.2.2.1).trans h.e0
 e1 := (cell_grown hG h.lt.2.2.1 hne.2.2.1).trans h.e1
 e2 := (cell_grown hG h.lt.2.2.1 hne.2.2.1).trans h.e2
 f0 := (cell_grown hG h.lt.2.2.2 hne.2.2.2).trans h.f0
 lt := by
  obtain ⟨a, b, c, d⟩ := h.lt
  have := hG.size
  exact ⟨by omega, by omega, by omega, by omega⟩
 np := h.np.sb ⟨gr, hN, hG⟩
 nb := h.nb.sb ⟨gr, hN, hG⟩
 n1 := h.n1.sb ⟨gr, hN, hG⟩
 n2 := h.n2.sb ⟨gr, hN, hG⟩
 n3 := h.n3.sb ⟨gr, hN, hG⟩
 n4 := h.n4.sb ⟨gr, hN, hG⟩
 n5 := h.n5.sb ⟨gr, hN, hG⟩
 n6 := h.n6.sb ⟨gr, hN, hG⟩
theorem AddSt.start {W : World} {g0 g1 g2 gr g4 : Nat} {vp vb vn vx vy x1 y1 z1 x2 y2 z2 : Value} {D : Crv} {P Q : Nat × Nat × Nat}
  (r0 : RowV 73 W g0 [.int .i64 (D.size : Int), vp, vb, vn, .bool false, vx, vy]) (r1 : RowV 79 W g1 [x1, y1, z1]) (r2 : RowV 79 W g2 [x2, y2, z2])
  (r3 : RowV 79 W gr [.slice none 0 0, .slice none 0 0, .slice none 0 0]) (r4 : RowV 84 W g4 [.slice none 0 0]) (h : g0 < g4 ∧ g1 < g4 ∧ g2 < g4 ∧ gr < g4)
  (np : Nu W vp D.p) (nb : Nu W vb D.b) (n1 : Nu W x1 P.1) (n2 : Nu W y1 P.2.1) (n3 : Nu W z1 P.2.2) (n4 : Nu W x2 Q.1) (n5 : Nu W y2 Q.2.1) (n6 : Nu W z2 Q.2.2) :
  AddSt (W.setCell ⟨g4, 0, none⟩ vp) g0 g1 g2 g4 vp vb x1 y1 z1 x2 y2 z2 D.p D.b P Q ∧ RowV 79 (W.setCell ⟨g4, 0, none⟩ vp) gr [.slice none 0 0, .slice none 0 0, .slice none 0 0] ∧ W.grownBy (W.setCell ⟨g4, 0, none⟩ vp) (some g4) := by
 have hg : W.grownBy (W.setCell ⟨g4, 0, none⟩ vp) (some g4) := grown_set (World.grownBy.refl W _) 0 vp
 have hs : Sb W (W.setCell ⟨g4, 0, none⟩ vp) := ⟨g4, NoU.of_row r4 (by intro v hv x; simp only [List.mem_cons, List.not_mem_nil, or_false] at hv; subst hv; intro h; cases h), hg⟩
 have q0 := r0.far (p := ⟨g4, 0, none⟩) (fun e => by simp at e; omega) vp
 have q1 := r1.far (p := ⟨g4, 0, none⟩) (fun e => by simp at e; omega) vp
 have q2 := r2.far (p := ⟨g4, 0, none⟩) (fun e => by simp at e; omega) vp
 have q3 := r3.far (p := ⟨g4, 0, none⟩) (fun e => by simp at e; omega) vp
 have q4 := r4.set 0 vp
 exact ⟨⟨q0.at_ rfl, q0.at_ rfl, q1.at_ rfl, q1.at_ rfl, q1.at_ rfl, q2.at_ rfl, q2.at_ rfl, q2.at_ rfl, q4.at_ rfl, ⟨q0.lt, q1.lt, q2.lt, q4.lt⟩, np.sb hs, nb.sb hs, n1.sb hs, n2.sb hs, n3.sb hs, n4.sb hs, n5.sb hs, n6.sb hs⟩, q3, hg⟩
theorem cadd_any (w : World) (D : Crv) (P Q : Nat × Nat × Nat) (vd vP vQ : Value) (hd : Dm w vd D) (hP : Rt w vP P) (hQ : Rt w vQ Q) (hp : 0 < D.p) (hp2 : D.p + D.p < b64 ^ 64) (hb : D.b < D.p) :
  Calls Tryz.prog 41 #[vd, vP, vQ] w fun e w' => ∃ v, e = .returned v ∧ Rt w' v (rcbN D.p D.b P Q) ∧ Below w.heap.size w w' := by
 have hmx : Tryz.prog.follows .mixedOrders = true := by kernel_rfl
 have HL := hid (show 0 < D.p ∧ D.p + D.p < b64 ^ 64 ∧ D.b < D.p ∧ _ from ⟨hp, hp2, hb, nums_lt hp hb P Q⟩)
 obtain ⟨vp, vb, vn, vx, vy, rfl, h1, h2, h3, h4, h5⟩ := hd
 obtain ⟨x1, y1, z1, rfl, k1, k2, k3⟩ := hP
 obtain ⟨x2, y2, z2, rfl, k4, k5, k6⟩ := hQ
 have o1 := h1.sl; have o2 := k1.sl; have o3 := k2.sl; have o4 := k3.sl; have o5 := k4.sl; have o6 := k5.sl; have o7 := k6.sl
 obtain ⟨Ap, np, cp, rfl⟩ := o1
 obtain ⟨W0, e0, r0, b0, s0⟩ := newS w 73 [.int .i64 (D.size : Int), .slice Ap np cp, vb, vn, .bool false, vx, vy] _ rfl
 obtain ⟨W1, e1, r1, b1, s1⟩ := newS W0 79 [x1, y1, z1] _ rfl
 obtain ⟨W2, e2, r2, b2, s2⟩ := newS W1 79 [x2, y2, z2] _ rfl
 obtain ⟨W3, e3, r3, b3, s3⟩ := newS W2 79 [.slice none 0 0, .slice none 0 0, .slice none 0 0] _ rfl
 obtain ⟨W4, e4, r4, b4, s4⟩ := newS W3 84 [.slice none 0 0] _ rfl
 obtain ⟨g0, hg0⟩ : ∃ g, w.heap.size = g := ⟨_, rfl⟩
 obtain ⟨g1, hg1⟩ : ∃ g, W0.heap.size = g := ⟨_, rfl⟩
 obtain ⟨g2, hg2⟩ : ∃ g, W1.heap.size = g := ⟨_, rfl⟩
 obtain ⟨gr, hgr⟩ : ∃ g, W2.heap.size = g := ⟨_, rfl⟩
 obtain ⟨g4, hg4⟩ : ∃ g, W3.heap.size = g := ⟨_, rfl⟩
 have hb4 : Below g0 w W4 := by rw [← hg0]; exact b0.trans ((b1.trans ((b2.trans ((b3.trans (b4.mono b3.size)).mono b2.size)).mono b1.size)).mono b0.size)
 rw [hg0] at r0; rw [hg1] at r1; rw [hg2] at r2; rw [hgr] at r3; rw [hg4] at r4
 have r04 := (((r0.later b1).later b2).later b3).later b4
 have r14 := ((r1.later b2).later b3).later b4
 have r24 := (r2.later b3).later b4
 have r34 := r3.later b4
 have st := AddSt.start (P := P) (Q := Q) r04 r14 r24 r34 r4 (by omega) (h1.later (by rw [hg0]; exact hb4)) (h2.later (by rw [hg0]; exact hb4)) (k1.later (by rw [hg0]; exact hb4)) (k2.later (by rw [hg0]; exact hb4)) (k3.later (by rw [hg0]; exact hb4)) (k4.later (by rw [hg0]; exact hb4)) (k5.later (by rw [hg0]; exact hb4)) (k6.later (by rw [hg0]; exact hb4))
 have cp3 : W3.cell? ⟨g0, 1, none⟩ = some (.slice Ap np cp) := (((r0.later b1).later b2).later b3).at_ rfl
 have cp4 : W4.cell? ⟨g0, 1, none⟩ = some (.slice Ap np cp) := r04.at_ rfl
 have cf4 := r4.at_ (i := 0) rfl
 have ff4 := r4.frozen
 have HG0 := hid hg0
 have HB4 := hid hb4
 have HST := hid st
 have HGL := hid (show g0 ≤ gr ∧ g0 ≤ g4 by omega)
 have HNE := hid (show g0 ≠ gr ∧ g1 ≠ gr ∧ g2 ≠ gr ∧ g4 ≠ gr by omega)
 clear st hb4 b0 b1 b2 b3 b4 s0 s1 s2 s3 s4 h1 h2 h3 h4 h5 k1 k2 k3 k4 k5 k6 r0 r1 r2 r3 r4 r04 r14 r24 r34 hp hp2 hb
 go_enter Tryz.func41, Tryz.ntmps41
 go_wp2_with fail
 obtain ⟨W5, hW5⟩ : ∃ X, W4.setCell ⟨g4, 0, none⟩ (.slice Ap np cp) = X := ⟨_, rfl⟩
 rw [hW5] at HST ⊢
 have HS0 := hid HST.out.1
 have HR0 := hid HST.out.2.1
 have HB0 := hid (below_grown (show Below w.heap.size w W4 by rw [HG0.out]; exact HB4.out) HST.out.2.2 (by rw [HG0.out]; exact HGL.out.2) (by rw [HG0.out]; have := HB4.out.size; rw [HG0.out] at this; exact this))
 clear HST hW5 HB4 cp3 cp4 cf4 ff4 e0 e1 e2 e3 e4
 refine (wpIn_wide (n := 9)).1 (wpIn_region_num0 rfl hmx [(22, .val (Fd (.slice Ap np cp))), (23, .val (.pointer (some ⟨g1, 0, none⟩))), (24, .val (x1)), (25, .val (.pointer (some ⟨g2, 0, none⟩))), (26, .val (x2)), (27, .num (nXX D.p P Q)), (28, .val (Fd (.slice Ap np cp))), (29, .val (.pointer (some ⟨g1, 1, none⟩))), (30, .val (y1)), (31, .val (.pointer (some ⟨g2, 1, none⟩))), (32, .val (y2)), (33, .num (nYY D.p P Q)), (34, .val (Fd (.slice Ap np cp))), (35, .val (.pointer (some ⟨g1, 2, none⟩))), (36, .val (z1)), (37, .val (.pointer (some ⟨g2, 2, none⟩))), (38, .val (z2)), (39, .num (nZZ D.p P Q)), (8, .num (nXX D.p P Q)), (9, .num (nYY D.p P Q)), (10, .num (nZZ D.p P Q))] (by kernel_rfl) (by kernel_rfl) (by kernel_rfl) (by kernel_rfl) (by rfl) ?hops2 ?hend2)
 case hops2 =>
  intro i o a' V hB ho hev hrd
  have his : i < 21 := by have := (Array.getElem?_eq_some_iff.1 ho).1; simpa using this
  have hS := HS0.out.later hB
  have c1 := hS.c1; have c2 := hS.c2; have d0 := hS.d0; have d1 := hS.d1; have d2 := hS.d2; have e0 := hS.e0; have e1 := hS.e1; have e2 := hS.e2; have f0 := hS.f0
  have hnp := hS.np; have hnb := hS.nb
  have L := HL.out
  have hcase : i = 0 ∨ i = 1 ∨ i = 2 ∨ i = 3 ∨ i = 4 ∨ i = 5 ∨ i = 6 ∨ i = 7 ∨ i = 8 ∨ i = 9 ∨ i = 10 ∨ i = 11 ∨ i = 12 ∨ i = 13 ∨ i = 14 ∨ i = 15 ∨ i = 16 ∨ i = 17 ∨ i = 18 ∨ i = 19 ∨ i = 20 := by omega
  rcases hcase with rfl | rfl | rfl | rfl | rfl | rfl | rfl | rfl | rfl | rfl | rfl | rfl | rfl | rfl | rfl | rfl | rfl | rfl | rfl | rfl | rfl
  ·simp at ho
   subst ho
   have r7 := hev 7 rfl
   simp [Act.eval] at r7
   refine ⟨nofun, fun _ _ => trivial, nofun, .inl ⟨Fd (.slice Ap np cp), V, ?_, Below.refl _ _, fun t ht => by cases ht; rfl⟩⟩
   simp [execOp, Act.eval, go_sem, r7, c1, c2, d0, d1, d2, e0, e1, e2, f0]
  ·simp at ho
   subst ho
   have r4 := hev 4 rfl
   simp [Act.eval] at r4
   refine ⟨nofun, fun _ _ => trivial, nofun, .inl ⟨.pointer (some ⟨g1, 0, none⟩), V, ?_, Below.refl _ _, fun t ht => by cases ht; rfl⟩⟩
   simp [execOp, Act.eval, go_sem, r4, c1, c2, d0, d1, d2, e0, e1, e2, f0]
  ·simp at ho
   subst ho
   have r23 : a'.eval (.tmp 23) = .pointer (some ⟨g1, 0, none⟩) := hrd 23 rfl rfl
   simp [Act.eval] at r23
   refine ⟨nofun, fun _ _ => trivial, nofun, .inl ⟨x1, V, ?_, Below.refl _ _, fun t ht => by cases ht; rfl⟩⟩
   simp [execOp, Act.eval, go_sem, r23, c1, c2, d0, d1, d2, e0, e1, e2, f0]
  ·simp at ho
   subst ho
   have r5 := hev 5 rfl
   simp [Act.eval] at r5
   refine ⟨nofun, fun _ _ => trivial, nofun, .inl ⟨.pointer (some ⟨g2, 0, none⟩), V, ?_, Below.refl _ _, fun t ht => by cases ht; rfl⟩⟩
   simp [execOp, Act.eval, go_sem, r5, c1, c2, d0, d1, d2, e0, e1, e2, f0]
  ·simp at ho
   subst ho
   have r25 : a'.eval (.tmp 25) = .pointer (some ⟨g2, 0, none⟩) := hrd 25 rfl rfl
   simp [Act.eval] at r25
   refine ⟨nofun, fun _ _ => trivial, nofun, .inl ⟨x2, V, ?_, Below.refl _ _, fun t ht => by cases ht; rfl⟩⟩
   simp [execOp, Act.eval, go_sem, r25, c1, c2, d0, d1, d2, e0, e1, e2, f0]
  ·simp at ho
   subst ho
   have r22 : a'.eval (.tmp 22) = Fd (.slice Ap np cp) := hrd 22 rfl rfl
   simp [Act.eval] at r22
   have r24 : a'.eval (.tmp 24) = x1 := hrd 24 rfl rfl
   simp [Act.eval] at r24
   have r26 : a'.eval (.tmp 26) = x2 := hrd 26 rfl rfl
   simp [Act.eval] at r26
   refine ⟨nofun, fun _ _ => trivial, nofun, .inr ⟨69, #[Fd (.slice Ap np cp), x1, x2], ?_, (callsIn_wide.2 (fprod_any V (.slice Ap np cp) x1 x2 D.p P.1 Q.1 hnp.gu hS.n1.gu hS.n4.gu L.1)).mono ?_⟩⟩
   ·simp [execOp, Act.eval, r22, r24, r26, resolve, invoke, Deferred.ofValue]
   ·rintro e w' ⟨v, rfl, hv, hB2⟩
    exact ⟨_, rfl, hB2, fun t ht => by cases ht; exact hv⟩
  ·simp at ho
   subst ho
   have r7 := hev 7 rfl
   simp [Act.eval] at r7
   refine ⟨nofun, fun _ _ => trivial, nofun, .inl ⟨Fd (.slice Ap np cp), V, ?_, Below.refl _ _, fun t ht => by cases ht; rfl⟩⟩
   simp [execOp, Act.eval, go_sem, r7, c1, c2, d0, d1, d2, e0, e1, e2, f0]
  ·simp at ho
   subst ho
   have r4 := hev 4 rfl
   simp [Act.eval] at r4
   refine ⟨nofun, fun _ _ => trivial, nofun, .inl ⟨.pointer (some ⟨g1, 1, none⟩), V, ?_, Below.refl _ _, fun t ht => by cases ht; rfl⟩⟩
   simp [execOp, Act.eval, go_sem, r4, c1, c2, d0, d1, d2, e0, e1, e2, f0]
  ·simp at ho
   subst ho
   have r29 : a'.eval (.tmp 29) = .pointer (some ⟨g1, 1, none⟩) := hrd 29 rfl rfl
   simp [Act.eval] at r29
   refine ⟨nofun, fun _ _ => trivial, nofun, .inl ⟨y1, V, ?_, Below.refl _ _, fun t ht => by cases ht; rfl⟩⟩
   simp [execOp, Act.eval, go_sem, r29, c1, c2, d0, d1, d2, e0, e1, e2, f0]
  ·simp at ho
   subst ho
   have r5 := hev 5 rfl
   simp [Act.eval] at r5
   refine ⟨nofun, fun _ _ => trivial, nofun, .inl ⟨.pointer (some ⟨g2, 1, none⟩), V, ?_, Below.refl _ _, fun t ht => by cases ht; rfl⟩⟩
   simp [execOp, Act.eval, go_sem, r5, c1, c2, d0, d1, d2, e0, e1, e2, f0]
  ·simp at ho
   subst ho
   have r31 : a'.eval (.tmp 31) = .pointer (some ⟨g2, 1, none⟩) := hrd 31 rfl rfl
   simp [Act.eval] at r31
   refine ⟨nofun, fun _ _ => trivial, nofun, .inl ⟨y2, V, ?_, Below.refl _ _, fun t ht => by cases ht; rfl⟩⟩
   simp [execOp, Act.eval, go_sem, r31, c1, c2, d0, d1, d2, e0, e1, e2, f0]
  ·simp at ho
   subst ho
   have r28 : a'.eval (.tmp 28) = Fd (.slice Ap np cp) := hrd 28 rfl rfl
   simp [Act.eval] at r28
   have r30 : a'.eval (.tmp 30) = y1 := hrd 30 rfl rfl
   simp [Act.eval] at r30
   have r32 : a'.eval (.tmp 32) = y2 := hrd 32 rfl rfl
   simp [Act.eval] at r32
   refine ⟨nofun, fun _ _ => trivial, nofun, .inr ⟨69, #[Fd (.slice Ap np cp), y1, y2], ?_, (callsIn_wide.2 (fprod_any V (.slice Ap np cp) y1 y2 D.p P.2.1 Q.2.1 hnp.gu hS.n2.gu hS.n5.gu L.1)).mono ?_⟩⟩
   ·simp [execOp, Act.eval, r28, r30, r32, resolve, invoke, Deferred.ofValue]
   ·rintro e w' ⟨v, rfl, hv, hB2⟩
    exact ⟨_, rfl, hB2, fun t ht => by cases ht; exact hv⟩
  ·simp at ho
   subst ho
   have r7 := hev 7 rfl
   simp [Act.eval] at r7
   refine ⟨nofun, fun _ _ => trivial, nofun, .inl ⟨Fd (.slice Ap np cp), V, ?_, Below.refl _ _, fun t ht => by cases ht; rfl⟩⟩
   simp [execOp, Act.eval, go_sem, r7, c1, c2, d0, d1, d2, e0, e1, e2, f0]
  ·simp at ho
   subst ho
   have r4 := hev 4 rfl
   simp [Act.eval] at r4
   refine ⟨nofun, fun _ _ => trivial, nofun, .inl ⟨.pointer (some ⟨g1, 2, none⟩), V, ?_, Below.refl _ _, fun t ht => by cases ht; rfl⟩⟩
   simp [execOp, Act.eval, go_sem, r4, c1, c2, d0, d1, d2, e0, e1, e2, f0]
  ·simp at ho
   subst ho
   have r35 : a'.eval (.tmp 35) = .pointer (some ⟨g1, 2, none⟩) := hrd 35 rfl rfl
   simp [Act.eval] at r35
   refine ⟨nofun, fun _ _ => trivial, nofun, .inl ⟨z1, V, ?_, Below.refl _ _, fun t ht => by cases ht; rfl⟩⟩
   simp [execOp, Act.eval, go_sem, r35, c1, c2, d0, d1, d2, e0, e1, e2, f0]
  ·simp at ho
   subst ho
   have r5 := hev 5 rfl
   simp [Act.eval] at r5
   refine ⟨nofun, fun _ _ => trivial, nofun, .inl ⟨.pointer (some ⟨g2, 2, none⟩), V, ?_, Below.refl _ _, fun t ht => by cases ht; rfl⟩⟩
   simp [execOp, Act.eval, go_sem, r5, c1, c2, d0, d1, d2, e0, e1, e2, f0]
  ·simp at ho
   subst ho
   have r37 : a'.eval (.tmp 37) = .pointer (some ⟨g2, 2, none⟩) := hrd 37 rfl rfl
   simp [Act.eval] at r37
   refine ⟨nofun, fun _ _ => trivial, nofun, .inl ⟨z2, V, ?_, Below.refl _ _, fun t ht => by cases ht; rfl⟩⟩
   simp [execOp, Act.eval, go_sem, r37, c1, c2, d0, d1, d2, e0, e1, e2, f0]
  ·simp at ho
   subst ho
   have r34 : a'.eval (.tmp 34) = Fd (.slice Ap np cp) := hrd 34 rfl rfl
   simp [Act.eval] at r34
   have r36 : a'.eval (.tmp 36) = z1 := hrd 36 rfl rfl
   simp [Act.eval] at r36
   have r38 : a'.eval (.tmp 38) = z2 := hrd 38 rfl rfl
   simp [Act.eval] at r38
   refine ⟨nofun, fun _ _ => trivial, nofun, .inr ⟨69, #[Fd (.slice Ap np cp), z1, z2], ?_, (callsIn_wide.2 (fprod_any V (.slice Ap np cp) z1 z2 D.p P.2.2 Q.2.2 hnp.gu hS.n3.gu hS.n6.gu L.1)).mono ?_⟩⟩
   ·simp [execOp, Act.eval, r34, r36, r38, resolve, invoke, Deferred.ofValue]
   ·rintro e w' ⟨v, rfl, hv, hB2⟩
    exact ⟨_, rfl, hB2, fun t ht => by cases ht; exact hv⟩
  ·simp at ho
   subst ho
   have r27 : Nu V (a'.eval (.tmp 27)) (nXX D.p P Q) := hrd 27 rfl rfl
   refine ⟨nofun, fun _ _ => trivial, nofun, .inl ⟨a'.eval (.tmp 27), V, ?_, Below.refl _ _, fun t ht => by cases ht; exact r27⟩⟩
   simp [execOp]
  ·simp at ho
   subst ho
   have r33 : Nu V (a'.eval (.tmp 33)) (nYY D.p P Q) := hrd 33 rfl rfl
   refine ⟨nofun, fun _ _ => trivial, nofun, .inl ⟨a'.eval (.tmp 33), V, ?_, Below.refl _ _, fun t ht => by cases ht; exact r33⟩⟩
   simp [execOp]
  ·simp at ho
   subst ho
   have r39 : Nu V (a'.eval (.tmp 39)) (nZZ D.p P Q) := hrd 39 rfl rfl
   refine ⟨nofun, fun _ _ => trivial, nofun, .inl ⟨a'.eval (.tmp 39), V, ?_, Below.refl _ _, fun t ht => by cases ht; exact r39⟩⟩
   simp [execOp]
 intro vals2 V2 hB2 hP2
 have hz8 : Nu V2 (vals2 18) (nXX D.p P Q) := hP2 18 8 _ rfl rfl
 have HQ8_1 := hid hz8
 have hz9 : Nu V2 (vals2 19) (nYY D.p P Q) := hP2 19 9 _ rfl rfl
 have HQ9_1 := hid hz9
 have hz10 : Nu V2 (vals2 20) (nZZ D.p P Q) := hP2 20 10 _ rfl rfl
 have HQ10_1 := hid hz10
 have HS1 := hid (HS0.out.later hB2)
 have HB1 := hid (HB0.out.trans (hB2.mono HB0.out.size))
 have HR1 := hid (HR0.out.later hB2)
 clear hP2 hB2 hz8 hz9 hz10 HS0 HB0 HR0 
 simp [wrote, Act.put]
 have hcr3 := fcross_any V2 (.slice Ap np cp) x1 y1 x2 y2 D.p P.1 P.2.1 Q.1 Q.2.1 HS1.out.np.gu HS1.out.n1.gu HS1.out.n2.gu HS1.out.n4.gu HS1.out.n5.gu ⟨HL.out.1, HL.out.2.1⟩
 have HCR3 := hid hcr3
 have c1 := HS1.out.c1; have c2 := HS1.out.c2; have d0 := HS1.out.d0; have d1 := HS1.out.d1; have d2 := HS1.out.d2; have e0 := HS1.out.e0; have e1 := HS1.out.e1; have e2 := HS1.out.e2; have f0 := HS1.out.f0
 clear hcr3
 go_wp2_with fail
 refine HCR3.out.mono ?_
 rintro e w3 ⟨u11, rfl, hu, hB⟩
 clear c1 c2 d0 d1 d2 e0 e1 e2 f0
 have HQ11_2 := hid (show Nu w3 u11 (nXY D.p P Q) from hu)
 have HQ8_2 := hid (HQ8_1.out.later hB)
 have HQ9_2 := hid (HQ9_1.out.later hB)
 have HQ10_2 := hid (HQ10_1.out.later hB)
 have HS2 := hid (HS1.out.later hB)
 have HB2 := hid (HB1.out.trans (hB.mono HB1.out.size))
 have HR2 := hid (HR1.out.later hB)
 clear hu hB HCR3 HS1 HB1 HR1 HQ8_1 HQ9_1 HQ10_1
 have hcr4 := fcross_any w3 (.slice Ap np cp) x1 z1 x2 z2 D.p P.1 P.2.2 Q.1 Q.2.2 HS2.out.np.gu HS2.out.n1.gu HS2.out.n3.gu HS2.out.n4.gu HS2.out.n6.gu ⟨HL.out.1, HL.out.2.1⟩
 have HCR4 := hid hcr4
 have c1 := HS2.out.c1; have c2 := HS2.out.c2; have d0 := HS2.out.d0; have d1 := HS2.out.d1; have d2 := HS2.out.d2; have e0 := HS2.out.e0; have e1 := HS2.out.e1; have e2 := HS2.out.e2; have f0 := HS2.out.f0
 clear hcr4
 go_wp2_with fail
 refine HCR4.out.mono ?_
 rintro e w4 ⟨u12, rfl, hu, hB⟩
 clear c1 c2 d0 d1 d2 e0 e1 e2 f0
 have HQ12_3 := hid (show Nu w4 u12 (nXZ D.p P Q) from hu)
 have HQ8_3 := hid (HQ8_2.out.later hB)
 have HQ9_3 := hid (HQ9_2.out.later hB)
 have HQ10_3 := hid (HQ10_2.out.later hB)
 have HQ11_3 := hid (HQ11_2.out.later hB)
 have HS3 := hid (HS2.out.later hB)
 have HB3 := hid (HB2.out.trans (hB.mono HB2.out.size))
 have HR3 := hid (HR2.out.later hB)
 clear hu hB HCR4 HS2 HB2 HR2 HQ8_2 HQ9_2 HQ10_2 HQ11_2
 have hcr5 := fcross_any w4 (.slice Ap np cp) y1 z1 y2 z2 D.p P.2.1 P.2.2 Q.2.1 Q.2.2 HS3.out.np.gu HS3.out.n2.gu HS3.out.n3.gu HS3.out.n5.gu HS3.out.n6.gu ⟨HL.out.1, HL.out.2.1⟩
 have HCR5 := hid hcr5
 have c1 := HS3.out.c1; have c2 := HS3.out.c2; have d0 := HS3.out.d0; have d1 := HS3.out.d1; have d2 := HS3.out.d2; have e0 := HS3.out.e0; have e1 := HS3.out.e1; have e2 := HS3.out.e2; have f0 := HS3.out.f0
 clear hcr5
 go_wp2_with fail
 refine HCR5.out.mono ?_
 rintro e w5 ⟨u13, rfl, hu, hB⟩
 clear c1 c2 d0 d1 d2 e0 e1 e2 f0
 have HQ13_4 := hid (show Nu w5 u13 (nYZ D.p P Q) from hu)
 have HQ8_4 := hid (HQ8_3.out.later hB)
 have HQ9_4 := hid (HQ9_3.out.later hB)
 have HQ10_4 := hid (HQ10_3.out.later hB)
 have HQ11_4 := hid (HQ11_3.out.later hB)
 have HQ12_4 := hid (HQ12_3.out.later hB)
 have HS4 := hid (HS3.out.later hB)
 have HB4 := hid (HB3.out.trans (hB.mono HB3.out.size))
 have HR4 := hid (HR3.out.later hB)
 clear hu hB HCR5 HS3 HB3 HR3 HQ8_3 HQ9_3 HQ10_3 HQ11_3 HQ12_3
 go_wp2_with fail
 refine (wpIn_wide (n := 9)).1 (wpIn_region_num0 rfl hmx [(70, .val (Fd (.slice Ap np cp))), (71, .val (Fd (.slice Ap np cp))), (72, .val (u12)), (73, .val (Fd (.slice Ap np cp))), (74, .val (.pointer (some ⟨g0, 2, none⟩))), (75, .val (vb)), (76, .val ((vals2 20))), (77, .num (D.b * nZZ D.p P Q % D.p)), (78, .num (difN D.p (nXZ D.p P Q) (D.b * nZZ D.p P Q % D.p))), (79, .num (nS D.p D.b P Q)), (14, .num (nS D.p D.b P Q))] (by kernel_rfl) (by kernel_rfl) (by kernel_rfl) (by kernel_rfl) (by rfl) ?hops6 ?hend6)
 case hops6 =>
  intro i o a' V hB ho hev hrd
  have his : i < 11 := by have := (Array.getElem?_eq_some_iff.1 ho).1; simpa using this
  have hS := HS4.out.later hB
  have c1 := hS.c1; have c2 := hS.c2; have d0 := hS.d0; have d1 := hS.d1; have d2 := hS.d2; have e0 := hS.e0; have e1 := hS.e1; have e2 := hS.e2; have f0 := hS.f0
  have hnp := hS.np; have hnb := hS.nb
  have L := HL.out
  have q8 := HQ8_4.out.later hB
  have q9 := HQ9_4.out.later hB
  have q10 := HQ10_4.out.later hB
  have q11 := HQ11_4.out.later hB
  have q12 := HQ12_4.out.later hB
  have q13 := HQ13_4.out.later hB
  have hcase : i = 0 ∨ i = 1 ∨ i = 2 ∨ i = 3 ∨ i = 4 ∨ i = 5 ∨ i = 6 ∨ i = 7 ∨ i = 8 ∨ i = 9 ∨ i = 10 := by omega
  rcases hcase with rfl | rfl | rfl | rfl | rfl | rfl | rfl | rfl | rfl | rfl | rfl
  ·simp at ho
   subst ho
   have r7 := hev 7 rfl
   simp [Act.eval] at r7
   refine ⟨nofun, fun _ _ => trivial, nofun, .inl ⟨Fd (.slice Ap np cp), V, ?_, Below.refl _ _, fun t ht => by cases ht; rfl⟩⟩
   simp [execOp, Act.eval, go_sem, r7, c1, c2, d0, d1, d2, e0, e1, e2, f0]
  ·simp at ho
   subst ho
   have r7 := hev 7 rfl
   simp [Act.eval] at r7
   refine ⟨nofun, fun _ _ => trivial, nofun, .inl ⟨Fd (.slice Ap np cp), V, ?_, Below.refl _ _, fun t ht => by cases ht; rfl⟩⟩
   simp [execOp, Act.eval, go_sem, r7, c1, c2, d0, d1, d2, e0, e1, e2, f0]
  ·simp at ho
   subst ho
   have r12 := hev 12 rfl
   simp [Act.eval] at r12
   refine ⟨nofun, fun _ _ => trivial, nofun, .inl ⟨u12, V, ?_, Below.refl _ _, fun t ht => by cases ht; rfl⟩⟩
   simp [execOp, Act.eval, go_sem, r12, c1, c2, d0, d1, d2, e0, e1, e2, f0]
  ·simp at ho
   subst ho
   have r7 := hev 7 rfl
   simp [Act.eval] at r7
   refine ⟨nofun, fun _ _ => trivial, nofun, .inl ⟨Fd (.slice Ap np cp), V, ?_, Below.refl _ _, fun t ht => by cases ht; rfl⟩⟩
   simp [execOp, Act.eval, go_sem, r7, c1, c2, d0, d1, d2, e0, e1, e2, f0]
  ·simp at ho
   subst ho
   have r3 := hev 3 rfl
   simp [Act.eval] at r3
   refine ⟨nofun, fun _ _ => trivial, nofun, .inl ⟨.pointer (some ⟨g0, 2, none⟩), V, ?_, Below.refl _ _, fun t ht => by cases ht; rfl⟩⟩
   simp [execOp, Act.eval, go_sem, r3, c1, c2, d0, d1, d2, e0, e1, e2, f0]
  ·simp at ho
   subst ho
   have r74 : a'.eval (.tmp 74) = .pointer (some ⟨g0, 2, none⟩) := hrd 74 rfl rfl
   simp [Act.eval] at r74
   refine ⟨nofun, fun _ _ => trivial, nofun, .inl ⟨vb, V, ?_, Below.refl _ _, fun t ht => by cases ht; rfl⟩⟩
   simp [execOp, Act.eval, go_sem, r74, c1, c2, d0, d1, d2, e0, e1, e2, f0]
  ·simp at ho
   subst ho
   have r10 := hev 10 rfl
   simp [Act.eval] at r10
   refine ⟨nofun, fun _ _ => trivial, nofun, .inl ⟨(vals2 20), V, ?_, Below.refl _ _, fun t ht => by cases ht; rfl⟩⟩
   simp [execOp, Act.eval, go_sem, r10, c1, c2, d0, d1, d2, e0, e1, e2, f0]
  ·simp at ho
   subst ho
   have r73 : a'.eval (.tmp 73) = Fd (.slice Ap np cp) := hrd 73 rfl rfl
   simp [Act.eval] at r73
   have r75 : a'.eval (.tmp 75) = vb := hrd 75 rfl rfl
   simp [Act.eval] at r75
   have r76 : a'.eval (.tmp 76) = (vals2 20) := hrd 76 rfl rfl
   simp [Act.eval] at r76
   refine ⟨nofun, fun _ _ => trivial, nofun, .inr ⟨69, #[Fd (.slice Ap np cp), vb, (vals2 20)], ?_, (callsIn_wide.2 (fprod_any V (.slice Ap np cp) vb _ D.p D.b (nZZ D.p P Q) hnp.gu hnb.gu q10.gu L.1)).mono ?_⟩⟩
   ·simp [execOp, Act.eval, r73, r75, r76, resolve, invoke, Deferred.ofValue]
   ·rintro e w' ⟨v, rfl, hv, hB2⟩
    exact ⟨_, rfl, hB2, fun t ht => by cases ht; exact hv⟩
  ·simp at ho
   subst ho
   have r71 : a'.eval (.tmp 71) = Fd (.slice Ap np cp) := hrd 71 rfl rfl
   simp [Act.eval] at r71
   have r72 : a'.eval (.tmp 72) = u12 := hrd 72 rfl rfl
   simp [Act.eval] at r72
   have r77 : Nu V (a'.eval (.tmp 77)) (D.b * nZZ D.p P Q % D.p) := hrd 77 rfl rfl
   refine ⟨nofun, fun _ _ => trivial, nofun, .inr ⟨44, #[Fd (.slice Ap np cp), u12, a'.eval (.tmp 77)], ?_, (callsIn_wide.2 (fdif_any V (.slice Ap np cp) _ _ D.p (nXZ D.p P Q) _ hnp.gu q12.gu r77.gu (by have := L.2.1; have := L.2.2.2.2.2.2.2.1; omega) (Nat.le_trans (Nat.le_of_lt (Nat.mod_lt _ L.1)) (Nat.le_add_left _ _)))).mono ?_⟩⟩
   ·simp [execOp, Act.eval, r71, r72, resolve, invoke, Deferred.ofValue]
   ·rintro e w' ⟨v, rfl, hv, hB2⟩
    exact ⟨_, rfl, hB2, fun t ht => by cases ht; exact hv⟩
  ·simp at ho
   subst ho
   have r70 : a'.eval (.tmp 70) = Fd (.slice Ap np cp) := hrd 70 rfl rfl
   simp [Act.eval] at r70
   have r78 : Nu V (a'.eval (.tmp 78)) (difN D.p (nXZ D.p P Q) (D.b * nZZ D.p P Q % D.p)) := hrd 78 rfl rfl
   refine ⟨nofun, fun _ _ => trivial, nofun, .inr ⟨71, #[Fd (.slice Ap np cp), a'.eval (.tmp 78)], ?_, (callsIn_wide.2 (ftrip_any V (.slice Ap np cp) _ D.p _ hnp.gu r78.gu (difN_lt L.2.2.2.2.2.2.2.1 (Nat.mod_lt _ L.1)) L.2.1)).mono ?_⟩⟩
   ·simp [execOp, Act.eval, r70, resolve, invoke, Deferred.ofValue]
   ·rintro e w' ⟨v, rfl, hv, hB2⟩
    exact ⟨_, rfl, hB2, fun t ht => by cases ht; exact hv⟩
  ·simp at ho
   subst ho
   have r79 : Nu V (a'.eval (.tmp 79)) (nS D.p D.b P Q) := hrd 79 rfl rfl
   refine ⟨nofun, fun _ _ => trivial, nofun, .inl ⟨a'.eval (.tmp 79), V, ?_, Below.refl _ _, fun t ht => by cases ht; exact r79⟩⟩
   simp [execOp]
 intro vals6 V6 hB6 hP6
 have hz14 : Nu V6 (vals6 10) (nS D.p D.b P Q) := hP6 10 14 _ rfl rfl
 have HQ14_5 := hid hz14
 have HQ8_5 := hid (HQ8_4.out.later hB6)
 have HQ9_5 := hid (HQ9_4.out.later hB6)
 have HQ10_5 := hid (HQ10_4.out.later hB6)
 have HQ11_5 := hid (HQ11_4.out.later hB6)
 have HQ12_5 := hid (HQ12_4.out.later hB6)
 have HQ13_5 := hid (HQ13_4.out.later hB6)
 have HS5 := hid (HS4.out.later hB6)
 have HB5 := hid (HB4.out.trans (hB6.mono HB4.out.size))
 have HR5 := hid (HR4.out.later hB6)
 clear hP6 hB6 hz14 HS4 HB4 HR4 HQ8_4 HQ9_4 HQ10_4 HQ11_4 HQ12_4 HQ13_4
 simp [wrote, Act.put]
 go_wp2_with fail
 refine (wpIn_wide (n := 9)).1 (wpIn_region_num0 rfl hmx [(80, .val (Fd (.slice Ap np cp))), (81, .val (Fd (.slice Ap np cp))), (82, .val ((vals2 18))), (83, .val ((vals2 20))), (84, .num (difN D.p (nXX D.p P Q) (nZZ D.p P Q))), (85, .num (nT D.p P Q)), (15, .num (nT D.p P Q))] (by kernel_rfl) (by kernel_rfl) (by kernel_rfl) (by kernel_rfl) (by rfl) ?hops7 ?hend7)
 case hops7 =>
  intro i o a' V hB ho hev hrd
  have his : i < 7 := by have := (Array.getElem?_eq_some_iff.1 ho).1; simpa using this
  have hS := HS5.out.later hB
  have c1 := hS.c1; have c2 := hS.c2; have d0 := hS.d0; have d1 := hS.d1; have d2 := hS.d2; have e0 := hS.e0; have e1 := hS.e1; have e2 := hS.e2; have f0 := hS.f0
  have hnp := hS.np; have hnb := hS.nb
  have L := HL.out
  have q8 := HQ8_5.out.later hB
  have q9 := HQ9_5.out.later hB
  have q10 := HQ10_5.out.later hB
  have q11 := HQ11_5.out.later hB
  have q12 := HQ12_5.out.later hB
  have q13 := HQ13_5.out.later hB
  have q14 := HQ14_5.out.later hB
  have hcase : i = 0 ∨ i = 1 ∨ i = 2 ∨ i = 3 ∨ i = 4 ∨ i = 5 ∨ i = 6 := by omega
  rcases hcase with rfl | rfl | rfl | rfl | rfl | rfl | rfl
  ·simp at ho
   subst ho
   have r7 := hev 7 rfl
   simp [Act.eval] at r7
   refine ⟨nofun, fun _ _ => trivial, nofun, .inl ⟨Fd (.slice Ap np cp), V, ?_, Below.refl _ _, fun t ht => by cases ht; rfl⟩⟩
   simp [execOp, Act.eval, go_sem, r7, c1, c2, d0, d1, d2, e0, e1, e2, f0]
  ·simp at ho
   subst ho
   have r7 := hev 7 rfl
   simp [Act.eval] at r7
   refine ⟨nofun, fun _ _ => trivial, nofun, .inl ⟨Fd (.slice Ap np cp), V, ?_, Below.refl _ _, fun t ht => by cases ht; rfl⟩⟩
   simp [execOp, Act.eval, go_sem, r7, c1, c2, d0, d1, d2, e0, e1, e2, f0]
  ·simp at ho
   subst ho
   have r8 := hev 8 rfl
   simp [Act.eval] at r8
   refine ⟨nofun, fun _ _ => trivial, nofun, .inl ⟨(vals2 18), V, ?_, Below.refl _ _, fun t ht => by cases ht; rfl⟩⟩
   simp [execOp, Act.eval, go_sem, r8, c1, c2, d0, d1, d2, e0, e1, e2, f0]
  ·simp at ho
   subst ho
   have r10 := hev 10 rfl
   simp [Act.eval] at r10
   refine ⟨nofun, fun _ _ => trivial, nofun, .inl ⟨(vals2 20), V, ?_, Below.refl _ _, fun t ht => by cases ht; rfl⟩⟩
   simp [execOp, Act.eval, go_sem, r10, c1, c2, d0, d1, d2, e0, e1, e2, f0]
  ·simp at ho
   subst ho
   have r81 : a'.eval (.tmp 81) = Fd (.slice Ap np cp) := hrd 81 rfl rfl
   simp [Act.eval] at r81
   have r82 : a'.eval (.tmp 82) = (vals2 18) := hrd 82 rfl rfl
   simp [Act.eval] at r82
   have r83 : a'.eval (.tmp 83) = (vals2 20) := hrd 83 rfl rfl
   simp [Act.eval] at r83
   refine ⟨nofun, fun _ _ => trivial, nofun, .inr ⟨44, #[Fd (.slice Ap np cp), (vals2 18), (vals2 20)], ?_, (callsIn_wide.2 (fdif_any V (.slice Ap np cp) _ _ D.p (nXX D.p P Q) (nZZ D.p P Q) hnp.gu q8.gu q10.gu (by have := L.2.1; have := L.2.2.2.1; omega) (by have := L.2.2.2.2.2.1; omega))).mono ?_⟩⟩
   ·simp [execOp, Act.eval, r81, r82, r83, resolve, invoke, Deferred.ofValue]
   ·rintro e w' ⟨v, rfl, hv, hB2⟩
    exact ⟨_, rfl, hB2, fun t ht => by cases ht; exact hv⟩
  ·simp at ho
   subst ho
   have r80 : a'.eval (.tmp 80) = Fd (.slice Ap np cp) := hrd 80 rfl rfl
   simp [Act.eval] at r80
   have r84 : Nu V (a'.eval (.tmp 84)) (difN D.p (nXX D.p P Q) (nZZ D.p P Q)) := hrd 84 rfl rfl
   refine ⟨nofun, fun _ _ => trivial, nofun, .inr ⟨71, #[Fd (.slice Ap np cp), a'.eval (.tmp 84)], ?_, (callsIn_wide.2 (ftrip_any V (.slice Ap np cp) _ D.p _ hnp.gu r84.gu (difN_lt L.2.2.2.1 L.2.2.2.2.2.1) L.2.1)).mono ?_⟩⟩
   ·simp [execOp, Act.eval, r80, resolve, invoke, Deferred.ofValue]
   ·rintro e w' ⟨v, rfl, hv, hB2⟩
    exact ⟨_, rfl, hB2, fun t ht => by cases ht; exact hv⟩
  ·simp at ho
   subst ho
   have r85 : Nu V (a'.eval (.tmp 85)) (nT D.p P Q) := hrd 85 rfl rfl
   refine ⟨nofun, fun _ _ => trivial, nofun, .inl ⟨a'.eval (.tmp 85), V, ?_, Below.refl _ _, fun t ht => by cases ht; exact r85⟩⟩
   simp [execOp]
 intro vals7 V7 hB7 hP7
 have hz15 : Nu V7 (vals7 6) (nT D.p P Q) := hP7 6 15 _ rfl rfl
 have HQ15_6 := hid hz15
 have HQ8_6 := hid (HQ8_5.out.later hB7)
 have HQ9_6 := hid (HQ9_5.out.later hB7)
 have HQ10_6 := hid (HQ10_5.out.later hB7)
 have HQ11_6 := hid (HQ11_5.out.later hB7)
 have HQ12_6 := hid (HQ12_5.out.later hB7)
 have HQ13_6 := hid (HQ13_5.out.later hB7)
 have HQ14_6 := hid (HQ14_5.out.later hB7)
 have HS6 := hid (HS5.out.later hB7)
 have HB6 := hid (HB5.out.trans (hB7.mono HB5.out.size))
 have HR6 := hid (HR5.out.later hB7)
 clear hP7 hB7 hz15 HS5 HB5 HR5 HQ8_5 HQ9_5 HQ10_5 HQ11_5 HQ12_5 HQ13_5 HQ14_5
 simp [wrote, Act.put]
 go_wp2_with fail
 refine (wpIn_wide (n := 9)).1 (wpIn_region_num0 rfl hmx [(86, .val (Fd (.slice Ap np cp))), (87, .val (Fd (.slice Ap np cp))), (88, .val (Fd (.slice Ap np cp))), (89, .val (Fd (.slice Ap np cp))), (90, .val (.pointer (some ⟨g0, 2, none⟩))), (91, .val (vb)), (92, .val (u12)), (93, .num (D.b * nXZ D.p P Q % D.p)), (94, .val ((vals2 18))), (95, .num (difN D.p (D.b * nXZ D.p P Q % D.p) (nXX D.p P Q))), (96, .val (Fd (.slice Ap np cp))), (97, .val ((vals2 20))), (98, .num (trN D.p (nZZ D.p P Q))), (99, .num (difN D.p (difN D.p (D.b * nXZ D.p P Q % D.p) (nXX D.p P Q)) (trN D.p (nZZ D.p P Q)))), (100, .num (nW D.p D.b P Q)), (16, .num (nW D.p D.b P Q))] (by kernel_rfl) (by kernel_rfl) (by kernel_rfl) (by kernel_rfl) (by rfl) ?hops8 ?hend8)
 case hops8 =>
  intro i o a' V hB ho hev hrd
  have his : i < 16 := by have := (Array.getElem?_eq_some_iff.1 ho).1; simpa using this
  have hS := HS6.out.later hB
  have c1 := hS.c1; have c2 := hS.c2; have d0 := hS.d0; have d1 := hS.d1; have d2 := hS.d2; have e0 := hS.e0; have e1 := hS.e1; have e2 := hS.e2; have f0 := hS.f0
  have hnp := hS.np; have hnb := hS.nb
  have L := HL.out
  have q8 := HQ8_6.out.later hB
  have q9 := HQ9_6.out.later hB
  have q10 := HQ10_6.out.later hB
  have q11 := HQ11_6.out.later hB
  have q12 := HQ12_6.out.later hB
  have q13 := HQ13_6.out.later hB
  have q14 := HQ14_6.out.later hB
  have q15 := HQ15_6.out.later hB
  have hcase : i = 0 ∨ i = 1 ∨ i = 2 ∨ i = 3 ∨ i = 4 ∨ i = 5 ∨ i = 6 ∨ i = 7 ∨ i = 8 ∨ i = 9 ∨ i = 10 ∨ i = 11 ∨ i = 12 ∨ i = 13 ∨ i = 14 ∨ i = 15 := by omega
  rcases hcase with rfl | rfl | rfl | rfl | rfl | rfl | rfl | rfl | rfl | rfl | rfl | rfl | rfl | rfl | rfl | rfl
  ·simp at ho
   subst ho
   have r7 := hev 7 rfl
   simp [Act.eval] at r7
   refine ⟨nofun, fun _ _ => trivial, nofun, .inl ⟨Fd (.slice Ap np cp), V, ?_, Below.refl _ _, fun t ht => by cases ht; rfl⟩⟩
   simp [execOp, Act.eval, go_sem, r7, c1, c2, d0, d1, d2, e0, e1, e2, f0]
  ·simp at ho
   subst ho
   have r7 := hev 7 rfl
   simp [Act.eval] at r7
   refine ⟨nofun, fun _ _ => trivial, nofun, .inl ⟨Fd (.slice Ap np cp), V, ?_, Below.refl _ _, fun t ht => by cases ht; rfl⟩⟩
   simp [execOp, Act.eval, go_sem, r7, c1, c2, d0, d1, d2, e0, e1, e2, f0]
  ·simp at ho
   subst ho
   have r7 := hev 7 rfl
   simp [Act.eval] at r7
   refine ⟨nofun, fun _ _ => trivial, nofun, .inl ⟨Fd (.slice Ap np cp), V, ?_, Below.refl _ _, fun t ht => by cases ht; rfl⟩⟩
   simp [execOp, Act.eval, go_sem, r7, c1, c2, d0, d1, d2, e0, e1, e2, f0]
  ·simp at ho
   subst ho
   have r7 := hev 7 rfl
   simp [Act.eval] at r7
   refine ⟨nofun, fun _ _ => trivial, nofun, .inl ⟨Fd (.slice Ap np cp), V, ?_, Below.refl _ _, fun t ht => by cases ht; rfl⟩⟩
   simp [execOp, Act.eval, go_sem, r7, c1, c2, d0, d1, d2, e0, e1, e2, f0]
  ·simp at ho
   subst ho
   have r3 := hev 3 rfl
   simp [Act.eval] at r3
   refine ⟨nofun, fun _ _ => trivial, nofun, .inl ⟨.pointer (some ⟨g0, 2, none⟩), V, ?_, Below.refl _ _, fun t ht => by cases ht; rfl⟩⟩
   simp [execOp, Act.eval, go_sem, r3, c1, c2, d0, d1, d2, e0, e1, e2, f0]
  ·simp at ho
   subst ho
   have r90 : a'.eval (.tmp 90) = .pointer (some ⟨g0, 2, none⟩) := hrd 90 rfl rfl
   simp [Act.eval] at r90
   refine ⟨nofun, fun _ _ => trivial, nofun, .inl ⟨vb, V, ?_, Below.refl _ _, fun t ht => by cases ht; rfl⟩⟩
   simp [execOp, Act.eval, go_sem, r90, c1, c2, d0, d1, d2, e0, e1, e2, f0]
  ·simp at ho
   subst ho
   have r12 := hev 12 rfl
   simp [Act.eval] at r12
   refine ⟨nofun, fun _ _ => trivial, nofun, .inl ⟨u12, V, ?_, Below.refl _ _, fun t ht => by cases ht; rfl⟩⟩
   simp [execOp, Act.eval, go_sem, r12, c1, c2, d0, d1, d2, e0, e1, e2, f0]
  ·simp at ho
   subst ho
   have r89 : a'.eval (.tmp 89) = Fd (.slice Ap np cp) := hrd 89 rfl rfl
   simp [Act.eval] at r89
   have r91 : a'.eval (.tmp 91) = vb := hrd 91 rfl rfl
   simp [Act.eval] at r91
   have r92 : a'.eval (.tmp 92) = u12 := hrd 92 rfl rfl
   simp [Act.eval] at r92
   refine ⟨nofun, fun _ _ => trivial, nofun, .inr ⟨69, #[Fd (.slice Ap np cp), vb, u12], ?_, (callsIn_wide.2 (fprod_any V (.slice Ap np cp) vb _ D.p D.b (nXZ D.p P Q) hnp.gu hnb.gu q12.gu L.1)).mono ?_⟩⟩
   ·simp [execOp, Act.eval, r89, r91, r92, resolve, invoke, Deferred.ofValue]
   ·rintro e w' ⟨v, rfl, hv, hB2⟩
    exact ⟨_, rfl, hB2, fun t ht => by cases ht; exact hv⟩
  ·simp at ho
   subst ho
   have r8 := hev 8 rfl
   simp [Act.eval] at r8
   refine ⟨nofun, fun _ _ => trivial, nofun, .inl ⟨(vals2 18), V, ?_, Below.refl _ _, fun t ht => by cases ht; rfl⟩⟩
   simp [execOp, Act.eval, go_sem, r8, c1, c2, d0, d1, d2, e0, e1, e2, f0]
  ·simp at ho
   subst ho
   have r88 : a'.eval (.tmp 88) = Fd (.slice Ap np cp) := hrd 88 rfl rfl
   simp [Act.eval] at r88
   have r93 : Nu V (a'.eval (.tmp 93)) (D.b * nXZ D.p P Q % D.p) := hrd 93 rfl rfl
   have r94 : a'.eval (.tmp 94) = (vals2 18) := hrd 94 rfl rfl
   simp [Act.eval] at r94
   refine ⟨nofun, fun _ _ => trivial, nofun, .inr ⟨44, #[Fd (.slice Ap np cp), a'.eval (.tmp 93), (vals2 18)], ?_, (callsIn_wide.2 (fdif_any V (.slice Ap np cp) _ _ D.p (D.b * nXZ D.p P Q % D.p) (nXX D.p P Q) hnp.gu r93.gu q8.gu (by have := L.2.1; have := Nat.mod_lt (D.b * nXZ D.p P Q) L.1; omega) (by have := L.2.2.2.1; omega))).mono ?_⟩⟩
   ·simp [execOp, Act.eval, r88, r94, resolve, invoke, Deferred.ofValue]
   ·rintro e w' ⟨v, rfl, hv, hB2⟩
    exact ⟨_, rfl, hB2, fun t ht => by cases ht; exact hv⟩
  ·simp at ho
   subst ho
   have r7 := hev 7 rfl
   simp [Act.eval] at r7
   refine ⟨nofun, fun _ _ => trivial, nofun, .inl ⟨Fd (.slice Ap np cp), V, ?_, Below.refl _ _, fun t ht => by cases ht; rfl⟩⟩
   simp [execOp, Act.eval, go_sem, r7, c1, c2, d0, d1, d2, e0, e1, e2, f0]
  ·simp at ho
   subst ho
   have r10 := hev 10 rfl
   simp [Act.eval] at r10
   refine ⟨nofun, fun _ _ => trivial, nofun, .inl ⟨(vals2 20), V, ?_, Below.refl _ _, fun t ht => by cases ht; rfl⟩⟩
   simp [execOp, Act.eval, go_sem, r10, c1, c2, d0, d1, d2, e0, e1, e2, f0]
  ·simp at ho
   subst ho
   have r96 : a'.eval (.tmp 96) = Fd (.slice Ap np cp) := hrd 96 rfl rfl
   simp [Act.eval] at r96
   have r97 : a'.eval (.tmp 97) = (vals2 20) := hrd 97 rfl rfl
   simp [Act.eval] at r97
   refine ⟨nofun, fun _ _ => trivial, nofun, .inr ⟨71, #[Fd (.slice Ap np cp), (vals2 20)], ?_, (callsIn_wide.2 (ftrip_any V (.slice Ap np cp) _ D.p _ hnp.gu q10.gu L.2.2.2.2.2.1 L.2.1)).mono ?_⟩⟩
   ·simp [execOp, Act.eval, r96, r97, resolve, invoke, Deferred.ofValue]
   ·rintro e w' ⟨v, rfl, hv, hB2⟩
    exact ⟨_, rfl, hB2, fun t ht => by cases ht; exact hv⟩
  ·simp at ho
   subst ho
   have r87 : a'.eval (.tmp 87) = Fd (.slice Ap np cp) := hrd 87 rfl rfl
   simp [Act.eval] at r87
   have r95 : Nu V (a'.eval (.tmp 95)) (difN D.p (D.b * nXZ D.p P Q % D.p) (nXX D.p P Q)) := hrd 95 rfl rfl
   have r98 : Nu V (a'.eval (.tmp 98)) (trN D.p (nZZ D.p P Q)) := hrd 98 rfl rfl
   refine ⟨nofun, fun _ _ => trivial, nofun, .inr ⟨44, #[Fd (.slice Ap np cp), a'.eval (.tmp 95), a'.eval (.tmp 98)], ?_, (callsIn_wide.2 (fdif_any V (.slice Ap np cp) _ _ D.p (difN D.p (D.b * nXZ D.p P Q % D.p) (nXX D.p P Q)) (trN D.p (nZZ D.p P Q)) hnp.gu r95.gu r98.gu (by have := L.2.1; have := (difN_lt (Nat.mod_lt (D.b * nXZ D.p P Q) L.1) L.2.2.2.1); omega) (by have := trN_lt L.2.2.2.2.2.1; omega))).mono ?_⟩⟩
   ·simp [execOp, Act.eval, r87, resolve, invoke, Deferred.ofValue]
   ·rintro e w' ⟨v, rfl, hv, hB2⟩
    exact ⟨_, rfl, hB2, fun t ht => by cases ht; exact hv⟩
  ·simp at ho
   subst ho
   have r86 : a'.eval (.tmp 86) = Fd (.slice Ap np cp) := hrd 86 rfl rfl
   simp [Act.eval] at r86
   have r99 : Nu V (a'.eval (.tmp 99)) (difN D.p (difN D.p (D.b * nXZ D.p P Q % D.p) (nXX D.p P Q)) (trN D.p (nZZ D.p P Q))) := hrd 99 rfl rfl
   refine ⟨nofun, fun _ _ => trivial, nofun, .inr ⟨71, #[Fd (.slice Ap np cp), a'.eval (.tmp 99)], ?_, (callsIn_wide.2 (ftrip_any V (.slice Ap np cp) _ D.p _ hnp.gu r99.gu (difN_lt (difN_lt (Nat.mod_lt (D.b * nXZ D.p P Q) L.1) L.2.2.2.1) (trN_lt L.2.2.2.2.2.1)) L.2.1)).mono ?_⟩⟩
   ·simp [execOp, Act.eval, r86, resolve, invoke, Deferred.ofValue]
   ·rintro e w' ⟨v, rfl, hv, hB2⟩
    exact ⟨_, rfl, hB2, fun t ht => by cases ht; exact hv⟩
  ·simp at ho
   subst ho
   have r100 : Nu V (a'.eval (.tmp 100)) (nW D.p D.b P Q) := hrd 100 rfl rfl
   refine ⟨nofun, fun _ _ => trivial, nofun, .inl ⟨a'.eval (.tmp 100), V, ?_, Below.refl _ _, fun t ht => by cases ht; exact r100⟩⟩
   simp [execOp]
 intro vals8 V8 hB8 hP8
 have hz16 : Nu V8 (vals8 15) (nW D.p D.b P Q) := hP8 15 16 _ rfl rfl
 have HQ16_7 := hid hz16
 have HQ8_7 := hid (HQ8_6.out.later hB8)
 have HQ9_7 := hid (HQ9_6.out.later hB8)
 have HQ10_7 := hid (HQ10_6.out.later hB8)
 have HQ11_7 := hid (HQ11_6.out.later hB8)
 have HQ12_7 := hid (HQ12_6.out.later hB8)
 have HQ13_7 := hid (HQ13_6.out.later hB8)
 have HQ14_7 := hid (HQ14_6.out.later hB8)
 have HQ15_7 := hid (HQ15_6.out.later hB8)
 have HS7 := hid (HS6.out.later hB8)
 have HB7 := hid (HB6.out.trans (hB8.mono HB6.out.size))
 have HR7 := hid (HR6.out.later hB8)
 clear hP8 hB8 hz16 HS6 HB6 HR6 HQ8_6 HQ9_6 HQ10_6 HQ11_6 HQ12_6 HQ13_6 HQ14_6 HQ15_6
 simp [wrote, Act.put]
 go_wp2_with fail
 refine (wpIn_wide (n := 9)).1 (wpIn_region_num0 rfl hmx [(101, .val (Fd (.slice Ap np cp))), (102, .val ((vals2 19))), (103, .val ((vals6 10))), (104, .num (nPl D.p D.b P Q)), (105, .val (Fd (.slice Ap np cp))), (106, .val ((vals2 19))), (107, .val ((vals6 10))), (108, .num (nMi D.p D.b P Q)), (17, .num (nPl D.p D.b P Q)), (18, .num (nMi D.p D.b P Q))] (by kernel_rfl) (by kernel_rfl) (by kernel_rfl) (by kernel_rfl) (by rfl) ?hops9 ?hend9)
 case hops9 =>
  intro i o a' V hB ho hev hrd
  have his : i < 10 := by have := (Array.getElem?_eq_some_iff.1 ho).1; simpa using this
  have hS := HS7.out.later hB
  have c1 := hS.c1; have c2 := hS.c2; have d0 := hS.d0; have d1 := hS.d1; have d2 := hS.d2; have e0 := hS.e0; have e1 := hS.e1; have e2 := hS.e2; have f0 := hS.f0
  have hnp := hS.np; have hnb := hS.nb
  have L := HL.out
  have q8 := HQ8_7.out.later hB
  have q9 := HQ9_7.out.later hB
  have q10 := HQ10_7.out.later hB
  have q11 := HQ11_7.out.later hB
  have q12 := HQ12_7.out.later hB
  have q13 := HQ13_7.out.later hB
  have q14 := HQ14_7.out.later hB
  have q15 := HQ15_7.out.later hB
  have q16 := HQ16_7.out.later hB
  have hcase : i = 0 ∨ i = 1 ∨ i = 2 ∨ i = 3 ∨ i = 4 ∨ i = 5 ∨ i = 6 ∨ i = 7 ∨ i = 8 ∨ i = 9 := by omega
  rcases hcase with rfl | rfl | rfl | rfl | rfl | rfl | rfl | rfl | rfl | rfl
  ·simp at ho
   subst ho
   have r7 := hev 7 rfl
   simp [Act.eval] at r7
   refine ⟨nofun, fun _ _ => trivial, nofun, .inl ⟨Fd (.slice Ap np cp), V, ?_, Below.refl _ _, fun t ht => by cases ht; rfl⟩⟩
   simp [execOp, Act.eval, go_sem, r7, c1, c2, d0, d1, d2, e0, e1, e2, f0]
  ·simp at ho
   subst ho
   have r9 := hev 9 rfl
   simp [Act.eval] at r9
   refine ⟨nofun, fun _ _ => trivial, nofun, .inl ⟨(vals2 19), V, ?_, Below.refl _ _, fun t ht => by cases ht; rfl⟩⟩
   simp [execOp, Act.eval, go_sem, r9, c1, c2, d0, d1, d2, e0, e1, e2, f0]
  ·simp at ho
   subst ho
   have r14 := hev 14 rfl
   simp [Act.eval] at r14
   refine ⟨nofun, fun _ _ => trivial, nofun, .inl ⟨(vals6 10), V, ?_, Below.refl _ _, fun t ht => by cases ht; rfl⟩⟩
   simp [execOp, Act.eval, go_sem, r14, c1, c2, d0, d1, d2, e0, e1, e2, f0]
  ·simp at ho
   subst ho
   have r101 : a'.eval (.tmp 101) = Fd (.slice Ap np cp) := hrd 101 rfl rfl
   simp [Act.eval] at r101
   have r102 : a'.eval (.tmp 102) = (vals2 19) := hrd 102 rfl rfl
   simp [Act.eval] at r102
   have r103 : a'.eval (.tmp 103) = (vals6 10) := hrd 103 rfl rfl
   simp [Act.eval] at r103
   refine ⟨nofun, fun _ _ => trivial, nofun, .inr ⟨72, #[Fd (.slice Ap np cp), (vals2 19), (vals6 10)], ?_, (callsIn_wide.2 (fsum_any V (.slice Ap np cp) _ _ D.p (nYY D.p P Q) (nS D.p D.b P Q) hnp.gu q9.gu q14.gu (by have := L.2.1; have := L.2.2.2.2.1; have := L.2.2.2.2.2.2.2.2.2.1; omega))).mono ?_⟩⟩
   ·simp [execOp, Act.eval, r101, r102, r103, resolve, invoke, Deferred.ofValue]
   ·rintro e w' ⟨v, rfl, hv, hB2⟩
    exact ⟨_, rfl, hB2, fun t ht => by cases ht; exact hv⟩
  ·simp at ho
   subst ho
   have r7 := hev 7 rfl
   simp [Act.eval] at r7
   refine ⟨nofun, fun _ _ => trivial, nofun, .inl ⟨Fd (.slice Ap np cp), V, ?_, Below.refl _ _, fun t ht => by cases ht; rfl⟩⟩
   simp [execOp, Act.eval, go_sem, r7, c1, c2, d0, d1, d2, e0, e1, e2, f0]
  ·simp at ho
   subst ho
   have r9 := hev 9 rfl
   simp [Act.eval] at r9
   refine ⟨nofun, fun _ _ => trivial, nofun, .inl ⟨(vals2 19), V, ?_, Below.refl _ _, fun t ht => by cases ht; rfl⟩⟩
   simp [execOp, Act.eval, go_sem, r9, c1, c2, d0, d1, d2, e0, e1, e2, f0]
  ·simp at ho
   subst ho
   have r14 := hev 14 rfl
   simp [Act.eval] at r14
   refine ⟨nofun, fun _ _ => trivial, nofun, .inl ⟨(vals6 10), V, ?_, Below.refl _ _, fun t ht => by cases ht; rfl⟩⟩
   simp [execOp, Act.eval, go_sem, r14, c1, c2, d0, d1, d2, e0, e1, e2, f0]
  ·simp at ho
   subst ho
   have r105 : a'.eval (.tmp 105) = Fd (.slice Ap np cp) := hrd 105 rfl rfl
   simp [Act.eval] at r105
   have r106 : a'.eval (.tmp 106) = (vals2 19) := hrd 106 rfl rfl
   simp [Act.eval] at r106
   have r107 : a'.eval (.tmp 107) = (vals6 10) := hrd 107 rfl rfl
   simp [Act.eval] at r107
   refine ⟨nofun, fun _ _ => trivial, nofun, .inr ⟨44, #[Fd (.slice Ap np cp), (vals2 19), (vals6 10)], ?_, (callsIn_wide.2 (fdif_any V (.slice Ap np cp) _ _ D.p (nYY D.p P Q) (nS D.p D.b P Q) hnp.gu q9.gu q14.gu (by have := L.2.1; have := L.2.2.2.2.1; omega) (by have := L.2.2.2.2.2.2.2.2.2.1; omega))).mono ?_⟩⟩
   ·simp [execOp, Act.eval, r105, r106, r107, resolve, invoke, Deferred.ofValue]
   ·rintro e w' ⟨v, rfl, hv, hB2⟩
    exact ⟨_, rfl, hB2, fun t ht => by cases ht; exact hv⟩
  ·simp at ho
   subst ho
   have r104 : Nu V (a'.eval (.tmp 104)) (nPl D.p D.b P Q) := hrd 104 rfl rfl
   refine ⟨nofun, fun _ _ => trivial, nofun, .inl ⟨a'.eval (.tmp 104), V, ?_, Below.refl _ _, fun t ht => by cases ht; exact r104⟩⟩
   simp [execOp]
  ·simp at ho
   subst ho
   have r108 : Nu V (a'.eval (.tmp 108)) (nMi D.p D.b P Q) := hrd 108 rfl rfl
   refine ⟨nofun, fun _ _ => trivial, nofun, .inl ⟨a'.eval (.tmp 108), V, ?_, Below.refl _ _, fun t ht => by cases ht; exact r108⟩⟩
   simp [execOp]
 intro vals9 V9 hB9 hP9
 have hz17 : Nu V9 (vals9 8) (nPl D.p D.b P Q) := hP9 8 17 _ rfl rfl
 have HQ17_8 := hid hz17
 have hz18 : Nu V9 (vals9 9) (nMi D.p D.b P Q) := hP9 9 18 _ rfl rfl
 have HQ18_8 := hid hz18
 have HQ8_8 := hid (HQ8_7.out.later hB9)
 have HQ9_8 := hid (HQ9_7.out.later hB9)
 have HQ10_8 := hid (HQ10_7.out.later hB9)
 have HQ11_8 := hid (HQ11_7.out.later hB9)
 have HQ12_8 := hid (HQ12_7.out.later hB9)
 have HQ13_8 := hid (HQ13_7.out.later hB9)
 have HQ14_8 := hid (HQ14_7.out.later hB9)
 have HQ15_8 := hid (HQ15_7.out.later hB9)
 have HQ16_8 := hid (HQ16_7.out.later hB9)
 have HS8 := hid (HS7.out.later hB9)
 have HB8 := hid (HB7.out.trans (hB9.mono HB7.out.size))
 have HR8 := hid (HR7.out.later hB9)
 clear hP9 hB9 hz17 hz18 HS7 HB7 HR7 HQ8_7 HQ9_7 HQ10_7 HQ11_7 HQ12_7 HQ13_7 HQ14_7 HQ15_7 HQ16_7
 simp [wrote, Act.put]
 go_wp2_with fail
 have hno : NoU V9 gr := NoU.of_row HR8.out (noU3 nofun nofun nofun)
 have HNO := hid hno
 clear hno
 refine (wpIn_wide (n := 9)).1 (wpIn_region_num1 rfl hmx [(109, .val (Fd (.slice Ap np cp))), (110, .val (Fd (.slice Ap np cp))), (111, .val (u11)), (112, .val ((vals9 8))), (113, .num (nXY D.p P Q * nPl D.p D.b P Q % D.p)), (114, .val (Fd (.slice Ap np cp))), (115, .val (u13)), (116, .val ((vals8 15))), (117, .num (nYZ D.p P Q * nW D.p D.b P Q % D.p)), (118, .num (difN D.p (nXY D.p P Q * nPl D.p D.b P Q % D.p) (nYZ D.p P Q * nW D.p D.b P Q % D.p))), (119, .val (Fd (.slice Ap np cp))), (120, .val (Fd (.slice Ap np cp))), (121, .val ((vals7 6))), (122, .val ((vals8 15))), (123, .num (nT D.p P Q * nW D.p D.b P Q % D.p)), (124, .val (Fd (.slice Ap np cp))), (125, .val ((vals9 9))), (126, .val ((vals9 8))), (127, .num (nMi D.p D.b P Q * nPl D.p D.b P Q % D.p)), (128, .num (sumN D.p (nT D.p P Q * nW D.p D.b P Q % D.p) (nMi D.p D.b P Q * nPl D.p D.b P Q % D.p))), (129, .val (Fd (.slice Ap np cp))), (130, .val (Fd (.slice Ap np cp))), (131, .val (u13)), (132, .val ((vals9 9))), (133, .num (nYZ D.p P Q * nMi D.p D.b P Q % D.p)), (134, .val (Fd (.slice Ap np cp))), (135, .val (u11)), (136, .val ((vals7 6))), (137, .num (nXY D.p P Q * nT D.p P Q % D.p)), (138, .num (sumN D.p (nYZ D.p P Q * nMi D.p D.b P Q % D.p) (nXY D.p P Q * nT D.p P Q % D.p))), (139, .rt (rcbN D.p D.b P Q))] (by kernel_rfl) (by kernel_rfl) (by kernel_rfl) (by kernel_rfl) (by rfl) gr 31 ⟨_, rfl, rfl⟩ (HR8.out.lt) HNO.out 79 3 ⟨_, HR8.out, rfl⟩ (fun V => ∃ v0 v1 v2, RowV 79 V gr [v0, v1, v2] ∧ Rt V (.agg #[v0, v1, v2]) (rcbN D.p D.b P Q)) ?hPs ?hops10 ?hs10 ?hend10)
 case hPs =>
  rintro V V' hlt hb ⟨v0, v1, v2, hr, ht⟩
  exact ⟨v0, v1, v2, hr.later hb, ht.later hb⟩
 case hops10 =>
  intro i o a' V hns hB ho hev hrd
  have his : i < 32 := by have := (Array.getElem?_eq_some_iff.1 ho).1; simpa using this
  have hS := HS8.out.grown HNO.out hB HNE.out
  have c1 := hS.c1; have c2 := hS.c2; have d0 := hS.d0; have d1 := hS.d1; have d2 := hS.d2; have e0 := hS.e0; have e1 := hS.e1; have e2 := hS.e2; have f0 := hS.f0
  have hnp := hS.np; have hnb := hS.nb
  have L := HL.out
  have q8 := HQ8_8.out.sb ⟨gr, HNO.out, hB⟩
  have q9 := HQ9_8.out.sb ⟨gr, HNO.out, hB⟩
  have q10 := HQ10_8.out.sb ⟨gr, HNO.out, hB⟩
  have q11 := HQ11_8.out.sb ⟨gr, HNO.out, hB⟩
  have q12 := HQ12_8.out.sb ⟨gr, HNO.out, hB⟩
  have q13 := HQ13_8.out.sb ⟨gr, HNO.out, hB⟩
  have q14 := HQ14_8.out.sb ⟨gr, HNO.out, hB⟩
  have q15 := HQ15_8.out.sb ⟨gr, HNO.out, hB⟩
  have q16 := HQ16_8.out.sb ⟨gr, HNO.out, hB⟩
  have q17 := HQ17_8.out.sb ⟨gr, HNO.out, hB⟩
  have q18 := HQ18_8.out.sb ⟨gr, HNO.out, hB⟩
  have hcase : i = 0 ∨ i = 1 ∨ i = 2 ∨ i = 3 ∨ i = 4 ∨ i = 5 ∨ i = 6 ∨ i = 7 ∨ i = 8 ∨ i = 9 ∨ i = 10 ∨ i = 11 ∨ i = 12 ∨ i = 13 ∨ i = 14 ∨ i = 15 ∨ i = 16 ∨ i = 17 ∨ i = 18 ∨ i = 19 ∨ i = 20 ∨ i = 21 ∨ i = 22 ∨ i = 23 ∨ i = 24 ∨ i = 25 ∨ i = 26 ∨ i = 27 ∨ i = 28 ∨ i = 29 ∨ i = 30 ∨ i = 31 := by omega
  rcases hcase with rfl | rfl | rfl | rfl | rfl | rfl | rfl | rfl | rfl | rfl | rfl | rfl | rfl | rfl | rfl | rfl | rfl | rfl | rfl | rfl | rfl | rfl | rfl | rfl | rfl | rfl | rfl | rfl | rfl | rfl | rfl | rfl
  ·simp at ho
   subst ho
   have r7 := hev 7 rfl
   simp [Act.eval] at r7
   refine ⟨nofun, fun _ _ => trivial, nofun, .inl ⟨Fd (.slice Ap np cp), V, ?_, Below.refl _ _, fun t ht => by cases ht; rfl⟩⟩
   simp [execOp, Act.eval, go_sem, r7, c1, c2, d0, d1, d2, e0, e1, e2, f0]
  ·simp at ho
   subst ho
   have r7 := hev 7 rfl
   simp [Act.eval] at r7
   refine ⟨nofun, fun _ _ => trivial, nofun, .inl ⟨Fd (.slice Ap np cp), V, ?_, Below.refl _ _, fun t ht => by cases ht; rfl⟩⟩
   simp [execOp, Act.eval, go_sem, r7, c1, c2, d0, d1, d2, e0, e1, e2, f0]
  ·simp at ho
   subst ho
   have r11 := hev 11 rfl
   simp [Act.eval] at r11
   refine ⟨nofun, fun _ _ => trivial, nofun, .inl ⟨u11, V, ?_, Below.refl _ _, fun t ht => by cases ht; rfl⟩⟩
   simp [execOp, Act.eval, go_sem, r11, c1, c2, d0, d1, d2, e0, e1, e2, f0]
  ·simp at ho
   subst ho
   have r17 := hev 17 rfl
   simp [Act.eval] at r17
   refine ⟨nofun, fun _ _ => trivial, nofun, .inl ⟨(vals9 8), V, ?_, Below.refl _ _, fun t ht => by cases ht; rfl⟩⟩
   simp [execOp, Act.eval, go_sem, r17, c1, c2, d0, d1, d2, e0, e1, e2, f0]
  ·simp at ho
   subst ho
   have r110 : a'.eval (.tmp 110) = Fd (.slice Ap np cp) := hrd 110 rfl rfl
   simp [Act.eval] at r110
   have r111 : a'.eval (.tmp 111) = u11 := hrd 111 rfl rfl
   simp [Act.eval] at r111
   have r112 : a'.eval (.tmp 112) = (vals9 8) := hrd 112 rfl rfl
   simp [Act.eval] at r112
   refine ⟨nofun, fun _ _ => trivial, nofun, .inr ⟨69, #[Fd (.slice Ap np cp), u11, (vals9 8)], ?_, (callsIn_wide.2 (fprod_any V (.slice Ap np cp) _ _ D.p (nXY D.p P Q) (nPl D.p D.b P Q) hnp.gu q11.gu q17.gu L.1)).mono ?_⟩⟩
   ·simp [execOp, Act.eval, r110, r111, r112, resolve, invoke, Deferred.ofValue]
   ·rintro e w' ⟨v, rfl, hv, hB2⟩
    exact ⟨_, rfl, hB2, fun t ht => by cases ht; exact hv⟩
  ·simp at ho
   subst ho
   have r7 := hev 7 rfl
   simp [Act.eval] at r7
   refine ⟨nofun, fun _ _ => trivial, nofun, .inl ⟨Fd (.slice Ap np cp), V, ?_, Below.refl _ _, fun t ht => by cases ht; rfl⟩⟩
   simp [execOp, Act.eval, go_sem, r7, c1, c2, d0, d1, d2, e0, e1, e2, f0]
  ·simp at ho
   subst ho
   have r13 := hev 13 rfl
   simp [Act.eval] at r13
   refine ⟨nofun, fun _ _ => trivial, nofun, .inl ⟨u13, V, ?_, Below.refl _ _, fun t ht => by cases ht; rfl⟩⟩
   simp [execOp, Act.eval, go_sem, r13, c1, c2, d0, d1, d2, e0, e1, e2, f0]
  ·simp at ho
   subst ho
   have r16 := hev 16 rfl
   simp [Act.eval] at r16
   refine ⟨nofun, fun _ _ => trivial, nofun, .inl ⟨(vals8 15), V, ?_, Below.refl _ _, fun t ht => by cases ht; rfl⟩⟩
   simp [execOp, Act.eval, go_sem, r16, c1, c2, d0, d1, d2, e0, e1, e2, f0]
  ·simp at ho
   subst ho
   have r114 : a'.eval (.tmp 114) = Fd (.slice Ap np cp) := hrd 114 rfl rfl
   simp [Act.eval] at r114
   have r115 : a'.eval (.tmp 115) = u13 := hrd 115 rfl rfl
   simp [Act.eval] at r115
   have r116 : a'.eval (.tmp 116) = (vals8 15) := hrd 116 rfl rfl
   simp [Act.eval] at r116
   refine ⟨nofun, fun _ _ => trivial, nofun, .inr ⟨69, #[Fd (.slice Ap np cp), u13, (vals8 15)], ?_, (callsIn_wide.2 (fprod_any V (.slice Ap np cp) _ _ D.p (nYZ D.p P Q) (nW D.p D.b P Q) hnp.gu q13.gu q16.gu L.1)).mono ?_⟩⟩
   ·simp [execOp, Act.eval, r114, r115, r116, resolve, invoke, Deferred.ofValue]
   ·rintro e w' ⟨v, rfl, hv, hB2⟩
    exact ⟨_, rfl, hB2, fun t ht => by cases ht; exact hv⟩
  ·simp at ho
   subst ho
   have r109 : a'.eval (.tmp 109) = Fd (.slice Ap np cp) := hrd 109 rfl rfl
   simp [Act.eval] at r109
   have r113 : Nu V (a'.eval (.tmp 113)) (nXY D.p P Q * nPl D.p D.b P Q % D.p) := hrd 113 rfl rfl
   have r117 : Nu V (a'.eval (.tmp 117)) (nYZ D.p P Q * nW D.p D.b P Q % D.p) := hrd 117 rfl rfl
   refine ⟨nofun, fun _ _ => trivial, nofun, .inr ⟨44, #[Fd (.slice Ap np cp), a'.eval (.tmp 113), a'.eval (.tmp 117)], ?_, (callsIn_wide.2 (fdif_any V (.slice Ap np cp) _ _ D.p _ _ hnp.gu r113.gu r117.gu (by have := L.2.1; have := Nat.mod_lt (nXY D.p P Q * nPl D.p D.b P Q) L.1; omega) (by have := Nat.mod_lt (nYZ D.p P Q * nW D.p D.b P Q) L.1; omega))).mono ?_⟩⟩
   ·simp [execOp, Act.eval, r109, resolve, invoke, Deferred.ofValue]
   ·rintro e w' ⟨v, rfl, hv, hB2⟩
    exact ⟨_, rfl, hB2, fun t ht => by cases ht; exact hv⟩
  ·simp at ho
   subst ho
   have r7 := hev 7 rfl
   simp [Act.eval] at r7
   refine ⟨nofun, fun _ _ => trivial, nofun, .inl ⟨Fd (.slice Ap np cp), V, ?_, Below.refl _ _, fun t ht => by cases ht; rfl⟩⟩
   simp [execOp, Act.eval, go_sem, r7, c1, c2, d0, d1, d2, e0, e1, e2, f0]
  ·simp at ho
   subst ho
   have r7 := hev 7 rfl
   simp [Act.eval] at r7
   refine ⟨nofun, fun _ _ => trivial, nofun, .inl ⟨Fd (.slice Ap np cp), V, ?_, Below.refl _ _, fun t ht => by cases ht; rfl⟩⟩
   simp [execOp, Act.eval, go_sem, r7, c1, c2, d0, d1, d2, e0, e1, e2, f0]
  ·simp at ho
   subst ho
   have r15 := hev 15 rfl
   simp [Act.eval] at r15
   refine ⟨nofun, fun _ _ => trivial, nofun, .inl ⟨(vals7 6), V, ?_, Below.refl _ _, fun t ht => by cases ht; rfl⟩⟩
   simp [execOp, Act.eval, go_sem, r15, c1, c2, d0, d1, d2, e0, e1, e2, f0]
  ·simp at ho
   subst ho
   have r16 := hev 16 rfl
   simp [Act.eval] at r16
   refine ⟨nofun, fun _ _ => trivial, nofun, .inl ⟨(vals8 15), V, ?_, Below.refl _ _, fun t ht => by cases ht; rfl⟩⟩
   simp [execOp, Act.eval, go_sem, r16, c1, c2, d0, d1, d2, e0, e1, e2, f0]
  ·simp at ho
   subst ho
   have r120 : a'.eval (.tmp 120) = Fd (.slice Ap np cp) := hrd 120 rfl rfl
   simp [Act.eval] at r120
   have r121 : a'.eval (.tmp 121) = (vals7 6) := hrd 121 rfl rfl
   simp [Act.eval] at r121
   have r122 : a'.eval (.tmp 122) = (vals8 15) := hrd 122 rfl rfl
   simp [Act.eval] at r122
   refine ⟨nofun, fun _ _ => trivial, nofun, .inr ⟨69, #[Fd (.slice Ap np cp), (vals7 6), (vals8 15)], ?_, (callsIn_wide.2 (fprod_any V (.slice Ap np cp) _ _ D.p (nT D.p P Q) (nW D.p D.b P Q) hnp.gu q15.gu q16.gu L.1)).mono ?_⟩⟩
   ·simp [execOp, Act.eval, r120, r121, r122, resolve, invoke, Deferred.ofValue]
   ·rintro e w' ⟨v, rfl, hv, hB2⟩
    exact ⟨_, rfl, hB2, fun t ht => by cases ht; exact hv⟩
  ·simp at ho
   subst ho
   have r7 := hev 7 rfl
   simp [Act.eval] at r7
   refine ⟨nofun, fun _ _ => trivial, nofun, .inl ⟨Fd (.slice Ap np cp), V, ?_, Below.refl _ _, fun t ht => by cases ht; rfl⟩⟩
   simp [execOp, Act.eval, go_sem, r7, c1, c2, d0, d1, d2, e0, e1, e2, f0]
  ·simp at ho
   subst ho
   have r18 := hev 18 rfl
   simp [Act.eval] at r18
   refine ⟨nofun, fun _ _ => trivial, nofun, .inl ⟨(vals9 9), V, ?_, Below.refl _ _, fun t ht => by cases ht; rfl⟩⟩
   simp [execOp, Act.eval, go_sem, r18, c1, c2, d0, d1, d2, e0, e1, e2, f0]
  ·simp at ho
   subst ho
   have r17 := hev 17 rfl
   simp [Act.eval] at r17
   refine ⟨nofun, fun _ _ => trivial, nofun, .inl ⟨(vals9 8), V, ?_, Below.refl _ _, fun t ht => by cases ht; rfl⟩⟩
   simp [execOp, Act.eval, go_sem, r17, c1, c2, d0, d1, d2, e0, e1, e2, f0]
  ·simp at ho
   subst ho
   have r124 : a'.eval (.tmp 124) = Fd (.slice Ap np cp) := hrd 124 rfl rfl
   simp [Act.eval] at r124
   have r125 : a'.eval (.tmp 125) = (vals9 9) := hrd 125 rfl rfl
   simp [Act.eval] at r125
   have r126 : a'.eval (.tmp 126) = (vals9 8) := hrd 126 rfl rfl
   simp [Act.eval] at r126
   refine ⟨nofun, fun _ _ => trivial, nofun, .inr ⟨69, #[Fd (.slice Ap np cp), (vals9 9), (vals9 8)], ?_, (callsIn_wide.2 (fprod_any V (.slice Ap np cp) _ _ D.p (nMi D.p D.b P Q) (nPl D.p D.b P Q) hnp.gu q18.gu q17.gu L.1)).mono ?_⟩⟩
   ·simp [execOp, Act.eval, r124, r125, r126, resolve, invoke, Deferred.ofValue]
   ·rintro e w' ⟨v, rfl, hv, hB2⟩
    exact ⟨_, rfl, hB2, fun t ht => by cases ht; exact hv⟩
  ·simp at ho
   subst ho
   have r119 : a'.eval (.tmp 119) = Fd (.slice Ap np cp) := hrd 119 rfl rfl
   simp [Act.eval] at r119
   have r123 : Nu V (a'.eval (.tmp 123)) (nT D.p P Q * nW D.p D.b P Q % D.p) := hrd 123 rfl rfl
   have r127 : Nu V (a'.eval (.tmp 127)) (nMi D.p D.b P Q * nPl D.p D.b P Q % D.p) := hrd 127 rfl rfl
   refine ⟨nofun, fun _ _ => trivial, nofun, .inr ⟨72, #[Fd (.slice Ap np cp), a'.eval (.tmp 123), a'.eval (.tmp 127)], ?_, (callsIn_wide.2 (fsum_any V (.slice Ap np cp) _ _ D.p _ _ hnp.gu r123.gu r127.gu (by have := L.2.1; have := Nat.mod_lt (nT D.p P Q * nW D.p D.b P Q) L.1; have := Nat.mod_lt (nMi D.p D.b P Q * nPl D.p D.b P Q) L.1; omega))).mono ?_⟩⟩
   ·simp [execOp, Act.eval, r119, resolve, invoke, Deferred.ofValue]
   ·rintro e w' ⟨v, rfl, hv, hB2⟩
    exact ⟨_, rfl, hB2, fun t ht => by cases ht; exact hv⟩
  ·simp at ho
   subst ho
   have r7 := hev 7 rfl
   simp [Act.eval] at r7
   refine ⟨nofun, fun _ _ => trivial, nofun, .inl ⟨Fd (.slice Ap np cp), V, ?_, Below.refl _ _, fun t ht => by cases ht; rfl⟩⟩
   simp [execOp, Act.eval, go_sem, r7, c1, c2, d0, d1, d2, e0, e1, e2, f0]
  ·simp at ho
   subst ho
   have r7 := hev 7 rfl
   simp [Act.eval] at r7
   refine ⟨nofun, fun _ _ => trivial, nofun, .inl ⟨Fd (.slice Ap np cp), V, ?_, Below.refl _ _, fun t ht => by cases ht; rfl⟩⟩
   simp [execOp, Act.eval, go_sem, r7, c1, c2, d0, d1, d2, e0, e1, e2, f0]
  ·simp at ho
   subst ho
   have r13 := hev 13 rfl
   simp [Act.eval] at r13
   refine ⟨nofun, fun _ _ => trivial, nofun, .inl ⟨u13, V, ?_, Below.refl _ _, fun t ht => by cases ht; rfl⟩⟩
   simp [execOp, Act.eval, go_sem, r13, c1, c2, d0, d1, d2, e0, e1, e2, f0]
  ·simp at ho
   subst ho
   have r18 := hev 18 rfl
   simp [Act.eval] at r18
   refine ⟨nofun, fun _ _ => trivial, nofun, .inl ⟨(vals9 9), V, ?_, Below.refl _ _, fun t ht => by cases ht; rfl⟩⟩
   simp [execOp, Act.eval, go_sem, r18, c1, c2, d0, d1, d2, e0, e1, e2, f0]
  ·simp at ho
   subst ho
   have r130 : a'.eval (.tmp 130) = Fd (.slice Ap np cp) := hrd 130 rfl rfl
   simp [Act.eval] at r130
   have r131 : a'.eval (.tmp 131) = u13 := hrd 131 rfl rfl
   simp [Act.eval] at r131
   have r132 : a'.eval (.tmp 132) = (vals9 9) := hrd 132 rfl rfl
   simp [Act.eval] at r132
   refine ⟨nofun, fun _ _ => trivial, nofun, .inr ⟨69, #[Fd (.slice Ap np cp), u13, (vals9 9)], ?_, (callsIn_wide.2 (fprod_any V (.slice Ap np cp) _ _ D.p (nYZ D.p P Q) (nMi D.p D.b P Q) hnp.gu q13.gu q18.gu L.1)).mono ?_⟩⟩
   ·simp [execOp, Act.eval, r130, r131, r132, resolve, invoke, Deferred.ofValue]
   ·rintro e w' ⟨v, rfl, hv, hB2⟩
    exact ⟨_, rfl, hB2, fun t ht => by cases ht; exact hv⟩
  ·simp at ho
   subst ho
   have r7 := hev 7 rfl
   simp [Act.eval] at r7
   refine ⟨nofun, fun _ _ => trivial, nofun, .inl ⟨Fd (.slice Ap np cp), V, ?_, Below.refl _ _, fun t ht => by cases ht; rfl⟩⟩
   simp [execOp, Act.eval, go_sem, r7, c1, c2, d0, d1, d2, e0, e1, e2, f0]
  ·simp at ho
   subst ho
   have r11 := hev 11 rfl
   simp [Act.eval] at r11
   refine ⟨nofun, fun _ _ => trivial, nofun, .inl ⟨u11, V, ?_, Below.refl _ _, fun t ht => by cases ht; rfl⟩⟩
   simp [execOp, Act.eval, go_sem, r11, c1, c2, d0, d1, d2, e0, e1, e2, f0]
  ·simp at ho
   subst ho
   have r15 := hev 15 rfl
   simp [Act.eval] at r15
   refine ⟨nofun, fun _ _ => trivial, nofun, .inl ⟨(vals7 6), V, ?_, Below.refl _ _, fun t ht => by cases ht; rfl⟩⟩
   simp [execOp, Act.eval, go_sem, r15, c1, c2, d0, d1, d2, e0, e1, e2, f0]
  ·simp at ho
   subst ho
   have r134 : a'.eval (.tmp 134) = Fd (.slice Ap np cp) := hrd 134 rfl rfl
   simp [Act.eval] at r134
   have r135 : a'.eval (.tmp 135) = u11 := hrd 135 rfl rfl
   simp [Act.eval] at r135
   have r136 : a'.eval (.tmp 136) = (vals7 6) := hrd 136 rfl rfl
   simp [Act.eval] at r136
   refine ⟨nofun, fun _ _ => trivial, nofun, .inr ⟨69, #[Fd (.slice Ap np cp), u11, (vals7 6)], ?_, (callsIn_wide.2 (fprod_any V (.slice Ap np cp) _ _ D.p (nXY D.p P Q) (nT D.p P Q) hnp.gu q11.gu q15.gu L.1)).mono ?_⟩⟩
   ·simp [execOp, Act.eval, r134, r135, r136, resolve, invoke, Deferred.ofValue]
   ·rintro e w' ⟨v, rfl, hv, hB2⟩
    exact ⟨_, rfl, hB2, fun t ht => by cases ht; exact hv⟩
  ·simp at ho
   subst ho
   have r129 : a'.eval (.tmp 129) = Fd (.slice Ap np cp) := hrd 129 rfl rfl
   simp [Act.eval] at r129
   have r133 : Nu V (a'.eval (.tmp 133)) (nYZ D.p P Q * nMi D.p D.b P Q % D.p) := hrd 133 rfl rfl
   have r137 : Nu V (a'.eval (.tmp 137)) (nXY D.p P Q * nT D.p P Q % D.p) := hrd 137 rfl rfl
   refine ⟨nofun, fun _ _ => trivial, nofun, .inr ⟨72, #[Fd (.slice Ap np cp), a'.eval (.tmp 133), a'.eval (.tmp 137)], ?_, (callsIn_wide.2 (fsum_any V (.slice Ap np cp) _ _ D.p _ _ hnp.gu r133.gu r137.gu (by have := L.2.1; have := Nat.mod_lt (nYZ D.p P Q * nMi D.p D.b P Q) L.1; have := Nat.mod_lt (nXY D.p P Q * nT D.p P Q) L.1; omega))).mono ?_⟩⟩
   ·simp [execOp, Act.eval, r129, resolve, invoke, Deferred.ofValue]
   ·rintro e w' ⟨v, rfl, hv, hB2⟩
    exact ⟨_, rfl, hB2, fun t ht => by cases ht; exact hv⟩
  ·simp at ho
   subst ho
   have r118 : Nu V (a'.eval (.tmp 118)) (difN D.p (nXY D.p P Q * nPl D.p D.b P Q % D.p) (nYZ D.p P Q * nW D.p D.b P Q % D.p)) := hrd 118 rfl rfl
   have r128 : Nu V (a'.eval (.tmp 128)) (sumN D.p (nT D.p P Q * nW D.p D.b P Q % D.p) (nMi D.p D.b P Q * nPl D.p D.b P Q % D.p)) := hrd 128 rfl rfl
   have r138 : Nu V (a'.eval (.tmp 138)) (sumN D.p (nYZ D.p P Q * nMi D.p D.b P Q % D.p) (nXY D.p P Q * nT D.p P Q % D.p)) := hrd 138 rfl rfl
   obtain ⟨A118, n118, c118, h118⟩ := r118.sl
   rw [h118] at r118
   simp [Act.eval] at h118
   obtain ⟨A128, n128, c128, h128⟩ := r128.sl
   rw [h128] at r128
   simp [Act.eval] at h128
   obtain ⟨A138, n138, c138, h138⟩ := r138.sl
   rw [h138] at r138
   simp [Act.eval] at h138
   refine ⟨nofun, fun _ _ => trivial, nofun, .inl ⟨.agg #[.slice A118 n118 c118, .slice A128 n128 c128, .slice A138 n138 c138], V, ?_, Below.refl _ _, fun t ht => by cases ht; exact ⟨_, _, _, rfl, r118, r128, r138⟩⟩⟩
   simp [execOp, Act.eval, go_sem, h118, h128, h138]
  ·simp at ho
   subst ho
   exact absurd rfl hns
 case hs10 =>
  intro o a' V hG hN hshp ho hev hrd
  simp at ho
  have hop : o.op = .store 79 (.tmp 6) (.tmp 139) := by subst ho; rfl
  have hds : o.dst = none := by subst ho; rfl
  have hrd139 : readsB o 139 = true := by subst ho; rfl
  have r139 : Rt V (a'.eval (.tmp 139)) (rcbN D.p D.b P Q) := hrd 139 hrd139 (by rfl)
  have o6 := hev 6 rfl
  obtain ⟨v0, v1, v2, he, q1, q2, q3⟩ := r139
  obtain ⟨vs, hrv, hvl⟩ := hshp
  obtain ⟨V', hrun, hr', hg'⟩ := exec_store (P := Tryz.prog) (w := V) (o := o) (a := a') 79 3 Tryz.sizeRt (.tmp 6) (.tmp 139) hop gr [v0, v1, v2] (by rw [o6]; rfl) he 79 vs hrv hvl rfl (ones3 q1.one q2.one q3.one)
  refine ⟨(by intro c h; rw [hop] at h; cases h), fun _ _ => trivial, hds, V', hrun, hg', NoU.of_row hr' (noU3 (by obtain ⟨A, n, c, rfl⟩ := q1.sl; intro x h; cases h) (by obtain ⟨A, n, c, rfl⟩ := q2.sl; intro x h; cases h) (by obtain ⟨A, n, c, rfl⟩ := q3.sl; intro x h; cases h)), ⟨_, hr', rfl⟩, v0, v1, v2, hr', ?_⟩
  have hsb : Sb V V' := ⟨gr, hN, hg'⟩
  exact ⟨_, _, _, rfl, q1.sb hsb, q2.sb hsb, q3.sb hsb⟩
 case hend10 =>
  rintro vals V hG hN - ⟨v0, v1, v2, hr, ht⟩
  simp [wrote, Act.put]
  go_wp2_with fail
  refine ⟨rfl, _, results_rt rfl _ gr _ rfl hr rfl, _, rfl, ht, below_grown HB8.out hG (by have := HGL.out.1; rw [HG0.out]; exact this) HB8.out.size⟩
def Spc.pt (P : Option (Nat × Nat)) : Spc := ⟨fun v V => Pt V v P, fun _ _ _ hb h => h.sb hb⟩
theorem slU {w : World} {v : Value} {k : Nat} (h : Nu w v k) : ∀ x, v ≠ .int .u64 x := by
 obtain ⟨A, n, c, rfl⟩ := h.sl
 intro x h
 cases h
abbrev inf0 : Value := .agg #[.bool true, .slice none 0 0, .slice none 0 0]
theorem cinf_any (w : World) : Calls Tryz.prog 39 #[] w fun e w' => e = .returned inf0 ∧ Below w.heap.size w w' := by
 obtain ⟨W0, e0, r0, b0, z0⟩ := newS w 26 [.bool false, .slice none 0 0, .slice none 0 0] _ rfl
 obtain ⟨gr, hgr⟩ : ∃ g, w.heap.size = g := ⟨_, rfl⟩
 have HGR := hid hgr
 rw [hgr] at r0
 go_enter Tryz.func39, Tryz.ntmps39
 go_wp2_with ((with_reducible show wpList _ _ _ (⟨none, _, _, _, _, _⟩ :: _) _ _); refine wlS_store rfl 26 3 Tryz.sizePt _ _ rfl gr [.bool true, .slice none 0 0, .slice none 0 0] rfl rfl 26 _ r0 rfl rfl (ones3 rfl rfl rfl) ?_; intro w6 hr6 hg6 hz6)
 refine ⟨rfl, _, results_pt rfl _ gr _ rfl hr6 rfl, rfl, below_grown b0 hg6 (by rw [HGR.out]; exact Nat.le_refl _) b0.size⟩
def rtN : Option (Nat × Nat) → Nat × Nat × Nat
 | none => (0, 1, 0)
 | some (x, y) => (x, y, 1)
theorem crof_any (w : World) (vP : Value) (P : Option (Nat × Nat)) (hP : Pg w vP P) :
  Calls Tryz.prog 42 #[vP] w fun e w' => ∃ v, e = .returned v ∧ Rt w' v (rtN P) ∧ Below w.heap.size w w' := by
 have hmx : Tryz.prog.follows .mixedOrders = true := by kernel_rfl
 rcases P with _ | ⟨x, y⟩
 ·obtain ⟨a, b, rfl, ha, hb⟩ := hP
  obtain ⟨W0, e0, r0, b0, z0⟩ := newS w 26 [.bool true, a, b] _ rfl
  obtain ⟨W1, e1, r1, b1, z1⟩ := newS W0 79 [.slice none 0 0, .slice none 0 0, .slice none 0 0] _ rfl
  obtain ⟨g0, hg0⟩ : ∃ g, w.heap.size = g := ⟨_, rfl⟩
  obtain ⟨gr, hgr⟩ : ∃ g, W0.heap.size = g := ⟨_, rfl⟩
  have hbw : Below w.heap.size w W1 := b0.trans (b1.mono b0.size)
  rw [hg0] at r0
  rw [hgr] at r1
  have c0 := (r0.later b1).at_ (i := 0) rfl
  have HGL := hid (show w.heap.size ≤ gr by omega)
  have HB := hid hbw
  have HO := hid (of_u 1 (by decide) W1)
  have HR := hid r1
  clear r0 b0 b1 z0 z1 hbw r1 ha hb
  go_enter Tryz.func42, Tryz.ntmps42
  go_wp2_with fail
  refine HO.out.mono ?_
  rintro e w2 ⟨v, rfl, hv, hb2⟩
  obtain ⟨A, n, c, rfl⟩ := hv.sl
  have HV := hid hv
  have hr2 := HR.out.later hb2
  have HB2 := hid (HB.out.trans (hb2.mono HB.out.size))
  clear hv hb2 c0
  go_wp2_with ((with_reducible show wpList _ _ _ (⟨none, _, _, _, _, _⟩ :: _) _ _); refine wlS_store rfl 79 3 Tryz.sizeRt _ _ rfl gr [.slice none 0 0, .slice A n c, .slice none 0 0] rfl rfl 79 _ hr2 rfl rfl (ones3 rfl rfl rfl) ?_; intro w6 hr6 hg6 hz6)
  refine ⟨rfl, _, results_rt rfl _ gr _ rfl hr6 rfl, _, rfl, ⟨_, _, _, rfl, Nu.nil _, HV.out.sb ⟨gr, NoU.of_row hr2 (noU3 nofun nofun nofun), hg6⟩, Nu.nil _⟩, below_grown HB2.out hg6 HGL.out HB2.out.size⟩
 ·obtain ⟨a, b, rfl, ha, hb⟩ := hP
  obtain ⟨W0, e0, r0, b0, z0⟩ := newS w 26 [.bool false, a, b] _ rfl
  obtain ⟨W1, e1, r1, b1, z1⟩ := newS W0 79 [.slice none 0 0, .slice none 0 0, .slice none 0 0] _ rfl
  obtain ⟨g0, hg0⟩ : ∃ g, w.heap.size = g := ⟨_, rfl⟩
  obtain ⟨gr, hgr⟩ : ∃ g, W0.heap.size = g := ⟨_, rfl⟩
  have hbw : Below w.heap.size w W1 := b0.trans (b1.mono b0.size)
  rw [hg0] at r0
  rw [hgr] at r1
  have hra := r0.later b1
  have c0 := hra.at_ (i := 0) rfl
  have HRA := hid hra
  have HGL := hid (show w.heap.size ≤ gr ∧ g0 ≠ gr by omega)
  have HB := hid hbw
  have HR := hid r1
  have HA := hid (ha.later hbw)
  have HBb := hid (hb.later hbw)
  have HNO := hid (NoU.of_row r1 (noU3 nofun nofun nofun))
  clear r0 b0 b1 z0 z1 hbw r1 ha hb hra
  go_enter Tryz.func42, Tryz.ntmps42
  go_wp2_with fail
  refine (wpIn_wide (n := 9)).1 (wpIn_region_num1 rfl hmx [(7, .val (.pointer (some ⟨g0, 1, none⟩))), (8, .val (a)), (9, .num (x)), (10, .val (.pointer (some ⟨g0, 2, none⟩))), (11, .val (b)), (12, .num (y)), (13, .num (1)), (14, .rt (x, y, 1))] (by kernel_rfl) (by kernel_rfl) (by kernel_rfl) (by kernel_rfl) (by rfl) gr 8 ⟨_, rfl, rfl⟩ (HR.out.lt) HNO.out 79 3 ⟨_, HR.out, rfl⟩ (fun V => ∃ v0 v1 v2, RowV 79 V gr [v0, v1, v2] ∧ Rt V (.agg #[v0, v1, v2]) (x, y, 1)) ?hPs3 ?hops3 ?hs3 ?hend3)
  case hPs3 =>
   rintro V V' hlt hb ⟨v0, v1, v2, hr, ht⟩
   exact ⟨v0, v1, v2, hr.later hb, ht.later hb⟩
  case hops3 =>
   intro i o a' V hns hB ho hev hrd
   have his : i < 9 := by have := (Array.getElem?_eq_some_iff.1 ho).1; simpa using this
   have hra := HRA.out.grown hB HGL.out.2
   have d1 := hra.at_ (i := 1) rfl
   have d2 := hra.at_ (i := 2) rfl
   have hA := HA.out.sb ⟨gr, HNO.out, hB⟩
   have hBb := HBb.out.sb ⟨gr, HNO.out, hB⟩
   have hcase : i = 0 ∨ i = 1 ∨ i = 2 ∨ i = 3 ∨ i = 4 ∨ i = 5 ∨ i = 6 ∨ i = 7 ∨ i = 8 := by omega
   rcases hcase with rfl | rfl | rfl | rfl | rfl | rfl | rfl | rfl | rfl
   ·simp at ho
    subst ho
    have r1 := hev 1 rfl
    simp [Act.eval] at r1
    refine ⟨nofun, fun _ _ => trivial, nofun, .inl ⟨.pointer (some ⟨g0, 1, none⟩), V, ?_, Below.refl _ _, fun t ht => by cases ht; rfl⟩⟩
    simp [execOp, Act.eval, go_sem, r1, d1, d2]
   ·simp at ho
    subst ho
    have r7 : a'.eval (.tmp 7) = .pointer (some ⟨g0, 1, none⟩) := hrd 7 rfl rfl
    simp [Act.eval] at r7
    refine ⟨nofun, fun _ _ => trivial, nofun, .inl ⟨a, V, ?_, Below.refl _ _, fun t ht => by cases ht; rfl⟩⟩
    simp [execOp, Act.eval, go_sem, r7, d1, d2]
   ·simp at ho
    subst ho
    have r8 : a'.eval (.tmp 8) = a := hrd 8 rfl rfl
    simp [Act.eval] at r8
    refine ⟨nofun, fun _ _ => trivial, nofun, .inr ⟨43, #[a], ?_, (callsIn_wide.2 (norm_u V a x hA)).mono ?_⟩⟩
    ·simp [execOp, Act.eval, r8, resolve, invoke, Deferred.ofValue]
    ·rintro e w' ⟨v, rfl, hv, hB2⟩
     exact ⟨_, rfl, hB2, fun t ht => by cases ht; exact hv⟩
   ·simp at ho
    subst ho
    have r1 := hev 1 rfl
    simp [Act.eval] at r1
    refine ⟨nofun, fun _ _ => trivial, nofun, .inl ⟨.pointer (some ⟨g0, 2, none⟩), V, ?_, Below.refl _ _, fun t ht => by cases ht; rfl⟩⟩
    simp [execOp, Act.eval, go_sem, r1, d1, d2]
   ·simp at ho
    subst ho
    have r10 : a'.eval (.tmp 10) = .pointer (some ⟨g0, 2, none⟩) := hrd 10 rfl rfl
    simp [Act.eval] at r10
    refine ⟨nofun, fun _ _ => trivial, nofun, .inl ⟨b, V, ?_, Below.refl _ _, fun t ht => by cases ht; rfl⟩⟩
    simp [execOp, Act.eval, go_sem, r10, d1, d2]
   ·simp at ho
    subst ho
    have r11 : a'.eval (.tmp 11) = b := hrd 11 rfl rfl
    simp [Act.eval] at r11
    refine ⟨nofun, fun _ _ => trivial, nofun, .inr ⟨43, #[b], ?_, (callsIn_wide.2 (norm_u V b y hBb)).mono ?_⟩⟩
    ·simp [execOp, Act.eval, r11, resolve, invoke, Deferred.ofValue]
    ·rintro e w' ⟨v, rfl, hv, hB2⟩
     exact ⟨_, rfl, hB2, fun t ht => by cases ht; exact hv⟩
   ·simp at ho
    subst ho
    refine ⟨nofun, fun _ _ => trivial, nofun, .inr ⟨73, #[.int .u64 1], ?_, (callsIn_wide.2 (of_u 1 (by decide) V)).mono ?_⟩⟩
    ·simp [execOp, Act.eval, resolve, invoke, Deferred.ofValue]
    ·rintro e w' ⟨v, rfl, hv, hB2⟩
     exact ⟨_, rfl, hB2, fun t ht => by cases ht; exact hv⟩
   ·simp at ho
    subst ho
    have r9 : Nu V (a'.eval (.tmp 9)) (x) := hrd 9 rfl rfl
    have r12 : Nu V (a'.eval (.tmp 12)) (y) := hrd 12 rfl rfl
    have r13 : Nu V (a'.eval (.tmp 13)) (1) := hrd 13 rfl rfl
    obtain ⟨A9, n9, c9, h9⟩ := r9.sl
    rw [h9] at r9
    simp [Act.eval] at h9
    obtain ⟨A12, n12, c12, h12⟩ := r12.sl
    rw [h12] at r12
    simp [Act.eval] at h12
    obtain ⟨A13, n13, c13, h13⟩ := r13.sl
    rw [h13] at r13
    simp [Act.eval] at h13
    refine ⟨nofun, fun _ _ => trivial, nofun, .inl ⟨.agg #[.slice A9 n9 c9, .slice A12 n12 c12, .slice A13 n13 c13], V, ?_, Below.refl _ _, fun t ht => by cases ht; exact ⟨_, _, _, rfl, r9, r12, r13⟩⟩⟩
    simp [execOp, Act.eval, go_sem, h9, h12, h13]
   ·simp at ho
    subst ho
    exact absurd rfl hns
  case hs3 =>
   intro o a' V hG hN hshp ho hev hrd
   simp at ho
   have hop : o.op = .store 79 (.tmp 2) (.tmp 14) := by subst ho; rfl
   have hds : o.dst = none := by subst ho; rfl
   have hrdv : readsB o 14 = true := by subst ho; rfl
   have rv : Rt V (a'.eval (.tmp 14)) (x, y, 1) := hrd 14 hrdv (by rfl)
   have op := hev 2 rfl
   obtain ⟨vs, hrv, hvl⟩ := hshp
   obtain ⟨V', hrun, hr', hg'⟩ : ∃ V', (execOp a'.eval o).run Tryz.prog V = .ok .skip V' ∧ (∃ v0 v1 v2, RowV 79 V' gr [v0, v1, v2] ∧ (∀ x, v0 ≠ .int .u64 x) ∧ (∀ x, v1 ≠ .int .u64 x) ∧ (∀ x, v2 ≠ .int .u64 x) ∧ Rt V (.agg #[v0, v1, v2]) (x, y, 1)) ∧ V.grownBy V' (some gr) := by
    obtain ⟨v0, v1, v2, he, q1, q2, q3⟩ := rv
    obtain ⟨V', h1, h2, h3⟩ := exec_store (P := Tryz.prog) (w := V) (o := o) (a := a') 79 3 Tryz.sizeRt (.tmp 2) (.tmp 14) hop gr [v0, v1, v2] (by rw [op]; rfl) he 79 vs hrv hvl rfl (ones3 q1.one q2.one q3.one)
    exact ⟨V', h1, ⟨_, _, _, h2, slU q1, slU q2, slU q3, ⟨_, _, _, rfl, q1, q2, q3⟩⟩, h3⟩
   obtain ⟨v0, v1, v2, h1, h2, h3, h4, h5⟩ := hr'
   exact ⟨(by intro c h; rw [hop] at h; cases h), fun _ _ => trivial, hds, V', hrun, hg', NoU.of_row h1 (noU3 h2 h3 h4), ⟨_, h1, rfl⟩, v0, v1, v2, h1, h5.sb ⟨gr, hN, hg'⟩⟩
  case hend3 =>
   rintro vals V hG hN - ⟨v0, v1, v2, hr, ht⟩
   simp [wrote, Act.put]
   go_wp2_with fail
   exact ⟨rfl, _, results_rt rfl _ gr _ rfl hr rfl, _, rfl, ht, below_grown HB.out hG HGL.out.1 HB.out.size⟩
theorem bits0 {k n : Nat} (h : IsBits n k) : (k : Int) = 0 ↔ n = 0 := by
 have := bits_zero h
 omega
def PtR (p : Nat) (T : Nat × Nat × Nat) (P : Option (Nat × Nat)) : Prop :=
 (T.2.2 = 0 ∧ P = none) ∨ (T.2.2 ≠ 0 ∧ ∃ i, i < p ∧ T.2.2 * i % p = 1 ∧ P = some (T.1 * i % p, T.2.1 * i % p))
theorem bits_u (w : World) (a : Value) (x : Nat) (ha : NumR w 64 x a) : Calls Tryz.prog 53 #[a] w fun e w' => ∃ k : Nat, e = .returned (.int .i64 (k : Int)) ∧ IsBits x k ∧ w = w' := by
 obtain ⟨xs, A, n, c, rfl, hs, hd, rfl, hn⟩ := ha
 exact bits_any w _ _ _ _ _ hs hd (by omega)
theorem cpt_any (w : World) (D : Crv) (T : Nat × Nat × Nat) (vd vT : Value) (hd : Dm w vd D) (hT : Rt w vT T) (hp : 1 < D.p) (hg : T.2.2 ≠ 0 → Nat.gcd D.p T.2.2 = 1) :
  Calls Tryz.prog 40 #[vd, vT] w fun e w' => ∃ v P, e = .returned v ∧ PtR D.p T P ∧ Pt w' v P ∧ Below w.heap.size w w' := by
 have hmx : Tryz.prog.follows .mixedOrders = true := by kernel_rfl
 obtain ⟨vp, vb, vn, vx, vy, rfl, h1, h2, h3, h4, h5⟩ := hd
 obtain ⟨x1, y1, z1, rfl, k1, k2, k3⟩ := hT
 obtain ⟨Ap, np, cp, rfl⟩ := h1.sl
 obtain ⟨W0, e0, r0, b0, s0⟩ := newS w 73 [.int .i64 (D.size : Int), .slice Ap np cp, vb, vn, .bool false, vx, vy] _ rfl
 obtain ⟨W1, e1, r1, b1, s1⟩ := newS W0 79 [x1, y1, z1] _ rfl
 obtain ⟨W2, e2, r2, b2, s2⟩ := newS W1 26 [.bool false, .slice none 0 0, .slice none 0 0] _ rfl
 obtain ⟨g0, hg0⟩ : ∃ g, w.heap.size = g := ⟨_, rfl⟩
 obtain ⟨g1, hg1⟩ : ∃ g, W0.heap.size = g := ⟨_, rfl⟩
 obtain ⟨gr, hgr⟩ : ∃ g, W1.heap.size = g := ⟨_, rfl⟩
 have hb2 : Below w.heap.size w W2 := b0.trans ((b1.trans (b2.mono b1.size)).mono b0.size)
 rw [hg0] at r0; rw [hg1] at r1; rw [hgr] at r2
 have r02 := (r0.later b1).later b2
 have r12 := r1.later b2
 have HGL := hid (show w.heap.size ≤ gr ∧ g0 < gr ∧ g1 < gr ∧ gr < W2.heap.size by omega)
 have HB := hid hb2
 have H1 := hid (h1.later hb2)
 have K1 := hid (k1.later hb2)
 have K2 := hid (k2.later hb2)
 have K3 := hid (k3.later hb2)
 have HBI := hid (bits_u W2 z1 T.2.2 (k3.later hb2).gu)
 have HG := hid hg
 have HP := hid hp
 have HR0 := hid r02
 have HR1 := hid r12
 have HR2 := hid r2
 have c1 := r02.at_ (i := 1) rfl
 have d2 := r12.at_ (i := 2) rfl
 clear b0 b1 b2 s0 s1 s2 hb2 h1 h2 h3 h4 h5 k1 k2 k3 hg hp r0 r1 r2 r02 r12
 go_enter Tryz.func40, Tryz.ntmps40
 go_wp2_with fail
 refine HBI.out.mono ?_
 rintro e w3 ⟨k, rfl, hk, rfl⟩
 by_cases hz : T.2.2 = 0
 ·have hk0 : (k : Int) = 0 := (bits0 hk).2 hz
  have HZ := hid hz
  have HI := hid (cinf_any W2)
  clear hk hz
  go_wp2_with fail
  refine HI.out.mono ?_
  rintro e w3 ⟨rfl, hb⟩
  have hr3 := HR2.out.later hb
  have HB3 := hid (HB.out.trans (hb.mono HB.out.size))
  clear hb c1 d2
  go_wp2_with ((with_reducible show wpList _ _ _ (⟨none, _, _, _, _, _⟩ :: _) _ _); refine wlS_store rfl 26 3 Tryz.sizePt _ _ rfl gr [.bool true, .slice none 0 0, .slice none 0 0] rfl rfl 26 _ hr3 rfl rfl (ones3 rfl rfl rfl) ?_; intro w6 hr6 hg6 hz6)
  refine ⟨rfl, _, results_pt rfl _ gr _ rfl hr6 rfl, _, none, rfl, .inl ⟨HZ.out, rfl⟩, ⟨_, _, rfl, Nu.nil _, Nu.nil _⟩, below_grown HB3.out hg6 HGL.out.1 HB3.out.size⟩
 ·have hk0 : ¬ (k : Int) = 0 := fun h => hz ((bits0 hk).1 h)
  have HZ := hid hz
  clear hk hz
  obtain ⟨W4, e4, r4, b4, s4⟩ := newS W2 84 [.slice none 0 0] _ rfl
  obtain ⟨g4, hg4⟩ : ∃ g, W2.heap.size = g := ⟨_, rfl⟩
  rw [hg4] at r4
  have cf4 := r4.at_ (i := 0) rfl
  have ff4 := r4.frozen
  have c14 := (HR0.out.later b4).at_ (i := 1) rfl
  have hne : g0 ≠ g4 ∧ g1 ≠ g4 ∧ gr ≠ g4 := by have := HGL.out; omega
  obtain ⟨W5, hW5⟩ : ∃ X, W4.setCell ⟨g4, 0, none⟩ (.slice Ap np cp) = X := ⟨_, rfl⟩
  have hg5 : W4.grownBy W5 (some g4) := by rw [← hW5]; exact grown_set (World.grownBy.refl W4 _) 0 _
  have hs5 : Sb W4 W5 := ⟨g4, NoU.of_row r4 (by intro v hv x; simp only [List.mem_cons, List.not_mem_nil, or_false] at hv; subst hv; intro h; cases h), hg5⟩
  have HF5 := hid (show RowV 84 W5 g4 [.slice Ap np cp] by rw [← hW5]; exact r4.set 0 _)
  have HR05 := hid ((HR0.out.later b4).grown hg5 hne.1)
  have HR15 := hid ((HR1.out.later b4).grown hg5 hne.2.1)
  have HR25 := hid ((HR2.out.later b4).grown hg5 hne.2.2)
  have H15 := hid ((H1.out.later b4).sb hs5)
  have K15 := hid ((K1.out.later b4).sb hs5)
  have K25 := hid ((K2.out.later b4).sb hs5)
  have K35 := hid ((K3.out.later b4).sb hs5)
  have HB4 := HB.out.trans (b4.mono HB.out.size)
  have HB5 := hid (below_grown HB4 hg5 (by have := HGL.out; omega) HB4.size)
  have HIV := hid (finv_any W5 (.slice Ap np cp) z1 D.p T.2.2 H15.out.gu K35.out.gu HP.out (HG.out HZ.out))
  clear HR0 HR1 HR2 H1 K1 K2 K3 HB HB4 hs5 b4 s4 r4 hg5 HBI
  have cf5 := HF5.out.at_ (i := 0) rfl
  have d25 := HR15.out.at_ (i := 2) rfl
  go_wp2_with fail
  refine HIV.out.mono ?_
  rintro e w6 ⟨R, hR1, hR2, vi, rfl, hvi, hb6⟩
  have HRA := hid (HR05.out.later hb6)
  have HRB := hid (HR15.out.later hb6)
  have HR := hid (HR25.out.later hb6)
  have HFF := hid (HF5.out.later hb6)
  have HPP := hid (H15.out.later hb6)
  have HX := hid (K15.out.later hb6)
  have HY := hid (K25.out.later hb6)
  have HVI := hid hvi
  have HBW := hid (HB5.out.trans (hb6.mono HB5.out.size))
  have HRR := hid (And.intro hR1 hR2)
  have HNO := hid (NoU.of_row HR.out (noU3 nofun nofun nofun))
  have HNE := hid (show g0 ≠ gr ∧ g1 ≠ gr ∧ g4 ≠ gr by have := HGL.out; omega)
  clear hR1 hR2 hvi hb6 HR05 HR15 HR25 HF5 H15 K15 K25 K35 HB5 HIV cf5 d25 hne hW5 c1 d2 cf4 ff4 c14 e0 e1 e2 e4
  go_wp2_with fail
  refine (wpIn_wide (n := 9)).1 (wpIn_region_num1 rfl hmx [(19, .val (Fd (.slice Ap np cp))), (20, .val (.pointer (some ⟨g1, 0, none⟩))), (21, .val (x1)), (22, .val (vi)), (23, .num (T.1 * R % D.p)), (24, .val (Fd (.slice Ap np cp))), (25, .val (.pointer (some ⟨g1, 1, none⟩))), (26, .val (y1)), (27, .val (vi)), (28, .num (T.2.1 * R % D.p)), (29, .pt (some (T.1 * R % D.p, T.2.1 * R % D.p)))] (by kernel_rfl) (by kernel_rfl) (by kernel_rfl) (by kernel_rfl) (by rfl) gr 11 ⟨_, rfl, rfl⟩ (HR.out.lt) HNO.out 26 3 ⟨_, HR.out, rfl⟩ (fun V => ∃ v0 v1 v2, RowV 26 V gr [v0, v1, v2] ∧ Pt V (.agg #[v0, v1, v2]) (some (T.1 * R % D.p, T.2.1 * R % D.p))) ?hPs5 ?hops5 ?hs5 ?hend5)
  case hPs5 =>
   rintro V V' hlt hb ⟨v0, v1, v2, hr, ht⟩
   exact ⟨v0, v1, v2, hr.later hb, ht.later hb⟩
  case hops5 =>
   intro i o a' V hns hB ho hev hrd
   have his : i < 12 := by have := (Array.getElem?_eq_some_iff.1 ho).1; simpa using this
   have hrb := HRB.out.grown hB HNE.out.2.1
   have hff := HFF.out.grown hB HNE.out.2.2
   have d0 := hrb.at_ (i := 0) rfl
   have d1 := hrb.at_ (i := 1) rfl
   have f0 := hff.at_ (i := 0) rfl
   have hPP := HPP.out.sb ⟨gr, HNO.out, hB⟩
   have hX := HX.out.sb ⟨gr, HNO.out, hB⟩
   have hY := HY.out.sb ⟨gr, HNO.out, hB⟩
   have hVI := HVI.out.sb ⟨gr, HNO.out, hB⟩
   have hcase : i = 0 ∨ i = 1 ∨ i = 2 ∨ i = 3 ∨ i = 4 ∨ i = 5 ∨ i = 6 ∨ i = 7 ∨ i = 8 ∨ i = 9 ∨ i = 10 ∨ i = 11 := by omega
   rcases hcase with rfl | rfl | rfl | rfl | rfl | rfl | rfl | rfl | rfl | rfl | rfl | rfl
   ·simp at ho
    subst ho
    have r5 := hev 5 rfl
    simp [Act.eval] at r5
    refine ⟨nofun, fun _ _ => trivial, nofun, .inl ⟨Fd (.slice Ap np cp), V, ?_, Below.refl _ _, fun t ht => by cases ht; rfl⟩⟩
    simp [execOp, Act.eval, go_sem, r5, d0, d1, f0]
   ·simp at ho
    subst ho
    have r3 := hev 3 rfl
    simp [Act.eval] at r3
    refine ⟨nofun, fun _ _ => trivial, nofun, .inl ⟨.pointer (some ⟨g1, 0, none⟩), V, ?_, Below.refl _ _, fun t ht => by cases ht; rfl⟩⟩
    simp [execOp, Act.eval, go_sem, r3, d0, d1, f0]
   ·simp at ho
    subst ho
    have r20 : a'.eval (.tmp 20) = .pointer (some ⟨g1, 0, none⟩) := hrd 20 rfl rfl
    simp [Act.eval] at r20
    refine ⟨nofun, fun _ _ => trivial, nofun, .inl ⟨x1, V, ?_, Below.refl _ _, fun t ht => by cases ht; rfl⟩⟩
    simp [execOp, Act.eval, go_sem, r20, d0, d1, f0]
   ·simp at ho
    subst ho
    have r6 := hev 6 rfl
    simp [Act.eval] at r6
    refine ⟨nofun, fun _ _ => trivial, nofun, .inl ⟨vi, V, ?_, Below.refl _ _, fun t ht => by cases ht; rfl⟩⟩
    simp [execOp, Act.eval, go_sem, r6, d0, d1, f0]
   ·simp at ho
    subst ho
    have r19 : a'.eval (.tmp 19) = Fd (.slice Ap np cp) := hrd 19 rfl rfl
    simp [Act.eval] at r19
    have r21 : a'.eval (.tmp 21) = x1 := hrd 21 rfl rfl
    simp [Act.eval] at r21
    have r22 : a'.eval (.tmp 22) = vi := hrd 22 rfl rfl
    simp [Act.eval] at r22
    refine ⟨nofun, fun _ _ => trivial, nofun, .inr ⟨69, #[Fd (.slice Ap np cp), x1, vi], ?_, (callsIn_wide.2 (fprod_any V (.slice Ap np cp) x1 vi D.p T.1 R hPP.gu hX.gu hVI.gu (by have := HP.out; omega))).mono ?_⟩⟩
    ·simp [execOp, Act.eval, r19, r21, r22, resolve, invoke, Deferred.ofValue]
    ·rintro e w' ⟨v, rfl, hv, hB2⟩
     exact ⟨_, rfl, hB2, fun t ht => by cases ht; exact hv⟩
   ·simp at ho
    subst ho
    have r5 := hev 5 rfl
    simp [Act.eval] at r5
    refine ⟨nofun, fun _ _ => trivial, nofun, .inl ⟨Fd (.slice Ap np cp), V, ?_, Below.refl _ _, fun t ht => by cases ht; rfl⟩⟩
    simp [execOp, Act.eval, go_sem, r5, d0, d1, f0]
   ·simp at ho
    subst ho
    have r3 := hev 3 rfl
    simp [Act.eval] at r3
    refine ⟨nofun, fun _ _ => trivial, nofun, .inl ⟨.pointer (some ⟨g1, 1, none⟩), V, ?_, Below.refl _ _, fun t ht => by cases ht; rfl⟩⟩
    simp [execOp, Act.eval, go_sem, r3, d0, d1, f0]
   ·simp at ho
    subst ho
    have r25 : a'.eval (.tmp 25) = .pointer (some ⟨g1, 1, none⟩) := hrd 25 rfl rfl
    simp [Act.eval] at r25
    refine ⟨nofun, fun _ _ => trivial, nofun, .inl ⟨y1, V, ?_, Below.refl _ _, fun t ht => by cases ht; rfl⟩⟩
    simp [execOp, Act.eval, go_sem, r25, d0, d1, f0]
   ·simp at ho
    subst ho
    have r6 := hev 6 rfl
    simp [Act.eval] at r6
    refine ⟨nofun, fun _ _ => trivial, nofun, .inl ⟨vi, V, ?_, Below.refl _ _, fun t ht => by cases ht; rfl⟩⟩
    simp [execOp, Act.eval, go_sem, r6, d0, d1, f0]
   ·simp at ho
    subst ho
    have r24 : a'.eval (.tmp 24) = Fd (.slice Ap np cp) := hrd 24 rfl rfl
    simp [Act.eval] at r24
    have r26 : a'.eval (.tmp 26) = y1 := hrd 26 rfl rfl
    simp [Act.eval] at r26
    have r27 : a'.eval (.tmp 27) = vi := hrd 27 rfl rfl
    simp [Act.eval] at r27
    refine ⟨nofun, fun _ _ => trivial, nofun, .inr ⟨69, #[Fd (.slice Ap np cp), y1, vi], ?_, (callsIn_wide.2 (fprod_any V (.slice Ap np cp) y1 vi D.p T.2.1 R hPP.gu hY.gu hVI.gu (by have := HP.out; omega))).mono ?_⟩⟩
    ·simp [execOp, Act.eval, r24, r26, r27, resolve, invoke, Deferred.ofValue]
    ·rintro e w' ⟨v, rfl, hv, hB2⟩
     exact ⟨_, rfl, hB2, fun t ht => by cases ht; exact hv⟩
   ·simp at ho
    subst ho
    have r23 : Nu V (a'.eval (.tmp 23)) (T.1 * R % D.p) := hrd 23 rfl rfl
    have r28 : Nu V (a'.eval (.tmp 28)) (T.2.1 * R % D.p) := hrd 28 rfl rfl
    obtain ⟨A23, n23, c23, h23⟩ := r23.sl
    rw [h23] at r23
    simp [Act.eval] at h23
    obtain ⟨A28, n28, c28, h28⟩ := r28.sl
    rw [h28] at r28
    simp [Act.eval] at h28
    refine ⟨nofun, fun _ _ => trivial, nofun, .inl ⟨.agg #[.bool false, .slice A23 n23 c23, .slice A28 n28 c28], V, ?_, Below.refl _ _, fun t ht => by cases ht; exact ⟨_, _, rfl, r23, r28⟩⟩⟩
    simp [execOp, Act.eval, go_sem, h23, h28]
   ·simp at ho
    subst ho
    exact absurd rfl hns
  case hs5 =>
   intro o a' V hG hN hshp ho hev hrd
   simp at ho
   have hop : o.op = .store 26 (.tmp 4) (.tmp 29) := by subst ho; rfl
   have hds : o.dst = none := by subst ho; rfl
   have hrdv : readsB o 29 = true := by subst ho; rfl
   have rv : Pt V (a'.eval (.tmp 29)) (some (T.1 * R % D.p, T.2.1 * R % D.p)) := hrd 29 hrdv (by rfl)
   have op := hev 4 rfl
   obtain ⟨vs, hrv, hvl⟩ := hshp
   obtain ⟨V', hrun, hr', hg'⟩ : ∃ V', (execOp a'.eval o).run Tryz.prog V = .ok .skip V' ∧ (∃ v0 v1 v2, RowV 26 V' gr [v0, v1, v2] ∧ (∀ x, v0 ≠ .int .u64 x) ∧ (∀ x, v1 ≠ .int .u64 x) ∧ (∀ x, v2 ≠ .int .u64 x) ∧ Pt V (.agg #[v0, v1, v2]) (some (T.1 * R % D.p, T.2.1 * R % D.p))) ∧ V.grownBy V' (some gr) := by
    obtain ⟨v1, v2, he, q1, q2⟩ := rv
    obtain ⟨V', h1, h2, h3⟩ := exec_store (P := Tryz.prog) (w := V) (o := o) (a := a') 26 3 Tryz.sizePt (.tmp 4) (.tmp 29) hop gr [.bool false, v1, v2] (by rw [op]; rfl) he 26 vs hrv hvl rfl (ones3 rfl q1.one q2.one)
    exact ⟨V', h1, ⟨_, _, _, h2, nofun, slU q1, slU q2, ⟨_, _, rfl, q1, q2⟩⟩, h3⟩
   obtain ⟨v0, v1, v2, h1, h2, h3, h4, h5⟩ := hr'
   exact ⟨(by intro c h; rw [hop] at h; cases h), fun _ _ => trivial, hds, V', hrun, hg', NoU.of_row h1 (noU3 h2 h3 h4), ⟨_, h1, rfl⟩, v0, v1, v2, h1, h5.sb ⟨gr, hN, hg'⟩⟩
  case hend5 =>
   rintro vals V hG hN - ⟨v0, v1, v2, hr, ht⟩
   simp [wrote, Act.put]
   go_wp2_with fail
   exact ⟨rfl, _, results_pt rfl _ gr _ rfl hr rfl, _, _, rfl, .inr ⟨HZ.out, R, HRR.out.1, HRR.out.2, rfl⟩, ht, below_grown HBW.out hG HGL.out.1 HBW.out.size⟩
end Go.Proofs.YtbejcollbkeedaaGreat
