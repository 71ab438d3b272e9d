/- PadSpoilt, walked: the statement's own function. -/
import Derived.Test.YtnpaidieijlkkabDoorQPso
set_option linter.unusedVariables false
set_option linter.unusedSimpArgs false
namespace Go.Proofs.YtnpaidieijlkkabDoor
open Go.RowKit Go.Shelf

theorem set_take {l : List Value} {n : Nat} {V : List (BitVec 8)} (h : l.take n = V.map W8) (j : Nat) (x : BitVec 8) : (l.set j (W8 x)).take n = (V.set j x).map W8 := by
  rw [List.take_set, h, List.map_set]
set_option maxRecDepth 100000 in
set_option maxHeartbeats 16000000 in
theorem ps_walk1a (w : World) (hGS : StartsG w) (hGR : RootsG w) (b k : Int) (h0 : -9223372036854775808 ≤ b) (h1 : b ≤ 9223372036854775807) (hc : b ≤ 1500) (hk : 0 ≤ k) (hk1 : k ≤ 9223372036854775807) (x : BitVec 8)
    (A1 : Option Addr) (m1 c1 : Nat) (b1 : List (BitVec 8)) (s1 : SlV w w.heap.size A1 m1 c1 (b1.map W8)) (z1 : A1 = none → c1 = 0)
    (A2 : Option Addr) (m2 c2 : Nat) (b2 : List (BitVec 8)) (s2 : SlV w w.heap.size A2 m2 c2 (b2.map W8)) (z2 : A2 = none → c2 = 0) :
    Calls Tryd.prog 3 #[.int .i64 b, .slice A1 m1 c1, .slice A2 m2 c2, .int .i64 k, W8 x] w fun e w' => e = .returned (.bool true) ∧ Below w.heap.size w w' := by
  have hbg := begun8_any w hGS hGR
  have HBG := Lib.hid hbg
  have HG := Lib.hid (⟨hGS, hGR⟩ : StartsG w ∧ RootsG w)
  have HP := Lib.hid (⟨Pc.of_sl s1 z1, Pc.of_sl s2 z2⟩ : Pc w w.heap.size (.slice A1 m1 c1) b1 ∧ Pc w w.heap.size (.slice A2 m2 c2) b2)
  have hmx : Tryd.prog.follows .mixedOrders = true := by kernel_rfl
  clear hbg s1 z1 s2 z2 hGS hGR
  obtain ⟨K, hK⟩ : ∃ K, k = K := ⟨_, rfl⟩
  have hK0 : 0 ≤ K := by omega
  have hK1 : K ≤ 9223372036854775807 := by omega
  have HK := Lib.hid (⟨hK, hK0, hK1⟩ : k = K ∧ 0 ≤ K ∧ K ≤ 9223372036854775807)
  clear hK hK0 hK1
  go_enter Tryd.func3, Tryd.ntmps3
  go_wp2_with fail
  refine HBG.out.mono ?_
  rintro e w1 ⟨rfl, hb1⟩
  obtain ⟨q2, t2, hq2, hl2, p2, hs2⟩ := short_pc (HP.out.2.up hb1) 30 (by decide)
  have p1 := HP.out.1.up hb1
  have hG1 : StartsG w1 ∧ RootsG w1 := ⟨HG.out.1.later hb1, HG.out.2.later hb1⟩
  have S2 := Lib.hid hs2
  have P1 := Lib.hid (⟨p1, p2⟩ : Pc w1 w1.heap.size (.slice A1 m1 c1) b1 ∧ Pc w1 w1.heap.size (.slice A2 q2 c2) t2)
  have HG1 := Lib.hid hG1
  have HB1 := Lib.hid hb1
  have HL := Lib.hid (⟨hl2, hq2⟩ : t2.length = q2 ∧ q2 ≤ 30)
  clear hs2 p1 p2 hG1 hb1 HBG HP hl2 hq2 HG
  go_wp2_with fail
  refine S2.out.mono ?_
  rintro e w' ⟨rfl, rfl⟩
  clear S2
  go_wp2_with fail
  have hen := pencpss_two w1 3 HG1.out.1 HG1.out.2 b A1 m1 c1 b1 P1.out.1.sl.1 P1.out.1.sl.2 A2 q2 c2 t2 P1.out.2.sl.1 P1.out.2.sl.2 (by have := HL.out; omega)
  have hpos := peL_pos 3 b b1 t2
  obtain ⟨V, hV⟩ : ∃ l, peL 3 b b1 t2 = l := ⟨_, rfl⟩
  obtain ⟨R, hR⟩ : ∃ r, psR 3 b b1.length t2.length = r := ⟨_, rfl⟩
  rw [hV, hR] at hen hpos
  have HEN := Lib.hid hen
  have HPOS := Lib.hid hpos
  clear hen hV hR hpos
  refine HEN.out.mono ?_
  rintro e w2 ⟨v2, rfl, hown, hno, hb2⟩
  clear HEN
  by_cases hR0 : R = 0
  · subst hR0
    have ho2 := hown rfl
    have hp := HPOS.out rfl
    obtain ⟨n2, hn2⟩ : ∃ m, V.length = m := ⟨_, rfl⟩
    rw [hn2] at ho2 hp
    obtain ⟨g, c, ys, rfl, hg, hr, hyl, hnc, hcm, htk⟩ := own_row2 ho2 hp
    have hcm2 : c ≤ 9223372036854775807 := Nat.le_trans hcm (by decide)
    have kn0 : ¬ n2 = 0 := by omega
    have kn1 : ((n2 : Int) == 0) = false := by simpa using kn0
    have kn2 : (0 : Int) < n2 := by omega
    have kn3 : (n2 : Int) ≤ 9223372036854775807 := by omega
    have hK0 := HK.out.2.1
    have hK1 := HK.out.2.2
    obtain ⟨j, hj⟩ : ∃ j : Nat, K % (n2 : Int) = j := ⟨(K % (n2 : Int)).toNat, by rw [Int.toNat_of_nonneg (Int.emod_nonneg _ (by omega))]⟩
    have hjn : j < n2 := by have := Int.emod_lt_of_pos K kn2; omega
    have hjt : K.tmod (n2 : Int) = j := by rw [Int.tmod_eq_emod_of_nonneg hK0]; exact hj
    have kj1 : (j : Int) < n2 := by omega
    obtain ⟨y, hy⟩ : ∃ y, V[j]? = some y := ⟨_, List.getElem?_eq_getElem (by omega)⟩
    have hyj : ys[j]? = some (W8 y) := by
      have h := congrArg (fun l => l[j]?) htk
      simp only [List.getElem?_take, List.getElem?_map, hy, if_pos hjn] at h
      exact h
    have hc0 := hr.at_ hyj
    have hf0 := hr.frozen j
    have hr2 := hr.set j (W8 (y ^^^ x))
    have hxo := b8_xor y x
    have hst := set_take htk j (y ^^^ x)
    have HR2 := Lib.hid hr2
    have HY := Lib.hid (⟨hg, by rw [List.length_set]; exact hyl, hnc, hcm, hst, by rw [List.length_set]; exact hn2⟩ : w1.heap.size ≤ g ∧ (ys.set j (W8 (y ^^^ x))).length = c ∧ n2 ≤ c ∧ c ≤ maxLen ∧ (ys.set j (W8 (y ^^^ x))).take n2 = (V.set j (y ^^^ x)).map W8 ∧ (V.set j (y ^^^ x)).length = n2)
    have HB2 := Lib.hid (below_setV hb2 hg j (W8 (y ^^^ x)))
    clear hr hr2 hyl hnc hcm htk hst hy hyj hown hno ho2 hp hb2 hn2 hg HPOS
    obtain ⟨w3, e3⟩ : ∃ W, w2.setCell ⟨g, j, none⟩ (W8 (y ^^^ x)) = W := ⟨_, rfl⟩
    have hr3 : RowV 5 w3 g (ys.set j (W8 (y ^^^ x))) := by rw [← e3]; exact HR2.out
    have hb3 : Below w1.heap.size w1 w3 := by rw [← e3]; exact HB2.out
    have ho3 := own_of_row hr3 HY.out.1 HY.out.2.1 HY.out.2.2.1 HY.out.2.2.2.1 HY.out.2.2.2.2.1
    have f3 : FreshV w3 w1.heap.size (.slice (some ⟨g, 0, none⟩) n2 c) (V.set j (y ^^^ x)) := FreshV.of_own ho3
    obtain ⟨V3, hV3⟩ : ∃ l, V.set j (y ^^^ x) = l := ⟨_, rfl⟩
    rw [hV3] at f3
    rw [← HK.out.1] at hj hjt
    have p1 := P1.out.1.up hb3
    have hve := pverpss_all w3 3 (HG1.out.1.later hb3) (HG1.out.2.later hb3) b A1 m1 c1 b1 p1.sl.1 p1.sl.2 (some ⟨g, 0, none⟩) n2 c V3 f3.pc.sl.1 (q2 : Int)
    obtain ⟨T, hT⟩ : ∃ r, pvR 3 b b1 V3 (q2 : Int) = r := ⟨_, rfl⟩
    rw [hT] at hve
    have HD3 := Lib.hid hve
    have HF3 := Lib.hid (⟨f3, p1⟩ : FreshV w3 w1.heap.size (.slice (some ⟨g, 0, none⟩) n2 c) V3 ∧ Pc w3 w3.heap.size (.slice A1 m1 c1) b1)
    have HT := Lib.hid hT
    have HB3 := Lib.hid (HB1.out.trans (hb3.mono HB1.out.size))
    have hq2 := HL.out.2
    clear hve f3 p1 hT hb3 ho3 hr3 hV3 HR2 HB2 HY hK0 hK1
    go_wp2_with fail
    refine HD3.out.mono ?_
    rintro e w4 ⟨rfl, hb4⟩
    have f4 := HF3.out.1.up hb4
    have p1 := HF3.out.2.up hb4
    have hve := rverpss_all w4 3 b A1 m1 c1 b1 p1.sl.1 p1.sl.2 (some ⟨g, 0, none⟩) n2 c V3 f4.pc.sl.1 (q2 : Int)
    rw [HT.out] at hve
    have HD4 := Lib.hid hve
    have HB4 := Lib.hid (HB3.out.trans (hb4.mono HB3.out.size))
    have kt : (T == T) = true := by simp
    clear hve f4 p1 hb4 HD3 HF3
    go_wp2_with fail
    refine HD4.out.mono ?_
    rintro e w5 ⟨rfl, hb5⟩
    have HB5 := Lib.hid (HB4.out.trans (hb5.mono HB4.out.size))
    clear hb5 HD4
    go_wp2
    go_ret
    exact ⟨rfl, HB5.out⟩
  · obtain rfl := hno hR0
    have kR : (R != 0) = true := by simpa using hR0
    have HB2 := Lib.hid (HB1.out.trans (hb2.mono HB1.out.size))
    clear hb2 hown hno
    go_wp2
    go_ret
    exact ⟨rfl, HB2.out⟩
set_option maxRecDepth 100000 in
set_option maxHeartbeats 16000000 in
theorem ps_walk3a (w : World) (hGS : StartsG w) (hGR : RootsG w) (b k : Int) (h0 : -9223372036854775808 ≤ b) (h1 : b ≤ 9223372036854775807) (hc : 65536 < b) (hk : 0 ≤ k) (hk1 : k ≤ 9223372036854775807) (x : BitVec 8)
    (A1 : Option Addr) (m1 c1 : Nat) (b1 : List (BitVec 8)) (s1 : SlV w w.heap.size A1 m1 c1 (b1.map W8)) (z1 : A1 = none → c1 = 0)
    (A2 : Option Addr) (m2 c2 : Nat) (b2 : List (BitVec 8)) (s2 : SlV w w.heap.size A2 m2 c2 (b2.map W8)) (z2 : A2 = none → c2 = 0) :
    Calls Tryd.prog 3 #[.int .i64 b, .slice A1 m1 c1, .slice A2 m2 c2, .int .i64 k, W8 x] w fun e w' => e = .returned (.bool true) ∧ Below w.heap.size w w' := by
  have hbg := begun8_any w hGS hGR
  have HBG := Lib.hid hbg
  have HG := Lib.hid (⟨hGS, hGR⟩ : StartsG w ∧ RootsG w)
  have HP := Lib.hid (⟨Pc.of_sl s1 z1, Pc.of_sl s2 z2⟩ : Pc w w.heap.size (.slice A1 m1 c1) b1 ∧ Pc w w.heap.size (.slice A2 m2 c2) b2)
  have hmx : Tryd.prog.follows .mixedOrders = true := by kernel_rfl
  clear hbg s1 z1 s2 z2 hGS hGR
  obtain ⟨K, hK⟩ : ∃ K, k = K := ⟨_, rfl⟩
  have hK0 : 0 ≤ K := by omega
  have hK1 : K ≤ 9223372036854775807 := by omega
  have HK := Lib.hid (⟨hK, hK0, hK1⟩ : k = K ∧ 0 ≤ K ∧ K ≤ 9223372036854775807)
  clear hK hK0 hK1
  go_enter Tryd.func3, Tryd.ntmps3
  go_wp2_with fail
  refine HBG.out.mono ?_
  rintro e w1 ⟨rfl, hb1⟩
  obtain ⟨q2, t2, hq2, hl2, p2, hs2⟩ := short_pc (HP.out.2.up hb1) 30 (by decide)
  have p1 := HP.out.1.up hb1
  have hG1 : StartsG w1 ∧ RootsG w1 := ⟨HG.out.1.later hb1, HG.out.2.later hb1⟩
  have S2 := Lib.hid hs2
  have P1 := Lib.hid (⟨p1, p2⟩ : Pc w1 w1.heap.size (.slice A1 m1 c1) b1 ∧ Pc w1 w1.heap.size (.slice A2 q2 c2) t2)
  have HG1 := Lib.hid hG1
  have HB1 := Lib.hid hb1
  have HL := Lib.hid (⟨hl2, hq2⟩ : t2.length = q2 ∧ q2 ≤ 30)
  clear hs2 p1 p2 hG1 hb1 HBG HP hl2 hq2 HG
  go_wp2_with fail
  refine S2.out.mono ?_
  rintro e w' ⟨rfl, rfl⟩
  clear S2
  go_wp2_with fail
  have hen := pencpss_two w1 3 HG1.out.1 HG1.out.2 b A1 m1 c1 b1 P1.out.1.sl.1 P1.out.1.sl.2 A2 q2 c2 t2 P1.out.2.sl.1 P1.out.2.sl.2 (by have := HL.out; omega)
  have hpos := peL_pos 3 b b1 t2
  obtain ⟨V, hV⟩ : ∃ l, peL 3 b b1 t2 = l := ⟨_, rfl⟩
  obtain ⟨R, hR⟩ : ∃ r, psR 3 b b1.length t2.length = r := ⟨_, rfl⟩
  rw [hV, hR] at hen hpos
  have HEN := Lib.hid hen
  have HPOS := Lib.hid hpos
  clear hen hV hR hpos
  refine HEN.out.mono ?_
  rintro e w2 ⟨v2, rfl, hown, hno, hb2⟩
  clear HEN
  by_cases hR0 : R = 0
  · subst hR0
    have ho2 := hown rfl
    have hp := HPOS.out rfl
    obtain ⟨n2, hn2⟩ : ∃ m, V.length = m := ⟨_, rfl⟩
    rw [hn2] at ho2 hp
    obtain ⟨g, c, ys, rfl, hg, hr, hyl, hnc, hcm, htk⟩ := own_row2 ho2 hp
    have hcm2 : c ≤ 9223372036854775807 := Nat.le_trans hcm (by decide)
    have kn0 : ¬ n2 = 0 := by omega
    have kn1 : ((n2 : Int) == 0) = false := by simpa using kn0
    have kn2 : (0 : Int) < n2 := by omega
    have kn3 : (n2 : Int) ≤ 9223372036854775807 := by omega
    have hK0 := HK.out.2.1
    have hK1 := HK.out.2.2
    obtain ⟨j, hj⟩ : ∃ j : Nat, K % (n2 : Int) = j := ⟨(K % (n2 : Int)).toNat, by rw [Int.toNat_of_nonneg (Int.emod_nonneg _ (by omega))]⟩
    have hjn : j < n2 := by have := Int.emod_lt_of_pos K kn2; omega
    have hjt : K.tmod (n2 : Int) = j := by rw [Int.tmod_eq_emod_of_nonneg hK0]; exact hj
    have kj1 : (j : Int) < n2 := by omega
    obtain ⟨y, hy⟩ : ∃ y, V[j]? = some y := ⟨_, List.getElem?_eq_getElem (by omega)⟩
    have hyj : ys[j]? = some (W8 y) := by
      have h := congrArg (fun l => l[j]?) htk
      simp only [List.getElem?_take, List.getElem?_map, hy, if_pos hjn] at h
      exact h
    have hc0 := hr.at_ hyj
    have hf0 := hr.frozen j
    have hr2 := hr.set j (W8 (y ^^^ x))
    have hxo := b8_xor y x
    have hst := set_take htk j (y ^^^ x)
    have HR2 := Lib.hid hr2
    have HY := Lib.hid (⟨hg, by rw [List.length_set]; exact hyl, hnc, hcm, hst, by rw [List.length_set]; exact hn2⟩ : w1.heap.size ≤ g ∧ (ys.set j (W8 (y ^^^ x))).length = c ∧ n2 ≤ c ∧ c ≤ maxLen ∧ (ys.set j (W8 (y ^^^ x))).take n2 = (V.set j (y ^^^ x)).map W8 ∧ (V.set j (y ^^^ x)).length = n2)
    have HB2 := Lib.hid (below_setV hb2 hg j (W8 (y ^^^ x)))
    clear hr hr2 hyl hnc hcm htk hst hy hyj hown hno ho2 hp hb2 hn2 hg HPOS
    obtain ⟨w3, e3⟩ : ∃ W, w2.setCell ⟨g, j, none⟩ (W8 (y ^^^ x)) = W := ⟨_, rfl⟩
    have hr3 : RowV 5 w3 g (ys.set j (W8 (y ^^^ x))) := by rw [← e3]; exact HR2.out
    have hb3 : Below w1.heap.size w1 w3 := by rw [← e3]; exact HB2.out
    have ho3 := own_of_row hr3 HY.out.1 HY.out.2.1 HY.out.2.2.1 HY.out.2.2.2.1 HY.out.2.2.2.2.1
    have f3 : FreshV w3 w1.heap.size (.slice (some ⟨g, 0, none⟩) n2 c) (V.set j (y ^^^ x)) := FreshV.of_own ho3
    obtain ⟨V3, hV3⟩ : ∃ l, V.set j (y ^^^ x) = l := ⟨_, rfl⟩
    rw [hV3] at f3
    rw [← HK.out.1] at hj hjt
    have p1 := P1.out.1.up hb3
    have hve := pverpss_all w3 3 (HG1.out.1.later hb3) (HG1.out.2.later hb3) b A1 m1 c1 b1 p1.sl.1 p1.sl.2 (some ⟨g, 0, none⟩) n2 c V3 f3.pc.sl.1 (q2 : Int)
    obtain ⟨T, hT⟩ : ∃ r, pvR 3 b b1 V3 (q2 : Int) = r := ⟨_, rfl⟩
    rw [hT] at hve
    have HD3 := Lib.hid hve
    have HF3 := Lib.hid (⟨f3, p1⟩ : FreshV w3 w1.heap.size (.slice (some ⟨g, 0, none⟩) n2 c) V3 ∧ Pc w3 w3.heap.size (.slice A1 m1 c1) b1)
    have HT := Lib.hid hT
    have HB3 := Lib.hid (HB1.out.trans (hb3.mono HB1.out.size))
    have hq2 := HL.out.2
    clear hve f3 p1 hT hb3 ho3 hr3 hV3 HR2 HB2 HY hK0 hK1
    go_wp2_with fail
    refine HD3.out.mono ?_
    rintro e w4 ⟨rfl, hb4⟩
    have f4 := HF3.out.1.up hb4
    have p1 := HF3.out.2.up hb4
    have hve := rverpss_all w4 3 b A1 m1 c1 b1 p1.sl.1 p1.sl.2 (some ⟨g, 0, none⟩) n2 c V3 f4.pc.sl.1 (q2 : Int)
    rw [HT.out] at hve
    have HD4 := Lib.hid hve
    have HB4 := Lib.hid (HB3.out.trans (hb4.mono HB3.out.size))
    have kt : (T == T) = true := by simp
    clear hve f4 p1 hb4 HD3 HF3
    go_wp2_with fail
    refine HD4.out.mono ?_
    rintro e w5 ⟨rfl, hb5⟩
    have HB5 := Lib.hid (HB4.out.trans (hb5.mono HB4.out.size))
    clear hb5 HD4
    go_wp2
    go_ret
    exact ⟨rfl, HB5.out⟩
  · obtain rfl := hno hR0
    have kR : (R != 0) = true := by simpa using hR0
    have HB2 := Lib.hid (HB1.out.trans (hb2.mono HB1.out.size))
    clear hb2 hown hno
    go_wp2
    go_ret
    exact ⟨rfl, HB2.out⟩
set_option maxRecDepth 100000 in
set_option maxHeartbeats 16000000 in
theorem ps_walk2a (w : World) (hGS : StartsG w) (hGR : RootsG w) (bits k : Int) (h0 : 1500 < bits) (h1 : bits ≤ 65536) (hk : 0 ≤ k) (hk1 : k ≤ 9223372036854775807) (x : BitVec 8)
    (A1 : Option Addr) (m1 c1 : Nat) (b1 : List (BitVec 8)) (s1 : SlV w w.heap.size A1 m1 c1 (b1.map W8)) (z1 : A1 = none → c1 = 0)
    (A2 : Option Addr) (m2 c2 : Nat) (b2 : List (BitVec 8)) (s2 : SlV w w.heap.size A2 m2 c2 (b2.map W8)) (z2 : A2 = none → c2 = 0) :
    Calls Tryd.prog 3 #[.int .i64 bits, .slice A1 m1 c1, .slice A2 m2 c2, .int .i64 k, W8 x] w fun e w' => e = .returned (.bool true) ∧ Below w.heap.size w w' := by
  have hbg := begun8_any w hGS hGR
  have HBG := Lib.hid hbg
  have HG := Lib.hid (⟨hGS, hGR⟩ : StartsG w ∧ RootsG w)
  have HP := Lib.hid (⟨Pc.of_sl s1 z1, Pc.of_sl s2 z2⟩ : Pc w w.heap.size (.slice A1 m1 c1) b1 ∧ Pc w w.heap.size (.slice A2 m2 c2) b2)
  have hmx : Tryd.prog.follows .mixedOrders = true := by kernel_rfl
  clear hbg s1 z1 s2 z2 hGS hGR
  obtain ⟨K, hK⟩ : ∃ K, k = K := ⟨_, rfl⟩
  have hK0 : 0 ≤ K := by omega
  have hK1 : K ≤ 9223372036854775807 := by omega
  have HK := Lib.hid (⟨hK, hK0, hK1⟩ : k = K ∧ 0 ≤ K ∧ K ≤ 9223372036854775807)
  clear hK hK0 hK1
  go_enter Tryd.func3, Tryd.ntmps3
  go_wp2_with fail
  refine HBG.out.mono ?_
  rintro e w1 ⟨rfl, hb1⟩
  obtain ⟨q2, t2, hq2, hl2, p2, hs2⟩ := short_pc (HP.out.2.up hb1) 30 (by decide)
  have p1 := HP.out.1.up hb1
  have hG1 : StartsG w1 ∧ RootsG w1 := ⟨HG.out.1.later hb1, HG.out.2.later hb1⟩
  have S2 := Lib.hid hs2
  have P1 := Lib.hid (⟨p1, p2⟩ : Pc w1 w1.heap.size (.slice A1 m1 c1) b1 ∧ Pc w1 w1.heap.size (.slice A2 q2 c2) t2)
  have HG1 := Lib.hid hG1
  have HB1 := Lib.hid hb1
  have HL := Lib.hid (⟨hl2, hq2⟩ : t2.length = q2 ∧ q2 ≤ 30)
  clear hs2 p1 p2 hG1 hb1 HBG HP hl2 hq2 HG
  go_wp2_with fail
  refine S2.out.mono ?_
  rintro e w' ⟨rfl, rfl⟩
  clear S2
  go_wp2_with fail
  generalize bits % 1501 = b
  have hen := pencpss_two w1 3 HG1.out.1 HG1.out.2 b A1 m1 c1 b1 P1.out.1.sl.1 P1.out.1.sl.2 A2 q2 c2 t2 P1.out.2.sl.1 P1.out.2.sl.2 (by have := HL.out; omega)
  have hpos := peL_pos 3 b b1 t2
  obtain ⟨V, hV⟩ : ∃ l, peL 3 b b1 t2 = l := ⟨_, rfl⟩
  obtain ⟨R, hR⟩ : ∃ r, psR 3 b b1.length t2.length = r := ⟨_, rfl⟩
  rw [hV, hR] at hen hpos
  have HEN := Lib.hid hen
  have HPOS := Lib.hid hpos
  clear hen hV hR hpos
  refine HEN.out.mono ?_
  rintro e w2 ⟨v2, rfl, hown, hno, hb2⟩
  clear HEN
  by_cases hR0 : R = 0
  · subst hR0
    have ho2 := hown rfl
    have hp := HPOS.out rfl
    obtain ⟨n2, hn2⟩ : ∃ m, V.length = m := ⟨_, rfl⟩
    rw [hn2] at ho2 hp
    obtain ⟨g, c, ys, rfl, hg, hr, hyl, hnc, hcm, htk⟩ := own_row2 ho2 hp
    have hcm2 : c ≤ 9223372036854775807 := Nat.le_trans hcm (by decide)
    have kn0 : ¬ n2 = 0 := by omega
    have kn1 : ((n2 : Int) == 0) = false := by simpa using kn0
    have kn2 : (0 : Int) < n2 := by omega
    have kn3 : (n2 : Int) ≤ 9223372036854775807 := by omega
    have hK0 := HK.out.2.1
    have hK1 := HK.out.2.2
    obtain ⟨j, hj⟩ : ∃ j : Nat, K % (n2 : Int) = j := ⟨(K % (n2 : Int)).toNat, by rw [Int.toNat_of_nonneg (Int.emod_nonneg _ (by omega))]⟩
    have hjn : j < n2 := by have := Int.emod_lt_of_pos K kn2; omega
    have hjt : K.tmod (n2 : Int) = j := by rw [Int.tmod_eq_emod_of_nonneg hK0]; exact hj
    have kj1 : (j : Int) < n2 := by omega
    obtain ⟨y, hy⟩ : ∃ y, V[j]? = some y := ⟨_, List.getElem?_eq_getElem (by omega)⟩
    have hyj : ys[j]? = some (W8 y) := by
      have h := congrArg (fun l => l[j]?) htk
      simp only [List.getElem?_take, List.getElem?_map, hy, if_pos hjn] at h
      exact h
    have hc0 := hr.at_ hyj
    have hf0 := hr.frozen j
    have hr2 := hr.set j (W8 (y ^^^ x))
    have hxo := b8_xor y x
    have hst := set_take htk j (y ^^^ x)
    have HR2 := Lib.hid hr2
    have HY := Lib.hid (⟨hg, by rw [List.length_set]; exact hyl, hnc, hcm, hst, by rw [List.length_set]; exact hn2⟩ : w1.heap.size ≤ g ∧ (ys.set j (W8 (y ^^^ x))).length = c ∧ n2 ≤ c ∧ c ≤ maxLen ∧ (ys.set j (W8 (y ^^^ x))).take n2 = (V.set j (y ^^^ x)).map W8 ∧ (V.set j (y ^^^ x)).length = n2)
    have HB2 := Lib.hid (below_setV hb2 hg j (W8 (y ^^^ x)))
    clear hr hr2 hyl hnc hcm htk hst hy hyj hown hno ho2 hp hb2 hn2 hg HPOS
    obtain ⟨w3, e3⟩ : ∃ W, w2.setCell ⟨g, j, none⟩ (W8 (y ^^^ x)) = W := ⟨_, rfl⟩
    have hr3 : RowV 5 w3 g (ys.set j (W8 (y ^^^ x))) := by rw [← e3]; exact HR2.out
    have hb3 : Below w1.heap.size w1 w3 := by rw [← e3]; exact HB2.out
    have ho3 := own_of_row hr3 HY.out.1 HY.out.2.1 HY.out.2.2.1 HY.out.2.2.2.1 HY.out.2.2.2.2.1
    have f3 : FreshV w3 w1.heap.size (.slice (some ⟨g, 0, none⟩) n2 c) (V.set j (y ^^^ x)) := FreshV.of_own ho3
    obtain ⟨V3, hV3⟩ : ∃ l, V.set j (y ^^^ x) = l := ⟨_, rfl⟩
    rw [hV3] at f3
    rw [← HK.out.1] at hj hjt
    have p1 := P1.out.1.up hb3
    have hve := pverpss_all w3 3 (HG1.out.1.later hb3) (HG1.out.2.later hb3) b A1 m1 c1 b1 p1.sl.1 p1.sl.2 (some ⟨g, 0, none⟩) n2 c V3 f3.pc.sl.1 (q2 : Int)
    obtain ⟨T, hT⟩ : ∃ r, pvR 3 b b1 V3 (q2 : Int) = r := ⟨_, rfl⟩
    rw [hT] at hve
    have HD3 := Lib.hid hve
    have HF3 := Lib.hid (⟨f3, p1⟩ : FreshV w3 w1.heap.size (.slice (some ⟨g, 0, none⟩) n2 c) V3 ∧ Pc w3 w3.heap.size (.slice A1 m1 c1) b1)
    have HT := Lib.hid hT
    have HB3 := Lib.hid (HB1.out.trans (hb3.mono HB1.out.size))
    have hq2 := HL.out.2
    clear hve f3 p1 hT hb3 ho3 hr3 hV3 HR2 HB2 HY hK0 hK1
    go_wp2_with fail
    refine HD3.out.mono ?_
    rintro e w4 ⟨rfl, hb4⟩
    have f4 := HF3.out.1.up hb4
    have p1 := HF3.out.2.up hb4
    have hve := rverpss_all w4 3 b A1 m1 c1 b1 p1.sl.1 p1.sl.2 (some ⟨g, 0, none⟩) n2 c V3 f4.pc.sl.1 (q2 : Int)
    rw [HT.out] at hve
    have HD4 := Lib.hid hve
    have HB4 := Lib.hid (HB3.out.trans (hb4.mono HB3.out.size))
    have kt : (T == T) = true := by simp
    clear hve f4 p1 hb4 HD3 HF3
    go_wp2_with fail
    refine HD4.out.mono ?_
    rintro e w5 ⟨rfl, hb5⟩
    have HB5 := Lib.hid (HB4.out.trans (hb5.mono HB4.out.size))
    clear hb5 HD4
    go_wp2
    go_ret
    exact ⟨rfl, HB5.out⟩
  · obtain rfl := hno hR0
    have kR : (R != 0) = true := by simpa using hR0
    have HB2 := Lib.hid (HB1.out.trans (hb2.mono HB1.out.size))
    clear hb2 hown hno
    go_wp2
    go_ret
    exact ⟨rfl, HB2.out⟩
set_option maxRecDepth 100000 in
set_option maxHeartbeats 16000000 in
theorem ps_walk1b (w : World) (hGS : StartsG w) (hGR : RootsG w) (b k : Int) (h0 : -9223372036854775808 ≤ b) (h1 : b ≤ 9223372036854775807) (hc : b ≤ 1500) (hk : k < 0) (hk1 : -9223372036854775808 ≤ k) (x : BitVec 8)
    (A1 : Option Addr) (m1 c1 : Nat) (b1 : List (BitVec 8)) (s1 : SlV w w.heap.size A1 m1 c1 (b1.map W8)) (z1 : A1 = none → c1 = 0)
    (A2 : Option Addr) (m2 c2 : Nat) (b2 : List (BitVec 8)) (s2 : SlV w w.heap.size A2 m2 c2 (b2.map W8)) (z2 : A2 = none → c2 = 0) :
    Calls Tryd.prog 3 #[.int .i64 b, .slice A1 m1 c1, .slice A2 m2 c2, .int .i64 k, W8 x] w fun e w' => e = .returned (.bool true) ∧ Below w.heap.size w w' := by
  have hbg := begun8_any w hGS hGR
  have HBG := Lib.hid hbg
  have HG := Lib.hid (⟨hGS, hGR⟩ : StartsG w ∧ RootsG w)
  have HP := Lib.hid (⟨Pc.of_sl s1 z1, Pc.of_sl s2 z2⟩ : Pc w w.heap.size (.slice A1 m1 c1) b1 ∧ Pc w w.heap.size (.slice A2 m2 c2) b2)
  have hmx : Tryd.prog.follows .mixedOrders = true := by kernel_rfl
  clear hbg s1 z1 s2 z2 hGS hGR
  obtain ⟨K, hK⟩ : ∃ K, -(k + 1) = K := ⟨_, rfl⟩
  have hK0 : 0 ≤ K := by omega
  have hK1 : K ≤ 9223372036854775807 := by omega
  have HK := Lib.hid (⟨hK, hK0, hK1⟩ : -(k + 1) = K ∧ 0 ≤ K ∧ K ≤ 9223372036854775807)
  clear hK hK0 hK1
  go_enter Tryd.func3, Tryd.ntmps3
  go_wp2_with fail
  refine HBG.out.mono ?_
  rintro e w1 ⟨rfl, hb1⟩
  obtain ⟨q2, t2, hq2, hl2, p2, hs2⟩ := short_pc (HP.out.2.up hb1) 30 (by decide)
  have p1 := HP.out.1.up hb1
  have hG1 : StartsG w1 ∧ RootsG w1 := ⟨HG.out.1.later hb1, HG.out.2.later hb1⟩
  have S2 := Lib.hid hs2
  have P1 := Lib.hid (⟨p1, p2⟩ : Pc w1 w1.heap.size (.slice A1 m1 c1) b1 ∧ Pc w1 w1.heap.size (.slice A2 q2 c2) t2)
  have HG1 := Lib.hid hG1
  have HB1 := Lib.hid hb1
  have HL := Lib.hid (⟨hl2, hq2⟩ : t2.length = q2 ∧ q2 ≤ 30)
  clear hs2 p1 p2 hG1 hb1 HBG HP hl2 hq2 HG
  go_wp2_with fail
  refine S2.out.mono ?_
  rintro e w' ⟨rfl, rfl⟩
  clear S2
  go_wp2_with fail
  have hen := pencpss_two w1 3 HG1.out.1 HG1.out.2 b A1 m1 c1 b1 P1.out.1.sl.1 P1.out.1.sl.2 A2 q2 c2 t2 P1.out.2.sl.1 P1.out.2.sl.2 (by have := HL.out; omega)
  have hpos := peL_pos 3 b b1 t2
  obtain ⟨V, hV⟩ : ∃ l, peL 3 b b1 t2 = l := ⟨_, rfl⟩
  obtain ⟨R, hR⟩ : ∃ r, psR 3 b b1.length t2.length = r := ⟨_, rfl⟩
  rw [hV, hR] at hen hpos
  have HEN := Lib.hid hen
  have HPOS := Lib.hid hpos
  clear hen hV hR hpos
  refine HEN.out.mono ?_
  rintro e w2 ⟨v2, rfl, hown, hno, hb2⟩
  clear HEN
  by_cases hR0 : R = 0
  · subst hR0
    have ho2 := hown rfl
    have hp := HPOS.out rfl
    obtain ⟨n2, hn2⟩ : ∃ m, V.length = m := ⟨_, rfl⟩
    rw [hn2] at ho2 hp
    obtain ⟨g, c, ys, rfl, hg, hr, hyl, hnc, hcm, htk⟩ := own_row2 ho2 hp
    have hcm2 : c ≤ 9223372036854775807 := Nat.le_trans hcm (by decide)
    have kn0 : ¬ n2 = 0 := by omega
    have kn1 : ((n2 : Int) == 0) = false := by simpa using kn0
    have kn2 : (0 : Int) < n2 := by omega
    have kn3 : (n2 : Int) ≤ 9223372036854775807 := by omega
    have hK0 := HK.out.2.1
    have hK1 := HK.out.2.2
    obtain ⟨j, hj⟩ : ∃ j : Nat, K % (n2 : Int) = j := ⟨(K % (n2 : Int)).toNat, by rw [Int.toNat_of_nonneg (Int.emod_nonneg _ (by omega))]⟩
    have hjn : j < n2 := by have := Int.emod_lt_of_pos K kn2; omega
    have hjt : K.tmod (n2 : Int) = j := by rw [Int.tmod_eq_emod_of_nonneg hK0]; exact hj
    have kj1 : (j : Int) < n2 := by omega
    obtain ⟨y, hy⟩ : ∃ y, V[j]? = some y := ⟨_, List.getElem?_eq_getElem (by omega)⟩
    have hyj : ys[j]? = some (W8 y) := by
      have h := congrArg (fun l => l[j]?) htk
      simp only [List.getElem?_take, List.getElem?_map, hy, if_pos hjn] at h
      exact h
    have hc0 := hr.at_ hyj
    have hf0 := hr.frozen j
    have hr2 := hr.set j (W8 (y ^^^ x))
    have hxo := b8_xor y x
    have hst := set_take htk j (y ^^^ x)
    have HR2 := Lib.hid hr2
    have HY := Lib.hid (⟨hg, by rw [List.length_set]; exact hyl, hnc, hcm, hst, by rw [List.length_set]; exact hn2⟩ : w1.heap.size ≤ g ∧ (ys.set j (W8 (y ^^^ x))).length = c ∧ n2 ≤ c ∧ c ≤ maxLen ∧ (ys.set j (W8 (y ^^^ x))).take n2 = (V.set j (y ^^^ x)).map W8 ∧ (V.set j (y ^^^ x)).length = n2)
    have HB2 := Lib.hid (below_setV hb2 hg j (W8 (y ^^^ x)))
    clear hr hr2 hyl hnc hcm htk hst hy hyj hown hno ho2 hp hb2 hn2 hg HPOS
    obtain ⟨w3, e3⟩ : ∃ W, w2.setCell ⟨g, j, none⟩ (W8 (y ^^^ x)) = W := ⟨_, rfl⟩
    have hr3 : RowV 5 w3 g (ys.set j (W8 (y ^^^ x))) := by rw [← e3]; exact HR2.out
    have hb3 : Below w1.heap.size w1 w3 := by rw [← e3]; exact HB2.out
    have ho3 := own_of_row hr3 HY.out.1 HY.out.2.1 HY.out.2.2.1 HY.out.2.2.2.1 HY.out.2.2.2.2.1
    have f3 : FreshV w3 w1.heap.size (.slice (some ⟨g, 0, none⟩) n2 c) (V.set j (y ^^^ x)) := FreshV.of_own ho3
    obtain ⟨V3, hV3⟩ : ∃ l, V.set j (y ^^^ x) = l := ⟨_, rfl⟩
    rw [hV3] at f3
    rw [← HK.out.1] at hj hjt
    have hjm : -((k + 1).tmod (n2 : Int)) = j := by rw [← Int.neg_tmod]; exact hjt
    have p1 := P1.out.1.up hb3
    have hve := pverpss_all w3 3 (HG1.out.1.later hb3) (HG1.out.2.later hb3) b A1 m1 c1 b1 p1.sl.1 p1.sl.2 (some ⟨g, 0, none⟩) n2 c V3 f3.pc.sl.1 (q2 : Int)
    obtain ⟨T, hT⟩ : ∃ r, pvR 3 b b1 V3 (q2 : Int) = r := ⟨_, rfl⟩
    rw [hT] at hve
    have HD3 := Lib.hid hve
    have HF3 := Lib.hid (⟨f3, p1⟩ : FreshV w3 w1.heap.size (.slice (some ⟨g, 0, none⟩) n2 c) V3 ∧ Pc w3 w3.heap.size (.slice A1 m1 c1) b1)
    have HT := Lib.hid hT
    have HB3 := Lib.hid (HB1.out.trans (hb3.mono HB1.out.size))
    have hq2 := HL.out.2
    clear hve f3 p1 hT hb3 ho3 hr3 hV3 HR2 HB2 HY hK0 hK1
    go_wp2_with fail
    refine HD3.out.mono ?_
    rintro e w4 ⟨rfl, hb4⟩
    have f4 := HF3.out.1.up hb4
    have p1 := HF3.out.2.up hb4
    have hve := rverpss_all w4 3 b A1 m1 c1 b1 p1.sl.1 p1.sl.2 (some ⟨g, 0, none⟩) n2 c V3 f4.pc.sl.1 (q2 : Int)
    rw [HT.out] at hve
    have HD4 := Lib.hid hve
    have HB4 := Lib.hid (HB3.out.trans (hb4.mono HB3.out.size))
    have kt : (T == T) = true := by simp
    clear hve f4 p1 hb4 HD3 HF3
    go_wp2_with fail
    refine HD4.out.mono ?_
    rintro e w5 ⟨rfl, hb5⟩
    have HB5 := Lib.hid (HB4.out.trans (hb5.mono HB4.out.size))
    clear hb5 HD4
    go_wp2
    go_ret
    exact ⟨rfl, HB5.out⟩
  · obtain rfl := hno hR0
    have kR : (R != 0) = true := by simpa using hR0
    have HB2 := Lib.hid (HB1.out.trans (hb2.mono HB1.out.size))
    clear hb2 hown hno
    go_wp2
    go_ret
    exact ⟨rfl, HB2.out⟩
set_option maxRecDepth 100000 in
set_option maxHeartbeats 16000000 in
theorem ps_walk3b (w : World) (hGS : StartsG w) (hGR : RootsG w) (b k : Int) (h0 : -9223372036854775808 ≤ b) (h1 : b ≤ 9223372036854775807) (hc : 65536 < b) (hk : k < 0) (hk1 : -9223372036854775808 ≤ k) (x : BitVec 8)
    (A1 : Option Addr) (m1 c1 : Nat) (b1 : List (BitVec 8)) (s1 : SlV w w.heap.size A1 m1 c1 (b1.map W8)) (z1 : A1 = none → c1 = 0)
    (A2 : Option Addr) (m2 c2 : Nat) (b2 : List (BitVec 8)) (s2 : SlV w w.heap.size A2 m2 c2 (b2.map W8)) (z2 : A2 = none → c2 = 0) :
    Calls Tryd.prog 3 #[.int .i64 b, .slice A1 m1 c1, .slice A2 m2 c2, .int .i64 k, W8 x] w fun e w' => e = .returned (.bool true) ∧ Below w.heap.size w w' := by
  have hbg := begun8_any w hGS hGR
  have HBG := Lib.hid hbg
  have HG := Lib.hid (⟨hGS, hGR⟩ : StartsG w ∧ RootsG w)
  have HP := Lib.hid (⟨Pc.of_sl s1 z1, Pc.of_sl s2 z2⟩ : Pc w w.heap.size (.slice A1 m1 c1) b1 ∧ Pc w w.heap.size (.slice A2 m2 c2) b2)
  have hmx : Tryd.prog.follows .mixedOrders = true := by kernel_rfl
  clear hbg s1 z1 s2 z2 hGS hGR
  obtain ⟨K, hK⟩ : ∃ K, -(k + 1) = K := ⟨_, rfl⟩
  have hK0 : 0 ≤ K := by omega
  have hK1 : K ≤ 9223372036854775807 := by omega
  have HK := Lib.hid (⟨hK, hK0, hK1⟩ : -(k + 1) = K ∧ 0 ≤ K ∧ K ≤ 9223372036854775807)
  clear hK hK0 hK1
  go_enter Tryd.func3, Tryd.ntmps3
  go_wp2_with fail
  refine HBG.out.mono ?_
  rintro e w1 ⟨rfl, hb1⟩
  obtain ⟨q2, t2, hq2, hl2, p2, hs2⟩ := short_pc (HP.out.2.up hb1) 30 (by decide)
  have p1 := HP.out.1.up hb1
  have hG1 : StartsG w1 ∧ RootsG w1 := ⟨HG.out.1.later hb1, HG.out.2.later hb1⟩
  have S2 := Lib.hid hs2
  have P1 := Lib.hid (⟨p1, p2⟩ : Pc w1 w1.heap.size (.slice A1 m1 c1) b1 ∧ Pc w1 w1.heap.size (.slice A2 q2 c2) t2)
  have HG1 := Lib.hid hG1
  have HB1 := Lib.hid hb1
  have HL := Lib.hid (⟨hl2, hq2⟩ : t2.length = q2 ∧ q2 ≤ 30)
  clear hs2 p1 p2 hG1 hb1 HBG HP hl2 hq2 HG
  go_wp2_with fail
  refine S2.out.mono ?_
  rintro e w' ⟨rfl, rfl⟩
  clear S2
  go_wp2_with fail
  have hen := pencpss_two w1 3 HG1.out.1 HG1.out.2 b A1 m1 c1 b1 P1.out.1.sl.1 P1.out.1.sl.2 A2 q2 c2 t2 P1.out.2.sl.1 P1.out.2.sl.2 (by have := HL.out; omega)
  have hpos := peL_pos 3 b b1 t2
  obtain ⟨V, hV⟩ : ∃ l, peL 3 b b1 t2 = l := ⟨_, rfl⟩
  obtain ⟨R, hR⟩ : ∃ r, psR 3 b b1.length t2.length = r := ⟨_, rfl⟩
  rw [hV, hR] at hen hpos
  have HEN := Lib.hid hen
  have HPOS := Lib.hid hpos
  clear hen hV hR hpos
  refine HEN.out.mono ?_
  rintro e w2 ⟨v2, rfl, hown, hno, hb2⟩
  clear HEN
  by_cases hR0 : R = 0
  · subst hR0
    have ho2 := hown rfl
    have hp := HPOS.out rfl
    obtain ⟨n2, hn2⟩ : ∃ m, V.length = m := ⟨_, rfl⟩
    rw [hn2] at ho2 hp
    obtain ⟨g, c, ys, rfl, hg, hr, hyl, hnc, hcm, htk⟩ := own_row2 ho2 hp
    have hcm2 : c ≤ 9223372036854775807 := Nat.le_trans hcm (by decide)
    have kn0 : ¬ n2 = 0 := by omega
    have kn1 : ((n2 : Int) == 0) = false := by simpa using kn0
    have kn2 : (0 : Int) < n2 := by omega
    have kn3 : (n2 : Int) ≤ 9223372036854775807 := by omega
    have hK0 := HK.out.2.1
    have hK1 := HK.out.2.2
    obtain ⟨j, hj⟩ : ∃ j : Nat, K % (n2 : Int) = j := ⟨(K % (n2 : Int)).toNat, by rw [Int.toNat_of_nonneg (Int.emod_nonneg _ (by omega))]⟩
    have hjn : j < n2 := by have := Int.emod_lt_of_pos K kn2; omega
    have hjt : K.tmod (n2 : Int) = j := by rw [Int.tmod_eq_emod_of_nonneg hK0]; exact hj
    have kj1 : (j : Int) < n2 := by omega
    obtain ⟨y, hy⟩ : ∃ y, V[j]? = some y := ⟨_, List.getElem?_eq_getElem (by omega)⟩
    have hyj : ys[j]? = some (W8 y) := by
      have h := congrArg (fun l => l[j]?) htk
      simp only [List.getElem?_take, List.getElem?_map, hy, if_pos hjn] at h
      exact h
    have hc0 := hr.at_ hyj
    have hf0 := hr.frozen j
    have hr2 := hr.set j (W8 (y ^^^ x))
    have hxo := b8_xor y x
    have hst := set_take htk j (y ^^^ x)
    have HR2 := Lib.hid hr2
    have HY := Lib.hid (⟨hg, by rw [List.length_set]; exact hyl, hnc, hcm, hst, by rw [List.length_set]; exact hn2⟩ : w1.heap.size ≤ g ∧ (ys.set j (W8 (y ^^^ x))).length = c ∧ n2 ≤ c ∧ c ≤ maxLen ∧ (ys.set j (W8 (y ^^^ x))).take n2 = (V.set j (y ^^^ x)).map W8 ∧ (V.set j (y ^^^ x)).length = n2)
    have HB2 := Lib.hid (below_setV hb2 hg j (W8 (y ^^^ x)))
    clear hr hr2 hyl hnc hcm htk hst hy hyj hown hno ho2 hp hb2 hn2 hg HPOS
    obtain ⟨w3, e3⟩ : ∃ W, w2.setCell ⟨g, j, none⟩ (W8 (y ^^^ x)) = W := ⟨_, rfl⟩
    have hr3 : RowV 5 w3 g (ys.set j (W8 (y ^^^ x))) := by rw [← e3]; exact HR2.out
    have hb3 : Below w1.heap.size w1 w3 := by rw [← e3]; exact HB2.out
    have ho3 := own_of_row hr3 HY.out.1 HY.out.2.1 HY.out.2.2.1 HY.out.2.2.2.1 HY.out.2.2.2.2.1
    have f3 : FreshV w3 w1.heap.size (.slice (some ⟨g, 0, none⟩) n2 c) (V.set j (y ^^^ x)) := FreshV.of_own ho3
    obtain ⟨V3, hV3⟩ : ∃ l, V.set j (y ^^^ x) = l := ⟨_, rfl⟩
    rw [hV3] at f3
    rw [← HK.out.1] at hj hjt
    have hjm : -((k + 1).tmod (n2 : Int)) = j := by rw [← Int.neg_tmod]; exact hjt
    have p1 := P1.out.1.up hb3
    have hve := pverpss_all w3 3 (HG1.out.1.later hb3) (HG1.out.2.later hb3) b A1 m1 c1 b1 p1.sl.1 p1.sl.2 (some ⟨g, 0, none⟩) n2 c V3 f3.pc.sl.1 (q2 : Int)
    obtain ⟨T, hT⟩ : ∃ r, pvR 3 b b1 V3 (q2 : Int) = r := ⟨_, rfl⟩
    rw [hT] at hve
    have HD3 := Lib.hid hve
    have HF3 := Lib.hid (⟨f3, p1⟩ : FreshV w3 w1.heap.size (.slice (some ⟨g, 0, none⟩) n2 c) V3 ∧ Pc w3 w3.heap.size (.slice A1 m1 c1) b1)
    have HT := Lib.hid hT
    have HB3 := Lib.hid (HB1.out.trans (hb3.mono HB1.out.size))
    have hq2 := HL.out.2
    clear hve f3 p1 hT hb3 ho3 hr3 hV3 HR2 HB2 HY hK0 hK1
    go_wp2_with fail
    refine HD3.out.mono ?_
    rintro e w4 ⟨rfl, hb4⟩
    have f4 := HF3.out.1.up hb4
    have p1 := HF3.out.2.up hb4
    have hve := rverpss_all w4 3 b A1 m1 c1 b1 p1.sl.1 p1.sl.2 (some ⟨g, 0, none⟩) n2 c V3 f4.pc.sl.1 (q2 : Int)
    rw [HT.out] at hve
    have HD4 := Lib.hid hve
    have HB4 := Lib.hid (HB3.out.trans (hb4.mono HB3.out.size))
    have kt : (T == T) = true := by simp
    clear hve f4 p1 hb4 HD3 HF3
    go_wp2_with fail
    refine HD4.out.mono ?_
    rintro e w5 ⟨rfl, hb5⟩
    have HB5 := Lib.hid (HB4.out.trans (hb5.mono HB4.out.size))
    clear hb5 HD4
    go_wp2
    go_ret
    exact ⟨rfl, HB5.out⟩
  · obtain rfl := hno hR0
    have kR : (R != 0) = true := by simpa using hR0
    have HB2 := Lib.hid (HB1.out.trans (hb2.mono HB1.out.size))
    clear hb2 hown hno
    go_wp2
    go_ret
    exact ⟨rfl, HB2.out⟩
set_option maxRecDepth 100000 in
set_option maxHeartbeats 16000000 in
theorem ps_walk2b (w : World) (hGS : StartsG w) (hGR : RootsG w) (bits k : Int) (h0 : 1500 < bits) (h1 : bits ≤ 65536) (hk : k < 0) (hk1 : -9223372036854775808 ≤ k) (x : BitVec 8)
    (A1 : Option Addr) (m1 c1 : Nat) (b1 : List (BitVec 8)) (s1 : SlV w w.heap.size A1 m1 c1 (b1.map W8)) (z1 : A1 = none → c1 = 0)
    (A2 : Option Addr) (m2 c2 : Nat) (b2 : List (BitVec 8)) (s2 : SlV w w.heap.size A2 m2 c2 (b2.map W8)) (z2 : A2 = none → c2 = 0) :
    Calls Tryd.prog 3 #[.int .i64 bits, .slice A1 m1 c1, .slice A2 m2 c2, .int .i64 k, W8 x] w fun e w' => e = .returned (.bool true) ∧ Below w.heap.size w w' := by
  have hbg := begun8_any w hGS hGR
  have HBG := Lib.hid hbg
  have HG := Lib.hid (⟨hGS, hGR⟩ : StartsG w ∧ RootsG w)
  have HP := Lib.hid (⟨Pc.of_sl s1 z1, Pc.of_sl s2 z2⟩ : Pc w w.heap.size (.slice A1 m1 c1) b1 ∧ Pc w w.heap.size (.slice A2 m2 c2) b2)
  have hmx : Tryd.prog.follows .mixedOrders = true := by kernel_rfl
  clear hbg s1 z1 s2 z2 hGS hGR
  obtain ⟨K, hK⟩ : ∃ K, -(k + 1) = K := ⟨_, rfl⟩
  have hK0 : 0 ≤ K := by omega
  have hK1 : K ≤ 9223372036854775807 := by omega
  have HK := Lib.hid (⟨hK, hK0, hK1⟩ : -(k + 1) = K ∧ 0 ≤ K ∧ K ≤ 9223372036854775807)
  clear hK hK0 hK1
  go_enter Tryd.func3, Tryd.ntmps3
  go_wp2_with fail
  refine HBG.out.mono ?_
  rintro e w1 ⟨rfl, hb1⟩
  obtain ⟨q2, t2, hq2, hl2, p2, hs2⟩ := short_pc (HP.out.2.up hb1) 30 (by decide)
  have p1 := HP.out.1.up hb1
  have hG1 : StartsG w1 ∧ RootsG w1 := ⟨HG.out.1.later hb1, HG.out.2.later hb1⟩
  have S2 := Lib.hid hs2
  have P1 := Lib.hid (⟨p1, p2⟩ : Pc w1 w1.heap.size (.slice A1 m1 c1) b1 ∧ Pc w1 w1.heap.size (.slice A2 q2 c2) t2)
  have HG1 := Lib.hid hG1
  have HB1 := Lib.hid hb1
  have HL := Lib.hid (⟨hl2, hq2⟩ : t2.length = q2 ∧ q2 ≤ 30)
  clear hs2 p1 p2 hG1 hb1 HBG HP hl2 hq2 HG
  go_wp2_with fail
  refine S2.out.mono ?_
  rintro e w' ⟨rfl, rfl⟩
  clear S2
  go_wp2_with fail
  generalize bits % 1501 = b
  have hen := pencpss_two w1 3 HG1.out.1 HG1.out.2 b A1 m1 c1 b1 P1.out.1.sl.1 P1.out.1.sl.2 A2 q2 c2 t2 P1.out.2.sl.1 P1.out.2.sl.2 (by have := HL.out; omega)
  have hpos := peL_pos 3 b b1 t2
  obtain ⟨V, hV⟩ : ∃ l, peL 3 b b1 t2 = l := ⟨_, rfl⟩
  obtain ⟨R, hR⟩ : ∃ r, psR 3 b b1.length t2.length = r := ⟨_, rfl⟩
  rw [hV, hR] at hen hpos
  have HEN := Lib.hid hen
  have HPOS := Lib.hid hpos
  clear hen hV hR hpos
  refine HEN.out.mono ?_
  rintro e w2 ⟨v2, rfl, hown, hno, hb2⟩
  clear HEN
  by_cases hR0 : R = 0
  · subst hR0
    have ho2 := hown rfl
    have hp := HPOS.out rfl
    obtain ⟨n2, hn2⟩ : ∃ m, V.length = m := ⟨_, rfl⟩
    rw [hn2] at ho2 hp
    obtain ⟨g, c, ys, rfl, hg, hr, hyl, hnc, hcm, htk⟩ := own_row2 ho2 hp
    have hcm2 : c ≤ 9223372036854775807 := Nat.le_trans hcm (by decide)
    have kn0 : ¬ n2 = 0 := by omega
    have kn1 : ((n2 : Int) == 0) = false := by simpa using kn0
    have kn2 : (0 : Int) < n2 := by omega
    have kn3 : (n2 : Int) ≤ 9223372036854775807 := by omega
    have hK0 := HK.out.2.1
    have hK1 := HK.out.2.2
    obtain ⟨j, hj⟩ : ∃ j : Nat, K % (n2 : Int) = j := ⟨(K % (n2 : Int)).toNat, by rw [Int.toNat_of_nonneg (Int.emod_nonneg _ (by omega))]⟩
    have hjn : j < n2 := by have := Int.emod_lt_of_pos K kn2; omega
    have hjt : K.tmod (n2 : Int) = j := by rw [Int.tmod_eq_emod_of_nonneg hK0]; exact hj
    have kj1 : (j : Int) < n2 := by omega
    obtain ⟨y, hy⟩ : ∃ y, V[j]? = some y := ⟨_, List.getElem?_eq_getElem (by omega)⟩
    have hyj : ys[j]? = some (W8 y) := by
      have h := congrArg (fun l => l[j]?) htk
      simp only [List.getElem?_take, List.getElem?_map, hy, if_pos hjn] at h
      exact h
    have hc0 := hr.at_ hyj
    have hf0 := hr.frozen j
    have hr2 := hr.set j (W8 (y ^^^ x))
    have hxo := b8_xor y x
    have hst := set_take htk j (y ^^^ x)
    have HR2 := Lib.hid hr2
    have HY := Lib.hid (⟨hg, by rw [List.length_set]; exact hyl, hnc, hcm, hst, by rw [List.length_set]; exact hn2⟩ : w1.heap.size ≤ g ∧ (ys.set j (W8 (y ^^^ x))).length = c ∧ n2 ≤ c ∧ c ≤ maxLen ∧ (ys.set j (W8 (y ^^^ x))).take n2 = (V.set j (y ^^^ x)).map W8 ∧ (V.set j (y ^^^ x)).length = n2)
    have HB2 := Lib.hid (below_setV hb2 hg j (W8 (y ^^^ x)))
    clear hr hr2 hyl hnc hcm htk hst hy hyj hown hno ho2 hp hb2 hn2 hg HPOS
    obtain ⟨w3, e3⟩ : ∃ W, w2.setCell ⟨g, j, none⟩ (W8 (y ^^^ x)) = W := ⟨_, rfl⟩
    have hr3 : RowV 5 w3 g (ys.set j (W8 (y ^^^ x))) := by rw [← e3]; exact HR2.out
    have hb3 : Below w1.heap.size w1 w3 := by rw [← e3]; exact HB2.out
    have ho3 := own_of_row hr3 HY.out.1 HY.out.2.1 HY.out.2.2.1 HY.out.2.2.2.1 HY.out.2.2.2.2.1
    have f3 : FreshV w3 w1.heap.size (.slice (some ⟨g, 0, none⟩) n2 c) (V.set j (y ^^^ x)) := FreshV.of_own ho3
    obtain ⟨V3, hV3⟩ : ∃ l, V.set j (y ^^^ x) = l := ⟨_, rfl⟩
    rw [hV3] at f3
    rw [← HK.out.1] at hj hjt
    have hjm : -((k + 1).tmod (n2 : Int)) = j := by rw [← Int.neg_tmod]; exact hjt
    have p1 := P1.out.1.up hb3
    have hve := pverpss_all w3 3 (HG1.out.1.later hb3) (HG1.out.2.later hb3) b A1 m1 c1 b1 p1.sl.1 p1.sl.2 (some ⟨g, 0, none⟩) n2 c V3 f3.pc.sl.1 (q2 : Int)
    obtain ⟨T, hT⟩ : ∃ r, pvR 3 b b1 V3 (q2 : Int) = r := ⟨_, rfl⟩
    rw [hT] at hve
    have HD3 := Lib.hid hve
    have HF3 := Lib.hid (⟨f3, p1⟩ : FreshV w3 w1.heap.size (.slice (some ⟨g, 0, none⟩) n2 c) V3 ∧ Pc w3 w3.heap.size (.slice A1 m1 c1) b1)
    have HT := Lib.hid hT
    have HB3 := Lib.hid (HB1.out.trans (hb3.mono HB1.out.size))
    have hq2 := HL.out.2
    clear hve f3 p1 hT hb3 ho3 hr3 hV3 HR2 HB2 HY hK0 hK1
    go_wp2_with fail
    refine HD3.out.mono ?_
    rintro e w4 ⟨rfl, hb4⟩
    have f4 := HF3.out.1.up hb4
    have p1 := HF3.out.2.up hb4
    have hve := rverpss_all w4 3 b A1 m1 c1 b1 p1.sl.1 p1.sl.2 (some ⟨g, 0, none⟩) n2 c V3 f4.pc.sl.1 (q2 : Int)
    rw [HT.out] at hve
    have HD4 := Lib.hid hve
    have HB4 := Lib.hid (HB3.out.trans (hb4.mono HB3.out.size))
    have kt : (T == T) = true := by simp
    clear hve f4 p1 hb4 HD3 HF3
    go_wp2_with fail
    refine HD4.out.mono ?_
    rintro e w5 ⟨rfl, hb5⟩
    have HB5 := Lib.hid (HB4.out.trans (hb5.mono HB4.out.size))
    clear hb5 HD4
    go_wp2
    go_ret
    exact ⟨rfl, HB5.out⟩
  · obtain rfl := hno hR0
    have kR : (R != 0) = true := by simpa using hR0
    have HB2 := Lib.hid (HB1.out.trans (hb2.mono HB1.out.size))
    clear hb2 hown hno
    go_wp2
    go_ret
    exact ⟨rfl, HB2.out⟩
set_option maxRecDepth 100000 in
set_option maxHeartbeats 16000000 in
theorem ps_walk (w : World) (hGS : StartsG w) (hGR : RootsG w) (bits k : Int) (h0 : -9223372036854775808 ≤ bits) (h1 : bits ≤ 9223372036854775807) (hk : -9223372036854775808 ≤ k) (hk1 : k ≤ 9223372036854775807) (x : BitVec 8)
    (A1 : Option Addr) (m1 c1 : Nat) (b1 : List (BitVec 8)) (s1 : SlV w w.heap.size A1 m1 c1 (b1.map W8)) (z1 : A1 = none → c1 = 0)
    (A2 : Option Addr) (m2 c2 : Nat) (b2 : List (BitVec 8)) (s2 : SlV w w.heap.size A2 m2 c2 (b2.map W8)) (z2 : A2 = none → c2 = 0) :
    Calls Tryd.prog 3 #[.int .i64 bits, .slice A1 m1 c1, .slice A2 m2 c2, .int .i64 k, W8 x] w fun e w' => e = .returned (.bool true) ∧ Below w.heap.size w w' := by
  rcases (by omega : bits ≤ 1500 ∨ (1500 < bits ∧ bits ≤ 65536) ∨ 65536 < bits) with h | ⟨h, h'⟩ | h
  · rcases Int.lt_or_le k 0 with h2 | h2
    · exact ps_walk1b w hGS hGR bits k h0 h1 h h2 hk x A1 m1 c1 b1 s1 z1 A2 m2 c2 b2 s2 z2
    · exact ps_walk1a w hGS hGR bits k h0 h1 h h2 hk1 x A1 m1 c1 b1 s1 z1 A2 m2 c2 b2 s2 z2
  · rcases Int.lt_or_le k 0 with h2 | h2
    · exact ps_walk2b w hGS hGR bits k h h' h2 hk x A1 m1 c1 b1 s1 z1 A2 m2 c2 b2 s2 z2
    · exact ps_walk2a w hGS hGR bits k h h' h2 hk1 x A1 m1 c1 b1 s1 z1 A2 m2 c2 b2 s2 z2
  · rcases Int.lt_or_le k 0 with h2 | h2
    · exact ps_walk3b w hGS hGR bits k h0 h1 h h2 hk x A1 m1 c1 b1 s1 z1 A2 m2 c2 b2 s2 z2
    · exact ps_walk3a w hGS hGR bits k h0 h1 h h2 hk1 x A1 m1 c1 b1 s1 z1 A2 m2 c2 b2 s2 z2
end Go.Proofs.YtnpaidieijlkkabDoor
