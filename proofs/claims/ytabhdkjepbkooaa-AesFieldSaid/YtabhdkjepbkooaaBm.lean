/- The reference's Fill and GHASH. -/
import Derived.Test.YtabhdkjepbkooaaBl
import Derived.Test.YtabhdkjepbkooaaBg
set_option linter.unusedVariables false
set_option linter.unusedSimpArgs false
namespace Go.Proofs.Ytabhdkjepbkooaa
open Go.RowKit

/-- up to a multiple of 16 -/
def padZ16 (n : Nat) : Nat := (16 - n % 16) % 16
def fill16 (bs : List (BitVec 8)) : List (BitVec 8) := bs ++ List.replicate (padZ16 bs.length) 0
theorem fill16_length (bs : List (BitVec 8)) : (fill16 bs).length = 16 * ((bs.length + 15) / 16) := by simp [fill16, padZ16]; omega
theorem elV_congr {a b : List (BitVec 8)} (h : ∀ i, i < 16 → a.getD i 0 = b.getD i 0) : elV a = elV b := by
  apply BitVec.eq_of_getLsbD_eq
  intro i hi
  rw [elV_bit _ _ hi, elV_bit _ _ hi, h _ (by omega)]
theorem elV_fill (bs : List (BitVec 8)) (j : Nat) : elV (pieceK (fill16 bs) 16 j) = elV (pieceK bs 16 j) := by
  refine elV_congr fun i hi => ?_
  unfold pieceK fill16
  rw [List.getD_eq_getElem?_getD, List.getD_eq_getElem?_getD, List.getElem?_take_of_lt hi, List.getElem?_take_of_lt hi, List.getElem?_drop, List.getElem?_drop]
  by_cases h : 16 * j + i < bs.length
  · rw [List.getElem?_append_left h]
  · rw [List.getElem?_append_right (by omega), List.getElem?_replicate, List.getElem?_eq_none (l := bs) (by omega)]
    split <;> rfl
set_option maxRecDepth 100000 in
set_option maxHeartbeats 1600000 in
theorem rfill_any (w : World) (B : Nat) (A : Option Addr) (n c : Nat) (bs : List (BitVec 8)) (hs : SlV w B A n c (bs.map W8)) (hz : A = none → c = 0) (hB : B ≤ w.heap.size) (hn : n ≤ 1000000) :
    Calls Try.prog 40 #[.slice A n c] w fun e w' => ∃ v, e = .returned v ∧ w'.ownsRow w.heap.size 5 1 v (fill16 bs).length ((fill16 bs).map W8) ∧ Below w.heap.size w w' := by
  have hl : bs.length = n := by simpa using hs.len.symm
  obtain ⟨z, hwz⟩ : ∃ z, w.heap.size = z := ⟨_, rfl⟩
  have own0 : w.ownsRow z 5 1 (.slice none 0 0) 0 [] := ⟨rfl, .inl ⟨rfl, rfl⟩⟩
  obtain ⟨R, hR⟩ : ∃ R, padZ16 n = R := ⟨_, rfl⟩
  have hRd : R < 16 ∧ (n + R) % 16 = 0 ∧ ∀ j, j < R → (n + j) % 16 ≠ 0 := by
    unfold padZ16 at hR
    refine ⟨by omega, by omega, fun j hj => by omega⟩
  have hfl : (fill16 bs).length = n + R := by simp [fill16, hl, hR]
  have hfb : fill16 bs = bs ++ List.replicate R 0 := by rw [fill16, hl, hR]
  rw [hfl, hfb]
  have HS := Lib.hid hs
  have HL := Lib.hid hl
  have HWZ := Lib.hid hwz
  have HRD := Lib.hid hRd
  have kn : (n : Int) ≤ 1000000 := by omega
  clear hl hR hRd hfl hfb hs
  rw [hwz]
  go_enter Try.func40, Try.ntmps40
  go_wp2_with (at_builtin; refine wlv_append Try.elem8 rfl _ _ rfl z _ 0 [] rfl own0 A n c (bs.map W8) rfl hz B HS.out (ones8 bs) (by omega) (by omega) ?_; intro v1 w1 hown1 hgr1; rw [Nat.zero_add, List.nil_append] at hown1; obtain ⟨A1, c1, rfl, _, _, _⟩ := SlV.of_own hown1)
  have hb1 : Below z w w1 := (Below.refl z w).grown hgr1 (by omega) (fun r e => by cases e)
  have HO1 := Lib.hid hown1
  have HB1 := Lib.hid hb1
  clear hown1 hgr1 hb1 own0 hwz
  go_loopw [3] (fun m wr => ∃ (j l c' : Nat) (A' : Option Addr), j + n = l ∧ j ≤ R ∧ m = .slice A' l c' ∧ Hid (wr.ownsRow z 5 1 (.slice A' l c') l ((bs ++ List.replicate j 0).map W8)) ∧ Hid (Below z w wr)) (fun m _ => match m with | .slice _ r _ => n + R - r | _ => 0)
  case atStart => exact ⟨0, n, c1, A1, by omega, Nat.zero_le _, rfl, by simpa using HO1, HB1⟩
  case round =>
    clear HO1 HB1
    obtain ⟨j, l, c', A', hjl, hj, rfl, HO, HB⟩ := hrel
    have hr16 := HRD.out.1
    have kl : (l : Int) ≤ 1000016 := by omega
    have kl0 : (0 : Int) ≤ l := by omega
    by_cases hjR : j = R
    · subst hjR
      have hm : (l : Int) % 16 = 0 := by have := HRD.out.2.1; omega
      have hll : n + j = l := by omega
      have HLL := Lib.hid hll
      clear hjl hll hj
      go_wp2
      go_ret
      rw [HLL.out]
      exact ⟨_, rfl, HO.out, HB.out⟩
    · have hm : ¬ (l : Int) % 16 = 0 := by have := HRD.out.2.2 j (by omega); omega
      have hm2 : ((l : Int) % 16 == 0) = false := by simp; omega
      obtain ⟨V6, e6, r6, b6, z6⟩ := newV wr 5 [W8 0] #[.int .u8 0] rfl
      have hown6 := own_later HO.out b6
      have hsl6 := r6.sl (by simp)
      have hlist : (bs ++ List.replicate j 0).map W8 ++ [W8 0] = (bs ++ List.replicate (j + 1) 0).map W8 := by
        rw [List.replicate_succ']; simp
      have HLI := Lib.hid hlist
      have HO6 := Lib.hid hown6
      have HS6 := Lib.hid hsl6
      have hzw : z ≤ wr.heap.size := by have h1 := HB.out.size; have h2 := HWZ.out; omega
      have HB6 := Lib.hid (HB.out.trans (b6.mono hzw))
      have hzV : z ≤ V6.heap.size := by omega
      have kl6 : l + 1 ≤ 17592186044416 := by omega
      have hll : j + 1 + n = l + 1 := by omega
      have HLL := Lib.hid hll
      have hlR : l < n + R := by omega
      clear hlist hown6 hsl6 r6 b6 hjl hll HO HB
      go_wp2_with (at_builtin; refine wlv_append Try.elem8 rfl _ _ rfl z _ l _ rfl HO6.out (some ⟨wr.heap.size, 0, none⟩) 1 1 [W8 0] rfl (by intro h; cases h) _ HS6.out (ones8 [0]) kl6 hzV ?_; intro v7 w7 hown7 hgr7; obtain ⟨A7, c7, rfl, _, _, _⟩ := SlV.of_own hown7; have HO7 := Lib.hid hown7; have HG7 := Lib.hid hgr7; clear hown7 hgr7 e6)
      go_roundw
      case rel => exact ⟨j + 1, l + 1, c7, A7, HLL.out, by omega, rfl, Lib.hid (by rw [← HLI.out]; exact HO7.out), Lib.hid (HB6.out.grown HG7.out hzV (fun r e => (HO6.out.lt r e).1))⟩
      case measure => show n + R - (l + 1) < n + R - l; omega
set_option maxRecDepth 100000 in
set_option maxHeartbeats 4000000 in
theorem rghash_any (w : World) (B b1 o1 c1 : Nat) (h : List (BitVec 8)) (hh : SlV w B (some ⟨b1, o1, none⟩) 16 c1 (h.map W8)) (A : Option Addr) (n c : Nat) (bs : List (BitVec 8)) (hs : SlV w B A n c (bs.map W8)) (hz : A = none → c = 0) (hn9 : n ≤ 1000000) (hB : B ≤ w.heap.size) :
    Calls Try.prog 17 #[.slice (some ⟨b1, o1, none⟩) 16 c1, .slice A n c] w fun e w' => ∃ g, e = .returned (.slice (some ⟨g, 0, none⟩) 16 16) ∧ w.heap.size ≤ g ∧ RowV 5 w' g ((byV (ghA (elV h) bs)).map W8) ∧ Below w.heap.size w w' := by
  have hl : bs.length = n := by simpa using hs.len.symm
  obtain ⟨z, hwz⟩ : ∃ z, w.heap.size = z := ⟨_, rfl⟩
  rw [hwz] at hB
  obtain ⟨K, hK⟩ : ∃ K, elV h = K := ⟨_, rfl⟩
  obtain ⟨J, hJ⟩ : ∃ J, (bs.length + 15) / 16 = J := ⟨_, rfl⟩
  have hfl : (fill16 bs).length = 16 * J := by rw [fill16_length, hJ]
  have hgA : ghA K bs = ghN K bs J := by rw [ghA, hJ]
  rw [hK, hgA]
  have hJn : 16 * J ≤ 1000016 := by omega
  have HH := Lib.hid hh
  have HS := Lib.hid hs
  have HWZ := Lib.hid hwz
  have HK := Lib.hid hK
  have HFL := Lib.hid hfl
  have hzero : (List.replicate 16 (0 : BitVec 8)) = byV (ghN K bs 0) := by show _ = byV 0; decide
  have HZR := Lib.hid hzero
  clear hh hs hl hK hJ hfl hgA hzero
  go_enter Try.func17, Try.ntmps17
  go_wp2_with (at_make; refine wlv_make Try.elem8 rfl _ rfl _ 16 rfl rfl (by decide) ?_; intro w1 hr1 hb1 hz1; rw [hwz] at hr1 hb1 hz1)
  have hfi := rfill_any w1 B A n c bs (HS.out.below (hb1.mono hB)) hz (by omega) hn9
  obtain ⟨z1, hz1'⟩ : ∃ x, w1.heap.size = x := ⟨_, rfl⟩
  rw [hz1'] at hfi
  have HFI := Lib.hid hfi
  have HZ1 := Lib.hid (show w1.heap.size = z1 ∧ z + 1 = z1 from ⟨hz1', by omega⟩)
  have HR1 := Lib.hid hr1
  have HB1 := Lib.hid hb1
  clear hfi hr1 hb1 hz1 hz1' hwz
  go_wp2_with fail
  refine HFI.out.mono ?_
  rintro e w2 ⟨v2, rfl, hown2, hb2⟩
  rw [HFL.out] at hown2
  obtain ⟨A2, c2, rfl, hsl2, hlow2, hnil2⟩ := SlV.of_own' hown2
  obtain ⟨N, hN⟩ : ∃ N, 16 * J = N := ⟨_, rfl⟩
  have hb12 : Below w1.heap.size w1 w2 := by rw [HZ1.out.1]; exact hb2
  have HR2 := Lib.hid (show RowV 5 w2 z ((byV (ghN K bs 0)).map W8) by
    rw [← HZR.out, List.map_replicate]; exact HR1.out.later hb12)
  have HB2 := Lib.hid (HB1.out.trans (hb2.mono (by have := HZ1.out.2; omega)))
  have HSL2 := Lib.hid hsl2
  have HLOW := Lib.hid hlow2
  have hcap2 := hsl2.cap
  have hmax2 := hsl2.max
  clear hown2 hb2 hb12 hsl2 hlow2 HFI
  rw [hN] at hcap2 HSL2 ⊢
  have kc2 : (N : Int) ≤ c2 := by omega
  have kc3 : (c2 : Int) ≤ 9223372036854775807 := by omega
  have HN := Lib.hid hN
  clear hN
  go_wp2
  go_loopw [5, 6] (fun yv mv W => ∃ (j gy l cm : Nat) (Am : Option Addr), j ≤ J ∧ yv = .slice (some ⟨gy, 0, none⟩) 16 16 ∧ z ≤ gy ∧ mv = .slice Am l cm ∧ l + 16 * j = N ∧ l ≤ 1000016 ∧ l ≤ cm ∧ cm ≤ 9223372036854775807 ∧ Hid (RowV 5 W gy ((byV (ghN K bs j)).map W8)) ∧ Hid (Below z w W) ∧ Hid (Below w2.heap.size w2 W) ∧ Hid (SlV w2 w2.heap.size Am l cm (((fill16 bs).drop (16 * j)).map W8))) (fun _ m _ => match m with | .slice _ r _ => r | _ => 0)
  case atStart => exact ⟨0, z, N, c2, A2, Nat.zero_le _, rfl, Nat.le_refl _, rfl, by omega, by have := HN.out; omega, hcap2, hmax2, HR2, HB2, Lib.hid (Below.refl _ _), by simpa using HSL2⟩
  case round =>
    clear HR2 HB2 HSL2 hcap2 hmax2 kc2 kc3 hnil2
    obtain ⟨j, gy, l, cm, Am, hj, rfl, hgy, rfl, hlj, hl9, hlc, hcm, HR, HB, HBW, HSM⟩ := hrel
    have kl9 : (l : Int) ≤ 1000016 := by omega
    have klc : (l : Int) ≤ cm := by omega
    have kcm : (cm : Int) ≤ 9223372036854775807 := by omega
    by_cases hl0 : l = 0
    · have hjJ : j = J := by have := HN.out; omega
      subst hjJ
      subst hl0
      clear hlj
      go_wp2
      go_ret
      rw [HWZ.out]
      exact ⟨gy, rfl, hgy, HR.out, HB.out⟩
    · have hl16 : 16 ≤ l := by have := HN.out; omega
      have kl16 : (16 : Int) ≤ l := by omega
      have kl0 : (0 : Int) < l := by omega
      have kcm16 : (16 : Int) ≤ cm := by omega
      have hjJ : j < J := by have := HN.out; omega
      obtain ⟨bm, om, _, rfl, _, _, _⟩ := HSM.out.at_ (k := 0) (by omega)
      have hnx := HSM.out.drop (k := 16) hl16
      rw [← List.map_drop, List.drop_drop, show 16 * j + 16 = 16 * (j + 1) by omega] at hnx
      have hpc : SlV w2 w2.heap.size (some ⟨bm, om, none⟩) 16 cm ((pieceK (fill16 bs) 16 j).map W8) := by
        have h1 := HSM.out.take (k := 16) hl16
        rw [← List.map_take] at h1
        exact h1
      have hpl : (pieceK (fill16 bs) 16 j).length = 16 := by unfold pieceK; simp [HFL.out]; have := HN.out; omega
      have hgl := HR.out.lt
      have hsy := (show RowV 5 wr gy ((byV (ghN K bs j)).map W8) from HR.out).sl (by rw [List.length_map, byV_length]; decide)
      rw [List.length_map, byV_length] at hsy
      have hpcw : SlV wr wr.heap.size (some ⟨bm, om, none⟩) 16 cm ((pieceK (fill16 bs) 16 j).map W8) := hpc.later HBW.out (Nat.le_refl _)
      have hxor := rxor_any wr wr.heap.size _ 16 16 _ hsy _ 16 cm _ hpcw (Nat.le_refl _) (Nat.le_refl _) (by decide)
      rw [xorL_add _ _ (byV_length _) hpl] at hxor
      obtain ⟨X, hX⟩ : ∃ X, addV (byV (ghN K bs j)) (pieceK (fill16 bs) 16 j) = X := ⟨_, rfl⟩
      have hXl : X.length = 16 := by rw [← hX]; exact addV_length _ _
      have hXe : elV X = ghN K bs j ^^^ elV (pieceK bs 16 j) := by rw [← hX, elV_xor _ _ (byV_length _) hpl, elV_byV, elV_fill]
      rw [hX] at hxor
      obtain ⟨g3, hg3⟩ : ∃ x, wr.heap.size = x := ⟨_, rfl⟩
      rw [hg3] at hxor hgl
      have hzg3 : z ≤ g3 := by have h1 := HB.out.size; have h2 := HWZ.out; omega
      have HXOR := Lib.hid hxor
      have HG3 := Lib.hid hg3
      have HX := Lib.hid (And.intro hXl hXe)
      have hnx' : SlV w2 w2.heap.size (if cm = 16 then some ⟨bm, om, none⟩ else some ⟨bm, om + 16, none⟩) (l - 16) (cm - 16) (((fill16 bs).drop (16 * (j + 1))).map W8) := by
        have hle := hnx.len
        split
        · have h0 : l - 16 = 0 := by omega
          rw [h0] at hle ⊢
          rw [List.eq_nil_of_length_eq_zero hle.symm]
          exact SlV.nil _ _ _ (by omega)
        · exact hnx
      have HNX := Lib.hid hnx'
      clear hnx'
      clear hxor hg3 hX hXl hXe hpcw hsy hpl hpc hnx hgl
      go_wp2_with fail
      refine HXOR.out.mono ?_
      rintro e w3 ⟨rfl, hr3, hb3⟩
      have hb3' : Below wr.heap.size wr w3 := by rw [HG3.out]; exact hb3
      have hB3 : Below z w w3 := HB.out.trans (hb3.mono hzg3)
      have hsx := hr3.sl (by rw [List.length_map, HX.out.1]; decide)
      rw [List.length_map, HX.out.1] at hsx
      have hh3 : SlV w3 w3.heap.size (some ⟨b1, o1, none⟩) 16 c1 (h.map W8) := (HH.out.below (hB3.mono hB)).more (by have h1 := hB3.size; have h2 := HWZ.out; omega)
      have htm := rtimes_any w3 w3.heap.size g3 0 16 b1 o1 c1 X h hsx hh3 (Nat.le_refl _)
      rw [HX.out.2, HK.out, show timesV (ghN K bs j ^^^ elV (pieceK bs 16 j)) K = ghN K bs (j + 1) from rfl] at htm
      have HTM := Lib.hid htm
      have HB3 := Lib.hid hB3
      have HBW3 := Lib.hid (HBW.out.trans (hb3'.mono HBW.out.size))
      have hz3 : z ≤ w3.heap.size := by have h1 := hB3.size; have h2 := HWZ.out; omega
      clear htm hsx hh3 hr3 hb3 hb3' hB3 HXOR
      go_wp2_with fail
      refine HTM.out.mono ?_
      rintro e w4 ⟨g4, rfl, hg4, hr4, hb4⟩
      have HR4 := Lib.hid hr4
      have HB4 := Lib.hid (HB3.out.trans (hb4.mono hz3))
      have HBW4 := Lib.hid (HBW3.out.trans (hb4.mono HBW3.out.size))
      have hzg4 : z ≤ g4 := by omega
      clear hr4 hb4 HTM
      have hlt : l - 16 < l := by omega
      have hlj2 : l - 16 + 16 * (j + 1) = N := by omega
      have hlc2 : l - 16 ≤ cm - 16 := by omega
      have hcm2 : cm - 16 ≤ 9223372036854775807 := by omega
      clear hlj
      go_wp2
      go_roundw
      case rel => exact ⟨j + 1, g4, l - 16, cm - 16, _, by omega, rfl, hzg4, rfl, hlj2, by omega, hlc2, hcm2, HR4, HB4, HBW4, HNX⟩
      case measure => exact hlt
end Go.Proofs.Ytabhdkjepbkooaa
