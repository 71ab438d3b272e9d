/- Parts of one proof, joined: PdL, PdM, PdE, PdF, PdG, PdN, PdO, PdP, PdQ, Tabs3, Tabs8. -/
import Derived.Test.YtnpaidieijlkkaaDoorPileJ9
import Derived.Test.YtnpaidieijlkkaaDoorPileJ3
import Derived.OwnWalk
import Derived.Test.YtnpaidieijlkkaaDoorPileJ8
import Derived.Lib.LaidTab
import Derived.Stop.LaidErr

/- pad: EncPSS. -/
set_option linter.unusedVariables false
set_option linter.unusedSimpArgs false
namespace Go.Proofs.YtnpaidieijlkkaaDoor
open Go.RowKit Go.Shelf

def psB (k bits : Int) (n : Nat) : Bool := decide (okB k n = true ∧ 1 ≤ bits ∧ bits ≤ 65536)
set_option maxRecDepth 100000 in
theorem pencodable_any (w : World) (k bits : Int) (A : Option Addr) (n c : Nat) :
    Calls Tryd.prog 62 #[.int .i64 k, .int .i64 bits, .slice A n c] w fun e w' => e = .returned (.bool (psB k bits n)) ∧ w = w' := by
  have hi := pishash_any w k A n c
  cases hb : okB k n with
  | false =>
    rw [hb] at hi
    have HI := Lib.hid hi
    have e : psB k bits n = false := by rw [psB, hb]; exact decide_eq_false (fun h => by cases h.1)
    rw [e]
    clear hi hb e
    go_enter Tryd.func62, Tryd.ntmps62
    go_wp2_with fail
    refine HI.out.mono ?_
    rintro e w' ⟨rfl, rfl⟩
    go_wp2
    go_ret
    exact ⟨rfl, rfl⟩
  | true =>
    rw [hb] at hi
    have HI := Lib.hid hi
    by_cases h1 : 1 ≤ bits
    · by_cases h2 : bits ≤ 65536
      · have e : psB k bits n = true := by rw [psB, hb]; exact decide_eq_true ⟨rfl, h1, h2⟩
        rw [e]
        clear hi hb e
        go_enter Tryd.func62, Tryd.ntmps62
        go_wp2_with fail
        refine HI.out.mono ?_
        rintro e w' ⟨rfl, rfl⟩
        go_wp2
        go_ret
        exact ⟨by first | rfl | simp [h1, h2], rfl⟩
      · have e : psB k bits n = false := by rw [psB, hb]; exact decide_eq_false (fun h => h2 h.2.2)
        rw [e]
        clear hi hb e
        go_enter Tryd.func62, Tryd.ntmps62
        go_wp2_with fail
        refine HI.out.mono ?_
        rintro e w' ⟨rfl, rfl⟩
        go_wp2
        go_ret
        exact ⟨by first | rfl | simp [h1, h2], rfl⟩
    · have e : psB k bits n = false := by rw [psB, hb]; exact decide_eq_false (fun h => h1 h.2.1)
      rw [e]
      clear hi hb e
      go_enter Tryd.func62, Tryd.ntmps62
      go_wp2_with fail
      refine HI.out.mono ?_
      rintro e w' ⟨rfl, rfl⟩
      go_wp2
      go_ret
      exact ⟨by first | rfl | simp [h1], rfl⟩
theorem pbytesof_any (w : World) (bits N : Nat) (h1 : 1 ≤ bits) (h2 : bits ≤ 65536) (hN : (bits + 7) / 8 = N) :
    Calls Tryd.prog 63 #[.int .i64 (bits : Int)] w fun e w' => e = .returned (.int .i64 (N : Int)) ∧ w = w' := by
  have k1 : (1 : Int) ≤ bits := by omega
  have k2 : (bits : Int) ≤ 65536 := by omega
  have hd : ((bits : Int) + 7) / 8 = (N : Int) := by omega
  clear hN
  go_enter Tryd.func63, Tryd.ntmps63
  go_wp2
  go_ret
  refine ⟨?_, rfl⟩
  show Ending.returned (.int .i64 (((bits : Int) + 7) / 8)) = _
  rw [hd]
def headAnd (s : Nat) : List (BitVec 8) → List (BitVec 8)
  | [] => []
  | x :: l => (x &&& ((0xff : BitVec 8) >>> s)) :: l
theorem headAnd_length (s : Nat) (l : List (BitVec 8)) : (headAnd s l).length = l.length := by cases l <;> rfl
def pssH (k : Int) (hash salt : List (BitVec 8)) : List (BitVec 8) := sumK k (List.replicate 8 0 ++ (hash ++ salt))
def pssBlk (Z : Nat) (salt : List (BitVec 8)) : List (BitVec 8) := List.replicate Z 0 ++ ([1] ++ salt)
def pssL (k : Int) (Z s : Nat) (hash salt : List (BitVec 8)) : List (BitVec 8) := headAnd s (maskK k (pssBlk Z salt) (pssH k hash salt)) ++ (pssH k hash salt ++ [0xbc])
set_option maxRecDepth 100000 in
theorem pencpss_no1 (w : World) (k bits : Int) (A : Option Addr) (n c : Nat) (v : Value) (h : psB k bits n = false) :
    Calls Tryd.prog 31 #[.int .i64 k, .int .i64 bits, .slice A n c, v] w fun e w' => e = .returned (.tuple #[.slice none 0 0, .int .i64 7]) ∧ w = w' := by
  have hi := pencodable_any w k bits A n c
  rw [h] at hi
  have HI := Lib.hid hi
  clear hi h
  go_enter Tryd.func31, Tryd.ntmps31
  go_wp2_with fail
  refine HI.out.mono ?_
  rintro e w' ⟨rfl, rfl⟩
  go_wp2
  go_ret2
  exact ⟨rfl, rfl⟩
set_option maxRecDepth 100000 in
theorem pencpss_no2 (w : World) (k : Int) (bits N : Nat) (A : Option Addr) (n c : Nat) (A2 : Option Addr) (n2 c2 : Nat) (h : psB k (bits : Int) n = true) (hN : (bits + 7) / 8 = N) (hn2 : n2 ≤ 1000000) (hsm : N < n + n2 + 2) :
    Calls Tryd.prog 31 #[.int .i64 k, .int .i64 (bits : Int), .slice A n c, .slice A2 n2 c2] w fun e w' => e = .returned (.tuple #[.slice none 0 0, .int .i64 33]) ∧ w = w' := by
  have hi := pencodable_any w k (bits : Int) A n c
  rw [h] at hi
  obtain ⟨hok, hb1, hb2⟩ := of_decide_eq_true h
  obtain ⟨hk, hn⟩ := okB_kind hok
  have hle := szN_le hk
  have hbo := pbytesof_any w bits N (by omega) (by omega) hN
  have k1 : (n : Int) ≤ 64 := by omega
  have k2 : (n2 : Int) ≤ 1000000 := by omega
  have k3 : (N : Int) ≤ 8192 := by omega
  have k4 : (N : Int) - n - n2 - 2 < 0 := by omega
  have HI := Lib.hid hi
  have HBO := Lib.hid hbo
  clear hi hbo h hok hk hn hle hN hsm hn2
  go_enter Tryd.func31, Tryd.ntmps31
  go_wp2_with fail
  refine HI.out.mono ?_
  rintro e w' ⟨rfl, rfl⟩
  go_wp2_with fail
  refine HBO.out.mono ?_
  rintro e w' ⟨rfl, rfl⟩
  go_wp2
  go_ret2
  exact ⟨rfl, rfl⟩
theorem b8_and (x y : BitVec 8) : bits .and .u8 (i8 x) (i8 y) = i8 (x &&& y) := by
  unfold i8; rw [u8_and_nat _ _ x.isLt y.isLt, BitVec.toNat_and]
theorem psh8 (s : Nat) (h : s ≤ 7) (V : World) : Sem.run Tryd.prog (Op.shift .shr .u8 255 .i64 (s : Int)) V = .ok (W8 ((0xff : BitVec 8) >>> s)) V := by
  rcases (by omega : s = 0 ∨ s = 1 ∨ s = 2 ∨ s = 3 ∨ s = 4 ∨ s = 5 ∨ s = 6 ∨ s = 7) with rfl | rfl | rfl | rfl | rfl | rfl | rfl | rfl <;> rfl
theorem psh8' (s : Nat) (h : s ≤ 7) : (255 : Int) / 2 ^ s = i8 ((0xff : BitVec 8) >>> s) := by
  rcases (by omega : s = 0 ∨ s = 1 ∨ s = 2 ∨ s = 3 ∨ s = 4 ∨ s = 5 ∨ s = 6 ∨ s = 7) with rfl | rfl | rfl | rfl | rfl | rfl | rfl | rfl <;> rfl
set_option maxRecDepth 100000 in
set_option maxHeartbeats 4000000 in
theorem pencpss_ok (w : World) (k : Int) (hGS : StartsG w) (hGR : RootsG w) (bits N : Nat) (hN : (bits + 7) / 8 = N) (B : Nat) (A1 : Option Addr) (n1 c1 : Nat) (hash : List (BitVec 8)) (h1 : SlV w B A1 n1 c1 (hash.map W8)) (z1 : A1 = none → c1 = 0) (h : psB k (bits : Int) n1 = true)
    (A2 : Option Addr) (n2 c2 : Nat) (salt : List (BitVec 8)) (h2 : SlV w B A2 n2 c2 (salt.map W8)) (z2 : A2 = none → c2 = 0) (hB : B ≤ w.heap.size) (Z : Nat) (hZ : n1 + n2 + 2 + Z = N) :
    Calls Tryd.prog 31 #[.int .i64 k, .int .i64 (bits : Int), .slice A1 n1 c1, .slice A2 n2 c2] w fun e w' => ∃ v, e = .returned (.tuple #[v, .int .i64 0]) ∧ FreshV w' w.heap.size v (pssL k Z (8 * N - bits) hash salt) ∧ Below w.heap.size w w' := by
  have hi := pencodable_any w k (bits : Int) A1 n1 c1
  rw [h] at hi
  obtain ⟨hok, hb1, hb2⟩ := of_decide_eq_true h
  obtain ⟨hk, hn⟩ := okB_kind hok
  have hle := szN_le hk
  have hbo : ∀ V : World, Calls Tryd.prog 63 #[.int .i64 (bits : Int)] V fun e w' => e = .returned (.int .i64 (N : Int)) ∧ V = w' := fun V => pbytesof_any V bits N (by omega) (by omega) hN
  have k1 : (n1 : Int) ≤ 64 := by omega
  have k2 : (n2 : Int) ≤ 8192 := by omega
  have k3 : (N : Int) ≤ 8192 := by omega
  have k4 : (N : Int) - n1 - n2 - 2 = (Z : Int) := by omega
  have k5 : (Z : Int) ≤ 8192 := by omega
  have hl1 : hash.length = n1 := by simpa using h1.len.symm
  have hl2 : salt.length = n2 := by simpa using h2.len.symm
  obtain ⟨s, hs⟩ : ∃ s, 8 * N - bits = s := ⟨_, rfl⟩
  have k6 : 8 * (N : Int) - (bits : Int) = (s : Int) := by omega
  have k7 : (s : Int) ≤ 7 := by omega
  rw [hs]
  have HI := Lib.hid hi
  have HBO := Lib.hid hbo
  have HG := Lib.hid (⟨hGS, hGR⟩ : StartsG w ∧ RootsG w)
  have P1 := Lib.hid ((Pc.of_sl h1 z1).more hB)
  have P2 := Lib.hid ((Pc.of_sl h2 z2).more hB)
  have HL := Lib.hid (⟨hl1, hl2⟩ : hash.length = n1 ∧ salt.length = n2)
  have HN := Lib.hid (⟨hk, hn, hZ, hle.1, hle.2.2, by omega⟩ : KindOk k ∧ n1 = szN k ∧ n1 + n2 + 2 + Z = N ∧ 20 ≤ szN k ∧ szN k ≤ 64 ∧ N ≤ 8192)
  clear hi hbo h hok hk hn hle hN hZ hs h1 h2 z1 z2 hB hGS hGR hl1 hl2
  go_enter Tryd.func31, Tryd.ntmps31
  go_wp2_with fail
  refine HI.out.mono ?_
  rintro e w' ⟨rfl, rfl⟩
  go_wp2_with fail
  refine (HBO.out _).mono ?_
  rintro e w' ⟨rfl, rfl⟩
  have k8 : ¬ (N : Int) - n1 - n2 - 2 < 0 := by omega
  clear HI
  go_wp2_with (at_make; refine wlv_make Tryd.elem8 rfl _ rfl _ 8 rfl rfl (by omega) ?_; intro w1 hr1 hb1 hz1; clear hz1)
  have hz8 : FreshV w1 w.heap.size (.slice (some ⟨w.heap.size, 0, none⟩) 8 8) (List.replicate 8 0) := FreshV.row_ (by rw [List.map_replicate]; exact hr1) (Nat.le_refl _) (by simp) (by decide)
  have hof := ofA w1 k (HG.out.1.later hb1) (HG.out.2.later hb1) [.slice (some ⟨w.heap.size, 0, none⟩) 8 8, .slice A1 n1 c1, .slice A2 n2 c2] #[.slice (some ⟨w.heap.size, 0, none⟩) 8 8, .slice A1 n1 c1, .slice A2 n2 c2] rfl [List.replicate 8 0, hash, salt] ⟨hz8.pc, P1.out.up hb1, P2.out.up hb1, trivial⟩ 3 rfl (by decide) (by have := HL.out; have := HN.out; simp; omega)
  rw [show ([List.replicate 8 0, hash, salt] : List (List (BitVec 8))).flatten = List.replicate 8 0 ++ (hash ++ salt) by simp] at hof
  have HOF := Lib.hid hof
  have HB1 := Lib.hid hb1
  clear hof hr1 hb1 hz8
  go_wp2_with fail
  refine HOF.out.mono ?_
  rintro e w2 ⟨v2, rfl, hf2, hb2⟩
  obtain ⟨Ah, nh, ch, rfl⟩ := hf2.form
  have hnh : nh = n1 := by rw [hf2.len_, sumK_len HN.out.1, HN.out.2.1]
  obtain ⟨H, hH⟩ : ∃ l, sumK k (List.replicate 8 0 ++ (hash ++ salt)) = l := ⟨_, rfl⟩
  rw [hH] at hf2
  have hb02 : Below w.heap.size w w2 := HB1.out.trans (hb2.mono HB1.out.size)
  have HF2 := Lib.hid hf2
  have HH := Lib.hid hH
  have HB2 := Lib.hid hb02
  have HNH := Lib.hid hnh
  clear hf2 hH hb02 hb2 hnh HOF HB1
  go_wp2_with (at_make; refine wlv_make Tryd.elem8 rfl _ rfl _ Z rfl rfl (by omega) ?_; intro w3 hr3 hb3 hz3; clear hz3; obtain ⟨W4, e4⟩ : ∃ W, w3.alloc (.cells #[.int .u8 1] 5) = W := ⟨_, rfl⟩)
  have hz3 : FreshV w3 w2.heap.size (.slice (some ⟨w2.heap.size, 0, none⟩) Z Z) (List.replicate Z 0) := FreshV.row_ (by rw [List.map_replicate]; exact hr3) (Nat.le_refl _) (by simp) (by omega)
  obtain ⟨hf4, hb4⟩ := freshA w3 [1] #[.int .u8 1] rfl 1 rfl (by decide)
  rw [e4] at hf4 hb4
  have hb24 : Below w2.heap.size w2 W4 := hb3.trans (hb4.mono hb3.size)
  have hb04 : Below w.heap.size w W4 := HB2.out.trans (hb24.mono HB2.out.size)
  have hcc := concatA W4 [.slice (some ⟨w2.heap.size, 0, none⟩) Z Z, .slice (some ⟨w3.heap.size, 0, none⟩) 1 1, .slice A2 n2 c2] #[.slice (some ⟨w2.heap.size, 0, none⟩) Z Z, .slice (some ⟨w3.heap.size, 0, none⟩) 1 1, .slice A2 n2 c2] rfl [List.replicate Z 0, [1], salt] ⟨(hz3.up hb4).pc, hf4.pc, P2.out.up hb04, trivial⟩ 3 rfl (by decide) (by have := HL.out; have := HN.out; simp; omega)
  have hblk : [List.replicate Z 0, [1], salt].flatten = pssBlk Z salt := by simp [pssBlk]
  have hbl : (pssBlk Z salt).length = Z + 1 + n2 := by have := HL.out.2; simp [pssBlk]; omega
  rw [hblk] at hcc
  obtain ⟨blk, hbk⟩ : ∃ l, pssBlk Z salt = l := ⟨_, rfl⟩
  rw [hbk] at hcc hbl
  have HCC := Lib.hid hcc
  have HBK := Lib.hid (⟨hbk, hbl⟩ : pssBlk Z salt = blk ∧ blk.length = Z + 1 + n2)
  have HB4 := Lib.hid hb04
  have HF4 := Lib.hid (HF2.out.up hb24)
  clear hcc hblk hbl hbk hf4 hb4 hb24 hb04 hz3 hr3 hb3 HF2 HB2
  go_wp2_with fail
  refine HCC.out.mono ?_
  rintro e w5 ⟨v5, rfl, hf5, hb5⟩
  obtain ⟨Ab, nb, cb, rfl⟩ := hf5.form
  have hnb : nb = Z + 1 + n2 := by rw [hf5.len_, HBK.out.2]
  have hb05 : Below w.heap.size w w5 := HB4.out.trans (hb5.mono HB4.out.size)
  obtain ⟨sB, zB⟩ := hf5.pc.sl
  obtain ⟨sH, zH⟩ := (HF4.out.up hb5).pc.sl
  have hma := pmasked_any w5 k HN.out.1 (HG.out.1.later hb05) (HG.out.2.later hb05) w5.heap.size Ab nb cb blk sB Ah nh ch H sH zH (Nat.le_refl _) (by omega) (by have := HN.out; omega) (by have := HN.out; have := HNH.out; omega)
  have hmk : xorL blk (mgfL k H nb) = maskK k blk H := by rw [maskK, HBK.out.2, hnb]
  rw [hmk] at hma
  have HMA := Lib.hid hma
  have HB5 := Lib.hid hb05
  have HF5 := Lib.hid (HF4.out.up hb5)
  have HNB := Lib.hid hnb
  clear hma hmk hb05 hnb sB zB sH zH hf5 hb5 HCC HB4 HF4
  go_wp2_with fail
  refine HMA.out.mono ?_
  rintro e w6 ⟨v6, rfl, hown6, hb6⟩
  obtain ⟨g6, c6, ys, rfl, hg6, hr6, hyl, hnc, hcm, htk⟩ := own_row2 hown6 (by have := HNB.out; omega)
  obtain ⟨hid, hhd⟩ : ∃ l, maskK k blk H = l := ⟨_, rfl⟩
  rw [hhd] at htk
  obtain ⟨x, t, hx⟩ : ∃ x t, hid = x :: t := by
    cases hid with
    | nil =>
      exfalso
      have h := congrArg List.length hhd
      rw [maskK_length HN.out.1, HBK.out.2] at h
      simp at h
    | cons x t => exact ⟨x, t, rfl⟩
  have hy0 : ys[0]? = some (W8 x) := by
    have h := congrArg (fun l => l[0]?) htk
    rw [hx] at h
    simp only [List.getElem?_take, List.map_cons, List.getElem?_cons_zero] at h
    rw [if_pos (by have := HNB.out; omega)] at h
    exact h
  have hc0 : w6.cell? ⟨g6, 0, none⟩ = some (W8 x) := hr6.at_ hy0
  have hf0 := hr6.frozen 0
  have knb : (0 : Int) < nb := by have := HNB.out; omega
  have kc6 : (0 : Int) < c6 := by omega
  have hr7 := hr6.set 0 (W8 (x &&& ((0xff : BitVec 8) >>> s)))
  have HR7 := Lib.hid hr7
  have HB6 := Lib.hid (HB5.out.trans (hb6.mono HB5.out.size))
  have HYB := Lib.hid (show w.heap.size ≤ g6 from Nat.le_trans HB5.out.size hg6)
  have HB56 := Lib.hid hb6
  have HY := Lib.hid (⟨hg6, hyl, hnc, hcm, htk, hhd, hx⟩ : w5.heap.size ≤ g6 ∧ ys.length = c6 ∧ nb ≤ c6 ∧ c6 ≤ maxLen ∧ ys.take nb = hid.map W8 ∧ maskK k blk H = hid ∧ hid = x :: t)
  clear hr7 hown6 hb6 hg6 hr6 hyl hnc hcm htk hhd hx hy0 HMA HB5
  have hmx : Tryd.prog.follows .mixedOrders = true := by kernel_rfl
  have m1 : IntKind.i64.wrap (8 * (N : Int)) = 8 * (N : Int) := by rw [IntKind.wrap_i64]; omega
  have m2 : IntKind.i64.wrap (8 * (N : Int) - (bits : Int)) = (s : Int) := by rw [IntKind.wrap_i64]; omega
  have hsh : ∀ V : World, Sem.run Tryd.prog (Op.shift .shr .u8 255 .i64 (s : Int)) V = .ok (W8 ((0xff : BitVec 8) >>> s)) V := psh8 s (by omega)
  have knb0 : ¬ nb = 0 := by omega
  have hsh2 : (255 : Int) / 2 ^ s = i8 ((0xff : BitVec 8) >>> s) := psh8' s (by omega)
  have hand := b8_and x ((0xff : BitVec 8) >>> s)
  go_wp2_with fail
  refine (wpIn_wide (n := 9)).1 (wpIn_region_pure rfl hmx [(44, .slice (some ⟨g6, 0, none⟩) nb c6), (45, .pointer (some ⟨g6, 0, none⟩)), (46, W8 x), (47, .int .i64 (bits : Int)), (48, .int .i64 (N : Int)), (49, .int .i64 (8 * (N : Int))), (50, .int .i64 (bits : Int)), (51, .int .i64 (s : Int)), (52, W8 ((0xff : BitVec 8) >>> s)), (53, W8 (x &&& ((0xff : BitVec 8) >>> s))), (54, .pointer (some ⟨g6, 0, none⟩))] (by kernel_rfl) (by kernel_rfl) (by kernel_rfl) (by kernel_rfl) (by first | rfl | simp) 11 (w6.setCell ⟨g6, 0, none⟩ (W8 (x &&& ((0xff : BitVec 8) >>> s)))) rfl (by kernel_rfl) ?ops7 ?last7 ?end7)
  case ops7 =>
    intro i o hi ho
    have hi2 : i = 0 ∨ i = 1 ∨ i = 2 ∨ i = 3 ∨ i = 4 ∨ i = 5 ∨ i = 6 ∨ i = 7 ∨ i = 8 ∨ i = 9 ∨ i = 10 := by omega
    rcases hi2 with rfl | rfl | rfl | rfl | rfl | rfl | rfl | rfl | rfl | rfl | rfl
    all_goals
      have ho' := ho
      simp only [List.getElem?_toArray, List.getElem?_cons_zero, List.getElem?_cons_succ, Option.some.injEq] at ho'
      subst ho'
      refine ⟨(by intro c h; cases h), fun q => ⟨fun _ _ => trivial, ?_⟩⟩
    · exact .inl (by simp [execOp, evP, valP, Act.eval, List.lookup_cons])
    · exact .inl (by simp [execOp, evP, valP, Act.eval, List.lookup_cons, go_sem, knb, knb0])
    · exact .inl (by simp [execOp, evP, valP, Act.eval, List.lookup_cons, go_sem, hc0])
    · exact .inl (by simp [execOp, evP, valP, Act.eval, List.lookup_cons])
    · refine .inr ⟨63, #[.int .i64 (bits : Int)], ?_, (callsIn_wide.2 (HBO.out _)).mono ?_⟩
      · simp [execOp, evP, valP, Act.eval, List.lookup_cons, go_sem]
      · rintro e w' ⟨rfl, rfl⟩
        exact ⟨rfl, 0, rfl⟩
    · exact .inl (by simp [execOp, evP, valP, Act.eval, List.lookup_cons, go_sem, m1])
    · exact .inl (by simp [execOp, evP, valP, Act.eval, List.lookup_cons])
    · exact .inl (by simp [execOp, evP, valP, Act.eval, List.lookup_cons, go_sem, m2])
    · exact .inl (by simp [execOp, evP, valP, Act.eval, List.lookup_cons, go_sem]; exact hsh2)
    · exact .inl (by simp [execOp, evP, valP, Act.eval, List.lookup_cons, go_sem]; exact hand)
    · exact .inl (by simp [execOp, evP, valP, Act.eval, List.lookup_cons, go_sem, knb, knb0])
  case last7 =>
    intro o ho
    have ho' := ho
    simp only [List.getElem?_toArray, List.getElem?_cons_zero, List.getElem?_cons_succ, Option.some.injEq] at ho'
    subst ho'
    refine ⟨(by intro c h; cases h), fun q => ⟨fun _ _ => trivial, .inl ⟨?_, rfl⟩⟩⟩
    simp [execOp, evP, valP, Act.eval, List.lookup_cons, go_sem, hc0, hf0]
    try rfl
  case end7 =>
    intro q
    simp [wrote, valP, Act.put, List.lookup_cons]
    obtain ⟨W7, e7⟩ : ∃ W, (w6.setCell ⟨g6, 0, none⟩ (W8 (x &&& ((0xff : BitVec 8) >>> s)))).drewN q = W := ⟨_, rfl⟩
    have hb57 : Below w5.heap.size w5 W7 := by rw [← e7]; exact below_drewN (below_setV HB56.out HY.out.1 0 _) q
    have hb07 : Below w.heap.size w W7 := by rw [← e7]; exact below_drewN (below_setV HB6.out (by have := HYB.out; omega) 0 _) q
    have hr7 : RowV 5 W7 g6 (ys.set 0 (W8 (x &&& ((0xff : BitVec 8) >>> s)))) := by rw [← e7]; exact HR7.out
    have hown7 : W7.ownsRow w5.heap.size 5 1 (.slice (some ⟨g6, 0, none⟩) nb c6) nb ((headAnd s hid).map W8) := by
      refine own_of_row hr7 HY.out.1 (by rw [List.length_set]; exact HY.out.2.1) HY.out.2.2.1 HY.out.2.2.2.1 ?_
      rw [List.take_set, HY.out.2.2.2.2.1, HY.out.2.2.2.2.2.2]
      rfl
    rw [show (255#8 : BitVec 8) = 0xff from rfl, e7]
    have hf7 : FreshV W7 w5.heap.size (.slice (some ⟨g6, 0, none⟩) nb c6) (headAnd s hid) := FreshV.of_own hown7
    obtain ⟨hf8, hb8⟩ := freshA W7 [0xbc] #[.int .u8 188] rfl 1 rfl (by decide)
    obtain ⟨W8', e8⟩ : ∃ W, W7.alloc (.cells #[.int .u8 188] 5) = W := ⟨_, rfl⟩
    rw [e8] at hf8 hb8
    have hcd := concatA W8' [.slice (some ⟨g6, 0, none⟩) nb c6, .slice Ah nh ch, .slice (some ⟨W7.heap.size, 0, none⟩) 1 1] #[.slice (some ⟨g6, 0, none⟩) nb c6, .slice Ah nh ch, .slice (some ⟨W7.heap.size, 0, none⟩) 1 1] rfl [headAnd s hid, H, [0xbc]] ⟨(hf7.up hb8).pc, (HF5.out.up (hb57.trans (hb8.mono hb57.size))).pc, hf8.pc, trivial⟩ 3 rfl (by decide) (by have h1 := (HF5.out.up (hb57.trans (hb8.mono hb57.size))).len_; have h2 := hf7.len_; have := HN.out; have := HNH.out; have := HNB.out; simp; omega)
    have hfin : [headAnd s hid, H, [0xbc]].flatten = pssL k Z s hash salt := by
      rw [pssL, pssH, HH.out, HBK.out.1, HY.out.2.2.2.2.2.1]; simp
    rw [hfin] at hcd
    have HCD := Lib.hid hcd
    have HB8 := Lib.hid (hb07.trans (hb8.mono hb07.size))
    clear hcd hfin hown7 hr7 hf7 hf8 hb8 hb07 hb57 HR7 HB56
    go_wp2_with fail
    refine HCD.out.mono ?_
    rintro e w9 ⟨v9, rfl, hf9, hb9⟩
    have HF9 := Lib.hid (hf9.mono_ HB8.out.size)
    have HB9 := Lib.hid (HB8.out.trans (hb9.mono HB8.out.size))
    clear hf9 hb9
    go_wp2
    go_ret2
    exact ⟨_, rfl, HF9.out, HB9.out⟩
end Go.Proofs.YtnpaidieijlkkaaDoor

/- pad: VerPSS. -/
set_option linter.unusedVariables false
set_option linter.unusedSimpArgs false
namespace Go.Proofs.YtnpaidieijlkkaaDoor
open Go.RowKit Go.Shelf

/-- the salt that stands in an encoding -/
def verSalt (k : Int) (N h s : Nat) (em : List (BitVec 8)) : List (BitVec 8) := (maskK k (em.take (N - h - 1)) ((em.drop (N - h - 1)).take h)).drop (N - h - 1 - s)
set_option maxRecDepth 100000 in
theorem pverpss_no1 (w : World) (k bits : Int) (A : Option Addr) (n c : Nat) (v v5 : Value) (h : psB k bits n = false) :
    Calls Tryd.prog 33 #[.int .i64 k, .int .i64 bits, .slice A n c, v, v5] w fun e w' => e = .returned (.bool false) ∧ w = w' := by
  have hi := pencodable_any w k bits A n c
  rw [h] at hi
  have HI := Lib.hid hi
  clear hi h
  go_enter Tryd.func33, Tryd.ntmps33
  go_wp2_with fail
  refine HI.out.mono ?_
  rintro e w' ⟨rfl, rfl⟩
  go_wp2
  go_ret
  exact ⟨rfl, rfl⟩
set_option maxRecDepth 100000 in
theorem pverpss_no2 (w : World) (k : Int) (bits N : Nat) (A : Option Addr) (n c : Nat) (A3 : Option Addr) (n3 c3 : Nat) (v5 : Value) (h : psB k (bits : Int) n = true) (hN : (bits + 7) / 8 = N) (hne : n3 ≠ N) :
    Calls Tryd.prog 33 #[.int .i64 k, .int .i64 (bits : Int), .slice A n c, .slice A3 n3 c3, v5] w fun e w' => e = .returned (.bool false) ∧ w = w' := by
  have hi := pencodable_any w k (bits : Int) A n c
  rw [h] at hi
  obtain ⟨hok, hb1, hb2⟩ := of_decide_eq_true h
  have hbo := pbytesof_any w bits N (by omega) (by omega) hN
  have k1 : ¬ (n3 : Int) = (N : Int) := by omega
  have k2 : ((n3 : Int) != (N : Int)) = true := by simpa using k1
  have HI := Lib.hid hi
  have HBO := Lib.hid hbo
  clear hi hbo h hok hN hne
  go_enter Tryd.func33, Tryd.ntmps33
  go_wp2_with fail
  refine HI.out.mono ?_
  rintro e w' ⟨rfl, rfl⟩
  go_wp2_with fail
  refine HBO.out.mono ?_
  rintro e w' ⟨rfl, rfl⟩
  go_wp2
  go_ret
  exact ⟨rfl, rfl⟩
set_option maxRecDepth 100000 in
theorem pverpss_no3 (w : World) (k : Int) (bits N : Nat) (A : Option Addr) (n c : Nat) (A3 : Option Addr) (c3 : Nat) (s : Int) (h : psB k (bits : Int) n = true) (hN : (bits + 7) / 8 = N) (hs : s < 0 ∨ (N : Int) - n - 1 ≤ s) :
    Calls Tryd.prog 33 #[.int .i64 k, .int .i64 (bits : Int), .slice A n c, .slice A3 N c3, .int .i64 s] w fun e w' => e = .returned (.bool false) ∧ w = w' := by
  have hi := pencodable_any w k (bits : Int) A n c
  rw [h] at hi
  obtain ⟨hok, hb1, hb2⟩ := of_decide_eq_true h
  obtain ⟨hk, hn⟩ := okB_kind hok
  have hle := szN_le hk
  have hbo := pbytesof_any w bits N (by omega) (by omega) hN
  have k1 : ((N : Int) != (N : Int)) = false := by simp
  have k2 : (n : Int) ≤ 64 := by omega
  have k3 : (N : Int) ≤ 8192 := by omega
  have HI := Lib.hid hi
  have HBO := Lib.hid hbo
  clear hi hbo h hok hN hk hn hle
  by_cases hs0 : s < 0
  · clear hs
    go_enter Tryd.func33, Tryd.ntmps33
    go_wp2_with fail
    refine HI.out.mono ?_
    rintro e w' ⟨rfl, rfl⟩
    go_wp2_with fail
    refine HBO.out.mono ?_
    rintro e w' ⟨rfl, rfl⟩
    go_wp2
    go_ret
    exact ⟨rfl, rfl⟩
  · have hs1 : (N : Int) - n - 1 ≤ s := by omega
    have hs2 : 0 ≤ s := by omega
    clear hs hs0
    go_enter Tryd.func33, Tryd.ntmps33
    go_wp2_with fail
    refine HI.out.mono ?_
    rintro e w' ⟨rfl, rfl⟩
    go_wp2_with fail
    refine HBO.out.mono ?_
    rintro e w' ⟨rfl, rfl⟩
    go_wp2
    go_ret
    exact ⟨rfl, rfl⟩
set_option maxRecDepth 100000 in
set_option maxHeartbeats 4000000 in
theorem pverpss_run (w : World) (k : Int) (hGS : StartsG w) (hGR : RootsG w) (bits N : Nat) (hN : (bits + 7) / 8 = N) (B : Nat) (A1 : Option Addr) (n1 c1 : Nat) (hash : List (BitVec 8)) (h1 : SlV w B A1 n1 c1 (hash.map W8)) (z1 : A1 = none → c1 = 0) (h : psB k (bits : Int) n1 = true)
    (A3 : Option Addr) (c3 : Nat) (em : List (BitVec 8)) (h3 : SlV w B A3 N c3 (em.map W8)) (hB : B ≤ w.heap.size) (s : Nat) (hs : s + n1 + 1 < N) :
    Calls Tryd.prog 33 #[.int .i64 k, .int .i64 (bits : Int), .slice A1 n1 c1, .slice A3 N c3, .int .i64 (s : Int)] w fun e w' => e = .returned (.bool (decide (pssL k (N - n1 - s - 2) (8 * N - bits) hash (verSalt k N n1 s em) = em))) ∧ Below w.heap.size w w' := by
  obtain ⟨R, hR⟩ : ∃ b, decide (pssL k (N - n1 - s - 2) (8 * N - bits) hash (verSalt k N n1 s em) = em) = b := ⟨_, rfl⟩
  rw [hR]
  have HR := Lib.hid hR
  clear hR
  have hi := pencodable_any w k (bits : Int) A1 n1 c1
  rw [h] at hi
  obtain ⟨hok, hb1, hb2⟩ := of_decide_eq_true h
  obtain ⟨hk, hn⟩ := okB_kind hok
  have hle := szN_le hk
  have hbo := pbytesof_any w bits N (by omega) (by omega) hN
  have hel : em.length = N := by simpa using h3.len.symm
  obtain ⟨e, he⟩ : ∃ e, N - n1 - 1 = e := ⟨_, rfl⟩
  obtain ⟨b, o, _, rfl, _⟩ := h3.at_ (k := 0) (by omega)
  have hcap := h3.cap
  have k1 : ((N : Int) != (N : Int)) = false := by simp
  have k2 : (n1 : Int) ≤ 64 := by omega
  have k3 : (N : Int) ≤ 8192 := by omega
  have k4 : (N : Int) - n1 - 1 = (e : Int) := by omega
  have k5 : (s : Int) < e := by omega
  have k6 : ¬ (s : Int) < 0 := by omega
  have k7 : ¬ (e : Int) ≤ s := by omega
  obtain ⟨t, ht⟩ : ∃ t, N - 1 = t := ⟨_, rfl⟩
  have k8 : (e : Int) ≤ t := by omega
  have k13 : (t : Int) ≤ c3 := by omega
  have k14 : (t : Int) ≤ 8192 := by omega
  have k18 : (e : Int) ≤ c3 := by omega
  have k19 : (0 : Int) ≤ e := by omega
  have k20 : IntKind.i64.wrap (e : Int) = (e : Int) := by rw [IntKind.wrap_i64]; omega
  have k21 : (e : Int) ≤ 8192 := by omega
  have k22 : (e : Int) ≤ N := by omega
  have k15 : IntKind.i64.wrap (t : Int) = (t : Int) := by rw [IntKind.wrap_i64]; omega
  have k9 : (N : Int) ≤ c3 := by omega
  have k10 : ¬ c3 = e := by omega
  obtain ⟨p, hp⟩ : ∃ p, e - s = p := ⟨_, rfl⟩
  have k11 : (e : Int) - (s : Int) = (p : Int) := by omega
  have k16 : (p : Int) ≤ e := by omega
  have k17 : (1 : Int) ≤ p := by omega
  have k12 : (N : Int) - 1 = (t : Int) := by omega
  have sA := h3.take (k := e) (by omega)
  rw [← List.map_take] at sA
  have sD := (h3.drop (k := e) (by omega)).take (k := t - e) (by omega)
  rw [← List.map_drop, ← List.map_take, show (em.drop e).take (t - e) = (em.drop e).take n1 by congr 1; omega] at sD
  obtain ⟨X, hX⟩ : ∃ l, em.take e = l := ⟨_, rfl⟩
  obtain ⟨D, hD⟩ : ∃ l, (em.drop e).take n1 = l := ⟨_, rfl⟩
  rw [hX] at sA
  rw [hD] at sD
  have hXl : X.length = e := by simpa using sA.len.symm
  have hma : ∀ V, Below w.heap.size w V → Calls Tryd.prog 55 #[.int .i64 k, .slice (some ⟨b, o, none⟩) e c3, .slice (some ⟨b, o + e, none⟩) (t - e) (c3 - e)] V fun e' w' => ∃ v, e' = .returned v ∧ w'.ownsRow w.heap.size 5 1 v e ((maskK k X D).map W8) ∧ Below w.heap.size w w' := fun V hV => by
    have hm := pmasked_any V k hk (hGS.later hV) (hGR.later hV) B (some ⟨b, o, none⟩) e c3 X (sA.below (hV.mono hB)) (some ⟨b, o + e, none⟩) (t - e) (c3 - e) D (sD.below (hV.mono hB)) (fun x => by cases x) (Nat.le_trans hB hV.size) (by omega) (by omega) (by omega)
    refine hm.mono ?_
    rintro e' w' ⟨v, rfl, ho, hb⟩
    refine ⟨v, rfl, ?_, hV.trans (hb.mono hV.size)⟩
    rw [maskK, hXl]
    obtain ⟨g, c, ys, rfl, hg, hr, hyl, hnc, hcm, htk⟩ := own_row2 ho (by omega)
    exact own_of_row hr (Nat.le_trans hV.size hg) hyl hnc hcm htk
  have hZ : n1 + s + 2 + (N - n1 - s - 2) = N := by omega
  have hes : N - n1 - 1 - s = p ∧ e - p = s := by omega
  have HI := Lib.hid hi
  have HBO := Lib.hid hbo
  have HMA := Lib.hid hma
  have HG := Lib.hid (⟨hGS, hGR⟩ : StartsG w ∧ RootsG w)
  have HN := Lib.hid (⟨hk, hn, hN, hZ, hle.2.2, hel, he, hs, hes⟩ : KindOk k ∧ n1 = szN k ∧ (bits + 7) / 8 = N ∧ n1 + s + 2 + (N - n1 - s - 2) = N ∧ szN k ≤ 64 ∧ em.length = N ∧ N - n1 - 1 = e ∧ s + n1 + 1 < N ∧ (N - n1 - 1 - s = p ∧ e - p = s))
  have HPS := Lib.hid h
  have HXD := Lib.hid (⟨hX, hD, hXl⟩ : em.take e = X ∧ (em.drop e).take n1 = D ∧ X.length = e)
  have S1 := Lib.hid h1
  have S3 := Lib.hid h3
  have Z1 := Lib.hid z1
  have HBB := Lib.hid hB
  clear hi hbo hma h hok hk hn hle hN hel he hs ht hp hX hD hXl sA sD h1 h3 z1 hB hGS hGR hZ hes
  go_enter Tryd.func33, Tryd.ntmps33
  go_wp2_with fail
  refine HI.out.mono ?_
  rintro e' w' ⟨rfl, rfl⟩
  go_wp2_with fail
  refine HBO.out.mono ?_
  rintro e' w' ⟨rfl, rfl⟩
  clear HI HBO
  have hbd : Below w.heap.size w w.drew := (Below.refl _ w).drew
  go_wp2_with fail
  go_region_held3 (fun _ => True) (trivial)
    (first | (go_at_call 55; (with_reducible refine (HMA.out _ hbd).mono ?_); rintro e' w1 ⟨v1, rfl, hown1, hb1⟩))
  all_goals
    obtain ⟨g, c, ys, rfl, hg, hr, hyl, hnc, hcm, htk⟩ := own_row2 hown1 (by omega)
    have hsl := own_sl hown1
    have hdi := hsl.dropIf (k := p) (by omega)
    rw [← List.map_drop] at hdi
    obtain ⟨K, hK⟩ : ∃ l, (maskK k X D).drop p = l := ⟨_, rfl⟩
    rw [hK] at hdi
    have hvs : verSalt k N n1 s em = K := by
      have h9 := HN.out.2.2.2.2.2.2.2.2.1
      rw [verSalt, h9, HN.out.2.2.2.2.2.2.1, HXD.out.1, HXD.out.2.1, hK]
    have hen : ∀ (P : Option Addr) (m cc : Nat), SlV w1 w1.heap.size P m cc (K.map W8) → m = s → (P = none → cc = 0) → Calls Tryd.prog 31 #[.int .i64 k, .int .i64 (bits : Int), .slice A1 n1 c1, .slice P m cc] w1 fun e' w' => ∃ v, e' = .returned (.tuple #[v, .int .i64 0]) ∧ FreshV w' w1.heap.size v (pssL k (N - n1 - s - 2) (8 * N - bits) hash K) ∧ Below w1.heap.size w1 w' := fun P m cc hP hm hz => by
      subst hm
      exact pencpss_ok w1 k (HG.out.1.later hb1) (HG.out.2.later hb1) bits N HN.out.2.2.1 w1.heap.size A1 n1 c1 hash ((S1.out.below (hb1.mono HBB.out)).more (Nat.le_trans HBB.out hb1.size)) Z1.out HPS.out P m cc K hP hz (Nat.le_refl _) (N - n1 - m - 2) HN.out.2.2.2.1
    have HEN := Lib.hid hen
    have HDI := Lib.hid hdi
    have HB1 := Lib.hid hb1
    have HVS := Lib.hid hvs
    have kec : (e : Int) ≤ c := by omega
    have HES := Lib.hid HN.out.2.2.2.2.2.2.2.2.2
    have S31 := Lib.hid ((S3.out.below (hb1.mono HBB.out)).more (Nat.le_trans HBB.out hb1.size))
    clear hen hdi hb1 hvs hsl hown1 hg hr hyl hnc hcm htk hK
    by_cases hcc : c = p
    · subst hcc
      rw [if_pos rfl, Nat.sub_self] at HDI
      go_wp2_with fail
      refine (HEN.out _ _ _ HDI.out HES.out (fun x => by cases x)).mono ?_
      rintro e' w2 ⟨v2, rfl, hf2, hb2⟩
      obtain ⟨sV, zV⟩ : ∃ A n c, v2 = .slice A n c ∧ SlV w2 w2.heap.size A n c ((pssL k (N - n1 - s - 2) (8 * N - bits) hash K).map W8) := by
        obtain ⟨A, c', e0, hs0, _⟩ := hf2.sl
        exact ⟨A, _, c', e0, hs0⟩
      obtain ⟨n2, c2, rfl, hs2⟩ := zV
      have heq := equal_any w2 w2.heap.size sV n2 c2 _ hs2 w2.heap.size _ N c3 em ((S31.out.below hb2).more hb2.size)
      rw [← HVS.out, HR.out] at heq
      have HEQ := Lib.hid heq
      have HB2 := Lib.hid (HB1.out.trans (hb2.mono HB1.out.size))
      clear heq hs2 hf2 hb2
      go_wp2_with fail
      refine HEQ.out.mono ?_
      rintro e' w' ⟨rfl, rfl⟩
      go_wp2
      go_ret
      exact ⟨rfl, HB2.out⟩
    · rw [if_neg hcc, Nat.zero_add] at HDI
      go_wp2_with fail
      refine (HEN.out _ _ _ HDI.out HES.out (fun x => by cases x)).mono ?_
      rintro e' w2 ⟨v2, rfl, hf2, hb2⟩
      obtain ⟨sV, zV⟩ : ∃ A n c, v2 = .slice A n c ∧ SlV w2 w2.heap.size A n c ((pssL k (N - n1 - s - 2) (8 * N - bits) hash K).map W8) := by
        obtain ⟨A, c', e0, hs0, _⟩ := hf2.sl
        exact ⟨A, _, c', e0, hs0⟩
      obtain ⟨n2, c2, rfl, hs2⟩ := zV
      have heq := equal_any w2 w2.heap.size sV n2 c2 _ hs2 w2.heap.size _ N c3 em ((S31.out.below hb2).more hb2.size)
      rw [← HVS.out, HR.out] at heq
      have HEQ := Lib.hid heq
      have HB2 := Lib.hid (HB1.out.trans (hb2.mono HB1.out.size))
      clear heq hs2 hf2 hb2
      go_wp2_with fail
      refine HEQ.out.mono ?_
      rintro e' w' ⟨rfl, rfl⟩
      go_wp2
      go_ret
      exact ⟨rfl, HB2.out⟩
end Go.Proofs.YtnpaidieijlkkaaDoor

/- pad: the frame of version 1.5, and Sign1. -/
set_option linter.unusedVariables false
set_option linter.unusedSimpArgs false
namespace Go.Proofs.YtnpaidieijlkkaaDoor
open Go.RowKit Go.Shelf

/-- 00, the mark, what fills, 00, the message -/
def frameW (mark : BitVec 8) (fl msg : List (BitVec 8)) : List (BitVec 8) := 0 :: mark :: (fl ++ 0 :: msg)
theorem frameW_length (mark : BitVec 8) (fl msg : List (BitVec 8)) : (frameW mark fl msg).length = fl.length + msg.length + 3 := by simp [frameW]; omega
theorem frame_splice (N m s : Nat) (mark : BitVec 8) (msg : List (BitVec 8)) (hm : msg.length = m) (hs : s + m = N) (h3 : 3 ≤ s) :
    splice ((List.replicate N (Value.int .u8 0)).set 1 (W8 mark)) s (msg.map W8) = (frameW mark (List.replicate (s - 3) 0) msg).map W8 := by
  have h0 : Value.int .u8 0 = W8 0 := rfl
  obtain ⟨t, rfl⟩ : ∃ t, s = t + 3 := ⟨s - 3, by omega⟩
  obtain ⟨r, rfl⟩ : ∃ r, N = r + 2 := ⟨N - 2, by omega⟩
  rw [h0, frameW, List.replicate_succ, List.replicate_succ]
  simp only [List.set_cons_succ, List.set_cons_zero, List.map_cons, List.map_append, List.map_replicate, Nat.add_sub_cancel]
  unfold splice
  simp only [List.take_succ_cons, List.drop_succ_cons, List.length_map, hm, List.cons_append]
  congr 2
  rw [List.take_replicate, Nat.min_eq_left (by omega), List.drop_eq_nil_of_le (by simp; omega), List.append_nil]
  rw [show t + 1 = t + 1 from rfl, List.replicate_succ', List.append_assoc]
  rfl
set_option maxRecDepth 100000 in
theorem pframe_1 (w : World) (n : Int) (v : Value) (A : Option Addr) (m c : Nat) (h : 65536 < n) :
    Calls Tryd.prog 46 #[.int .i64 n, v, .slice A m c] w fun e w' => e = .returned (.tuple #[.slice none 0 0, .slice none 0 0, .int .i64 7]) ∧ w = w' := by
  go_enter Tryd.func46, Tryd.ntmps46
  go_wp2
  refine bodyPost_ret (results_tmp3 rfl _ _ _) rfl ?_
  exact ⟨rfl, rfl⟩
set_option maxRecDepth 100000 in
theorem pframe_2 (w : World) (n : Int) (v : Value) (A : Option Addr) (m c : Nat) (h0 : -9223372036854775808 ≤ n) (h : n ≤ 65536) (h2 : n < 11 ∨ n - 11 < m) :
    Calls Tryd.prog 46 #[.int .i64 n, v, .slice A m c] w fun e w' => e = .returned (.tuple #[.slice none 0 0, .slice none 0 0, .int .i64 33]) ∧ w = w' := by
  by_cases h3 : n < 11
  · clear h2
    go_enter Tryd.func46, Tryd.ntmps46
    go_wp2
    refine bodyPost_ret (results_tmp3 rfl _ _ _) rfl ?_
    exact ⟨rfl, rfl⟩
  · have h4 : n - 11 < m := by omega
    have h5 : 11 ≤ n := by omega
    clear h2 h3
    go_enter Tryd.func46, Tryd.ntmps46
    go_wp2
    refine bodyPost_ret (results_tmp3 rfl _ _ _) rfl ?_
    exact ⟨rfl, rfl⟩
set_option maxRecDepth 100000 in
set_option maxHeartbeats 8000000 in
theorem pframe_ok (w : World) (N : Nat) (hN2 : N ≤ 65536) (mark : BitVec 8) (B : Nat) (A : Option Addr) (m c : Nat) (msg : List (BitVec 8)) (hs : SlV w B A m c (msg.map W8)) (hB : B ≤ w.heap.size) (hm : m + 11 ≤ N) :
    Calls Tryd.prog 46 #[.int .i64 (N : Int), W8 mark, .slice A m c] w fun e w' => e = .returned (.tuple #[.slice (some ⟨w.heap.size, 0, none⟩) N N, .slice (some ⟨w.heap.size, 2, none⟩) (N - m - 3) (N - 2), .int .i64 0]) ∧ RowV 5 w' w.heap.size ((frameW mark (List.replicate (N - m - 3) 0) msg).map W8) ∧ Below w.heap.size w w' := by
  have hl : msg.length = m := by simpa using hs.len.symm
  obtain ⟨i0, hi, hz0, hz1, hz2⟩ := info_parts Tryd.elem8.info
  have hsz : (Tryd.prog.info? 5).map (·.size) = some 1 := by rw [hi]; simp [hz1]
  obtain ⟨g, hg⟩ : ∃ g, w.heap.size = g := ⟨_, rfl⟩
  obtain ⟨s, hs0⟩ : ∃ s, N - m = s := ⟨_, rfl⟩
  have hsI : (N : Int) - (m : Int) = (s : Int) := by omega
  have hs1 : (s : Int) - 1 = ((s - 1 : Nat) : Int) := by omega
  have i1 : (N : Int) ≤ 65536 := by omega
  have i2 : (11 : Int) ≤ N := by omega
  have i3 : ¬ (N : Int) - 11 < m := by omega
  have i4 : (m : Int) ≤ (N : Int) - 11 := by omega
  have i5 : (11 : Int) ≤ s := by omega
  have i6 : (s : Int) ≤ N := by omega
  have hfs := frame_splice N m s mark msg hl (by omega) (by omega)
  have HG := Lib.hid hg
  have HB := Lib.hid (show B ≤ g by omega)
  have HS := Lib.hid hs
  have HS0 := Lib.hid (⟨hs0, by omega, by omega⟩ : N - m = s ∧ s + m = N ∧ 11 ≤ s)
  have HSZ := Lib.hid hsz
  have HL := Lib.hid hl
  have HFS := Lib.hid hfs
  have HLN := Lib.hid (show (msg.map W8).length = Nat.min m (N - s) by rw [List.length_map, hl]; exact (Nat.min_eq_left (by omega)).symm)
  have HFT := Lib.hid (show s + (msg.map W8).length ≤ ((List.replicate N (Value.int .u8 0)).set 1 (W8 mark)).length by simp; omega)
  clear hi hz0 hz1 hz2 hs hB hl hfs hsz hs0
  have hN2' : ¬ N = 2 := by omega
  by_cases hm0 : m = 0
  · have hNs : N = s := by have := HS0.out; omega
    have HNS := Lib.hid hNs
    subst hNs
    subst hm0
    go_enter Tryd.func46, Tryd.ntmps46
    go_wp2_with (first | (at_make; refine wlv_make Tryd.elem8 rfl _ rfl _ N rfl rfl (by omega) ?_; intro w1 hr1 hb1 hz1; rw [hg] at hr1 hb1; have hr2 := hr1.set 1 (W8 mark); have hb2 := below_setV hb1 (Nat.le_refl g) 1 (W8 mark); have c1 : w1.cell? ⟨g, 1, none⟩ = some (.int .u8 0) := hr1.at_ (by rw [List.getElem?_replicate, if_pos (by omega)]); have f1 := hr1.frozen 1) | ((with_reducible show wpList _ _ _ _ _ _); refine wpList_copy_splice (o := ⟨some 36, _, _, _, _, _⟩) rfl _ _ 22 22 rfl 5 Tryd.underlying22 HSZ.out _ _ 0 0 0 c rfl rfl g N ((List.replicate N (.int .u8 0)).set 1 (W8 mark)) 5 ?h1 (msg.map W8) ?h2 ?h3 ?h4 ?h5 g w ?h6 ?h7 ?_; (case h1 => first | exact hr2 | (unfold RowV at hr2; exact hr2) | (simp only [RowV] at hr2; exact hr2)); (case h2 => exact HLN.out); (case h3 => exact fun h => absurd h (by rw [List.length_map, HL.out]; decide)); (case h4 => exact HFT.out); (case h5 => exact ones8 msg); (case h6 => exact hb2); (case h7 => exact Nat.le_refl _); intro w3 hr3 hb3))
    have HB3 := Lib.hid hb3
    have hrr : RowV 5 w3 g ((frameW mark (List.replicate (N - 3) 0) msg).map W8) := by
      have h := hr3.out
      rw [HFS.out] at h
      exact h
    have HR3 := Lib.hid hrr
    clear hr3 hb3 hrr hr1 hb1 hz1 hr2 hb2 c1 f1
    go_region
    go_wp2
    refine bodyPost_ret (results_tmp3 rfl _ _ _) rfl ?_
    have e3 : N - 0 - 3 = N - 3 := by rw [HS0.out.1]
    rw [e3]
    rw [hg]
    refine ⟨?_, HR3.out, HB3.out.drew⟩
    first | rfl | (simp; done) | (simp; omega)
  · have hNs : ¬ N = s := by have := HS0.out; omega
    go_enter Tryd.func46, Tryd.ntmps46
    go_wp2_with (first | (at_make; refine wlv_make Tryd.elem8 rfl _ rfl _ N rfl rfl (by omega) ?_; intro w1 hr1 hb1 hz1; rw [hg] at hr1 hb1; have hr2 := hr1.set 1 (W8 mark); have hb2 := below_setV hb1 (Nat.le_refl g) 1 (W8 mark); have c1 : w1.cell? ⟨g, 1, none⟩ = some (.int .u8 0) := hr1.at_ (by rw [List.getElem?_replicate, if_pos (by omega)]); have f1 := hr1.frozen 1) | ((with_reducible show wpList _ _ _ _ _ _); refine wpList_copy_splice (o := ⟨some 36, _, _, _, _, _⟩) rfl _ _ 22 22 rfl 5 Tryd.underlying22 HSZ.out _ _ (N - s) (N - s) m c rfl rfl g s ((List.replicate N (.int .u8 0)).set 1 (W8 mark)) 5 ?h1 (msg.map W8) ?h2 ?h3 ?h4 ?h5 g w ?h6 ?h7 ?_; (case h1 => first | exact hr2 | (unfold RowV at hr2; exact hr2) | (simp only [RowV] at hr2; exact hr2)); (case h2 => exact HLN.out); (case h3 => exact fun h => ⟨rfl, (copy_pos (g := g) HS.out (hb2.mono HB.out) h).2⟩); (case h4 => exact HFT.out); (case h5 => exact ones8 msg); (case h6 => exact hb2); (case h7 => exact Nat.le_refl _); intro w3 hr3 hb3))
    have HB3 := Lib.hid hb3
    have hrr : RowV 5 w3 g ((frameW mark (List.replicate (s - 3) 0) msg).map W8) := by
      have h := hr3.out
      rw [HFS.out] at h
      exact h
    have HR3 := Lib.hid hrr
    clear hr3 hb3 hrr hr1 hb1 hz1 hr2 hb2 c1 f1
    go_region
    go_wp2
    refine bodyPost_ret (results_tmp3 rfl _ _ _) rfl ?_
    have e3 : N - m - 3 = s - 3 := by rw [HS0.out.1]
    rw [e3]
    rw [hg]
    refine ⟨?_, HR3.out, HB3.out.drew⟩
    first | rfl | (simp; done) | (simp; omega)
end Go.Proofs.YtnpaidieijlkkaaDoor

/- pad: Sign1. -/
set_option linter.unusedVariables false
set_option linter.unusedSimpArgs false
namespace Go.Proofs.YtnpaidieijlkkaaDoor
open Go.RowKit Go.Shelf

theorem frameW_set (mark x z : BitVec 8) (pre msg : List (BitVec 8)) (k : Nat) :
    (frameW mark (pre ++ List.replicate (k + 1) z) msg).set (pre.length + 2) x = frameW mark ((pre ++ [x]) ++ List.replicate k z) msg := by
  simp only [frameW, List.set_cons_succ, List.append_assoc]
  congr 2
  rw [List.set_append_right _ _ (Nat.le_refl _), Nat.sub_self, List.replicate_succ]
  rfl
theorem frameW_get (mark z : BitVec 8) (pre msg : List (BitVec 8)) (k : Nat) : (frameW mark (pre ++ List.replicate (k + 1) z) msg)[pre.length + 2]? = some z := by
  simp only [frameW, List.getElem?_cons_succ, List.append_assoc]
  rw [List.getElem?_append_right (Nat.le_refl _), Nat.sub_self, List.replicate_succ]
  rfl
set_option maxRecDepth 100000 in
set_option maxHeartbeats 1000000 in
theorem psign1_no (w : World) (n : Int) (A : Option Addr) (m c : Nat) (r : Int) (hf : Calls Tryd.prog 46 #[.int .i64 n, W8 1, .slice A m c] w fun e w' => e = .returned (.tuple #[.slice none 0 0, .slice none 0 0, .int .i64 r]) ∧ w = w') :
    Calls Tryd.prog 20 #[.int .i64 n, .slice A m c] w fun e w' => e = .returned (.tuple #[.slice none 0 0, .int .i64 r]) ∧ w = w' := by
  have HF := Lib.hid hf
  clear hf
  go_enter Tryd.func20, Tryd.ntmps20
  go_wp2_with fail
  refine HF.out.mono ?_
  rintro e w' ⟨rfl, rfl⟩
  go_wp2
  go_loopw [19] (fun i wr => w = wr ∧ i = .int .i64 0) (fun _ _ => 0)
  case atStart => exact ⟨rfl, rfl⟩
  case round =>
    obtain ⟨rfl, rfl⟩ := hrel
    go_wp2
    go_ret2
    exact ⟨rfl, rfl⟩
set_option maxRecDepth 100000 in
set_option maxHeartbeats 2000000 in
theorem psign1_ok (w : World) (N : Nat) (hN2 : N ≤ 65536) (B : Nat) (A : Option Addr) (m c : Nat) (msg : List (BitVec 8)) (hs : SlV w B A m c (msg.map W8)) (hB : B ≤ w.heap.size) (hm : m + 11 ≤ N) :
    Calls Tryd.prog 20 #[.int .i64 (N : Int), .slice A m c] w fun e w' => ∃ v, e = .returned (.tuple #[v, .int .i64 0]) ∧ FreshV w' w.heap.size v (frameW 1 (List.replicate (N - m - 3) 0xff) msg) ∧ Below w.heap.size w w' := by
  have hf := pframe_ok w N hN2 1 B A m c msg hs hB hm
  have hl : msg.length = m := by simpa using hs.len.symm
  obtain ⟨g, hg⟩ : ∃ g, w.heap.size = g := ⟨_, rfl⟩
  rw [hg] at hf ⊢
  obtain ⟨r, hr⟩ : ∃ r, N - m - 3 = r := ⟨_, rfl⟩
  rw [hr] at hf ⊢
  have hrN : r + m + 3 = N := by omega
  have hfl : (frameW 1 (List.replicate r (0xff : BitVec 8)) msg).length = N := by rw [frameW_length, List.length_replicate, hl, hrN]
  have HF := Lib.hid hf
  have HFL := Lib.hid hfl
  have HRN := Lib.hid (⟨hrN, hm, hN2⟩ : r + m + 3 = N ∧ m + 11 ≤ N ∧ N ≤ 65536)
  have i1 : (r : Int) ≤ 65536 := by omega
  have i2 : (N : Int) ≤ 65536 := by omega
  clear hf hs hg hr hrN hfl hl hB hm hN2
  go_enter Tryd.func20, Tryd.ntmps20
  go_wp2_with fail
  refine HF.out.mono ?_
  rintro e w1 ⟨rfl, hrow, hb⟩
  have HR0 := Lib.hid hrow
  have HB0 := Lib.hid hb
  clear hrow hb
  go_wp2
  go_loopw [19] (fun i wr => ∃ j : Nat, j ≤ r ∧ i = .int .i64 (j : Int) ∧ Hid (RowV 5 wr g ((frameW 1 (List.replicate j 0xff ++ List.replicate (r - j) 0) msg).map W8)) ∧ Hid (Below g w wr)) (fun i _ => r - (intOf i).toNat)
  case atStart => exact ⟨0, by omega, rfl, Lib.hid (by simpa using HR0.out), HB0⟩
  case round =>
    obtain ⟨j, hj, rfl, HR, HB⟩ := hrel
    by_cases hjn : j = r
    · subst hjn
      go_wp2
      go_ret2
      refine ⟨_, rfl, ?_, HB.out⟩
      have h := HR.out
      rw [Nat.sub_self, List.replicate_zero, List.append_nil] at h
      exact FreshV.row_ h (Nat.le_refl _) HFL.out (by have := HRN.out; omega)
    · have hji : (j : Int) < r := by omega
      obtain ⟨q, hq⟩ : ∃ q, r - j = q + 1 := ⟨r - j - 1, by omega⟩
      have hrow := HR.out
      rw [hq] at hrow
      have hcl : wr.cell? ⟨g, 2 + j, none⟩ = some (W8 0) := hrow.at_ (by
        have h := frameW_get 1 0 (List.replicate j 0xff) msg q
        rw [List.length_replicate, Nat.add_comm j 2] at h
        rw [List.getElem?_map, h]; rfl)
      have hfz := hrow.frozen (2 + j)
      have hr2 := hrow.set (2 + j) (W8 0xff)
      have hst := frameW_set 1 0xff 0 (List.replicate j 0xff) msg q
      rw [List.length_replicate, Nat.add_comm j 2, ← List.replicate_succ'] at hst
      rw [← List.map_set, hst, show q = r - (j + 1) by omega] at hr2
      rw [show W8 0xff = .int .u8 255 from rfl] at hr2
      have hB2 := below_setV HB.out (Nat.le_refl g) (2 + j) (.int .u8 255)
      have HR2 := Lib.hid hr2
      have HB2 := Lib.hid hB2
      clear hr2 hB2 hst hq hrow
      go_wp2
      go_roundw
      case rel => exact ⟨j + 1, by omega, by go_num, HR2, HB2⟩
      case measure => simp [intOf]; omega
end Go.Proofs.YtnpaidieijlkkaaDoor

/- pad: Info. -/
set_option linter.unusedVariables false
set_option linter.unusedSimpArgs false
namespace Go.Proofs.YtnpaidieijlkkaaDoor
open Go.RowKit Go.Shelf

theorem elemA (w : World) (tag : BitVec 8) (vs : List Value) (arr : Array Value) (ha : vs.toArray = arr) (ls : List (List (BitVec 8))) (hp : Pcs w w.heap.size vs ls) (n : Nat) (hn : vs.length = n) (hn2 : n ≤ 1000000) (hl : ls.flatten.length < 128) :
    Calls Tryd.prog 43 #[W8 tag, .slice (some ⟨w.heap.size, 0, none⟩) n n] (w.alloc (.cells arr 22)) fun e w' => ∃ v, e = .returned v ∧ FreshV w' w.heap.size v (elemL tag ls.flatten) ∧ Below w.heap.size w w' := by
  obtain ⟨hpv, hb⟩ := parts_new w vs arr ha ls hp n hn hn2
  obtain ⟨W2, e2⟩ : ∃ W, w.alloc (.cells arr 22) = W := ⟨_, rfl⟩
  rw [e2] at hpv hb ⊢
  refine (pelem_any W2 tag _ _ n n ls hpv (Nat.le_refl _) hn2 hl).mono ?_
  rintro e w3 ⟨v, rfl, ho, hb3⟩
  exact ⟨v, rfl, ho.mono_ hb.size, hb.trans (hb3.mono hb.size)⟩
def infoL (k : Int) (hash : List (BitVec 8)) : List (BitVec 8) := elemL 0x30 (elemL 0x30 (elemL 6 (oidL k) ++ elemL 5 []) ++ elemL 4 hash)
theorem infoL_alg (k : Int) : (elemL 0x30 (elemL 6 (oidL k) ++ elemL 5 [])).length ≤ 15 := by
  have := oidL_le k
  rw [elemL_length, List.length_append, elemL_length, elemL_length]
  simp
  omega
set_option maxRecDepth 100000 in
theorem pinfo_no (w : World) (k : Int) (A : Option Addr) (n c : Nat) (h : okB k n = false) :
    Calls Tryd.prog 18 #[.int .i64 k, .slice A n c] w fun e w' => e = .returned (.tuple #[.slice none 0 0, .bool false]) ∧ w = w' := by
  have hi := pishash_any w k A n c
  rw [h] at hi
  have HI := Lib.hid hi
  clear hi h
  go_enter Tryd.func18, Tryd.ntmps18
  go_wp2_with fail
  refine HI.out.mono ?_
  rintro e w' ⟨rfl, rfl⟩
  go_wp2
  go_ret2
  exact ⟨rfl, rfl⟩
set_option maxRecDepth 100000 in
set_option maxHeartbeats 2000000 in
theorem pinfo_ok (w : World) (k : Int) (B : Nat) (A : Option Addr) (n c : Nat) (hash : List (BitVec 8)) (hs : SlV w B A n c (hash.map W8)) (hz : A = none → c = 0) (hB : B ≤ w.heap.size) (h : okB k n = true) :
    Calls Tryd.prog 18 #[.int .i64 k, .slice A n c] w fun e w' => ∃ v, e = .returned (.tuple #[v, .bool true]) ∧ FreshV w' w.heap.size v (infoL k hash) ∧ Below w.heap.size w w' := by
  have hi := pishash_any w k A n c
  rw [h] at hi
  have hn : n ≤ 64 := by
    have h1 := of_decide_eq_true h
    have := (sizeV_bd k).2
    omega
  have hl : hash.length = n := by simpa using hs.len.symm
  have hid := pident_any w k
  have hpc : Pc w w.heap.size (.slice A n c) hash := (Pc.of_sl hs hz).more hB
  have HI := Lib.hid hi
  have HID := Lib.hid hid
  have HP := Lib.hid hpc
  have HN := Lib.hid (⟨hn, hl⟩ : n ≤ 64 ∧ hash.length = n)
  clear hi hid hpc hs hz hB h hn hl
  go_enter Tryd.func18, Tryd.ntmps18
  go_wp2_with fail
  refine HI.out.mono ?_
  rintro e w' ⟨rfl, rfl⟩
  go_wp2_with fail
  refine HID.out.mono ?_
  rintro e w1 ⟨v1, rfl, hf1, hb1⟩
  obtain ⟨A1, n1, c1, rfl⟩ := hf1.form
  have h2 : Calls Tryd.prog 43 #[.int .u8 6, .slice (some ⟨w1.heap.size, 0, none⟩) 1 1] (w1.alloc (.cells #[.slice A1 n1 c1] 22)) fun e w' => ∃ v, e = .returned v ∧ FreshV w' w1.heap.size v (elemL 6 (oidL k)) ∧ Below w1.heap.size w1 w' := by
    have h := elemA w1 6 [.slice A1 n1 c1] #[.slice A1 n1 c1] rfl [oidL k] ⟨hf1.pc, trivial⟩ 1 rfl (by decide) (by have := oidL_le k; simp; omega)
    rw [show W8 6 = .int .u8 6 from rfl] at h
    simpa using h
  have H2 := Lib.hid h2
  have HB1 := Lib.hid hb1
  clear h2 hf1 hb1
  go_wp2_with fail
  refine H2.out.mono ?_
  rintro e w2 ⟨v2, rfl, hf2, hb2⟩
  obtain ⟨A2, n2, c2, rfl⟩ := hf2.form
  have h3 : Calls Tryd.prog 43 #[.int .u8 5, .slice none 0 0] w2 fun e w' => ∃ v, e = .returned v ∧ FreshV w' w2.heap.size v (elemL 5 []) ∧ Below w2.heap.size w2 w' := pelem_any w2 5 w2.heap.size none 0 0 [] (PartsV.nil _ _ _ (by decide)) (Nat.le_refl _) (by decide) (by decide)
  have H3 := Lib.hid h3
  have hb02 : Below w.heap.size w w2 := HB1.out.trans (hb2.mono HB1.out.size)
  have HB2 := Lib.hid hb02
  have HF2 := Lib.hid hf2
  clear h3 hf2 hb2 hb02 H2 HB1
  go_wp2_with fail
  refine H3.out.mono ?_
  rintro e w3 ⟨v3, rfl, hf3, hb3⟩
  obtain ⟨A3, n3, c3, rfl⟩ := hf3.form
  have h4 : Calls Tryd.prog 43 #[.int .u8 48, .slice (some ⟨w3.heap.size, 0, none⟩) 2 2] (w3.alloc (.cells #[.slice A2 n2 c2, .slice A3 n3 c3] 22)) fun e w' => ∃ v, e = .returned v ∧ FreshV w' w3.heap.size v (elemL 0x30 (elemL 6 (oidL k) ++ elemL 5 [])) ∧ Below w3.heap.size w3 w' := by
    have h := elemA w3 0x30 [.slice A2 n2 c2, .slice A3 n3 c3] #[.slice A2 n2 c2, .slice A3 n3 c3] rfl [elemL 6 (oidL k), elemL 5 []] ⟨HF2.out.pc.up hb3, hf3.pc, trivial⟩ 2 rfl (by decide) (by have := oidL_le k; simp [elemL_length]; omega)
    rw [show W8 0x30 = .int .u8 48 from rfl] at h
    simpa using h
  have H4 := Lib.hid h4
  have HB3 := Lib.hid (HB2.out.trans (hb3.mono HB2.out.size))
  clear h4 hf3 hb3 H3 HF2 HB2
  go_wp2_with fail
  refine H4.out.mono ?_
  rintro e w4 ⟨v4, rfl, hf4, hb4⟩
  obtain ⟨A4, n4, c4, rfl⟩ := hf4.form
  have hb04 : Below w.heap.size w w4 := HB3.out.trans (hb4.mono HB3.out.size)
  have h5 : Calls Tryd.prog 43 #[.int .u8 4, .slice (some ⟨w4.heap.size, 0, none⟩) 1 1] (w4.alloc (.cells #[.slice A n c] 22)) fun e w' => ∃ v, e = .returned v ∧ FreshV w' w4.heap.size v (elemL 4 hash) ∧ Below w4.heap.size w4 w' := by
    have h := elemA w4 4 [.slice A n c] #[.slice A n c] rfl [hash] ⟨HP.out.up hb04, trivial⟩ 1 rfl (by decide) (by have := HN.out; simp; omega)
    rw [show W8 4 = .int .u8 4 from rfl] at h
    simpa using h
  have H5 := Lib.hid h5
  have HB4 := Lib.hid hb04
  have HF4 := Lib.hid hf4
  clear h5 hf4 hb4 hb04 H4 HB3
  go_wp2_with fail
  refine H5.out.mono ?_
  rintro e w5 ⟨v5, rfl, hf5, hb5⟩
  obtain ⟨A5, n5, c5, rfl⟩ := hf5.form
  have h6 : Calls Tryd.prog 43 #[.int .u8 48, .slice (some ⟨w5.heap.size, 0, none⟩) 2 2] (w5.alloc (.cells #[.slice A4 n4 c4, .slice A5 n5 c5] 22)) fun e w' => ∃ v, e = .returned v ∧ FreshV w' w5.heap.size v (infoL k hash) ∧ Below w5.heap.size w5 w' := by
    have h := elemA w5 0x30 [.slice A4 n4 c4, .slice A5 n5 c5] #[.slice A4 n4 c4, .slice A5 n5 c5] rfl [elemL 0x30 (elemL 6 (oidL k) ++ elemL 5 []), elemL 4 hash] ⟨HF4.out.pc.up hb5, hf5.pc, trivial⟩ 2 rfl (by decide) (by have := infoL_alg k; have := HN.out; simp [elemL_length] at this ⊢; simp [elemL_length] at *; omega)
    rw [show W8 0x30 = .int .u8 48 from rfl] at h
    simpa [infoL] using h
  have H6 := Lib.hid h6
  have HB5 := Lib.hid (HB4.out.trans (hb5.mono HB4.out.size))
  clear h6 hf5 hb5 H5 HF4 HB4
  go_wp2_with fail
  refine H6.out.mono ?_
  rintro e w6 ⟨v6, rfl, hf6, hb6⟩
  have HF6 := Lib.hid (hf6.mono_ HB5.out.size)
  have HB6 := Lib.hid (HB5.out.trans (hb6.mono HB5.out.size))
  clear hf6 hb6
  go_wp2
  go_ret2
  exact ⟨_, rfl, HF6.out, HB6.out⟩
end Go.Proofs.YtnpaidieijlkkaaDoor

/- pad: there and back, numbers alone. -/
set_option linter.unusedVariables false
set_option linter.unusedSimpArgs false
namespace Go.Proofs.YtnpaidieijlkkaaDoor
open Go.RowKit Go.Shelf

theorem maskK_twice {k : Int} (hk : KindOk k) (b sd : List (BitVec 8)) : maskK k (maskK k b sd) sd = b := by
  have h := maskK_length hk b sd
  unfold maskK at h ⊢
  rw [h]
  exact xorL_twice (by rw [mgfL_length hk]; exact Nat.le_refl _)
theorem oaepL_length {k : Int} (hk : KindOk k) (Z : Nat) (label seed m : List (BitVec 8)) (hs : seed.length = szN k) : (oaepL k Z label seed m).length = m.length + (2 * szN k + 2) + Z := by
  rw [oaepL, List.length_cons, List.length_append, maskK_length hk, maskK_length hk, blockL_length hk]
  omega
theorem oaep_blk {k : Int} (hk : KindOk k) (Z : Nat) (label seed m : List (BitVec 8)) (hs : seed.length = szN k) : decBlk k (oaepL k Z label seed m) = blockL k Z label m := by
  have hl : (maskK k seed (maskK k (blockL k Z label m) seed)).length = szN k := by rw [maskK_length hk, hs]
  have h1 : (oaepL k Z label seed m).drop (1 + szN k) = maskK k (blockL k Z label m) seed := by
    rw [oaepL, Nat.add_comm, List.drop_succ_cons, List.drop_left' hl]
  have h2 : ((oaepL k Z label seed m).drop 1).take (szN k) = maskK k seed (maskK k (blockL k Z label m) seed) := by
    rw [oaepL, List.drop_succ_cons, List.drop_zero, List.take_left' hl]
  rw [decBlk, h1, h2, maskK_twice hk, maskK_twice hk]
theorem pre_append (a b : List (BitVec 8)) : a.isPrefixOf (a ++ b) = true := List.isPrefixOf_iff_prefix.2 (List.prefix_append a b)
theorem dropX_zeros (Z : Nat) (m : List (BitVec 8)) : dropX 0 (List.replicate Z 0 ++ ([1] ++ m)) = [1] ++ m := by
  induction Z with
  | zero => simp [dropX]
  | succ Z ih =>
    rw [List.replicate_succ, List.cons_append]
    unfold dropX at ih ⊢
    rw [List.dropWhile_cons]
    simp
theorem oaep_back {k : Int} (hk : KindOk k) (Z : Nat) (label seed m : List (BitVec 8)) (hs : seed.length = szN k) :
    decOk k label (oaepL k Z label seed m) = true ∧ decMsg k label (oaepL k Z label seed m) = m := by
  have hb := oaep_blk hk Z label seed m hs
  have hr : decRest k label (oaepL k Z label seed m) = List.replicate Z 0 ++ ([1] ++ m) := by
    rw [decRest, hb, blockL, if_pos (pre_append _ _), List.drop_left' rfl]
  constructor
  · rw [decOk, hb, hr, dropX_zeros, blockL, pre_append, pre_append]
    rfl
  · rw [decMsg, hr, dropX_zeros]
    rfl
theorem xorL_drop (a b : List (BitVec 8)) (n : Nat) : (xorL a b).drop n = xorL (a.drop n) (b.drop n) := by
  unfold xorL
  rw [List.drop_zipWith]
theorem headAnd_drop (s n : Nat) (l : List (BitVec 8)) : (headAnd s l).drop (n + 1) = l.drop (n + 1) := by
  cases l <;> rfl
theorem pssH_length {k : Int} (hk : KindOk k) (hash salt : List (BitVec 8)) : (pssH k hash salt).length = szN k := by rw [pssH, sumK_len hk]
theorem pssBlk_length (Z : Nat) (salt : List (BitVec 8)) : (pssBlk Z salt).length = Z + 1 + salt.length := by simp [pssBlk]; omega
theorem pssL_length {k : Int} (hk : KindOk k) (Z s : Nat) (hash salt : List (BitVec 8)) : (pssL k Z s hash salt).length = szN k + salt.length + 2 + Z := by
  rw [pssL, List.length_append, List.length_append, headAnd_length, maskK_length hk, pssBlk_length, pssH_length hk]
  simp
  omega
theorem pss_salt {k : Int} (hk : KindOk k) (Z s : Nat) (hash salt : List (BitVec 8)) (N : Nat) (hN : szN k + salt.length + 2 + Z = N) :
    verSalt k N (szN k) salt.length (pssL k Z s hash salt) = salt := by
  have he : N - szN k - 1 = Z + 1 + salt.length := by omega
  have hl : (headAnd s (maskK k (pssBlk Z salt) (pssH k hash salt))).length = Z + 1 + salt.length := by rw [headAnd_length, maskK_length hk, pssBlk_length]
  have h1 : (pssL k Z s hash salt).take (Z + 1 + salt.length) = headAnd s (maskK k (pssBlk Z salt) (pssH k hash salt)) := by rw [pssL, List.take_left' hl]
  have h2 : ((pssL k Z s hash salt).drop (Z + 1 + salt.length)).take (szN k) = pssH k hash salt := by rw [pssL, List.drop_left' hl, List.take_left' (pssH_length hk _ _)]
  rw [verSalt, he, h1, h2, show Z + 1 + salt.length - salt.length = Z + 1 by omega]
  have h3 : maskK k (headAnd s (maskK k (pssBlk Z salt) (pssH k hash salt))) (pssH k hash salt) = xorL (headAnd s (maskK k (pssBlk Z salt) (pssH k hash salt))) (mgfL k (pssH k hash salt) (Z + 1 + salt.length)) := by rw [maskK, hl]
  rw [h3, xorL_drop, headAnd_drop, ← xorL_drop]
  have h4 : xorL (maskK k (pssBlk Z salt) (pssH k hash salt)) (mgfL k (pssH k hash salt) (Z + 1 + salt.length)) = pssBlk Z salt := by
    have h := maskK_twice hk (pssBlk Z salt) (pssH k hash salt)
    rw [maskK, maskK_length hk, pssBlk_length] at h
    exact h
  rw [h4, pssBlk, ← List.append_assoc, List.drop_left' (by simp)]
/-- an encoding that was made is taken -/
theorem pss_back {k : Int} (hk : KindOk k) (Z s : Nat) (hash salt : List (BitVec 8)) (N : Nat) (hN : szN k + salt.length + 2 + Z = N) :
    pssL k (N - szN k - salt.length - 2) s hash (verSalt k N (szN k) salt.length (pssL k Z s hash salt)) = pssL k Z s hash salt := by
  rw [pss_salt hk Z s hash salt N hN, show N - szN k - salt.length - 2 = Z by omega]
end Go.Proofs.YtnpaidieijlkkaaDoor

/- baileylaw8: one encoding is told. -/
set_option linter.unusedVariables false
set_option linter.unusedSimpArgs false
namespace Go.Proofs.YtnpaidieijlkkaaDoor
open Go.RowKit Go.Shelf

theorem zeros20 {w w1 : World} {g : Nat} (hr : RowV 5 w1 g (List.replicate 20 (.int .u8 0))) (hg : w.heap.size ≤ g) : FreshV w1 w.heap.size (.slice (some ⟨g, 0, none⟩) 20 20) (List.replicate 20 0) := FreshV.row_ (by rw [List.map_replicate]; exact hr) hg (by simp) (by decide)
theorem run_make8 (w : World) (n : Nat) (hn : n ≤ 17592186044416) : ∃ W, Sem.run Tryd.prog (Instr.makeSlice 22 (.int .i64 (n : Int)) (.int .i64 (n : Int))) w = .ok (.slice (some ⟨w.heap.size, 0, none⟩) n n) W ∧ RowV 5 W w.heap.size (List.replicate n (.int .u8 0)) ∧ Below w.heap.size w W := by
  have E := Tryd.elem8
  obtain ⟨i0, hi, hz0, hz1, hz2⟩ := info_parts E.info
  have hb : (i0.bytes : Int) * (n : Int) ≤ 281474976710656 := by
    rw [hz2]
    omega
  have hr := run_make (P := Tryd.prog) w 22 5 i0 (.int .u8 0) E.sl hi hz0 .i64 .i64 n n (by omega) (by omega) hb (by omega)
  simp only [Int.toNat_natCast] at hr
  refine ⟨_, hr, ?_, (Below.refl _ _).alloc (Nat.le_refl _) _⟩
  unfold RowV
  rw [heap_alloc_new, hz1, Nat.mul_one]
  have e : madeCells (Value.int .u8 0).cells n = (List.replicate n (Value.int .u8 0)).toArray := by
    apply Array.ext'
    rw [E.one, toList_madeCells_one]
  rw [e]
theorem FreshV.lit {w : World} {B n c : Nat} {A : Option Addr} {l : List (BitVec 8)} (h : FreshV w B (.slice A n c) l) (m : Nat) (hm : l.length = m) : n = m := h.len_.trans hm
set_option maxRecDepth 100000 in
set_option maxHeartbeats 4000000 in
theorem begun8_any (w : World) (hGS : StartsG w) (hGR : RootsG w) :
    Calls Tryd.prog 16 #[] w fun e w' => e = .returned (.bool true) ∧ Below w.heap.size w w' := by
  have k1 : KindOk 1 := by unfold KindOk; decide
  have o1 : okB 1 20 = true := by decide
  have p1 : psB 1 ((400 : Nat) : Int) 20 = true := by decide
  have s1 : szN 1 = 20 := rfl
  have kc := fun (w : World) (C : Array Value) (n c : Nat) => convConst w C n c
  obtain ⟨W0, e0, hb0, hz0⟩ := newFrozen w #[.int .u8 97, .int .u8 98, .int .u8 99] 3 4
  have sa : SlV W0 (w.heap.size + 1) (some ⟨w.heap.size, 0, none⟩) 3 3 (([0x61, 0x62, 0x63] : List (BitVec 8)).map W8) := by rw [← e0]; exact constSl w [0x61, 0x62, 0x63] (by decide) 3 4
  have hsg := psign1_ok W0 20 (by decide) (w.heap.size + 1) _ 3 3 _ sa (by omega) (by decide)
  have HG := Lib.hid (⟨hGS, hGR⟩ : StartsG w ∧ RootsG w)
  have HSG := Lib.hid hsg
  have HB0 := Lib.hid hb0
  clear hsg hb0 sa hz0 hGS hGR
  go_enter Tryd.func16, Tryd.ntmps16
  go_wp2_with fail
  refine HSG.out.mono ?_
  rintro e w1 ⟨v1, rfl, hf1, hb1⟩
  obtain ⟨A1, n1, c1, rfl⟩ := hf1.form
  obtain rfl := hf1.lit 20 (by simp [frameW])
  have HB1 := Lib.hid (HB0.out.trans (hb1.mono HB0.out.size))
  clear hf1 hb1 HSG HB0 e0 kc
  go_wp2_with (at_make; refine wlv_make Tryd.elem8 rfl _ rfl _ 20 rfl rfl (by decide) ?_; intro w2 hr2 hb2 hz2; clear hz2)
  have hf2 := zeros20 hr2 (Nat.le_refl w1.heap.size)
  obtain ⟨sb, zb⟩ := hf2.pc.sl
  have hin := pinfo_ok w2 1 w2.heap.size _ 20 20 _ sb zb (Nat.le_refl _) o1
  have HIN := Lib.hid hin
  have HB2 := Lib.hid (HB1.out.trans (hb2.mono HB1.out.size))
  clear hin sb zb hf2 hr2 hb2 HB1
  go_wp2_with fail
  refine HIN.out.mono ?_
  rintro e w3 ⟨v3, rfl, hf3, hb3⟩
  obtain ⟨A3, n3, c3, rfl⟩ := hf3.form
  obtain rfl := hf3.lit 35 (by simp [infoL, elemL, oidL])
  have HB3 := Lib.hid (HB2.out.trans (hb3.mono HB2.out.size))
  clear hf3 hb3 HIN HB2
  have kc := fun (w : World) (C : Array Value) (n c : Nat) => convConst w C n c
  go_wp2_with (at_make; refine wlv_make Tryd.elem8 rfl _ rfl _ 20 rfl rfl (by decide) ?_; intro w4 hr4 hb4 hz4; clear hz4; obtain ⟨W5, e5, hb5, hz5⟩ := newFrozen w4 #[.int .u8 109] 1 2; have sd : SlV W5 (w4.heap.size + 1) (some ⟨w4.heap.size, 0, none⟩) 1 1 (([0x6d] : List (BitVec 8)).map W8) := (by rw [← e5]; exact constSl w4 [0x6d] (by decide) 1 2))
  have hf4 := zeros20 hr4 (Nat.le_refl w3.heap.size)
  have hb05 : Below w.heap.size w W5 := (HB3.out.trans (hb4.mono HB3.out.size)).trans (hb5.mono (Nat.le_trans HB3.out.size hb4.size))
  obtain ⟨sc, zc⟩ := (hf4.up hb5).pc.sl
  have hen := pencoaep_ok W5 1 (HG.out.1.later hb05) (HG.out.2.later hb05) 60 (by decide) W5.heap.size none 0 0 [] (SlV.nil _ _ _ (by decide)) (fun _ => rfl) _ 20 20 _ sc zc o1 _ 1 1 _ (sd.more (Nat.le_of_eq hz5.symm)) (fun x => by cases x) (Nat.le_refl _) (by decide) 17 rfl
  have HEN := Lib.hid hen
  have HB5 := Lib.hid hb05
  clear hen hb05 sc zc sd hf4 hr4 hb4 hb5 hz5 HB3
  go_wp2_with fail
  refine HEN.out.mono ?_
  rintro e w6 ⟨v6, rfl, hf6, hb6⟩
  obtain ⟨A6, n6, c6, rfl⟩ := hf6.form
  have hol : (oaepL 1 17 [] (List.replicate 20 0) [0x6d]).length = 60 := by rw [oaepL_length k1 _ _ _ _ (by simp [s1]), s1]; rfl
  obtain rfl := hf6.lit 60 hol
  have hb06 : Below w.heap.size w w6 := HB5.out.trans (hb6.mono HB5.out.size)
  obtain ⟨se, ze⟩ := hf6.pc.sl
  have hde := pdecoaep_run w6 1 k1 (HG.out.1.later hb06) (HG.out.2.later hb06) w6.heap.size none 0 0 [] (SlV.nil _ _ _ (by decide)) (fun _ => rfl) (by decide) A6 60 c6 _ se (Nat.le_refl _) (by rw [s1]; decide) (by decide) rfl
  obtain ⟨hd1, hd2⟩ := oaep_back k1 17 [] (List.replicate 20 0) [0x6d] (by simp [s1])
  rw [hd1, hd2] at hde
  have HDE := Lib.hid hde
  have HB6 := Lib.hid hb06
  clear hde hd1 hd2 se ze hf6 hb6 hb06 hol HEN HB5 e5 kc
  go_wp2_with fail
  refine HDE.out.mono ?_
  rintro e w7 ⟨v7, rfl, hf7, hb7⟩
  obtain ⟨A7, n7, c7, rfl⟩ := hf7.form
  obtain rfl := hf7.lit 1 (by simp)
  have HB7 := Lib.hid (HB6.out.trans (hb7.mono HB6.out.size))
  have HF7 := Lib.hid hf7
  clear hf7 hb7 HDE HB6
  go_wp2_with (at_make; refine wlv_make Tryd.elem8 rfl _ rfl _ 20 rfl rfl (by decide) ?_; intro w8 hr8 hb8 hz8; clear hz8)
  have hf8 := zeros20 hr8 (Nat.le_refl w7.heap.size)
  obtain ⟨sf, zf⟩ := hf8.pc.sl
  have hb08 : Below w.heap.size w w8 := HB7.out.trans (hb8.mono HB7.out.size)
  have hep := pencpss_ok w8 1 (HG.out.1.later hb08) (HG.out.2.later hb08) 400 50 (by decide) w8.heap.size _ 20 20 _ sf zf p1 none 0 0 [] (SlV.nil _ _ _ (by decide)) (fun _ => rfl) (Nat.le_refl _) 28 rfl
  have HEP := Lib.hid hep
  have HB8 := Lib.hid hb08
  have HF8 := Lib.hid (HF7.out.up hb8)
  clear hep sf zf hf8 hr8 hb8 hb08 HF7 HB7
  go_wp2_with fail
  refine HEP.out.mono ?_
  rintro e w9 ⟨v9, rfl, hf9, hb9⟩
  obtain ⟨A9, n9, c9, rfl⟩ := hf9.form
  obtain rfl := hf9.lit 50 (by rw [pssL_length k1, s1]; simp)
  have hf79 := HF8.out.up hb9
  obtain ⟨sg, zg⟩ := hf79.pc.sl
  have hcv : (convert 22 9 (.slice A7 1 c7)).run Tryd.prog w9 = .ok (.string ⟨#[109]⟩) w9 := conv_str (bs := [0x6d]) sg
  have HB9 := Lib.hid (HB8.out.trans (hb9.mono HB8.out.size))
  have HF9 := Lib.hid hf9
  clear hf79 sg zg hf9 hb9 HEP HB8 HF8
  obtain ⟨w10, em, hr10, hb10⟩ := run_make8 w9 20 (by decide)
  replace em : Sem.run Tryd.prog (Instr.makeSlice 22 (.int .i64 20) (.int .i64 20)) w9 = .ok (.slice (some ⟨w9.heap.size, 0, none⟩) 20 20) w10 := em
  have hf10 := zeros20 hr10 (Nat.le_refl w9.heap.size)
  obtain ⟨sh, zh⟩ := hf10.pc.sl
  have hb010 : Below w.heap.size w w10 := HB9.out.trans (hb10.mono HB9.out.size)
  obtain ⟨si, zi⟩ := (HF9.out.up hb10).pc.sl
  have hve := pverpss_run w10 1 (HG.out.1.later hb010) (HG.out.2.later hb010) 400 50 (by decide) w10.heap.size _ 20 20 _ sh zh p1 A9 c9 _ si (Nat.le_refl _) 0 (by decide)
  have hpb := pss_back k1 28 (8 * 50 - 400) (List.replicate 20 0) [] 50 (by rw [s1]; rfl)
  rw [s1] at hpb
  rw [show ([] : List (BitVec 8)).length = 0 from rfl] at hpb
  rw [hpb, decide_eq_true rfl] at hve
  have HVE := Lib.hid hve
  have HB10 := Lib.hid hb010
  clear hve hpb sh zh si zi hf10 hr10 hb10 hb010 HB9 HF9
  go_wp2_with fail
  refine HVE.out.mono ?_
  rintro e w11 ⟨rfl, hb11⟩
  have HB11 := Lib.hid (HB10.out.trans (hb11.mono HB10.out.size))
  clear hb11
  go_wp2
  go_ret
  exact ⟨rfl, HB11.out⟩
end Go.Proofs.YtnpaidieijlkkaaDoor

/- pad.Dec1, and what the document says of it. -/
set_option linter.unusedVariables false
set_option linter.unusedSimpArgs false
namespace Go.Proofs.YtnpaidieijlkkaaDoor
open Go.RowKit Go.Shelf

/-- the message of an encoding for encryption, if it is one -/
def dec1L (em : List (BitVec 8)) : Option (List (BitVec 8)) :=
  if ([0, 2] : List (BitVec 8)).isPrefixOf em = true ∧ 8 ≤ idxL 0 (em.drop 2) then some ((em.drop 2).drop ((idxL 0 (em.drop 2)).toNat + 1)) else none
def dec1V (em : List (BitVec 8)) : List (BitVec 8) := (dec1L em).getD []
def dec1R (em : List (BitVec 8)) : Int := if (dec1L em).isSome then 0 else 64
set_option maxRecDepth 100000 in
set_option maxHeartbeats 1000000 in
theorem pdec1_any (w : World) (B : Nat) (A : Option Addr) (n c : Nat) (em : List (BitVec 8)) (hs : SlV w B A n c (em.map W8)) (hz : A = none → c = 0) (hB : B ≤ w.heap.size) (hn : n ≤ 1000000) :
    Calls Tryd.prog 25 #[.slice A n c] w fun e w' => ∃ v, e = .returned (.tuple #[v, .int .i64 (dec1R em)]) ∧ FreshV w' w.heap.size v (dec1V em) ∧ Below w.heap.size w w' := by
  obtain ⟨D, hD⟩ : ∃ D, dec1L em = D := ⟨_, rfl⟩
  obtain ⟨DV, hDV⟩ : ∃ l, dec1V em = l := ⟨_, rfl⟩
  obtain ⟨DR, hDR⟩ : ∃ r, dec1R em = r := ⟨_, rfl⟩
  rw [hDV, hDR]
  rw [dec1V, hD] at hDV
  rw [dec1R, hD] at hDR
  obtain ⟨hf0, hb0⟩ := freshA w [0, 2] #[.int .u8 0, .int .u8 2] rfl 2 rfl (by decide)
  obtain ⟨W0, e0⟩ : ∃ W, w.alloc (.cells #[.int .u8 0, .int .u8 2] 5) = W := ⟨_, rfl⟩
  rw [e0] at hf0 hb0
  have hs0 := (hs.below (hb0.mono hB)).more (Nat.le_trans hB hb0.size)
  obtain ⟨sp, zp⟩ := hf0.pc.sl
  have hcu := cut_any W0 _ A n c em hs0 hz _ _ 2 2 [0, 2] sp (by decide)
  obtain ⟨b1, hb1⟩ : ∃ b, ([0, 2] : List (BitVec 8)).isPrefixOf em = b := ⟨_, rfl⟩
  rw [hb1] at hcu
  have hel : em.length = n := by simpa using hs.len.symm
  have HCU := Lib.hid hcu
  have HD := Lib.hid (⟨hD, hDV, hDR, hb1⟩ : dec1L em = D ∧ D.getD [] = DV ∧ (if D.isSome = true then (0 : Int) else 64) = DR ∧ ([0, 2] : List (BitVec 8)).isPrefixOf em = b1)
  have HB0 := Lib.hid hb0
  have HN := Lib.hid (⟨hn, hel⟩ : n ≤ 1000000 ∧ em.length = n)
  clear hcu hD hDV hDR hb1 hf0 hb0 hs0 sp zp hs hz hB hn hel
  go_enter Tryd.func25, Tryd.ntmps25
  go_wp2_with fail
  refine HCU.out.mono ?_
  rintro e w' ⟨A1, n1, c1, rfl, rfl, hp1⟩
  obtain ⟨s1, z1⟩ := hp1.sl
  cases b1
  · have hD0 : D = none := by rw [← HD.out.1, dec1L, HD.out.2.2.2, if_neg (by simp)]
    subst hD0
    obtain rfl : DV = [] := HD.out.2.1.symm
    obtain rfl : DR = 64 := HD.out.2.2.1.symm
    rw [if_neg (by simp)] at s1
    have hix := index_any W0 _ A1 n1 c1 em s1 z1 0
    have HIX := Lib.hid hix
    clear hix s1 z1 hp1 HCU
    go_wp2_with fail
    refine HIX.out.mono ?_
    rintro e w' ⟨rfl, rfl⟩
    go_wp2
    go_ret2
    exact ⟨_, rfl, FreshV.nil_ _ _, HB0.out⟩
  · rw [if_pos rfl] at s1
    obtain ⟨R, hR⟩ : ∃ R, em.drop ([0, 2] : List (BitVec 8)).length = R := ⟨_, rfl⟩
    rw [hR] at s1
    have hR' : em.drop 2 = R := hR
    obtain ⟨q, hq⟩ : ∃ q, idxL 0 R = q := ⟨_, rfl⟩
    have hqb := idxL_ge 0 R
    rw [hq] at hqb
    have hRl : R.length = n1 := by simpa using s1.len.symm
    have hRn : R.length ≤ 1000000 := by rw [← hR', List.length_drop]; have := HN.out; omega
    have hix := index_any W0 _ A1 n1 c1 R s1 z1 0
    rw [hq] at hix
    have HIX := Lib.hid hix
    have q1 := hqb.1
    have q2 : q < 1000000 := by omega
    have HQ := Lib.hid (⟨hR', hq, hqb.2, hRl, by omega⟩ : em.drop 2 = R ∧ idxL 0 R = q ∧ q < R.length ∧ R.length = n1 ∧ n1 ≤ 1000000)
    clear hix hq hR hR' hqb hRl hRn hp1 HCU
    by_cases h8 : q < 8
    · have hD0 : D = none := by rw [← HD.out.1, dec1L, HQ.out.1, HQ.out.2.1, if_neg (by omega)]
      subst hD0
      obtain rfl : DV = [] := HD.out.2.1.symm
      obtain rfl : DR = 64 := HD.out.2.2.1.symm
      clear s1 z1
      go_wp2_with fail
      refine HIX.out.mono ?_
      rintro e w' ⟨rfl, rfl⟩
      go_wp2
      go_ret2
      exact ⟨_, rfl, FreshV.nil_ _ _, HB0.out⟩
    · have h8' : 8 ≤ q := by omega
      obtain ⟨p, hp⟩ : ∃ p : Nat, q.toNat + 1 = p := ⟨_, rfl⟩
      have hpI : q + 1 = (p : Int) := by omega
      have hpn : (p : Int) ≤ n1 := by have := HQ.out; omega
      have hD0 : D = some (R.drop p) := by rw [← HD.out.1, dec1L, HQ.out.1, HQ.out.2.1, if_pos ⟨HD.out.2.2.2, h8'⟩, hp]
      subst hD0
      obtain rfl : DV = R.drop p := HD.out.2.1.symm
      obtain rfl : DR = 0 := HD.out.2.2.1.symm
      obtain ⟨b, o, _, rfl, _⟩ := s1.at_ (k := 0) (by omega)
      have hcap := s1.cap
      have hnc : (n1 : Int) ≤ c1 := by omega
      have hd := s1.dropIf (k := p) (by omega)
      rw [← List.map_drop] at hd
      have hcl := fun (P : Option Addr) (cc : Nat) (hP : SlV W0 W0.heap.size P (n1 - p) cc ((R.drop p).map W8)) (hPz : P = none → cc = 0) => cloneK_any W0 _ P (n1 - p) cc _ hP hPz (Nat.le_refl _) (by have := HQ.out; have := HN.out; omega)
      have HCL := Lib.hid hcl
      have HDD := Lib.hid hd
      have hp9 : (9 : Int) ≤ p := by omega
      clear hcl hd s1 z1 hp
      by_cases hcp : c1 = p
      · subst hcp
        obtain rfl : n1 = c1 := by omega
        rw [if_pos rfl, Nat.sub_self] at HDD
        rw [Nat.sub_self] at HCL
        go_wp2_with fail
        refine HIX.out.mono ?_
        rintro e w' ⟨rfl, rfl⟩
        go_wp2_with fail
        refine (HCL.out _ _ HDD.out (fun x => by cases x)).mono ?_
        rintro e w2 ⟨v2, rfl, hf2, hb2⟩
        have HF2 := Lib.hid (hf2.mono_ HB0.out.size)
        have HB2 := Lib.hid (HB0.out.trans (hb2.mono HB0.out.size))
        clear hf2 hb2
        go_wp2
        go_ret2
        exact ⟨_, rfl, HF2.out, HB2.out⟩
      · rw [if_neg hcp] at HDD
        go_wp2_with fail
        refine HIX.out.mono ?_
        rintro e w' ⟨rfl, rfl⟩
        go_wp2_with fail
        refine (HCL.out _ _ HDD.out (fun x => by cases x)).mono ?_
        rintro e w2 ⟨v2, rfl, hf2, hb2⟩
        have HF2 := Lib.hid (hf2.mono_ HB0.out.size)
        have HB2 := Lib.hid (HB0.out.trans (hb2.mono HB0.out.size))
        clear hf2 hb2
        go_wp2
        go_ret2
        exact ⟨_, rfl, HF2.out, HB2.out⟩
end Go.Proofs.YtnpaidieijlkkaaDoor

/- baileyref8: Dec1. -/
set_option linter.unusedVariables false
set_option linter.unusedSimpArgs false
namespace Go.Proofs.YtnpaidieijlkkaaDoor
open Go.RowKit Go.Shelf

def shiftI (t : Nat) (z : Int) : Int := if z = -1 then -1 else z + t
theorem i8_ne {x y : BitVec 8} (h : x ≠ y) : ¬ i8 x = i8 y := fun e => h (by unfold i8 at e; exact BitVec.eq_of_toNat_eq (by omega))
theorem pre2 (em : List (BitVec 8)) : ([0, 2] : List (BitVec 8)).isPrefixOf em = true ↔ em[0]? = some 0 ∧ em[1]? = some 2 := by
  cases em with
  | nil => exact ⟨fun h => absurd h (by decide), fun h => by simp at h⟩
  | cons x t =>
    cases t with
    | nil => exact ⟨fun h => by simp [List.isPrefixOf] at h, fun h => by simp at h⟩
    | cons y t =>
      have e : ([0, 2] : List (BitVec 8)).isPrefixOf (x :: y :: t) = (((0 : BitVec 8) == x) && (((2 : BitVec 8) == y) && true)) := rfl
      rw [e]
      simp only [Bool.and_true, Bool.and_eq_true, beq_iff_eq, List.getElem?_cons_zero, List.getElem?_cons_succ, Option.some.injEq]
      exact ⟨fun h => ⟨h.1.symm, h.2.symm⟩, fun h => ⟨h.1.symm, h.2.symm⟩⟩
theorem dec1_none {em : List (BitVec 8)} (h : ¬ (([0, 2] : List (BitVec 8)).isPrefixOf em = true ∧ 8 ≤ idxL 0 (em.drop 2))) : dec1V em = [] ∧ dec1R em = 64 := by
  have e : dec1L em = none := by rw [dec1L, if_neg h]
  rw [dec1V, dec1R, e]
  exact ⟨rfl, rfl⟩
set_option maxRecDepth 100000 in
set_option maxHeartbeats 1000000 in
theorem rdec1_any (w : World) (B : Nat) (A : Option Addr) (n c : Nat) (em : List (BitVec 8)) (hs : SlV w B A n c (em.map W8)) (hz : A = none → c = 0) (hB : B ≤ w.heap.size) (hn : n ≤ 1000000) :
    Calls Tryd.prog 26 #[.slice A n c] w fun e w' => ∃ v, e = .returned (.tuple #[v, .int .i64 (dec1R em)]) ∧ FreshV w' w.heap.size v (dec1V em) ∧ Below w.heap.size w w' := by
  obtain ⟨DV, hDV⟩ : ∃ l, dec1V em = l := ⟨_, rfl⟩
  obtain ⟨DR, hDR⟩ : ∃ r, dec1R em = r := ⟨_, rfl⟩
  rw [hDV, hDR]
  have hel : em.length = n := by simpa using hs.len.symm
  by_cases h2 : n < 2
  · obtain ⟨e1, e2⟩ := dec1_none (em := em) (by
      rintro ⟨h, _⟩
      have := (List.getElem?_eq_some_iff.1 ((pre2 em).1 h).2).1
      omega)
    obtain rfl : DV = [] := hDV.symm.trans e1
    obtain rfl : DR = 64 := hDR.symm.trans e2
    have k1 : (n : Int) < 2 := by omega
    clear hDV hDR e1 e2 hs hel hz
    go_enter Tryd.func26, Tryd.ntmps26
    go_wp2
    go_ret2
    exact ⟨_, rfl, FreshV.nil_ _ _, Below.refl _ _⟩
  obtain ⟨b, o, v0, rfl, hbB, hv0, hc0⟩ := hs.at_ (k := 0) (by omega)
  obtain ⟨_, _, v1, e1, _, hv1, hc1⟩ := hs.at_ (k := 1) (by omega)
  injection e1 with e1
  injection e1 with ea eb _
  subst ea eb
  rw [Nat.add_zero] at hc0
  obtain ⟨x0, hx0⟩ : ∃ x, em[0]? = some x := ⟨_, List.getElem?_eq_getElem (by omega)⟩
  obtain ⟨x1, hx1⟩ : ∃ x, em[1]? = some x := ⟨_, List.getElem?_eq_getElem (by omega)⟩
  rw [List.getElem?_map, hx0] at hv0
  rw [List.getElem?_map, hx1] at hv1
  obtain rfl : v0 = W8 x0 := (Option.some.inj hv0).symm
  obtain rfl : v1 = W8 x1 := (Option.some.inj hv1).symm
  have hcap := hs.cap
  have k1 : ¬ (n : Int) < 2 := by omega
  have k2 : (2 : Int) ≤ n := by omega
  have k3 : (n : Int) ≤ c := by omega
  have k4 : (n : Int) ≤ 1000000 := by omega
  by_cases h0n : ¬ x0 = 0
  · have h0 : x0 ≠ 0 := h0n
    obtain ⟨e1, e2⟩ := dec1_none (em := em) (by
      rintro ⟨h, _⟩
      have := ((pre2 em).1 h).1
      rw [hx0] at this
      exact h0 (Option.some.inj this))
    obtain rfl : DV = [] := hDV.symm.trans e1
    obtain rfl : DR = 64 := hDR.symm.trans e2
    have kx : (i8 x0 != 0) = true := by simpa using (show ¬ i8 x0 = (0 : Int) from i8_ne h0)
    clear hDV hDR e1 e2 hs hel hz hc1 hv0 hv1 hx0 hx1 h0 h0n
    go_enter Tryd.func26, Tryd.ntmps26
    go_wp2
    go_ret2
    exact ⟨_, rfl, FreshV.nil_ _ _, Below.refl _ _⟩
  have h0 : x0 = 0 := Decidable.not_not.1 h0n
  clear h0n
  subst h0
  have hc0' : w.cell? ⟨b, o, none⟩ = some (.int .u8 0) := hc0
  by_cases h1n : ¬ x1 = 2
  · have h1 : x1 ≠ 2 := h1n
    obtain ⟨e1, e2⟩ := dec1_none (em := em) (by
      rintro ⟨h, _⟩
      have := ((pre2 em).1 h).2
      rw [hx1] at this
      exact h1 (Option.some.inj this))
    obtain rfl : DV = [] := hDV.symm.trans e1
    obtain rfl : DR = 64 := hDR.symm.trans e2
    have kx : (i8 x1 != 2) = true := by simpa using (show ¬ i8 x1 = (2 : Int) from i8_ne h1)
    clear hDV hDR e1 e2 hs hel hz hv0 hv1 hx0 hx1 h1 h1n hc0
    go_enter Tryd.func26, Tryd.ntmps26
    go_wp2
    go_ret2
    exact ⟨_, rfl, FreshV.nil_ _ _, Below.refl _ _⟩
  have h1 : x1 = 2 := Decidable.not_not.1 h1n
  clear h1n
  subst h1
  have hc1' : w.cell? ⟨b, o + 1, none⟩ = some (.int .u8 2) := hc1
  have hpre : ([0, 2] : List (BitVec 8)).isPrefixOf em = true := (pre2 em).2 ⟨hx0, hx1⟩
  obtain ⟨R, hR⟩ : ∃ R, em.drop 2 = R := ⟨_, rfl⟩
  have hRl : R.length + 2 = n := by rw [← hR, List.length_drop]; omega
  have HD := Lib.hid (⟨hDV, hDR, hpre, hR, hRl, hel⟩ : dec1V em = DV ∧ dec1R em = DR ∧ ([0, 2] : List (BitVec 8)).isPrefixOf em = true ∧ em.drop 2 = R ∧ R.length + 2 = n ∧ em.length = n)
  have HS := Lib.hid hs
  have HBB := Lib.hid hB
  clear hDV hDR hpre hR hRl hel hs hz hv0 hv1 hx0 hx1 hc0 hc1 hB
  go_enter Tryd.func26, Tryd.ntmps26
  go_wp2
  go_loopw [4] (fun i wr => w = wr ∧ ∃ t : Nat, t + 2 ≤ n ∧ i = .int .i64 ((t : Int) + 2) ∧ Hid (idxL 0 R = shiftI t (idxL 0 (R.drop t)))) (fun i _ => n - (intOf i).toNat)
  case atStart => exact ⟨rfl, 0, by omega, rfl, Lib.hid (by rw [List.drop_zero, shiftI]; split <;> omega)⟩
  case round =>
    obtain ⟨rfl, t, ht, rfl, HI⟩ := hrel
    clear hc0' hc1'
    by_cases hte : t + 2 = n
    · have hd : R.drop t = [] := List.drop_eq_nil_of_le (by have := HD.out; omega)
      obtain ⟨e1, e2⟩ := dec1_none (em := em) (by
        rintro ⟨_, h⟩
        rw [HD.out.2.2.2.1, HI.out, hd] at h
        simp [idxL, shiftI] at h)
      obtain rfl : DV = [] := HD.out.1.symm.trans e1
      obtain rfl : DR = 64 := HD.out.2.1.symm.trans e2
      have k5 : (t : Int) + 2 = n := by omega
      clear hd e1 e2
      go_wp2
      go_ret2
      exact ⟨_, rfl, FreshV.nil_ _ _, Below.refl _ _⟩
    · have k5 : (t : Int) + 2 < n := by omega
      obtain ⟨x, hx⟩ : ∃ x, R[t]? = some x := ⟨_, List.getElem?_eq_getElem (by have := HD.out; omega)⟩
      obtain ⟨j, hj⟩ : ∃ j, t + 2 = j := ⟨_, rfl⟩
      have hjI : (t : Int) + 2 = (j : Int) := by omega
      have hcx : w.cell? ⟨b, o + j, none⟩ = some (W8 x) := by
        obtain ⟨b', o', v', e', _, hv', hc'⟩ := HS.out.at_ (k := j) (by omega)
        injection e' with e'
        injection e' with e1 e2 _
        subst e1 e2
        rw [List.getElem?_map, show em[j]? = some x by rw [← hx, ← HD.out.2.2.2.1, List.getElem?_drop, Nat.add_comm, hj]] at hv'
        cases hv'
        exact hc'
      have hdr : R.drop t = x :: R.drop (t + 1) := by
        obtain ⟨hl, rfl⟩ := List.getElem?_eq_some_iff.1 hx
        exact List.drop_eq_getElem_cons hl
      have HX := Lib.hid hdr
      have HJ := Lib.hid hj
      have kj : (j : Int) < n := by omega
      have kj2 : (2 : Int) ≤ j := by omega
      rw [hjI]
      clear hdr hx hj
      by_cases hx0 : x = 0
      · subst hx0
        have hix : idxL 0 R = t := by rw [HI.out, HX.out, idxL, if_pos rfl, shiftI]; simp
        have hcx' : w.cell? ⟨b, o + j, none⟩ = some (.int .u8 0) := hcx
        clear hcx
        by_cases h8 : t < 8
        · obtain ⟨e1, e2⟩ := dec1_none (em := em) (by
            rintro ⟨_, h⟩
            rw [HD.out.2.2.2.1, hix] at h
            omega)
          obtain rfl : DV = [] := HD.out.1.symm.trans e1
          obtain rfl : DR = 64 := HD.out.2.1.symm.trans e2
          have k6 : (j : Int) < 10 := by omega
          clear e1 e2 hix
          go_wp2
          go_ret2
          exact ⟨_, rfl, FreshV.nil_ _ _, Below.refl _ _⟩
        · have hdl : dec1L em = some (R.drop (t + 1)) := by rw [dec1L, HD.out.2.2.2.1, hix, if_pos ⟨HD.out.2.2.1, by omega⟩]; simp
          obtain rfl : DV = R.drop (t + 1) := by rw [← HD.out.1, dec1V, hdl]; rfl
          obtain rfl : DR = 0 := by rw [← HD.out.2.1, dec1R, hdl]; rfl
          have k6 : (10 : Int) ≤ j := by have := HJ.out; omega
          obtain ⟨p, hp⟩ : ∃ p, j + 1 = p := ⟨_, rfl⟩
          have hpI : (j : Int) + 1 = (p : Int) := by omega
          have kp : (p : Int) ≤ n := by omega
          have hd := HS.out.dropIf (k := p) (by omega)
          have hdd : em.drop p = R.drop (t + 1) := by rw [← HD.out.2.2.2.1, List.drop_drop]; congr 1; have := HJ.out; omega
          rw [← List.map_drop, hdd] at hd
          have hnil : w.ownsRow w.heap.size 5 1 (.slice none 0 0) 0 (([] : List (BitVec 8)).map W8) := World.ownsRow_nil _ _ _ _
          have HDI := Lib.hid hd
          clear hd hdd hdl hix hp
          by_cases hcp : c = p
          · subst hcp
            obtain rfl : n = c := by omega
            rw [if_pos rfl, Nat.sub_self] at HDI
            have hsl := HDI.out
            go_wp2_with (at_builtin; refine wlv_append Tryd.elem8 rfl _ _ rfl w.heap.size _ 0 [] rfl hnil _ 0 0 _ rfl (fun x => by cases x) B hsl (ones8 _) (by decide) (Nat.le_refl _) ?_; intro v3 w3 hown3 hgr)
            go_ret2
            refine ⟨_, rfl, FreshV.of_own (by simpa using hown3), (Below.refl _ _).grown hgr (Nat.le_refl _) (fun q hq => (hnil.lt q hq).1)⟩
          · rw [if_neg hcp] at HDI
            have hsl := HDI.out
            go_wp2_with (at_builtin; refine wlv_append Tryd.elem8 rfl _ _ rfl w.heap.size _ 0 [] rfl hnil _ (n - p) (c - p) _ rfl (fun x => by cases x) B hsl (ones8 _) (by omega) (Nat.le_refl _) ?_; intro v3 w3 hown3 hgr)
            go_ret2
            refine ⟨_, rfl, FreshV.of_own (by simpa using hown3), (Below.refl _ _).grown hgr (Nat.le_refl _) (fun q hq => (hnil.lt q hq).1)⟩
      · have kx : ¬ i8 x = 0 := i8_ne hx0
        have kb : (i8 x == 0) = false := beq_eq_false_iff_ne.2 kx
        have hin : idxL 0 R = shiftI (t + 1) (idxL 0 (R.drop (t + 1))) := by
          rw [HI.out, HX.out, idxL, if_neg hx0]
          have hge := (idxL_ge 0 (R.drop (t + 1))).1
          generalize idxL 0 (R.drop (t + 1)) = z at hge ⊢
          by_cases hz : z = -1
          · subst hz
            simp [shiftI]
          · rw [if_neg hz]
            unfold shiftI
            rw [if_neg hz, if_neg (by omega)]
            omega
        have HIN := Lib.hid hin
        clear hin
        go_wp2
        go_roundw
        case rel => exact ⟨by first | rfl | trivial, t + 1, by omega, by first | go_num | (congr 1; omega), HIN⟩
        case measure => simp [intOf]; omega
end Go.Proofs.YtnpaidieijlkkaaDoor

/- From the row's tables to the walks' facts: starts (rows of rows) and roots. -/
set_option linter.unusedVariables false
set_option linter.unusedSimpArgs false
namespace Go.Proofs.YtnpaidieijlkkaaDoor
open Go.RowKit

theorem cells_of_tabs {H : Type} {enc : TypeId × Value → H} {P : Program} {w : World} {base : Nat} {sp : Nat → Bool} {held : Bool} {fuel : Nat} {t t2 e : TypeId} {n m : Nat} {k : IntKind} {cs : List Value} {zss : List (List Int)} {p : List MemPlace}
    (ht : P.underlying t = some (.array n t2)) (ht2 : P.underlying t2 = some (.array m e)) (he : P.underlying e = some (.int k)) (hce : P.cellsOf e = 1) (hc2 : P.cellsOf t2 = m)
    (h : DataW.trod enc P w base sp held fuel t cs = some (.agg (zss.map (Lib.tabData k)), p)) {i : Nat} {zs : List Int} (hi : zss[i]? = some zs) {j : Nat} {z : Int} (hj : zs[j]? = some z) : cs[i * m + j]? = some (.int k z) := by
  cases fuel with
  | zero => simp [DataW.trod] at h
  | succ fuel =>
    simp only [DataW.trod, ht, hc2] at h
    split at h
    · obtain ⟨xs, hm, hx⟩ := Option.map_eq_some_iff.1 h
      have hxs : xs.map (·.1) = zss.map (Lib.tabData (H := H) k) := by
        have := congrArg Prod.fst hx
        simpa using this
      have hxl : xs.length = n := by simpa using Lib.mapM_length hm
      have hzl : zss.length = n := by
        have := congrArg List.length hxs
        simp at this
        omega
      have hin : i < n := by rw [← hzl]; exact (List.getElem?_eq_some_iff.1 hi).1
      obtain ⟨b, hb, hf⟩ := Lib.mapM_at hm i i (by simp [hin])
      have hb1 : b.1 = Lib.tabData k zs := by
        have h1 : (xs.map (·.1))[i]? = some b.1 := by simp [hb]
        rw [hxs, List.getElem?_map, hi] at h1
        exact (Option.some.inj h1).symm
      obtain ⟨b1, b2⟩ := b
      dsimp only at hb1
      subst hb1
      have hc := Lib.cells_of_tab ht2 he hce hc2 hf
      have hjm : j < m := by
        have h2 := congrArg List.length hc
        have h3 := (List.getElem?_eq_some_iff.1 hj).1
        rw [List.length_take, List.length_map] at h2
        omega
      have h4 := congrArg (·[j]?) hc
      simp only [List.getElem?_map, hj, List.getElem?_take, if_pos hjm, List.getElem?_drop, Option.map_some] at h4
      exact h4
    · cases h

def startsZ : List (List Int) := [[0, 0, 0, 0, 0, 0, 0, 0], (startsL 1).map fun x => (x.toNat : Int), (startsL 2).map fun x => (x.toNat : Int), (startsL 3).map fun x => (x.toNat : Int), (startsL 4).map fun x => (x.toNat : Int), (startsL 5).map fun x => (x.toNat : Int)]
theorem startsZ_at (k : Nat) (h1 : 1 ≤ k) (h5 : k ≤ 5) : startsZ[k]? = some ((startsL k).map fun x => (x.toNat : Int)) := by
  rcases (by omega : k = 1 ∨ k = 2 ∨ k = 3 ∨ k = 4 ∨ k = 5) with rfl | rfl | rfl | rfl | rfl <;> rfl
theorem startsG_of {W : World} {rest : List (String × DataW Unit)} {t t2 e : TypeId} (hg : Tryd.prog.globalNamed "bailey/hashes.starts" = some 1) (hty : (Tryd.prog.globals[1]?).map (·.type) = some t)
    (ht : Tryd.prog.underlying t = some (.array 6 t2)) (ht2 : Tryd.prog.underlying t2 = some (.array 8 e)) (he : Tryd.prog.underlying e = some (.int .u64)) (hce : Tryd.prog.cellsOf e = 1) (hc2 : Tryd.prog.cellsOf t2 = 8)
    (h : laidMet Tryd.prog (("bailey/hashes.starts", .agg (startsZ.map (Lib.tabData .u64))) :: rest) W) : StartsG W := by
  obtain ⟨ps, ⟨g', t', cs, fuel, p, q, hg', ht', hvar, hd, _, _⟩, _⟩ := h
  obtain rfl := Option.some.inj (hg.symm.trans hg')
  obtain rfl := Option.some.inj (hty.symm.trans ht')
  have hc : ∀ (k : Nat) (zs : List Int), startsZ[k]? = some zs → ∀ (j : Nat) (z : Int), zs[j]? = some z → W.cell? ⟨1, k * 8 + j, none⟩ = some (.int .u64 z) := fun k zs hk j z hj => by
    have h1 := cells_of_tabs ht ht2 he hce hc2 hd hk hj
    rw [World.var?_cell hg hvar]
    simpa using h1
  refine ⟨World.block_lt_of_cell? W _ (hc 0 _ rfl 0 0 rfl), fun k h1 h5 j v hv => ?_⟩
  rw [List.getElem?_map, Option.map_eq_some_iff] at hv
  obtain ⟨x, hx, rfl⟩ := hv
  exact hc k _ (startsZ_at k h1 h5) j _ (by rw [List.getElem?_map, hx]; rfl)
theorem rootsG_of {W : World} (t : Lib.TabIs Tryd.prog W "bailey/hashes.roots" .u64 (rootsL.map fun x => (x.toNat : Int))) (g : Tryd.prog.globalNamed "bailey/hashes.roots" = some 4) : RootsG W := by
  have hl : (rootsL.map fun x => (x.toNat : Int)).length = 80 := rfl
  have hc := fun i (hi : i < 80) => t.cell g i (by rw [hl]; exact hi)
  refine ⟨World.block_lt_of_cell? W _ (hc 0 (by decide)), fun k x hx => ?_⟩
  have hk : k < 80 := (List.getElem?_eq_some_iff.1 hx).1
  rw [hc k hk, List.getD_eq_getElem?_getD, List.getElem?_map, hx]
  rfl
/-- a block's cells laid anew -/
def layAt (cs : Array Value) : Obj → Obj
  | .cells _ t frozen => .cells cs t frozen
  | o => o
def startsC : Array Value := (startsZ.flatten.map fun z => Value.int .u64 z).toArray
def rootsC : Array Value := (rootsL.map fun x => Value.int .u64 (x.toNat : Int)).toArray
theorem rows_starts : (Rows.laid_bailey_hashes_starts : DataW Unit) = .agg (startsZ.map (Lib.tabData .u64)) := by kernel_rfl
theorem rows_roots : (Rows.laid_bailey_hashes_roots : DataW Unit) = Lib.tabData .u64 (rootsL.map fun x => (x.toNat : Int)) := by kernel_rfl
theorem gStarts : Tryd.prog.globalNamed "bailey/hashes.starts" = some 1 := by kernel_rfl
theorem gRoots : Tryd.prog.globalNamed "bailey/hashes.roots" = some 4 := by kernel_rfl
theorem tStarts : (Tryd.prog.globals[1]?).map (·.type) = some 123 := by kernel_rfl
theorem tRoots : (Tryd.prog.globals[4]?).map (·.type) = some 173 := by kernel_rfl
theorem cells8 : Tryd.prog.cellsOf 122 = 8 := by kernel_rfl
theorem cells80 : Tryd.prog.cellsOf 173 = 80 := by kernel_rfl
theorem cells64 : Tryd.prog.cellsOf 59 = 1 := by kernel_rfl
theorem hashTabs {W : World} (h : laidMet Tryd.prog [("bailey/hashes.starts", Rows.laid_bailey_hashes_starts), ("bailey/hashes.roots", Rows.laid_bailey_hashes_roots)] W) : StartsG W ∧ RootsG W := by
  rw [rows_starts, rows_roots] at h
  exact ⟨startsG_of gStarts tStarts Tryd.underlying123 Tryd.underlying122 Tryd.underlying59 cells64 cells8 h,
    rootsG_of (Lib.tabIs_of_head gRoots tRoots Tryd.underlying173 Tryd.underlying59 cells64 cells80 h.tail) gRoots⟩
end Go.Proofs.YtnpaidieijlkkaaDoor

/- The variables that the pad laws' cards list. -/
set_option linter.unusedVariables false
set_option linter.unusedSimpArgs false
namespace Go.Proofs.YtnpaidieijlkkaaDoor
open Go.RowKit Go.Shelf
/-- the values of a flat datum, of one of rows -/
def lits1 : DataW Unit → List Value
  | .agg l => l.filterMap fun d => match d with
    | .lit (.int k n) => some (Value.int k n)
    | _ => none
  | _ => []
def lits2 : DataW Unit → List Value
  | .agg l => (l.map lits1).flatten
  | _ => []
def acceptC : Array Value := (lits2 Rows.laid_unicode_utf8_acceptRanges).toArray
def firstC : Array Value := (lits1 Rows.laid_unicode_utf8_first).toArray
theorem hashTabs8 {W : World} (h : laidMet Tryd.prog [("unicode/utf8.acceptRanges", Rows.laid_unicode_utf8_acceptRanges), ("bailey/hashes.starts", Rows.laid_bailey_hashes_starts), ("bailey/hashes.roots", Rows.laid_bailey_hashes_roots), ("unicode/utf8.first", Rows.laid_unicode_utf8_first)] W) : StartsG W ∧ RootsG W := by
  have h1 := h.tail
  rw [rows_starts, rows_roots] at h1
  exact ⟨startsG_of gStarts tStarts Tryd.underlying123 Tryd.underlying122 Tryd.underlying59 cells64 cells8 h1,
    rootsG_of (Lib.tabIs_of_head gRoots tRoots Tryd.underlying173 Tryd.underlying59 cells64 cells80 h1.tail) gRoots⟩
end Go.Proofs.YtnpaidieijlkkaaDoor
