/- baileyref3: Of, with its result's memory owned. -/
import Derived.Test.YtnpaidieijlkkaaDoorPileJ10
set_option linter.unusedVariables false
set_option linter.unusedSimpArgs false
namespace Go.Proofs.YtnpaidieijlkkaaDoor
open Go.RowKit Go.Shelf

theorem own_takeS {w : World} {base n c : Nat} {A : Option Addr} {l m : List (BitVec 8)} (h : w.ownsRow base 5 1 (.slice A n c) n (l.map W8)) (k : Nat) (hk : k ≤ n) (hk0 : 0 < k) (hm : m = l.take k) : w.ownsRow base 5 1 (.slice A k c) k (m.map W8) := by
  obtain ⟨g, c', ys, e, hg, hr, hyl, hnc, hcm, htk⟩ := own_row2 h (by omega)
  injection e with e1 e2 e3
  subst e1 e3
  refine own_of_row hr hg hyl (by omega) hcm ?_
  rw [hm, List.map_take, ← htk, List.take_take, Nat.min_eq_left hk]
theorem own_sumS {w : World} {base n : Nat} {v : Value} {l : List (BitVec 8)} (h : w.ownsRow base 5 1 v n (l.map W8)) (m : List (BitVec 8)) (hm : m = l.take n) : w.ownsRow base 5 1 v n (m.map W8) := by
  have hl : n = l.length := by obtain ⟨A, c, _, h1, _⟩ := SlV.of_own' h; simpa using h1.len
  have : m = l := by rw [hm, List.take_of_length_le (by omega)]
  rw [this]
  exact h
set_option maxRecDepth 100000 in
set_option maxHeartbeats 2000000 in
theorem rofO_1 (w : World) (B : Nat) (A : Option Addr) (n c : Nat) (bs : List (BitVec 8)) (hs : SlV w B A n c (bs.map W8)) (hz : A = none → c = 0) (hB : B ≤ w.heap.size) (hn : n ≤ 1000000000) :
    Calls Tryd.prog 56 #[.int .i64 1, .slice A n c] w fun e w' => ∃ v, e = .returned v ∧ w'.ownsRow w.heap.size 5 1 v (szN 1) ((sumL 1 bs).map W8) ∧ Below w.heap.size w w' := by
  obtain ⟨N, hN, _, _⟩ := padN_64 n
  have hl : n = bs.length := by simpa using hs.len
  have hsum := sum_one bs N (by rw [← hl]; exact hN)
  have hc := rsha1_any w B A n c bs hs hz hB hn
  rw [hN, show 64 * N / 64 = N by omega, hl, ← hsum, ← hl] at hc
  have HC := Lib.hid hc
  clear hc hs hsum hN hl
  go_enter Tryd.func56, Tryd.ntmps56
  go_wp2_with fail
  refine HC.out.mono ?_
  rintro e w1 ⟨v, rfl, ho, b1⟩
  have HO := Lib.hid ho
  have HB1 := Lib.hid b1
  clear ho b1
  go_wp2
  go_ret
  exact ⟨v, rfl, HO.out, HB1.out⟩
set_option maxRecDepth 100000 in
set_option maxHeartbeats 2000000 in
theorem rofO_2 (w : World) (B : Nat) (A : Option Addr) (n c : Nat) (bs : List (BitVec 8)) (hs : SlV w B A n c (bs.map W8)) (hz : A = none → c = 0) (hB : B ≤ w.heap.size) (hn : n ≤ 1000000000) :
    Calls Tryd.prog 56 #[.int .i64 2, .slice A n c] w fun e w' => ∃ v, e = .returned v ∧ w'.ownsRow w.heap.size 5 1 v (szN 2) ((sumL 2 bs).map W8) ∧ Below w.heap.size w w' := by
  obtain ⟨N, hN, _, _⟩ := padN_64 n
  have hl : n = bs.length := by simpa using hs.len
  have hsum := sum_low 2 (by decide) bs N (by rw [← hl]; exact hN)
  obtain ⟨W1, e1, r1, b1, z1⟩ := newV w 102 ((lowL (startsL 2)).map W32) #[.int .u32 3238371032, .int .u32 914150663, .int .u32 812702999, .int .u32 4144912697, .int .u32 4290775857, .int .u32 1750603025, .int .u32 1694076839, .int .u32 3204075428] (by kernel_rfl)
  have hc := rsha256_any W1 B A n c bs (hs.below (b1.mono hB)) hz (Nat.le_trans hB b1.size) hn w.heap.size (lowL (startsL 2)) rfl r1
  rw [hN, show 64 * N / 64 = N by omega] at hc
  rw [show szN 2 = 28 from rfl, ← hl] at hsum
  obtain ⟨ds, hds⟩ : ∃ l, wordsL (ch32 (lowL (startsL 2)) (bs ++ padL n 64) N) = l := ⟨_, rfl⟩
  rw [hds] at hc hsum
  obtain ⟨g0, hg0⟩ : ∃ g, w.heap.size = g := ⟨_, rfl⟩
  rw [hg0] at hc b1 ⊢
  have HC := Lib.hid hc
  have HB1 := Lib.hid b1
  have HSUM := Lib.hid hsum
  have hz1 : W1.heap.size = g0 + 1 := by omega
  have HZ1 := Lib.hid hz1
  have HG0 := Lib.hid hg0
  clear hc b1 hsum hs hN hds r1 z1 hz1 hB hg0 hl
  go_enter Tryd.func56, Tryd.ntmps56
  go_wp2_with fail
  rw [HG0.out]
  refine HC.out.mono ?_
  rintro e w2 ⟨v, rfl, ho, hoc⟩
  have HB2 := Lib.hid (HB1.out.trans (hoc.below (Nat.le_refl g0) (by have := HZ1.out; omega)))
  have hoo := ho
  obtain ⟨g, cc, rfl, hbg, hsl⟩ := own_form0 ho (by decide)
  have hcap := hsl.cap
  have hmx := hsl.max
  have kc1 : (28 : Int) ≤ cc := by omega
  have kc2 : (cc : Int) ≤ 9223372036854775807 := by omega
  have hbg2 : g0 ≤ g := by have := HZ1.out; omega
  have HO := Lib.hid hsl
  have HOO := Lib.hid hoo
  clear ho hoc hsl hoo
  go_wp2
  go_ret
  exact ⟨_, rfl, own_takeS (own_base HOO.out (by have := HZ1.out; omega)) 28 (by decide) (by decide) HSUM.out, HB2.out⟩
set_option maxRecDepth 100000 in
set_option maxHeartbeats 2000000 in
theorem rofO_3 (w : World) (B : Nat) (A : Option Addr) (n c : Nat) (bs : List (BitVec 8)) (hs : SlV w B A n c (bs.map W8)) (hz : A = none → c = 0) (hB : B ≤ w.heap.size) (hn : n ≤ 1000000000) :
    Calls Tryd.prog 56 #[.int .i64 3, .slice A n c] w fun e w' => ∃ v, e = .returned v ∧ w'.ownsRow w.heap.size 5 1 v (szN 3) ((sumL 3 bs).map W8) ∧ Below w.heap.size w w' := by
  obtain ⟨N, hN, _, _⟩ := padN_64 n
  have hl : n = bs.length := by simpa using hs.len
  have hsum := sum_low 3 (by decide) bs N (by rw [← hl]; exact hN)
  obtain ⟨W1, e1, r1, b1, z1⟩ := newV w 102 ((lowL (startsL 3)).map W32) #[.int .u32 1779033703, .int .u32 3144134277, .int .u32 1013904242, .int .u32 2773480762, .int .u32 1359893119, .int .u32 2600822924, .int .u32 528734635, .int .u32 1541459225] (by kernel_rfl)
  have hc := rsha256_any W1 B A n c bs (hs.below (b1.mono hB)) hz (Nat.le_trans hB b1.size) hn w.heap.size (lowL (startsL 3)) rfl r1
  rw [hN, show 64 * N / 64 = N by omega] at hc
  rw [show szN 3 = 32 from rfl, ← hl] at hsum
  obtain ⟨ds, hds⟩ : ∃ l, wordsL (ch32 (lowL (startsL 3)) (bs ++ padL n 64) N) = l := ⟨_, rfl⟩
  rw [hds] at hc hsum
  obtain ⟨g0, hg0⟩ : ∃ g, w.heap.size = g := ⟨_, rfl⟩
  rw [hg0] at hc b1 ⊢
  have HC := Lib.hid hc
  have HB1 := Lib.hid b1
  have HSUM := Lib.hid hsum
  have hz1 : W1.heap.size = g0 + 1 := by omega
  have HZ1 := Lib.hid hz1
  have HG0 := Lib.hid hg0
  clear hc b1 hsum hs hN hds r1 z1 hz1 hB hg0 hl
  go_enter Tryd.func56, Tryd.ntmps56
  go_wp2_with fail
  rw [HG0.out]
  refine HC.out.mono ?_
  rintro e w2 ⟨v, rfl, ho, hoc⟩
  have HB2 := Lib.hid (HB1.out.trans (hoc.below (Nat.le_refl g0) (by have := HZ1.out; omega)))
  have HO := Lib.hid ho
  clear ho hoc
  go_wp2
  go_ret
  exact ⟨v, rfl, own_sumS (own_base HO.out (by have := HZ1.out; omega)) _ HSUM.out, HB2.out⟩
set_option maxRecDepth 100000 in
set_option maxHeartbeats 2000000 in
theorem rofO_4 (w : World) (B : Nat) (A : Option Addr) (n c : Nat) (bs : List (BitVec 8)) (hs : SlV w B A n c (bs.map W8)) (hz : A = none → c = 0) (hB : B ≤ w.heap.size) (hn : n ≤ 1000000000) :
    Calls Tryd.prog 56 #[.int .i64 4, .slice A n c] w fun e w' => ∃ v, e = .returned v ∧ w'.ownsRow w.heap.size 5 1 v (szN 4) ((sumL 4 bs).map W8) ∧ Below w.heap.size w w' := by
  obtain ⟨N, hN, _, _⟩ := padN_128 n
  have hl : n = bs.length := by simpa using hs.len
  have hsum := sum64 4 (by decide) bs N (by rw [← hl]; exact hN)
  obtain ⟨W1, e1, r1, b1, z1⟩ := newV w 59 ((startsL 4).map W64) #[.int .u64 14680500436340154072, .int .u64 7105036623409894663, .int .u64 10473403895298186519, .int .u64 1526699215303891257, .int .u64 7436329637833083697, .int .u64 10282925794625328401, .int .u64 15784041429090275239, .int .u64 5167115440072839076] (by kernel_rfl)
  have hc := rsha512_any W1 B A n c bs (hs.below (b1.mono hB)) hz (Nat.le_trans hB b1.size) hn w.heap.size (startsL 4) rfl r1
  rw [hN, show 128 * N / 128 = N by omega] at hc
  rw [show szN 4 = 48 from rfl, ← hl] at hsum
  obtain ⟨ds, hds⟩ : ∃ l, wordsL64 (ch64 (startsL 4) (bs ++ padL n 128) N) = l := ⟨_, rfl⟩
  rw [hds] at hc hsum
  obtain ⟨g0, hg0⟩ : ∃ g, w.heap.size = g := ⟨_, rfl⟩
  rw [hg0] at hc b1 ⊢
  have HC := Lib.hid hc
  have HB1 := Lib.hid b1
  have HSUM := Lib.hid hsum
  have hz1 : W1.heap.size = g0 + 1 := by omega
  have HZ1 := Lib.hid hz1
  have HG0 := Lib.hid hg0
  clear hc b1 hsum hs hN hds r1 z1 hz1 hB hg0 hl
  go_enter Tryd.func56, Tryd.ntmps56
  go_wp2_with fail
  rw [HG0.out]
  refine HC.out.mono ?_
  rintro e w2 ⟨v, rfl, ho, hoc⟩
  have HB2 := Lib.hid (HB1.out.trans (hoc.below (Nat.le_refl g0) (by have := HZ1.out; omega)))
  have hoo := ho
  obtain ⟨g, cc, rfl, hbg, hsl⟩ := own_form0 ho (by decide)
  have hcap := hsl.cap
  have hmx := hsl.max
  have kc1 : (48 : Int) ≤ cc := by omega
  have kc2 : (cc : Int) ≤ 9223372036854775807 := by omega
  have hbg2 : g0 ≤ g := by have := HZ1.out; omega
  have HO := Lib.hid hsl
  have HOO := Lib.hid hoo
  clear ho hoc hsl hoo
  go_wp2
  go_ret
  exact ⟨_, rfl, own_takeS (own_base HOO.out (by have := HZ1.out; omega)) 48 (by decide) (by decide) HSUM.out, HB2.out⟩
set_option maxRecDepth 100000 in
set_option maxHeartbeats 2000000 in
theorem rofO_5 (w : World) (B : Nat) (A : Option Addr) (n c : Nat) (bs : List (BitVec 8)) (hs : SlV w B A n c (bs.map W8)) (hz : A = none → c = 0) (hB : B ≤ w.heap.size) (hn : n ≤ 1000000000) :
    Calls Tryd.prog 56 #[.int .i64 5, .slice A n c] w fun e w' => ∃ v, e = .returned v ∧ w'.ownsRow w.heap.size 5 1 v (szN 5) ((sumL 5 bs).map W8) ∧ Below w.heap.size w w' := by
  obtain ⟨N, hN, _, _⟩ := padN_128 n
  have hl : n = bs.length := by simpa using hs.len
  have hsum := sum64 5 (by decide) bs N (by rw [← hl]; exact hN)
  obtain ⟨W1, e1, r1, b1, z1⟩ := newV w 59 ((startsL 5).map W64) #[.int .u64 7640891576956012808, .int .u64 13503953896175478587, .int .u64 4354685564936845355, .int .u64 11912009170470909681, .int .u64 5840696475078001361, .int .u64 11170449401992604703, .int .u64 2270897969802886507, .int .u64 6620516959819538809] (by kernel_rfl)
  have hc := rsha512_any W1 B A n c bs (hs.below (b1.mono hB)) hz (Nat.le_trans hB b1.size) hn w.heap.size (startsL 5) rfl r1
  rw [hN, show 128 * N / 128 = N by omega] at hc
  rw [show szN 5 = 64 from rfl, ← hl] at hsum
  obtain ⟨ds, hds⟩ : ∃ l, wordsL64 (ch64 (startsL 5) (bs ++ padL n 128) N) = l := ⟨_, rfl⟩
  rw [hds] at hc hsum
  obtain ⟨g0, hg0⟩ : ∃ g, w.heap.size = g := ⟨_, rfl⟩
  rw [hg0] at hc b1 ⊢
  have HC := Lib.hid hc
  have HB1 := Lib.hid b1
  have HSUM := Lib.hid hsum
  have hz1 : W1.heap.size = g0 + 1 := by omega
  have HZ1 := Lib.hid hz1
  have HG0 := Lib.hid hg0
  clear hc b1 hsum hs hN hds r1 z1 hz1 hB hg0 hl
  go_enter Tryd.func56, Tryd.ntmps56
  go_wp2_with fail
  rw [HG0.out]
  refine HC.out.mono ?_
  rintro e w2 ⟨v, rfl, ho, hoc⟩
  have HB2 := Lib.hid (HB1.out.trans (hoc.below (Nat.le_refl g0) (by have := HZ1.out; omega)))
  have HO := Lib.hid ho
  clear ho hoc
  go_wp2
  go_ret
  exact ⟨v, rfl, own_sumS (own_base HO.out (by have := HZ1.out; omega)) _ HSUM.out, HB2.out⟩
theorem rofO_any (w : World) (k : Int) (hk : KindOk k) (B : Nat) (A : Option Addr) (n c : Nat) (bs : List (BitVec 8)) (hs : SlV w B A n c (bs.map W8)) (hz : A = none → c = 0) (hB : B ≤ w.heap.size) (hn : n ≤ 1000000000) :
    Calls Tryd.prog 56 #[.int .i64 k, .slice A n c] w fun e w' => ∃ v, e = .returned v ∧ w'.ownsRow w.heap.size 5 1 v (szN k) ((sumL k bs).map W8) ∧ Below w.heap.size w w' := by
  rcases hk.cases with rfl | rfl | rfl | rfl | rfl
  · exact rofO_1 w B A n c bs hs hz hB hn
  · exact rofO_2 w B A n c bs hs hz hB hn
  · exact rofO_3 w B A n c bs hs hz hB hn
  · exact rofO_4 w B A n c bs hs hz hB hn
  · exact rofO_5 w B A n c bs hs hz hB hn
end Go.Proofs.YtnpaidieijlkkaaDoor
