/- Parts of one proof, joined: Slo, PdL, PdM, PdN, PdO, PdU, PdP, PdQ, WPd1, PdV, PdX, PdY, PeA, WPi, WPo, WPoo. -/
import Derived.Test.YtnpaidieijlkkabDoorPileK8
import Derived.Test.YtnpaidieijlkkabDoorPileK9

/- baileyref3: Of, with its result's memory owned. -/
set_option linter.unusedVariables false
set_option linter.unusedSimpArgs false
namespace Go.Proofs.YtnpaidieijlkkabDoor
open Go.RowKit Go.Shelf

theorem own_takeS {w : World} {base n c : Nat} {A : Option Addr} {l m : List (BitVec 8)} (h : w.ownsRow base 5 1 (.slice A n c) n (l.map W8)) (k : Nat) (hk : k ≤ n) (hk0 : 0 < k) (hm : m = l.take k) : w.ownsRow base 5 1 (.slice A k c) k (m.map W8) := by
  obtain ⟨g, c', ys, e, hg, hr, hyl, hnc, hcm, htk⟩ := own_row2 h (by omega)
  injection e with e1 e2 e3
  subst e1 e3
  refine own_of_row hr hg hyl (by omega) hcm ?_
  rw [hm, List.map_take, ← htk, List.take_take, Nat.min_eq_left hk]
theorem own_sumS {w : World} {base n : Nat} {v : Value} {l : List (BitVec 8)} (h : w.ownsRow base 5 1 v n (l.map W8)) (m : List (BitVec 8)) (hm : m = l.take n) : w.ownsRow base 5 1 v n (m.map W8) := by
  have hl : n = l.length := by obtain ⟨A, c, _, h1, _⟩ := SlV.of_own' h; simpa using h1.len
  have : m = l := by rw [hm, List.take_of_length_le (by omega)]
  rw [this]
  exact h
set_option maxRecDepth 100000 in
set_option maxHeartbeats 2000000 in
theorem rofO_1 (w : World) (B : Nat) (A : Option Addr) (n c : Nat) (bs : List (BitVec 8)) (hs : SlV w B A n c (bs.map W8)) (hz : A = none → c = 0) (hB : B ≤ w.heap.size) (hn : n ≤ 1000000000) :
    Calls Tryd.prog 39 #[.int .i64 1, .slice A n c] w fun e w' => ∃ v, e = .returned v ∧ w'.ownsRow w.heap.size 5 1 v (szN 1) ((sumL 1 bs).map W8) ∧ Below w.heap.size w w' := by
  obtain ⟨N, hN, _, _⟩ := padN_64 n
  have hl : n = bs.length := by simpa using hs.len
  have hsum := sum_one bs N (by rw [← hl]; exact hN)
  have hc := rsha1_any w B A n c bs hs hz hB hn
  rw [hN, show 64 * N / 64 = N by omega, hl, ← hsum, ← hl] at hc
  have HC := Lib.hid hc
  clear hc hs hsum hN hl
  go_enter Tryd.func39, Tryd.ntmps39
  go_wp2_with fail
  refine HC.out.mono ?_
  rintro e w1 ⟨v, rfl, ho, b1⟩
  have HO := Lib.hid ho
  have HB1 := Lib.hid b1
  clear ho b1
  go_wp2
  go_ret
  exact ⟨v, rfl, HO.out, HB1.out⟩
set_option maxRecDepth 100000 in
set_option maxHeartbeats 2000000 in
theorem rofO_2 (w : World) (B : Nat) (A : Option Addr) (n c : Nat) (bs : List (BitVec 8)) (hs : SlV w B A n c (bs.map W8)) (hz : A = none → c = 0) (hB : B ≤ w.heap.size) (hn : n ≤ 1000000000) :
    Calls Tryd.prog 39 #[.int .i64 2, .slice A n c] w fun e w' => ∃ v, e = .returned v ∧ w'.ownsRow w.heap.size 5 1 v (szN 2) ((sumL 2 bs).map W8) ∧ Below w.heap.size w w' := by
  obtain ⟨N, hN, _, _⟩ := padN_64 n
  have hl : n = bs.length := by simpa using hs.len
  have hsum := sum_low 2 (by decide) bs N (by rw [← hl]; exact hN)
  obtain ⟨W1, e1, r1, b1, z1⟩ := newV w 82 ((lowL (startsL 2)).map W32) #[.int .u32 3238371032, .int .u32 914150663, .int .u32 812702999, .int .u32 4144912697, .int .u32 4290775857, .int .u32 1750603025, .int .u32 1694076839, .int .u32 3204075428] (by kernel_rfl)
  have hc := rsha256_any W1 B A n c bs (hs.below (b1.mono hB)) hz (Nat.le_trans hB b1.size) hn w.heap.size (lowL (startsL 2)) rfl r1
  rw [hN, show 64 * N / 64 = N by omega] at hc
  rw [show szN 2 = 28 from rfl, ← hl] at hsum
  obtain ⟨ds, hds⟩ : ∃ l, wordsL (ch32 (lowL (startsL 2)) (bs ++ padL n 64) N) = l := ⟨_, rfl⟩
  rw [hds] at hc hsum
  obtain ⟨g0, hg0⟩ : ∃ g, w.heap.size = g := ⟨_, rfl⟩
  rw [hg0] at hc b1 ⊢
  have HC := Lib.hid hc
  have HB1 := Lib.hid b1
  have HSUM := Lib.hid hsum
  have hz1 : W1.heap.size = g0 + 1 := by omega
  have HZ1 := Lib.hid hz1
  have HG0 := Lib.hid hg0
  clear hc b1 hsum hs hN hds r1 z1 hz1 hB hg0 hl
  go_enter Tryd.func39, Tryd.ntmps39
  go_wp2_with fail
  rw [HG0.out]
  refine HC.out.mono ?_
  rintro e w2 ⟨v, rfl, ho, hoc⟩
  have HB2 := Lib.hid (HB1.out.trans (hoc.below (Nat.le_refl g0) (by have := HZ1.out; omega)))
  have hoo := ho
  obtain ⟨g, cc, rfl, hbg, hsl⟩ := own_form0 ho (by decide)
  have hcap := hsl.cap
  have hmx := hsl.max
  have kc1 : (28 : Int) ≤ cc := by omega
  have kc2 : (cc : Int) ≤ 9223372036854775807 := by omega
  have hbg2 : g0 ≤ g := by have := HZ1.out; omega
  have HO := Lib.hid hsl
  have HOO := Lib.hid hoo
  clear ho hoc hsl hoo
  go_wp2
  go_ret
  exact ⟨_, rfl, own_takeS (own_base HOO.out (by have := HZ1.out; omega)) 28 (by decide) (by decide) HSUM.out, HB2.out⟩
set_option maxRecDepth 100000 in
set_option maxHeartbeats 2000000 in
theorem rofO_3 (w : World) (B : Nat) (A : Option Addr) (n c : Nat) (bs : List (BitVec 8)) (hs : SlV w B A n c (bs.map W8)) (hz : A = none → c = 0) (hB : B ≤ w.heap.size) (hn : n ≤ 1000000000) :
    Calls Tryd.prog 39 #[.int .i64 3, .slice A n c] w fun e w' => ∃ v, e = .returned v ∧ w'.ownsRow w.heap.size 5 1 v (szN 3) ((sumL 3 bs).map W8) ∧ Below w.heap.size w w' := by
  obtain ⟨N, hN, _, _⟩ := padN_64 n
  have hl : n = bs.length := by simpa using hs.len
  have hsum := sum_low 3 (by decide) bs N (by rw [← hl]; exact hN)
  obtain ⟨W1, e1, r1, b1, z1⟩ := newV w 82 ((lowL (startsL 3)).map W32) #[.int .u32 1779033703, .int .u32 3144134277, .int .u32 1013904242, .int .u32 2773480762, .int .u32 1359893119, .int .u32 2600822924, .int .u32 528734635, .int .u32 1541459225] (by kernel_rfl)
  have hc := rsha256_any W1 B A n c bs (hs.below (b1.mono hB)) hz (Nat.le_trans hB b1.size) hn w.heap.size (lowL (startsL 3)) rfl r1
  rw [hN, show 64 * N / 64 = N by omega] at hc
  rw [show szN 3 = 32 from rfl, ← hl] at hsum
  obtain ⟨ds, hds⟩ : ∃ l, wordsL (ch32 (lowL (startsL 3)) (bs ++ padL n 64) N) = l := ⟨_, rfl⟩
  rw [hds] at hc hsum
  obtain ⟨g0, hg0⟩ : ∃ g, w.heap.size = g := ⟨_, rfl⟩
  rw [hg0] at hc b1 ⊢
  have HC := Lib.hid hc
  have HB1 := Lib.hid b1
  have HSUM := Lib.hid hsum
  have hz1 : W1.heap.size = g0 + 1 := by omega
  have HZ1 := Lib.hid hz1
  have HG0 := Lib.hid hg0
  clear hc b1 hsum hs hN hds r1 z1 hz1 hB hg0 hl
  go_enter Tryd.func39, Tryd.ntmps39
  go_wp2_with fail
  rw [HG0.out]
  refine HC.out.mono ?_
  rintro e w2 ⟨v, rfl, ho, hoc⟩
  have HB2 := Lib.hid (HB1.out.trans (hoc.below (Nat.le_refl g0) (by have := HZ1.out; omega)))
  have HO := Lib.hid ho
  clear ho hoc
  go_wp2
  go_ret
  exact ⟨v, rfl, own_sumS (own_base HO.out (by have := HZ1.out; omega)) _ HSUM.out, HB2.out⟩
set_option maxRecDepth 100000 in
set_option maxHeartbeats 2000000 in
theorem rofO_4 (w : World) (B : Nat) (A : Option Addr) (n c : Nat) (bs : List (BitVec 8)) (hs : SlV w B A n c (bs.map W8)) (hz : A = none → c = 0) (hB : B ≤ w.heap.size) (hn : n ≤ 1000000000) :
    Calls Tryd.prog 39 #[.int .i64 4, .slice A n c] w fun e w' => ∃ v, e = .returned v ∧ w'.ownsRow w.heap.size 5 1 v (szN 4) ((sumL 4 bs).map W8) ∧ Below w.heap.size w w' := by
  obtain ⟨N, hN, _, _⟩ := padN_128 n
  have hl : n = bs.length := by simpa using hs.len
  have hsum := sum64 4 (by decide) bs N (by rw [← hl]; exact hN)
  obtain ⟨W1, e1, r1, b1, z1⟩ := newV w 68 ((startsL 4).map W64) #[.int .u64 14680500436340154072, .int .u64 7105036623409894663, .int .u64 10473403895298186519, .int .u64 1526699215303891257, .int .u64 7436329637833083697, .int .u64 10282925794625328401, .int .u64 15784041429090275239, .int .u64 5167115440072839076] (by kernel_rfl)
  have hc := rsha512_any W1 B A n c bs (hs.below (b1.mono hB)) hz (Nat.le_trans hB b1.size) hn w.heap.size (startsL 4) rfl r1
  rw [hN, show 128 * N / 128 = N by omega] at hc
  rw [show szN 4 = 48 from rfl, ← hl] at hsum
  obtain ⟨ds, hds⟩ : ∃ l, wordsL64 (ch64 (startsL 4) (bs ++ padL n 128) N) = l := ⟨_, rfl⟩
  rw [hds] at hc hsum
  obtain ⟨g0, hg0⟩ : ∃ g, w.heap.size = g := ⟨_, rfl⟩
  rw [hg0] at hc b1 ⊢
  have HC := Lib.hid hc
  have HB1 := Lib.hid b1
  have HSUM := Lib.hid hsum
  have hz1 : W1.heap.size = g0 + 1 := by omega
  have HZ1 := Lib.hid hz1
  have HG0 := Lib.hid hg0
  clear hc b1 hsum hs hN hds r1 z1 hz1 hB hg0 hl
  go_enter Tryd.func39, Tryd.ntmps39
  go_wp2_with fail
  rw [HG0.out]
  refine HC.out.mono ?_
  rintro e w2 ⟨v, rfl, ho, hoc⟩
  have HB2 := Lib.hid (HB1.out.trans (hoc.below (Nat.le_refl g0) (by have := HZ1.out; omega)))
  have hoo := ho
  obtain ⟨g, cc, rfl, hbg, hsl⟩ := own_form0 ho (by decide)
  have hcap := hsl.cap
  have hmx := hsl.max
  have kc1 : (48 : Int) ≤ cc := by omega
  have kc2 : (cc : Int) ≤ 9223372036854775807 := by omega
  have hbg2 : g0 ≤ g := by have := HZ1.out; omega
  have HO := Lib.hid hsl
  have HOO := Lib.hid hoo
  clear ho hoc hsl hoo
  go_wp2
  go_ret
  exact ⟨_, rfl, own_takeS (own_base HOO.out (by have := HZ1.out; omega)) 48 (by decide) (by decide) HSUM.out, HB2.out⟩
set_option maxRecDepth 100000 in
set_option maxHeartbeats 2000000 in
theorem rofO_5 (w : World) (B : Nat) (A : Option Addr) (n c : Nat) (bs : List (BitVec 8)) (hs : SlV w B A n c (bs.map W8)) (hz : A = none → c = 0) (hB : B ≤ w.heap.size) (hn : n ≤ 1000000000) :
    Calls Tryd.prog 39 #[.int .i64 5, .slice A n c] w fun e w' => ∃ v, e = .returned v ∧ w'.ownsRow w.heap.size 5 1 v (szN 5) ((sumL 5 bs).map W8) ∧ Below w.heap.size w w' := by
  obtain ⟨N, hN, _, _⟩ := padN_128 n
  have hl : n = bs.length := by simpa using hs.len
  have hsum := sum64 5 (by decide) bs N (by rw [← hl]; exact hN)
  obtain ⟨W1, e1, r1, b1, z1⟩ := newV w 68 ((startsL 5).map W64) #[.int .u64 7640891576956012808, .int .u64 13503953896175478587, .int .u64 4354685564936845355, .int .u64 11912009170470909681, .int .u64 5840696475078001361, .int .u64 11170449401992604703, .int .u64 2270897969802886507, .int .u64 6620516959819538809] (by kernel_rfl)
  have hc := rsha512_any W1 B A n c bs (hs.below (b1.mono hB)) hz (Nat.le_trans hB b1.size) hn w.heap.size (startsL 5) rfl r1
  rw [hN, show 128 * N / 128 = N by omega] at hc
  rw [show szN 5 = 64 from rfl, ← hl] at hsum
  obtain ⟨ds, hds⟩ : ∃ l, wordsL64 (ch64 (startsL 5) (bs ++ padL n 128) N) = l := ⟨_, rfl⟩
  rw [hds] at hc hsum
  obtain ⟨g0, hg0⟩ : ∃ g, w.heap.size = g := ⟨_, rfl⟩
  rw [hg0] at hc b1 ⊢
  have HC := Lib.hid hc
  have HB1 := Lib.hid b1
  have HSUM := Lib.hid hsum
  have hz1 : W1.heap.size = g0 + 1 := by omega
  have HZ1 := Lib.hid hz1
  have HG0 := Lib.hid hg0
  clear hc b1 hsum hs hN hds r1 z1 hz1 hB hg0 hl
  go_enter Tryd.func39, Tryd.ntmps39
  go_wp2_with fail
  rw [HG0.out]
  refine HC.out.mono ?_
  rintro e w2 ⟨v, rfl, ho, hoc⟩
  have HB2 := Lib.hid (HB1.out.trans (hoc.below (Nat.le_refl g0) (by have := HZ1.out; omega)))
  have HO := Lib.hid ho
  clear ho hoc
  go_wp2
  go_ret
  exact ⟨v, rfl, own_sumS (own_base HO.out (by have := HZ1.out; omega)) _ HSUM.out, HB2.out⟩
theorem rofO_any (w : World) (k : Int) (hk : KindOk k) (B : Nat) (A : Option Addr) (n c : Nat) (bs : List (BitVec 8)) (hs : SlV w B A n c (bs.map W8)) (hz : A = none → c = 0) (hB : B ≤ w.heap.size) (hn : n ≤ 1000000000) :
    Calls Tryd.prog 39 #[.int .i64 k, .slice A n c] w fun e w' => ∃ v, e = .returned v ∧ w'.ownsRow w.heap.size 5 1 v (szN k) ((sumL k bs).map W8) ∧ Below w.heap.size w w' := by
  rcases hk.cases with rfl | rfl | rfl | rfl | rfl
  · exact rofO_1 w B A n c bs hs hz hB hn
  · exact rofO_2 w B A n c bs hs hz hB hn
  · exact rofO_3 w B A n c bs hs hz hB hn
  · exact rofO_4 w B A n c bs hs hz hB hn
  · exact rofO_5 w B A n c bs hs hz hB hn
end Go.Proofs.YtnpaidieijlkkabDoor

/- pad: EncPSS. -/
set_option linter.unusedVariables false
set_option linter.unusedSimpArgs false
namespace Go.Proofs.YtnpaidieijlkkabDoor
open Go.RowKit Go.Shelf

def psB (k bits : Int) (n : Nat) : Bool := decide (okB k n = true ∧ 1 ≤ bits ∧ bits ≤ 65536)
set_option maxRecDepth 100000 in
theorem pencodable_any (w : World) (k bits : Int) (A : Option Addr) (n c : Nat) :
    Calls Tryd.prog 13 #[.int .i64 k, .int .i64 bits, .slice A n c] w fun e w' => e = .returned (.bool (psB k bits n)) ∧ w = w' := by
  have hi := pishash_any w k A n c
  cases hb : okB k n with
  | false =>
    rw [hb] at hi
    have HI := Lib.hid hi
    have e : psB k bits n = false := by rw [psB, hb]; exact decide_eq_false (fun h => by cases h.1)
    rw [e]
    clear hi hb e
    go_enter Tryd.func13, Tryd.ntmps13
    go_wp2_with fail
    refine HI.out.mono ?_
    rintro e w' ⟨rfl, rfl⟩
    go_wp2
    go_ret
    exact ⟨rfl, rfl⟩
  | true =>
    rw [hb] at hi
    have HI := Lib.hid hi
    by_cases h1 : 1 ≤ bits
    · by_cases h2 : bits ≤ 65536
      · have e : psB k bits n = true := by rw [psB, hb]; exact decide_eq_true ⟨rfl, h1, h2⟩
        rw [e]
        clear hi hb e
        go_enter Tryd.func13, Tryd.ntmps13
        go_wp2_with fail
        refine HI.out.mono ?_
        rintro e w' ⟨rfl, rfl⟩
        go_wp2
        go_ret
        exact ⟨by first | rfl | simp [h1, h2], rfl⟩
      · have e : psB k bits n = false := by rw [psB, hb]; exact decide_eq_false (fun h => h2 h.2.2)
        rw [e]
        clear hi hb e
        go_enter Tryd.func13, Tryd.ntmps13
        go_wp2_with fail
        refine HI.out.mono ?_
        rintro e w' ⟨rfl, rfl⟩
        go_wp2
        go_ret
        exact ⟨by first | rfl | simp [h1, h2], rfl⟩
    · have e : psB k bits n = false := by rw [psB, hb]; exact decide_eq_false (fun h => h1 h.2.1)
      rw [e]
      clear hi hb e
      go_enter Tryd.func13, Tryd.ntmps13
      go_wp2_with fail
      refine HI.out.mono ?_
      rintro e w' ⟨rfl, rfl⟩
      go_wp2
      go_ret
      exact ⟨by first | rfl | simp [h1], rfl⟩
theorem pbytesof_any (w : World) (bits N : Nat) (h1 : 1 ≤ bits) (h2 : bits ≤ 65536) (hN : (bits + 7) / 8 = N) :
    Calls Tryd.prog 14 #[.int .i64 (bits : Int)] w fun e w' => e = .returned (.int .i64 (N : Int)) ∧ w = w' := by
  have k1 : (1 : Int) ≤ bits := by omega
  have k2 : (bits : Int) ≤ 65536 := by omega
  have hd : ((bits : Int) + 7) / 8 = (N : Int) := by omega
  clear hN
  go_enter Tryd.func14, Tryd.ntmps14
  go_wp2
  go_ret
  refine ⟨?_, rfl⟩
  show Ending.returned (.int .i64 (((bits : Int) + 7) / 8)) = _
  rw [hd]
def headAnd (s : Nat) : List (BitVec 8) → List (BitVec 8)
  | [] => []
  | x :: l => (x &&& ((0xff : BitVec 8) >>> s)) :: l
theorem headAnd_length (s : Nat) (l : List (BitVec 8)) : (headAnd s l).length = l.length := by cases l <;> rfl
def pssH (k : Int) (hash salt : List (BitVec 8)) : List (BitVec 8) := sumK k (List.replicate 8 0 ++ (hash ++ salt))
def pssBlk (Z : Nat) (salt : List (BitVec 8)) : List (BitVec 8) := List.replicate Z 0 ++ ([1] ++ salt)
def pssL (k : Int) (Z s : Nat) (hash salt : List (BitVec 8)) : List (BitVec 8) := headAnd s (maskK k (pssBlk Z salt) (pssH k hash salt)) ++ (pssH k hash salt ++ [0xbc])
set_option maxRecDepth 100000 in
theorem pencpss_no1 (w : World) (k bits : Int) (A : Option Addr) (n c : Nat) (v : Value) (h : psB k bits n = false) :
    Calls Tryd.prog 6 #[.int .i64 k, .int .i64 bits, .slice A n c, v] w fun e w' => e = .returned (.tuple #[.slice none 0 0, .int .i64 7]) ∧ w = w' := by
  have hi := pencodable_any w k bits A n c
  rw [h] at hi
  have HI := Lib.hid hi
  clear hi h
  go_enter Tryd.func6, Tryd.ntmps6
  go_wp2_with fail
  refine HI.out.mono ?_
  rintro e w' ⟨rfl, rfl⟩
  go_wp2
  go_ret2
  exact ⟨rfl, rfl⟩
set_option maxRecDepth 100000 in
theorem pencpss_no2 (w : World) (k : Int) (bits N : Nat) (A : Option Addr) (n c : Nat) (A2 : Option Addr) (n2 c2 : Nat) (h : psB k (bits : Int) n = true) (hN : (bits + 7) / 8 = N) (hn2 : n2 ≤ 1000000) (hsm : N < n + n2 + 2) :
    Calls Tryd.prog 6 #[.int .i64 k, .int .i64 (bits : Int), .slice A n c, .slice A2 n2 c2] w fun e w' => e = .returned (.tuple #[.slice none 0 0, .int .i64 33]) ∧ w = w' := by
  have hi := pencodable_any w k (bits : Int) A n c
  rw [h] at hi
  obtain ⟨hok, hb1, hb2⟩ := of_decide_eq_true h
  obtain ⟨hk, hn⟩ := okB_kind hok
  have hle := szN_le hk
  have hbo := pbytesof_any w bits N (by omega) (by omega) hN
  have k1 : (n : Int) ≤ 64 := by omega
  have k2 : (n2 : Int) ≤ 1000000 := by omega
  have k3 : (N : Int) ≤ 8192 := by omega
  have k4 : (N : Int) - n - n2 - 2 < 0 := by omega
  have HI := Lib.hid hi
  have HBO := Lib.hid hbo
  clear hi hbo h hok hk hn hle hN hsm hn2
  go_enter Tryd.func6, Tryd.ntmps6
  go_wp2_with fail
  refine HI.out.mono ?_
  rintro e w' ⟨rfl, rfl⟩
  go_wp2_with fail
  refine HBO.out.mono ?_
  rintro e w' ⟨rfl, rfl⟩
  go_wp2
  go_ret2
  exact ⟨rfl, rfl⟩
theorem b8_and (x y : BitVec 8) : bits .and .u8 (i8 x) (i8 y) = i8 (x &&& y) := by
  unfold i8; rw [u8_and_nat _ _ x.isLt y.isLt, BitVec.toNat_and]
theorem psh8 (s : Nat) (h : s ≤ 7) (V : World) : Sem.run Tryd.prog (Op.shift .shr .u8 255 .i64 (s : Int)) V = .ok (W8 ((0xff : BitVec 8) >>> s)) V := by
  rcases (by omega : s = 0 ∨ s = 1 ∨ s = 2 ∨ s = 3 ∨ s = 4 ∨ s = 5 ∨ s = 6 ∨ s = 7) with rfl | rfl | rfl | rfl | rfl | rfl | rfl | rfl <;> rfl
theorem psh8' (s : Nat) (h : s ≤ 7) : (255 : Int) / 2 ^ s = i8 ((0xff : BitVec 8) >>> s) := by
  rcases (by omega : s = 0 ∨ s = 1 ∨ s = 2 ∨ s = 3 ∨ s = 4 ∨ s = 5 ∨ s = 6 ∨ s = 7) with rfl | rfl | rfl | rfl | rfl | rfl | rfl | rfl <;> rfl
set_option maxRecDepth 100000 in
set_option maxHeartbeats 4000000 in
theorem pencpss_ok (w : World) (k : Int) (hGS : StartsG w) (hGR : RootsG w) (bits N : Nat) (hN : (bits + 7) / 8 = N) (B : Nat) (A1 : Option Addr) (n1 c1 : Nat) (hash : List (BitVec 8)) (h1 : SlV w B A1 n1 c1 (hash.map W8)) (z1 : A1 = none → c1 = 0) (h : psB k (bits : Int) n1 = true)
    (A2 : Option Addr) (n2 c2 : Nat) (salt : List (BitVec 8)) (h2 : SlV w B A2 n2 c2 (salt.map W8)) (z2 : A2 = none → c2 = 0) (hB : B ≤ w.heap.size) (Z : Nat) (hZ : n1 + n2 + 2 + Z = N) :
    Calls Tryd.prog 6 #[.int .i64 k, .int .i64 (bits : Int), .slice A1 n1 c1, .slice A2 n2 c2] w fun e w' => ∃ v, e = .returned (.tuple #[v, .int .i64 0]) ∧ FreshV w' w.heap.size v (pssL k Z (8 * N - bits) hash salt) ∧ Below w.heap.size w w' := by
  have hi := pencodable_any w k (bits : Int) A1 n1 c1
  rw [h] at hi
  obtain ⟨hok, hb1, hb2⟩ := of_decide_eq_true h
  obtain ⟨hk, hn⟩ := okB_kind hok
  have hle := szN_le hk
  have hbo : ∀ V : World, Calls Tryd.prog 14 #[.int .i64 (bits : Int)] V fun e w' => e = .returned (.int .i64 (N : Int)) ∧ V = w' := fun V => pbytesof_any V bits N (by omega) (by omega) hN
  have k1 : (n1 : Int) ≤ 64 := by omega
  have k2 : (n2 : Int) ≤ 8192 := by omega
  have k3 : (N : Int) ≤ 8192 := by omega
  have k4 : (N : Int) - n1 - n2 - 2 = (Z : Int) := by omega
  have k5 : (Z : Int) ≤ 8192 := by omega
  have hl1 : hash.length = n1 := by simpa using h1.len.symm
  have hl2 : salt.length = n2 := by simpa using h2.len.symm
  obtain ⟨s, hs⟩ : ∃ s, 8 * N - bits = s := ⟨_, rfl⟩
  have k6 : 8 * (N : Int) - (bits : Int) = (s : Int) := by omega
  have k7 : (s : Int) ≤ 7 := by omega
  rw [hs]
  have HI := Lib.hid hi
  have HBO := Lib.hid hbo
  have HG := Lib.hid (⟨hGS, hGR⟩ : StartsG w ∧ RootsG w)
  have P1 := Lib.hid ((Pc.of_sl h1 z1).more hB)
  have P2 := Lib.hid ((Pc.of_sl h2 z2).more hB)
  have HL := Lib.hid (⟨hl1, hl2⟩ : hash.length = n1 ∧ salt.length = n2)
  have HN := Lib.hid (⟨hk, hn, hZ, hle.1, hle.2.2, by omega⟩ : KindOk k ∧ n1 = szN k ∧ n1 + n2 + 2 + Z = N ∧ 20 ≤ szN k ∧ szN k ≤ 64 ∧ N ≤ 8192)
  clear hi hbo h hok hk hn hle hN hZ hs h1 h2 z1 z2 hB hGS hGR hl1 hl2
  go_enter Tryd.func6, Tryd.ntmps6
  go_wp2_with fail
  refine HI.out.mono ?_
  rintro e w' ⟨rfl, rfl⟩
  go_wp2_with fail
  refine (HBO.out _).mono ?_
  rintro e w' ⟨rfl, rfl⟩
  have k8 : ¬ (N : Int) - n1 - n2 - 2 < 0 := by omega
  clear HI
  go_wp2_with (at_make; refine wlv_make Tryd.elem8 rfl _ rfl _ 8 rfl rfl (by omega) ?_; intro w1 hr1 hb1 hz1; clear hz1)
  have hz8 : FreshV w1 w.heap.size (.slice (some ⟨w.heap.size, 0, none⟩) 8 8) (List.replicate 8 0) := FreshV.row_ (by rw [List.map_replicate]; exact hr1) (Nat.le_refl _) (by simp) (by decide)
  have hof := ofA w1 k (HG.out.1.later hb1) (HG.out.2.later hb1) [.slice (some ⟨w.heap.size, 0, none⟩) 8 8, .slice A1 n1 c1, .slice A2 n2 c2] #[.slice (some ⟨w.heap.size, 0, none⟩) 8 8, .slice A1 n1 c1, .slice A2 n2 c2] rfl [List.replicate 8 0, hash, salt] ⟨hz8.pc, P1.out.up hb1, P2.out.up hb1, trivial⟩ 3 rfl (by decide) (by have := HL.out; have := HN.out; simp; omega)
  rw [show ([List.replicate 8 0, hash, salt] : List (List (BitVec 8))).flatten = List.replicate 8 0 ++ (hash ++ salt) by simp] at hof
  have HOF := Lib.hid hof
  have HB1 := Lib.hid hb1
  clear hof hr1 hb1 hz8
  go_wp2_with fail
  refine HOF.out.mono ?_
  rintro e w2 ⟨v2, rfl, hf2, hb2⟩
  obtain ⟨Ah, nh, ch, rfl⟩ := hf2.form
  have hnh : nh = n1 := by rw [hf2.len_, sumK_len HN.out.1, HN.out.2.1]
  obtain ⟨H, hH⟩ : ∃ l, sumK k (List.replicate 8 0 ++ (hash ++ salt)) = l := ⟨_, rfl⟩
  rw [hH] at hf2
  have hb02 : Below w.heap.size w w2 := HB1.out.trans (hb2.mono HB1.out.size)
  have HF2 := Lib.hid hf2
  have HH := Lib.hid hH
  have HB2 := Lib.hid hb02
  have HNH := Lib.hid hnh
  clear hf2 hH hb02 hb2 hnh HOF HB1
  go_wp2_with (at_make; refine wlv_make Tryd.elem8 rfl _ rfl _ Z rfl rfl (by omega) ?_; intro w3 hr3 hb3 hz3; clear hz3; obtain ⟨W4, e4⟩ : ∃ W, w3.alloc (.cells #[.int .u8 1] 5) = W := ⟨_, rfl⟩)
  have hz3 : FreshV w3 w2.heap.size (.slice (some ⟨w2.heap.size, 0, none⟩) Z Z) (List.replicate Z 0) := FreshV.row_ (by rw [List.map_replicate]; exact hr3) (Nat.le_refl _) (by simp) (by omega)
  obtain ⟨hf4, hb4⟩ := freshA w3 [1] #[.int .u8 1] rfl 1 rfl (by decide)
  rw [e4] at hf4 hb4
  have hb24 : Below w2.heap.size w2 W4 := hb3.trans (hb4.mono hb3.size)
  have hb04 : Below w.heap.size w W4 := HB2.out.trans (hb24.mono HB2.out.size)
  have hcc := concatA W4 [.slice (some ⟨w2.heap.size, 0, none⟩) Z Z, .slice (some ⟨w3.heap.size, 0, none⟩) 1 1, .slice A2 n2 c2] #[.slice (some ⟨w2.heap.size, 0, none⟩) Z Z, .slice (some ⟨w3.heap.size, 0, none⟩) 1 1, .slice A2 n2 c2] rfl [List.replicate Z 0, [1], salt] ⟨(hz3.up hb4).pc, hf4.pc, P2.out.up hb04, trivial⟩ 3 rfl (by decide) (by have := HL.out; have := HN.out; simp; omega)
  have hblk : [List.replicate Z 0, [1], salt].flatten = pssBlk Z salt := by simp [pssBlk]
  have hbl : (pssBlk Z salt).length = Z + 1 + n2 := by have := HL.out.2; simp [pssBlk]; omega
  rw [hblk] at hcc
  obtain ⟨blk, hbk⟩ : ∃ l, pssBlk Z salt = l := ⟨_, rfl⟩
  rw [hbk] at hcc hbl
  have HCC := Lib.hid hcc
  have HBK := Lib.hid (⟨hbk, hbl⟩ : pssBlk Z salt = blk ∧ blk.length = Z + 1 + n2)
  have HB4 := Lib.hid hb04
  have HF4 := Lib.hid (HF2.out.up hb24)
  clear hcc hblk hbl hbk hf4 hb4 hb24 hb04 hz3 hr3 hb3 HF2 HB2
  go_wp2_with fail
  refine HCC.out.mono ?_
  rintro e w5 ⟨v5, rfl, hf5, hb5⟩
  obtain ⟨Ab, nb, cb, rfl⟩ := hf5.form
  have hnb : nb = Z + 1 + n2 := by rw [hf5.len_, HBK.out.2]
  have hb05 : Below w.heap.size w w5 := HB4.out.trans (hb5.mono HB4.out.size)
  obtain ⟨sB, zB⟩ := hf5.pc.sl
  obtain ⟨sH, zH⟩ := (HF4.out.up hb5).pc.sl
  have hma := pmasked_any w5 k HN.out.1 (HG.out.1.later hb05) (HG.out.2.later hb05) w5.heap.size Ab nb cb blk sB Ah nh ch H sH zH (Nat.le_refl _) (by omega) (by have := HN.out; omega) (by have := HN.out; have := HNH.out; omega)
  have hmk : xorL blk (mgfL k H nb) = maskK k blk H := by rw [maskK, HBK.out.2, hnb]
  rw [hmk] at hma
  have HMA := Lib.hid hma
  have HB5 := Lib.hid hb05
  have HF5 := Lib.hid (HF4.out.up hb5)
  have HNB := Lib.hid hnb
  clear hma hmk hb05 hnb sB zB sH zH hf5 hb5 HCC HB4 HF4
  go_wp2_with fail
  refine HMA.out.mono ?_
  rintro e w6 ⟨v6, rfl, hown6, hb6⟩
  obtain ⟨g6, c6, ys, rfl, hg6, hr6, hyl, hnc, hcm, htk⟩ := own_row2 hown6 (by have := HNB.out; omega)
  obtain ⟨hid, hhd⟩ : ∃ l, maskK k blk H = l := ⟨_, rfl⟩
  rw [hhd] at htk
  obtain ⟨x, t, hx⟩ : ∃ x t, hid = x :: t := by
    cases hid with
    | nil =>
      exfalso
      have h := congrArg List.length hhd
      rw [maskK_length HN.out.1, HBK.out.2] at h
      simp at h
    | cons x t => exact ⟨x, t, rfl⟩
  have hy0 : ys[0]? = some (W8 x) := by
    have h := congrArg (fun l => l[0]?) htk
    rw [hx] at h
    simp only [List.getElem?_take, List.map_cons, List.getElem?_cons_zero] at h
    rw [if_pos (by have := HNB.out; omega)] at h
    exact h
  have hc0 : w6.cell? ⟨g6, 0, none⟩ = some (W8 x) := hr6.at_ hy0
  have hf0 := hr6.frozen 0
  have knb : (0 : Int) < nb := by have := HNB.out; omega
  have kc6 : (0 : Int) < c6 := by omega
  have hr7 := hr6.set 0 (W8 (x &&& ((0xff : BitVec 8) >>> s)))
  have HR7 := Lib.hid hr7
  have HB6 := Lib.hid (HB5.out.trans (hb6.mono HB5.out.size))
  have HYB := Lib.hid (show w.heap.size ≤ g6 from Nat.le_trans HB5.out.size hg6)
  have HB56 := Lib.hid hb6
  have HY := Lib.hid (⟨hg6, hyl, hnc, hcm, htk, hhd, hx⟩ : w5.heap.size ≤ g6 ∧ ys.length = c6 ∧ nb ≤ c6 ∧ c6 ≤ maxLen ∧ ys.take nb = hid.map W8 ∧ maskK k blk H = hid ∧ hid = x :: t)
  clear hr7 hown6 hb6 hg6 hr6 hyl hnc hcm htk hhd hx hy0 HMA HB5
  have hmx : Tryd.prog.follows .mixedOrders = true := by kernel_rfl
  have m1 : IntKind.i64.wrap (8 * (N : Int)) = 8 * (N : Int) := by rw [IntKind.wrap_i64]; omega
  have m2 : IntKind.i64.wrap (8 * (N : Int) - (bits : Int)) = (s : Int) := by rw [IntKind.wrap_i64]; omega
  have hsh : ∀ V : World, Sem.run Tryd.prog (Op.shift .shr .u8 255 .i64 (s : Int)) V = .ok (W8 ((0xff : BitVec 8) >>> s)) V := psh8 s (by omega)
  have knb0 : ¬ nb = 0 := by omega
  have hsh2 : (255 : Int) / 2 ^ s = i8 ((0xff : BitVec 8) >>> s) := psh8' s (by omega)
  have hand := b8_and x ((0xff : BitVec 8) >>> s)
  go_wp2_with fail
  refine (wpIn_wide (n := 9)).1 (wpIn_region_pure rfl hmx [(44, .slice (some ⟨g6, 0, none⟩) nb c6), (45, .pointer (some ⟨g6, 0, none⟩)), (46, W8 x), (47, .int .i64 (bits : Int)), (48, .int .i64 (N : Int)), (49, .int .i64 (8 * (N : Int))), (50, .int .i64 (bits : Int)), (51, .int .i64 (s : Int)), (52, W8 ((0xff : BitVec 8) >>> s)), (53, W8 (x &&& ((0xff : BitVec 8) >>> s))), (54, .pointer (some ⟨g6, 0, none⟩))] (by kernel_rfl) (by kernel_rfl) (by kernel_rfl) (by kernel_rfl) (by first | rfl | simp) 11 (w6.setCell ⟨g6, 0, none⟩ (W8 (x &&& ((0xff : BitVec 8) >>> s)))) rfl (by kernel_rfl) ?ops7 ?last7 ?end7)
  case ops7 =>
    intro i o hi ho
    have hi2 : i = 0 ∨ i = 1 ∨ i = 2 ∨ i = 3 ∨ i = 4 ∨ i = 5 ∨ i = 6 ∨ i = 7 ∨ i = 8 ∨ i = 9 ∨ i = 10 := by omega
    rcases hi2 with rfl | rfl | rfl | rfl | rfl | rfl | rfl | rfl | rfl | rfl | rfl
    all_goals
      have ho' := ho
      simp only [List.getElem?_toArray, List.getElem?_cons_zero, List.getElem?_cons_succ, Option.some.injEq] at ho'
      subst ho'
      refine ⟨(by intro c h; cases h), fun q => ⟨fun _ _ => trivial, ?_⟩⟩
    · exact .inl (by simp [execOp, evP, valP, Act.eval, List.lookup_cons])
    · exact .inl (by simp [execOp, evP, valP, Act.eval, List.lookup_cons, go_sem, knb, knb0])
    · exact .inl (by simp [execOp, evP, valP, Act.eval, List.lookup_cons, go_sem, hc0])
    · exact .inl (by simp [execOp, evP, valP, Act.eval, List.lookup_cons])
    · refine .inr ⟨14, #[.int .i64 (bits : Int)], ?_, (callsIn_wide.2 (HBO.out _)).mono ?_⟩
      · simp [execOp, evP, valP, Act.eval, List.lookup_cons, go_sem]
      · rintro e w' ⟨rfl, rfl⟩
        exact ⟨rfl, 0, rfl⟩
    · exact .inl (by simp [execOp, evP, valP, Act.eval, List.lookup_cons, go_sem, m1])
    · exact .inl (by simp [execOp, evP, valP, Act.eval, List.lookup_cons])
    · exact .inl (by simp [execOp, evP, valP, Act.eval, List.lookup_cons, go_sem, m2])
    · exact .inl (by simp [execOp, evP, valP, Act.eval, List.lookup_cons, go_sem]; exact hsh2)
    · exact .inl (by simp [execOp, evP, valP, Act.eval, List.lookup_cons, go_sem]; exact hand)
    · exact .inl (by simp [execOp, evP, valP, Act.eval, List.lookup_cons, go_sem, knb, knb0])
  case last7 =>
    intro o ho
    have ho' := ho
    simp only [List.getElem?_toArray, List.getElem?_cons_zero, List.getElem?_cons_succ, Option.some.injEq] at ho'
    subst ho'
    refine ⟨(by intro c h; cases h), fun q => ⟨fun _ _ => trivial, .inl ⟨?_, rfl⟩⟩⟩
    simp [execOp, evP, valP, Act.eval, List.lookup_cons, go_sem, hc0, hf0]
    try rfl
  case end7 =>
    intro q
    simp [wrote, valP, Act.put, List.lookup_cons]
    obtain ⟨W7, e7⟩ : ∃ W, (w6.setCell ⟨g6, 0, none⟩ (W8 (x &&& ((0xff : BitVec 8) >>> s)))).drewN q = W := ⟨_, rfl⟩
    have hb57 : Below w5.heap.size w5 W7 := by rw [← e7]; exact below_drewN (below_setV HB56.out HY.out.1 0 _) q
    have hb07 : Below w.heap.size w W7 := by rw [← e7]; exact below_drewN (below_setV HB6.out (by have := HYB.out; omega) 0 _) q
    have hr7 : RowV 5 W7 g6 (ys.set 0 (W8 (x &&& ((0xff : BitVec 8) >>> s)))) := by rw [← e7]; exact HR7.out
    have hown7 : W7.ownsRow w5.heap.size 5 1 (.slice (some ⟨g6, 0, none⟩) nb c6) nb ((headAnd s hid).map W8) := by
      refine own_of_row hr7 HY.out.1 (by rw [List.length_set]; exact HY.out.2.1) HY.out.2.2.1 HY.out.2.2.2.1 ?_
      rw [List.take_set, HY.out.2.2.2.2.1, HY.out.2.2.2.2.2.2]
      rfl
    rw [show (255#8 : BitVec 8) = 0xff from rfl, e7]
    have hf7 : FreshV W7 w5.heap.size (.slice (some ⟨g6, 0, none⟩) nb c6) (headAnd s hid) := FreshV.of_own hown7
    obtain ⟨hf8, hb8⟩ := freshA W7 [0xbc] #[.int .u8 188] rfl 1 rfl (by decide)
    obtain ⟨W8', e8⟩ : ∃ W, W7.alloc (.cells #[.int .u8 188] 5) = W := ⟨_, rfl⟩
    rw [e8] at hf8 hb8
    have hcd := concatA W8' [.slice (some ⟨g6, 0, none⟩) nb c6, .slice Ah nh ch, .slice (some ⟨W7.heap.size, 0, none⟩) 1 1] #[.slice (some ⟨g6, 0, none⟩) nb c6, .slice Ah nh ch, .slice (some ⟨W7.heap.size, 0, none⟩) 1 1] rfl [headAnd s hid, H, [0xbc]] ⟨(hf7.up hb8).pc, (HF5.out.up (hb57.trans (hb8.mono hb57.size))).pc, hf8.pc, trivial⟩ 3 rfl (by decide) (by have h1 := (HF5.out.up (hb57.trans (hb8.mono hb57.size))).len_; have h2 := hf7.len_; have := HN.out; have := HNH.out; have := HNB.out; simp; omega)
    have hfin : [headAnd s hid, H, [0xbc]].flatten = pssL k Z s hash salt := by
      rw [pssL, pssH, HH.out, HBK.out.1, HY.out.2.2.2.2.2.1]; simp
    rw [hfin] at hcd
    have HCD := Lib.hid hcd
    have HB8 := Lib.hid (hb07.trans (hb8.mono hb07.size))
    clear hcd hfin hown7 hr7 hf7 hf8 hb8 hb07 hb57 HR7 HB56
    go_wp2_with fail
    refine HCD.out.mono ?_
    rintro e w9 ⟨v9, rfl, hf9, hb9⟩
    have HF9 := Lib.hid (hf9.mono_ HB8.out.size)
    have HB9 := Lib.hid (HB8.out.trans (hb9.mono HB8.out.size))
    clear hf9 hb9
    go_wp2
    go_ret2
    exact ⟨_, rfl, HF9.out, HB9.out⟩
end Go.Proofs.YtnpaidieijlkkabDoor

/- pad: VerPSS. -/
set_option linter.unusedVariables false
set_option linter.unusedSimpArgs false
namespace Go.Proofs.YtnpaidieijlkkabDoor
open Go.RowKit Go.Shelf

/-- the salt that stands in an encoding -/
def verSalt (k : Int) (N h s : Nat) (em : List (BitVec 8)) : List (BitVec 8) := (maskK k (em.take (N - h - 1)) ((em.drop (N - h - 1)).take h)).drop (N - h - 1 - s)
set_option maxRecDepth 100000 in
theorem pverpss_no1 (w : World) (k bits : Int) (A : Option Addr) (n c : Nat) (v v5 : Value) (h : psB k bits n = false) :
    Calls Tryd.prog 7 #[.int .i64 k, .int .i64 bits, .slice A n c, v, v5] w fun e w' => e = .returned (.bool false) ∧ w = w' := by
  have hi := pencodable_any w k bits A n c
  rw [h] at hi
  have HI := Lib.hid hi
  clear hi h
  go_enter Tryd.func7, Tryd.ntmps7
  go_wp2_with fail
  refine HI.out.mono ?_
  rintro e w' ⟨rfl, rfl⟩
  go_wp2
  go_ret
  exact ⟨rfl, rfl⟩
set_option maxRecDepth 100000 in
theorem pverpss_no2 (w : World) (k : Int) (bits N : Nat) (A : Option Addr) (n c : Nat) (A3 : Option Addr) (n3 c3 : Nat) (v5 : Value) (h : psB k (bits : Int) n = true) (hN : (bits + 7) / 8 = N) (hne : n3 ≠ N) :
    Calls Tryd.prog 7 #[.int .i64 k, .int .i64 (bits : Int), .slice A n c, .slice A3 n3 c3, v5] w fun e w' => e = .returned (.bool false) ∧ w = w' := by
  have hi := pencodable_any w k (bits : Int) A n c
  rw [h] at hi
  obtain ⟨hok, hb1, hb2⟩ := of_decide_eq_true h
  have hbo := pbytesof_any w bits N (by omega) (by omega) hN
  have k1 : ¬ (n3 : Int) = (N : Int) := by omega
  have k2 : ((n3 : Int) != (N : Int)) = true := by simpa using k1
  have HI := Lib.hid hi
  have HBO := Lib.hid hbo
  clear hi hbo h hok hN hne
  go_enter Tryd.func7, Tryd.ntmps7
  go_wp2_with fail
  refine HI.out.mono ?_
  rintro e w' ⟨rfl, rfl⟩
  go_wp2_with fail
  refine HBO.out.mono ?_
  rintro e w' ⟨rfl, rfl⟩
  go_wp2
  go_ret
  exact ⟨rfl, rfl⟩
set_option maxRecDepth 100000 in
theorem pverpss_no3 (w : World) (k : Int) (bits N : Nat) (A : Option Addr) (n c : Nat) (A3 : Option Addr) (c3 : Nat) (s : Int) (h : psB k (bits : Int) n = true) (hN : (bits + 7) / 8 = N) (hs : s < 0 ∨ (N : Int) - n - 1 ≤ s) :
    Calls Tryd.prog 7 #[.int .i64 k, .int .i64 (bits : Int), .slice A n c, .slice A3 N c3, .int .i64 s] w fun e w' => e = .returned (.bool false) ∧ w = w' := by
  have hi := pencodable_any w k (bits : Int) A n c
  rw [h] at hi
  obtain ⟨hok, hb1, hb2⟩ := of_decide_eq_true h
  obtain ⟨hk, hn⟩ := okB_kind hok
  have hle := szN_le hk
  have hbo := pbytesof_any w bits N (by omega) (by omega) hN
  have k1 : ((N : Int) != (N : Int)) = false := by simp
  have k2 : (n : Int) ≤ 64 := by omega
  have k3 : (N : Int) ≤ 8192 := by omega
  have HI := Lib.hid hi
  have HBO := Lib.hid hbo
  clear hi hbo h hok hN hk hn hle
  by_cases hs0 : s < 0
  · clear hs
    go_enter Tryd.func7, Tryd.ntmps7
    go_wp2_with fail
    refine HI.out.mono ?_
    rintro e w' ⟨rfl, rfl⟩
    go_wp2_with fail
    refine HBO.out.mono ?_
    rintro e w' ⟨rfl, rfl⟩
    go_wp2
    go_ret
    exact ⟨rfl, rfl⟩
  · have hs1 : (N : Int) - n - 1 ≤ s := by omega
    have hs2 : 0 ≤ s := by omega
    clear hs hs0
    go_enter Tryd.func7, Tryd.ntmps7
    go_wp2_with fail
    refine HI.out.mono ?_
    rintro e w' ⟨rfl, rfl⟩
    go_wp2_with fail
    refine HBO.out.mono ?_
    rintro e w' ⟨rfl, rfl⟩
    go_wp2
    go_ret
    exact ⟨rfl, rfl⟩
set_option maxRecDepth 100000 in
set_option maxHeartbeats 4000000 in
theorem pverpss_run (w : World) (k : Int) (hGS : StartsG w) (hGR : RootsG w) (bits N : Nat) (hN : (bits + 7) / 8 = N) (B : Nat) (A1 : Option Addr) (n1 c1 : Nat) (hash : List (BitVec 8)) (h1 : SlV w B A1 n1 c1 (hash.map W8)) (z1 : A1 = none → c1 = 0) (h : psB k (bits : Int) n1 = true)
    (A3 : Option Addr) (c3 : Nat) (em : List (BitVec 8)) (h3 : SlV w B A3 N c3 (em.map W8)) (hB : B ≤ w.heap.size) (s : Nat) (hs : s + n1 + 1 < N) :
    Calls Tryd.prog 7 #[.int .i64 k, .int .i64 (bits : Int), .slice A1 n1 c1, .slice A3 N c3, .int .i64 (s : Int)] w fun e w' => e = .returned (.bool (decide (pssL k (N - n1 - s - 2) (8 * N - bits) hash (verSalt k N n1 s em) = em))) ∧ Below w.heap.size w w' := by
  obtain ⟨R, hR⟩ : ∃ b, decide (pssL k (N - n1 - s - 2) (8 * N - bits) hash (verSalt k N n1 s em) = em) = b := ⟨_, rfl⟩
  rw [hR]
  have HR := Lib.hid hR
  clear hR
  have hi := pencodable_any w k (bits : Int) A1 n1 c1
  rw [h] at hi
  obtain ⟨hok, hb1, hb2⟩ := of_decide_eq_true h
  obtain ⟨hk, hn⟩ := okB_kind hok
  have hle := szN_le hk
  have hbo := pbytesof_any w bits N (by omega) (by omega) hN
  have hel : em.length = N := by simpa using h3.len.symm
  obtain ⟨e, he⟩ : ∃ e, N - n1 - 1 = e := ⟨_, rfl⟩
  obtain ⟨b, o, _, rfl, _⟩ := h3.at_ (k := 0) (by omega)
  have hcap := h3.cap
  have k1 : ((N : Int) != (N : Int)) = false := by simp
  have k2 : (n1 : Int) ≤ 64 := by omega
  have k3 : (N : Int) ≤ 8192 := by omega
  have k4 : (N : Int) - n1 - 1 = (e : Int) := by omega
  have k5 : (s : Int) < e := by omega
  have k6 : ¬ (s : Int) < 0 := by omega
  have k7 : ¬ (e : Int) ≤ s := by omega
  obtain ⟨t, ht⟩ : ∃ t, N - 1 = t := ⟨_, rfl⟩
  have k8 : (e : Int) ≤ t := by omega
  have k13 : (t : Int) ≤ c3 := by omega
  have k14 : (t : Int) ≤ 8192 := by omega
  have k18 : (e : Int) ≤ c3 := by omega
  have k19 : (0 : Int) ≤ e := by omega
  have k20 : IntKind.i64.wrap (e : Int) = (e : Int) := by rw [IntKind.wrap_i64]; omega
  have k21 : (e : Int) ≤ 8192 := by omega
  have k22 : (e : Int) ≤ N := by omega
  have k15 : IntKind.i64.wrap (t : Int) = (t : Int) := by rw [IntKind.wrap_i64]; omega
  have k9 : (N : Int) ≤ c3 := by omega
  have k10 : ¬ c3 = e := by omega
  obtain ⟨p, hp⟩ : ∃ p, e - s = p := ⟨_, rfl⟩
  have k11 : (e : Int) - (s : Int) = (p : Int) := by omega
  have k16 : (p : Int) ≤ e := by omega
  have k17 : (1 : Int) ≤ p := by omega
  have k12 : (N : Int) - 1 = (t : Int) := by omega
  have sA := h3.take (k := e) (by omega)
  rw [← List.map_take] at sA
  have sD := (h3.drop (k := e) (by omega)).take (k := t - e) (by omega)
  rw [← List.map_drop, ← List.map_take, show (em.drop e).take (t - e) = (em.drop e).take n1 by congr 1; omega] at sD
  obtain ⟨X, hX⟩ : ∃ l, em.take e = l := ⟨_, rfl⟩
  obtain ⟨D, hD⟩ : ∃ l, (em.drop e).take n1 = l := ⟨_, rfl⟩
  rw [hX] at sA
  rw [hD] at sD
  have hXl : X.length = e := by simpa using sA.len.symm
  have hma : ∀ V, Below w.heap.size w V → Calls Tryd.prog 16 #[.int .i64 k, .slice (some ⟨b, o, none⟩) e c3, .slice (some ⟨b, o + e, none⟩) (t - e) (c3 - e)] V fun e' w' => ∃ v, e' = .returned v ∧ w'.ownsRow w.heap.size 5 1 v e ((maskK k X D).map W8) ∧ Below w.heap.size w w' := fun V hV => by
    have hm := pmasked_any V k hk (hGS.later hV) (hGR.later hV) B (some ⟨b, o, none⟩) e c3 X (sA.below (hV.mono hB)) (some ⟨b, o + e, none⟩) (t - e) (c3 - e) D (sD.below (hV.mono hB)) (fun x => by cases x) (Nat.le_trans hB hV.size) (by omega) (by omega) (by omega)
    refine hm.mono ?_
    rintro e' w' ⟨v, rfl, ho, hb⟩
    refine ⟨v, rfl, ?_, hV.trans (hb.mono hV.size)⟩
    rw [maskK, hXl]
    obtain ⟨g, c, ys, rfl, hg, hr, hyl, hnc, hcm, htk⟩ := own_row2 ho (by omega)
    exact own_of_row hr (Nat.le_trans hV.size hg) hyl hnc hcm htk
  have hZ : n1 + s + 2 + (N - n1 - s - 2) = N := by omega
  have hes : N - n1 - 1 - s = p ∧ e - p = s := by omega
  have HI := Lib.hid hi
  have HBO := Lib.hid hbo
  have HMA := Lib.hid hma
  have HG := Lib.hid (⟨hGS, hGR⟩ : StartsG w ∧ RootsG w)
  have HN := Lib.hid (⟨hk, hn, hN, hZ, hle.2.2, hel, he, hs, hes⟩ : KindOk k ∧ n1 = szN k ∧ (bits + 7) / 8 = N ∧ n1 + s + 2 + (N - n1 - s - 2) = N ∧ szN k ≤ 64 ∧ em.length = N ∧ N - n1 - 1 = e ∧ s + n1 + 1 < N ∧ (N - n1 - 1 - s = p ∧ e - p = s))
  have HPS := Lib.hid h
  have HXD := Lib.hid (⟨hX, hD, hXl⟩ : em.take e = X ∧ (em.drop e).take n1 = D ∧ X.length = e)
  have S1 := Lib.hid h1
  have S3 := Lib.hid h3
  have Z1 := Lib.hid z1
  have HBB := Lib.hid hB
  clear hi hbo hma h hok hk hn hle hN hel he hs ht hp hX hD hXl sA sD h1 h3 z1 hB hGS hGR hZ hes
  go_enter Tryd.func7, Tryd.ntmps7
  go_wp2_with fail
  refine HI.out.mono ?_
  rintro e' w' ⟨rfl, rfl⟩
  go_wp2_with fail
  refine HBO.out.mono ?_
  rintro e' w' ⟨rfl, rfl⟩
  clear HI HBO
  have hbd : Below w.heap.size w w.drew := (Below.refl _ w).drew
  go_wp2_with fail
  go_region_held3 (fun _ => True) (trivial)
    (first | (go_at_call 16; (with_reducible refine (HMA.out _ hbd).mono ?_); rintro e' w1 ⟨v1, rfl, hown1, hb1⟩))
  all_goals
    obtain ⟨g, c, ys, rfl, hg, hr, hyl, hnc, hcm, htk⟩ := own_row2 hown1 (by omega)
    have hsl := own_sl hown1
    have hdi := hsl.dropIf (k := p) (by omega)
    rw [← List.map_drop] at hdi
    obtain ⟨K, hK⟩ : ∃ l, (maskK k X D).drop p = l := ⟨_, rfl⟩
    rw [hK] at hdi
    have hvs : verSalt k N n1 s em = K := by
      have h9 := HN.out.2.2.2.2.2.2.2.2.1
      rw [verSalt, h9, HN.out.2.2.2.2.2.2.1, HXD.out.1, HXD.out.2.1, hK]
    have hen : ∀ (P : Option Addr) (m cc : Nat), SlV w1 w1.heap.size P m cc (K.map W8) → m = s → (P = none → cc = 0) → Calls Tryd.prog 6 #[.int .i64 k, .int .i64 (bits : Int), .slice A1 n1 c1, .slice P m cc] w1 fun e' w' => ∃ v, e' = .returned (.tuple #[v, .int .i64 0]) ∧ FreshV w' w1.heap.size v (pssL k (N - n1 - s - 2) (8 * N - bits) hash K) ∧ Below w1.heap.size w1 w' := fun P m cc hP hm hz => by
      subst hm
      exact pencpss_ok w1 k (HG.out.1.later hb1) (HG.out.2.later hb1) bits N HN.out.2.2.1 w1.heap.size A1 n1 c1 hash ((S1.out.below (hb1.mono HBB.out)).more (Nat.le_trans HBB.out hb1.size)) Z1.out HPS.out P m cc K hP hz (Nat.le_refl _) (N - n1 - m - 2) HN.out.2.2.2.1
    have HEN := Lib.hid hen
    have HDI := Lib.hid hdi
    have HB1 := Lib.hid hb1
    have HVS := Lib.hid hvs
    have kec : (e : Int) ≤ c := by omega
    have HES := Lib.hid HN.out.2.2.2.2.2.2.2.2.2
    have S31 := Lib.hid ((S3.out.below (hb1.mono HBB.out)).more (Nat.le_trans HBB.out hb1.size))
    clear hen hdi hb1 hvs hsl hown1 hg hr hyl hnc hcm htk hK
    by_cases hcc : c = p
    · subst hcc
      rw [if_pos rfl, Nat.sub_self] at HDI
      go_wp2_with fail
      refine (HEN.out _ _ _ HDI.out HES.out (fun x => by cases x)).mono ?_
      rintro e' w2 ⟨v2, rfl, hf2, hb2⟩
      obtain ⟨sV, zV⟩ : ∃ A n c, v2 = .slice A n c ∧ SlV w2 w2.heap.size A n c ((pssL k (N - n1 - s - 2) (8 * N - bits) hash K).map W8) := by
        obtain ⟨A, c', e0, hs0, _⟩ := hf2.sl
        exact ⟨A, _, c', e0, hs0⟩
      obtain ⟨n2, c2, rfl, hs2⟩ := zV
      have heq := equal_any w2 w2.heap.size sV n2 c2 _ hs2 w2.heap.size _ N c3 em ((S31.out.below hb2).more hb2.size)
      rw [← HVS.out, HR.out] at heq
      have HEQ := Lib.hid heq
      have HB2 := Lib.hid (HB1.out.trans (hb2.mono HB1.out.size))
      clear heq hs2 hf2 hb2
      go_wp2_with fail
      refine HEQ.out.mono ?_
      rintro e' w' ⟨rfl, rfl⟩
      go_wp2
      go_ret
      exact ⟨rfl, HB2.out⟩
    · rw [if_neg hcc, Nat.zero_add] at HDI
      go_wp2_with fail
      refine (HEN.out _ _ _ HDI.out HES.out (fun x => by cases x)).mono ?_
      rintro e' w2 ⟨v2, rfl, hf2, hb2⟩
      obtain ⟨sV, zV⟩ : ∃ A n c, v2 = .slice A n c ∧ SlV w2 w2.heap.size A n c ((pssL k (N - n1 - s - 2) (8 * N - bits) hash K).map W8) := by
        obtain ⟨A, c', e0, hs0, _⟩ := hf2.sl
        exact ⟨A, _, c', e0, hs0⟩
      obtain ⟨n2, c2, rfl, hs2⟩ := zV
      have heq := equal_any w2 w2.heap.size sV n2 c2 _ hs2 w2.heap.size _ N c3 em ((S31.out.below hb2).more hb2.size)
      rw [← HVS.out, HR.out] at heq
      have HEQ := Lib.hid heq
      have HB2 := Lib.hid (HB1.out.trans (hb2.mono HB1.out.size))
      clear heq hs2 hf2 hb2
      go_wp2_with fail
      refine HEQ.out.mono ?_
      rintro e' w' ⟨rfl, rfl⟩
      go_wp2
      go_ret
      exact ⟨rfl, HB2.out⟩
end Go.Proofs.YtnpaidieijlkkabDoor

/- pad: there and back, numbers alone. -/
set_option linter.unusedVariables false
set_option linter.unusedSimpArgs false
namespace Go.Proofs.YtnpaidieijlkkabDoor
open Go.RowKit Go.Shelf

theorem maskK_twice {k : Int} (hk : KindOk k) (b sd : List (BitVec 8)) : maskK k (maskK k b sd) sd = b := by
  have h := maskK_length hk b sd
  unfold maskK at h ⊢
  rw [h]
  exact xorL_twice (by rw [mgfL_length hk]; exact Nat.le_refl _)
theorem oaepL_length {k : Int} (hk : KindOk k) (Z : Nat) (label seed m : List (BitVec 8)) (hs : seed.length = szN k) : (oaepL k Z label seed m).length = m.length + (2 * szN k + 2) + Z := by
  rw [oaepL, List.length_cons, List.length_append, maskK_length hk, maskK_length hk, blockL_length hk]
  omega
theorem oaep_blk {k : Int} (hk : KindOk k) (Z : Nat) (label seed m : List (BitVec 8)) (hs : seed.length = szN k) : decBlk k (oaepL k Z label seed m) = blockL k Z label m := by
  have hl : (maskK k seed (maskK k (blockL k Z label m) seed)).length = szN k := by rw [maskK_length hk, hs]
  have h1 : (oaepL k Z label seed m).drop (1 + szN k) = maskK k (blockL k Z label m) seed := by
    rw [oaepL, Nat.add_comm, List.drop_succ_cons, List.drop_left' hl]
  have h2 : ((oaepL k Z label seed m).drop 1).take (szN k) = maskK k seed (maskK k (blockL k Z label m) seed) := by
    rw [oaepL, List.drop_succ_cons, List.drop_zero, List.take_left' hl]
  rw [decBlk, h1, h2, maskK_twice hk, maskK_twice hk]
theorem pre_append (a b : List (BitVec 8)) : a.isPrefixOf (a ++ b) = true := List.isPrefixOf_iff_prefix.2 (List.prefix_append a b)
theorem dropX_zeros (Z : Nat) (m : List (BitVec 8)) : dropX 0 (List.replicate Z 0 ++ ([1] ++ m)) = [1] ++ m := by
  induction Z with
  | zero => simp [dropX]
  | succ Z ih =>
    rw [List.replicate_succ, List.cons_append]
    unfold dropX at ih ⊢
    rw [List.dropWhile_cons]
    simp
theorem oaep_back {k : Int} (hk : KindOk k) (Z : Nat) (label seed m : List (BitVec 8)) (hs : seed.length = szN k) :
    decOk k label (oaepL k Z label seed m) = true ∧ decMsg k label (oaepL k Z label seed m) = m := by
  have hb := oaep_blk hk Z label seed m hs
  have hr : decRest k label (oaepL k Z label seed m) = List.replicate Z 0 ++ ([1] ++ m) := by
    rw [decRest, hb, blockL, if_pos (pre_append _ _), List.drop_left' rfl]
  constructor
  · rw [decOk, hb, hr, dropX_zeros, blockL, pre_append, pre_append]
    rfl
  · rw [decMsg, hr, dropX_zeros]
    rfl
theorem xorL_drop (a b : List (BitVec 8)) (n : Nat) : (xorL a b).drop n = xorL (a.drop n) (b.drop n) := by
  unfold xorL
  rw [List.drop_zipWith]
theorem headAnd_drop (s n : Nat) (l : List (BitVec 8)) : (headAnd s l).drop (n + 1) = l.drop (n + 1) := by
  cases l <;> rfl
theorem pssH_length {k : Int} (hk : KindOk k) (hash salt : List (BitVec 8)) : (pssH k hash salt).length = szN k := by rw [pssH, sumK_len hk]
theorem pssBlk_length (Z : Nat) (salt : List (BitVec 8)) : (pssBlk Z salt).length = Z + 1 + salt.length := by simp [pssBlk]; omega
theorem pssL_length {k : Int} (hk : KindOk k) (Z s : Nat) (hash salt : List (BitVec 8)) : (pssL k Z s hash salt).length = szN k + salt.length + 2 + Z := by
  rw [pssL, List.length_append, List.length_append, headAnd_length, maskK_length hk, pssBlk_length, pssH_length hk]
  simp
  omega
theorem pss_salt {k : Int} (hk : KindOk k) (Z s : Nat) (hash salt : List (BitVec 8)) (N : Nat) (hN : szN k + salt.length + 2 + Z = N) :
    verSalt k N (szN k) salt.length (pssL k Z s hash salt) = salt := by
  have he : N - szN k - 1 = Z + 1 + salt.length := by omega
  have hl : (headAnd s (maskK k (pssBlk Z salt) (pssH k hash salt))).length = Z + 1 + salt.length := by rw [headAnd_length, maskK_length hk, pssBlk_length]
  have h1 : (pssL k Z s hash salt).take (Z + 1 + salt.length) = headAnd s (maskK k (pssBlk Z salt) (pssH k hash salt)) := by rw [pssL, List.take_left' hl]
  have h2 : ((pssL k Z s hash salt).drop (Z + 1 + salt.length)).take (szN k) = pssH k hash salt := by rw [pssL, List.drop_left' hl, List.take_left' (pssH_length hk _ _)]
  rw [verSalt, he, h1, h2, show Z + 1 + salt.length - salt.length = Z + 1 by omega]
  have h3 : maskK k (headAnd s (maskK k (pssBlk Z salt) (pssH k hash salt))) (pssH k hash salt) = xorL (headAnd s (maskK k (pssBlk Z salt) (pssH k hash salt))) (mgfL k (pssH k hash salt) (Z + 1 + salt.length)) := by rw [maskK, hl]
  rw [h3, xorL_drop, headAnd_drop, ← xorL_drop]
  have h4 : xorL (maskK k (pssBlk Z salt) (pssH k hash salt)) (mgfL k (pssH k hash salt) (Z + 1 + salt.length)) = pssBlk Z salt := by
    have h := maskK_twice hk (pssBlk Z salt) (pssH k hash salt)
    rw [maskK, maskK_length hk, pssBlk_length] at h
    exact h
  rw [h4, pssBlk, ← List.append_assoc, List.drop_left' (by simp)]
/-- an encoding that was made is taken -/
theorem pss_back {k : Int} (hk : KindOk k) (Z s : Nat) (hash salt : List (BitVec 8)) (N : Nat) (hN : szN k + salt.length + 2 + Z = N) :
    pssL k (N - szN k - salt.length - 2) s hash (verSalt k N (szN k) salt.length (pssL k Z s hash salt)) = pssL k Z s hash salt := by
  rw [pss_salt hk Z s hash salt N hN, show N - szN k - salt.length - 2 = Z by omega]
end Go.Proofs.YtnpaidieijlkkabDoor

/- baileylaw8: one encoding is told. -/
set_option linter.unusedVariables false
set_option linter.unusedSimpArgs false
namespace Go.Proofs.YtnpaidieijlkkabDoor
open Go.RowKit Go.Shelf

theorem zeros20 {w w1 : World} {g : Nat} (hr : RowV 5 w1 g (List.replicate 20 (.int .u8 0))) (hg : w.heap.size ≤ g) : FreshV w1 w.heap.size (.slice (some ⟨g, 0, none⟩) 20 20) (List.replicate 20 0) := FreshV.row_ (by rw [List.map_replicate]; exact hr) hg (by simp) (by decide)
theorem run_make8 (w : World) (n : Nat) (hn : n ≤ 17592186044416) : ∃ W, Sem.run Tryd.prog (Instr.makeSlice 22 (.int .i64 (n : Int)) (.int .i64 (n : Int))) w = .ok (.slice (some ⟨w.heap.size, 0, none⟩) n n) W ∧ RowV 5 W w.heap.size (List.replicate n (.int .u8 0)) ∧ Below w.heap.size w W := by
  have E := Tryd.elem8
  obtain ⟨i0, hi, hz0, hz1, hz2⟩ := info_parts E.info
  have hb : (i0.bytes : Int) * (n : Int) ≤ 281474976710656 := by
    rw [hz2]
    omega
  have hr := run_make (P := Tryd.prog) w 22 5 i0 (.int .u8 0) E.sl hi hz0 .i64 .i64 n n (by omega) (by omega) hb (by omega)
  simp only [Int.toNat_natCast] at hr
  refine ⟨_, hr, ?_, (Below.refl _ _).alloc (Nat.le_refl _) _⟩
  unfold RowV
  rw [heap_alloc_new, hz1, Nat.mul_one]
  have e : madeCells (Value.int .u8 0).cells n = (List.replicate n (Value.int .u8 0)).toArray := by
    apply Array.ext'
    rw [E.one, toList_madeCells_one]
  rw [e]
theorem FreshV.lit {w : World} {B n c : Nat} {A : Option Addr} {l : List (BitVec 8)} (h : FreshV w B (.slice A n c) l) (m : Nat) (hm : l.length = m) : n = m := h.len_.trans hm
set_option maxRecDepth 100000 in
set_option maxHeartbeats 4000000 in
theorem begun8_any (w : World) (hGS : StartsG w) (hGR : RootsG w) :
    Calls Tryd.prog 4 #[] w fun e w' => e = .returned (.bool true) ∧ Below w.heap.size w w' := by
  have k1 : KindOk 1 := by unfold KindOk; decide
  have o1 : okB 1 20 = true := by decide
  have p1 : psB 1 ((400 : Nat) : Int) 20 = true := by decide
  have s1 : szN 1 = 20 := rfl
  have kc := fun (w : World) (C : Array Value) (n c : Nat) => convConst w C n c
  obtain ⟨W0, e0, hb0, hz0⟩ := newFrozen w #[.int .u8 97, .int .u8 98, .int .u8 99] 3 4
  have sa : SlV W0 (w.heap.size + 1) (some ⟨w.heap.size, 0, none⟩) 3 3 (([0x61, 0x62, 0x63] : List (BitVec 8)).map W8) := by rw [← e0]; exact constSl w [0x61, 0x62, 0x63] (by decide) 3 4
  have hsg := psign1_ok W0 20 (by decide) (w.heap.size + 1) _ 3 3 _ sa (by omega) (by decide)
  have HG := Lib.hid (⟨hGS, hGR⟩ : StartsG w ∧ RootsG w)
  have HSG := Lib.hid hsg
  have HB0 := Lib.hid hb0
  clear hsg hb0 sa hz0 hGS hGR
  go_enter Tryd.func4, Tryd.ntmps4
  go_wp2_with fail
  refine HSG.out.mono ?_
  rintro e w1 ⟨v1, rfl, hf1, hb1⟩
  obtain ⟨A1, n1, c1, rfl⟩ := hf1.form
  obtain rfl := hf1.lit 20 (by simp [frameW])
  have HB1 := Lib.hid (HB0.out.trans (hb1.mono HB0.out.size))
  clear hf1 hb1 HSG HB0 e0 kc
  go_wp2_with (at_make; refine wlv_make Tryd.elem8 rfl _ rfl _ 20 rfl rfl (by decide) ?_; intro w2 hr2 hb2 hz2; clear hz2)
  have hf2 := zeros20 hr2 (Nat.le_refl w1.heap.size)
  obtain ⟨sb, zb⟩ := hf2.pc.sl
  have hin := pinfo_ok w2 1 w2.heap.size _ 20 20 _ sb zb (Nat.le_refl _) o1
  have HIN := Lib.hid hin
  have HB2 := Lib.hid (HB1.out.trans (hb2.mono HB1.out.size))
  clear hin sb zb hf2 hr2 hb2 HB1
  go_wp2_with fail
  refine HIN.out.mono ?_
  rintro e w3 ⟨v3, rfl, hf3, hb3⟩
  obtain ⟨A3, n3, c3, rfl⟩ := hf3.form
  obtain rfl := hf3.lit 35 (by simp [infoL, elemL, oidL])
  have HB3 := Lib.hid (HB2.out.trans (hb3.mono HB2.out.size))
  clear hf3 hb3 HIN HB2
  have kc := fun (w : World) (C : Array Value) (n c : Nat) => convConst w C n c
  go_wp2_with (at_make; refine wlv_make Tryd.elem8 rfl _ rfl _ 20 rfl rfl (by decide) ?_; intro w4 hr4 hb4 hz4; clear hz4; obtain ⟨W5, e5, hb5, hz5⟩ := newFrozen w4 #[.int .u8 109] 1 2; have sd : SlV W5 (w4.heap.size + 1) (some ⟨w4.heap.size, 0, none⟩) 1 1 (([0x6d] : List (BitVec 8)).map W8) := (by rw [← e5]; exact constSl w4 [0x6d] (by decide) 1 2))
  have hf4 := zeros20 hr4 (Nat.le_refl w3.heap.size)
  have hb05 : Below w.heap.size w W5 := (HB3.out.trans (hb4.mono HB3.out.size)).trans (hb5.mono (Nat.le_trans HB3.out.size hb4.size))
  obtain ⟨sc, zc⟩ := (hf4.up hb5).pc.sl
  have hen := pencoaep_ok W5 1 (HG.out.1.later hb05) (HG.out.2.later hb05) 60 (by decide) W5.heap.size none 0 0 [] (SlV.nil _ _ _ (by decide)) (fun _ => rfl) _ 20 20 _ sc zc o1 _ 1 1 _ (sd.more (Nat.le_of_eq hz5.symm)) (fun x => by cases x) (Nat.le_refl _) (by decide) 17 rfl
  have HEN := Lib.hid hen
  have HB5 := Lib.hid hb05
  clear hen hb05 sc zc sd hf4 hr4 hb4 hb5 hz5 HB3
  go_wp2_with fail
  refine HEN.out.mono ?_
  rintro e w6 ⟨v6, rfl, hf6, hb6⟩
  obtain ⟨A6, n6, c6, rfl⟩ := hf6.form
  have hol : (oaepL 1 17 [] (List.replicate 20 0) [0x6d]).length = 60 := by rw [oaepL_length k1 _ _ _ _ (by simp [s1]), s1]; rfl
  obtain rfl := hf6.lit 60 hol
  have hb06 : Below w.heap.size w w6 := HB5.out.trans (hb6.mono HB5.out.size)
  obtain ⟨se, ze⟩ := hf6.pc.sl
  have hde := pdecoaep_run w6 1 k1 (HG.out.1.later hb06) (HG.out.2.later hb06) w6.heap.size none 0 0 [] (SlV.nil _ _ _ (by decide)) (fun _ => rfl) (by decide) A6 60 c6 _ se (Nat.le_refl _) (by rw [s1]; decide) (by decide) rfl
  obtain ⟨hd1, hd2⟩ := oaep_back k1 17 [] (List.replicate 20 0) [0x6d] (by simp [s1])
  rw [hd1, hd2] at hde
  have HDE := Lib.hid hde
  have HB6 := Lib.hid hb06
  clear hde hd1 hd2 se ze hf6 hb6 hb06 hol HEN HB5 e5 kc
  go_wp2_with fail
  refine HDE.out.mono ?_
  rintro e w7 ⟨v7, rfl, hf7, hb7⟩
  obtain ⟨A7, n7, c7, rfl⟩ := hf7.form
  obtain rfl := hf7.lit 1 (by simp)
  have HB7 := Lib.hid (HB6.out.trans (hb7.mono HB6.out.size))
  have HF7 := Lib.hid hf7
  clear hf7 hb7 HDE HB6
  go_wp2_with (at_make; refine wlv_make Tryd.elem8 rfl _ rfl _ 20 rfl rfl (by decide) ?_; intro w8 hr8 hb8 hz8; clear hz8)
  have hf8 := zeros20 hr8 (Nat.le_refl w7.heap.size)
  obtain ⟨sf, zf⟩ := hf8.pc.sl
  have hb08 : Below w.heap.size w w8 := HB7.out.trans (hb8.mono HB7.out.size)
  have hep := pencpss_ok w8 1 (HG.out.1.later hb08) (HG.out.2.later hb08) 400 50 (by decide) w8.heap.size _ 20 20 _ sf zf p1 none 0 0 [] (SlV.nil _ _ _ (by decide)) (fun _ => rfl) (Nat.le_refl _) 28 rfl
  have HEP := Lib.hid hep
  have HB8 := Lib.hid hb08
  have HF8 := Lib.hid (HF7.out.up hb8)
  clear hep sf zf hf8 hr8 hb8 hb08 HF7 HB7
  go_wp2_with fail
  refine HEP.out.mono ?_
  rintro e w9 ⟨v9, rfl, hf9, hb9⟩
  obtain ⟨A9, n9, c9, rfl⟩ := hf9.form
  obtain rfl := hf9.lit 50 (by rw [pssL_length k1, s1]; simp)
  have hf79 := HF8.out.up hb9
  obtain ⟨sg, zg⟩ := hf79.pc.sl
  have hcv : (convert 22 9 (.slice A7 1 c7)).run Tryd.prog w9 = .ok (.string ⟨#[109]⟩) w9 := conv_str (bs := [0x6d]) sg
  have HB9 := Lib.hid (HB8.out.trans (hb9.mono HB8.out.size))
  have HF9 := Lib.hid hf9
  clear hf79 sg zg hf9 hb9 HEP HB8 HF8
  obtain ⟨w10, em, hr10, hb10⟩ := run_make8 w9 20 (by decide)
  replace em : Sem.run Tryd.prog (Instr.makeSlice 22 (.int .i64 20) (.int .i64 20)) w9 = .ok (.slice (some ⟨w9.heap.size, 0, none⟩) 20 20) w10 := em
  have hf10 := zeros20 hr10 (Nat.le_refl w9.heap.size)
  obtain ⟨sh, zh⟩ := hf10.pc.sl
  have hb010 : Below w.heap.size w w10 := HB9.out.trans (hb10.mono HB9.out.size)
  obtain ⟨si, zi⟩ := (HF9.out.up hb10).pc.sl
  have hve := pverpss_run w10 1 (HG.out.1.later hb010) (HG.out.2.later hb010) 400 50 (by decide) w10.heap.size _ 20 20 _ sh zh p1 A9 c9 _ si (Nat.le_refl _) 0 (by decide)
  have hpb := pss_back k1 28 (8 * 50 - 400) (List.replicate 20 0) [] 50 (by rw [s1]; rfl)
  rw [s1] at hpb
  rw [show ([] : List (BitVec 8)).length = 0 from rfl] at hpb
  rw [hpb, decide_eq_true rfl] at hve
  have HVE := Lib.hid hve
  have HB10 := Lib.hid hb010
  clear hve hpb sh zh si zi hf10 hr10 hb10 hb010 HB9 HF9
  go_wp2_with fail
  refine HVE.out.mono ?_
  rintro e w11 ⟨rfl, hb11⟩
  have HB11 := Lib.hid (HB10.out.trans (hb11.mono HB10.out.size))
  clear hb11
  go_wp2
  go_ret
  exact ⟨rfl, HB11.out⟩
end Go.Proofs.YtnpaidieijlkkabDoor

/- baileyref8: EncOAEP. -/
set_option linter.unusedVariables false
set_option linter.unusedSimpArgs false
namespace Go.Proofs.YtnpaidieijlkkabDoor
open Go.RowKit Go.Shelf

theorem FreshV.row2 {w : World} {b n : Nat} {l : List (BitVec 8)} (h : RowV 5 w b (l.map W8)) (hl : l.length = n) (hm : n ≤ 1000000) (B : Nat) (hb : B ≤ b) : FreshV w B (.slice (some ⟨b, 0, none⟩) n n) l := FreshV.row_ h hb hl (by omega)
theorem joinA (w : World) (vs : List Value) (arr : Array Value) (ha : vs.toArray = arr) (ls : List (List (BitVec 8))) (hp : Pcs w w.heap.size vs ls) (n : Nat) (hn : vs.length = n) (hn2 : n ≤ 1000) (hl : ls.flatten.length ≤ 1000000000) :
    Calls Tryd.prog 40 #[.slice (some ⟨w.heap.size, 0, none⟩) n n] (w.alloc (.cells arr 22)) fun e w' => ∃ v, e = .returned v ∧ FreshV w' w.heap.size v ls.flatten ∧ Below w.heap.size w w' := by
  obtain ⟨hpv, hb⟩ := parts_new w vs arr ha ls hp n hn (by omega)
  obtain ⟨W2, e2⟩ : ∃ W, w.alloc (.cells arr 22) = W := ⟨_, rfl⟩
  rw [e2] at hpv hb ⊢
  refine (rjoin_any W2 _ _ n n ls hpv (Nat.le_refl _) hn2 hl).mono ?_
  rintro e w3 ⟨v, rfl, ho, hb3⟩
  exact ⟨v, rfl, (FreshV.of_own ho).mono_ hb.size, hb.trans (hb3.mono hb.size)⟩
end Go.Proofs.YtnpaidieijlkkabDoor

/- pad.Dec1, and what the document says of it. -/
set_option linter.unusedVariables false
set_option linter.unusedSimpArgs false
namespace Go.Proofs.YtnpaidieijlkkabDoor
open Go.RowKit Go.Shelf

/-- the message of an encoding for encryption, if it is one -/
def dec1L (em : List (BitVec 8)) : Option (List (BitVec 8)) :=
  if ([0, 2] : List (BitVec 8)).isPrefixOf em = true ∧ 8 ≤ idxL 0 (em.drop 2) then some ((em.drop 2).drop ((idxL 0 (em.drop 2)).toNat + 1)) else none
def dec1V (em : List (BitVec 8)) : List (BitVec 8) := (dec1L em).getD []
def dec1R (em : List (BitVec 8)) : Int := if (dec1L em).isSome then 0 else 64
end Go.Proofs.YtnpaidieijlkkabDoor

/- baileyref8: Dec1. -/
set_option linter.unusedVariables false
set_option linter.unusedSimpArgs false
namespace Go.Proofs.YtnpaidieijlkkabDoor
open Go.RowKit Go.Shelf

def shiftI (t : Nat) (z : Int) : Int := if z = -1 then -1 else z + t
theorem i8_ne {x y : BitVec 8} (h : x ≠ y) : ¬ i8 x = i8 y := fun e => h (by unfold i8 at e; exact BitVec.eq_of_toNat_eq (by omega))
theorem pre2 (em : List (BitVec 8)) : ([0, 2] : List (BitVec 8)).isPrefixOf em = true ↔ em[0]? = some 0 ∧ em[1]? = some 2 := by
  cases em with
  | nil => exact ⟨fun h => absurd h (by decide), fun h => by simp at h⟩
  | cons x t =>
    cases t with
    | nil => exact ⟨fun h => by simp [List.isPrefixOf] at h, fun h => by simp at h⟩
    | cons y t =>
      have e : ([0, 2] : List (BitVec 8)).isPrefixOf (x :: y :: t) = (((0 : BitVec 8) == x) && (((2 : BitVec 8) == y) && true)) := rfl
      rw [e]
      simp only [Bool.and_true, Bool.and_eq_true, beq_iff_eq, List.getElem?_cons_zero, List.getElem?_cons_succ, Option.some.injEq]
      exact ⟨fun h => ⟨h.1.symm, h.2.symm⟩, fun h => ⟨h.1.symm, h.2.symm⟩⟩
theorem dec1_none {em : List (BitVec 8)} (h : ¬ (([0, 2] : List (BitVec 8)).isPrefixOf em = true ∧ 8 ≤ idxL 0 (em.drop 2))) : dec1V em = [] ∧ dec1R em = 64 := by
  have e : dec1L em = none := by rw [dec1L, if_neg h]
  rw [dec1V, dec1R, e]
  exact ⟨rfl, rfl⟩
end Go.Proofs.YtnpaidieijlkkabDoor

/- PadDec1, walked. -/
set_option linter.unusedVariables false
set_option linter.unusedSimpArgs false
namespace Go.Proofs.YtnpaidieijlkkabDoor
open Go.RowKit Go.Shelf

theorem FreshV.cv {w : World} {B n c : Nat} {A : Option Addr} {l : List (BitVec 8)} (h : FreshV w B (.slice A n c) l) : (convert 22 9 (.slice A n c)).run Tryd.prog w = .ok (strV l) w := conv_str h.pc.sl.1
theorem strEq (L : List (BitVec 8)) : ∀ w', (binOp .eql 9 (strV L) (strV L)).run Tryd.prog w' = .ok (.bool true) w' := fun w' => by rw [eql_str w' _ L L, decide_eq_true rfl]
end Go.Proofs.YtnpaidieijlkkabDoor

/- baileyref8: DecOAEP. -/
set_option linter.unusedVariables false
set_option linter.unusedSimpArgs false
namespace Go.Proofs.YtnpaidieijlkkabDoor
open Go.RowKit Go.Shelf
attribute [local go_sem] shutOp

theorem pre_take {a l : List (BitVec 8)} (h : a.length ≤ l.length) : a.isPrefixOf l = decide (l.take a.length = a) := by
  by_cases e : l.take a.length = a
  · rw [decide_eq_true e]
    exact List.isPrefixOf_iff_prefix.2 ⟨l.drop a.length, by have h2 := List.take_append_drop a.length l; rw [e] at h2; exact h2⟩
  · rw [decide_eq_false e]
    cases hp : a.isPrefixOf l with
    | false => rfl
    | true =>
      exfalso
      obtain ⟨t, ht⟩ := List.isPrefixOf_iff_prefix.1 hp
      exact e (by rw [← ht, List.take_left' rfl])
end Go.Proofs.YtnpaidieijlkkabDoor

/- baileyref8: pss, EncPSS. -/
set_option linter.unusedVariables false
set_option linter.unusedSimpArgs false
namespace Go.Proofs.YtnpaidieijlkkabDoor
open Go.RowKit Go.Shelf

def psR (k bits : Int) (n1 : Nat) (salt : Int) : Int := if psB k bits n1 = false then 7 else if (bits + 7) / 8 < sizeV k + 2 ∨ (bits + 7) / 8 - sizeV k - 2 < salt then 33 else 0
set_option maxRecDepth 100000 in
set_option maxHeartbeats 1000000 in
theorem rpss_any (w : World) (k bits : Int) (A : Option Addr) (n c : Nat) (salt : Int) (hs1 : 0 ≤ salt) :
    Calls Tryd.prog 19 #[.int .i64 k, .int .i64 bits, .slice A n c, .int .i64 salt] w fun e w' => e = .returned (.int .i64 (psR k bits n salt)) ∧ w = w' := by
  have hs := rsize_any w k
  have hbd := sizeV_bd k
  have hpr : psR k bits n salt = if decide (decide (0 < sizeV k ∧ (n : Int) = sizeV k) = true ∧ 1 ≤ bits ∧ bits ≤ 65536) = false then 7 else if (bits + 7) / 8 < sizeV k + 2 ∨ (bits + 7) / 8 - sizeV k - 2 < salt then 33 else 0 := rfl
  obtain ⟨R, hR⟩ : ∃ r, psR k bits n salt = r := ⟨_, rfl⟩
  rw [hR] at hpr ⊢
  obtain ⟨z, hz⟩ : ∃ z, sizeV k = z := ⟨_, rfl⟩
  rw [hz] at hs hbd hpr
  have z0 := hbd.1
  have z64 := hbd.2
  have HS := Lib.hid hs
  clear hs hbd hz hR
  by_cases h0 : z = 0
  · obtain rfl : R = 7 := by rw [hpr, if_pos (decide_eq_false (fun h => by have := (of_decide_eq_true h.1).1; omega))]
    subst h0
    clear hpr
    go_enter Tryd.func19, Tryd.ntmps19
    go_wp2_with fail
    refine HS.out.mono ?_
    rintro e w' ⟨rfl, rfl⟩
    go_wp2
    go_ret
    exact ⟨rfl, rfl⟩
  · have kz : (z == 0) = false := beq_eq_false_iff_ne.2 h0
    by_cases h1 : (n : Int) = z
    · have kb : ((n : Int) != z) = false := by simpa using h1
      have H1 := Lib.hid h1
      clear h1
      by_cases h2 : bits < 1
      · obtain rfl : R = 7 := by rw [hpr, if_pos (decide_eq_false (fun h => by omega))]
        clear hpr
        go_enter Tryd.func19, Tryd.ntmps19
        go_wp2_with fail
        refine HS.out.mono ?_
        rintro e w' ⟨rfl, rfl⟩
        go_wp2
        go_ret
        exact ⟨rfl, rfl⟩
      · by_cases h3 : 65536 < bits
        · obtain rfl : R = 7 := by rw [hpr, if_pos (decide_eq_false (fun h => by omega))]
          clear hpr
          go_enter Tryd.func19, Tryd.ntmps19
          go_wp2_with fail
          refine HS.out.mono ?_
          rintro e w' ⟨rfl, rfl⟩
          go_wp2
          go_ret
          exact ⟨rfl, rfl⟩
        · have hps : ¬ decide (decide (0 < z ∧ (n : Int) = z) = true ∧ 1 ≤ bits ∧ bits ≤ 65536) = false := by
            intro h
            exact of_decide_eq_false h ⟨decide_eq_true ⟨by omega, H1.out⟩, by omega, by omega⟩
          rw [if_neg hps] at hpr
          obtain ⟨M, hM⟩ : ∃ M, (bits + 7) / 8 = M := ⟨_, rfl⟩
          have m0 : 0 ≤ M := by omega
          have m1 : M ≤ 8192 := by omega
          rw [hM] at hpr
          by_cases h4 : M < z + 2
          · obtain rfl : R = 33 := by rw [hpr, if_pos (.inl h4)]
            clear hpr hps
            go_enter Tryd.func19, Tryd.ntmps19
            go_wp2_with fail
            refine HS.out.mono ?_
            rintro e w' ⟨rfl, rfl⟩
            go_wp2
            go_ret
            exact ⟨rfl, rfl⟩
          · by_cases h5 : M - z - 2 < salt
            · obtain rfl : R = 33 := by rw [hpr, if_pos (.inr h5)]
              clear hpr hps
              go_enter Tryd.func19, Tryd.ntmps19
              go_wp2_with fail
              refine HS.out.mono ?_
              rintro e w' ⟨rfl, rfl⟩
              go_wp2
              go_ret
              exact ⟨rfl, rfl⟩
            · obtain rfl : R = 0 := by rw [hpr, if_neg (by omega)]
              clear hpr hps
              go_enter Tryd.func19, Tryd.ntmps19
              go_wp2_with fail
              refine HS.out.mono ?_
              rintro e w' ⟨rfl, rfl⟩
              go_wp2
              go_ret
              exact ⟨rfl, rfl⟩
    · obtain rfl : R = 7 := by rw [hpr, if_pos (decide_eq_false (fun h => h1 (of_decide_eq_true h.1).2))]
      have kb : ((n : Int) != z) = true := by simpa using h1
      clear hpr
      go_enter Tryd.func19, Tryd.ntmps19
      go_wp2_with fail
      refine HS.out.mono ?_
      rintro e w' ⟨rfl, rfl⟩
      go_wp2
      go_ret
      exact ⟨rfl, rfl⟩
end Go.Proofs.YtnpaidieijlkkabDoor

/- baileyref8: EncPSS. -/
set_option linter.unusedVariables false
set_option linter.unusedSimpArgs false
namespace Go.Proofs.YtnpaidieijlkkabDoor
open Go.RowKit Go.Shelf

theorem b8_andNot (x y : BitVec 8) : bits .andNot .u8 (i8 x) (i8 y) = i8 (x &&& ~~~y) := by
  unfold i8
  rw [u8_andNot_nat _ _ x.isLt y.isLt, BitVec.toNat_and, BitVec.toNat_not]
theorem headAnd_zero (l : List (BitVec 8)) : headAnd 0 l = l := by
  cases l with
  | nil => rfl
  | cons x t =>
    show (x &&& ((0xff : BitVec 8) >>> 0)) :: t = x :: t
    rw [show ((0xff : BitVec 8) >>> 0) = BitVec.allOnes 8 from rfl, BitVec.and_allOnes]
theorem headAnd_step (t : Nat) (ht : t ≤ 6) (x : BitVec 8) : (x &&& ((0xff : BitVec 8) >>> t)) &&& ~~~((0x80 : BitVec 8) >>> t) = x &&& ((0xff : BitVec 8) >>> (t + 1)) := by
  rw [BitVec.and_assoc]
  congr 1
  rcases (by omega : t = 0 ∨ t = 1 ∨ t = 2 ∨ t = 3 ∨ t = 4 ∨ t = 5 ∨ t = 6) with rfl | rfl | rfl | rfl | rfl | rfl | rfl <;> rfl
theorem psh128 (t : Nat) (h : t ≤ 6) : (128 : Int) / 2 ^ t = i8 ((0x80 : BitVec 8) >>> t) := by
  rcases (by omega : t = 0 ∨ t = 1 ∨ t = 2 ∨ t = 3 ∨ t = 4 ∨ t = 5 ∨ t = 6) with rfl | rfl | rfl | rfl | rfl | rfl | rfl <;> rfl
set_option maxRecDepth 100000 in
theorem rencpss_no (w : World) (k bits : Int) (A : Option Addr) (n c : Nat) (A2 : Option Addr) (n2 c2 : Nat) (h : psR k bits n n2 ≠ 0) :
    Calls Tryd.prog 23 #[.int .i64 k, .int .i64 bits, .slice A n c, .slice A2 n2 c2] w fun e w' => e = .returned (.tuple #[.slice none 0 0, .int .i64 (psR k bits n n2)]) ∧ w = w' := by
  have hp := rpss_any w k bits A n c n2 (by omega)
  obtain ⟨R, hR⟩ : ∃ r, psR k bits n n2 = r := ⟨_, rfl⟩
  rw [hR] at hp h ⊢
  have HP := Lib.hid hp
  have kb : (R != 0) = true := by simpa using h
  clear hp hR
  go_enter Tryd.func23, Tryd.ntmps23
  go_wp2_with fail
  refine HP.out.mono ?_
  rintro e w' ⟨rfl, rfl⟩
  go_wp2
  go_ret2
  exact ⟨rfl, rfl⟩
set_option maxRecDepth 100000 in
set_option maxHeartbeats 8000000 in
theorem rencpss_ok (w : World) (k : Int) (bits N : Nat) (hN : (bits + 7) / 8 = N) (B : Nat) (A1 : Option Addr) (n1 c1 : Nat) (hash : List (BitVec 8)) (h1 : SlV w B A1 n1 c1 (hash.map W8)) (z1 : A1 = none → c1 = 0) (h : psB k (bits : Int) n1 = true)
    (A2 : Option Addr) (n2 c2 : Nat) (salt : List (BitVec 8)) (h2 : SlV w B A2 n2 c2 (salt.map W8)) (z2 : A2 = none → c2 = 0) (hB : B ≤ w.heap.size) (Z : Nat) (hZ : n1 + n2 + 2 + Z = N) :
    Calls Tryd.prog 23 #[.int .i64 k, .int .i64 (bits : Int), .slice A1 n1 c1, .slice A2 n2 c2] w fun e w' => ∃ v, e = .returned (.tuple #[v, .int .i64 0]) ∧ FreshV w' w.heap.size v (pssL k Z (8 * N - bits) hash salt) ∧ Below w.heap.size w w' := by
  obtain ⟨hok, hb1, hb2⟩ := of_decide_eq_true h
  obtain ⟨hk, hn⟩ := okB_kind hok
  have hle := szN_le hk
  have hp := rpss_any w k (bits : Int) A1 n1 c1 n2 (by omega)
  have hpr : psR k (bits : Int) n1 n2 = 0 := by
    rw [psR, if_neg (by rw [h]; decide), szN_eq hk, if_neg (by omega)]
  rw [hpr] at hp
  have hd : ((bits : Int) + 7) / 8 = (N : Int) := by omega
  have k1 : (n1 : Int) ≤ 64 := by omega
  have k2 : (n2 : Int) ≤ 8192 := by omega
  have k3 : (N : Int) ≤ 8192 := by omega
  have k4 : (N : Int) - n2 - n1 - 2 = (Z : Int) := by omega
  have k5 : (Z : Int) ≤ 8192 := by omega
  have hl1 : hash.length = n1 := by simpa using h1.len.symm
  have hl2 : salt.length = n2 := by simpa using h2.len.symm
  obtain ⟨s, hs⟩ : ∃ s, 8 * N - bits = s := ⟨_, rfl⟩
  have k6 : 8 * (N : Int) = (bits : Int) + (s : Int) := by omega
  have k7 : (s : Int) ≤ 7 := by omega
  rw [hs]
  have HP := Lib.hid hp
  have P1 := Lib.hid ((Pc.of_sl h1 z1).more hB)
  have P2 := Lib.hid ((Pc.of_sl h2 z2).more hB)
  have HL := Lib.hid (⟨hl1, hl2⟩ : hash.length = n1 ∧ salt.length = n2)
  have HN := Lib.hid (⟨hk, hn, hZ, hle.1, hle.2.2, by omega⟩ : KindOk k ∧ n1 = szN k ∧ n1 + n2 + 2 + Z = N ∧ 20 ≤ szN k ∧ szN k ≤ 64 ∧ N ≤ 8192)
  have hmx : Tryd.prog.follows .mixedOrders = true := by kernel_rfl
  have K6 := Lib.hid k6
  clear hp hpr h hok hk hn hle hN hZ hs h1 h2 z1 z2 hB hl1 hl2 k6
  go_enter Tryd.func23, Tryd.ntmps23
  go_wp2_with fail
  refine HP.out.mono ?_
  rintro e w' ⟨rfl, rfl⟩
  clear HP
  go_wp2_with (at_make; refine wlv_make Tryd.elem8 rfl _ rfl _ 8 rfl rfl (by omega) ?_; intro w1 hr1 hb1 hz1; clear hz1)
  have hz8 : FreshV w1 w.heap.size (.slice (some ⟨w.heap.size, 0, none⟩) 8 8) (List.replicate 8 0) := FreshV.row_ (by rw [List.map_replicate]; exact hr1) (Nat.le_refl _) (by simp) (by decide)
  have hj := joinA w1 [.slice (some ⟨w.heap.size, 0, none⟩) 8 8, .slice A1 n1 c1, .slice A2 n2 c2] #[.slice (some ⟨w.heap.size, 0, none⟩) 8 8, .slice A1 n1 c1, .slice A2 n2 c2] rfl [List.replicate 8 0, hash, salt] ⟨hz8.pc, P1.out.up hb1, P2.out.up hb1, trivial⟩ 3 rfl (by decide) (by have := HL.out; have := HN.out; simp; omega)
  rw [show ([List.replicate 8 0, hash, salt] : List (List (BitVec 8))).flatten = List.replicate 8 0 ++ (hash ++ salt) by simp] at hj
  have HJ := Lib.hid hj
  have HB1 := Lib.hid hb1
  clear hj hr1 hb1 hz8
  go_wp2_with fail
  refine HJ.out.mono ?_
  rintro e w2 ⟨v2, rfl, hf2, hb2⟩
  obtain ⟨Aj, nj, cj, rfl⟩ := hf2.form
  have hnj : nj ≤ 10000 := by rw [hf2.len_]; have := HL.out; have := HN.out; simp; omega
  have hb02 : Below w.heap.size w w2 := HB1.out.trans (hb2.mono HB1.out.size)
  have hof := rofK_any w2 k _ Aj nj cj _ hf2.pc.sl.1 hf2.pc.sl.2 (Nat.le_refl _) (by omega)
  obtain ⟨H, hH⟩ : ∃ l, sumK k (List.replicate 8 0 ++ (hash ++ salt)) = l := ⟨_, rfl⟩
  rw [hH] at hof
  have HOF := Lib.hid hof
  have HH := Lib.hid hH
  have HB2 := Lib.hid hb02
  clear hof hf2 hb2 hb02 hH HJ HB1
  go_wp2_with fail
  refine HOF.out.mono ?_
  rintro e w3 ⟨v3, rfl, hf3, hb3⟩
  obtain ⟨Ah, nh, ch, rfl⟩ := hf3.form
  have hnh : nh = n1 := by rw [hf3.len_, ← HH.out, sumK_len HN.out.1, HN.out.2.1]
  subst hnh
  have hb03 : Below w.heap.size w w3 := HB2.out.trans (hb3.mono HB2.out.size)
  have HF3 := Lib.hid hf3
  have HB3 := Lib.hid hb03
  have HG3 := Lib.hid (Nat.le_refl w3.heap.size)
  have hnil : w3.ownsRow w3.heap.size 5 1 (.slice none 0 0) 0 (([] : List (BitVec 8)).map W8) := World.ownsRow_nil _ _ _ _
  have HNIL := Lib.hid hnil
  clear hf3 hb3 hb03 hnil HOF HB2
  obtain ⟨G, hG⟩ : ∃ G, w3.heap.size = G := ⟨_, rfl⟩
  rw [hG] at HNIL
  have HG := Lib.hid hG
  clear hG
  go_wp2
  go_loopw [13] (fun v wr => ∃ (j : Nat) (Ab : Option Addr) (cb : Nat), j ≤ Z ∧ v = .slice Ab j cb ∧ Hid (wr.ownsRow G 5 1 (.slice Ab j cb) j ((List.replicate j 0 : List (BitVec 8)).map W8)) ∧ Hid (Below G w3 wr)) (fun v _ => Z + 1 - lenV v)
  case atStart => exact ⟨0, none, 0, by omega, rfl, by simpa using HNIL, Lib.hid (Below.refl _ _)⟩
  case round =>
    obtain ⟨j, Ab, cb, hj, rfl, HO, HB⟩ := hrel
    by_cases hjr : j = Z
    · subst hjr
      have kj : ¬ (j : Int) < j := by omega
      obtain ⟨L, hLe⟩ : ∃ L, j + 1 + n2 = L := ⟨_, rfl⟩
      have kL : (L : Int) ≤ 8192 := by have := HN.out; omega
      have kL1 : (1 : Int) ≤ L := by omega
      obtain ⟨W1, e1, so1, b1⟩ := new1 wr 1 #[.int .u8 1] rfl
      have ho1 := own_later_ HO.out b1
      have hGw : G ≤ wr.heap.size := by have := HB.out.size; have := HG.out; omega
      have hb1' := HB.out.trans (b1.mono hGw)
      have hz1 : G ≤ W1.heap.size := Nat.le_trans hGw b1.size
      have hsz : j + 1 + n2 ≤ 17592186044416 := by omega
      have HLE := Lib.hid hLe
      clear b1 hLe hGw
      go_wp2_with (first | (at_builtin; refine wlv_append Tryd.elem8 rfl _ _ rfl G _ j ((List.replicate j 0 : List (BitVec 8)).map W8) rfl ho1 (some ⟨wr.heap.size, 0, none⟩) 1 1 _ rfl (fun x => by cases x) _ so1 (ones8 [1]) (by omega) hz1 ?_; intro v4 w4 hown4 hgr4; have hb4 := hb1'.grown hgr4 hz1 (fun q hq => (ho1.lt q hq).1); rw [← List.map_append] at hown4; obtain ⟨A4, c4, rfl⟩ := own_slice hown4; have hz4 : G ≤ w4.heap.size := (by have := hb4.size; have := HG.out; omega); have p4 := (P2.out.up HB3.out).later (w' := w4) (by rw [HG.out]; exact hb4); have so4 := p4.sl.1; have zo4 := p4.sl.2; clear e1 ho1 so1 hb1' hgr4 p4) | (at_builtin; refine wlv_append Tryd.elem8 rfl _ _ rfl G _ (j + 1) ((List.replicate j 0 ++ [1] : List (BitVec 8)).map W8) rfl hown4 A2 n2 c2 _ rfl zo4 _ so4 (ones8 salt) hsz hz4 ?_; intro v5 w5 hown5 hgr5; have hb5 := hb4.grown hgr5 hz4 (fun q hq => (hown4.lt q hq).1); rw [← List.map_append, HLE.out] at hown5; obtain ⟨A5, c5, rfl⟩ := own_slice hown5; have hb35 : Below w3.heap.size w3 w5 := (by rw [HG.out]; exact hb5); have f5 := HF3.out.up hb35; have hmg := rmgf_any w5 k HN.out.1 _ Ah nh ch H f5.pc.sl.1 f5.pc.sl.2 (Nat.le_refl _) (by omega) L (by omega) (by omega); have HMG := Lib.hid hmg; clear hown4 so4 zo4 hb4 hgr5 hmg hz4))
      refine HMG.out.mono ?_
      rintro e w6 ⟨v6, rfl, hf6, hb6⟩
      obtain ⟨A6, n6, c6, rfl⟩ := hf6.form
      obtain rfl := hf6.lit L (mgfL_length HN.out.1 _ _)
      obtain ⟨blk, hbk⟩ : ∃ l, List.replicate j 0 ++ [1] ++ salt = l := ⟨_, rfl⟩
      rw [hbk] at hown5
      have hblk : pssBlk j salt = blk := by rw [pssBlk, ← hbk]; simp
      have hf5 : FreshV w5 G (.slice A5 n6 c5) blk := FreshV.of_own hown5
      have hbl : blk.length = n6 := hf5.len_.symm
      have hx := rxor_any w6 w6.heap.size (Nat.le_refl _) A5 n6 c5 blk (hf5.up hb6).pc.sl.1 A6 n6 c6 _ hf6.pc.sl.1 (Nat.le_refl _) (by omega)
      have hmk : xorL blk (mgfL k H n6) = maskK k blk H := by rw [maskK, hbl]
      rw [hmk] at hx
      obtain ⟨hid, hhd⟩ : ∃ l, maskK k blk H = l := ⟨_, rfl⟩
      rw [hhd] at hx
      have hhl : hid.length = n6 := by rw [← hhd, maskK_length HN.out.1, hbl]
      have hb36 : Below w3.heap.size w3 w6 := hb35.trans (hb6.mono hb35.size)
      have HX := Lib.hid hx
      have HF6 := Lib.hid (f5.up hb6)
      have HB6 := Lib.hid (HB3.out.trans (hb36.mono HB3.out.size))
      have HK := Lib.hid (⟨hblk, hhd, hhl⟩ : pssBlk j salt = blk ∧ maskK k blk H = hid ∧ hid.length = n6)
      clear hx hmk hhd hhl hblk hbl hf5 hbk hown5 hf6 hb6 hb5 hb35 hb36 f5 HMG hz1
      go_wp2_with fail
      refine HX.out.mono ?_
      rintro e w7 ⟨rfl, hr7, hb7⟩
      obtain ⟨gx, hgx⟩ : ∃ g, w6.heap.size = g := ⟨_, rfl⟩
      rw [hgx] at hr7 hb7 ⊢
      obtain ⟨x, tl, hxt⟩ : ∃ x tl, hid = x :: tl := by
        cases hid with
        | nil => exfalso; have := HK.out.2.2; simp at this; omega
        | cons x t => exact ⟨x, t, rfl⟩
      have HR7 := Lib.hid (show RowV 5 w7 gx ((headAnd 0 hid).map W8) by rw [headAnd_zero]; exact hr7)
      have HB7 := Lib.hid hb7
      have HGX := Lib.hid hgx
      have HXT := Lib.hid hxt
      clear hr7 hb7 hgx hxt HX
      go_wp2
      go_loopw [15] (fun i wr => ∃ t : Nat, t ≤ s ∧ i = .int .i64 ((bits : Int) + (t : Int)) ∧ Hid (RowV 5 wr gx ((headAnd t hid).map W8)) ∧ Hid (Below gx w6 wr)) (fun i _ => bits + s - (intOf i).toNat)
      case atStart => exact ⟨0, by omega, by simp, HR7, HB7⟩
      case round =>
        obtain ⟨t, ht, rfl, HR, HBt⟩ := hrel
        have kw8 : IntKind.i64.wrap (8 * (N : Int)) = 8 * (N : Int) := by rw [IntKind.wrap_i64]; omega
        by_cases hts : t = s
        · subst hts
          have kt : ¬ (bits : Int) + t < 8 * (N : Int) := by have := K6.out; omega
          have hf7 : FreshV wr gx (.slice (some ⟨gx, 0, none⟩) n6 n6) (headAnd t hid) := FreshV.row2 HR.out (by rw [headAnd_length, HK.out.2.2]) (by omega) _ (Nat.le_refl _)
          have hb6r : Below w6.heap.size w6 wr := by rw [HGX.out]; exact HBt.out
          obtain ⟨hf8, hb8⟩ := freshA wr [0xbc] #[.int .u8 188] rfl 1 rfl (by decide)
          obtain ⟨W8', e8⟩ : ∃ W, wr.alloc (.cells #[.int .u8 188] 5) = W := ⟨_, rfl⟩
          rw [e8] at hf8 hb8
          have hb08 := (HB6.out.trans (hb6r.mono HB6.out.size)).trans (hb8.mono (Nat.le_trans HB6.out.size hb6r.size))
          have hfH := (HF6.out.up hb6r).up hb8
          have hj := joinA W8' [.slice (some ⟨gx, 0, none⟩) n6 n6, .slice Ah nh ch, .slice (some ⟨wr.heap.size, 0, none⟩) 1 1] #[.slice (some ⟨gx, 0, none⟩) n6 n6, .slice Ah nh ch, .slice (some ⟨wr.heap.size, 0, none⟩) 1 1] rfl [headAnd t hid, H, [0xbc]] ⟨(hf7.up hb8).pc, hfH.pc, hf8.pc, trivial⟩ 3 rfl (by decide) (by have h1 := hfH.len_; have h2 := hf7.len_; simp; omega)
          have hfin : [headAnd t hid, H, [0xbc]].flatten = pssL k j t hash salt := by rw [pssL, pssH, HH.out, HK.out.1, HK.out.2.1]; simp
          rw [hfin] at hj
          have HJ := Lib.hid hj
          have HB8 := Lib.hid hb08
          clear hj hfin hb08 hfH hf7 hf8 hb8 hb6r HR HBt
          go_wp2_with fail
          refine HJ.out.mono ?_
          rintro e w9 ⟨v9, rfl, hf9, hb9⟩
          have HF9 := Lib.hid (hf9.mono_ HB8.out.size)
          have HB9 := Lib.hid (HB8.out.trans (hb9.mono HB8.out.size))
          clear hf9 hb9
          go_wp2
          go_ret2
          exact ⟨_, rfl, HF9.out, HB9.out⟩
        · have kt : (bits : Int) + t < 8 * (N : Int) := by have := K6.out; omega
          obtain ⟨xt, hxt⟩ : ∃ y, x &&& ((0xff : BitVec 8) >>> t) = y := ⟨_, rfl⟩
          obtain ⟨x2, hx2⟩ : ∃ y, xt &&& ~~~((0x80 : BitVec 8) >>> t) = y := ⟨_, rfl⟩
          have hrow := HR.out
          rw [HXT.out] at hrow
          have hc0 : wr.cell? ⟨gx, 0, none⟩ = some (W8 xt) := by rw [← hxt]; exact hrow.at_ rfl
          have hf0 := hrow.frozen 0
          have hr2 := hrow.set 0 (W8 x2)
          have hset : ((headAnd t (x :: tl)).map W8).set 0 (W8 x2) = (headAnd (t + 1) hid).map W8 := by
            rw [HXT.out, ← hx2, ← hxt, headAnd_step t (by omega)]
            rfl
          rw [hset] at hr2
          have hB2 := below_setV HBt.out (Nat.le_refl gx) 0 (W8 x2)
          have hsh := psh128 t (by omega)
          have hand := b8_andNot xt ((0x80 : BitVec 8) >>> t)
          rw [hx2] at hand
          have m2 : IntKind.i64.wrap ((bits : Int) + (t : Int) - (bits : Int)) = (t : Int) := by rw [IntKind.wrap_i64]; omega
          have kn0 : ¬ n6 = 0 := by omega
          have kn1 : (0 : Int) < n6 := by omega
          have HR2 := Lib.hid hr2
          have HB2' := Lib.hid hB2
          clear hr2 hB2 hset hrow hxt hx2
          go_wp2
          refine (wpIn_wide (n := 9)).1 (wpIn_region_pure rfl hmx [(69, .slice (some ⟨gx, 0, none⟩) n6 n6), (70, .slice (some ⟨gx, 0, none⟩) n6 n6), (71, .pointer (some ⟨gx, 0, none⟩)), (72, W8 xt), (73, .int .i64 ((bits : Int) + (t : Int))), (74, .int .i64 (bits : Int)), (75, .int .i64 (t : Int)), (76, W8 ((0x80 : BitVec 8) >>> t)), (77, W8 x2), (78, .pointer (some ⟨gx, 0, none⟩))] (by kernel_rfl) (by kernel_rfl) (by kernel_rfl) (by kernel_rfl) (by first | rfl | simp) 10 (wr.setCell ⟨gx, 0, none⟩ (W8 x2)) rfl (by kernel_rfl) ?ops7 ?last7 ?end7)
          case ops7 =>
            intro i o hi ho
            have hi2 : i = 0 ∨ i = 1 ∨ i = 2 ∨ i = 3 ∨ i = 4 ∨ i = 5 ∨ i = 6 ∨ i = 7 ∨ i = 8 ∨ i = 9 := by omega
            rcases hi2 with rfl | rfl | rfl | rfl | rfl | rfl | rfl | rfl | rfl | rfl
            all_goals
              have ho' := ho
              simp only [List.getElem?_toArray, List.getElem?_cons_zero, List.getElem?_cons_succ, Option.some.injEq] at ho'
              subst ho'
              refine ⟨(by intro c h; cases h), fun q => ⟨fun _ _ => trivial, ?_⟩⟩
            all_goals
              first
              | (refine .inl ?_; simp [execOp, evP, valP, Act.eval, List.lookup_cons]; done)
              | (refine .inl ?_; simp [execOp, evP, valP, Act.eval, List.lookup_cons, go_sem, hc0, kn0, kn1, m2]; done)
              | (refine .inl ?_; simp [execOp, evP, valP, Act.eval, List.lookup_cons, go_sem]; exact hsh)
              | (refine .inl ?_; simp [execOp, evP, valP, Act.eval, List.lookup_cons, go_sem]; exact hand)
          case last7 =>
            intro o ho
            have ho' := ho
            simp only [List.getElem?_toArray, List.getElem?_cons_zero, List.getElem?_cons_succ, Option.some.injEq] at ho'
            subst ho'
            refine ⟨(by intro c h; cases h), fun q => ⟨fun _ _ => trivial, .inl ⟨?_, rfl⟩⟩⟩
            simp [execOp, evP, valP, Act.eval, List.lookup_cons, go_sem, hc0, hf0]
            try rfl
          case end7 =>
            intro q
            simp [wrote, valP, Act.put, List.lookup_cons]
            obtain ⟨W7, e7⟩ : ∃ W, (wr.setCell ⟨gx, 0, none⟩ (W8 x2)).drewN q = W := ⟨_, rfl⟩
            have HR7' : Hid (RowV 5 W7 gx ((headAnd (t + 1) hid).map W8)) := Lib.hid (by rw [← e7]; exact HR2.out)
            have HB7' : Hid (Below gx w6 W7) := Lib.hid (by rw [← e7]; exact below_drewN HB2'.out q)
            rw [e7]
            clear e7 HR2 HB2'
            go_wp2
            go_roundw
            case rel => exact ⟨t + 1, by omega, by first | go_num | (congr 1; omega), HR7', HB7'⟩
            case measure => simp [intOf]; omega
    · have kj : (j : Int) < Z := by omega
      obtain ⟨W1, e1, so1, b1⟩ := new1 wr 0 #[.int .u8 0] rfl
      have ho1 := own_later_ HO.out b1
      have hGw : G ≤ wr.heap.size := by have := HB.out.size; have := HG.out; omega
      have hb1' := HB.out.trans (b1.mono hGw)
      have hz1 : G ≤ W1.heap.size := Nat.le_trans hGw b1.size
      have hsz : j + 1 ≤ 17592186044416 := by omega
      clear b1
      go_wp2_with (at_builtin; refine wlv_append Tryd.elem8 rfl _ _ rfl G _ j ((List.replicate j 0 : List (BitVec 8)).map W8) rfl ho1 (some ⟨wr.heap.size, 0, none⟩) 1 1 _ rfl (fun x => by cases x) _ so1 (ones8 [0]) hsz hz1 ?_; intro v2 w2' hown2 hgr2; have hb2 := hb1'.grown hgr2 hz1 (fun q hq => (ho1.lt q hq).1); rw [← List.map_append, ← List.replicate_succ'] at hown2; obtain ⟨A2', c2', rfl⟩ := own_slice hown2; clear e1 ho1 so1 hb1' hgr2)
      go_roundw
      case rel => exact ⟨j + 1, A2', c2', by omega, rfl, Lib.hid hown2, Lib.hid hb2⟩
      case measure => simp [lenV]; omega
end Go.Proofs.YtnpaidieijlkkabDoor

/- baileyref8: VerPSS. -/
set_option linter.unusedVariables false
set_option linter.unusedSimpArgs false
namespace Go.Proofs.YtnpaidieijlkkabDoor
open Go.RowKit Go.Shelf

theorem rverpss_no1 (w : World) (k bits : Int) (v2 v3 : Value) (s : Int) (h : s < 0) :
    Calls Tryd.prog 8 #[.int .i64 k, .int .i64 bits, v2, v3, .int .i64 s] w fun e w' => e = .returned (.bool false) ∧ w = w' := by
  go_enter Tryd.func8, Tryd.ntmps8
  go_wp2
  go_ret
  exact ⟨rfl, rfl⟩
set_option maxRecDepth 100000 in
theorem rverpss_no2 (w : World) (k bits : Int) (A : Option Addr) (n c : Nat) (v3 : Value) (s : Int) (h0 : 0 ≤ s) (h : psR k bits n s ≠ 0) :
    Calls Tryd.prog 8 #[.int .i64 k, .int .i64 bits, .slice A n c, v3, .int .i64 s] w fun e w' => e = .returned (.bool false) ∧ w = w' := by
  have hp := rpss_any w k bits A n c s h0
  obtain ⟨R, hR⟩ : ∃ r, psR k bits n s = r := ⟨_, rfl⟩
  rw [hR] at hp h
  have HP := Lib.hid hp
  have kb : (R != 0) = true := by simpa using h
  clear hp hR
  go_enter Tryd.func8, Tryd.ntmps8
  go_wp2_with fail
  refine HP.out.mono ?_
  rintro e w' ⟨rfl, rfl⟩
  go_wp2
  go_ret
  exact ⟨rfl, rfl⟩
set_option maxRecDepth 100000 in
theorem rverpss_no3 (w : World) (k : Int) (bits N : Nat) (hN : (bits + 7) / 8 = N) (hb : bits ≤ 65536) (A : Option Addr) (n c : Nat) (A3 : Option Addr) (n3 c3 : Nat) (s : Int) (h0 : 0 ≤ s) (h : psR k (bits : Int) n s = 0) (hne : n3 ≠ N) :
    Calls Tryd.prog 8 #[.int .i64 k, .int .i64 (bits : Int), .slice A n c, .slice A3 n3 c3, .int .i64 s] w fun e w' => e = .returned (.bool false) ∧ w = w' := by
  have hp := rpss_any w k (bits : Int) A n c s h0
  rw [h] at hp
  have hs := rsize_any w k
  obtain ⟨z, hz⟩ : ∃ z, sizeV k = z := ⟨_, rfl⟩
  rw [hz] at hs
  have HP := Lib.hid hp
  have HS := Lib.hid hs
  have hd : ((bits : Int) + 7) / 8 = (N : Int) := by omega
  have kbi : (bits : Int) ≤ 65536 := by omega
  have k1 : ((n3 : Int) != (N : Int)) = true := by simpa using (show ¬ (n3 : Int) = (N : Int) by omega)
  clear hp h hs hz hne
  go_enter Tryd.func8, Tryd.ntmps8
  go_wp2_with fail
  refine HP.out.mono ?_
  rintro e w' ⟨rfl, rfl⟩
  go_wp2_with fail
  refine HS.out.mono ?_
  rintro e w' ⟨rfl, rfl⟩
  go_wp2
  go_ret
  exact ⟨rfl, rfl⟩
set_option maxRecDepth 100000 in
set_option maxHeartbeats 8000000 in
theorem rverpss_run (w : World) (k : Int) (bits N : Nat) (hN : (bits + 7) / 8 = N) (B : Nat) (A1 : Option Addr) (n1 c1 : Nat) (hash : List (BitVec 8)) (h1 : SlV w B A1 n1 c1 (hash.map W8)) (z1 : A1 = none → c1 = 0) (h : psB k (bits : Int) n1 = true)
    (A3 : Option Addr) (c3 : Nat) (em : List (BitVec 8)) (h3 : SlV w B A3 N c3 (em.map W8)) (hB : B ≤ w.heap.size) (s : Nat) (hs : s + n1 + 1 < N) :
    Calls Tryd.prog 8 #[.int .i64 k, .int .i64 (bits : Int), .slice A1 n1 c1, .slice A3 N c3, .int .i64 (s : Int)] w fun e w' => e = .returned (.bool (decide (pssL k (N - n1 - s - 2) (8 * N - bits) hash (verSalt k N n1 s em) = em))) ∧ Below w.heap.size w w' := by
  obtain ⟨R, hR⟩ : ∃ b, decide (pssL k (N - n1 - s - 2) (8 * N - bits) hash (verSalt k N n1 s em) = em) = b := ⟨_, rfl⟩
  rw [hR]
  have HR := Lib.hid hR
  clear hR
  obtain ⟨hok, hb1, hb2⟩ := of_decide_eq_true h
  obtain ⟨hk, hn⟩ := okB_kind hok
  have hle := szN_le hk
  have hp := rpss_any w k (bits : Int) A1 n1 c1 (s : Int) (by omega)
  have hpr : psR k (bits : Int) n1 (s : Int) = 0 := by
    rw [psR, if_neg (by rw [h]; decide), szN_eq hk, if_neg (by omega)]
  rw [hpr] at hp
  have hsz := rsize_any w k
  rw [szN_eq hk, ← hn] at hsz
  have hd : ((bits : Int) + 7) / 8 = (N : Int) := by omega
  have hel : em.length = N := by simpa using h3.len.symm
  obtain ⟨e, he⟩ : ∃ e, N - n1 - 1 = e := ⟨_, rfl⟩
  obtain ⟨b, o, _, rfl, _⟩ := h3.at_ (k := 0) (by omega)
  have hcap := h3.cap
  have k1 : ((N : Int) != (N : Int)) = false := by simp
  have k2 : (n1 : Int) ≤ 64 := by omega
  have k3 : (N : Int) ≤ 8192 := by omega
  have k4 : (N : Int) - n1 - 1 = (e : Int) := by omega
  have k5 : (s : Int) < e := by omega
  have k6 : ¬ (s : Int) < 0 := by omega
  obtain ⟨t, ht⟩ : ∃ t, N - 1 = t := ⟨_, rfl⟩
  have k8 : (e : Int) ≤ t := by omega
  have k9 : (N : Int) ≤ c3 := by omega
  have k10 : ¬ c3 = e := by omega
  obtain ⟨p, hpe⟩ : ∃ p, e - s = p := ⟨_, rfl⟩
  have k11 : (e : Int) - (s : Int) = (p : Int) := by omega
  have k12 : (N : Int) - 1 = (t : Int) := by omega
  have k13 : (t : Int) ≤ c3 := by omega
  have k14 : (t : Int) ≤ 8192 := by omega
  have k16 : (p : Int) ≤ e := by omega
  have k17 : (1 : Int) ≤ p := by omega
  have k18 : (e : Int) ≤ c3 := by omega
  have k21 : (e : Int) ≤ 8192 := by omega
  have k22 : ¬ e = p → ¬ (e : Int) = p := fun x => by omega
  have sA := h3.take (k := e) (by omega)
  rw [← List.map_take] at sA
  have sD := (h3.drop (k := e) (by omega)).take (k := t - e) (by omega)
  rw [← List.map_drop, ← List.map_take, show (em.drop e).take (t - e) = (em.drop e).take n1 by congr 1; omega] at sD
  obtain ⟨X, hX⟩ : ∃ l, em.take e = l := ⟨_, rfl⟩
  obtain ⟨D, hD⟩ : ∃ l, (em.drop e).take n1 = l := ⟨_, rfl⟩
  rw [hX] at sA
  rw [hD] at sD
  have hXl : X.length = e := by simpa using sA.len.symm
  have hmg := rmgf_any w k hk _ _ (t - e) (c3 - e) D sD (fun x => by cases x) hB (by omega) e (by omega) (by omega)
  have hZ : n1 + s + 2 + (N - n1 - s - 2) = N := by omega
  have hes : N - n1 - 1 - s = p ∧ e - p = s := by omega
  have HP := Lib.hid hp
  have HS := Lib.hid hsz
  have HMG := Lib.hid hmg
  have SA := Lib.hid (sA.more hB)
  have S3 := Lib.hid (h3.more hB)
  have S1 := Lib.hid (h1.more hB)
  have Z1 := Lib.hid z1
  have HN := Lib.hid (⟨hk, hn, hN, hZ, hle.2.2, hel, he, hs, hes⟩ : KindOk k ∧ n1 = szN k ∧ (bits + 7) / 8 = N ∧ n1 + s + 2 + (N - n1 - s - 2) = N ∧ szN k ≤ 64 ∧ em.length = N ∧ N - n1 - 1 = e ∧ s + n1 + 1 < N ∧ (N - n1 - 1 - s = p ∧ e - p = s))
  have HPS := Lib.hid h
  have HXD := Lib.hid (⟨hX, hD, hXl⟩ : em.take e = X ∧ (em.drop e).take n1 = D ∧ X.length = e)
  clear hp hpr hsz hmg h hok hk hn hle hN hel he hs ht hpe hX hD hXl sA sD h1 h3 z1 hB hZ hes k22
  go_enter Tryd.func8, Tryd.ntmps8
  go_wp2_with fail
  refine HP.out.mono ?_
  rintro e' w' ⟨rfl, rfl⟩
  go_wp2_with fail
  refine HS.out.mono ?_
  rintro e' w' ⟨rfl, rfl⟩
  clear HP HS
  go_wp2_with fail
  refine HMG.out.mono ?_
  rintro e' w1 ⟨v1, rfl, hf1, hb1⟩
  obtain ⟨Am, nm, cm, rfl⟩ := hf1.form
  have hnm := hf1.lit e (mgfL_length HN.out.1 _ _)
  subst hnm
  have hx := rxor_any w1 w1.heap.size (Nat.le_refl _) (some ⟨b, o, none⟩) nm c3 X ((SA.out.below hb1).more hb1.size) Am nm cm _ hf1.pc.sl.1 (Nat.le_refl _) (by omega)
  have hmk : xorL X (mgfL k D nm) = maskK k X D := by rw [maskK, HXD.out.2.2]
  rw [hmk] at hx
  have HX := Lib.hid hx
  have HB1 := Lib.hid hb1
  clear hx hmk hf1 hb1 HMG
  go_wp2_with fail
  refine HX.out.mono ?_
  rintro e' w2 ⟨rfl, hr2, hb2⟩
  obtain ⟨g, hg⟩ : ∃ g, w1.heap.size = g := ⟨_, rfl⟩
  rw [hg] at hr2 hb2 ⊢
  have hml : (maskK k X D).length = nm := by rw [maskK_length HN.out.1, HXD.out.2.2]
  have hb02 : Below w.heap.size w w2 := HB1.out.trans (hb2.mono (by have := HB1.out.size; omega))
  have sl := (FreshV.row2 hr2 hml (by omega) g (Nat.le_refl _)).pc.sl.1
  have hdi := sl.dropIf (k := p) (by omega)
  rw [← List.map_drop] at hdi
  obtain ⟨K, hK⟩ : ∃ l, (maskK k X D).drop p = l := ⟨_, rfl⟩
  rw [hK] at hdi
  have hvs : verSalt k N n1 s em = K := by
    have h9 := HN.out.2.2.2.2.2.2.2.2.1
    rw [verSalt, h9, HN.out.2.2.2.2.2.2.1, HXD.out.1, HXD.out.2.1, hK]
  have kpe : ¬ nm = p ∨ nm = p := by omega
  have hen : ∀ (P : Option Addr) (m cc : Nat), SlV w2 w2.heap.size P m cc (K.map W8) → m = s → (P = none → cc = 0) → Calls Tryd.prog 23 #[.int .i64 k, .int .i64 (bits : Int), .slice A1 n1 c1, .slice P m cc] w2 fun e' w' => ∃ v, e' = .returned (.tuple #[v, .int .i64 0]) ∧ FreshV w' w2.heap.size v (pssL k (N - n1 - s - 2) (8 * N - bits) hash K) ∧ Below w2.heap.size w2 w' := fun P m cc hP hm hz => by
    subst hm
    exact rencpss_ok w2 k bits N HN.out.2.2.1 w2.heap.size A1 n1 c1 hash ((S1.out.below hb02).more hb02.size) Z1.out HPS.out P m cc K hP hz (Nat.le_refl _) (N - n1 - m - 2) HN.out.2.2.2.1
  have HEN := Lib.hid hen
  have HDI := Lib.hid hdi
  have HB2 := Lib.hid hb02
  have HVS := Lib.hid hvs
  have HES := Lib.hid HN.out.2.2.2.2.2.2.2.2.2
  have S32 := Lib.hid ((S3.out.below hb02).more hb02.size)
  clear hen hdi hb02 hvs sl hr2 hb2 hK hml hg HX HB1 kpe
  by_cases hcc : nm = p
  · subst hcc
    rw [if_pos rfl, Nat.sub_self] at HDI
    rw [Nat.sub_self] at HES
    go_wp2_with fail
    refine (HEN.out _ _ _ HDI.out HES.out (fun x => by cases x)).mono ?_
    rintro e' w3 ⟨v3, rfl, hf3, hb3⟩
    obtain ⟨Av, nv, cv, rfl⟩ := hf3.form
    have cv3 := hf3.cv
    have cv4 : (convert 22 9 (.slice (some ⟨b, o, none⟩) N c3)).run Tryd.prog w3 = .ok (strV em) w3 := conv_str (S32.out.below hb3)
    have e1' := fun (w : World) (t : TypeId) (x y : Operand) (a b : List (BitVec 8)) => eqGuard_str (P := Tryd.prog) w .eql t x y a b
    have e2 : ∀ w', (binOp .eql 9 (strV (pssL k (N - n1 - s - 2) (8 * N - bits) hash K)) (strV em)).run Tryd.prog w' = .ok (.bool R) w' := fun w' => by rw [eql_str w' _ _ _, ← HVS.out, HR.out]
    have HB3 := Lib.hid (HB2.out.trans (hb3.mono HB2.out.size))
    clear hf3 hb3
    go_wp2
    go_ret
    exact ⟨rfl, HB3.out⟩
  · rw [if_neg hcc, Nat.zero_add] at HDI
    go_wp2_with fail
    refine (HEN.out _ _ _ HDI.out HES.out (fun x => by cases x)).mono ?_
    rintro e' w3 ⟨v3, rfl, hf3, hb3⟩
    obtain ⟨Av, nv, cv, rfl⟩ := hf3.form
    have cv3 := hf3.cv
    have cv4 : (convert 22 9 (.slice (some ⟨b, o, none⟩) N c3)).run Tryd.prog w3 = .ok (strV em) w3 := conv_str (S32.out.below hb3)
    have e1' := fun (w : World) (t : TypeId) (x y : Operand) (a b : List (BitVec 8)) => eqGuard_str (P := Tryd.prog) w .eql t x y a b
    have e2 : ∀ w', (binOp .eql 9 (strV (pssL k (N - n1 - s - 2) (8 * N - bits) hash K)) (strV em)).run Tryd.prog w' = .ok (.bool R) w' := fun w' => by rw [eql_str w' _ _ _, ← HVS.out, HR.out]
    have HB3 := Lib.hid (HB2.out.trans (hb3.mono HB2.out.size))
    clear hf3 hb3
    go_wp2
    go_ret
    exact ⟨rfl, HB3.out⟩
end Go.Proofs.YtnpaidieijlkkabDoor

/- PadInfo, walked. -/
set_option linter.unusedVariables false
set_option linter.unusedSimpArgs false
namespace Go.Proofs.YtnpaidieijlkkabDoor
open Go.RowKit Go.Shelf

def infoV (k : Int) (hash : List (BitVec 8)) : List (BitVec 8) := if okB k hash.length then infoL k hash else []
theorem pinfo_all (w : World) (k : Int) (B : Nat) (A : Option Addr) (n c : Nat) (hash : List (BitVec 8)) (hs : SlV w B A n c (hash.map W8)) (hz : A = none → c = 0) (hB : B ≤ w.heap.size) :
    Calls Tryd.prog 10 #[.int .i64 k, .slice A n c] w fun e w' => ∃ v, e = .returned (.tuple #[v, .bool (okB k n)]) ∧ FreshV w' w.heap.size v (infoV k hash) ∧ Below w.heap.size w w' := by
  have hl : hash.length = n := by simpa using hs.len.symm
  cases h : okB k n with
  | false =>
    refine (pinfo_no w k A n c h).mono ?_
    rintro e w' ⟨rfl, rfl⟩
    exact ⟨_, rfl, by rw [infoV, hl, h]; exact FreshV.nil_ _ _, Below.refl _ _⟩
  | true =>
    refine (pinfo_ok w k B A n c hash hs hz hB h).mono ?_
    rintro e w' ⟨v, rfl, hf, hb⟩
    exact ⟨v, rfl, by rw [infoV, hl, h]; exact hf, hb⟩
def sgR (n : Int) (m : Nat) : Int := if 65536 < n then 7 else if n < 11 ∨ n - 11 < m then 33 else 0
def sgL (n : Int) (msg : List (BitVec 8)) : List (BitVec 8) := if sgR n msg.length = 0 then frameW 1 (List.replicate (n.toNat - msg.length - 3) 0xff) msg else []
theorem sg_cases (n : Int) (msg : List (BitVec 8)) : (65536 < n ∧ sgR n msg.length = 7 ∧ sgL n msg = []) ∨ (n ≤ 65536 ∧ (n < 11 ∨ n - 11 < msg.length) ∧ sgR n msg.length = 33 ∧ sgL n msg = []) ∨ (∃ N : Nat, n = N ∧ N ≤ 65536 ∧ msg.length + 11 ≤ N ∧ sgR n msg.length = 0 ∧ sgL n msg = frameW 1 (List.replicate (N - msg.length - 3) 0xff) msg) := by
  by_cases h1 : 65536 < n
  · have e : sgR n msg.length = 7 := by rw [sgR, if_pos h1]
    exact .inl ⟨h1, e, by rw [sgL, e, if_neg (by decide)]⟩
  · by_cases h2 : n < 11 ∨ n - 11 < msg.length
    · have e : sgR n msg.length = 33 := by rw [sgR, if_neg h1, if_pos h2]
      exact .inr (.inl ⟨by omega, h2, e, by rw [sgL, e, if_neg (by decide)]⟩)
    · have e : sgR n msg.length = 0 := by rw [sgR, if_neg h1, if_neg h2]
      refine .inr (.inr ⟨n.toNat, by omega, by omega, by omega, e, by rw [sgL, e, if_pos rfl]⟩)
theorem psign1_all (w : World) (n : Int) (h0 : -9223372036854775808 ≤ n) (B : Nat) (A : Option Addr) (m c : Nat) (msg : List (BitVec 8)) (hs : SlV w B A m c (msg.map W8)) (hB : B ≤ w.heap.size) :
    Calls Tryd.prog 9 #[.int .i64 n, .slice A m c] w fun e w' => ∃ v, e = .returned (.tuple #[v, .int .i64 (sgR n msg.length)]) ∧ FreshV w' w.heap.size v (sgL n msg) ∧ Below w.heap.size w w' := by
  have hl : msg.length = m := by simpa using hs.len.symm
  rcases sg_cases n msg with ⟨h1, e1, e2⟩ | ⟨h1, h2, e1, e2⟩ | ⟨N, rfl, h1, h2, e1, e2⟩
  · rw [e1, e2]
    refine (psign1_no w n A m c 7 (pframe_1 w n (W8 1) A m c h1)).mono ?_
    rintro e w' ⟨rfl, rfl⟩
    exact ⟨_, rfl, FreshV.nil_ _ _, Below.refl _ _⟩
  · rw [e1, e2]
    refine (psign1_no w n A m c 33 (pframe_2 w n (W8 1) A m c h0 h1 (by rw [← hl]; exact h2))).mono ?_
    rintro e w' ⟨rfl, rfl⟩
    exact ⟨_, rfl, FreshV.nil_ _ _, Below.refl _ _⟩
  · rw [e1, e2, hl]
    refine (psign1_ok w N h1 B A m c msg hs hB (by omega)).mono ?_
    rintro e w' ⟨v, rfl, hf, hb⟩
    exact ⟨v, rfl, hf, hb⟩
end Go.Proofs.YtnpaidieijlkkabDoor

/- PadOAEP, walked. -/
set_option linter.unusedVariables false
set_option linter.unusedSimpArgs false
namespace Go.Proofs.YtnpaidieijlkkabDoor
open Go.RowKit Go.Shelf

def oeR (k n : Int) (n2 n3 : Nat) : Int := if 65536 < n ∨ okB k n2 = false then 7 else if n < 2 * sizeV k + 2 ∨ n - (2 * sizeV k + 2) < n3 then 33 else 0
def oeL (k n : Int) (label seed m : List (BitVec 8)) : List (BitVec 8) := if oeR k n seed.length m.length = 0 then oaepL k (n.toNat - (2 * szN k + 2) - m.length) label seed m else []
theorem oe_cases (k n : Int) (label seed m : List (BitVec 8)) : ((65536 < n ∨ okB k seed.length = false) ∧ oeR k n seed.length m.length = 7 ∧ oeL k n label seed m = []) ∨ (n ≤ 65536 ∧ okB k seed.length = true ∧ (n < 2 * sizeV k + 2 ∨ n - (2 * sizeV k + 2) < m.length) ∧ oeR k n seed.length m.length = 33 ∧ oeL k n label seed m = []) ∨
    (∃ (N Z : Nat), n = N ∧ N ≤ 65536 ∧ okB k seed.length = true ∧ m.length + (2 * szN k + 2) + Z = N ∧ oeR k n seed.length m.length = 0 ∧ oeL k n label seed m = oaepL k Z label seed m) := by
  by_cases h1 : 65536 < n ∨ okB k seed.length = false
  · have e : oeR k n seed.length m.length = 7 := by rw [oeR, if_pos h1]
    exact .inl ⟨h1, e, by rw [oeL, e, if_neg (by decide)]⟩
  · have h65 : n ≤ 65536 := by
      rcases Int.lt_or_le 65536 n with h | h
      · exact absurd (.inl h) h1
      · exact h
    have hok : okB k seed.length = true := by
      cases h : okB k seed.length with
      | true => rfl
      | false => exact absurd (.inr h) h1
    by_cases h2 : n < 2 * sizeV k + 2 ∨ n - (2 * sizeV k + 2) < m.length
    · have e : oeR k n seed.length m.length = 33 := by rw [oeR, if_neg h1, if_pos h2]
      exact .inr (.inl ⟨h65, hok, h2, e, by rw [oeL, e, if_neg (by decide)]⟩)
    · have e : oeR k n seed.length m.length = 0 := by rw [oeR, if_neg h1, if_neg h2]
      obtain ⟨hk, _⟩ := okB_kind hok
      have hz := szN_eq hk
      rw [hz] at h2
      exact .inr (.inr ⟨n.toNat, n.toNat - (2 * szN k + 2) - m.length, by omega, by omega, hok, by omega, e, by rw [oeL, e, if_pos rfl]⟩)
theorem pencoaep_all (w : World) (k : Int) (hGS : StartsG w) (hGR : RootsG w) (n : Int) (h0 : -9223372036854775808 ≤ n) (A1 : Option Addr) (n1 c1 : Nat) (label : List (BitVec 8)) (h1 : SlV w w.heap.size A1 n1 c1 (label.map W8)) (z1 : A1 = none → c1 = 0) (hn1 : n1 ≤ 1000000)
    (A2 : Option Addr) (n2 c2 : Nat) (seed : List (BitVec 8)) (h2 : SlV w w.heap.size A2 n2 c2 (seed.map W8)) (z2 : A2 = none → c2 = 0) (A3 : Option Addr) (n3 c3 : Nat) (m : List (BitVec 8)) (h3 : SlV w w.heap.size A3 n3 c3 (m.map W8)) (z3 : A3 = none → c3 = 0) :
    Calls Tryd.prog 11 #[.int .i64 k, .int .i64 n, .slice A1 n1 c1, .slice A2 n2 c2, .slice A3 n3 c3] w fun e w' => ∃ v, e = .returned (.tuple #[v, .int .i64 (oeR k n seed.length m.length)]) ∧ FreshV w' w.heap.size v (oeL k n label seed m) ∧ Below w.heap.size w w' := by
  have hl2 : seed.length = n2 := by simpa using h2.len.symm
  have hl3 : m.length = n3 := by simpa using h3.len.symm
  rcases oe_cases k n label seed m with ⟨hc, e1, e2⟩ | ⟨hc, hok, hd, e1, e2⟩ | ⟨N, Z, rfl, hc, hok, hd, e1, e2⟩
  · rw [e1, e2]
    refine (pencoaep_no1 w k n _ A2 n2 c2 _ (by rw [← hl2]; exact hc)).mono ?_
    rintro e w' ⟨rfl, rfl⟩
    exact ⟨_, rfl, FreshV.nil_ _ _, Below.refl _ _⟩
  · rw [e1, e2]
    refine (pencoaep_no2 w k n _ A2 n2 c2 A3 n3 c3 h0 hc (by rw [← hl2]; exact hok) (by rw [← hl3]; exact hd)).mono ?_
    rintro e w' ⟨rfl, rfl⟩
    exact ⟨_, rfl, FreshV.nil_ _ _, Below.refl _ _⟩
  · rw [e1, e2]
    exact pencoaep_ok w k hGS hGR N hc _ A1 n1 c1 label h1 z1 A2 n2 c2 seed h2 z2 (by rw [← hl2]; exact hok) A3 n3 c3 m h3 z3 (Nat.le_refl _) hn1 Z (by rw [← hl3]; exact hd)
open Classical in
noncomputable def odR (k : Int) (label em : List (BitVec 8)) : Int := if KindOk k then (if em.length < 2 * szN k + 2 ∨ em.head? ≠ some 0 then 64 else if decOk k label em then 0 else 64) else 7
open Classical in
noncomputable def odL (k : Int) (label em : List (BitVec 8)) : List (BitVec 8) := if KindOk k then (if em.length < 2 * szN k + 2 ∨ em.head? ≠ some 0 then [] else if decOk k label em then decMsg k label em else []) else []
theorem pdecoaep_all (w : World) (k : Int) (hGS : StartsG w) (hGR : RootsG w) (A1 : Option Addr) (n1 c1 : Nat) (label : List (BitVec 8)) (h1 : SlV w w.heap.size A1 n1 c1 (label.map W8)) (z1 : A1 = none → c1 = 0) (hn1 : n1 ≤ 1000000)
    (A : Option Addr) (n c : Nat) (em : List (BitVec 8)) (hs : SlV w w.heap.size A n c (em.map W8)) (hn : n ≤ 500) :
    Calls Tryd.prog 12 #[.int .i64 k, .slice A1 n1 c1, .slice A n c] w fun e w' => ∃ v, e = .returned (.tuple #[v, .int .i64 (odR k label em)]) ∧ FreshV w' w.heap.size v (odL k label em) ∧ Below w.heap.size w w' := by
  have hl : em.length = n := by simpa using hs.len.symm
  by_cases hk : KindOk k
  · by_cases h : em.length < 2 * szN k + 2 ∨ em.head? ≠ some 0
    · rw [odR, odL, if_pos hk, if_pos h, if_pos hk, if_pos h]
      refine (pdecoaep_no2 w k _ _ A n c em hs hk (by rcases h with h | h; exact .inl (by omega); exact .inr (.inr h))).mono ?_
      rintro e w' ⟨rfl, rfl⟩
      exact ⟨_, rfl, FreshV.nil_ _ _, Below.refl _ _⟩
    · rw [odR, odL, if_pos hk, if_neg h, if_pos hk, if_neg h]
      have ha : 2 * szN k + 2 ≤ n := by
        rcases Nat.lt_or_ge em.length (2 * szN k + 2) with h3 | h3
        · exact absurd (.inl h3) h
        · omega
      have hb : em.head? = some 0 := Classical.byContradiction fun h3 => h (.inr h3)
      exact pdecoaep_run w k hk hGS hGR _ A1 n1 c1 label h1 z1 hn1 A n c em hs (Nat.le_refl _) ha (by omega) hb
  · rw [odR, odL, if_neg hk, if_neg hk]
    refine (pdecoaep_no1 w k _ _ hk).mono ?_
    rintro e w' ⟨rfl, rfl⟩
    exact ⟨_, rfl, FreshV.nil_ _ _, Below.refl _ _⟩
theorem od_back (k n : Int) (label seed m : List (BitVec 8)) (hn : n ≤ 200 ∨ 65536 < n) (h : oeR k n seed.length m.length = 0) : odR k label (oeL k n label seed m) = 0 ∧ odL k label (oeL k n label seed m) = m ∧ (oeL k n label seed m).length ≤ 200 := by
  rcases oe_cases k n label seed m with ⟨hc, e1, e2⟩ | ⟨hc, hok, hd, e1, e2⟩ | ⟨N, Z, rfl, hc, hok, hd, e1, e2⟩
  · rw [e1] at h; cases h
  · rw [e1] at h; cases h
  · obtain ⟨hk, hsl⟩ := okB_kind hok
    obtain ⟨b1, b2⟩ := oaep_back hk Z label seed m hsl
    have hlen := oaepL_length hk Z label seed m hsl
    have hno : ¬ ((oaepL k Z label seed m).length < 2 * szN k + 2 ∨ (oaepL k Z label seed m).head? ≠ some 0) := by
      rintro (h3 | h3)
      · omega
      · exact h3 rfl
    rw [e2]
    refine ⟨?_, ?_, by omega⟩
    · rw [odR, if_pos hk, if_neg hno, b1, if_pos rfl]
    · rw [odL, if_pos hk, if_neg hno, b1, if_pos rfl, b2]
end Go.Proofs.YtnpaidieijlkkabDoor

/- PadOAEP, walked: the statement's own function. -/
set_option linter.unusedVariables false
set_option linter.unusedSimpArgs false
namespace Go.Proofs.YtnpaidieijlkkabDoor
open Go.RowKit Go.Shelf

theorem strNe (L : List (BitVec 8)) : ∀ w', (binOp .neq 9 (strV L) (strV L)).run Tryd.prog w' = .ok (.bool false) w' := fun w' => by rw [neq_str w' _ L L, decide_eq_true rfl]; rfl
theorem Pc.cv {w : World} {B n c : Nat} {A : Option Addr} {l : List (BitVec 8)} (h : Pc w B (.slice A n c) l) : (convert 22 9 (.slice A n c)).run Tryd.prog w = .ok (strV l) w := conv_str h.sl.1
/-- what Short leaves -/
theorem short_pc {w : World} {n c : Nat} {A : Option Addr} {bs : List (BitVec 8)} (h : Pc w w.heap.size (.slice A n c) bs) (k : Nat) (hk : k ≤ 1000000) :
    ∃ (q : Nat) (t : List (BitVec 8)), q ≤ k ∧ t.length = q ∧ Pc w w.heap.size (.slice A q c) t ∧ Calls Tryd.prog 5 #[.slice A n c, .int .i64 (k : Int)] w fun e w' => e = .returned (.slice A q c) ∧ w = w' := by
  obtain ⟨s, z⟩ := h.sl
  have hss := short_sl (m := k) s
  have hsh := short_any w _ A n c bs s k hk
  exact ⟨min n k, bs.take k, by omega, by have := hss.len; rw [List.length_map] at this; exact this.symm, Pc.of_sl hss z, hsh⟩
end Go.Proofs.YtnpaidieijlkkabDoor
