/- baileyref8: Sign1; baileylaw8: size. -/
import Derived.Test.YtnpaidieijlkkaaDoorQPdR
import Derived.Test.YtnpaidieijlkkaaDoorPileJ10
set_option linter.unusedVariables false
set_option linter.unusedSimpArgs false
namespace Go.Proofs.YtnpaidieijlkkaaDoor
open Go.RowKit Go.Shelf

def size8 (n : Int) : Int := if 200 < n ∧ n ≤ 65536 then n % 201 else n
theorem size8_bd {n : Int} (h0 : -9223372036854775808 ≤ n) (h1 : n ≤ 9223372036854775807) : -9223372036854775808 ≤ size8 n ∧ size8 n ≤ 9223372036854775807 ∧ (size8 n ≤ 200 ∨ 65536 < size8 n) := by
  unfold size8
  split <;> omega
set_option maxRecDepth 100000 in
theorem size8_any (w : World) (n : Int) (h0 : -9223372036854775808 ≤ n) (h1 : n ≤ 9223372036854775807) :
    Calls Tryd.prog 17 #[.int .i64 n] w fun e w' => e = .returned (.int .i64 (size8 n)) ∧ w = w' := by
  by_cases h2 : 200 < n
  · by_cases h3 : n ≤ 65536
    · have e : size8 n = n % 201 := by rw [size8, if_pos ⟨h2, h3⟩]
      rw [e]
      clear e
      go_enter Tryd.func17, Tryd.ntmps17
      go_wp2
      go_ret
      refine ⟨?_, rfl⟩
      first | rfl | (simp; done) | (simp; omega)
    · have e : size8 n = n := by rw [size8, if_neg (fun h => h3 h.2)]
      rw [e]
      clear e
      go_enter Tryd.func17, Tryd.ntmps17
      go_wp2
      go_ret
      exact ⟨rfl, rfl⟩
  · have e : size8 n = n := by rw [size8, if_neg (fun h => h2 h.1)]
    rw [e]
    clear e
    go_enter Tryd.func17, Tryd.ntmps17
    go_wp2
    go_ret
    exact ⟨rfl, rfl⟩
set_option maxRecDepth 100000 in
theorem rsign1_1 (w : World) (n : Int) (v : Value) (h : 65536 < n) :
    Calls Tryd.prog 21 #[.int .i64 n, v] w fun e w' => e = .returned (.tuple #[.slice none 0 0, .int .i64 7]) ∧ w = w' := by
  go_enter Tryd.func21, Tryd.ntmps21
  go_wp2
  go_ret2
  exact ⟨rfl, rfl⟩
set_option maxRecDepth 100000 in
theorem rsign1_2 (w : World) (n : Int) (A : Option Addr) (m c : Nat) (h0 : -9223372036854775808 ≤ n) (h : n ≤ 65536) (h2 : n < 11 ∨ n - 11 < m) :
    Calls Tryd.prog 21 #[.int .i64 n, .slice A m c] w fun e w' => e = .returned (.tuple #[.slice none 0 0, .int .i64 33]) ∧ w = w' := by
  have h65 : ¬ 65536 < n := by omega
  by_cases h3 : n < 11
  · clear h2
    go_enter Tryd.func21, Tryd.ntmps21
    go_wp2
    go_ret2
    exact ⟨rfl, rfl⟩
  · have h4 : n - 11 < m := by omega
    have h5 : 11 ≤ n := by omega
    clear h2 h3
    go_enter Tryd.func21, Tryd.ntmps21
    go_wp2
    go_ret2
    exact ⟨rfl, rfl⟩
theorem new1 (w : World) (a : BitVec 8) (arr : Array Value) (ha : #[W8 a] = arr) : ∃ W, w.alloc (.cells arr 5) = W ∧ SlV W W.heap.size (some ⟨w.heap.size, 0, none⟩) 1 1 (([a] : List (BitVec 8)).map W8) ∧ Below w.heap.size w W := by
  obtain ⟨W, e, r, b', z⟩ := newV w 5 (([a] : List (BitVec 8)).map W8) arr ha
  exact ⟨W, e, r.sl (by simp), b'⟩
set_option maxRecDepth 100000 in
set_option maxHeartbeats 4000000 in
theorem rsign1_ok (w : World) (N : Nat) (hN2 : N ≤ 65536) (B : Nat) (A : Option Addr) (m c : Nat) (msg : List (BitVec 8)) (hs : SlV w B A m c (msg.map W8)) (hz : A = none → c = 0) (hB : B ≤ w.heap.size) (hm : m + 11 ≤ N) :
    Calls Tryd.prog 21 #[.int .i64 (N : Int), .slice A m c] w fun e w' => ∃ v, e = .returned (.tuple #[v, .int .i64 0]) ∧ FreshV w' w.heap.size v (frameW 1 (List.replicate (N - m - 3) 0xff) msg) ∧ Below w.heap.size w w' := by
  have hl : msg.length = m := by simpa using hs.len.symm
  obtain ⟨r, hr⟩ : ∃ r, N - m - 3 = r := ⟨_, rfl⟩
  rw [hr]
  have k1 : (N : Int) ≤ 65536 := by omega
  have k2 : (11 : Int) ≤ N := by omega
  have k3 : ¬ (N : Int) - 11 < m := by omega
  have k4 : (m : Int) ≤ (N : Int) - 11 := by omega
  have k5 : (N : Int) - 1 - m = (r : Int) + 2 := by omega
  have k6 : (r : Int) ≤ 65536 := by omega
  obtain ⟨W0, e0, ho0, b0⟩ := new2 w w.heap.size (Nat.le_refl _) 0 1 #[.int .u8 0, .int .u8 1] rfl
  have HS := Lib.hid (hs.more hB)
  have HZ := Lib.hid hz
  have HN := Lib.hid (⟨hl, by omega⟩ : msg.length = m ∧ r + m + 3 ≤ 65536)
  have HO0 := Lib.hid ho0
  have HB0 := Lib.hid b0
  clear hs hz hl hB hr hN2 hm ho0 b0
  go_enter Tryd.func21, Tryd.ntmps21
  go_wp2
  go_loopw [6] (fun v wr => ∃ (j : Nat) (Ab : Option Addr) (cb : Nat), j ≤ r ∧ v = .slice Ab (2 + j) cb ∧ Hid (wr.ownsRow w.heap.size 5 1 (.slice Ab (2 + j) cb) (2 + j) (([0, 1] ++ List.replicate j 0xff : List (BitVec 8)).map W8)) ∧ Hid (Below w.heap.size w wr)) (fun v _ => r + 3 - lenV v)
  case atStart => exact ⟨0, _, 2, by omega, rfl, HO0, HB0⟩
  case round =>
    obtain ⟨j, Ab, cb, hj, rfl, HO, HB⟩ := hrel
    by_cases hjr : j = r
    · subst hjr
      have kj : ¬ (2 : Int) + j < j + 2 := by omega
      obtain ⟨W1, e1, so1, b1⟩ := new1 wr 0 #[.int .u8 0] rfl
      have ho1 := own_later_ HO.out b1
      have hb1 := HB.out.trans (b1.mono HB.out.size)
      have hz1 := hb1.size
      have hsz : 2 + j + 1 + m ≤ 17592186044416 := by have := HN.out; omega
      clear b1
      go_wp2_with (first | (at_builtin; refine wlv_append Tryd.elem8 rfl _ _ rfl w.heap.size _ (2 + j) (([0, 1] ++ List.replicate j 0xff : List (BitVec 8)).map W8) rfl ho1 (some ⟨wr.heap.size, 0, none⟩) 1 1 _ rfl (fun x => by cases x) _ so1 (ones8 [0]) (by omega) hz1 ?_; intro v2 w2 hown2 hgr2; have hb2 := hb1.grown hgr2 hz1 (fun q hq => (ho1.lt q hq).1); rw [← List.map_append] at hown2; obtain ⟨A2, c2, rfl⟩ := own_slice hown2; have hz2 := hb2.size; have so2 := HS.out.below hb2; clear e1 ho1 so1 hb1 hgr2) | (at_builtin; refine wlv_append Tryd.elem8 rfl _ _ rfl w.heap.size _ (2 + j + 1) (([0, 1] ++ List.replicate j 0xff ++ [0] : List (BitVec 8)).map W8) rfl hown2 A m c _ rfl HZ.out _ so2 (ones8 msg) hsz hz2 ?_; intro v3 w3 hown3 hgr3; have hb3 := hb2.grown hgr3 hz2 (fun q hq => (hown2.lt q hq).1); rw [← List.map_append] at hown3; obtain ⟨A3, c3, rfl⟩ := own_slice hown3))
      go_ret2
      have e : ([0, 1] ++ List.replicate j 0xff ++ [0] ++ msg : List (BitVec 8)) = frameW 1 (List.replicate j 0xff) msg := by simp [frameW]
      rw [e] at hown3
      exact ⟨_, rfl, FreshV.of_own hown3, hb3⟩
    · have kj : (2 : Int) + j < r + 2 := by omega
      obtain ⟨W1, e1, so1, b1⟩ := new1 wr 0xff #[.int .u8 255] rfl
      have ho1 := own_later_ HO.out b1
      have hb1 := HB.out.trans (b1.mono HB.out.size)
      have hz1 := hb1.size
      have hsz : 2 + j + 1 ≤ 17592186044416 := by have := HN.out; omega
      clear b1
      go_wp2_with (at_builtin; refine wlv_append Tryd.elem8 rfl _ _ rfl w.heap.size _ (2 + j) (([0, 1] ++ List.replicate j 0xff : List (BitVec 8)).map W8) rfl ho1 (some ⟨wr.heap.size, 0, none⟩) 1 1 _ rfl (fun x => by cases x) _ so1 (ones8 [0xff]) hsz hz1 ?_; intro v2 w2 hown2 hgr2; have hb2 := hb1.grown hgr2 hz1 (fun q hq => (ho1.lt q hq).1); rw [← List.map_append, List.append_assoc, ← List.replicate_succ'] at hown2; obtain ⟨A2, c2, rfl⟩ := own_slice hown2; clear e1 ho1 so1 hb1 hgr2)
      go_roundw
      case rel => exact ⟨j + 1, A2, c2, by omega, rfl, Lib.hid hown2, Lib.hid hb2⟩
      case measure => simp [lenV]; omega
end Go.Proofs.YtnpaidieijlkkaaDoor
