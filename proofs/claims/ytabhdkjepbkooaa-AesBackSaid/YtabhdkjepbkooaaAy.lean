/- aescore: elements of GF(2^128): plus, raise, word. -/
import Derived.Test.YtabhdkjepbkooaaAs
import Derived.Test.YtabhdkjepbkooaaAl
import Derived.Test.YtabhdkjepbkooaaBox
set_option linter.unusedVariables false
set_option linter.unusedSimpArgs false
namespace Go.Proofs.Ytabhdkjepbkooaa
open Go.RowKit

theorem Try.sizeE : (Try.prog.info? 61).map (·.size) = some 2 := by kernel_rfl
theorem b64_mul (x y : BitVec 64) : IntKind.u64.wrap (i64 x * i64 y) = i64 (x * y) := by
  unfold i64; rw [IntKind.wrap_u64, BitVec.toNat_mul]; simp
/-- an element -/
abbrev EV (h l : BitVec 64) : Value := .agg #[W64 h, W64 l]
theorem newE (w : World) (h l : BitVec 64) : ∃ W, w.alloc (.cells #[W64 h, W64 l] 61) = W ∧ RowV 61 W w.heap.size [W64 h, W64 l] ∧ Below w.heap.size w W ∧ W.heap.size = w.heap.size + 1 :=
  newV w 61 [W64 h, W64 l] _ rfl
theorem newE0 (w : World) : ∃ W, w.alloc (.cells #[.int .u64 0, .int .u64 0] 61) = W ∧ RowV 61 W w.heap.size [W64 0, W64 0] ∧ Below w.heap.size w W ∧ W.heap.size = w.heap.size + 1 :=
  newV w 61 [W64 0, W64 0] _ rfl
theorem results_elem {w : World} {fn : Func} {p : Tmp} (h : fn.results = #[.cell p 61]) (tmps : Array Value) (g : Nat) (a b : BitVec 64) (hp : tmps.getD p undef = .pointer (some ⟨g, 0, none⟩)) (hr : RowV 61 w g [W64 a, W64 b]) : (results fn tmps).run Try.prog w = .ok (EV a b) w :=
  results_cell_row h tmps w g 61 #[W64 a, W64 b] (0, 0) _ hp hr Try.underlying61 rfl Try.sizeE
set_option maxHeartbeats 1600000 in
theorem plus_any (w : World) (a b c d : BitVec 64) : Calls Try.prog 39 #[EV a b, EV c d] w fun e w' => e = .returned (EV (a ^^^ c) (b ^^^ d)) ∧ Below w.heap.size w w' := by
  obtain ⟨W1, e1, r1, b1, z1⟩ := newE w a b
  obtain ⟨W2, e2, r2, b2, z2⟩ := newE W1 c d
  obtain ⟨W3, e3, r3, b3, z3⟩ := newE0 W2
  obtain ⟨g, hg⟩ : ∃ g, w.heap.size = g := ⟨_, rfl⟩
  have hB : Below g w W3 := by rw [← hg]; exact b1.trans ((b2.mono b1.size).trans (b3.mono (Nat.le_trans b1.size b2.size)))
  have r1 := (r1.later b2).later b3
  have r2 := r2.later b3
  obtain ⟨g2, hg2⟩ : ∃ x, W1.heap.size = x := ⟨_, rfl⟩
  obtain ⟨g3, hg3⟩ : ∃ x, W2.heap.size = x := ⟨_, rfl⟩
  rw [hg] at r1
  rw [hg2] at r2
  rw [hg3] at r3
  have l3 : g ≤ g3 := by omega
  have c10 := r1.at_ (i := 0) (v := W64 a) rfl
  have c11 := r1.at_ (i := 1) (v := W64 b) rfl
  have c20 := r2.at_ (i := 0) (v := W64 c) rfl
  have c21 := r2.at_ (i := 1) (v := W64 d) rfl
  have x1 := b64_xor a c
  have x2 := b64_xor b d
  have HG := Lib.hid hg
  clear b1 b2 b3 z1 z2 z3 r1 r2
  go_enter Try.func39, Try.ntmps39
  go_wp2_with ((with_reducible show wpList _ _ _ (⟨none, _, _, _, _, _⟩ :: _) _ _); refine wlv_store rfl 61 2 Try.sizeE _ _ rfl g3 [W64 (a ^^^ c), W64 (b ^^^ d)] rfl rfl _ _ r3 rfl rfl (by intro v hv; simp at hv; rcases hv with rfl | rfl <;> rfl) ?_; intro w2 hr2 hb2 hz2)
  refine ⟨rfl, _, results_elem rfl _ g3 _ _ rfl hr2, rfl, ?_⟩
  rw [HG.out]
  exact hb2 _ _ hB l3
set_option maxHeartbeats 1600000 in
theorem raise_any (w : World) (a b : BitVec 64) : Calls Try.prog 45 #[EV a b] w fun e w' => e = .returned (EV (a >>> 1 ^^^ ((b &&& 1) * 0xe1) <<< 56) (a <<< 63 ||| b >>> 1)) ∧ Below w.heap.size w w' := by
  obtain ⟨W1, e1, r1, b1, z1⟩ := newE w a b
  obtain ⟨W3, e3, r3, b3, z3⟩ := newE0 W1
  obtain ⟨g, hg⟩ : ∃ g, w.heap.size = g := ⟨_, rfl⟩
  have hB : Below g w W3 := by rw [← hg]; exact b1.trans (b3.mono b1.size)
  have r1 := r1.later b3
  obtain ⟨g3, hg3⟩ : ∃ x, W1.heap.size = x := ⟨_, rfl⟩
  rw [hg] at r1
  rw [hg3] at r3
  have l3 : g ≤ g3 := by omega
  have c10 := r1.at_ (i := 0) (v := W64 a) rfl
  have c11 := r1.at_ (i := 1) (v := W64 b) rfl
  obtain ⟨a1, ha1⟩ : ∃ x, a >>> 1 = x := ⟨_, rfl⟩
  obtain ⟨b1', hb1⟩ : ∃ x, b >>> 1 = x := ⟨_, rfl⟩
  obtain ⟨p1, hp1⟩ : ∃ x, b &&& 1 = x := ⟨_, rfl⟩
  obtain ⟨p2, hp2⟩ : ∃ x, p1 * 0xe1 = x := ⟨_, rfl⟩
  obtain ⟨p3, hp3⟩ : ∃ x, p2 <<< 56 = x := ⟨_, rfl⟩
  obtain ⟨q1, hq1⟩ : ∃ x, a <<< 63 = x := ⟨_, rfl⟩
  obtain ⟨x, hx⟩ : ∃ x, a1 ^^^ p3 = x := ⟨_, rfl⟩
  obtain ⟨y, hy⟩ : ∃ y, q1 ||| b1' = y := ⟨_, rfl⟩
  rw [ha1, hb1, hp1, hp2, hp3, hq1, hx, hy]
  have n1 : i64 a / 2 = i64 a1 := by rw [← ha1]; exact b64_shr a 1
  have n2 : i64 b / 2 = i64 b1' := by rw [← hb1]; exact b64_shr b 1
  have n3 : bits .and .u64 (i64 b) 1 = i64 p1 := by rw [← hp1]; exact b64_and b 1
  have n4 : IntKind.u64.wrap (i64 p1 * 225) = i64 p2 := by rw [← hp2]; exact b64_mul p1 0xe1
  have n5 : IntKind.u64.wrap (i64 p2 * 72057594037927936) = i64 p3 := by rw [← hp3]; exact b64_shl p2 56
  have n6 : IntKind.u64.wrap (i64 a * 9223372036854775808) = i64 q1 := by rw [← hq1]; exact b64_shl a 63
  have n7 : bits .xor .u64 (i64 a1) (i64 p3) = i64 x := by rw [← hx]; exact b64_xor a1 p3
  have n8 : bits .or .u64 (i64 q1) (i64 b1') = i64 y := by rw [← hy]; exact b64_or q1 b1'
  clear ha1 hb1 hp1 hp2 hp3 hq1 hx hy
  have HG := Lib.hid hg
  clear b1 b3 z1 z3 r1
  go_enter Try.func45, Try.ntmps45
  go_wp2_with ((with_reducible show wpList _ _ _ (⟨none, _, _, _, _, _⟩ :: _) _ _); refine wlv_store rfl 61 2 Try.sizeE _ _ rfl g3 [W64 x, W64 y] rfl rfl _ _ r3 rfl rfl (by intro v hv; simp at hv; rcases hv with rfl | rfl <;> rfl) ?_; intro w2 hr2 hb2 hz2)
  refine ⟨rfl, _, results_elem rfl _ g3 _ _ rfl hr2, rfl, ?_⟩
  rw [HG.out]
  exact hb2 _ _ hB l3
end Go.Proofs.Ytabhdkjepbkooaa
