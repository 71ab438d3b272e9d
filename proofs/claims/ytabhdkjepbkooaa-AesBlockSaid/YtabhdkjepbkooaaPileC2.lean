/- Parts of one proof, joined: Ay, Ai, Am, Reg2, Pure, An. -/
import Derived.Test.YtabhdkjepbkooaaPileC1
import Derived.OrdersIn
import Derived.OwnWalkIn
import Derived.RangeFuncNested
import Derived.RangeFuncCalls
import Derived.RangeFuncLeaves
import Derived.RangeFuncBox
import Derived.Shelf.Abstract
import Derived.RegionIn
import Derived.TacticsInMore
import Derived.Deep.RegionHeld3
import Derived.StillTailTactics

/- aescore: elements of GF(2^128): plus, raise, word. -/
set_option linter.unusedVariables false
set_option linter.unusedSimpArgs false
namespace Go.Proofs.Ytabhdkjepbkooaa
open Go.RowKit

theorem Try.sizeE : (Try.prog.info? 61).map (·.size) = some 2 := by kernel_rfl
theorem b64_mul (x y : BitVec 64) : IntKind.u64.wrap (i64 x * i64 y) = i64 (x * y) := by
  unfold i64; rw [IntKind.wrap_u64, BitVec.toNat_mul]; simp
/-- an element -/
abbrev EV (h l : BitVec 64) : Value := .agg #[W64 h, W64 l]
theorem newE (w : World) (h l : BitVec 64) : ∃ W, w.alloc (.cells #[W64 h, W64 l] 61) = W ∧ RowV 61 W w.heap.size [W64 h, W64 l] ∧ Below w.heap.size w W ∧ W.heap.size = w.heap.size + 1 :=
  newV w 61 [W64 h, W64 l] _ rfl
theorem newE0 (w : World) : ∃ W, w.alloc (.cells #[.int .u64 0, .int .u64 0] 61) = W ∧ RowV 61 W w.heap.size [W64 0, W64 0] ∧ Below w.heap.size w W ∧ W.heap.size = w.heap.size + 1 :=
  newV w 61 [W64 0, W64 0] _ rfl
theorem results_elem {w : World} {fn : Func} {p : Tmp} (h : fn.results = #[.cell p 61]) (tmps : Array Value) (g : Nat) (a b : BitVec 64) (hp : tmps.getD p undef = .pointer (some ⟨g, 0, none⟩)) (hr : RowV 61 w g [W64 a, W64 b]) : (results fn tmps).run Try.prog w = .ok (EV a b) w :=
  results_cell_row h tmps w g 61 #[W64 a, W64 b] (0, 0) _ hp hr Try.underlying61 rfl Try.sizeE
set_option maxHeartbeats 1600000 in
theorem plus_any (w : World) (a b c d : BitVec 64) : Calls Try.prog 39 #[EV a b, EV c d] w fun e w' => e = .returned (EV (a ^^^ c) (b ^^^ d)) ∧ Below w.heap.size w w' := by
  obtain ⟨W1, e1, r1, b1, z1⟩ := newE w a b
  obtain ⟨W2, e2, r2, b2, z2⟩ := newE W1 c d
  obtain ⟨W3, e3, r3, b3, z3⟩ := newE0 W2
  obtain ⟨g, hg⟩ : ∃ g, w.heap.size = g := ⟨_, rfl⟩
  have hB : Below g w W3 := by rw [← hg]; exact b1.trans ((b2.mono b1.size).trans (b3.mono (Nat.le_trans b1.size b2.size)))
  have r1 := (r1.later b2).later b3
  have r2 := r2.later b3
  obtain ⟨g2, hg2⟩ : ∃ x, W1.heap.size = x := ⟨_, rfl⟩
  obtain ⟨g3, hg3⟩ : ∃ x, W2.heap.size = x := ⟨_, rfl⟩
  rw [hg] at r1
  rw [hg2] at r2
  rw [hg3] at r3
  have l3 : g ≤ g3 := by omega
  have c10 := r1.at_ (i := 0) (v := W64 a) rfl
  have c11 := r1.at_ (i := 1) (v := W64 b) rfl
  have c20 := r2.at_ (i := 0) (v := W64 c) rfl
  have c21 := r2.at_ (i := 1) (v := W64 d) rfl
  have x1 := b64_xor a c
  have x2 := b64_xor b d
  have HG := Lib.hid hg
  clear b1 b2 b3 z1 z2 z3 r1 r2
  go_enter Try.func39, Try.ntmps39
  go_wp2_with ((with_reducible show wpList _ _ _ (⟨none, _, _, _, _, _⟩ :: _) _ _); refine wlv_store rfl 61 2 Try.sizeE _ _ rfl g3 [W64 (a ^^^ c), W64 (b ^^^ d)] rfl rfl _ _ r3 rfl rfl (by intro v hv; simp at hv; rcases hv with rfl | rfl <;> rfl) ?_; intro w2 hr2 hb2 hz2)
  refine ⟨rfl, _, results_elem rfl _ g3 _ _ rfl hr2, rfl, ?_⟩
  rw [HG.out]
  exact hb2 _ _ hB l3
set_option maxHeartbeats 1600000 in
theorem raise_any (w : World) (a b : BitVec 64) : Calls Try.prog 45 #[EV a b] w fun e w' => e = .returned (EV (a >>> 1 ^^^ ((b &&& 1) * 0xe1) <<< 56) (a <<< 63 ||| b >>> 1)) ∧ Below w.heap.size w w' := by
  obtain ⟨W1, e1, r1, b1, z1⟩ := newE w a b
  obtain ⟨W3, e3, r3, b3, z3⟩ := newE0 W1
  obtain ⟨g, hg⟩ : ∃ g, w.heap.size = g := ⟨_, rfl⟩
  have hB : Below g w W3 := by rw [← hg]; exact b1.trans (b3.mono b1.size)
  have r1 := r1.later b3
  obtain ⟨g3, hg3⟩ : ∃ x, W1.heap.size = x := ⟨_, rfl⟩
  rw [hg] at r1
  rw [hg3] at r3
  have l3 : g ≤ g3 := by omega
  have c10 := r1.at_ (i := 0) (v := W64 a) rfl
  have c11 := r1.at_ (i := 1) (v := W64 b) rfl
  obtain ⟨a1, ha1⟩ : ∃ x, a >>> 1 = x := ⟨_, rfl⟩
  obtain ⟨b1', hb1⟩ : ∃ x, b >>> 1 = x := ⟨_, rfl⟩
  obtain ⟨p1, hp1⟩ : ∃ x, b &&& 1 = x := ⟨_, rfl⟩
  obtain ⟨p2, hp2⟩ : ∃ x, p1 * 0xe1 = x := ⟨_, rfl⟩
  obtain ⟨p3, hp3⟩ : ∃ x, p2 <<< 56 = x := ⟨_, rfl⟩
  obtain ⟨q1, hq1⟩ : ∃ x, a <<< 63 = x := ⟨_, rfl⟩
  obtain ⟨x, hx⟩ : ∃ x, a1 ^^^ p3 = x := ⟨_, rfl⟩
  obtain ⟨y, hy⟩ : ∃ y, q1 ||| b1' = y := ⟨_, rfl⟩
  rw [ha1, hb1, hp1, hp2, hp3, hq1, hx, hy]
  have n1 : i64 a / 2 = i64 a1 := by rw [← ha1]; exact b64_shr a 1
  have n2 : i64 b / 2 = i64 b1' := by rw [← hb1]; exact b64_shr b 1
  have n3 : bits .and .u64 (i64 b) 1 = i64 p1 := by rw [← hp1]; exact b64_and b 1
  have n4 : IntKind.u64.wrap (i64 p1 * 225) = i64 p2 := by rw [← hp2]; exact b64_mul p1 0xe1
  have n5 : IntKind.u64.wrap (i64 p2 * 72057594037927936) = i64 p3 := by rw [← hp3]; exact b64_shl p2 56
  have n6 : IntKind.u64.wrap (i64 a * 9223372036854775808) = i64 q1 := by rw [← hq1]; exact b64_shl a 63
  have n7 : bits .xor .u64 (i64 a1) (i64 p3) = i64 x := by rw [← hx]; exact b64_xor a1 p3
  have n8 : bits .or .u64 (i64 q1) (i64 b1') = i64 y := by rw [← hy]; exact b64_or q1 b1'
  clear ha1 hb1 hp1 hp2 hp3 hq1 hx hy
  have HG := Lib.hid hg
  clear b1 b3 z1 z3 r1
  go_enter Try.func45, Try.ntmps45
  go_wp2_with ((with_reducible show wpList _ _ _ (⟨none, _, _, _, _, _⟩ :: _) _ _); refine wlv_store rfl 61 2 Try.sizeE _ _ rfl g3 [W64 x, W64 y] rfl rfl _ _ r3 rfl rfl (by intro v hv; simp at hv; rcases hv with rfl | rfl <;> rfl) ?_; intro w2 hr2 hb2 hz2)
  refine ⟨rfl, _, results_elem rfl _ g3 _ _ rfl hr2, rfl, ?_⟩
  rw [HG.out]
  exact hb2 _ _ hB l3
end Go.Proofs.Ytabhdkjepbkooaa

/- aescore: double. -/
set_option linter.unusedVariables false
set_option linter.unusedSimpArgs false
namespace Go.Proofs.Ytabhdkjepbkooaa
open Go.RowKit

theorem dbl_eq : ∀ b : BitVec 8, bits .xor .u8 (i8 b * 2 % 256) (i8 b / 128 * 27) = i8 (dblV b) := by decide +kernel
set_option maxHeartbeats 1000000 in
theorem double_any (w : World) (b : BitVec 8) : Calls Try.prog 41 #[W8 b] w fun e w' => e = .returned (W8 (dblV b)) ∧ w = w' := by
  have hb := i8_lt b
  go_enter Try.func41, Try.ntmps41
  go_wp2
  go_ret
  refine ⟨?_, rfl⟩
  rw [show W8 (dblV b) = .int .u8 (i8 (dblV b)) from rfl, ← dbl_eq b]
  rfl
end Go.Proofs.Ytabhdkjepbkooaa

/- aescore: the steps of a round. -/
set_option linter.unusedVariables false
set_option linter.unusedSimpArgs false
namespace Go.Proofs.Ytabhdkjepbkooaa
open Go.RowKit

theorem Try.arrS : (Try.prog.info? 50).map (·.size) = some 16 := by kernel_rfl
theorem Try.arr256 : (Try.prog.info? 47).map (·.size) = some 256 := by kernel_rfl
/-- SubBytes and ShiftRows with any box -/
def replB (box s : List (BitVec 8)) : List (BitVec 8) := st16 (fun i => boxAt box (s.getD (5 * i % 16) 0))
theorem replB_box (s : List (BitVec 8)) : replB boxL s = replV s := rfl
theorem map_at {l : List (BitVec 8)} {k : Nat} (h : k < l.length) : (l.map W8)[k]? = some (W8 (l.getD k 0)) := by
  rw [List.getElem?_map, List.getD_eq_getElem?_getD, List.getElem?_eq_getElem h]; rfl
theorem i8_nat (x : BitVec 8) : (i8 x).toNat = x.toNat := by simp [i8]
theorem get_at {l : List (BitVec 8)} {k : Nat} (h : k < l.length) : l[k]? = some (l.getD k 0) := by
  rw [List.getD_eq_getElem?_getD, List.getElem?_eq_getElem h]; rfl

/-- sixteen bytes of 0 -/
theorem newZ (w : World) : ∃ W, w.alloc (.cells #[.int .u8 0, .int .u8 0, .int .u8 0, .int .u8 0, .int .u8 0, .int .u8 0, .int .u8 0, .int .u8 0, .int .u8 0, .int .u8 0, .int .u8 0, .int .u8 0, .int .u8 0, .int .u8 0, .int .u8 0, .int .u8 0] 50) = W ∧ RowV 50 W w.heap.size ((List.replicate 16 (0 : BitVec 8)).map W8) ∧ Below w.heap.size w W ∧ W.heap.size = w.heap.size + 1 :=
  newV w 50 ((List.replicate 16 (0 : BitVec 8)).map W8) _ rfl
theorem newS (w : World) (s : List (BitVec 8)) : ∃ W, w.alloc (.cells (s.map W8).toArray 50) = W ∧ RowV 50 W w.heap.size (s.map W8) ∧ Below w.heap.size w W ∧ W.heap.size = w.heap.size + 1 :=
  newV w 50 (s.map W8) _ rfl

set_option maxRecDepth 100000 in
set_option maxHeartbeats 1600000 in
theorem replace_any (w : World) (s : List (BitVec 8)) (hl : s.length = 16) (box : List (BitVec 8)) (hbl : box.length = 256) : Calls Try.prog 24 #[.agg (s.map W8).toArray, .agg (box.map W8).toArray] w fun e w' => e = .returned (.agg ((replB box s).map W8).toArray) ∧ Below w.heap.size w w' := by
  obtain ⟨W1, e1, r1, b1, z1⟩ := newS w s
  obtain ⟨W2, e2, r2, b2, z2⟩ := newV W1 47 (box.map W8) _ rfl
  obtain ⟨W3, e3, r3, b3, z3⟩ := newZ W2
  obtain ⟨W4, e4, r4, b4, z4⟩ := newZ W3
  obtain ⟨g, hg⟩ : ∃ g, w.heap.size = g := ⟨_, rfl⟩
  have hB : Below g w W4 := by
    rw [← hg]
    exact b1.trans ((b2.mono b1.size).trans ((b3.mono (Nat.le_trans b1.size b2.size)).trans (b4.mono (Nat.le_trans b1.size (Nat.le_trans b2.size b3.size)))))
  have r1 := ((r1.later b2).later b3).later b4
  have r2 := (r2.later b3).later b4
  have r3 := r3.later b4
  obtain ⟨g2, hg2⟩ : ∃ x, W1.heap.size = x := ⟨_, rfl⟩
  obtain ⟨g3, hg3⟩ : ∃ x, W2.heap.size = x := ⟨_, rfl⟩
  obtain ⟨g4, hg4⟩ : ∃ x, W3.heap.size = x := ⟨_, rfl⟩
  rw [hg] at r1
  rw [hg2] at r2
  rw [hg3] at r3
  rw [hg4] at r4
  have l1 : g < g4 := by omega
  have l2 : g2 < g4 := by omega
  have l3 : g3 < g4 := by omega
  have l4 : g ≤ g3 := by omega
  have HG := Lib.hid hg
  clear b1 b2 b3 b4 z1 z2 z3 z4
  obtain ⟨R, hR⟩ : ∃ R, replB box s = R := ⟨_, rfl⟩
  have hRl : R.length = 16 := by rw [← hR]; exact st16_length _
  have hRk : ∀ k, k < 16 → R[k]? = some (boxAt box (s.getD (5 * k % 16) 0)) := fun k hk => by
    rw [get_at (by omega), ← hR, replB, st16_get _ k hk]
  have HR := Lib.hid hR
  clear hR
  go_enter Try.func24, Try.ntmps24
  go_wp2
  clear e1 e2 e3 e4 hg hg2 hg3 hg4
  go_loopw [7] (fun i wr => ∃ k : Nat, k ≤ 16 ∧ i = .int .i64 (k : Nat) ∧ RowV 50 wr g4 ((R.take k ++ List.replicate (R.length - k) 0).map W8) ∧ Below g4 W4 wr) (fun i _ => 16 - (intOf i).toNat)
  case atStart => exact ⟨0, by decide, rfl, by rw [fill_zero, hRl]; exact r4, Below.refl _ _⟩
  case round =>
    obtain ⟨k, hk, rfl, hr, hBr⟩ := hrel
    by_cases hk8 : k = 16
    · subst hk8
      rw [fill_all _ _ _ hRl.symm] at hr
      have hlw : (R.map W8).length = 16 := by simpa using hRl
      have r3' := r3.below hBr l3
      go_wp2_with (first | refine wlv_load rfl 50 16 _ Try.underlying50 Try.arrS _ rfl g4 rfl _ _ hr hlw ?_ | (refine wlv_store rfl 50 16 Try.arrS _ _ rfl g3 _ rfl rfl _ _ r3' (by simp) hlw (ones8 _) ?_; intro w2 hr2 hb2 hz2))
      refine ⟨rfl, _, results_rowV rfl _ g3 _ _ rfl hr2 Try.underlying50 Try.arrS hlw, by rw [HR.out], ?_⟩
      rw [HG.out]
      exact hb2 _ _ (hB.trans (hBr.mono (by omega))) l4
    · have hki : (k : Int) < 16 := by omega
      obtain ⟨j, hj⟩ : ∃ j, 5 * k % 16 = j := ⟨_, rfl⟩
      have hjl : j < 16 := by omega
      have hji : (5 * (k : Int)) % 16 = (j : Int) := by omega
      obtain ⟨x, hx⟩ : ∃ x, s.getD j 0 = x := ⟨_, rfl⟩
      have c1 := (r1.below hBr l1).at_ (map_at (l := s) (k := j) (by omega))
      rw [hx] at c1
      have c2 := (r2.below hBr l2).at_ (map_at (l := box) (k := x.toNat) (by have := x.isLt; omega))
      rw [show box.getD x.toNat 0 = boxAt box x from rfl] at c2
      rw [← i8_nat x] at c2
      have h8 := i8_lt x
      have hRk2 := hRk k (by omega)
      rw [hj, hx] at hRk2
      have hfz := hr.frozen k
      have hcl : wr.cell? ⟨g4, k, none⟩ = some (.int .u8 0) := hr.at_ (by rw [List.getElem?_map, fill_get _ _ _ (by omega)]; rfl)
      have hr2 := hr.set k (W8 (boxAt box x))
      rw [← List.map_set, fill_set _ _ _ _ hRk2] at hr2
      have hB2 := below_setV hBr (Nat.le_refl _) k (W8 (boxAt box x))
      have HR2 := Lib.hid hr2
      have HB2 := Lib.hid hB2
      clear hr2 hB2 hr hBr hRk hRk2 hx hj
      go_wp2
      go_roundw
      case rel => exact ⟨k + 1, by omega, by go_num, HR2.out, HB2.out⟩
      case measure => simp [intOf]; omega
end Go.Proofs.Ytabhdkjepbkooaa

/- Regions that draw their order, by an invariant. -/
set_option linter.unusedVariables false
set_option linter.unusedSimpArgs false
namespace Go.Proofs.Ytabhdkjepbkooaa
open Go.RowKit Go.Shelf

theorem wpAnyIn_inv {F : Fence} {n : Nat} {P : Program} {ops : Array Oper} {Q : Exit → Act → World → Prop} {md : Region.Mode} (Inv : Array Bool → Act → World → Prop)
    (hstep : ∀ L a w, Inv L a w → ∀ i ∈ Region.ready md ops L, wpOpIn F n P ops Q i (fun a' w' => Inv (L.setIfInBounds i true) a' w') a w)
    (hend : ∀ L a w, Inv L a w → Region.ready md ops L = [] → Q .normal a w) (hfuel : ∀ L a w, Inv L a w → L.size = ops.size) :
    ∀ (fuel : Nat) (L : Array Bool) (a : Act) (w : World), Inv L a w → (L.toList.count false ≤ fuel) → wpAnyIn F n P md ops Q fuel L a w := by
  intro fuel
  induction fuel with
  | zero =>
    intro L a w h hc
    have hr : Region.ready md ops L = [] := by
      rw [List.eq_nil_iff_forall_not_mem]
      intro i hi
      obtain ⟨h1, o, ho, _⟩ := mem_ready.1 hi
      have hi' : i < L.size := by rw [hfuel L a w h]; exact (Array.getElem?_eq_some_iff.1 ho).1
      have : false ∈ L.toList := by
        rw [Array.getD_eq_getD_getElem?, Array.getElem?_eq_getElem hi'] at h1
        simp at h1
        rw [← h1]
        exact Array.getElem_mem_toList ..
      have := List.count_pos_iff.2 this
      omega
    exact ⟨hr, hend L a w h hr⟩
  | succ fuel ih =>
    intro L a w h hc
    refine ⟨hend L a w h, fun i hi => wpOpIn_mono (fun a' w' h' => ih _ _ _ h' ?_) (hstep L a w h i hi)⟩
    obtain ⟨h1, o, ho, _⟩ := mem_ready.1 hi
    have hi' : i < L.size := by rw [hfuel L a w h]; exact (Array.getElem?_eq_some_iff.1 ho).1
    have hf : L[i] = false := by
      rw [Array.getD_eq_getD_getElem?, Array.getElem?_eq_getElem hi'] at h1
      simpa using h1
    have e : (L.setIfInBounds i true).toList = L.toList.set i true := by simp
    rw [e, List.count_set (by simpa using hi')]
    have hct : List.count false L.toList = L.count false := Array.count_toList
    simp [hf]
    omega

/-- where the operations listed have written -/
def wrote (ops : Array Oper) (vals : Nat → Value) (L : Array Bool) (t0 : Array Value) : Nat → Array Value
  | 0 => t0
  | k + 1 => if L.getD k false then ({ tmps := wrote ops vals L t0 k, defers := [] } : Act).put ((ops[k]?).bind (·.dst)) (vals k) |>.tmps else wrote ops vals L t0 k

def Distinct (ops : Array Oper) : Prop := ∀ (i j : Nat) (oi oj : Oper) (d : Tmp), ops[i]? = some oi → ops[j]? = some oj → oi.dst = some d → oj.dst = some d → i = j

theorem wrote_set (ops : Array Oper) (vals : Nat → Value) (L : Array Bool) (t0 : Array Value) (hd : Distinct ops) {i : Nat} {oi : Oper} (hoi : ops[i]? = some oi) (hL : i < L.size) (hf : L.getD i false = false) :
    ∀ k, wrote ops vals (L.setIfInBounds i true) t0 k = if i < k then (({ tmps := wrote ops vals L t0 k, defers := [] } : Act).put oi.dst (vals i)).tmps else wrote ops vals L t0 k := by
  intro k
  induction k with
  | zero => simp [wrote]
  | succ k ih =>
    simp only [wrote]
    by_cases hk : k = i
    · subst hk
      have : (L.setIfInBounds k true).getD k false = true := by simp [Array.getD_eq_getD_getElem?, hL]
      rw [if_pos this, if_pos (show k < k + 1 from Nat.lt_succ_self k), ih, if_neg (Nat.lt_irrefl k), hf, hoi]
      simp
    · have e : (L.setIfInBounds i true).getD k false = L.getD k false := by
        simp only [Array.getD_eq_getD_getElem?]
        rw [Array.getElem?_setIfInBounds_ne (by omega)]
      rw [e, ih]
      by_cases hik : i < k
      · rw [if_pos hik, if_pos (show i < k + 1 by omega)]
        by_cases hLk : L.getD k false = true
        · simp only [hLk, if_true]
          cases hok : ops[k]? with
          | none => rfl
          | some ok =>
            simp only [Option.bind_some]
            unfold Act.put
            cases hdk : ok.dst with
            | none => rfl
            | some dk =>
              cases hdi : oi.dst with
              | none => rfl
              | some di =>
                have hne : di ≠ dk := fun e => hk (hd k i ok oi dk hok hoi hdk (by rw [hdi, e]))
                simp only
                exact Array.setIfInBounds_comm _ _ hne
        · have hLk' : L.getD k false = false := by simpa using hLk
          simp only [hLk', Bool.false_eq_true, if_false]
      · rw [if_neg hik, if_neg (show ¬ i < k + 1 by omega)]

theorem put_getD_ne (a : Act) (dst : Option Tmp) (v : Value) (t : Tmp) (h : dst ≠ some t) : (a.put dst v).tmps.getD t undef = a.tmps.getD t undef := by
  unfold Act.put
  cases dst with
  | none => rfl
  | some d =>
    have : d ≠ t := fun e => h (by rw [e])
    simp only [Array.getD_eq_getD_getElem?]
    rw [Array.getElem?_setIfInBounds_ne this]
theorem wrote_size (ops : Array Oper) (vals : Nat → Value) (L : Array Bool) (t0 : Array Value) : ∀ k, (wrote ops vals L t0 k).size = t0.size := by
  intro k
  induction k with
  | zero => rfl
  | succ k ih =>
    simp only [wrote]
    split
    · unfold Act.put
      cases (ops[k]?).bind (·.dst) <;> simp [ih]
    · exact ih
/-- a slot that no operation writes -/
theorem wrote_old (ops : Array Oper) (vals : Nat → Value) (L : Array Bool) (t0 : Array Value) (t : Tmp) (h : ∀ (i : Nat) (oi : Oper), ops[i]? = some oi → oi.dst ≠ some t) : ∀ k, (wrote ops vals L t0 k).getD t undef = t0.getD t undef := by
  intro k
  induction k with
  | zero => rfl
  | succ k ih =>
    simp only [wrote]
    split
    · rw [put_getD_ne, ih]
      intro e
      obtain ⟨o, ho, e'⟩ := Option.bind_eq_some_iff.1 e
      exact h k o ho e'
    · exact ih
/-- a slot that an operation listed has written -/
theorem wrote_new (ops : Array Oper) (vals : Nat → Value) (L : Array Bool) (t0 : Array Value) (hd : Distinct ops) {j : Nat} {oj : Oper} {t : Tmp} (hj : ops[j]? = some oj) (hjt : oj.dst = some t) (hL : L.getD j false = true) (ht : t < t0.size) :
    ∀ k, j < k → (wrote ops vals L t0 k).getD t undef = vals j := by
  intro k
  induction k with
  | zero => intro h; omega
  | succ k ih =>
    intro h
    simp only [wrote]
    by_cases hk : k = j
    · subst hk
      rw [if_pos hL, hj]
      simp only [Option.bind_some, hjt, Act.put]
      have := wrote_size ops vals L t0 k
      simp [Array.getD_eq_getD_getElem?, this, ht]
    · by_cases hLk : L.getD k false = true
      · rw [if_pos hLk, put_getD_ne, ih (by omega)]
        intro e
        obtain ⟨o, ho, e'⟩ := Option.bind_eq_some_iff.1 e
        exact hk (hd k j o oj t ho hj e' hjt)
      · rw [if_neg hLk]
        exact ih (by omega)

/-- THE REGION: each operation, when its turn comes, yields its one value; the world goes by what has been listed. -/
theorem wpIn_region_inv {F : Fence} {n : Nat} {P : Program} {id : Nat} {ops : Array Oper} {Q : Exit → Act → World → Prop} {a : Act} {w : World} (hm : P.follows .mixedOrders = true) (hd : Distinct ops)
    (vals : Nat → Value) (wor : Array Bool → World) (hw0 : ∃ q, { w with drawn := w.drawn + 1 } = (wor (Array.replicate ops.size false)).drewN q)
    (hstep : ∀ (L : Array Bool) (a' : Act), L.size = ops.size → a'.defers = a.defers → (∀ (j : Nat) (oj : Oper), ops[j]? = some oj → L.getD j false = true → ∀ e ∈ oj.after, Region.binds .any e = true → L.getD e.on false = true) →
      (∀ t, (∀ (i : Nat) (oi : Oper), ops[i]? = some oi → oi.dst ≠ some t) → a'.tmps.getD t undef = a.tmps.getD t undef) →
      (∀ (j : Nat) (oj : Oper) t, ops[j]? = some oj → oj.dst = some t → L.getD j false = true → t < a.tmps.size → a'.tmps.getD t undef = vals j) →
      ∀ i ∈ Region.ready .any ops L, ∀ oi, ops[i]? = some oi → ∀ (q0 : Nat) (K : Act → World → Prop), (∀ q, K (a'.put oi.dst (vals i)) ((wor (L.setIfInBounds i true)).drewN q)) → wpOpIn F n P ops Q i K a' ((wor L).drewN q0))
    (hend : ∀ (L : Array Bool) (q : Nat), (∀ i, i < ops.size → L.getD i false = true) → Q .normal { tmps := wrote ops vals (Array.replicate ops.size true) a.tmps ops.size, defers := a.defers } ((wor L).drewN q))
    (hacyc : ∀ L : Array Bool, L.size = ops.size → Region.ready .any ops L = [] → ∀ i, i < ops.size → L.getD i false = true) : (Code.region id ops true).wpIn F n P Q a w := by
  refine wpIn_region_any hm ?_
  obtain ⟨q0, hq0⟩ := hw0
  rw [hq0]
  refine wpAnyIn_inv (fun L a' w' => (L.size = ops.size ∧ ∀ (j : Nat) (oj : Oper), ops[j]? = some oj → L.getD j false = true → ∀ e ∈ oj.after, Region.binds .any e = true → L.getD e.on false = true) ∧ a' = { tmps := wrote ops vals L a.tmps ops.size, defers := a.defers } ∧ ∃ q, w' = (wor L).drewN q) ?_ ?_ (fun L a w h => h.1.1) _ _ _ _ ⟨⟨by simp, ?_⟩, ?_, ⟨_, rfl⟩⟩ ?_
  · rintro L a' w' ⟨⟨hs, hcl⟩, rfl, q, rfl⟩ i hi
    obtain ⟨h1, o, ho, hdep⟩ := mem_ready.1 hi
    have hi' : i < L.size := by rw [hs]; exact (Array.getElem?_eq_some_iff.1 ho).1
    have hf : L.getD i false = false := by
      rw [Array.getD_eq_getD_getElem?, Array.getElem?_eq_getElem hi'] at h1 ⊢
      simpa using h1
    refine hstep L { tmps := wrote ops vals L a.tmps ops.size, defers := a.defers } hs rfl hcl (fun t ht => wrote_old ops vals L a.tmps t ht _) (fun j oj t hj hjt hL ht => wrote_new ops vals L a.tmps hd hj hjt hL ht _ (Array.getElem?_eq_some_iff.1 hj).1) i hi o ho _ _ fun q' => ⟨⟨by simp [hs], ?_⟩, ?_, ⟨q', rfl⟩⟩
    · have hmono : ∀ t, L.getD t false = true → (L.setIfInBounds i true).getD t false = true := by
        intro t ht
        by_cases e : t = i
        · subst e; simp [Array.getD_eq_getD_getElem?, hi']
        · simp only [Array.getD_eq_getD_getElem?] at ht ⊢
          rw [Array.getElem?_setIfInBounds_ne (fun h => e h.symm)]; exact ht
      intro j oj hj hLj e he hb
      by_cases hji : j = i
      · subst hji
        obtain rfl : o = oj := Option.some.inj (ho.symm.trans hj)
        exact hmono _ (hdep e he hb)
      · refine hmono _ (hcl j oj hj ?_ e he hb)
        simp only [Array.getD_eq_getD_getElem?] at hLj ⊢
        rw [Array.getElem?_setIfInBounds_ne (fun h => hji h.symm)] at hLj
        exact hLj
    rw [wrote_set ops vals L a.tmps hd ho hi' hf, if_pos (by rw [← hs]; exact hi')]
    unfold Act.put
    cases o.dst <;> rfl
  · rintro L a' w' ⟨⟨hs, _⟩, rfl, q, rfl⟩ hr
    have hall := hacyc L hs hr
    have e : L = Array.replicate ops.size true := by
      apply Array.ext
      · simp [hs]
      · intro i h1 h2
        have := hall i (by omega)
        rw [Array.getD_eq_getD_getElem?, Array.getElem?_eq_getElem h1] at this
        simpa using this
    have h := hend L q hall
    rw [e] at h ⊢
    exact h
  · intro j oj _ hLj
    exfalso
    rw [Array.getD_eq_getD_getElem?, Array.getElem?_replicate] at hLj
    split at hLj <;> simp at hLj
  · have : ∀ k, wrote ops vals (Array.replicate ops.size false) a.tmps k = a.tmps := by
      intro k
      induction k with
      | zero => rfl
      | succ k ih =>
        simp only [wrote]
        rw [if_neg (by rw [Array.getD_eq_getD_getElem?, Array.getElem?_replicate]; split <;> simp)]
        exact ih
    rw [this]
  · simp

theorem in_value {F : Fence} {n : Nat} {P : Program} {ops : Array Oper} {Q : Exit → Act → World → Prop} {i : Nat} {o : Oper} {K : Act → World → Prop} {a : Act} {w w' : World} {v : Value} (ho : ops[i]? = some o) (hg : o.guard = none) (hdf : ∀ c, o.op ≠ .defer c)
    (hab : ∀ f, o.about P w a.eval = some f → F.fn f) (hrun : (execOp a.eval o).run P w = .ok (.value v) w') (h : K (a.put o.dst v) w') : wpOpIn F n P ops Q i K a w := by
  unfold wpOpIn
  simp only [ho, Region.wanted, hg, if_true]
  refine ⟨hab, ?_⟩
  rw [Oper.semAt_plain F _ _ hdf, hrun]
  exact h
theorem in_skip {F : Fence} {n : Nat} {P : Program} {ops : Array Oper} {Q : Exit → Act → World → Prop} {i : Nat} {o : Oper} {K : Act → World → Prop} {a : Act} {w w' : World} (ho : ops[i]? = some o) (hg : o.guard = none) (hdf : ∀ c, o.op ≠ .defer c)
    (hab : ∀ f, o.about P w a.eval = some f → F.fn f) (hrun : (execOp a.eval o).run P w = .ok .skip w') (h : K (a.put o.dst undef) w') : wpOpIn F n P ops Q i K a w := by
  unfold wpOpIn
  simp only [ho, Region.wanted, hg, if_true]
  refine ⟨hab, ?_⟩
  rw [Oper.semAt_plain F _ _ hdf, hrun]
  exact h
theorem in_call {F : Fence} {n : Nat} {P : Program} {ops : Array Oper} {Q : Exit → Act → World → Prop} {i : Nat} {o : Oper} {K : Act → World → Prop} {a : Act} {w : World} {v : Value} {f : FuncId} {args : Array Value} (ho : ops[i]? = some o) (hg : o.guard = none) (hdf : ∀ c, o.op ≠ .defer c) (hF : F.depth = none)
    (hab : ∀ f, o.about P w a.eval = some f → F.fn f) (hrun : (execOp a.eval o).run P w = .ok (.enter f args) w) (hc : CallsIn F (n - 1) P f args w fun e w' => e = .returned v ∧ ∃ q, w' = w.drewN q) (h : ∀ q, K (a.put o.dst v) (w.drewN q)) : wpOpIn F n P ops Q i K a w := by
  unfold wpOpIn
  simp only [ho, Region.wanted, hg, if_true]
  refine ⟨hab, ?_⟩
  rw [Oper.semAt_plain F _ _ hdf, hrun]
  refine ⟨(fun h => by (rw [hF] at h; cases h)), hc.mono ?_⟩
  rintro e w' ⟨rfl, q, rfl⟩
  exact h q

def distinctB (ops : Array Oper) : Bool := (List.range ops.size).all fun i => (List.range ops.size).all fun j => i == j || match (ops[i]?).bind (·.dst), (ops[j]?).bind (·.dst) with | some a, some b => a != b | _, _ => true
theorem distinct_of {ops : Array Oper} (h : distinctB ops = true) : Distinct ops := by
  intro i j oi oj d hi hj hdi hdj
  simp only [distinctB, List.all_eq_true, List.mem_range] at h
  have := h i (Array.getElem?_eq_some_iff.1 hi).1 j (Array.getElem?_eq_some_iff.1 hj).1
  simp only [hi, hj, Option.bind_some, hdi, hdj, bne_self_eq_false, Bool.or_false, beq_iff_eq] at this
  exact this
def freeB (ops : Array Oper) (t : Tmp) : Bool := ops.all fun o => o.dst != some t
theorem free_of {ops : Array Oper} {t : Tmp} (h : freeB ops t = true) : ∀ (i : Nat) (oi : Oper), ops[i]? = some oi → oi.dst ≠ some t := by
  intro i oi hi e
  have h' := Array.all_eq_true.1 h i (Array.getElem?_eq_some_iff.1 hi).1
  rw [(Array.getElem?_eq_some_iff.1 hi).2, e] at h'
  simp at h'
def orderedB (ops : Array Oper) : Bool := (List.range ops.size).all fun i => match ops[i]? with | some o => o.after.all fun e => !Region.binds .any e || decide (e.on < i) | none => true
theorem acyclic_of {ops : Array Oper} (h : orderedB ops = true) (L : Array Bool) (hs : L.size = ops.size) (hr : Region.ready .any ops L = []) : ∀ i, i < ops.size → L.getD i false = true := by
  intro i
  induction i using Nat.strongRecOn with
  | _ i ih =>
    intro hi
    apply Classical.byContradiction
    intro hne
    have hf : L.getD i false = false := by simpa using hne
    have : i ∈ Region.ready .any ops L := by
      refine mem_ready.2 ⟨?_, ops[i], Array.getElem?_eq_getElem hi, fun e he hb => ?_⟩
      · have hi' : i < L.size := by omega
        rw [Array.getD_eq_getD_getElem?, Array.getElem?_eq_getElem hi'] at hf ⊢
        simpa using hf
      · simp only [orderedB, List.all_eq_true, List.mem_range] at h
        have h1 := h i hi
        rw [Array.getElem?_eq_getElem hi] at h1
        simp only [Array.all_eq_true'] at h1
        have h2 := h1 e he
        simp only [hb, Bool.not_true, Bool.false_or, decide_eq_true_eq] at h2
        exact ih e.on h2 (by omega)
    rw [hr] at this
    cases this

theorem getD_set_other (L : Array Bool) {i j : Nat} (h : i ≠ j) : (L.setIfInBounds i true).getD j false = L.getD j false := by
  simp only [Array.getD_eq_getD_getElem?]
  rw [Array.getElem?_setIfInBounds_ne h]
theorem getD_set_self (L : Array Bool) {i : Nat} (h : i < L.size) : (L.setIfInBounds i true).getD i false = true := by
  simp [Array.getD_eq_getD_getElem?, h]
theorem unlisted {L : Array Bool} {i : Nat} (h : L.getD i true = false) : L.getD i false = false := by
  rcases Nat.lt_or_ge i L.size with h' | h'
  · rw [Array.getD_eq_getD_getElem?, Array.getElem?_eq_getElem h'] at h ⊢
    simpa using h
  · rw [Array.getD_eq_getD_getElem?, Array.getElem?_eq_none h']; rfl
/-- two stores, one behind the other, among the operations: places i and j -/
def wor2 (w : World) (i j : Nat) (p q : Addr) (u v : Value) (L : Array Bool) : World :=
  if L.getD j false then (w.setCell p u).setCell q v else if L.getD i false then w.setCell p u else w
theorem wor2_other {w : World} {i j : Nat} {p q : Addr} {u v : Value} (L : Array Bool) {k : Nat} (h1 : k ≠ i) (h2 : k ≠ j) : wor2 w i j p q u v (L.setIfInBounds k true) = wor2 w i j p q u v L := by
  unfold wor2
  rw [getD_set_other L h1, getD_set_other L h2]
theorem wor2_none {w : World} {i j : Nat} {p q : Addr} {u v : Value} {L : Array Bool} (h1 : L.getD i false = false) (h2 : L.getD j false = false) : wor2 w i j p q u v L = w := by
  unfold wor2; rw [h1, h2]; rfl
theorem wor2_first {w : World} {i j : Nat} {p q : Addr} {u v : Value} {L : Array Bool} (h1 : L.getD i false = true) (h2 : L.getD j false = false) : wor2 w i j p q u v L = w.setCell p u := by
  unfold wor2; rw [h1, h2]; rfl
theorem wor2_both {w : World} {i j : Nat} {p q : Addr} {u v : Value} {L : Array Bool} (h2 : L.getD j false = true) : wor2 w i j p q u v L = (w.setCell p u).setCell q v := by
  unfold wor2; rw [h2]; rfl
theorem wor2_cell {w : World} {i j : Nat} {p q : Addr} {u v : Value} (L : Array Bool) {a : Addr} (h1 : p ≠ a) (h2 : q ≠ a) : (wor2 w i j p q u v L).cell? a = w.cell? a := by
  unfold wor2
  split
  · rw [World.cell?_setCell_other _ _ _ _ h2, World.cell?_setCell_other _ _ _ _ h1]
  · split
    · rw [World.cell?_setCell_other _ _ _ _ h1]
    · rfl

theorem in_call_any {F : Fence} {n : Nat} {P : Program} {ops : Array Oper} {Q : Exit → Act → World → Prop} {i : Nat} {o : Oper} {K : Act → World → Prop} {a : Act} {w : World} {f : FuncId} {args : Array Value} (ho : ops[i]? = some o) (hg : o.guard = none) (hdf : ∀ c, o.op ≠ .defer c) (hF : F.depth = none)
    (hab : ∀ f, o.about P w a.eval = some f → F.fn f) (hrun : (execOp a.eval o).run P w = .ok (.enter f args) w) (hc : CallsIn F (n - 1) P f args w fun e w' => ∃ v, e = .returned v ∧ K (a.put o.dst v) w') : wpOpIn F n P ops Q i K a w := by
  unfold wpOpIn
  simp only [ho, Region.wanted, hg, if_true]
  refine ⟨hab, ?_⟩
  rw [Oper.semAt_plain F _ _ hdf, hrun]
  refine ⟨(fun h => by (rw [hF] at h; cases h)), hc.mono ?_⟩
  rintro e w' ⟨v, rfl, h⟩
  exact h
section
variable {F : Fence} {n : Nat} {P : Program} {md : Region.Mode} {ops : Array Oper} {Q : Exit → Act → World → Prop} {fuel : Nat} {L : Array Bool} {a : Act} {w : World}
theorem any0 (hr : Region.ready md ops L = []) (h : Q .normal a w) : wpAnyIn F n P md ops Q 0 L a w := ⟨hr, h⟩
theorem any1 {i : Nat} (hr : Region.ready md ops L = [i]) (h : wpOpIn F n P ops Q i (wpAnyIn F n P md ops Q fuel (L.setIfInBounds i true)) a w) : wpAnyIn F n P md ops Q (fuel + 1) L a w :=
  ⟨(fun e => by (rw [hr] at e; cases e)), fun j hj => by (rw [hr] at hj; simp at hj; subst hj; exact h)⟩
theorem any2 {i j : Nat} (hr : Region.ready md ops L = [i, j]) (hi : wpOpIn F n P ops Q i (wpAnyIn F n P md ops Q fuel (L.setIfInBounds i true)) a w) (hj : wpOpIn F n P ops Q j (wpAnyIn F n P md ops Q fuel (L.setIfInBounds j true)) a w) : wpAnyIn F n P md ops Q (fuel + 1) L a w :=
  ⟨(fun e => by (rw [hr] at e; cases e)), fun k hk => by
    rw [hr] at hk
    simp at hk
    rcases hk with rfl | rfl
    · exact hi
    · exact hj⟩
end
end Go.Proofs.Ytabhdkjepbkooaa

/- A region that draws its order and whose operations, but for a last store, leave memory alone: one pass over the operations serves every order. -/
set_option linter.unusedVariables false
set_option linter.unusedSimpArgs false
namespace Go.Proofs.Ytabhdkjepbkooaa
open Go.RowKit Go.Shelf

/-- the operands that an operation reads -/
def usesOp : Op → Option (List Operand)
  | .move x | .assign x => some [x]
  | .load _ x => some [x]
  | .store _ x y => some [x, y]
  | .binOp _ _ x y _ => some [x, y]
  | .unOp _ _ x => some [x]
  | .convert _ _ x => some [x]
  | .indexAddr _ x y | .index _ x y => some [x, y]
  | .extract x _ => some [x]
  | .slice _ x lo hi mx => some (x :: (lo.toList ++ (hi.toList ++ mx.toList)))
  | .fieldAddr _ x _ | .field _ x _ => some [x]
  | .nilCheck x => some [x]
  | .build _ parts => some (parts.toList.map (·.2))
  | .call c => match c.callee with
    | .value f => some (f :: c.args.toList)
    | .builtin _ => some c.args.toList
    | .invoke _ _ => none
  | _ => none
theorem map_option_congr {α β : Type} {f g : α → β} (o : Option α) (h : ∀ x ∈ o.toList, f x = g x) : o.map f = o.map g := by
  cases o with
  | none => rfl
  | some x => simp [h x (by simp)]
theorem map_array_congr {α β : Type} {f g : α → β} (o : Array α) (h : ∀ x ∈ o.toList, f x = g x) : o.map f = o.map g := by
  apply Array.ext'
  simp only [Array.toList_map]
  exact List.map_congr_left h
theorem resolve_congr {ρ ρ' : Operand → Value} (c : Call) (t : TypeId) {l : List Operand} (h : usesOp (.call c) = some l) (ha : ∀ x ∈ l, ρ x = ρ' x) : resolve ρ c t = resolve ρ' c t := by
  unfold resolve
  simp only [usesOp] at h
  cases hc : c.callee with
  | builtin b =>
    rw [hc] at h
    cases h
    simp only [map_array_congr c.args ha]
  | value f =>
    rw [hc] at h
    cases h
    simp only [map_array_congr c.args (fun x hx => ha x (List.mem_cons_of_mem _ hx)), ha f (List.mem_cons_self ..)]
  | invoke r nm => rw [hc] at h; cases h
theorem exec_congr {ρ ρ' : Operand → Value} {o : Oper} {l : List Operand} (h : usesOp o.op = some l) (ha : ∀ x ∈ l, ρ x = ρ' x) : execOp ρ o = execOp ρ' o := by
  unfold execOp
  cases ho : o.op <;> rw [ho] at h <;> simp only [usesOp] at h <;> try cases h
  case call c =>
    simp only [resolve_congr c o.type h ha]
  case slice t x lo hi mx =>
    simp only [ha x (by simp), map_option_congr lo (fun y hy => ha y (by simp at hy ⊢; simp [hy])), map_option_congr hi (fun y hy => ha y (by simp at hy ⊢; simp [hy])), map_option_congr mx (fun y hy => ha y (by simp at hy ⊢; simp [hy]))]
  case build t parts =>
    have e : (parts.map fun (i, x) => (i, ρ x)) = (parts.map fun (i, x) => (i, ρ' x)) := map_array_congr parts (fun p hp => by
      have := ha p.2 (List.mem_map.2 ⟨p, hp, rfl⟩)
      simp [this])
    simp only [e]
  all_goals simp [ha]
theorem about_congr {P : Program} {w : World} {ρ ρ' : Operand → Value} {o : Oper} {l : List Operand} (h : usesOp o.op = some l) (ha : ∀ x ∈ l, ρ x = ρ' x) : o.about P w ρ = o.about P w ρ' := by
  unfold Oper.about
  cases ho : o.op <;> try rfl
  rename_i c
  rw [ho] at h
  simp only [resolve_congr c o.type h ha]

/-- a slot's value: what the region lays there, else what lay there -/
def evP (asg : List (Nat × Value)) (a : Act) : Operand → Value
  | .tmp t => match asg.lookup t with
    | some v => v
    | none => a.eval (.tmp t)
  | x => a.eval x
def valP (ops : Array Oper) (asg : List (Nat × Value)) (i : Nat) : Value :=
  match (ops[i]?).bind (·.dst) with
  | some t => (asg.lookup t).getD undef
  | none => undef
/-- closed checks: every operation's reads are known; whoever reads a slot comes behind whoever lays it; every slot laid is listed -/
def depsB (ops : Array Oper) (asg : List Nat) : Bool := (List.range ops.size).all fun i => match ops[i]? with
  | none => true
  | some o => o.guard.isNone && (match o.dst with | some t => asg.contains t | none => true) && match usesOp o.op with
    | none => false
    | some l => l.all fun x => match x with
      | .tmp t => (asg.contains t == false) || (List.range ops.size).all fun j => match (ops[j]?).bind (·.dst) with
        | some t' => t' != t || o.after.any fun e => e.on == j && Region.binds .any e
        | none => true
      | _ => true
/-- every slot listed is laid by one of the region -/
def onlyB (ops : Array Oper) (asg : List Nat) : Bool := asg.all fun t => (List.range ops.size).any fun j => match (ops[j]?).bind (·.dst) with
  | some t' => t' == t
  | none => false
/-- each but the last has one behind it -/
def rootB (ops : Array Oper) (s : Nat) : Bool := (List.range s).all fun i => (List.range (s + 1)).any fun j => decide (i < j) && match ops[j]? with
  | some o => o.after.any fun e => e.on == i && Region.binds .any e
  | none => false

/-- one operation, run where the others' slots hold what they will hold -/
def PureOk (F : Fence) (n : Nat) (P : Program) (W : World) (ρ : Operand → Value) (o : Oper) (v : Value) : Prop :=
  (∀ c, o.op ≠ .defer c) ∧ ∀ q, (∀ f, o.about P (W.drewN q) ρ = some f → F.fn f) ∧
    ((execOp ρ o).run P (W.drewN q) = .ok (.value v) (W.drewN q) ∨
      ∃ f args, (execOp ρ o).run P (W.drewN q) = .ok (.enter f args) (W.drewN q) ∧ CallsIn F (n - 1) P f args (W.drewN q) fun e w' => e = .returned v ∧ ∃ q', w' = (W.drewN q).drewN q')

theorem lookup_none_of {asg : List (Nat × Value)} {t : Nat} (h : (asg.map (·.1)).contains t = false) : asg.lookup t = none := by
  induction asg with
  | nil => rfl
  | cons p l ih =>
    simp only [List.map_cons, List.contains_cons, Bool.or_eq_false_iff] at h
    rw [List.lookup_cons, h.1]
    exact ih h.2
theorem lookup_some_of {asg : List (Nat × Value)} {t : Nat} (h : (asg.map (·.1)).contains t = true) : ∃ v, asg.lookup t = some v := by
  induction asg with
  | nil => simp at h
  | cons p l ih =>
    rw [List.lookup_cons]
    cases hp : t == p.1 with
    | true => exact ⟨p.2, rfl⟩
    | false =>
      simp only [List.map_cons, List.contains_cons, hp, Bool.false_or] at h
      exact ih h

theorem drewN_add (w : World) (a b : Nat) : (w.drewN a).drewN b = w.drewN (a + b) := by simp [World.drewN, Nat.add_assoc]
/-- every order lays the same -/
theorem wpIn_region_pure {F : Fence} {n : Nat} {P : Program} {id : Nat} {ops : Array Oper} {Q : Exit → Act → World → Prop} {a : Act} {w : World} (hF : F.depth = none) (hm : P.follows .mixedOrders = true)
    (asg : List (Nat × Value)) (hd : distinctB ops = true) (hdep : depsB ops (asg.map (·.1)) = true) (hon : onlyB ops (asg.map (·.1)) = true) (hord : orderedB ops = true) (hsz : (asg.map (·.1)).all (fun t => decide (t < a.tmps.size)) = true)
    (s : Nat) (W2 : World) (hs : s + 1 = ops.size) (hroot : rootB ops s = true)
    (hops : ∀ i o, i < s → ops[i]? = some o → PureOk F n P w (evP asg a) o (valP ops asg i))
    (hlast : ∀ o, ops[s]? = some o → (∀ c, o.op ≠ .defer c) ∧ ∀ q, (∀ f, o.about P (w.drewN q) (evP asg a) = some f → F.fn f) ∧ ((execOp (evP asg a) o).run P (w.drewN q) = .ok .skip (W2.drewN q) ∧ valP ops asg s = undef ∨ (execOp (evP asg a) o).run P (w.drewN q) = .ok (.value (valP ops asg s)) (W2.drewN q)))
    (hend : ∀ q, Q .normal { tmps := wrote ops (valP ops asg) (Array.replicate ops.size true) a.tmps ops.size, defers := a.defers } (W2.drewN q)) : (Code.region id ops true).wpIn F n P Q a w := by
  have hd' := distinct_of hd
  have hclose : ∀ (L : Array Bool), L.size = ops.size → (∀ (j : Nat) (oj : Oper), ops[j]? = some oj → L.getD j false = true → ∀ e ∈ oj.after, Region.binds .any e = true → L.getD e.on false = true) → L.getD s false = true → ∀ k i, i + k = s → L.getD i false = true := by
    intro L hsz hcl hL k
    induction k using Nat.strongRecOn with
    | _ k ih =>
      intro i hik
      rcases Nat.eq_zero_or_pos k with h0 | h0
      · obtain rfl : i = s := by omega
        exact hL
      · simp only [rootB, List.all_eq_true, List.mem_range] at hroot
        have h1 := hroot i (by omega)
        rw [List.any_eq_true] at h1
        obtain ⟨j, hj, h2⟩ := h1
        rw [List.mem_range] at hj
        rw [Bool.and_eq_true, decide_eq_true_eq] at h2
        have hjl := ih (s - j) (by omega) j (by omega)
        cases ho : ops[j]? with
        | none => rw [ho] at h2; simp at h2
        | some o =>
          rw [ho] at h2
          obtain ⟨e, he, he2⟩ := Array.any_eq_true'.1 h2.2
          rw [Bool.and_eq_true, beq_iff_eq] at he2
          have := hcl j o ho hjl e he he2.2
          rwa [he2.1] at this
  refine wpIn_region_inv hm hd' (valP ops asg) (fun L => if L.getD s false then W2 else w) ⟨1, ?_⟩ ?_ ?_ (acyclic_of hord)
  · have : (Array.replicate ops.size false).getD s false = false := by
      rw [Array.getD_eq_getD_getElem?, Array.getElem?_replicate]; split <;> rfl
    simp only [this, Bool.false_eq_true, if_false]
    rfl
  · intro L a' hLs hdf hcl hold hnew i hi o ho q0 K hK
    obtain ⟨h1, o2, ho2, hde⟩ := mem_ready.1 hi
    obtain rfl : o = o2 := Option.some.inj (ho.symm.trans ho2)
    have hnl := unlisted h1
    have his : i ≤ s := by have := (Array.getElem?_eq_some_iff.1 ho).1; omega
    have hLf : L.getD s false = false := by
      apply Classical.byContradiction
      intro h
      have := hclose L hLs hcl (by simpa using h) (s - i) i (by omega)
      rw [hnl] at this
      cases this
    simp only [hLf, Bool.false_eq_true, if_false]
    -- the operands hold what they will hold
    have hdi : ∃ l, usesOp o.op = some l ∧ o.guard = none ∧ ∀ x ∈ l, a'.eval x = evP asg a x := by
      simp only [depsB, List.all_eq_true, List.mem_range] at hdep
      have h2 := hdep i (by omega)
      rw [ho] at h2
      simp only [Bool.and_eq_true] at h2
      cases hu : usesOp o.op with
      | none => rw [hu] at h2; simp at h2
      | some l =>
        rw [hu] at h2
        refine ⟨l, rfl, by simpa using h2.1.1, fun x hx => ?_⟩
        have h3 := List.all_eq_true.1 h2.2 x hx
        cases x with
        | tmp t =>
          simp only [Bool.or_eq_true, beq_iff_eq] at h3
          rcases h3 with h3 | h3
          · have hno := lookup_none_of h3
            have e1 : evP asg a (.tmp t) = a.tmps.getD t undef := by simp [evP, hno, Act.eval]
            have e2 : a'.eval (.tmp t) = a'.tmps.getD t undef := by simp [Act.eval]
            rw [e1, e2]
            refine hold t fun j oj hj e => ?_
            have h4 := hdep j (by have := (Array.getElem?_eq_some_iff.1 hj).1; omega)
            rw [hj] at h4
            simp only [Bool.and_eq_true, e] at h4
            rw [h3] at h4
            exact absurd h4.1.2 (by simp)
          · cases hl : (asg.map (·.1)).contains t with
            | false =>
              have hno := lookup_none_of hl
              have e1 : evP asg a (.tmp t) = a.tmps.getD t undef := by simp [evP, hno, Act.eval]
              have e2 : a'.eval (.tmp t) = a'.tmps.getD t undef := by simp [Act.eval]
              rw [e1, e2]
              refine hold t fun j oj hj e => ?_
              have h4 := hdep j (by have := (Array.getElem?_eq_some_iff.1 hj).1; omega)
              rw [hj] at h4
              simp only [Bool.and_eq_true, e] at h4
              rw [hl] at h4
              exact absurd h4.1.2 (by simp)
            | true =>
              obtain ⟨v, hv⟩ := lookup_some_of hl
              have e1 : evP asg a (.tmp t) = v := by simp [evP, hv]
              have e2 : a'.eval (.tmp t) = a'.tmps.getD t undef := by simp [Act.eval]
              rw [e1, e2]
              -- who lays it
              have h5 := List.all_eq_true.1 hon t (by simpa using hl)
              rw [List.any_eq_true] at h5
              obtain ⟨j, hj, h6⟩ := h5
              rw [List.mem_range] at hj
              have hoj : ops[j]? = some ops[j] := Array.getElem?_eq_getElem hj
              rw [hoj] at h6
              simp only [Option.bind_some] at h6
              cases hdj : ops[j].dst with
              | none => rw [hdj] at h6; cases h6
              | some t' =>
                rw [hdj] at h6
                obtain rfl : t' = t := by simpa using h6
                have h7 := List.all_eq_true.1 h3 j (List.mem_range.2 hj)
                rw [hoj] at h7
                simp only [Option.bind_some, hdj, bne_self_eq_false, Bool.false_or] at h7
                obtain ⟨e, he, he2⟩ := Array.any_eq_true'.1 h7
                rw [Bool.and_eq_true, beq_iff_eq] at he2
                have hLj := hde e he he2.2
                rw [he2.1] at hLj
                have htl : t' < a.tmps.size := by
                  have := List.all_eq_true.1 hsz t' (by simpa using hl)
                  simpa using this
                have h8 := hnew j _ t' hoj hdj hLj htl
                rw [h8]
                simp [valP, hoj, hdj, hv]
        | _ => rfl
    obtain ⟨l, hu, hg, hev⟩ := hdi
    have hex := exec_congr hu hev
    have hab : ∀ W : World, o.about P W a'.eval = o.about P W (evP asg a) := fun W => about_congr hu hev
    rcases Nat.lt_or_ge i s with his' | his'
    · obtain ⟨hdef, hok⟩ := hops i o his' ho
      obtain ⟨hf, hrun⟩ := hok q0
      have hwor : (if (L.setIfInBounds i true).getD s false = true then W2 else w) = w := by
        rw [getD_set_other L (by omega : i ≠ s), hLf]; rfl
      rcases hrun with hrun | ⟨f, args, hrun, hcall⟩
      · refine in_value ho hg hdef (fun f hf' => hf f (by rw [← hab]; exact hf')) (by rw [hex]; exact hrun) ?_
        have := hK q0
        rw [hwor] at this
        exact this
      · refine in_call_any ho hg hdef hF (fun f hf' => hf f (by rw [← hab]; exact hf')) (by rw [hex]; exact hrun) (hcall.mono ?_)
        rintro e w' ⟨rfl, q', rfl⟩
        refine ⟨_, rfl, ?_⟩
        have := hK (q0 + q')
        rw [hwor] at this
        rw [drewN_add]
        exact this
    · obtain rfl : i = s := by omega
      obtain ⟨hdef, hok⟩ := hlast o ho
      obtain ⟨hf, hrun⟩ := hok q0
      have hwor : (if (L.setIfInBounds i true).getD i false = true then W2 else w) = W2 := by
        rw [getD_set_self L (by omega)]; rfl
      have hk := hK q0
      rw [hwor] at hk
      rcases hrun with ⟨hrun, hv⟩ | hrun
      · rw [hv] at hk
        exact in_skip ho hg hdef (fun f hf' => hf f (by rw [← hab]; exact hf')) (by rw [hex]; exact hrun) hk
      · exact in_value ho hg hdef (fun f hf' => hf f (by rw [← hab]; exact hf')) (by rw [hex]; exact hrun) hk
  · intro L q hL
    have : L.getD s false = true := hL s (by omega)
    rw [if_pos this]
    exact hend q
/-- .. where nothing is stored -/
theorem wpIn_region_pure0 {F : Fence} {n : Nat} {P : Program} {id : Nat} {ops : Array Oper} {Q : Exit → Act → World → Prop} {a : Act} {w : World} (hF : F.depth = none) (hm : P.follows .mixedOrders = true)
    (asg : List (Nat × Value)) (hd : distinctB ops = true) (hdep : depsB ops (asg.map (·.1)) = true) (hon : onlyB ops (asg.map (·.1)) = true) (hord : orderedB ops = true) (hsz : (asg.map (·.1)).all (fun t => decide (t < a.tmps.size)) = true)
    (hops : ∀ i o, i < ops.size → ops[i]? = some o → PureOk F n P w (evP asg a) o (valP ops asg i))
    (hend : ∀ q, Q .normal { tmps := wrote ops (valP ops asg) (Array.replicate ops.size true) a.tmps ops.size, defers := a.defers } (w.drewN q)) : (Code.region id ops true).wpIn F n P Q a w := by
  have hd' := distinct_of hd
  refine wpIn_region_inv hm hd' (valP ops asg) (fun _ => w) ⟨1, rfl⟩ ?_ ?_ (acyclic_of hord)
  · intro L a' hLs hdf hcl hold hnew i hi o ho q0 K hK
    obtain ⟨h1, o2, ho2, hde⟩ := mem_ready.1 hi
    obtain rfl : o = o2 := Option.some.inj (ho.symm.trans ho2)
    have hnl := unlisted h1
    have his : i < ops.size := (Array.getElem?_eq_some_iff.1 ho).1
    -- the operands hold what they will hold
    have hdi : ∃ l, usesOp o.op = some l ∧ o.guard = none ∧ ∀ x ∈ l, a'.eval x = evP asg a x := by
      simp only [depsB, List.all_eq_true, List.mem_range] at hdep
      have h2 := hdep i (by omega)
      rw [ho] at h2
      simp only [Bool.and_eq_true] at h2
      cases hu : usesOp o.op with
      | none => rw [hu] at h2; simp at h2
      | some l =>
        rw [hu] at h2
        refine ⟨l, rfl, by simpa using h2.1.1, fun x hx => ?_⟩
        have h3 := List.all_eq_true.1 h2.2 x hx
        cases x with
        | tmp t =>
          simp only [Bool.or_eq_true, beq_iff_eq] at h3
          rcases h3 with h3 | h3
          · have hno := lookup_none_of h3
            have e1 : evP asg a (.tmp t) = a.tmps.getD t undef := by simp [evP, hno, Act.eval]
            have e2 : a'.eval (.tmp t) = a'.tmps.getD t undef := by simp [Act.eval]
            rw [e1, e2]
            refine hold t fun j oj hj e => ?_
            have h4 := hdep j (by have := (Array.getElem?_eq_some_iff.1 hj).1; omega)
            rw [hj] at h4
            simp only [Bool.and_eq_true, e] at h4
            rw [h3] at h4
            exact absurd h4.1.2 (by simp)
          · cases hl : (asg.map (·.1)).contains t with
            | false =>
              have hno := lookup_none_of hl
              have e1 : evP asg a (.tmp t) = a.tmps.getD t undef := by simp [evP, hno, Act.eval]
              have e2 : a'.eval (.tmp t) = a'.tmps.getD t undef := by simp [Act.eval]
              rw [e1, e2]
              refine hold t fun j oj hj e => ?_
              have h4 := hdep j (by have := (Array.getElem?_eq_some_iff.1 hj).1; omega)
              rw [hj] at h4
              simp only [Bool.and_eq_true, e] at h4
              rw [hl] at h4
              exact absurd h4.1.2 (by simp)
            | true =>
              obtain ⟨v, hv⟩ := lookup_some_of hl
              have e1 : evP asg a (.tmp t) = v := by simp [evP, hv]
              have e2 : a'.eval (.tmp t) = a'.tmps.getD t undef := by simp [Act.eval]
              rw [e1, e2]
              -- who lays it
              have h5 := List.all_eq_true.1 hon t (by simpa using hl)
              rw [List.any_eq_true] at h5
              obtain ⟨j, hj, h6⟩ := h5
              rw [List.mem_range] at hj
              have hoj : ops[j]? = some ops[j] := Array.getElem?_eq_getElem hj
              rw [hoj] at h6
              simp only [Option.bind_some] at h6
              cases hdj : ops[j].dst with
              | none => rw [hdj] at h6; cases h6
              | some t' =>
                rw [hdj] at h6
                obtain rfl : t' = t := by simpa using h6
                have h7 := List.all_eq_true.1 h3 j (List.mem_range.2 hj)
                rw [hoj] at h7
                simp only [Option.bind_some, hdj, bne_self_eq_false, Bool.false_or] at h7
                obtain ⟨e, he, he2⟩ := Array.any_eq_true'.1 h7
                rw [Bool.and_eq_true, beq_iff_eq] at he2
                have hLj := hde e he he2.2
                rw [he2.1] at hLj
                have htl : t' < a.tmps.size := by
                  have := List.all_eq_true.1 hsz t' (by simpa using hl)
                  simpa using this
                have h8 := hnew j _ t' hoj hdj hLj htl
                rw [h8]
                simp [valP, hoj, hdj, hv]
        | _ => rfl
    obtain ⟨l, hu, hg, hev⟩ := hdi
    have hex := exec_congr hu hev
    have hab : ∀ W : World, o.about P W a'.eval = o.about P W (evP asg a) := fun W => about_congr hu hev
    obtain ⟨hdef, hok⟩ := hops i o his ho
    obtain ⟨hf, hrun⟩ := hok q0
    rcases hrun with hrun | ⟨f, args, hrun, hcall⟩
    · exact in_value ho hg hdef (fun f hf' => hf f (by rw [← hab]; exact hf')) (by rw [hex]; exact hrun) (hK q0)
    · refine in_call_any ho hg hdef hF (fun f hf' => hf f (by rw [← hab]; exact hf')) (by rw [hex]; exact hrun) (hcall.mono ?_)
      rintro e w' ⟨rfl, q', rfl⟩
      refine ⟨_, rfl, ?_⟩
      rw [drewN_add]
      exact hK (q0 + q')
  · intro L q hL
    exact hend q
end Go.Proofs.Ytabhdkjepbkooaa

/- aescore: MixColumns and the other steps. -/
set_option linter.unusedVariables false
set_option linter.unusedSimpArgs false
namespace Go.Proofs.Ytabhdkjepbkooaa
open Go.RowKit

theorem mixed_set {α : Type} (ys ss : List α) (k : Nat) (y : α) (hl : ys.length = ss.length) (hy : ys[k]? = some y) : (ys.take k ++ ss.drop k).set k y = ys.take (k + 1) ++ ss.drop (k + 1) := by
  have hk : k < ys.length := (List.getElem?_eq_some_iff.1 hy).1
  have h1 : (ys.take k).length = k := by rw [List.length_take]; omega
  rw [List.set_append_right _ _ (by omega), h1, Nat.sub_self, List.drop_eq_getElem_cons (by omega), List.set_cons_zero, List.take_add_one, hy]
  simp
theorem mixed_get {α : Type} (ys ss : List α) (k j : Nat) (h : k ≤ j) (hl : k ≤ ys.length) : (ys.take k ++ ss.drop k)[j]? = ss[j]? := by
  have h1 : (ys.take k).length = k := by rw [List.length_take]; omega
  rw [List.getElem?_append_right (by omega), h1, List.getElem?_drop]
  congr 1; omega

set_option maxRecDepth 100000 in
set_option maxHeartbeats 1600000 in
theorem add_any (w : World) (s : List (BitVec 8)) (hl : s.length = 16) (B : Nat) (A : Option Addr) (n c : Nat) (key : List (BitVec 8)) (hs : SlV w B A n c (key.map W8)) (hB : B ≤ w.heap.size) (hn : n = 16) : Calls Try.prog 26 #[.agg (s.map W8).toArray, .slice A n c] w fun e w' => e = .returned (.agg ((addV s key).map W8).toArray) ∧ Below w.heap.size w w' := by
  have hkl : key.length = 16 := by have := hs.len; simp at this; omega
  obtain ⟨W1, e1, r1, b1, z1⟩ := newS w s
  obtain ⟨W2, e2, r2, b2, z2⟩ := newZ W1
  obtain ⟨g, hg⟩ : ∃ g, w.heap.size = g := ⟨_, rfl⟩
  have hB2 : Below g w W2 := by
    rw [← hg]
    exact b1.trans (b2.mono b1.size)
  have r1 := r1.later b2
  obtain ⟨g2, hg2⟩ : ∃ x, W1.heap.size = x := ⟨_, rfl⟩
  rw [hg] at r1
  rw [hg2] at r2
  have l1 : g < g2 := by omega
  have hs2 := hs.below (hB2.mono (hg ▸ hB))
  have HS := Lib.hid (hg ▸ hB : B ≤ g)
  have HG := Lib.hid hg
  clear b1 b2 z1 z2 hs
  obtain ⟨R, hR⟩ : ∃ R, addV s key = R := ⟨_, rfl⟩
  have hRl : R.length = 16 := by rw [← hR]; exact st16_length _
  have hRk : ∀ k, k < 16 → R[k]? = some (s.getD k 0 ^^^ key.getD k 0) := fun k hk => by
    rw [get_at (by omega), ← hR, addV, st16_get _ k hk]
  have HR := Lib.hid hR
  clear hR
  subst hn
  go_enter Try.func26, Try.ntmps26
  go_wp2
  clear e1 e2 hg hg2
  go_loopw [9] (fun i wr => ∃ k : Nat, k ≤ 16 ∧ i = .int .i64 (k : Nat) ∧ RowV 50 wr g ((R.take k ++ s.drop k).map W8) ∧ RowV 50 wr g2 ((List.replicate 16 (0 : BitVec 8)).map W8) ∧ Below g W2 wr) (fun i _ => 16 - (intOf i).toNat)
  case atStart => exact ⟨0, by decide, rfl, by simpa using r1, r2, Below.refl _ _⟩
  case round =>
    obtain ⟨k, hk, rfl, hr, hrr, hBr⟩ := hrel
    by_cases hk8 : k = 16
    · subst hk8
      rw [List.take_of_length_le (by omega), List.drop_of_length_le (by omega), List.append_nil] at hr
      have hlw : (R.map W8).length = 16 := by simpa using hRl
      go_wp2_with (first | refine wlv_load rfl 50 16 _ Try.underlying50 Try.arrS _ rfl g rfl _ _ hr hlw ?_ | (refine wlv_store rfl 50 16 Try.arrS _ _ rfl g2 _ rfl rfl _ _ hrr (by simp) hlw (ones8 _) ?_; intro w2 hr2 hb2 hz2))
      refine ⟨rfl, _, results_rowV rfl _ g2 _ _ rfl hr2 Try.underlying50 Try.arrS hlw, by rw [HR.out], ?_⟩
      rw [HG.out]
      exact hb2 _ _ (hB2.trans hBr) (by omega)
    · have hki : (k : Int) < 16 := by omega
      have hsr := hs2.below (hBr.mono HS.out)
      obtain ⟨b2, o2, v, rfl, hb, hv, hcl⟩ := hsr.at_ (k := k) (by omega)
      rw [map_at (by omega)] at hv
      injection hv with hv
      rw [← hv] at hcl
      have hRk2 := hRk k (by omega)
      have hx := b8_xor (s.getD k 0) (key.getD k 0)
      obtain ⟨x, hxe⟩ : ∃ x, s.getD k 0 = x := ⟨_, rfl⟩
      obtain ⟨y, hye⟩ : ∃ y, key.getD k 0 = y := ⟨_, rfl⟩
      have hc2 : wr.cell? ⟨g, k, none⟩ = some (W8 (s.getD k 0)) := hr.at_ (by rw [List.getElem?_map, mixed_get _ _ _ _ (Nat.le_refl _) (by omega), get_at (by omega)]; rfl)
      rw [hxe] at hc2 hx hRk2
      rw [hye] at hcl hx hRk2
      have hfz := hr.frozen k
      have hr2 := hr.set k (W8 (x ^^^ y))
      rw [← List.map_set, mixed_set _ _ _ _ (by omega) hRk2] at hr2
      have hrr2 := hrr.far (p := ⟨g, k, none⟩) (show g2 ≠ g by omega) (W8 (x ^^^ y))
      have hB3 := below_setV hBr (Nat.le_refl _) k (W8 (x ^^^ y))
      have HR2 := Lib.hid hr2
      have HRR2 := Lib.hid hrr2
      have HB3 := Lib.hid hB3
      clear hr2 hrr2 hB3 hr hrr hBr hRk hRk2 hxe hye hv hsr
      go_wp2
      go_roundw
      case rel => exact ⟨k + 1, by omega, by go_num, HR2.out, HRR2.out, HB3.out⟩
      case measure => simp [intOf]; omega
end Go.Proofs.Ytabhdkjepbkooaa
