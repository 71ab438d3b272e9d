/- slices.Backward over a slice of uint64: what its iterator hands out. -/
import Derived.Test.YtfiakaenenbhpaaLimbD
import Derived.RangeFuncNested
import Derived.RangeFuncBound
import Derived.RangeFuncCalls
import Derived.RangeFuncLeaves
import Derived.RangeFuncBox
import Derived.Shelf.Abstract
import Derived.Shelf.RegionOpen
import Derived.OwnWalkIn
import Derived.TacticsInMore
import Derived.LoopNIn
import Derived.LoopIn
namespace Go.Proofs.Ytfiakaenenbhpaa
open Go.RowKit Go.Shelf
attribute [local go_sem] Oper.semAt_some

theorem wl_make_in {F : Fence} {nn : Nat} {w : World} {ops : Array Oper} {rest : List Oper} {o : Oper} {a : Act} {Q : Exit → Act → World → Prop} (hg : o.guard = none) (l : Operand) (t : TypeId) (ht : Try.prog.underlying t = some (.slice 58))
    (hop : o.op = Op.makeSlice t l l) (N : Int) (n : Nat) (hl : a.eval l = .int .i64 N) (hN : N = n) (hn : n ≤ 35184372088832)
    (Z : Array Value) (hZ : Z = (List.map U (List.replicate n 0)).toArray)
    (h : wpListIn F nn Try.prog ops Q rest (a.put o.dst (.slice (some ⟨w.heap.size, 0, none⟩) n n)) (w.alloc (.cells Z 58))) :
    wpListIn F nn Try.prog ops Q (o :: rest) a w := by
  obtain ⟨i0, hi, hz0, hz1, hz2⟩ := info_parts Try.infoU
  subst hN
  refine wpListIn_plain hg fun K hK => ?_
  have hb : (i0.bytes : Int) * (n : Int) ≤ 281474976710656 := by rw [hz2]; omega
  have hr := run_make (P := Try.prog) w t 58 i0 (.int .u64 0) ht hi hz0 .i64 .i64 n n (by omega) (by omega) hb (by omega)
  have e : madeCells (Value.int IntKind.u64 0).cells n = Z := by
    rw [hZ]
    apply Array.ext'
    rw [show (Value.int IntKind.u64 0).cells = #[Value.int IntKind.u64 0] from rfl, toList_madeCells_one]
    simp [U]
  simp only [Int.toNat_natCast, hz1, Nat.mul_one, e] at hr
  unfold Oper.wpIn
  refine ⟨?_, ?_⟩
  · simp [Oper.about, hop]
  rw [Oper.semAt_plain F _ _ (by rw [hop]; intro c hc'; cases hc')]
  simp [execOp, hop, hl, hr, Result.andThen]
  exact hK _ _ h

abbrev Ix (n : Nat) := { i : Nat // i < n }
/-- n - 1, n - 2, ..: k of them -/
def downL (n k : Nat) : List Nat := (List.range k).map fun j => n - 1 - j
theorem downL_zero (n : Nat) : downL n 0 = [] := rfl
theorem downL_succ (n k : Nat) : downL n (k + 1) = downL n k ++ [n - 1 - k] := by simp [downL, List.range_succ]
theorem downL_length (n k : Nat) : (downL n k).length = k := by simp [downL]
/-- what a round keeps: all below n₀, and the slice's box -/
def KpB (n₀ Bs : Nat) (W W' : World) : Prop := Below n₀ W W' ∧ W'.heap[Bs]? = W.heap[Bs]?
theorem KpB.refl (n₀ Bs : Nat) (W : World) : KpB n₀ Bs W W := ⟨Below.refl _ _, rfl⟩
theorem KpB.trans {n₀ Bs : Nat} {A B C : World} (h : KpB n₀ Bs A B) (k : KpB n₀ Bs B C) : KpB n₀ Bs A C := ⟨h.1.trans k.1, k.2.trans h.2⟩
theorem KpB.put {n₀ Bs : Nat} {w : World} (hn : n₀ ≤ w.heap.size) (hb : Bs < w.heap.size) (W : World) (l : Nat) (o o' : Obj) (hl : w.heap.size ≤ l) (h : W.heap[l]? = some o) (hc : o.isCells = false) (hw : o.isWalk = false) : KpB n₀ Bs W (W.putObj l o') :=
  ⟨belowK_b hn W l o o' hl h hc hw, (grownBy_putObj' W l o').block Bs (by have := (Array.getElem?_eq_some_iff.1 h).1; omega) (fun e => by cases e; omega)⟩
abbrev encB (xs : List Nat) (n : Nat) : Ix n → Array Value := fun i => #[.int .i64 (i.1 : Int), .int .u64 ((xs[i.1]?.getD 0 : Nat) : Int)]

set_option maxRecDepth 100000 in
set_option maxHeartbeats 2000000 in
theorem back1_in (F : Fence) (nn : Nat) (h7 : F.fn 56) (hro : F.round = none) (hn : 1 ≤ nn) (l Bs n₀ n c : Nat) (A : Option Addr) (xs : List Nat) (hm9 : n ≤ 9223372036854775807) (J Jx : List (Ix n) → World → Prop)
    (hY : ∀ pre x W, J pre W → pre.length < n → YieldAt F (nn - 1) Try.prog l (encB xs n x) W fun e W' =>
      (e = .returned (.bool true) ∧ J (pre ++ [x]) W' ∧ KpB n₀ Bs W W') ∨ (e = .returned (.bool false) ∧ Jx (pre ++ [x]) W'))
    (W : World) (hBs : W.cell? ⟨Bs, 0, none⟩ = some (.slice A n c)) (hs : Sl W n₀ A n c xs) (h0 : J [] W) :
    CallsIn F nn Try.prog 56 #[.func (.yield l) #[] #[], .pointer (some ⟨Bs, 0, none⟩)] W fun e W' => (∃ v, e = .returned v) ∧
      ((∃ ys : List (Ix n), ys.map (·.1) = downL n n ∧ J ys W') ∨ (∃ pre : List (Ix n), (∃ k, k ≤ n ∧ pre.map (·.1) = downL n k) ∧ Jx pre W')) := by
  have hlc := hs.cap
  have hmx := hs.max
  refine callsIn_of_wp Try.func56 rfl h7 ?_ hro
  simp only [Try.ntmps56, List.size_toArray, List.length_cons, List.length_nil, Nat.reduceAdd, Nat.reduceSub, Array.replicate_succ, Array.replicate_zero, List.push_toArray, List.append_toArray, List.nil_append, List.cons_append]
  gi_wp2
  gi_loopw [3] (fun i wr => ∃ (m : Nat) (pre : List (Ix n)), m ≤ n ∧ i = .int .i64 ((m : Int) - 1) ∧ pre.map (·.1) = downL n (n - m) ∧ J pre wr ∧ KpB n₀ Bs W wr)
    (fun i _ => (intOf i + 1).toNat)
  case atStart => exact ⟨n, [], Nat.le_refl _, rfl, by simp [downL], h0, KpB.refl _ _ _⟩
  case round =>
    obtain ⟨m, pre, hm, rfl, hpre, hJs, hnx⟩ := hrel
    have HP := Lib.hid hpre
    clear hpre
    by_cases hm0 : m = 0
    · subst hm0
      gi_wp2
      go_end0
      exact ⟨⟨_, rfl⟩, .inl ⟨pre, HP.out, hJs⟩⟩
    · obtain ⟨t, rfl⟩ : ∃ t, m = t + 1 := ⟨m - 1, by omega⟩
      have hBc : wr.cell? ⟨Bs, 0, none⟩ = some (.slice A n c) := (World.cell?_of_block (a := ⟨Bs, 0, none⟩) hnx.2).trans hBs
      obtain ⟨b, off, x, rfl, hb, hx, hc⟩ := (hs.below hnx.1).at_ (k := t) (by omega)
      have hpl : pre.length < n := by
        have := congrArg List.length HP.out
        rw [List.length_map, downL_length] at this
        omega
      obtain ⟨fn, tmps, assign, body, hy, hR⟩ := hY pre ⟨t, by omega⟩ wr hJs hpl
      dsimp only [encB] at hy
      rw [hx] at hy
      dsimp only [Option.getD_some] at hy
      clear hx
      have hti : (t : Int) < n := by omega
      have ht0 : (0 : Int) ≤ ((t + 1 : Nat) : Int) - 1 := by omega
      gi_wp2
      refine hR.mono ?_
      rintro e W3 (⟨rfl, hJ3, hk3⟩ | ⟨rfl, hJx3⟩)
      · gi_wp2
        go_roundw
        case rel => exact ⟨t, pre ++ [⟨t, by omega⟩], by omega, by go_num, by rw [List.map_append, HP.out, show n - t = (n - (t + 1)) + 1 by omega, downL_succ]; simp; omega, hJ3, hnx.trans hk3⟩
        case measure => simp [intOf]
      · gi_wp2
        refine bodyPost_ret (results_none rfl _ _ _) rfl ?_
        exact ⟨⟨_, rfl⟩, .inr ⟨_, ⟨n - t, by omega, by rw [List.map_append, HP.out, show n - t = (n - (t + 1)) + 1 by omega, downL_succ]; simp; omega⟩, hJx3⟩⟩

set_option maxHeartbeats 1000000 in
theorem back_in (F : Fence) (nn : Nat) (h5 : F.fn 43) (hro : F.round = none) (a : Option Addr) (len cap : Nat) (w : World) :
    CallsIn F nn Try.prog 43 #[.slice a len cap] w fun e w' => e = .returned (.func (.func 56) #[] #[.pointer (some ⟨w.heap.size, 0, none⟩)]) ∧ w' = w.alloc (.cells #[.slice a len cap] 23) := by
  refine callsIn_of_wp Try.func43 rfl h5 ?_ hro
  simp only [Try.ntmps43, List.size_toArray, List.length_cons, List.length_nil, Nat.reduceAdd, Nat.reduceSub, Array.replicate_succ, Array.replicate_zero, List.push_toArray, List.append_toArray, List.nil_append, List.cons_append]
  gi_wp2
  go_ret
  exact ⟨rfl, rfl⟩

theorem back_stops (F : Fence) (nn : Nat) (h7 : F.fn 56) (hro : F.round = none) (hn : 1 ≤ nn) (Bs n₀ n c : Nat) (A : Option Addr) (xs : List Nat) (w : World) (hBs : Bs < w.heap.size) (hn₀ : n₀ ≤ w.heap.size)
    (hc : w.cell? ⟨Bs, 0, none⟩ = some (.slice A n c)) (hI : Sl w n₀ A n c xs) :
    SeqStopsK F nn Try.prog 56 #[.pointer (some ⟨Bs, 0, none⟩)] (encB xs n) (KpB n₀ Bs) (fun ys => ys.map (·.1) = downL n n) (fun pre => ∃ k, k ≤ n ∧ pre.map (·.1) = downL n k) n w := fun l J Jx W hW _ _ hY h0 => by
  have hc' := (hW.cell (p := ⟨Bs, 0, none⟩) hBs).trans hc
  exact back1_in F nn h7 hro hn l Bs n₀ n c A xs (by have := hI.cap; have := hI.max; omega) J Jx hY W hc' (hI.below (hW.mono hn₀)) h0
end Go.Proofs.Ytfiakaenenbhpaa
