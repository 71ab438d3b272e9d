/- Parts of one proof, joined: Iter, LimbE, LimbF, Mem, Reg2, LimbG, LimbH, LimbI, Base8, LimbJ. -/
import Derived.Test.YtbejcollbkeedaaGreatPileM1
import Derived.RangeFuncNested
import Derived.RangeFuncBound
import Derived.RangeFuncCalls
import Derived.RangeFuncLeaves
import Derived.RangeFuncBox
import Derived.Shelf.Abstract
import Derived.Shelf.RegionOpen
import Derived.OwnWalkIn
import Derived.TacticsInMore
import Derived.LoopNIn
import Derived.LoopIn
import Derived.Test.YtbejcollbkeedaaGreatRows
import Derived.WalkKit
import Derived.WalkLawsBesides
import Derived.WalkSpells
import Derived.Deep.QuietTactic
import Derived.BigQuiet
import Derived.Lib.Hide
import Derived.Deep.DeepFit
import Derived.OpenShut
import Derived.Laws.CopyOwn
import Derived.Laws.AppendOwnNone
import Derived.OrdersIn
import Derived.RegionIn
import Derived.Deep.RegionHeld3
import Derived.Lib.BitFns
import Derived.Lib.ItoaNum
set_option linter.unusedVariables false
set_option linter.unusedSimpArgs false
set_option linter.unusedSectionVars false
set_option maxRecDepth 100000
set_option maxHeartbeats 8000000
open Go.Lib (hid)
namespace Go.Proofs.YtbejcollbkeedaaGreat
open Go.RowKit Go.Shelf
attribute [local go_sem] Oper.semAt_some
theorem wl_make_in {F : Fence} {nn : Nat} {w : World} {ops : Array Oper} {rest : List Oper} {o : Oper} {a : Act} {Q : Exit → Act → World → Prop} (hg : o.guard = none) (l : Operand) (t : TypeId) (ht : Tryz.prog.underlying t = some (.slice 63))
  (hop : o.op = Op.makeSlice t l l) (N : Int) (n : Nat) (hl : a.eval l = .int .i64 N) (hN : N = n) (hn : n ≤ 35184372088832)
  (Z : Array Value) (hZ : Z = (List.map U (List.replicate n 0)).toArray)
  (h : wpListIn F nn Tryz.prog ops Q rest (a.put o.dst (.slice (some ⟨w.heap.size, 0, none⟩) n n)) (w.alloc (.cells Z 63))) :
  wpListIn F nn Tryz.prog ops Q (o :: rest) a w := by
 obtain ⟨i0, hi, hz0, hz1, hz2⟩ := info_parts Tryz.infoU
 subst hN
 refine wpListIn_plain hg fun K hK => ?_
 have hb : (i0.bytes : Int) * (n : Int) ≤ 281474976710656 := by rw [hz2]; omega
 have hr := run_make (P := Tryz.prog) w t 63 i0 (.int .u64 0) ht hi hz0 .i64 .i64 n n (by omega) (by omega) hb (by omega)
 have e : madeCells (Value.int IntKind.u64 0).cells n = Z := by
  rw [hZ]
  apply Array.ext'
  rw [show (Value.int IntKind.u64 0).cells = #[Value.int IntKind.u64 0] from rfl, toList_madeCells_one]
  simp [U]
 simp only [Int.toNat_natCast, hz1, Nat.mul_one, e] at hr
 unfold Oper.wpIn
 refine ⟨?_, ?_⟩
 ·simp [Oper.about, hop]
 rw [Oper.semAt_plain F _ _ (by rw [hop]; intro c hc'; cases hc')]
 simp [execOp, hop, hl, hr, Result.andThen]
 exact hK _ _ h
abbrev Ix (n : Nat) := { i : Nat // i < n }
def downL (n k : Nat) : List Nat := (List.range k).map fun j => n - 1 - j
theorem downL_succ (n k : Nat) : downL n (k + 1) = downL n k ++ [n - 1 - k] := by simp [downL, List.range_succ]
theorem downL_length (n k : Nat) : (downL n k).length = k := by simp [downL]
def KpB (n₀ Bs : Nat) (W W' : World) : Prop := Below n₀ W W' ∧ W'.heap[Bs]? = W.heap[Bs]?
theorem KpB.refl (n₀ Bs : Nat) (W : World) : KpB n₀ Bs W W := ⟨Below.refl _ _, rfl⟩
theorem KpB.trans {n₀ Bs : Nat} {A B C : World} (h : KpB n₀ Bs A B) (k : KpB n₀ Bs B C) : KpB n₀ Bs A C := ⟨h.1.trans k.1, k.2.trans h.2⟩
theorem KpB.put {n₀ Bs : Nat} {w : World} (hn : n₀ ≤ w.heap.size) (hb : Bs < w.heap.size) (W : World) (l : Nat) (o o' : Obj) (hl : w.heap.size ≤ l) (h : W.heap[l]? = some o) (hc : o.isCells = false) (hw : o.isWalk = false) : KpB n₀ Bs W (W.putObj l o') :=
 ⟨belowK_b hn W l o o' hl h hc hw, (grownBy_putObj' W l o').block Bs (by have := (Array.getElem?_eq_some_iff.1 h).1; omega) (fun e => by cases e; omega)⟩
abbrev encB (xs : List Nat) (n : Nat) : Ix n → Array Value := fun i => #[.int .i64 (i.1 : Int), .int .u64 ((xs[i.1]?.getD 0 : Nat) : Int)]
theorem back1_in (F : Fence) (nn : Nat) (h7 : F.fn 109) (hro : F.round = none) (hn : 1 ≤ nn) (l Bs n₀ n c : Nat) (A : Option Addr) (xs : List Nat) (hm9 : n ≤ 9223372036854775807) (J Jx : List (Ix n) → World → Prop)
  (hY : ∀ pre x W, J pre W → pre.length < n → YieldAt F (nn - 1) Tryz.prog l (encB xs n x) W fun e W' =>
   (e = .returned (.bool true) ∧ J (pre ++ [x]) W' ∧ KpB n₀ Bs W W') ∨ (e = .returned (.bool false) ∧ Jx (pre ++ [x]) W'))
  (W : World) (hBs : W.cell? ⟨Bs, 0, none⟩ = some (.slice A n c)) (hs : Sl W n₀ A n c xs) (h0 : J [] W) :
  CallsIn F nn Tryz.prog 109 #[.func (.yield l) #[] #[], .pointer (some ⟨Bs, 0, none⟩)] W fun e W' => (∃ v, e = .returned v) ∧
   ((∃ ys : List (Ix n), ys.map (·.1) = downL n n ∧ J ys W') ∨ (∃ pre : List (Ix n), (∃ k, k ≤ n ∧ pre.map (·.1) = downL n k) ∧ Jx pre W')) := by
 have hlc := hs.cap
 have hmx := hs.max
 refine callsIn_of_wp Tryz.func109 rfl h7 ?_ hro
 simp only [Tryz.ntmps109, List.size_toArray, List.length_cons, List.length_nil, Nat.reduceAdd, Nat.reduceSub, Array.replicate_succ, Array.replicate_zero, List.push_toArray, List.append_toArray, List.nil_append, List.cons_append]
 gi_wp2
 gi_loopw [3] (fun i wr => ∃ (m : Nat) (pre : List (Ix n)), m ≤ n ∧ i = .int .i64 ((m : Int) - 1) ∧ pre.map (·.1) = downL n (n - m) ∧ J pre wr ∧ KpB n₀ Bs W wr)
  (fun i _ => (intOf i + 1).toNat)
 case atStart => exact ⟨n, [], Nat.le_refl _, rfl, by simp [downL], h0, KpB.refl _ _ _⟩
 case round =>
  obtain ⟨m, pre, hm, rfl, hpre, hJs, hnx⟩ := hrel
  have HP := hid hpre
  clear hpre
  by_cases hm0 : m = 0
  ·subst hm0
   gi_wp2
   go_end0
   exact ⟨⟨_, rfl⟩, .inl ⟨pre, HP.out, hJs⟩⟩
  ·obtain ⟨t, rfl⟩ : ∃ t, m = t + 1 := ⟨m - 1, by omega⟩
   have hBc : wr.cell? ⟨Bs, 0, none⟩ = some (.slice A n c) := (World.cell?_of_block (a := ⟨Bs, 0, none⟩) hnx.2).trans hBs
   obtain ⟨b, off, x, rfl, hb, hx, hc⟩ := (hs.below hnx.1).at_ (k := t) (by omega)
   have hpl : pre.length < n := by
    have := congrArg List.length HP.out
    rw [List.length_map, downL_length] at this
    omega
   obtain ⟨fn, tmps, assign, body, hy, hR⟩ := hY pre ⟨t, by omega⟩ wr hJs hpl
   dsimp only [encB] at hy
   rw [hx] at hy
   dsimp only [Option.getD_some] at hy
   clear hx
   have hti : (t : Int) < n := by omega
   have ht0 : (0 : Int) ≤ ((t + 1 : Nat) : Int) - 1 := by omega
   gi_wp2
   refine hR.mono ?_
   rintro e W3 (⟨rfl, hJ3, hk3⟩ | ⟨rfl, hJx3⟩)
   ·gi_wp2
    go_roundw
    case rel => exact ⟨t, pre ++ [⟨t, by omega⟩], by omega, by go_num, by rw [List.map_append, HP.out, show n - t = (n - (t + 1)) + 1 by omega, downL_succ]; simp; omega, hJ3, hnx.trans hk3⟩
    case measure => simp [intOf]
   ·gi_wp2
    refine bodyPost_ret (results_none rfl _ _ _) rfl ?_
    exact ⟨⟨_, rfl⟩, .inr ⟨_, ⟨n - t, by omega, by rw [List.map_append, HP.out, show n - t = (n - (t + 1)) + 1 by omega, downL_succ]; simp; omega⟩, hJx3⟩⟩
theorem back_in (F : Fence) (nn : Nat) (h5 : F.fn 96) (hro : F.round = none) (a : Option Addr) (len cap : Nat) (w : World) :
  CallsIn F nn Tryz.prog 96 #[.slice a len cap] w fun e w' => e = .returned (.func (.func 109) #[] #[.pointer (some ⟨w.heap.size, 0, none⟩)]) ∧ w' = w.alloc (.cells #[.slice a len cap] 23) := by
 refine callsIn_of_wp Tryz.func96 rfl h5 ?_ hro
 simp only [Tryz.ntmps96, List.size_toArray, List.length_cons, List.length_nil, Nat.reduceAdd, Nat.reduceSub, Array.replicate_succ, Array.replicate_zero, List.push_toArray, List.append_toArray, List.nil_append, List.cons_append]
 gi_wp2
 go_ret
 exact ⟨rfl, rfl⟩
theorem back_stops (F : Fence) (nn : Nat) (h7 : F.fn 109) (hro : F.round = none) (hn : 1 ≤ nn) (Bs n₀ n c : Nat) (A : Option Addr) (xs : List Nat) (w : World) (hBs : Bs < w.heap.size) (hn₀ : n₀ ≤ w.heap.size)
  (hc : w.cell? ⟨Bs, 0, none⟩ = some (.slice A n c)) (hI : Sl w n₀ A n c xs) :
  SeqStopsK F nn Tryz.prog 109 #[.pointer (some ⟨Bs, 0, none⟩)] (encB xs n) (KpB n₀ Bs) (fun ys => ys.map (·.1) = downL n n) (fun pre => ∃ k, k ≤ n ∧ pre.map (·.1) = downL n k) n w := fun l J Jx W hW _ _ hY h0 => by
 have hc' := (hW.cell (p := ⟨Bs, 0, none⟩) hBs).trans hc
 exact back1_in F nn h7 hro hn l Bs n₀ n c A xs (by have := hI.cap; have := hI.max; omega) J Jx hY W hc' (hI.below (hW.mono hn₀)) h0
end Go.Proofs.YtbejcollbkeedaaGreat
namespace Go.Proofs.YtbejcollbkeedaaGreat
open Go.RowKit Go.Shelf
theorem cmpU_any (x y : Nat) (w : World) :
  Calls Tryz.prog 97 #[.int .u64 x, .int .u64 y] w fun e w' => e = .returned (.int .i64 (ncmp x y)) ∧ w = w' := by
 have hxx : ((x : Int) != x) = false := by simp
 have hyy : ((y : Int) != y) = false := by simp
 rcases Nat.lt_trichotomy x y with h | h | h
 ·rw [ncmp_lt h]
  have h1 : (x : Int) < y := by omega
  go_enter Tryz.func97, Tryz.ntmps97
  go_wp2
  go_ret
  exact ⟨rfl, rfl⟩
 ·subst h
  rw [ncmp_eq]
  go_enter Tryz.func97, Tryz.ntmps97
  go_wp2
  go_ret
  exact ⟨rfl, rfl⟩
 ·rw [ncmp_gt h]
  have h1 : (y : Int) < x := by omega
  go_enter Tryz.func97, Tryz.ntmps97
  go_wp2
  go_ret
  exact ⟨rfl, rfl⟩
theorem cmpI_any (x y : Nat) (w : World) :
  Calls Tryz.prog 95 #[.int .i64 (x : Int), .int .i64 (y : Int)] w fun e w' => e = .returned (.int .i64 (ncmp x y)) ∧ w = w' := by
 refine (Tryz.cmp_Compare_int x y w).mono fun e w' ⟨he, hw⟩ => ⟨?_, hw.symm⟩
 rw [he]
 unfold Lib.compareInt ncmp
 congr 2
 repeat' split
 all_goals first | rfl | omega
attribute [local go_sem] Oper.semAt_some
theorem sl_trim_of {w w' : World} {B m n c : Nat} {A : Option Addr} {xs : List Nat} (h : Sl w B A n c xs) (h' : Sl w' B A m c (trimmed xs)) : Sl w B A m c (trimmed xs) := by
 have e : m = trimL xs n := by rw [h'.len, trimmed_length, h.len]
 subst e
 exact sl_trim h
theorem mem_down {n k i : Nat} {l : List (Ix n)} (h : l.map (·.1) = downL n k) (h1 : n ≤ i + k) (h2 : i < n) : ∃ x ∈ l, x.1 = i := by
 have hm : i ∈ l.map (·.1) := by
  rw [h]
  exact List.mem_map.2 ⟨n - 1 - i, List.mem_range.2 (by omega), by omega⟩
 obtain ⟨x, hx, e⟩ := List.mem_map.1 hm
 exact ⟨x, hx, e⟩
theorem cmp_at {B : Nat} {xs ys : List Nat} {m : Nat} (hd : Dg B xs) (hd2 : Dg B ys) (hl : xs.length = ys.length) (hm : m < xs.length) (hne : xs[m]?.getD 0 ≠ ys[m]?.getD 0) (he : ∀ i, m < i → i < xs.length → xs[i]? = ys[i]?) :
  ncmp (V B xs) (V B ys) = ncmp (xs[m]?.getD 0) (ys[m]?.getD 0) := by
 obtain ⟨x, hx⟩ := get_lt hm
 obtain ⟨y, hy⟩ := get_lt (zs := ys) (k := m) (by omega)
 have hdr : xs.drop (m + 1) = ys.drop (m + 1) := by
  apply List.ext_getElem?
  intro j
  rw [List.getElem?_drop, List.getElem?_drop]
  rcases Nat.lt_or_ge (m + 1 + j) xs.length with h | h
  ·exact he _ (by omega) h
  ·rw [List.getElem?_eq_none h, List.getElem?_eq_none (by omega)]
 rw [hx, hy] at hne ⊢
 simp only [Option.getD_some] at hne ⊢
 rcases Nat.lt_or_gt_of_ne hne with h | h
 ·rw [ncmp_lt h, ncmp_lt (cmp_lt hd hl hx hy hdr h)]
 ·rw [ncmp_gt h, ncmp_gt (cmp_lt hd2 hl.symm hy hx hdr.symm h)]
theorem ncmp_ne {a b : Nat} (h : a ≠ b) : (ncmp a b != 0) = true := by
 rcases Nat.lt_or_gt_of_ne h with h | h
 ·rw [ncmp_lt h]; decide
 ·rw [ncmp_gt h]; decide
theorem lcmp_any (w : World) (A1 : Option Addr) (n1 c1 : Nat) (xs : List Nat) (hs1 : Sl w w.heap.size A1 n1 c1 xs) (A2 : Option Addr) (n2 c2 : Nat) (ys : List Nat) (hs2 : Sl w w.heap.size A2 n2 c2 ys) (hd : Dg b64 xs) (hd2 : Dg b64 ys) :
  Calls Tryz.prog 79 #[.slice A1 n1 c1, .slice A2 n2 c2] w fun e w' => RetV w (.int .i64 (ncmp (V b64 xs) (V b64 ys))) e w' := by
 have hX := trimmed_nm hd
 have hY := trimmed_nm hd2
 have hs3 := sl_trim hs1
 have hs4 := sl_trim hs2
 refine (callsIn_wide (n := 9)).1 ?_
 refine callsIn_of_wp_marks Tryz.func79 rfl trivial ?_ rfl
 simp only [Tryz.ntmps79, List.size_toArray, List.length_cons, List.length_nil, Nat.reduceAdd, Nat.reduceSub, Array.replicate_succ, Array.replicate_zero, List.push_toArray, List.append_toArray, List.nil_append, List.cons_append]
 gi_wp2_with fail
 refine ⟨trivial, callsIn_wide.2 ((ltrim_sl _ w.heap.size A1 n1 c1 xs (hs1.below ((Below.refl _ _).alloc (Nat.le_refl _) _))).mono ?_)⟩
 rintro e w1 ⟨m1, rfl, h1, hm1, rfl⟩
 gi_wp2_with fail
 refine ⟨trivial, callsIn_wide.2 ((ltrim_sl _ w.heap.size A2 n2 c2 ys (hs2.below ((Below.refl _ _).alloc (Nat.le_refl _) _))).mono ?_)⟩
 rintro e w1 ⟨m2, rfl, h2, hm2, rfl⟩
 gi_wp2_with fail
 refine ⟨trivial, callsIn_wide.2 ((cmpI_any m1 m2 _).mono ?_)⟩
 rintro e w1 ⟨rfl, rfl⟩
 by_cases hne : m1 = m2
 ·subst hne
  have e0 : ncmp m1 m1 = 0 := ncmp_eq m1
  rw [e0]
  gi_wp2_with fail
  refine ⟨trivial, (back_in Fence.wide _ trivial rfl _ _ _ _).mono ?_⟩
  rintro e w1 ⟨rfl, rfl⟩
  gi_wp2_with fail
  have HX := hid hX
  have HY := hid hY
  have HE := hid e0
  clear e0 hX hY
  have bR := Boxed.new w 3 (.int .i64 0)
  have bY := Boxed.new (w.alloc (.cells #[.int .i64 0] 3)) 23 (.slice A2 m1 c2)
  have bX := Boxed.new ((w.alloc (.cells #[.int .i64 0] 3)).alloc (.cells #[.slice A2 m1 c2] 23)) 23 (.slice A1 m1 c1)
  have bR2 := (bR.alloc (.cells #[.slice A2 m1 c2] 23)).alloc (.cells #[.slice A1 m1 c1] 23)
  have bY2 := bY.alloc (.cells #[.slice A1 m1 c1] 23)
  have hB0 : Below w.heap.size w (((w.alloc (.cells #[.int .i64 0] 3)).alloc (.cells #[.slice A2 m1 c2] 23)).alloc (.cells #[.slice A1 m1 c1] 23)) := (((Below.refl _ w).alloc (Nat.le_refl _) _).alloc (by simp) _).alloc (by simp; omega) _
  obtain ⟨W0, hW0⟩ : ∃ W0, (((w.alloc (.cells #[.int .i64 0] 3)).alloc (.cells #[.slice A2 m1 c2] 23)).alloc (.cells #[.slice A1 m1 c1] 23)) = W0 := ⟨_, rfl⟩
  have hsz : W0.heap.size = w.heap.size + 3 := by rw [← hW0]; simp
  rw [hW0] at bX bR2 bY2 hB0 ⊢
  simp only [World.size_alloc] at bX bR2 bY2
  have h1' : Sl W0 w.heap.size A1 m1 c1 (trimmed xs) := (sl_trim_of hs1 h1).below hB0
  have h2' : Sl w w.heap.size A2 m1 c2 (trimmed ys) := sl_trim_of hs2 h2
  have HSZ := hid hsz
  clear hsz hW0 bR bY h1 h2 hs1 hs2 hs3 hs4
  refine wpIn_rangeFunc_ownG rfl (by omega) (gf := 109) (lb := #[.pointer (some ⟨w.heap.size + 1 + 1, 0, none⟩)]) rfl trivial (enters_of Tryz.func109 (by kernel_rfl) rfl)
   (back_stops Fence.wide _ trivial rfl (by omega) (w.heap.size + 1 + 1) w.heap.size m1 c1 A1 (trimmed xs) W0 (by rw [HSZ.out]; omega) (by rw [HSZ.out]; omega) bX.cell h1') KpB.trans (KpB.put (by rw [HSZ.out]; omega) (by rw [HSZ.out]; omega)) (Below.refl _ _) (fun _ => rfl)
   (fun pre W => ((∀ i ∈ pre, (trimmed xs)[i.1]? = (trimmed ys)[i.1]?) ∧ W.cell? ⟨w.heap.size, 0, none⟩ = some (.int .i64 0) ∧ W.frozen? ⟨w.heap.size, 0, none⟩ = false ∧ W.cell? ⟨w.heap.size + 1, 0, none⟩ = some (.slice A2 m1 c2)) ∧ Below w.heap.size w W)
   (fun c pre W => (c = .ret ∧ ∃ ini last, pre = ini ++ [last] ∧ (∀ i ∈ ini, (trimmed xs)[i.1]? = (trimmed ys)[i.1]?) ∧ (trimmed xs)[last.1]?.getD 0 ≠ (trimmed ys)[last.1]?.getD 0 ∧ W.cell? ⟨w.heap.size, 0, none⟩ = some (.int .i64 (ncmp ((trimmed xs)[last.1]?.getD 0) ((trimmed ys)[last.1]?.getD 0)))) ∧ Below w.heap.size w W)
   (OwnFrom.and (Own.from (fun s A B row hs hg hr => ⟨hs.1, cell_kept hs.2.1 hg hr, (frozen_kept hs.2.1 hg hr).trans hs.2.2.1, cell_kept hs.2.2.2 hg hr⟩) _) (ownFrom_below (Nat.le_refl _) (by rw [HSZ.out]; omega)))
   (fun c => OwnFrom.and (Own.from (fun s A B row hs hg hr => by obtain ⟨hc, ini, last, e1, e2, e3, e4⟩ := hs; exact ⟨hc, ini, last, e1, e2, e3, cell_kept e4 hg hr⟩) _) (ownFrom_below (Nat.le_refl _) (by rw [HSZ.out]; omega)))
   ⟨⟨by simp, bR2.cell, bR2.frozen, bY2.cell⟩, hB0⟩
   (fun x => { tmps := #[.slice A1 n1 c1, .slice A2 n2 c2, undef, undef, .pointer (some ⟨w.heap.size, 0, none⟩), .slice A1 m1 c1, .pointer (some ⟨w.heap.size + 1, 0, none⟩), .int .i64 0, .int .i64 (x.1 : Int), .int .u64 (((trimmed xs)[x.1]?.getD 0 : Nat) : Int), undef, .slice A1 n1 c1, .slice A1 m1 c1, .slice A2 n2 c2, .slice A2 m1 c2, .slice A1 m1 c1, .int .i64 (m1 : Int), .slice A2 m1 c2, .int .i64 (m1 : Int), .int .i64 0, .int .i64 0, .bool false, undef, .slice A1 m1 c1, .func (.func 109) #[] #[.pointer (some ⟨w.heap.size + 1 + 1, 0, none⟩)], .int .i64 (x.1 : Int), .int .u64 (((trimmed xs)[x.1]?.getD 0 : Nat) : Int), undef, undef, undef, undef, undef, undef, undef, undef, undef], defers := [] }) ?assign ?body ?done ?stop
  case assign =>
   intro l x W K hK
   gi_wp2
   exact hK
  case body =>
   rintro l pre x W ⟨⟨hp, hcr, hfr, hcy⟩, hB⟩ _
   obtain ⟨i, hi⟩ := x
   obtain ⟨b, off, y, rfl, hb, hy, hc⟩ := (h2'.below hB).at_ hi
   obtain ⟨xv, hxv⟩ : ∃ xv, (trimmed xs)[i]? = some xv := get_lt (by rw [← h1'.len]; exact hi)
   have HI := hid hp
   have HXV := hid hxv
   have HYV := hid hy
   clear hp hy
   dsimp only
   rw [hxv]
   dsimp only [Option.getD_some]
   clear hxv
   have hii : (i : Int) < m1 := by omega
   by_cases hxy : xv = y
   ·subst hxy
    have e1 := ncmp_eq xv
    have HE1 := hid e1
    clear e1
    gi_wp2_with (refine ⟨trivial, ?_⟩; gi_at_call 97; refine (CallsIn.inRound l (callsIn_wide.2 (cmpU_any xv xv W))).mono ?_; rw [HE1.out]; rintro e w' ⟨rfl, rfl⟩)
    exact ⟨KeepsFrom.refl _ _, KpB.refl _ _ _, ⟨fun j hj => (List.mem_append.1 hj).elim (HI.out j) (fun e => by simp at e; subst e; exact HXV.out.trans HYV.out.symm), hcr, hfr, hcy⟩, hB⟩
   ·have hnz := ncmp_ne hxy
    obtain ⟨cv, hcv⟩ : ∃ cv, ncmp xv y = cv := ⟨_, rfl⟩
    rw [hcv] at hnz
    have HCV := hid hcv
    clear hcv
    gi_wp2_with (refine ⟨trivial, ?_⟩; gi_at_call 97; refine (CallsIn.inRound l (callsIn_wide.2 (cmpU_any xv y W))).mono ?_; rw [HCV.out]; rintro e w' ⟨rfl, rfl⟩)
    have hcs := World.cell?_setCell_same' W ⟨w.heap.size, 0, none⟩ (.int .i64 cv) (by rw [hcr]; rfl)
    exact ⟨(KeepsOthers.setCell _ _ _).from _, ⟨rfl, pre, ⟨i, hi⟩, rfl, HI.out, by rw [HXV.out, HYV.out]; exact hxy, by rw [HXV.out, HYV.out]; simp only [Option.getD_some]; rw [HCV.out]; exact hcs⟩, hB.setCell (p := ⟨w.heap.size, 0, none⟩) (Nat.le_refl _) _⟩
  case done =>
   rintro D ds W hD hds ⟨⟨hp, hcr, hfr, hcy⟩, hB⟩ hK
   have HDS := hid hds
   have HP := hid hp
   clear hds hp
   gi_wp2
   have hK' := (KeepsOthers.setCell W ⟨w.heap.size, 0, none⟩ (.int .i64 0)).same D _ hK rfl
   refine ⟨by simp, .inl ⟨_, _, rfl, run_takeDeferred hK', ?_⟩⟩
   have hc5 := cell_kept (World.cell?_setCell_same' W ⟨w.heap.size, 0, none⟩ (.int .i64 0) (by rw [hcr]; rfl)) (grownBy_putObj' _ D (.deferred none)) (fun r e => by cases e; exact ⟨_, hK', rfl⟩)
   have hxy : trimmed xs = trimmed ys := by
    apply List.ext_getElem?
    intro j
    rcases Nat.lt_or_ge j m1 with h | h
    ·obtain ⟨x, hx, rfl⟩ := mem_down HDS.out (i := j) (by omega) h
     exact HP.out x hx
    ·rw [List.getElem?_eq_none (by rw [← h1'.len]; exact h), List.getElem?_eq_none (by rw [← h2'.len]; exact h)]
   have hz : ncmp (V b64 xs) (V b64 ys) = 0 := by rw [← HX.out.2.2, ← HY.out.2.2, hxy, ncmp_eq]
   refine ⟨.int .i64 0, ?_, by rw [hz], (hB.setCell (p := ⟨w.heap.size, 0, none⟩) (Nat.le_refl _) _).trans (belowK_b (w := W0) (by rw [HSZ.out]; omega) _ D _ _ hD hK' rfl rfl)⟩
   simp [results, Tryz.f79, go_sem, hc5]
  case stop =>
   rintro D c pre W hD ⟨k, hk, hkp⟩ ⟨⟨rfl, ini, last, e1, e2, e3, hcr⟩, hB⟩ hK
   have HKP := hid hkp
   have HE1 := hid e1
   have HE2 := hid e2
   have HE3 := hid e3
   clear hkp e1 e2 e3
   obtain ⟨cv, hcv⟩ : ∃ cv, ncmp ((trimmed xs)[last.1]?.getD 0) ((trimmed ys)[last.1]?.getD 0) = cv := ⟨_, rfl⟩
   rw [hcv] at hcr
   have HCV := hid hcv
   clear hcv
   gi_wp2
   refine ⟨by simp, .inl ⟨_, _, rfl, run_takeDeferred hK, ?_⟩⟩
   have hc5 := cell_kept hcr (grownBy_putObj' _ D (.deferred none)) (fun r e => by cases e; exact ⟨_, hK, rfl⟩)
   have hfin : ncmp (V b64 xs) (V b64 ys) = cv := by
    have hkp := HKP.out
    rw [HE1.out] at hkp
    obtain ⟨k', rfl⟩ : ∃ k', k = k' + 1 := by
     cases k with
     | zero => simp [downL] at hkp
     | succ k' => exact ⟨k', rfl⟩
    rw [downL_succ, List.map_append] at hkp
    obtain ⟨hini, hlast⟩ := List.append_inj' hkp rfl
    have hl : last.1 = m1 - 1 - k' := by simpa using hlast
    rw [← HCV.out, ← HX.out.2.2, ← HY.out.2.2]
    refine cmp_at HX.out.1 HY.out.1 (by rw [← h1'.len, ← h2'.len]) (by rw [← h1'.len]; exact last.2) HE3.out (fun i hi1 hi2 => ?_)
    rw [← h1'.len] at hi2
    obtain ⟨x, hx, rfl⟩ := mem_down hini (i := i) (by omega) hi2
    exact HE2.out x hx
   refine ⟨.int .i64 cv, ?_, by rw [hfin], hB.trans (belowK_b (w := W0) (by rw [HSZ.out]; omega) _ D _ _ hD hK rfl rfl)⟩
   simp [results, Tryz.f79, go_sem, hc5]
 ·have hl1 := h1.len
  have hl2 := h2.len
  have e0 : ncmp m1 m2 = ncmp (V b64 xs) (V b64 ys) := by
   rw [← hX.2.2, ← hY.2.2]
   rcases Nat.lt_or_gt_of_ne hne with h | h
   ·rw [ncmp_lt h, ncmp_lt (lt_of_length hX.1 (by decide) hY.2.1 (by rw [← hl1, ← hl2]; exact h))]
   ·rw [ncmp_gt h, ncmp_gt (lt_of_length hY.1 (by decide) hX.2.1 (by rw [← hl1, ← hl2]; exact h))]
  have hnz := ncmp_ne hne
  obtain ⟨cv, hcv⟩ : ∃ cv, ncmp m1 m2 = cv := ⟨_, rfl⟩
  rw [hcv] at hnz
  have HCV := hid hcv
  have HE := hid e0
  rw [hcv]
  clear hcv e0 hl1 hl2
  gi_wp2
  refine ⟨.int .i64 cv, ?_, by rw [← HE.out, HCV.out], ?_⟩
  ·simp [results, Tryz.f79, go_sem]
  ·exact ((Below.refl _ w).alloc (Nat.le_refl _) _).alloc (by simp) _
end Go.Proofs.YtbejcollbkeedaaGreat
namespace Go.Proofs.YtbejcollbkeedaaGreat
open Go.RowKit
theorem len_le_of {B : Nat} {a b : List Nat} {N M : Nat} (hB : 1 < B) (ha : Nm B a N) (hb : Nm B b M) (h : N ≤ M) : a.length ≤ b.length := by
 rcases Nat.lt_or_ge b.length a.length with hl | hl
 ·have := lt_of_length hb.1 hB ha.2.1 hl
  rw [ha.2.2, hb.2.2] at this
  omega
 ·exact hl
def RetNB (B : Nat) (w : World) (k : Nat) (e : Ending) (w' : World) : Prop :=
 ∃ xs A n c, Nm B xs k ∧ e = .returned (.tuple #[.slice A n c, .bool true]) ∧ Sl w' w'.heap.size A n c xs ∧ Below w.heap.size w w'
theorem lsub_no (w : World) (A1 : Option Addr) (n1 c1 : Nat) (xs : List Nat) (hs1 : Sl w w.heap.size A1 n1 c1 xs) (A2 : Option Addr) (n2 c2 : Nat) (ys : List Nat) (hs2 : Sl w w.heap.size A2 n2 c2 ys)
  (hd : Dg b64 xs) (hd2 : Dg b64 ys) (hlt : V b64 xs < V b64 ys) :
  Calls Tryz.prog 75 #[.slice A1 n1 c1, .slice A2 n2 c2] w fun e w' => e = .returned (.tuple #[.slice none 0 0, .bool false]) ∧ Below w.heap.size w w' := by
 have e0 := ncmp_lt hlt
 have HE := hid e0
 clear e0
 go_enter Tryz.func75, Tryz.ntmps75
 go_wp2_with (go_at_call 79; refine (lcmp_any w _ _ _ xs hs1 _ _ _ ys hs2 hd hd2).mono ?_; rw [HE.out]; rintro e w1 ⟨rfl, hb⟩)
 go_ret2
 exact ⟨rfl, hb⟩
theorem lsub_yes (w : World) (A1 : Option Addr) (n1 c1 : Nat) (xs : List Nat) (hs1 : Sl w w.heap.size A1 n1 c1 xs) (A2 : Option Addr) (n2 c2 : Nat) (ys : List Nat) (hs2 : Sl w w.heap.size A2 n2 c2 ys)
  (hd : Dg b64 xs) (hd2 : Dg b64 ys) (h1 : n1 ≤ 17592186044416) (hle : V b64 ys ≤ V b64 xs) :
  Calls Tryz.prog 75 #[.slice A1 n1 c1, .slice A2 n2 c2] w fun e w' => RetNB b64 w (V b64 xs - V b64 ys) e w' := by
 have e0 : ¬ ncmp (V b64 xs) (V b64 ys) < 0 := by
  unfold ncmp; rw [if_neg (by omega)]; split <;> omega
 obtain ⟨cv, hcv⟩ : ∃ cv, ncmp (V b64 xs) (V b64 ys) = cv := ⟨_, rfl⟩
 rw [hcv] at e0
 have HCV := hid hcv
 clear hcv
 have hX := trimmed_nm hd
 have hY := trimmed_nm hd2
 have hll := len_le_of (by decide) hY hX hle
 have HX := hid hX
 have HY := hid hY
 have HLL := hid hll
 clear hX hY hll
 go_enter Tryz.func75, Tryz.ntmps75
 go_wp2_with (go_at_call 79; refine (lcmp_any w _ _ _ xs hs1 _ _ _ ys hs2 hd hd2).mono ?_; rw [HCV.out]; rintro e w0 ⟨rfl, hb0⟩)
 refine (ltrim_sl w0 w.heap.size A1 n1 c1 xs (hs1.below hb0)).mono ?_; rintro e w1 ⟨m1, rfl, h3, h4, rfl⟩
 have hlc1 := h3.cap
 have hm1 := h3.max
 go_wp2_with (at_make; refine wl_make rfl _ _ Tryz.underlying23 rfl _ m1 rfl (by omega) (by omega) ?_; intro w1 hR hB1 hz1; obtain ⟨g, hg⟩ : ∃ g, g = w0.heap.size := ⟨_, rfl⟩; rw [← hg] at hR ⊢; have HG := hid hg; have HZ1 := hid hz1; clear hg hz1)
 have hgw : w.heap.size ≤ g := by rw [HG.out]; exact hb0.size
 have hb1 : Below w.heap.size w w1 := hb0.trans (hB1.mono hb0.size)
 refine (ltrim_sl w1 w.heap.size A2 n2 c2 ys (hs2.below hb1)).mono ?_; rintro e w2 ⟨m2, rfl, h5, h6, rfl⟩
 have h3' : Sl w1 w.heap.size A1 m1 c1 (trimmed xs) := h3.below (hB1.mono hb0.size)
 have hlc2 := h5.cap
 have hm2 := h5.max
 have hmm : m2 ≤ m1 := by rw [h5.len, h3.len]; exact HLL.out
 have hz0 : Hid ((List.replicate m1 0).length = m1) := by show _ = _; simp
 go_wp2_with (with_reducible show wpList _ _ _ _ _ _; refine wl_copy (o := ⟨some 23, _, _, _, _, _⟩) rfl _ _ _ _ Tryz.underlying23 rfl g 0 _ _ A2 m2 c2 rfl rfl _ (trimmed ys) hR w.heap.size h5 (by rw [hz0.out]; omega) (by omega) ?_; intro w2 hR2 ho2 hs2' v2; have HS2 := hid hs2'; clear hs2')
 have hcp := copy_V (B := b64) (zs := List.replicate m1 0) (ys := trimmed ys) rfl (by rw [← h5.len]; omega)
 obtain ⟨y0, hy0⟩ : ∃ y0, y0 = splice (List.replicate m1 0) 0 (trimmed ys) := ⟨_, rfl⟩
 have hdy := copy_Dg (dg_zeros b64_pos m1) HY.out.1 0
 rw [← hy0] at hR2 hcp hdy
 clear hy0
 have HC := hid hcp
 clear hcp
 have hdx := HX.out.1
 have h3'' : Sl w2 w.heap.size A1 m1 c1 (trimmed xs) := h3'.below (ho2.below hgw hb1.size)
 have hgs : g < w1.heap.size := by rw [HZ1.out, HG.out]; omega
 go_loopw [8, 26] (fun cv i wr => ∃ k c zs, k ≤ m1 ∧ i = .int .i64 (k : Nat) ∧ cv = .int .u64 ((c : Nat) : Int) ∧ c ≤ 1 ∧ Row wr g zs ∧ Only w2 wr g ∧ wr.heap.size = w2.heap.size ∧ zs.length = m1 ∧ Dg b64 zs ∧ (∀ t, k ≤ t → zs[t]? = y0[t]?) ∧ V b64 (zs.take k) + V b64 (y0.take k) = V b64 ((trimmed xs).take k) + b64 ^ k * c) (fun _ i _ => m1 - (intOf i).toNat)
 case atStart => exact ⟨0, 0, y0, Nat.zero_le _, rfl, rfl, by omega, hR2, Only.refl _ _, rfl, HC.out.2.1, hdy, fun _ _ => rfl, rfl⟩
 case round =>
  obtain ⟨k, c, zs, hk, rfl, rfl, hc1, hr, ho, hz, hzl, hdz, hzz, hv⟩ := hrel
  have HZ := hid hz
  have HZL := hid hzl
  have HV := hid hv
  have HZZ := hid hzz
  clear hz hzl hv hzz
  have hbw : Below w.heap.size w2 wr := ho.below hgw (by have := ho2.size; omega)
  by_cases hlt : k < m1
  ·have hsr := h3''.below hbw
   have hf := hr.frozen
   have hki : (k : Int) < m1 := by omega
   obtain ⟨b, off, x, rfl, hb, hx, hc⟩ := hsr.at_ hlt
   have hxl := hdx.get hx
   have HXX := hid hx
   clear hx
   obtain ⟨old, hold⟩ := get_lt (zs := zs) (k := k) (by rw [HZL.out]; omega)
   have hcy := hr.at_ hold
   have hol := hdz.get hold
   have HO : Hid (y0[k]?.getD 0 = old) := by show _ = _; rw [← HZZ.out k (Nat.le_refl _), hold]; rfl
   have HKL : Hid (k < zs.length) := by show _ < _; rw [HZL.out]; exact hlt
   clear hold
   go_wp2_with (with_reducible show wpList _ _ _ _ _ _; refine wl_sub64 (o := ⟨some 40, _, _, _, _, _⟩) rfl _ _ _ rfl x old c rfl rfl rfl hxl hol hc1 ?_; intro s c2 hs1 hs2 hs3; have HS := hid hs1; have HS2 := hid hs2; clear hs1 hs2)
   go_roundw
   case rel => exact ⟨k + 1, c2, zs.set k s, by omega, by go_num, by go_num, hs3, hr.set _ _, ho.set _ _, by simpa [World.setCell] using HZ.out, by simp [HZL.out], hdz.set _ HS2.out, fun t ht => by rw [List.getElem?_set_ne (by omega)]; exact HZZ.out t (by omega), sub_step HKL.out HV.out (by rw [HXX.out]; rfl) HO.out HS.out⟩
   case measure => simp [intOf]; omega
  ·obtain rfl : k = m1 := by omega
   have hsl := hr.sl (by rw [HZL.out]; omega)
   rw [HZL.out] at hsl
   have hbel : Below w.heap.size w wr := (hb1.trans (ho2.below hgw hb1.size)).trans hbw
   have hval : V b64 zs = V b64 xs - V b64 ys := by
    have h := sub_end (B := b64) hdz h3.len.symm (by rw [HC.out.2.1]; omega) HZL.out (by rw [HC.out.1, HX.out.2.2, HY.out.2.2]; exact hle) HV.out
    rw [h, HC.out.1, HX.out.2.2, HY.out.2.2]
   have HVAL := hid hval
   clear hval
   go_wp2_with (go_at_call 74; refine (ltrim_sl _ _ _ _ _ _ hsl).mono ?_; rintro e w4 ⟨m, rfl, h7, h8, rfl⟩)
   go_ret2
   exact ⟨_, _, _, _, HVAL.out ▸ trimmed_nm hdz, rfl, h7, hbel⟩
end Go.Proofs.YtbejcollbkeedaaGreat
namespace Go.Proofs.YtbejcollbkeedaaGreat
open Go.RowKit
def Ones (vs : List Value) : Prop := ∀ v ∈ vs, v.oneCell' = true
def RowV (t : TypeId) (w : World) (g : Nat) (vs : List Value) : Prop := w.heap[g]? = some (.cells vs.toArray t (0, 0))
theorem RowV.lt {t : TypeId} {w : World} {g : Nat} {vs : List Value} (h : RowV t w g vs) : g < w.heap.size := (Array.getElem?_eq_some_iff.1 h).1
theorem RowV.cell {t : TypeId} {w : World} {g : Nat} {vs : List Value} (h : RowV t w g vs) (i : Nat) : w.cell? ⟨g, i, none⟩ = vs[i]? := by
 rw [cell_of_row w g i _ _ (0, 0) h]; simp
theorem RowV.at_ {t : TypeId} {w : World} {g : Nat} {vs : List Value} (h : RowV t w g vs) {i : Nat} {v : Value} (hv : vs[i]? = some v) : w.cell? ⟨g, i, none⟩ = some v := (h.cell i).trans hv
theorem RowV.frozen {t : TypeId} {w : World} {g : Nat} {vs : List Value} (h : RowV t w g vs) (i : Nat) : w.frozen? ⟨g, i, none⟩ = false := by
 unfold RowV at h
 simp [World.frozen?, h]
theorem RowV.set {t : TypeId} {w : World} {g : Nat} {vs : List Value} (h : RowV t w g vs) (i : Nat) (v : Value) : RowV t (w.setCell ⟨g, i, none⟩ v) g (vs.set i v) := by
 unfold RowV at h ⊢
 simp [World.setCell, Array.getElem?_modify, h]
theorem RowV.below {t : TypeId} {w w' : World} {g B : Nat} {vs : List Value} (h : RowV t w g vs) (hb : Below B w w') (hg : g < B) : RowV t w' g vs := (hb.block g hg).trans h
theorem RowV.later {t : TypeId} {w w' : World} {g : Nat} {vs : List Value} (h : RowV t w g vs) (hb : Below w.heap.size w w') : RowV t w' g vs := h.below hb h.lt
theorem RowV.far {t : TypeId} {w : World} {g : Nat} {vs : List Value} (h : RowV t w g vs) {p : Addr} (hp : g ≠ p.block) (u : Value) : RowV t (w.setCell p u) g vs := (Below.heap_setCell w p u g hp).trans h
theorem RowV.new (w : World) (t : TypeId) (vs : List Value) : RowV t (w.alloc (.cells vs.toArray t (0, 0))) w.heap.size vs := by
 unfold RowV
 rw [heap_alloc_new]
theorem RowV.kept {t : TypeId} {A B' : World} {g : Nat} {vs : List Value} (h : RowV t A g vs) {row : Option Nat} (hg : A.grownBy B' row) (hr : ∀ r, row = some r → ∃ o : Obj, A.heap[r]? = some o ∧ o.isCells = false) : RowV t B' g vs := by
 refine (hg.block g h.lt fun e => ?_).trans h
 obtain ⟨o, ho, hc⟩ := hr g e.symm
 rw [show A.heap[g]? = _ from h] at ho
 cases ho
 cases hc
def SlV (w : World) (B : Nat) (A : Option Addr) (n c : Nat) (vs : List Value) : Prop :=
 n = vs.length ∧ n ≤ c ∧ c ≤ 9223372036854775807 ∧ (vs ≠ [] → ∃ b off, A = some ⟨b, off, none⟩ ∧ b < B ∧ ∀ (k : Nat) (v : Value), vs[k]? = some v → w.cell? ⟨b, off + k, none⟩ = some v)
theorem SlV.len {w : World} {B n c : Nat} {A : Option Addr} {vs : List Value} (h : SlV w B A n c vs) : n = vs.length := h.1
theorem SlV.cap {w : World} {B n c : Nat} {A : Option Addr} {vs : List Value} (h : SlV w B A n c vs) : n ≤ c := h.2.1
theorem SlV.max {w : World} {B n c : Nat} {A : Option Addr} {vs : List Value} (h : SlV w B A n c vs) : c ≤ 9223372036854775807 := h.2.2.1
theorem SlV.below {w w' : World} {B n c : Nat} {A : Option Addr} {vs : List Value} (h : SlV w B A n c vs) (hb : Below B w w') : SlV w' B A n c vs := ⟨h.1, h.2.1, h.2.2.1, fun hn => by
 obtain ⟨b, off, e, hlt, hc⟩ := h.2.2.2 hn
 exact ⟨b, off, e, hlt, fun k x hx => (hb.cell (p := ⟨b, off + k, none⟩) hlt).trans (hc k x hx)⟩⟩
theorem SlV.more {w : World} {B B' n c : Nat} {A : Option Addr} {vs : List Value} (h : SlV w B A n c vs) (hB : B ≤ B') : SlV w B' A n c vs := ⟨h.1, h.2.1, h.2.2.1, fun hn => by
 obtain ⟨b, off, e, hlt, hc⟩ := h.2.2.2 hn
 exact ⟨b, off, e, Nat.lt_of_lt_of_le hlt hB, hc⟩⟩
theorem SlV.later {w w' : World} {B n c : Nat} {A : Option Addr} {vs : List Value} (h : SlV w w.heap.size A n c vs) (hb : Below w.heap.size w w') (hB : w'.heap.size ≤ B) : SlV w' B A n c vs := (h.below hb).more (Nat.le_trans hb.size hB)
theorem SlV.at_ {w : World} {B n c : Nat} {A : Option Addr} {vs : List Value} (h : SlV w B A n c vs) {k : Nat} (hk : k < n) :
  ∃ b off v, A = some ⟨b, off, none⟩ ∧ b < B ∧ vs[k]? = some v ∧ w.cell? ⟨b, off + k, none⟩ = some v := by
 have hl := h.1
 obtain ⟨b, off, e, hlt, hc⟩ := h.2.2.2 (by intro e; subst e; simp at hl; omega)
 exact ⟨b, off, vs[k]'(by omega), e, hlt, List.getElem?_eq_getElem (by omega), hc k _ (List.getElem?_eq_getElem (by omega))⟩
theorem SlV.nil (w : World) (B : Nat) (A : Option Addr) {c : Nat} (h : c ≤ 9223372036854775807) : SlV w B A 0 c [] := ⟨rfl, Nat.zero_le _, h, fun h => absurd rfl h⟩
theorem SlV.take {w : World} {B n c : Nat} {A : Option Addr} {vs : List Value} (h : SlV w B A n c vs) {k : Nat} (hk : k ≤ n) : SlV w B A k c (vs.take k) :=
 ⟨by rw [List.length_take]; have := h.1; omega, by have := h.2.1; omega, h.2.2.1, fun hn => by
  obtain ⟨b, off, e, hlt, hc⟩ := h.2.2.2 (fun e => hn (by rw [e]; simp))
  refine ⟨b, off, e, hlt, fun k x hx => hc k x ?_⟩
  rw [List.getElem?_take] at hx
  split at hx
  ·exact hx
  ·cases hx⟩
theorem SlV.drop {w : World} {B n c b off : Nat} {vs : List Value} (h : SlV w B (some ⟨b, off, none⟩) n c vs) {k : Nat} (hk : k ≤ n) : SlV w B (some ⟨b, off + k, none⟩) (n - k) (c - k) (vs.drop k) :=
 ⟨by rw [List.length_drop]; have := h.1; omega, by have := h.2.1; omega, by have := h.2.2.1; omega, fun hn => by
  obtain ⟨b', off', e, hlt, hc⟩ := h.2.2.2 (fun e => hn (by rw [e]; simp))
  injection e with e
  injection e with e1 e2
  subst e1 e2
  refine ⟨b, off + k, rfl, hlt, fun j x hx => ?_⟩
  rw [List.getElem?_drop] at hx
  have := hc (k + j) x hx
  rwa [← Nat.add_assoc] at this⟩
theorem RowV.sl {t : TypeId} {w : World} {g : Nat} {vs : List Value} (h : RowV t w g vs) (hz : vs.length ≤ 9223372036854775807) : SlV w w.heap.size (some ⟨g, 0, none⟩) vs.length vs.length vs :=
 ⟨rfl, Nat.le_refl _, hz, fun _ => ⟨g, 0, rfl, h.lt, fun k v hv => by rw [Nat.zero_add]; exact h.at_ hv⟩⟩
structure Elem (P : Program) (t e : TypeId) (z : Value) (by_ : Nat) : Prop where
 sl : P.underlying t = some (.slice e)
 info : (P.info? e).map (fun i => (i.zero, i.size, i.bytes)) = some (some z, 1, by_)
 one : z.cells = #[z]
 oc : z.oneCell' = true
 b8 : by_ ≤ 8
theorem SlV.of_own {w : World} {base : Nat} {e : TypeId} {v : Value} {n : Nat} {vs : List Value} (h : w.ownsRow base e 1 v n vs) :
  ∃ A c, v = .slice A n c ∧ SlV w w.heap.size A n c vs ∧ (∀ b off s, A = some ⟨b, off, s⟩ → base ≤ b) ∧ (A = none → n = 0) := by
 have hl : vs.length = n := by simpa using h.1
 rcases h.2 with ⟨rfl, rfl⟩ | ⟨g, cap, cur, rfl, hbase, hh, hnc, hcm, _, _⟩
 ·obtain rfl : vs = [] := List.eq_nil_of_length_eq_zero hl
  exact ⟨none, 0, rfl, SlV.nil _ _ _ (by omega), fun _ _ _ h => (by cases h), fun _ => rfl⟩
 ·subst hl
  refine ⟨some ⟨g, 0, none⟩, cap, rfl, ⟨rfl, hnc, by simpa [maxLen] using hcm, fun _ => ⟨g, 0, rfl, (Array.getElem?_eq_some_iff.1 hh).1, fun k v hv => ?_⟩⟩, fun b off s hh => by injection hh with hh; injection hh with h1 _; omega, fun h => by cases h⟩
  have hc := h.cells (g := g) rfl k v (by simpa using hv)
  rw [Addr.add_lit] at hc
  exact hc
section
variable {P : Program} {t e : TypeId} {z : Value} {sz : Nat} {w : World} {ops : Array Oper} {rest : List Oper} {o : Oper} {a : Act} {Q : Exit → Act → World → Prop}
theorem wlv_append (E : Elem P t e z sz) (hgd : o.guard = none) (s x : Operand)
  (ho : o.op = .call { callee := .builtin .append, args := #[s, x], argTypes := #[t, t] })
  (base : Nat) (v : Value) (k : Nat) (ys : List Value) (hs : a.eval s = v) (hown : w.ownsRow base e 1 v k ys) (A : Option Addr) (m c : Nat) (xs : List Value) (hx : a.eval x = .slice A m c) (hnil : A = none → c = 0) (B : Nat) (hsl : SlV w B A m c xs) (h1 : Ones xs)
  (hk : k + m ≤ 17592186044416) (hbase : base ≤ w.heap.size)
  (h : ∀ v' w', w'.ownsRow base e 1 v' (k + m) (ys ++ xs) → w.grownBy w' v.ownBlock → wpList P ops Q rest (a.put o.dst v') w') : wpList P ops Q (o :: rest) a w := by
 obtain ⟨i0, hi, hz0, hz1, hz2⟩ := info_parts E.info
 have hm := hsl.len
 cases A with
 | none =>
  have hm0 : xs = [] := by
   apply Classical.byContradiction
   intro hn
   obtain ⟨b, off, e, _⟩ := hsl.2.2.2 hn
   cases e
  subst hm0
  obtain rfl : m = 0 := hm
  obtain rfl := hnil rfl
  refine wpList_append_own_none hgd s x t ho base e i0 1 E.sl hi v k ys hs hown hx ?_
  exact h v w (by simpa using hown) ⟨rfl, rfl, rfl, Nat.le_refl _, fun _ _ _ => rfl⟩
 | some ad =>
  have hc : ∀ j u, xs[j]? = some u → w.cell? (ad.add j) = some u := fun j u hu => by
   obtain ⟨b, off, e, _, hc⟩ := hsl.2.2.2 (by intro e; subst e; simp at hu)
   injection e with e
   subst e
   rw [Addr.add_lit]
   exact hc j u hu
  have hb : (k + m) * sz ≤ 140737488355328 := Nat.le_trans (Nat.mul_le_mul hk E.b8) (by decide)
  refine wpList_append_own (w := w) hgd s x t ho base e i0 z 1 sz E.sl hi hz0 hz1 hz2 (by rw [E.one]; rfl) (by decide) v k ys hs hown ad m c xs hx (by omega) hc h1 (by simp only [maxLen]; omega) hb hbase ?_
  intro v' w' hown' hg _
  exact h v' w' hown' hg
end
end Go.Proofs.YtbejcollbkeedaaGreat
namespace Go.Proofs.YtbejcollbkeedaaGreat
open Go.RowKit Go.Shelf
theorem wpAnyIn_inv {F : Fence} {n : Nat} {P : Program} {ops : Array Oper} {Q : Exit → Act → World → Prop} {md : Region.Mode} (Inv : Array Bool → Act → World → Prop)
  (hstep : ∀ L a w, Inv L a w → ∀ i ∈ Region.ready md ops L, wpOpIn F n P ops Q i (fun a' w' => Inv (L.setIfInBounds i true) a' w') a w)
  (hend : ∀ L a w, Inv L a w → Region.ready md ops L = [] → Q .normal a w) (hfuel : ∀ L a w, Inv L a w → L.size = ops.size) :
  ∀ (fuel : Nat) (L : Array Bool) (a : Act) (w : World), Inv L a w → (L.toList.count false ≤ fuel) → wpAnyIn F n P md ops Q fuel L a w := by
 intro fuel
 induction fuel with
 | zero =>
  intro L a w h hc
  have hr : Region.ready md ops L = [] := by
   rw [List.eq_nil_iff_forall_not_mem]
   intro i hi
   obtain ⟨h1, o, ho, _⟩ := mem_ready.1 hi
   have hi' : i < L.size := by rw [hfuel L a w h]; exact (Array.getElem?_eq_some_iff.1 ho).1
   have : false ∈ L.toList := by
    rw [Array.getD_eq_getD_getElem?, Array.getElem?_eq_getElem hi'] at h1
    simp at h1
    rw [← h1]
    exact Array.getElem_mem_toList ..
   have := List.count_pos_iff.2 this
   omega
  exact ⟨hr, hend L a w h hr⟩
 | succ fuel ih =>
  intro L a w h hc
  refine ⟨hend L a w h, fun i hi => wpOpIn_mono (fun a' w' h' => ih _ _ _ h' ?_) (hstep L a w h i hi)⟩
  obtain ⟨h1, o, ho, _⟩ := mem_ready.1 hi
  have hi' : i < L.size := by rw [hfuel L a w h]; exact (Array.getElem?_eq_some_iff.1 ho).1
  have hf : L[i] = false := by
   rw [Array.getD_eq_getD_getElem?, Array.getElem?_eq_getElem hi'] at h1
   simpa using h1
  have e : (L.setIfInBounds i true).toList = L.toList.set i true := by simp
  rw [e, List.count_set (by simpa using hi')]
  have hct : List.count false L.toList = L.count false := Array.count_toList
  simp [hf]
  omega
def wrote (ops : Array Oper) (vals : Nat → Value) (L : Array Bool) (t0 : Array Value) : Nat → Array Value
 | 0 => t0
 | k + 1 => if L.getD k false then ({ tmps := wrote ops vals L t0 k, defers := [] } : Act).put ((ops[k]?).bind (·.dst)) (vals k) |>.tmps else wrote ops vals L t0 k
def Distinct (ops : Array Oper) : Prop := ∀ (i j : Nat) (oi oj : Oper) (d : Tmp), ops[i]? = some oi → ops[j]? = some oj → oi.dst = some d → oj.dst = some d → i = j
theorem wrote_set (ops : Array Oper) (vals : Nat → Value) (L : Array Bool) (t0 : Array Value) (hd : Distinct ops) {i : Nat} {oi : Oper} (hoi : ops[i]? = some oi) (hL : i < L.size) (hf : L.getD i false = false) :
  ∀ k, wrote ops vals (L.setIfInBounds i true) t0 k = if i < k then (({ tmps := wrote ops vals L t0 k, defers := [] } : Act).put oi.dst (vals i)).tmps else wrote ops vals L t0 k := by
 intro k
 induction k with
 | zero => simp [wrote]
 | succ k ih =>
  simp only [wrote]
  by_cases hk : k = i
  ·subst hk
   have : (L.setIfInBounds k true).getD k false = true := by simp [Array.getD_eq_getD_getElem?, hL]
   rw [if_pos this, if_pos (show k < k + 1 from Nat.lt_succ_self k), ih, if_neg (Nat.lt_irrefl k), hf, hoi]
   simp
  ·have e : (L.setIfInBounds i true).getD k false = L.getD k false := by
    simp only [Array.getD_eq_getD_getElem?]
    rw [Array.getElem?_setIfInBounds_ne (by omega)]
   rw [e, ih]
   by_cases hik : i < k
   ·rw [if_pos hik, if_pos (show i < k + 1 by omega)]
    by_cases hLk : L.getD k false = true
    ·simp only [hLk, if_true]
     cases hok : ops[k]? with
     | none => rfl
     | some ok =>
      simp only [Option.bind_some]
      unfold Act.put
      cases hdk : ok.dst with
      | none => rfl
      | some dk =>
       cases hdi : oi.dst with
       | none => rfl
       | some di =>
        have hne : di ≠ dk := fun e => hk (hd k i ok oi dk hok hoi hdk (by rw [hdi, e]))
        simp only
        exact Array.setIfInBounds_comm _ _ hne
    ·have hLk' : L.getD k false = false := by simpa using hLk
     simp only [hLk', Bool.false_eq_true, if_false]
   ·rw [if_neg hik, if_neg (show ¬ i < k + 1 by omega)]
theorem put_getD_ne (a : Act) (dst : Option Tmp) (v : Value) (t : Tmp) (h : dst ≠ some t) : (a.put dst v).tmps.getD t undef = a.tmps.getD t undef := by
 unfold Act.put
 cases dst with
 | none => rfl
 | some d =>
  have : d ≠ t := fun e => h (by rw [e])
  simp only [Array.getD_eq_getD_getElem?]
  rw [Array.getElem?_setIfInBounds_ne this]
theorem wrote_size (ops : Array Oper) (vals : Nat → Value) (L : Array Bool) (t0 : Array Value) : ∀ k, (wrote ops vals L t0 k).size = t0.size := by
 intro k
 induction k with
 | zero => rfl
 | succ k ih =>
  simp only [wrote]
  split
  ·unfold Act.put
   cases (ops[k]?).bind (·.dst) <;> simp [ih]
  ·exact ih
theorem wrote_old (ops : Array Oper) (vals : Nat → Value) (L : Array Bool) (t0 : Array Value) (t : Tmp) (h : ∀ (i : Nat) (oi : Oper), ops[i]? = some oi → oi.dst ≠ some t) : ∀ k, (wrote ops vals L t0 k).getD t undef = t0.getD t undef := by
 intro k
 induction k with
 | zero => rfl
 | succ k ih =>
  simp only [wrote]
  split
  ·rw [put_getD_ne, ih]
   intro e
   obtain ⟨o, ho, e'⟩ := Option.bind_eq_some_iff.1 e
   exact h k o ho e'
  ·exact ih
theorem wrote_new (ops : Array Oper) (vals : Nat → Value) (L : Array Bool) (t0 : Array Value) (hd : Distinct ops) {j : Nat} {oj : Oper} {t : Tmp} (hj : ops[j]? = some oj) (hjt : oj.dst = some t) (hL : L.getD j false = true) (ht : t < t0.size) :
  ∀ k, j < k → (wrote ops vals L t0 k).getD t undef = vals j := by
 intro k
 induction k with
 | zero => intro h; omega
 | succ k ih =>
  intro h
  simp only [wrote]
  by_cases hk : k = j
  ·subst hk
   rw [if_pos hL, hj]
   simp only [Option.bind_some, hjt, Act.put]
   have := wrote_size ops vals L t0 k
   simp [Array.getD_eq_getD_getElem?, this, ht]
  ·by_cases hLk : L.getD k false = true
   ·rw [if_pos hLk, put_getD_ne, ih (by omega)]
    intro e
    obtain ⟨o, ho, e'⟩ := Option.bind_eq_some_iff.1 e
    exact hk (hd k j o oj t ho hj e' hjt)
   ·rw [if_neg hLk]
    exact ih (by omega)
theorem wpIn_region_inv {F : Fence} {n : Nat} {P : Program} {id : Nat} {ops : Array Oper} {Q : Exit → Act → World → Prop} {a : Act} {w : World} (hm : P.follows .mixedOrders = true) (hd : Distinct ops)
  (vals : Nat → Value) (wor : Array Bool → World) (hw0 : ∃ q, { w with drawn := w.drawn + 1 } = (wor (Array.replicate ops.size false)).drewN q)
  (hstep : ∀ (L : Array Bool) (a' : Act), L.size = ops.size → a'.defers = a.defers → (∀ (j : Nat) (oj : Oper), ops[j]? = some oj → L.getD j false = true → ∀ e ∈ oj.after, Region.binds .any e = true → L.getD e.on false = true) →
   (∀ t, (∀ (i : Nat) (oi : Oper), ops[i]? = some oi → oi.dst ≠ some t) → a'.tmps.getD t undef = a.tmps.getD t undef) →
   (∀ (j : Nat) (oj : Oper) t, ops[j]? = some oj → oj.dst = some t → L.getD j false = true → t < a.tmps.size → a'.tmps.getD t undef = vals j) →
   ∀ i ∈ Region.ready .any ops L, ∀ oi, ops[i]? = some oi → ∀ (q0 : Nat) (K : Act → World → Prop), (∀ q, K (a'.put oi.dst (vals i)) ((wor (L.setIfInBounds i true)).drewN q)) → wpOpIn F n P ops Q i K a' ((wor L).drewN q0))
  (hend : ∀ (L : Array Bool) (q : Nat), (∀ i, i < ops.size → L.getD i false = true) → Q .normal { tmps := wrote ops vals (Array.replicate ops.size true) a.tmps ops.size, defers := a.defers } ((wor L).drewN q))
  (hacyc : ∀ L : Array Bool, L.size = ops.size → Region.ready .any ops L = [] → ∀ i, i < ops.size → L.getD i false = true) : (Code.region id ops true).wpIn F n P Q a w := by
 refine wpIn_region_any hm ?_
 obtain ⟨q0, hq0⟩ := hw0
 rw [hq0]
 refine wpAnyIn_inv (fun L a' w' => (L.size = ops.size ∧ ∀ (j : Nat) (oj : Oper), ops[j]? = some oj → L.getD j false = true → ∀ e ∈ oj.after, Region.binds .any e = true → L.getD e.on false = true) ∧ a' = { tmps := wrote ops vals L a.tmps ops.size, defers := a.defers } ∧ ∃ q, w' = (wor L).drewN q) ?_ ?_ (fun L a w h => h.1.1) _ _ _ _ ⟨⟨by simp, ?_⟩, ?_, ⟨_, rfl⟩⟩ ?_
 ·rintro L a' w' ⟨⟨hs, hcl⟩, rfl, q, rfl⟩ i hi
  obtain ⟨h1, o, ho, hdep⟩ := mem_ready.1 hi
  have hi' : i < L.size := by rw [hs]; exact (Array.getElem?_eq_some_iff.1 ho).1
  have hf : L.getD i false = false := by
   rw [Array.getD_eq_getD_getElem?, Array.getElem?_eq_getElem hi'] at h1 ⊢
   simpa using h1
  refine hstep L { tmps := wrote ops vals L a.tmps ops.size, defers := a.defers } hs rfl hcl (fun t ht => wrote_old ops vals L a.tmps t ht _) (fun j oj t hj hjt hL ht => wrote_new ops vals L a.tmps hd hj hjt hL ht _ (Array.getElem?_eq_some_iff.1 hj).1) i hi o ho _ _ fun q' => ⟨⟨by simp [hs], ?_⟩, ?_, ⟨q', rfl⟩⟩
  ·have hmono : ∀ t, L.getD t false = true → (L.setIfInBounds i true).getD t false = true := by
    intro t ht
    by_cases e : t = i
    ·subst e; simp [Array.getD_eq_getD_getElem?, hi']
    ·simp only [Array.getD_eq_getD_getElem?] at ht ⊢
     rw [Array.getElem?_setIfInBounds_ne (fun h => e h.symm)]; exact ht
   intro j oj hj hLj e he hb
   by_cases hji : j = i
   ·subst hji
    obtain rfl : o = oj := Option.some.inj (ho.symm.trans hj)
    exact hmono _ (hdep e he hb)
   ·refine hmono _ (hcl j oj hj ?_ e he hb)
    simp only [Array.getD_eq_getD_getElem?] at hLj ⊢
    rw [Array.getElem?_setIfInBounds_ne (fun h => hji h.symm)] at hLj
    exact hLj
  rw [wrote_set ops vals L a.tmps hd ho hi' hf, if_pos (by rw [← hs]; exact hi')]
  unfold Act.put
  cases o.dst <;> rfl
 ·rintro L a' w' ⟨⟨hs, _⟩, rfl, q, rfl⟩ hr
  have hall := hacyc L hs hr
  have e : L = Array.replicate ops.size true := by
   apply Array.ext
   ·simp [hs]
   ·intro i h1 h2
    have := hall i (by omega)
    rw [Array.getD_eq_getD_getElem?, Array.getElem?_eq_getElem h1] at this
    simpa using this
  have h := hend L q hall
  rw [e] at h ⊢
  exact h
 ·intro j oj _ hLj
  exfalso
  rw [Array.getD_eq_getD_getElem?, Array.getElem?_replicate] at hLj
  split at hLj <;> simp at hLj
 ·have : ∀ k, wrote ops vals (Array.replicate ops.size false) a.tmps k = a.tmps := by
   intro k
   induction k with
   | zero => rfl
   | succ k ih =>
    simp only [wrote]
    rw [if_neg (by rw [Array.getD_eq_getD_getElem?, Array.getElem?_replicate]; split <;> simp)]
    exact ih
  rw [this]
 ·simp
theorem in_value {F : Fence} {n : Nat} {P : Program} {ops : Array Oper} {Q : Exit → Act → World → Prop} {i : Nat} {o : Oper} {K : Act → World → Prop} {a : Act} {w w' : World} {v : Value} (ho : ops[i]? = some o) (hg : o.guard = none) (hdf : ∀ c, o.op ≠ .defer c)
  (hab : ∀ f, o.about P w a.eval = some f → F.fn f) (hrun : (execOp a.eval o).run P w = .ok (.value v) w') (h : K (a.put o.dst v) w') : wpOpIn F n P ops Q i K a w := by
 unfold wpOpIn
 simp only [ho, Region.wanted, hg, if_true]
 refine ⟨hab, ?_⟩
 rw [Oper.semAt_plain F _ _ hdf, hrun]
 exact h
theorem in_skip {F : Fence} {n : Nat} {P : Program} {ops : Array Oper} {Q : Exit → Act → World → Prop} {i : Nat} {o : Oper} {K : Act → World → Prop} {a : Act} {w w' : World} (ho : ops[i]? = some o) (hg : o.guard = none) (hdf : ∀ c, o.op ≠ .defer c)
  (hab : ∀ f, o.about P w a.eval = some f → F.fn f) (hrun : (execOp a.eval o).run P w = .ok .skip w') (h : K (a.put o.dst undef) w') : wpOpIn F n P ops Q i K a w := by
 unfold wpOpIn
 simp only [ho, Region.wanted, hg, if_true]
 refine ⟨hab, ?_⟩
 rw [Oper.semAt_plain F _ _ hdf, hrun]
 exact h
theorem in_call {F : Fence} {n : Nat} {P : Program} {ops : Array Oper} {Q : Exit → Act → World → Prop} {i : Nat} {o : Oper} {K : Act → World → Prop} {a : Act} {w : World} {v : Value} {f : FuncId} {args : Array Value} (ho : ops[i]? = some o) (hg : o.guard = none) (hdf : ∀ c, o.op ≠ .defer c) (hF : F.depth = none)
  (hab : ∀ f, o.about P w a.eval = some f → F.fn f) (hrun : (execOp a.eval o).run P w = .ok (.enter f args) w) (hc : CallsIn F (n - 1) P f args w fun e w' => e = .returned v ∧ ∃ q, w' = w.drewN q) (h : ∀ q, K (a.put o.dst v) (w.drewN q)) : wpOpIn F n P ops Q i K a w := by
 unfold wpOpIn
 simp only [ho, Region.wanted, hg, if_true]
 refine ⟨hab, ?_⟩
 rw [Oper.semAt_plain F _ _ hdf, hrun]
 refine ⟨(fun h => by (rw [hF] at h; cases h)), hc.mono ?_⟩
 rintro e w' ⟨rfl, q, rfl⟩
 exact h q
def distinctB (ops : Array Oper) : Bool := (List.range ops.size).all fun i => (List.range ops.size).all fun j => i == j || match (ops[i]?).bind (·.dst), (ops[j]?).bind (·.dst) with | some a, some b => a != b | _, _ => true
theorem distinct_of {ops : Array Oper} (h : distinctB ops = true) : Distinct ops := by
 intro i j oi oj d hi hj hdi hdj
 simp only [distinctB, List.all_eq_true, List.mem_range] at h
 have := h i (Array.getElem?_eq_some_iff.1 hi).1 j (Array.getElem?_eq_some_iff.1 hj).1
 simp only [hi, hj, Option.bind_some, hdi, hdj, bne_self_eq_false, Bool.or_false, beq_iff_eq] at this
 exact this
def freeB (ops : Array Oper) (t : Tmp) : Bool := ops.all fun o => o.dst != some t
theorem free_of {ops : Array Oper} {t : Tmp} (h : freeB ops t = true) : ∀ (i : Nat) (oi : Oper), ops[i]? = some oi → oi.dst ≠ some t := by
 intro i oi hi e
 have h' := Array.all_eq_true.1 h i (Array.getElem?_eq_some_iff.1 hi).1
 rw [(Array.getElem?_eq_some_iff.1 hi).2, e] at h'
 simp at h'
def orderedB (ops : Array Oper) : Bool := (List.range ops.size).all fun i => match ops[i]? with | some o => o.after.all fun e => !Region.binds .any e || decide (e.on < i) | none => true
theorem acyclic_of {ops : Array Oper} (h : orderedB ops = true) (L : Array Bool) (hs : L.size = ops.size) (hr : Region.ready .any ops L = []) : ∀ i, i < ops.size → L.getD i false = true := by
 intro i
 induction i using Nat.strongRecOn with
 | _ i ih =>
  intro hi
  apply Classical.byContradiction
  intro hne
  have hf : L.getD i false = false := by simpa using hne
  have : i ∈ Region.ready .any ops L := by
   refine mem_ready.2 ⟨?_, ops[i], Array.getElem?_eq_getElem hi, fun e he hb => ?_⟩
   ·have hi' : i < L.size := by omega
    rw [Array.getD_eq_getD_getElem?, Array.getElem?_eq_getElem hi'] at hf ⊢
    simpa using hf
   ·simp only [orderedB, List.all_eq_true, List.mem_range] at h
    have h1 := h i hi
    rw [Array.getElem?_eq_getElem hi] at h1
    simp only [Array.all_eq_true'] at h1
    have h2 := h1 e he
    simp only [hb, Bool.not_true, Bool.false_or, decide_eq_true_eq] at h2
    exact ih e.on h2 (by omega)
  rw [hr] at this
  cases this
theorem getD_set_other (L : Array Bool) {i j : Nat} (h : i ≠ j) : (L.setIfInBounds i true).getD j false = L.getD j false := by
 simp only [Array.getD_eq_getD_getElem?]
 rw [Array.getElem?_setIfInBounds_ne h]
theorem getD_set_self (L : Array Bool) {i : Nat} (h : i < L.size) : (L.setIfInBounds i true).getD i false = true := by
 simp [Array.getD_eq_getD_getElem?, h]
theorem unlisted {L : Array Bool} {i : Nat} (h : L.getD i true = false) : L.getD i false = false := by
 rcases Nat.lt_or_ge i L.size with h' | h'
 ·rw [Array.getD_eq_getD_getElem?, Array.getElem?_eq_getElem h'] at h ⊢
  simpa using h
 ·rw [Array.getD_eq_getD_getElem?, Array.getElem?_eq_none h']; rfl
def wor2 (w : World) (i j : Nat) (p q : Addr) (u v : Value) (L : Array Bool) : World :=
 if L.getD j false then (w.setCell p u).setCell q v else if L.getD i false then w.setCell p u else w
theorem wor2_other {w : World} {i j : Nat} {p q : Addr} {u v : Value} (L : Array Bool) {k : Nat} (h1 : k ≠ i) (h2 : k ≠ j) : wor2 w i j p q u v (L.setIfInBounds k true) = wor2 w i j p q u v L := by
 unfold wor2
 rw [getD_set_other L h1, getD_set_other L h2]
theorem wor2_none {w : World} {i j : Nat} {p q : Addr} {u v : Value} {L : Array Bool} (h1 : L.getD i false = false) (h2 : L.getD j false = false) : wor2 w i j p q u v L = w := by
 unfold wor2; rw [h1, h2]; rfl
theorem wor2_first {w : World} {i j : Nat} {p q : Addr} {u v : Value} {L : Array Bool} (h1 : L.getD i false = true) (h2 : L.getD j false = false) : wor2 w i j p q u v L = w.setCell p u := by
 unfold wor2; rw [h1, h2]; rfl
theorem wor2_both {w : World} {i j : Nat} {p q : Addr} {u v : Value} {L : Array Bool} (h2 : L.getD j false = true) : wor2 w i j p q u v L = (w.setCell p u).setCell q v := by
 unfold wor2; rw [h2]; rfl
theorem wor2_cell {w : World} {i j : Nat} {p q : Addr} {u v : Value} (L : Array Bool) {a : Addr} (h1 : p ≠ a) (h2 : q ≠ a) : (wor2 w i j p q u v L).cell? a = w.cell? a := by
 unfold wor2
 split
 ·rw [World.cell?_setCell_other _ _ _ _ h2, World.cell?_setCell_other _ _ _ _ h1]
 ·split
  ·rw [World.cell?_setCell_other _ _ _ _ h1]
  ·rfl
theorem in_call_any {F : Fence} {n : Nat} {P : Program} {ops : Array Oper} {Q : Exit → Act → World → Prop} {i : Nat} {o : Oper} {K : Act → World → Prop} {a : Act} {w : World} {f : FuncId} {args : Array Value} (ho : ops[i]? = some o) (hg : o.guard = none) (hdf : ∀ c, o.op ≠ .defer c) (hF : F.depth = none)
  (hab : ∀ f, o.about P w a.eval = some f → F.fn f) (hrun : (execOp a.eval o).run P w = .ok (.enter f args) w) (hc : CallsIn F (n - 1) P f args w fun e w' => ∃ v, e = .returned v ∧ K (a.put o.dst v) w') : wpOpIn F n P ops Q i K a w := by
 unfold wpOpIn
 simp only [ho, Region.wanted, hg, if_true]
 refine ⟨hab, ?_⟩
 rw [Oper.semAt_plain F _ _ hdf, hrun]
 refine ⟨(fun h => by (rw [hF] at h; cases h)), hc.mono ?_⟩
 rintro e w' ⟨v, rfl, h⟩
 exact h
section
variable {F : Fence} {n : Nat} {P : Program} {md : Region.Mode} {ops : Array Oper} {Q : Exit → Act → World → Prop} {fuel : Nat} {L : Array Bool} {a : Act} {w : World}
theorem any0 (hr : Region.ready md ops L = []) (h : Q .normal a w) : wpAnyIn F n P md ops Q 0 L a w := ⟨hr, h⟩
theorem any1 {i : Nat} (hr : Region.ready md ops L = [i]) (h : wpOpIn F n P ops Q i (wpAnyIn F n P md ops Q fuel (L.setIfInBounds i true)) a w) : wpAnyIn F n P md ops Q (fuel + 1) L a w :=
 ⟨(fun e => by (rw [hr] at e; cases e)), fun j hj => by (rw [hr] at hj; simp at hj; subst hj; exact h)⟩
theorem any2 {i j : Nat} (hr : Region.ready md ops L = [i, j]) (hi : wpOpIn F n P ops Q i (wpAnyIn F n P md ops Q fuel (L.setIfInBounds i true)) a w) (hj : wpOpIn F n P ops Q j (wpAnyIn F n P md ops Q fuel (L.setIfInBounds j true)) a w) : wpAnyIn F n P md ops Q (fuel + 1) L a w :=
 ⟨(fun e => by (rw [hr] at e; cases e)), fun k hk => by
  rw [hr] at hk
  simp at hk
  rcases hk with rfl | rfl
  ·exact hi
  ·exact hj⟩
end
end Go.Proofs.YtbejcollbkeedaaGreat
namespace Go.Proofs.YtbejcollbkeedaaGreat
open Go.RowKit Go.Shelf
theorem keeps_drewN {B : Nat} {W W' : World} (h : KeepsFrom B W W') (q : Nat) : KeepsFrom B W (W'.drewN q) := ⟨h.size, h.same⟩
theorem heap_new_row (w : World) (x : Nat) : Row (w.alloc (.cells #[.int .u64 (x : Int)] 63)) w.heap.size [x] := heap_alloc_new w _
theorem of_any (x : Nat) (hx : x < b64) (w : World) :
  Calls Tryz.prog 73 #[.int .u64 x] w fun e w' => RetN b64 w x e w' := by
 have hR := heap_new_row w x
 have hsl := hR.sl (by simp)
 have HX := hid hx
 clear hx
 go_enter Tryz.func73, Tryz.ntmps73
 go_wp2_with (go_at_call 74; refine (ltrim_sl _ _ _ _ _ [x] hsl).mono ?_; rintro e w1 ⟨m, rfl, h1, h2, rfl⟩)
 go_ret
 exact retN_trim h1 (fun y hy => by simp at hy; subst hy; exact HX.out) (by simp [V]) ((Below.refl _ _).alloc (Nat.le_refl _) _)
theorem Row.alloc {w : World} {g : Nat} {zs : List Nat} (h : Row w g zs) (o : Obj) : Row (w.alloc o) g zs := (Below.heap_alloc w o g h.lt).trans h
theorem row_kept {A B : World} {g : Nat} {zs : List Nat} {row : Option Nat} (h : Row A g zs) (hg : A.grownBy B row) (hr : ∀ r, row = some r → ∃ o, A.heap[r]? = some o ∧ o.isCells = false) : Row B g zs := by
 refine (hg.block g h.lt ?_).trans h
 intro e
 obtain ⟨o, ho, hc⟩ := hr g e.symm
 unfold Row at h
 rw [h] at ho
 cases ho
 cases hc
theorem of_exact (x : Nat) (w : World) :
  Calls Tryz.prog 73 #[.int .u64 x] w fun e w' => e = .returned (.slice (some ⟨w.heap.size, 0, none⟩) (trimL [x] 1) 1) ∧ w' = w.alloc (.cells #[.int .u64 (x : Int)] 63) := by
 have hR := heap_new_row w x
 have hsl := hR.sl (by simp)
 have ht := ltrim_any (w.alloc (.cells #[.int .u64 (x : Int)] 63)) _ _ _ _ [x] hsl
 obtain ⟨tl, htl⟩ : ∃ tl, trimL [x] 1 = tl := ⟨_, rfl⟩
 simp only [List.length_singleton] at ht
 rw [htl] at ht ⊢
 have HT := hid ht
 clear ht htl
 go_enter Tryz.func73, Tryz.ntmps73
 go_wp2_with (go_at_call 74; refine HT.out.mono ?_; rintro e w1 ⟨rfl, rfl⟩)
 go_ret
 exact ⟨rfl, rfl⟩
def sqStep (d : Nat) (xs : List Nat) (s : List Nat × Nat) (i : Nat) : List Nat × Nat :=
 (s.1.set i ((s.2 * b64 + xs[i]?.getD 0) / d), (s.2 * b64 + xs[i]?.getD 0) % d)
def sq (d : Nat) (xs : List Nat) (n : Nat) (l : List Nat) : List Nat × Nat := l.foldl (sqStep d xs) (List.replicate n 0, 0)
theorem sq_snoc (d : Nat) (xs : List Nat) (n : Nat) (l : List Nat) (i : Nat) : sq d xs n (l ++ [i]) = sqStep d xs (sq d xs n l) i := by simp [sq]
attribute [local go_sem] Oper.semAt_some
theorem shortQuo_any (w : World) (B : Nat) (hB : B = w.heap.size) (A : Option Addr) (n c : Nat) (xs : List Nat) (hs : Sl w B A n c xs) (hd : Dg b64 xs) (h1 : n ≤ 17592186044416) (d : Nat) (hd0 : 0 < d) (hdl : d < b64)
  (Ok : Nat → Prop) (hOk0 : Ok 0) (hOk : ∀ r x, Ok r → x < b64 → 1 < n → Ok ((r * b64 + x) % d))
  (hdiv : ∀ (r x : Nat) (W : World), Ok r → x < b64 → Calls Tryz.prog 111 #[.int .u64 r, .int .u64 x, .int .u64 d] W fun e W' => e = .returned (.tuple #[.int .u64 (((r * b64 + x) / d : Nat) : Int), .int .u64 (((r * b64 + x) % d : Nat) : Int)]) ∧ ∃ q, W' = W.drewN q) :
  Calls Tryz.prog 101 #[.slice A n c, .int .u64 d] w fun e w' =>
   ∃ A1 m1 c1 q A2 m2 c2 r, e = .returned (.tuple #[.slice A1 m1 c1, .slice A2 m2 c2]) ∧ Sl w' w'.heap.size A1 m1 c1 q ∧ Sl w' w'.heap.size A2 m2 c2 r ∧ Below w.heap.size w w' ∧
    Nm b64 q (V b64 (sq d xs n (downL n n)).1) ∧ Nm b64 r (sq d xs n (downL n n)).2 := by
 subst hB
 refine (callsIn_wide (n := 9)).1 ?_
 refine callsIn_of_wp_marks Tryz.func101 rfl trivial ?_ rfl
 simp only [Tryz.ntmps101, List.size_toArray, List.length_cons, List.length_nil, Nat.reduceAdd, Nat.reduceSub, Array.replicate_succ, Array.replicate_zero, List.push_toArray, List.append_toArray, List.nil_append, List.cons_append]
 have hlc := hs.cap
 have hmx := hs.max
 obtain ⟨Z, hZ⟩ : ∃ Z : Array Value, Z = (List.map U (List.replicate n 0)).toArray := ⟨_, rfl⟩
 have HZ := hid hZ
 clear hZ
 gi_wp2_with (gi_at_make; refine wl_make_in rfl _ _ Tryz.underlying23 rfl _ n rfl rfl (by omega) Z HZ.out ?_)
 refine ⟨trivial, (back_in Fence.wide _ trivial rfl _ _ _ _).mono ?_⟩
 rintro e w1 ⟨rfl, rfl⟩
 gi_wp2_with fail
 have b1 := Boxed.new w 63 (.int .u64 (d : Int))
 have b2 := Boxed.new (w.alloc (.cells #[.int .u64 (d : Int)] 63)) 23 (.slice (some ⟨w.heap.size + 1 + 1, 0, none⟩) n n)
 have r3 : Row (((w.alloc (.cells #[.int .u64 (d : Int)] 63)).alloc (.cells #[.slice (some ⟨w.heap.size + 1 + 1, 0, none⟩) n n] 23)).alloc (.cells Z 63)) (w.heap.size + 1 + 1) (List.replicate n 0) := by
  have h := heap_alloc_new ((w.alloc (.cells #[.int .u64 (d : Int)] 63)).alloc (.cells #[.slice (some ⟨w.heap.size + 1 + 1, 0, none⟩) n n] 23)) (.cells Z 63)
  simp only [World.size_alloc] at h
  unfold Row
  rw [h, HZ.out]
 have b4 := Boxed.new (((w.alloc (.cells #[.int .u64 (d : Int)] 63)).alloc (.cells #[.slice (some ⟨w.heap.size + 1 + 1, 0, none⟩) n n] 23)).alloc (.cells Z 63)) 63 (.int .u64 0)
 have b5 := Boxed.new ((((w.alloc (.cells #[.int .u64 (d : Int)] 63)).alloc (.cells #[.slice (some ⟨w.heap.size + 1 + 1, 0, none⟩) n n] 23)).alloc (.cells Z 63)).alloc (.cells #[.int .u64 0] 63)) 23 (.slice A n c)
 have b1' := (((b1.alloc (.cells #[.slice (some ⟨w.heap.size + 1 + 1, 0, none⟩) n n] 23)).alloc (.cells Z 63)).alloc (.cells #[.int .u64 0] 63)).alloc (.cells #[.slice A n c] 23)
 have b2' := ((b2.alloc (.cells Z 63)).alloc (.cells #[.int .u64 0] 63)).alloc (.cells #[.slice A n c] 23)
 have r3' := (r3.alloc (.cells #[.int .u64 0] 63)).alloc (.cells #[.slice A n c] 23)
 have b4' := b4.alloc (.cells #[.slice A n c] 23)
 have hB0 : Below w.heap.size w (((((w.alloc (.cells #[.int .u64 (d : Int)] 63)).alloc (.cells #[.slice (some ⟨w.heap.size + 1 + 1, 0, none⟩) n n] 23)).alloc (.cells Z 63)).alloc (.cells #[.int .u64 0] 63)).alloc (.cells #[.slice A n c] 23)) :=
  (((((Below.refl _ w).alloc (Nat.le_refl _) _).alloc (by simp) _).alloc (by simp; omega) _).alloc (by simp; omega) _).alloc (by simp; omega) _
 obtain ⟨W0, hW0⟩ : ∃ W0, (((((w.alloc (.cells #[.int .u64 (d : Int)] 63)).alloc (.cells #[.slice (some ⟨w.heap.size + 1 + 1, 0, none⟩) n n] 23)).alloc (.cells Z 63)).alloc (.cells #[.int .u64 0] 63)).alloc (.cells #[.slice A n c] 23)) = W0 := ⟨_, rfl⟩
 have hsz : W0.heap.size = w.heap.size + 5 := by rw [← hW0]; simp
 rw [hW0] at b1' b2' r3' b4' b5 hB0 ⊢
 simp only [World.size_alloc] at b1' b2' r3' b4' b5
 have HSZ := hid hsz
 clear hsz hW0 b1 b2 r3 b4
 have hsx := hs.below hB0
 refine wpIn_rangeFunc_ownG rfl (by omega) (gf := 109) (lb := #[.pointer (some ⟨w.heap.size + 1 + 1 + 1 + 1, 0, none⟩)]) rfl trivial (enters_of Tryz.func109 (by kernel_rfl) rfl)
  (back_stops Fence.wide _ trivial rfl (by omega) (w.heap.size + 1 + 1 + 1 + 1) w.heap.size n c A xs W0 (by rw [HSZ.out]; omega) (by rw [HSZ.out]; omega) b5.cell hsx) KpB.trans (KpB.put (by rw [HSZ.out]; omega) (by rw [HSZ.out]; omega)) (Below.refl _ _) (fun _ => rfl)
  (fun pre W => (∃ zs r, sq d xs n (pre.map (·.1)) = (zs, r) ∧ zs.length = n ∧ Dg b64 zs ∧ r < d ∧ (pre.length < n → Ok r) ∧ Row W (w.heap.size + 1 + 1) zs ∧ W.cell? ⟨w.heap.size, 0, none⟩ = some (.int .u64 (d : Int)) ∧ W.cell? ⟨w.heap.size + 1, 0, none⟩ = some (.slice (some ⟨w.heap.size + 1 + 1, 0, none⟩) n n) ∧ W.frozen? ⟨w.heap.size + 1, 0, none⟩ = false ∧
   W.cell? ⟨w.heap.size + 1 + 1 + 1, 0, none⟩ = some (.int .u64 (r : Int)) ∧ W.frozen? ⟨w.heap.size + 1 + 1 + 1, 0, none⟩ = false) ∧ Below w.heap.size w W)
  (fun _ _ _ => False)
  (OwnFrom.and (Own.from (fun s A B row hs hg hr => by obtain ⟨zs, r, e1, e2, e3, e4, e5, e6, e7, e8, e9, e10, e11⟩ := hs; exact ⟨zs, r, e1, e2, e3, e4, e5, row_kept e6 hg hr, cell_kept e7 hg hr, cell_kept e8 hg hr, (frozen_kept e8 hg hr).trans e9, cell_kept e10 hg hr, (frozen_kept e10 hg hr).trans e11⟩) _) (ownFrom_below (Nat.le_refl _) (by rw [HSZ.out]; omega)))
  (fun _ _ _ _ _ hs _ _ => hs)
  ⟨⟨_, 0, rfl, by simp, dg_zeros b64_pos _, hd0, fun _ => hOk0, r3', b1'.cell, b2'.cell, b2'.frozen, b4'.cell, b4'.frozen⟩, hB0⟩
  (fun x => { tmps := #[.slice A n c, .int .u64 (d : Int), undef, .pointer (some ⟨w.heap.size, 0, none⟩), .pointer (some ⟨w.heap.size + 1, 0, none⟩), .slice none 0 0, .pointer (some ⟨w.heap.size + 1 + 1 + 1, 0, none⟩), .int .i64 (x.1 : Int), .int .u64 ((xs[x.1]?.getD 0 : Nat) : Int), .slice A n c, .int .i64 (n : Int), .slice (some ⟨w.heap.size + 1 + 1, 0, none⟩) n n, .slice A n c, .func (.func 109) #[] #[.pointer (some ⟨w.heap.size + 1 + 1 + 1 + 1, 0, none⟩)], .int .i64 (x.1 : Int), .int .u64 ((xs[x.1]?.getD 0 : Nat) : Int), undef, undef, undef, undef, undef, undef, undef, undef, undef, undef, undef, undef, undef, undef], defers := [] }) ?assign ?body ?done ?stop
 case assign =>
  intro l x W K hK
  gi_wp2
  exact hK
 case body =>
  rintro l pre x W ⟨⟨zs, r, e1, e2, e3, e4, e5, e6, e7, e8, e9, e10, e11⟩, hB⟩ hpl
  obtain ⟨i, hi⟩ := x
  obtain ⟨xv, hxv⟩ : ∃ xv, xs[i]? = some xv := get_lt (by rw [← hs.len]; exact hi)
  have hxl := hd.get hxv
  have HE1 := hid e1
  have HE2 := hid e2
  have HXV := hid hxv
  dsimp only
  rw [hxv]
  dsimp only [Option.getD_some]
  clear hxv e1 e2
  have hii : (i : Int) < n := by omega
  obtain ⟨old, hold⟩ := get_lt (zs := zs) (k := i) (by rw [HE2.out]; exact hi)
  have hcz := e6.at_ hold
  have hfz := e6.frozen
  clear hold
  have hok := e5 hpl
  obtain ⟨qv, hqv⟩ : ∃ qv, qv = (r * b64 + xv) / d := ⟨_, rfl⟩
  obtain ⟨rv, hrv⟩ : ∃ rv, rv = (r * b64 + xv) % d := ⟨_, rfl⟩
  have hdv : ∀ W : World, Calls Tryz.prog 111 #[.int .u64 r, .int .u64 xv, .int .u64 d] W fun e W' => e = .returned (.tuple #[.int .u64 (qv : Int), .int .u64 (rv : Int)]) ∧ ∃ q, W' = W.drewN q := by
   intro W; rw [hqv, hrv]; exact hdiv r xv W hok hxl
  have HDV := hid hdv
  have HQV := hid hqv
  have HRV := hid hrv
  clear hdv hqv hrv
  have hmx : Tryz.prog.follows .mixedOrders = true := by kernel_rfl
  gi_wp2
  have hgi : w.heap.size + 1 + 1 ≠ w.heap.size := by omega
  refine wpIn_region_inv hmx ?hd
   (fun j => [.slice (some ⟨w.heap.size + 1 + 1, 0, none⟩) n n, .int .i64 (i : Int), .int .u64 (r : Int), .int .u64 (xv : Int), .int .u64 (d : Int), .tuple #[.int .u64 (qv : Int), .int .u64 (rv : Int)], .tuple #[.int .u64 (qv : Int), .int .u64 (rv : Int)], .int .u64 (qv : Int), .int .u64 (rv : Int), .pointer (some ⟨w.heap.size + 1 + 1, i, none⟩)].getD j undef)
   (wor2 W 10 11 ⟨w.heap.size + 1 + 1, i, none⟩ ⟨w.heap.size + 1 + 1 + 1, 0, none⟩ (.int .u64 (qv : Int)) (.int .u64 (rv : Int))) ?hw0 ?hstep ?hend ?hac
  case hd => exact distinct_of (by kernel_rfl)
  case hw0 => exact ⟨1, by rw [wor2_none (by kernel_rfl) (by kernel_rfl)]; rfl⟩
  case hac => exact acyclic_of (by kernel_rfl)
  case hstep =>
   intro L a' hs hdf hcl hold hnew i' hi' oi hoi q0 K hK
   obtain ⟨hnl, o2, ho2, hdep⟩ := mem_ready.1 hi'
   obtain rfl : oi = o2 := Option.some.inj (hoi.symm.trans ho2)
   have hlt : i' < 12 := (Array.getElem?_eq_some_iff.1 hoi).1
   have t3 : a'.tmps.getD 3 undef = .pointer (some ⟨w.heap.size, 0, none⟩) := hold 3 (free_of (by kernel_rfl))
   have t4 : a'.tmps.getD 4 undef = .pointer (some ⟨w.heap.size + 1, 0, none⟩) := hold 4 (free_of (by kernel_rfl))
   have t6 : a'.tmps.getD 6 undef = .pointer (some ⟨w.heap.size + 1 + 1 + 1, 0, none⟩) := hold 6 (free_of (by kernel_rfl))
   have t7 : a'.tmps.getD 7 undef = .int .i64 (i : Int) := hold 7 (free_of (by kernel_rfl))
   have t8 : a'.tmps.getD 8 undef = .int .u64 (xv : Int) := hold 8 (free_of (by kernel_rfl))
   clear hold
   have w1 := (wor2_cell (w := W) (i := 10) (j := 11) (p := ⟨w.heap.size + 1 + 1, i, none⟩) (q := ⟨w.heap.size + 1 + 1 + 1, 0, none⟩) (u := .int .u64 (qv : Int)) (v := .int .u64 (rv : Int)) L (a := ⟨w.heap.size + 1, 0, none⟩) (by simp) (by simp)).trans e8
   have w2 := (wor2_cell (w := W) (i := 10) (j := 11) (p := ⟨w.heap.size + 1 + 1, i, none⟩) (q := ⟨w.heap.size + 1 + 1 + 1, 0, none⟩) (u := .int .u64 (qv : Int)) (v := .int .u64 (rv : Int)) L (a := ⟨w.heap.size, 0, none⟩) (by simp) (by simp)).trans e7
   obtain rfl | rfl | rfl | rfl | rfl | rfl | rfl | rfl | rfl | rfl | rfl | rfl : i' = 0 ∨ i' = 1 ∨ i' = 2 ∨ i' = 3 ∨ i' = 4 ∨ i' = 5 ∨ i' = 6 ∨ i' = 7 ∨ i' = 8 ∨ i' = 9 ∨ i' = 10 ∨ i' = 11 := by omega
   all_goals
    have hoi' := hoi
    simp only [List.getElem?_toArray, List.getElem?_cons_zero, List.getElem?_cons_succ, Option.some.injEq] at hoi'
    subst hoi'
   ·rw [wor2_other L (by decide) (by decide)] at hK
    refine in_value hoi rfl nofun (fun _ _ => trivial) ?_ (hK q0)
    simp [execOp, Act.eval, t4, w1, go_sem]
   ·rw [wor2_other L (by decide) (by decide)] at hK
    refine in_value hoi rfl nofun (fun _ _ => trivial) ?_ (hK q0)
    simp [execOp, Act.eval, t7]
   ·rw [wor2_other L (by decide) (by decide)] at hK
    have h11 : L.getD 11 false = false := by
     apply Classical.byContradiction
     intro h
     have h2 := hcl 11 _ rfl (by simpa using h) ⟨2, .phase⟩ (by simp) rfl
     rw [unlisted hnl] at h2
     cases h2
    have w3 : (wor2 W 10 11 ⟨w.heap.size + 1 + 1, i, none⟩ ⟨w.heap.size + 1 + 1 + 1, 0, none⟩ (.int .u64 (qv : Int)) (.int .u64 (rv : Int)) L).cell? ⟨w.heap.size + 1 + 1 + 1, 0, none⟩ = some (.int .u64 (r : Int)) := by
     unfold wor2
     rw [h11]
     simp only [Bool.false_eq_true, if_false]
     split
     ·rw [World.cell?_setCell_other _ _ _ _ (by simp)]; exact e10
     ·exact e10
    refine in_value hoi rfl nofun (fun _ _ => trivial) ?_ (hK q0)
    simp [execOp, Act.eval, t6, w3, go_sem]
   ·rw [wor2_other L (by decide) (by decide)] at hK
    refine in_value hoi rfl nofun (fun _ _ => trivial) ?_ (hK q0)
    simp [execOp, Act.eval, t8]
   ·rw [wor2_other L (by decide) (by decide)] at hK
    refine in_value hoi rfl nofun (fun _ _ => trivial) ?_ (hK q0)
    simp [execOp, Act.eval, t3, w2, go_sem]
   ·rw [wor2_other L (by decide) (by decide)] at hK
    have t19 : a'.tmps.getD 19 undef = .int .u64 (r : Int) := hnew 2 _ 19 rfl rfl (hdep ⟨2, .data⟩ (by simp) rfl) (by simp)
    have t20 : a'.tmps.getD 20 undef = .int .u64 (xv : Int) := hnew 3 _ 20 rfl rfl (hdep ⟨3, .data⟩ (by simp) rfl) (by simp)
    have t21 : a'.tmps.getD 21 undef = .int .u64 (d : Int) := hnew 4 _ 21 rfl rfl (hdep ⟨4, .data⟩ (by simp) rfl) (by simp)
    refine in_call (f := 111) (args := #[.int .u64 (r : Int), .int .u64 (xv : Int), .int .u64 (d : Int)]) hoi rfl nofun rfl (fun _ _ => trivial) ?_ (CallsIn.inRound l (callsIn_wide.2 (HDV.out _))) (fun q => by rw [World.drewN_drewN]; exact hK _)
    simp [execOp, Act.eval, t19, t20, t21, resolve, invoke, Deferred.ofValue]
   ·rw [wor2_other L (by decide) (by decide)] at hK
    have t22 : a'.tmps.getD 22 undef = .tuple #[.int .u64 (qv : Int), .int .u64 (rv : Int)] := hnew 5 _ 22 rfl rfl (hdep ⟨5, .data⟩ (by simp) rfl) (by simp)
    refine in_value hoi rfl nofun (fun _ _ => trivial) ?_ (hK q0)
    simp [execOp, Act.eval, t22]
   ·rw [wor2_other L (by decide) (by decide)] at hK
    have t16 : a'.tmps.getD 16 undef = .tuple #[.int .u64 (qv : Int), .int .u64 (rv : Int)] := hnew 6 _ 16 rfl rfl (hdep ⟨6, .data⟩ (by simp) rfl) (by simp)
    refine in_value hoi rfl nofun (fun _ _ => trivial) ?_ (hK q0)
    simp [execOp, Act.eval, t16, go_sem]
   ·rw [wor2_other L (by decide) (by decide)] at hK
    have t16 : a'.tmps.getD 16 undef = .tuple #[.int .u64 (qv : Int), .int .u64 (rv : Int)] := hnew 6 _ 16 rfl rfl (hdep ⟨6, .data⟩ (by simp) rfl) (by simp)
    refine in_value hoi rfl nofun (fun _ _ => trivial) ?_ (hK q0)
    simp [execOp, Act.eval, t16, go_sem]
   ·rw [wor2_other L (by decide) (by decide)] at hK
    have t17 : a'.tmps.getD 17 undef = .slice (some ⟨w.heap.size + 1 + 1, 0, none⟩) n n := hnew 0 _ 17 rfl rfl (hdep ⟨0, .data⟩ (by simp) rfl) (by simp)
    have t18 : a'.tmps.getD 18 undef = .int .i64 (i : Int) := hnew 1 _ 18 rfl rfl (hdep ⟨1, .data⟩ (by simp) rfl) (by simp)
    refine in_value hoi rfl nofun (fun _ _ => trivial) ?_ (hK q0)
    simp [execOp, Act.eval, t17, t18, go_sem, hii]
   ·have h10 := unlisted hnl
    have h11 : L.getD 11 false = false := by
     apply Classical.byContradiction
     intro h
     have h2 := hcl 11 _ rfl (by simpa using h) ⟨10, .chain⟩ (by simp) rfl
     rw [h10] at h2
     cases h2
    have t25 : a'.tmps.getD 25 undef = .pointer (some ⟨w.heap.size + 1 + 1, i, none⟩) := hnew 9 _ 25 rfl rfl (hdep ⟨9, .data⟩ (by simp) rfl) (by simp)
    have t23 : a'.tmps.getD 23 undef = .int .u64 (qv : Int) := hnew 7 _ 23 rfl rfl (hdep ⟨7, .data⟩ (by simp) rfl) (by simp)
    rw [wor2_first (getD_set_self L (by rw [hs]; decide)) (by rw [getD_set_other L (by decide)]; exact h11)] at hK
    rw [wor2_none h10 h11]
    have hcz' : W.cell? ⟨w.heap.size + 1 + 1, i, none⟩ = some (.int .u64 (old : Int)) := hcz
    have hfz' : W.frozen? ⟨w.heap.size + 1 + 1, i, none⟩ = false := hfz i
    refine in_skip hoi rfl nofun (fun _ _ => trivial) ?_ (hK q0)
    simp [execOp, Act.eval, t25, t23, go_sem, stored, hcz', hfz']
    rfl
   ·have h11 := unlisted hnl
    have h10 : L.getD 10 false = true := (hdep ⟨10, .chain⟩ (by simp) rfl)
    have t24 : a'.tmps.getD 24 undef = .int .u64 (rv : Int) := hnew 8 _ 24 rfl rfl (hdep ⟨8, .data⟩ (by simp) rfl) (by simp)
    rw [wor2_both (getD_set_self L (by rw [hs]; decide))] at hK
    rw [wor2_first h10 h11]
    have hcr' : (W.setCell ⟨w.heap.size + 1 + 1, i, none⟩ (.int .u64 (qv : Int))).cell? ⟨w.heap.size + 1 + 1 + 1, 0, none⟩ = some (.int .u64 (r : Int)) := by
     rw [World.cell?_setCell_other _ _ _ _ (by simp)]; exact e10
    have hfr' : (W.setCell ⟨w.heap.size + 1 + 1, i, none⟩ (.int .u64 (qv : Int))).frozen? ⟨w.heap.size + 1 + 1 + 1, 0, none⟩ = false := by
     rw [World.frozen?_setCell]; exact e11
    refine in_skip hoi rfl nofun (fun _ _ => trivial) ?_ (hK q0)
    simp [execOp, Act.eval, t6, t24, go_sem, stored, hcr', hfr']
    rfl
  case hend =>
   intro L q hL
   rw [wor2_both (hL 11 (by decide))]
   generalize wrote _ _ _ _ _ = TT
   gi_wp2
   have hB2 : Below w.heap.size W ((W.setCell ⟨w.heap.size + 1 + 1, i, none⟩ (.int .u64 (qv : Int))).setCell ⟨w.heap.size + 1 + 1 + 1, 0, none⟩ (.int .u64 (rv : Int))) :=
    ((Below.refl _ W).setCell (p := ⟨w.heap.size + 1 + 1, i, none⟩) (by show _ ≤ w.heap.size + 1 + 1; omega) _).setCell (p := ⟨w.heap.size + 1 + 1 + 1, 0, none⟩) (by show _ ≤ w.heap.size + 1 + 1 + 1; omega) _
   have hqb : qv < b64 := by
    rw [HQV.out]
    apply Nat.div_lt_of_lt_mul
    have h1 : (r + 1) * b64 ≤ d * b64 := Nat.mul_le_mul_right _ e4
    rw [Nat.add_mul, Nat.one_mul] at h1
    omega
   refine ⟨keeps_drewN (((KeepsOthers.setCell W ⟨w.heap.size + 1 + 1, i, none⟩ (.int .u64 (qv : Int))).trans (KeepsOthers.setCell _ ⟨w.heap.size + 1 + 1 + 1, 0, none⟩ (.int .u64 (rv : Int)))).from _) _, ⟨below_drewN hB2 _, ?_⟩, ⟨zs.set i qv, rv, ?_, by simp [HE2.out], e3.set _ hqb, by rw [HRV.out]; exact Nat.mod_lt _ hd0, fun hl => by rw [HRV.out]; exact hOk r xv hok hxl (by simp at hl; omega), ?_, ?_, ?_, ?_, ?_, ?_⟩, hB.trans (below_drewN hB2 _)⟩
   ·rw [World.heap_drewN, Below.heap_setCell _ _ _ _ (by show _ ≠ w.heap.size + 1 + 1 + 1; omega), Below.heap_setCell _ _ _ _ (by show _ ≠ w.heap.size + 1 + 1; omega)]
   ·rw [List.map_append, List.map_singleton, sq_snoc, HE1.out]
    unfold sqStep
    simp only [HXV.out, Option.getD_some]
    rw [← HQV.out, ← HRV.out]
   ·exact (Row.set (w := W) e6 i qv).far (p := ⟨w.heap.size + 1 + 1 + 1, 0, none⟩) (by show _ ≠ w.heap.size + 1 + 1 + 1; omega) _
   ·rw [World.cell?_drewN, World.cell?_setCell_other _ _ _ _ (by simp), World.cell?_setCell_other _ _ _ _ (by simp)]; exact e7
   ·rw [World.cell?_drewN, World.cell?_setCell_other _ _ _ _ (by simp), World.cell?_setCell_other _ _ _ _ (by simp)]; exact e8
   ·rw [World.frozen?_drewN, World.frozen?_setCell, World.frozen?_setCell]; exact e9
   ·rw [World.cell?_drewN]; exact World.cell?_setCell_same' _ _ _ (by rw [World.cell?_setCell_other _ _ _ _ (by simp)]; rw [e10]; rfl)
   ·rw [World.frozen?_drewN, World.frozen?_setCell, World.frozen?_setCell]; exact e11
 case done =>
  rintro D ds W hD hds ⟨⟨zs, r, e1, e2, e3, e4, e5, e6, e7, e8, e9, e10, e11⟩, hB⟩ hK
  rw [hds] at e1
  have HE1 := hid e1
  have HE2 := hid e2
  have hrl : r < b64 := by omega
  clear e1 e2 hds
  have hmx : Tryz.prog.follows .mixedOrders = true := by kernel_rfl
  have hsl := e6.sl (by rw [HE2.out]; omega)
  rw [HE2.out] at hsl
  have hsl2 : Sl W.drew W.heap.size (some ⟨w.heap.size + 1 + 1, 0, none⟩) n n zs := hsl
  have hlt1 : w.heap.size + 1 < W.heap.size := by have := hB.size; have := e6.lt; omega
  gi_wp2
  have hDlt : D < W.heap.size := (Array.getElem?_eq_some_iff.1 hK).1
  have q2 : (W.alloc (.cells #[.int .u64 (r : Int)] 63)).cell? ⟨w.heap.size + 1, 0, none⟩ = some (.slice (some ⟨w.heap.size + 1 + 1, 0, none⟩) n n) := (World.cell?_alloc_lt _ _ _ hlt1).trans e8
  have q3 : (W.alloc (.cells #[.int .u64 (r : Int)] 63)).frozen? ⟨w.heap.size + 1, 0, none⟩ = false := ((Below.refl W.heap.size W).alloc (Nat.le_refl _) _).frozen (p := ⟨w.heap.size + 1, 0, none⟩) hlt1 |>.trans e9
  have hKF : ((W.drew.alloc (.cells #[.int .u64 (r : Int)] 63)).setCell ⟨w.heap.size + 1, 0, none⟩ (.slice (some ⟨w.heap.size + 1 + 1, 0, none⟩) (trimL zs n) n)).heap[D]? = some (.deferred (some [])) :=
   (KeepsOthers.setCell _ _ _).same D _ ((Below.heap_alloc W.drew _ D hDlt).trans hK) rfl
  have rowF := ((Row.alloc (w := W.drew) e6 (.cells #[.int .u64 (r : Int)] 63))).far (p := ⟨w.heap.size + 1, 0, none⟩) (by show w.heap.size + 1 + 1 ≠ w.heap.size + 1; omega) (.slice (some ⟨w.heap.size + 1 + 1, 0, none⟩) (trimL zs n) n)
  have rowR := (heap_new_row W.drew r).far (p := ⟨w.heap.size + 1, 0, none⟩) (by show W.heap.size ≠ w.heap.size + 1; omega) (.slice (some ⟨w.heap.size + 1 + 1, 0, none⟩) (trimL zs n) n)
  have cellF := World.cell?_setCell_same' (W.drew.alloc (.cells #[.int .u64 (r : Int)] 63)) ⟨w.heap.size + 1, 0, none⟩ (.slice (some ⟨w.heap.size + 1 + 1, 0, none⟩) (trimL zs n) n) (by rw [show (W.drew.alloc (.cells #[.int .u64 (r : Int)] 63)).cell? _ = _ from q2]; rfl)
  have belF : Below w.heap.size w ((W.drew.alloc (.cells #[.int .u64 (r : Int)] 63)).setCell ⟨w.heap.size + 1, 0, none⟩ (.slice (some ⟨w.heap.size + 1 + 1, 0, none⟩) (trimL zs n) n)) :=
   (hB.drew.alloc (by have := hB.size; exact this) _).setCell (p := ⟨w.heap.size + 1, 0, none⟩) (by show _ ≤ w.heap.size + 1; omega) _
  have FIN : ∀ {WF : World}, WF.heap[D]? = some (.deferred (some [])) → Row WF (w.heap.size + 1 + 1) zs → Row WF W.drew.heap.size [r] → Below w.heap.size w WF → ∃ A1 m1 c1 q A2 m2 c2 r', Ending.returned (.tuple #[.slice (some ⟨w.heap.size + 1 + 1, 0, none⟩) (trimL zs n) n, .slice (some ⟨W.drew.heap.size, 0, none⟩) (trimL [r] 1) 1]) = .returned (.tuple #[.slice A1 m1 c1, .slice A2 m2 c2]) ∧
    Sl (WF.putObj D (.deferred none)) (WF.putObj D (.deferred none)).heap.size A1 m1 c1 q ∧ Sl (WF.putObj D (.deferred none)) (WF.putObj D (.deferred none)).heap.size A2 m2 c2 r' ∧ Below w.heap.size w (WF.putObj D (.deferred none)) ∧
    Nm b64 q (V b64 (sq d xs n (downL n n)).1) ∧ Nm b64 r' (sq d xs n (downL n n)).2 := by
   intro WF k1 k2 k3 k4
   have g := grownBy_putObj' WF D (.deferred none)
   have gr : ∀ r', some D = some r' → ∃ o, WF.heap[r']? = some o ∧ o.isCells = false := fun r' e => by cases e; exact ⟨_, k1, rfl⟩
   have z1 := sl_trim ((row_kept k2 g gr).sl (by rw [HE2.out]; omega))
   have z2 := sl_trim ((row_kept k3 g gr).sl (by simp))
   rw [HE2.out] at z1
   refine ⟨_, _, _, _, _, _, _, _, rfl, z1, z2, k4.trans (belowK_b (w := W0) (by rw [HSZ.out]; omega) _ D _ _ hD k1 rfl rfl), ?_, ?_⟩
   ·rw [HE1.out]; exact trimmed_nm e3
   ·rw [HE1.out]
    have := trimmed_nm (B := b64) (xs := [r]) (fun y hy => by simp at hy; subst hy; exact hrl)
    simpa [V] using this
  refine wpIn_region_any hmx ?_
  show wpAnyIn _ _ _ _ _ _ 6 _ _ _
  refine any2 (i := 0) (j := 2) (by kernel_rfl) ?_ ?_
  ·skip
   refine in_value (v := .slice (some ⟨w.heap.size + 1 + 1, 0, none⟩) n n) (w' := W.drew) rfl rfl nofun (fun _ _ => trivial) (by simp [execOp, Act.eval, go_sem, e8]) ?_
   refine any2 (i := 1) (j := 2) (by kernel_rfl) ?_ ?_
   ·skip
    refine in_call_any (f := 74) (args := #[.slice (some ⟨w.heap.size + 1 + 1, 0, none⟩) n n]) rfl rfl nofun rfl (fun _ _ => trivial) (by simp [execOp, Act.eval, resolve, invoke, Deferred.ofValue, Act.put, go_sem]) (callsIn_wide.2 ((ltrim_any W.drew _ _ _ _ zs hsl2).mono ?_))
    rintro e w1 ⟨rfl, rfl⟩
    refine ⟨_, rfl, ?_⟩
    refine any1 (i := 2) (by kernel_rfl) ?_
    refine in_value (v := .int .u64 (r : Int)) (w' := W.drew) rfl rfl nofun (fun _ _ => trivial) (by simp [execOp, Act.eval, Act.put, go_sem, e10]) ?_
    refine any1 (i := 3) (by kernel_rfl) ?_
    refine in_call_any (f := 73) (args := #[.int .u64 (r : Int)]) rfl rfl nofun rfl (fun _ _ => trivial) (by simp [execOp, Act.eval, resolve, invoke, Deferred.ofValue, Act.put, go_sem]) (callsIn_wide.2 ((of_exact r W.drew).mono ?_))
    rintro e w2 ⟨rfl, rfl⟩
    refine ⟨_, rfl, ?_⟩
    refine any1 (i := 4) (by kernel_rfl) ?_
    refine in_skip (w' := (W.drew.alloc (.cells #[.int .u64 (r : Int)] 63)).setCell ⟨w.heap.size + 1, 0, none⟩ (.slice (some ⟨w.heap.size + 1 + 1, 0, none⟩) (trimL zs n) n)) rfl rfl nofun (fun _ _ => trivial) (by simp [execOp, Act.eval, Act.put, go_sem, stored, q2, q3]) ?_
    refine any1 (i := 5) (by kernel_rfl) ?_
    refine in_value (v := .slice (some ⟨W.drew.heap.size, 0, none⟩) (trimL [r] 1) 1) (w' := (W.drew.alloc (.cells #[.int .u64 (r : Int)] 63)).setCell ⟨w.heap.size + 1, 0, none⟩ (.slice (some ⟨w.heap.size + 1 + 1, 0, none⟩) (trimL zs n) n)) rfl rfl nofun (fun _ _ => trivial) (by simp [execOp, Act.eval, Act.put]) ?_
    refine any0 (by kernel_rfl) ?_
    generalize hWF : (W.drew.alloc (.cells #[.int .u64 (r : Int)] 63)).setCell ⟨w.heap.size + 1, 0, none⟩ (.slice (some ⟨w.heap.size + 1 + 1, 0, none⟩) (trimL zs n) n) = WF
    rw [hWF] at hKF rowF rowR cellF belF
    clear hWF
    gi_wp2
    refine ⟨by simp, .inl ⟨_, _, rfl, run_takeDeferred hKF, ?_⟩⟩
    refine ⟨.tuple #[.slice (some ⟨w.heap.size + 1 + 1, 0, none⟩) (trimL zs n) n, .slice (some ⟨W.drew.heap.size, 0, none⟩) (trimL [r] 1) 1], ?_, FIN hKF rowF rowR belF⟩
    have hc5 := cell_kept cellF (grownBy_putObj' _ D (.deferred none)) (fun r e => by cases e; exact ⟨_, hKF, rfl⟩)
    simp [results, Tryz.f101, go_sem, hc5]
   ·skip
    refine in_value (v := .int .u64 (r : Int)) (w' := W.drew) rfl rfl nofun (fun _ _ => trivial) (by simp [execOp, Act.eval, Act.put, go_sem, e10]) ?_
    refine any1 (i := 1) (by kernel_rfl) ?_
    refine in_call_any (f := 74) (args := #[.slice (some ⟨w.heap.size + 1 + 1, 0, none⟩) n n]) rfl rfl nofun rfl (fun _ _ => trivial) (by simp [execOp, Act.eval, resolve, invoke, Deferred.ofValue, Act.put, go_sem]) (callsIn_wide.2 ((ltrim_any W.drew _ _ _ _ zs hsl2).mono ?_))
    rintro e w1 ⟨rfl, rfl⟩
    refine ⟨_, rfl, ?_⟩
    refine any1 (i := 3) (by kernel_rfl) ?_
    refine in_call_any (f := 73) (args := #[.int .u64 (r : Int)]) rfl rfl nofun rfl (fun _ _ => trivial) (by simp [execOp, Act.eval, resolve, invoke, Deferred.ofValue, Act.put, go_sem]) (callsIn_wide.2 ((of_exact r W.drew).mono ?_))
    rintro e w2 ⟨rfl, rfl⟩
    refine ⟨_, rfl, ?_⟩
    refine any1 (i := 4) (by kernel_rfl) ?_
    refine in_skip (w' := (W.drew.alloc (.cells #[.int .u64 (r : Int)] 63)).setCell ⟨w.heap.size + 1, 0, none⟩ (.slice (some ⟨w.heap.size + 1 + 1, 0, none⟩) (trimL zs n) n)) rfl rfl nofun (fun _ _ => trivial) (by simp [execOp, Act.eval, Act.put, go_sem, stored, q2, q3]) ?_
    refine any1 (i := 5) (by kernel_rfl) ?_
    refine in_value (v := .slice (some ⟨W.drew.heap.size, 0, none⟩) (trimL [r] 1) 1) (w' := (W.drew.alloc (.cells #[.int .u64 (r : Int)] 63)).setCell ⟨w.heap.size + 1, 0, none⟩ (.slice (some ⟨w.heap.size + 1 + 1, 0, none⟩) (trimL zs n) n)) rfl rfl nofun (fun _ _ => trivial) (by simp [execOp, Act.eval, Act.put]) ?_
    refine any0 (by kernel_rfl) ?_
    generalize hWF : (W.drew.alloc (.cells #[.int .u64 (r : Int)] 63)).setCell ⟨w.heap.size + 1, 0, none⟩ (.slice (some ⟨w.heap.size + 1 + 1, 0, none⟩) (trimL zs n) n) = WF
    rw [hWF] at hKF rowF rowR cellF belF
    clear hWF
    gi_wp2
    refine ⟨by simp, .inl ⟨_, _, rfl, run_takeDeferred hKF, ?_⟩⟩
    refine ⟨.tuple #[.slice (some ⟨w.heap.size + 1 + 1, 0, none⟩) (trimL zs n) n, .slice (some ⟨W.drew.heap.size, 0, none⟩) (trimL [r] 1) 1], ?_, FIN hKF rowF rowR belF⟩
    have hc5 := cell_kept cellF (grownBy_putObj' _ D (.deferred none)) (fun r e => by cases e; exact ⟨_, hKF, rfl⟩)
    simp [results, Tryz.f101, go_sem, hc5]
  ·skip
   refine in_value (v := .int .u64 (r : Int)) (w' := W.drew) rfl rfl nofun (fun _ _ => trivial) (by simp [execOp, Act.eval, go_sem, e10]) ?_
   refine any1 (i := 0) (by kernel_rfl) ?_
   refine in_value (v := .slice (some ⟨w.heap.size + 1 + 1, 0, none⟩) n n) (w' := W.drew) rfl rfl nofun (fun _ _ => trivial) (by simp [execOp, Act.eval, Act.put, go_sem, e8]) ?_
   refine any1 (i := 1) (by kernel_rfl) ?_
   refine in_call_any (f := 74) (args := #[.slice (some ⟨w.heap.size + 1 + 1, 0, none⟩) n n]) rfl rfl nofun rfl (fun _ _ => trivial) (by simp [execOp, Act.eval, resolve, invoke, Deferred.ofValue, Act.put, go_sem]) (callsIn_wide.2 ((ltrim_any W.drew _ _ _ _ zs hsl2).mono ?_))
   rintro e w1 ⟨rfl, rfl⟩
   refine ⟨_, rfl, ?_⟩
   refine any1 (i := 3) (by kernel_rfl) ?_
   refine in_call_any (f := 73) (args := #[.int .u64 (r : Int)]) rfl rfl nofun rfl (fun _ _ => trivial) (by simp [execOp, Act.eval, resolve, invoke, Deferred.ofValue, Act.put, go_sem]) (callsIn_wide.2 ((of_exact r W.drew).mono ?_))
   rintro e w2 ⟨rfl, rfl⟩
   refine ⟨_, rfl, ?_⟩
   refine any1 (i := 4) (by kernel_rfl) ?_
   refine in_skip (w' := (W.drew.alloc (.cells #[.int .u64 (r : Int)] 63)).setCell ⟨w.heap.size + 1, 0, none⟩ (.slice (some ⟨w.heap.size + 1 + 1, 0, none⟩) (trimL zs n) n)) rfl rfl nofun (fun _ _ => trivial) (by simp [execOp, Act.eval, Act.put, go_sem, stored, q2, q3]) ?_
   refine any1 (i := 5) (by kernel_rfl) ?_
   refine in_value (v := .slice (some ⟨W.drew.heap.size, 0, none⟩) (trimL [r] 1) 1) (w' := (W.drew.alloc (.cells #[.int .u64 (r : Int)] 63)).setCell ⟨w.heap.size + 1, 0, none⟩ (.slice (some ⟨w.heap.size + 1 + 1, 0, none⟩) (trimL zs n) n)) rfl rfl nofun (fun _ _ => trivial) (by simp [execOp, Act.eval, Act.put]) ?_
   refine any0 (by kernel_rfl) ?_
   generalize hWF : (W.drew.alloc (.cells #[.int .u64 (r : Int)] 63)).setCell ⟨w.heap.size + 1, 0, none⟩ (.slice (some ⟨w.heap.size + 1 + 1, 0, none⟩) (trimL zs n) n) = WF
   rw [hWF] at hKF rowF rowR cellF belF
   clear hWF
   gi_wp2
   refine ⟨by simp, .inl ⟨_, _, rfl, run_takeDeferred hKF, ?_⟩⟩
   refine ⟨.tuple #[.slice (some ⟨w.heap.size + 1 + 1, 0, none⟩) (trimL zs n) n, .slice (some ⟨W.drew.heap.size, 0, none⟩) (trimL [r] 1) 1], ?_, FIN hKF rowF rowR belF⟩
   have hc5 := cell_kept cellF (grownBy_putObj' _ D (.deferred none)) (fun r e => by cases e; exact ⟨_, hKF, rfl⟩)
   simp [results, Tryz.f101, go_sem, hc5]
 case stop =>
  rintro D c pre W _ _ h _
  exact h.elim
end Go.Proofs.YtbejcollbkeedaaGreat
namespace Go.Proofs.YtbejcollbkeedaaGreat
open Go.RowKit
theorem div64_zero (x d : Nat) (hx : x < b64) (hd0 : 0 < d) (w : World) :
  Calls Tryz.prog 111 #[.int .u64 ((0 : Nat) : Int), .int .u64 x, .int .u64 d] w fun e w' => e = .returned (.tuple #[.int .u64 ((x / d : Nat) : Int), .int .u64 ((x % d : Nat) : Int)]) ∧ ∃ q, w' = w.drewN q := by
 have h1 : ((d : Int) == 0) = false := by simp; omega
 have h2 : ¬ (d : Int) ≤ ((0 : Nat) : Int) := by omega
 have h2' : ¬ (d : Int) ≤ 0 := by omega
 have h3 : (1 : Int) ≤ d := by omega
 go_enter Tryz.func111, Tryz.ntmps111
 go_wp2
 have h4 : (x : Int) < 18446744073709551616 := by have := lt64.1 hx; omega
 have h7 : (0 : Int) ≤ (x : Int) / d := Int.ediv_nonneg (by omega) (by omega)
 have h5 : (x : Int) / d < 18446744073709551616 := Int.lt_of_le_of_lt (Int.ediv_le_self _ (by omega)) h4
 go_quiet (fail)
 go_wp2
 go_ret2
 exact ⟨rfl, _, rfl⟩
def RetQ (w : World) (N M : Nat) (e : Ending) (w' : World) : Prop :=
 ∃ q A1 n1 c1 r A2 n2 c2, e = .returned (.tuple #[.slice A1 n1 c1, .slice A2 n2 c2, .bool true]) ∧ Sl w' w'.heap.size A1 n1 c1 q ∧ Sl w' w'.heap.size A2 n2 c2 r ∧ Below w.heap.size w w' ∧ Nm b64 q N ∧ Nm b64 r M
def IsBits (n k : Nat) : Prop := n < 2 ^ k ∧ (k ≠ 0 → 2 ^ (k - 1) ≤ n)
theorem IsBits.unique {n k l : Nat} (h : IsBits n k) (h' : IsBits n l) : k = l := by
 rcases Nat.lt_trichotomy k l with hl | hl | hl
 ·have h1 := h'.2 (by omega)
  have h2 : 2 ^ k ≤ 2 ^ (l - 1) := Nat.pow_le_pow_right (by decide) (by omega)
  have := h.1
  omega
 ·exact hl
 ·have h1 := h.2 (by omega)
  have h2 : 2 ^ l ≤ 2 ^ (k - 1) := Nat.pow_le_pow_right (by decide) (by omega)
  have := h'.1
  omega
theorem b64_pow (m : Nat) : b64 ^ m = 2 ^ (64 * m) := by
 rw [show b64 = 2 ^ 64 from rfl, ← Nat.pow_mul]
theorem bits_top {xs : List Nat} {m x N : Nat} (h : Nm b64 xs N) (hm : xs.length = m + 1) (hx : xs[m]? = some x) : IsBits N (m * 64 + Lib.bitLen x) ∧ Lib.bitLen x ≤ 64 := by
 have hxl := h.1.get hx
 have hx0 : x ≠ 0 := by
  refine h.2.1 x ?_
  rw [List.getLast?_eq_getElem?, hm]
  simpa using hx
 obtain ⟨c1, c2, c3⟩ := Lib.bitLenAux_bounds 64 x hxl hx0
 have hN : N = V b64 (xs.take m) + b64 ^ m * x := by
  rw [← h.2.2, ← V_take_succ hx, List.take_of_length_le (by omega)]
 have hlt := V_lt (xs.take m) (h.1.take m)
 rw [List.length_take, Nat.min_eq_left (by omega)] at hlt
 rw [b64_pow] at hN hlt
 have hle : Lib.bitLen x ≤ 64 := Lib.bitLen_le x 64 (Nat.le_refl _) hxl
 obtain ⟨k, hk⟩ : ∃ k, Lib.bitLen x = k := ⟨_, rfl⟩
 have hk' : Lib.bitLenAux 64 x = k := hk
 rw [hk'] at c1 c2 c3
 rw [hk] at hle ⊢
 refine ⟨⟨?_, fun _ => ?_⟩, hle⟩
 ·rw [Nat.mul_comm m, Nat.pow_add]
  have := Nat.mul_le_mul_left (2 ^ (64 * m)) c3
  rw [Nat.mul_succ] at this
  omega
 ·rw [show m * 64 + k - 1 = 64 * m + (k - 1) by omega, Nat.pow_add]
  have := Nat.mul_le_mul_left (2 ^ (64 * m)) c2
  omega
theorem ret_i64 {a b : Int} (h : a = b) : Ending.returned (.int .i64 a) = .returned (.int .i64 b) := by rw [h]
theorem bits_any (w : World) (B : Nat) (A : Option Addr) (n c : Nat) (xs : List Nat) (hs : Sl w B A n c xs) (hd : Dg b64 xs) (hn : n ≤ 17592186044416) :
  Calls Tryz.prog 53 #[.slice A n c] w fun e w' => ∃ k : Nat, e = .returned (.int .i64 (k : Int)) ∧ IsBits (V b64 xs) k ∧ w = w' := by
 have hX := trimmed_nm hd
 have HX := hid hX
 clear hX
 go_enter Tryz.func53, Tryz.ntmps53
 go_wp2_with fail
 refine (ltrim_sl w B A n c xs hs).mono ?_; rintro e w1 ⟨m, rfl, h3, h4, rfl⟩
 by_cases h0 : m = 0
 ·subst h0
  go_wp2
  go_ret
  refine ⟨0, rfl, ⟨?_, fun h => absurd rfl h⟩, rfl⟩
  have : trimmed xs = [] := List.eq_nil_of_length_eq_zero h3.len.symm
  rw [← HX.out.2.2, this]
  decide
 ·obtain ⟨t, rfl⟩ : ∃ t, m = t + 1 := ⟨m - 1, by omega⟩
  obtain ⟨b, off, x, rfl, hb, hx, hc⟩ := h3.at_ (k := t) (by omega)
  have hbt := bits_top HX.out h3.len.symm hx
  have hxl := lt64.1 (HX.out.1.get hx)
  obtain ⟨k, hk⟩ : ∃ k, Lib.bitLen x = k := ⟨_, rfl⟩
  rw [hk] at hbt
  have hk64 := hbt.2
  have HBT := hid hbt
  have HK := hid hk
  have HXX := hid hx
  have HXL := hid hxl
  clear hbt hk hx hxl
  have hm0 : (((t + 1 : Nat) : Int) == 0) = false := by simp; omega
  go_wp2_with (go_at_call 83; refine (Tryz.bits_Len64 (x : Int) _ (by omega) (by have := HXL.out; omega)).mono ?_; rw [Int.toNat_natCast, HK.out]; rintro e w2 ⟨rfl, rfl⟩)
  go_ret
  exact ⟨t * 64 + k, ret_i64 (by omega), HBT.out.1, rfl⟩
abbrev U8 (x : Nat) : Value := .int .u8 (x : Int)
def Row8 (w : World) (g : Nat) (zs : List Nat) : Prop := w.heap[g]? = some (.cells (zs.map U8).toArray 5 (0, 0))
theorem Row8.at_ {w : World} {g : Nat} {zs : List Nat} (h : Row8 w g zs) {i x : Nat} (hx : zs[i]? = some x) : w.cell? ⟨g, i, none⟩ = some (.int .u8 (x : Int)) := by
 rw [cell_of_row w g i _ _ (0, 0) h]; simp [hx]
theorem Row8.frozen {w : World} {g : Nat} {zs : List Nat} (h : Row8 w g zs) (i : Nat) : w.frozen? ⟨g, i, none⟩ = false := by
 unfold Row8 at h
 simp [World.frozen?, h]
theorem Row8.set_ {w : World} {g : Nat} {zs : List Nat} (h : Row8 w g zs) {i x : Nat} {z : Int} (e : z = (x : Int)) : Row8 (w.setCell ⟨g, i, none⟩ (.int .u8 z)) g (zs.set i x) := by
 subst e
 unfold Row8 at h ⊢
 simp [World.setCell, Array.getElem?_modify, h, List.map_set]
def Sl8 (w : World) (B : Nat) (A : Option Addr) (n c : Nat) (bs : List Nat) : Prop :=
 n = bs.length ∧ n ≤ c ∧ c ≤ 9223372036854775807 ∧ (∀ x ∈ bs, x < 256) ∧ (bs ≠ [] → ∃ b off, A = some ⟨b, off, none⟩ ∧ b < B ∧ ∀ (k x : Nat), bs[k]? = some x → w.cell? ⟨b, off + k, none⟩ = some (.int .u8 (x : Int)))
theorem Sl8.below {w w' : World} {B n c : Nat} {A : Option Addr} {bs : List Nat} (h : Sl8 w B A n c bs) (hb : Below B w w') : Sl8 w' B A n c bs :=
 ⟨h.1, h.2.1, h.2.2.1, h.2.2.2.1, fun hn => by
  obtain ⟨b, off, e, hlt, hc⟩ := h.2.2.2.2 hn
  exact ⟨b, off, e, hlt, fun k x hx => (hb.cell (p := ⟨b, off + k, none⟩) hlt).trans (hc k x hx)⟩⟩
theorem Sl8.at_ {w : World} {B n c : Nat} {A : Option Addr} {bs : List Nat} (h : Sl8 w B A n c bs) {k : Nat} (hk : k < n) :
  ∃ b off x, A = some ⟨b, off, none⟩ ∧ b < B ∧ bs[k]? = some x ∧ x < 256 ∧ w.cell? ⟨b, off + k, none⟩ = some (.int .u8 (x : Int)) := by
 have hl := h.1
 obtain ⟨b, off, e, hlt, hc⟩ := h.2.2.2.2 (by intro e; subst e; simp at hl; omega)
 exact ⟨b, off, bs[k]'(by omega), e, hlt, List.getElem?_eq_getElem (by omega), h.2.2.2.1 _ (List.getElem_mem _), hc k _ (List.getElem?_eq_getElem (by omega))⟩
theorem Tryz.infoB : (Tryz.prog.info? 5).map (fun i => (i.zero, i.size, i.bytes)) = some (some (.int .u8 0), 1, 1) := by kernel_rfl
theorem wl_make8 {w : World} {ops : Array Oper} {rest : List Oper} {o : Oper} {a : Act} {Q : Exit → Act → World → Prop} (hg : o.guard = none) (l : Operand) (t : TypeId) (ht : Tryz.prog.underlying t = some (.slice 5))
  (hop : o.op = Op.makeSlice t l l) (N : Int) (n : Nat) (hl : a.eval l = .int .i64 N) (hN : N = n) (hn : n ≤ 281474976710656)
  (h : ∀ w', Row8 w' w.heap.size (List.replicate n 0) → Below w.heap.size w w' → w'.heap.size = w.heap.size + 1 → wpList Tryz.prog ops Q rest (a.put o.dst (.slice (some ⟨w.heap.size, 0, none⟩) n n)) w') :
  wpList Tryz.prog ops Q (o :: rest) a w := by
 obtain ⟨i0, hi, hz0, hz1, hz2⟩ := info_parts Tryz.infoB
 subst hN
 refine wpList_plain hg fun K hK => ?_
 have hb : (i0.bytes : Int) * (n : Int) ≤ 281474976710656 := by rw [hz2]; omega
 have hr := run_make (P := Tryz.prog) w t 5 i0 (.int .u8 0) ht hi hz0 .i64 .i64 n n (by omega) (by omega) hb (by omega)
 simp only [Int.toNat_natCast] at hr
 unfold Oper.wp
 simp [execOp, hop, hl, hr, Result.andThen]
 refine hK _ _ (h _ ?_ ((Below.refl _ _).alloc (Nat.le_refl _) _) (by simp))
 unfold Row8
 rw [heap_alloc_new, hz1, Nat.mul_one]
 have e : madeCells (Value.int IntKind.u8 0).cells n = (List.map U8 (List.replicate n 0)).toArray := by
  apply Array.ext'
  rw [show (Value.int IntKind.u8 0).cells = #[Value.int IntKind.u8 0] from rfl, toList_madeCells_one]
  simp [U8]
 rw [e]
def be (n N : Nat) : List Nat := (List.range n).map fun i => N / 256 ^ (n - 1 - i) % 256
theorem be_length (n N : Nat) : (be n N).length = n := by simp [be]
theorem be_get {n N i : Nat} (h : i < n) : (be n N)[i]? = some (N / 256 ^ (n - 1 - i) % 256) := by simp [be, h]
theorem be_lt (n N : Nat) : ∀ x ∈ be n N, x < 256 := by
 intro x hx
 obtain ⟨i, _, rfl⟩ := List.mem_map.1 hx
 exact Nat.mod_lt _ (by decide)
theorem place_any (i : Nat) (hi : i ≤ 1000000) (w : World) :
  Calls Tryz.prog 88 #[.int .i64 (i : Int)] w fun e w' => e = .returned (.tuple #[.int .i64 ((i / 8 : Nat) : Int), .int .i64 ((i % 8 * 8 : Nat) : Int)]) ∧ w = w' := by
 go_enter Tryz.func88, Tryz.ntmps88
 go_wp2
 go_ret2
 exact ⟨rfl, rfl⟩
theorem div_pow_digits {B : Nat} (hB : 0 < B) (xs : List Nat) (hd : Dg B xs) (L : Nat) : V B xs / B ^ L = xs[L]?.getD 0 + B * V B (xs.drop (L + 1)) := by
 rcases Nat.lt_or_ge L xs.length with h | h
 ·obtain ⟨x, hx⟩ := get_lt h
  have hv := V_split (B := B) xs L
  rw [Nat.min_eq_left (by omega)] at hv
  have hl := V_lt (xs.take L) (hd.take L)
  rw [List.length_take, Nat.min_eq_left (by omega)] at hl
  rw [hv, Nat.add_comm, Nat.mul_comm, Nat.add_comm, Nat.add_mul_div_right _ _ (Nat.pow_pos hB), Nat.div_eq_of_lt hl, Nat.zero_add, List.drop_eq_getElem_cons h, V_cons, hx]
  have := (List.getElem?_eq_some_iff.1 hx).2
  simp [this]
 ·have hl := V_lt xs hd
  have h2 : B ^ xs.length ≤ B ^ L := Nat.pow_le_pow_right hB h
  rw [Nat.div_eq_of_lt (by omega), List.getElem?_eq_none h, List.drop_of_length_le (by omega)]
  simp [V]
theorem byte_of {xs : List Nat} {N j x : Nat} (h : V b64 xs = N) (hd : Dg b64 xs) (hx : xs[j / 8]?.getD 0 = x) : N / 256 ^ j % 256 = x / 2 ^ (j % 8 * 8) % 256 := by
 have e1 : 256 ^ j = b64 ^ (j / 8) * 256 ^ (j % 8) := by
  rw [show b64 = 256 ^ 8 from rfl, ← Nat.pow_mul, ← Nat.pow_add]
  congr 1
  omega
 have e2 : 2 ^ (j % 8 * 8) = 256 ^ (j % 8) := by rw [show (256 : Nat) = 2 ^ 8 from rfl, ← Nat.pow_mul, Nat.mul_comm]
 have e3 : b64 = 256 ^ (j % 8) * (256 * 256 ^ (7 - j % 8)) := by
  rw [← Nat.pow_succ', ← Nat.pow_add, show j % 8 + (7 - j % 8 + 1) = 8 by omega]
  rfl
 rw [e1, e2, ← Nat.div_div_eq_div_mul, ← h, div_pow_digits b64_pos xs hd, hx]
 generalize V b64 (xs.drop (j / 8 + 1)) = T
 rw [e3, Nat.mul_assoc, Nat.mul_comm (256 ^ (j % 8)), Nat.add_mul_div_right _ _ (Nat.pow_pos (by decide)), Nat.mul_assoc, Nat.add_mul_mod_self_left]
theorem bytes_yes (w : World) (B : Nat) (hB : B ≤ w.heap.size) (A : Option Addr) (n c : Nat) (xs : List Nat) (hs : Sl w B A n c xs) (hd : Dg b64 xs) (hn : n ≤ 17592186044416) (m : Nat) (hm : m ≤ 65536) (hlt : V b64 xs < 256 ^ m) :
  Calls Tryz.prog 61 #[.slice A n c, .int .i64 (m : Int)] w fun e w' => ∃ g, e = .returned (.tuple #[.slice (some ⟨g, 0, none⟩) m m, .bool true]) ∧ Row8 w' g (be m (V b64 xs)) ∧ Below w.heap.size w w' := by
 have hX := trimmed_nm hd
 have HX := hid hX
 clear hX
 have hlb : ∀ k, IsBits (V b64 xs) k → k ≤ 8 * m := by
  intro k hk
  apply Classical.byContradiction
  intro h
  have h1 := hk.2 (by omega)
  have h2 : 2 ^ (8 * m) ≤ 2 ^ (k - 1) := Nat.pow_le_pow_right (by decide) (by omega)
  rw [show (256 : Nat) = 2 ^ 8 from rfl, ← Nat.pow_mul] at hlt
  omega
 have HLB := hid hlb
 have HLT := hid hlt
 clear hlb hlt
 have hm0 : ¬ (m : Int) < 0 := by omega
 have hm1 : ¬ (65536 : Int) < m := by omega
 go_enter Tryz.func61, Tryz.ntmps61
 go_wp2_with fail
 refine (bits_any w B A n c xs hs hd hn).mono ?_
 rintro e w1 ⟨k, rfl, hk, rfl⟩
 have hkb := HLB.out k hk
 have hkb' : ¬ 8 * (m : Int) < (k : Int) := by omega
 clear hkb hk
 go_wp2_with (first | (go_at_call 74; refine (ltrim_sl w B A n c xs hs).mono ?_; rintro e w1 ⟨t, rfl, h3, h4, rfl⟩) | (at_make; refine wl_make8 rfl _ _ Tryz.underlying49 rfl _ m rfl rfl (by omega) ?_; intro w1 hR hB1 hz1; obtain ⟨g, hg⟩ : ∃ g, g = w.heap.size := ⟨_, rfl⟩; rw [← hg] at hR ⊢; have HG := hid hg; have HZ1 := hid hz1; clear hg hz1))
 have hlc := h3.cap
 have hmx := h3.max
 have hgw : w.heap.size ≤ g := by rw [HG.out]; exact Nat.le_refl _
 go_loopw [30] (fun i wr => ∃ k zs, k ≤ m ∧ i = .int .i64 (k : Nat) ∧ Row8 wr g zs ∧ Only w1 wr g ∧ wr.heap.size = w1.heap.size ∧ zs.length = m ∧ (∀ t, t < k → zs[t]? = (be m (V b64 xs))[t]?) ∧ (∀ t, k ≤ t → t < m → zs[t]? = some 0)) (fun i _ => m - (intOf i).toNat)
 case atStart => exact ⟨0, _, Nat.zero_le _, rfl, hR, Only.refl _ _, rfl, by simp, fun t h => absurd h (by omega), fun t _ ht => by simp [ht]⟩
 case round =>
  obtain ⟨k, zs, hk, rfl, hr, ho, hz, hzl, hz1, hz2⟩ := hrel
  have HZ := hid hz
  have HZL := hid hzl
  have HZ1' := hid hz1
  have HZ2 := hid hz2
  clear hz hzl hz1 hz2
  have hbw : Below w.heap.size w1 wr := ho.below hgw (by rw [HZ1.out]; omega)
  have hbel : Below w.heap.size w wr := hB1.trans hbw
  by_cases hlt : k < m
  ·have hsr := h3.below (hbel.mono hB)
   have hf := hr.frozen
   have hki : (k : Int) < m := by omega
   obtain ⟨j, hj⟩ : ∃ j, j = m - 1 - k := ⟨_, rfl⟩
   have hjm : j + k + 1 = m := by omega
   have hjk : (m : Int) - 1 - k = (j : Int) := by omega
   have hcy := hr.at_ (HZ2.out k (Nat.le_refl _) hlt)
   have hbe : (be m (V b64 xs))[k]? = some (V b64 xs / 256 ^ j % 256) := by rw [hj]; exact be_get hlt
   have HBE := hid hbe
   have HJ := hid hj
   have HJM := hid hjm
   clear hbe hj
   have hj6 : j ≤ 1000000 := by omega
   clear hjm
   obtain ⟨L, hL⟩ : ∃ L, j / 8 = L := ⟨_, rfl⟩
   obtain ⟨sh, hsh⟩ : ∃ sh, j % 8 * 8 = sh := ⟨_, rfl⟩
   have hsh64 : (sh : Int) < 64 := by omega
   have hpl := place_any j hj6
   rw [hL, hsh] at hpl
   have HPL := hid hpl
   have HL := hid hL
   have HSH := hid hsh
   clear hpl hL hsh
   by_cases hLt : L < t
   ·obtain ⟨b, off, x, rfl, hb, hx, hc⟩ := hsr.at_ hLt
    have HXX := hid hx
    clear hx
    have hLi : (L : Int) < t := by omega
    go_wp2_with (go_at_call 88; refine (HPL.out _).mono ?_; rintro e w2 ⟨rfl, rfl⟩)
    have hbyte : V b64 xs / 256 ^ j % 256 = x / 2 ^ sh % 256 := by
     rw [← HSH.out]
     exact byte_of HX.out.2.2 HX.out.1 (by rw [HL.out, HXX.out]; rfl)
    refine ⟨⟨k + 1, zs.set k (x / 2 ^ sh % 256), by omega, by go_num, hr.set_ (by rw [Int.natCast_emod, Int.natCast_ediv, Int.natCast_pow]; rfl), ho.set _ _, by simpa [World.setCell] using HZ.out, by simp [HZL.out], fun t ht => ?_, fun t ht1 ht2 => by rw [List.getElem?_set_ne (by omega)]; exact HZ2.out t (by omega) ht2⟩, by simp [intOf]; omega⟩
    by_cases htk : t = k
    ·subst htk
     rw [HBE.out, hbyte, set_get _ (by rw [HZL.out]; exact hlt)]
    ·rw [List.getElem?_set_ne (by omega)]; exact HZ1'.out t (by omega)
   ·have hLi : ¬ (L : Int) < t := by omega
    go_wp2_with (go_at_call 88; refine (HPL.out _).mono ?_; rintro e w2 ⟨rfl, rfl⟩)
    have hbyte : V b64 xs / 256 ^ j % 256 = 0 := by
     rw [byte_of (x := 0) HX.out.2.2 HX.out.1 (by rw [HL.out, List.getElem?_eq_none (by rw [← h3.len]; omega)]; rfl)]
     simp
    refine ⟨⟨k + 1, zs, by omega, by go_num, hr, ho, HZ.out, HZL.out, fun t ht => ?_, fun t ht1 ht2 => HZ2.out t (by omega) ht2⟩, by simp [intOf]; omega⟩
    by_cases htk : t = k
    ·subst htk
     rw [HBE.out, hbyte]
     exact HZ2.out t (Nat.le_refl _) hlt
    ·exact HZ1'.out t (by omega)
  ·obtain rfl : k = m := by omega
   go_wp2
   go_ret2
   have he : zs = be k (V b64 xs) := by
    apply List.ext_getElem?
    intro t
    rcases Nat.lt_or_ge t k with h | h
    ·exact HZ1'.out t h
    ·rw [List.getElem?_eq_none (by rw [HZL.out]; exact h), List.getElem?_eq_none (by rw [be_length]; exact h)]
   exact ⟨g, rfl, he ▸ hr, hbel⟩
end Go.Proofs.YtbejcollbkeedaaGreat
