/- Parts of one proof, joined: ModX, ModE, CuM, CuN, CwA, RvL, CwB, Ku, CuP. -/
import Derived.Test.YtbejcollbkeedaaGreatPileM11
import Derived.Test.YtbejcollbkeedaaGreatPileM3
import Derived.Test.YtbejcollbkeedaaGreatPileM5
import Derived.Test.YtbejcollbkeedaaGreatPileM2
import Derived.RangeFuncBox
import Derived.Deep.RegionHeld3
import Derived.Test.YtbejcollbkeedaaGreatPileM8
import Derived.Test.YtbejcollbkeedaaGreatPileM6
import Derived.Test.YtbejcollbkeedaaGreatPileM10
set_option linter.unusedVariables false
set_option linter.unusedSimpArgs false
set_option linter.unusedSectionVars false
set_option maxRecDepth 100000
set_option maxHeartbeats 8000000
open Go.Lib (hid)
namespace Go.Proofs.YtbejcollbkeedaaGreat
open Go.RowKit Go.Shelf
attribute [local go_sem] Oper.semAt_some
def KpX (n₀ Bs : Nat) (A : Option Addr) (n c : Nat) (xs : List Nat) (W W' : World) : Prop := Below n₀ W W' ∧ W'.heap[Bs]? = W.heap[Bs]? ∧ (Sl W W.heap.size A n c xs → Sl W' W'.heap.size A n c xs)
theorem KpX.refl (n₀ Bs : Nat) (A : Option Addr) (n c : Nat) (xs : List Nat) (W : World) : KpX n₀ Bs A n c xs W W := ⟨Below.refl _ _, rfl, fun h => h⟩
theorem KpX.trans {n₀ Bs n c : Nat} {A : Option Addr} {xs : List Nat} {X Y Z : World} (h : KpX n₀ Bs A n c xs X Y) (k : KpX n₀ Bs A n c xs Y Z) : KpX n₀ Bs A n c xs X Z :=
 ⟨h.1.trans k.1, k.2.1.trans h.2.1, fun hs => k.2.2 (h.2.2 hs)⟩
theorem KpX.put {n₀ Bs n c : Nat} {A : Option Addr} {xs : List Nat} {w : World} (hn : n₀ ≤ w.heap.size) (hb : Bs < w.heap.size) (W : World) (l : Nat) (o o' : Obj) (hl : w.heap.size ≤ l) (h : W.heap[l]? = some o) (hc : o.isCells = false) (hw : o.isWalk = false) : KpX n₀ Bs A n c xs W (W.putObj l o') := by
 have k := KpB.put hn hb W l o o' hl h hc hw
 refine ⟨k.1, k.2, fun hs => ?_⟩
 have hz : (W.putObj l o').heap.size = W.heap.size := by simp [World.putObj]
 rw [hz]
 exact hs.kept (grownBy_putObj' W l o') (fun r e => by cases e; exact ⟨_, h, hc⟩)
theorem each1X_in (nn : Nat) (hn : 1 ≤ nn) (l Bs n₀ n c : Nat) (A : Option Addr) (xs : List Nat) (k0 : Nat) (hk0 : IsBits (V b64 xs) k0) (hd : Dg b64 xs) (hk1 : k0 ≤ 4611686018427387904) (hn1 : n ≤ 17592186044416) (J Jx : List (Ix k0) → World → Prop)
  (hY : ∀ pre x W, J pre W → pre.length < k0 → YieldAt Fence.wide (nn - 1) Tryz.prog l (encE (V b64 xs) k0 x) W fun e W' =>
   (e = .returned (.bool true) ∧ J (pre ++ [x]) W' ∧ KpX n₀ Bs A n c xs W W') ∨ (e = .returned (.bool false) ∧ Jx (pre ++ [x]) W'))
  (W : World) (hBs : W.cell? ⟨Bs, 0, none⟩ = some (.slice A n c)) (hs : Sl W W.heap.size A n c xs) (h0 : J [] W) :
  CallsIn Fence.wide nn Tryz.prog 86 #[.func (.yield l) #[] #[], .pointer (some ⟨Bs, 0, none⟩)] W fun e W' => (∃ v, e = .returned v) ∧
   ((∃ ys : List (Ix k0), ys.map (·.1) = downL k0 k0 ∧ J ys W') ∨ (∃ pre : List (Ix k0), (∃ k, k ≤ k0 ∧ pre.map (·.1) = downL k0 k) ∧ Jx pre W')) := by
 refine callsIn_of_wp Tryz.func86 rfl trivial ?_ rfl
 simp only [Tryz.ntmps86, List.size_toArray, List.length_cons, List.length_nil, Nat.reduceAdd, Nat.reduceSub, Array.replicate_succ, Array.replicate_zero, List.push_toArray, List.append_toArray, List.nil_append, List.cons_append]
 gi_wp2_with (refine ⟨trivial, ?_⟩; gi_at_call 53; refine (callsIn_wide.2 (bits_any W W.heap.size A n c xs hs hd hn1)).mono ?_; rintro e W' ⟨k1, rfl, hk, rfl⟩; obtain rfl := hk0.unique hk; clear hk)
 gi_loopw [3] (fun i wr => ∃ (m : Nat) (pre : List (Ix k0)), m ≤ k0 ∧ i = .int .i64 ((m : Int) - 1) ∧ pre.map (·.1) = downL k0 (k0 - m) ∧ J pre wr ∧ KpX n₀ Bs A n c xs W wr)
  (fun i _ => (intOf i + 1).toNat)
 case atStart => exact ⟨k0, [], Nat.le_refl _, rfl, by simp [downL], h0, KpX.refl _ _ _ _ _ _ _⟩
 case round =>
  obtain ⟨m, pre, hm, rfl, hpre, hJs, hnx⟩ := hrel
  have HP := hid hpre
  clear hpre
  by_cases hm0 : m = 0
  ·subst hm0
   gi_wp2
   go_end0
   exact ⟨⟨_, rfl⟩, .inl ⟨pre, HP.out, hJs⟩⟩
  ·obtain ⟨t, rfl⟩ : ∃ t, m = t + 1 := ⟨m - 1, by omega⟩
   have hBc : wr.cell? ⟨Bs, 0, none⟩ = some (.slice A n c) := (World.cell?_of_block (a := ⟨Bs, 0, none⟩) hnx.2.1).trans hBs
   have hsr := hnx.2.2 hs
   have hpl : pre.length < k0 := by
    have := congrArg List.length HP.out
    rw [List.length_map, downL_length] at this
    omega
   obtain ⟨fn, tmps, assign, body, hy, hR⟩ := hY pre ⟨t, by omega⟩ wr hJs hpl
   dsimp only [encE] at hy
   obtain ⟨bv, hbv⟩ : ∃ bv, V b64 xs / 2 ^ t % 2 = bv := ⟨_, rfl⟩
   have hbt := bit_any wr wr.heap.size A n c xs hsr hd t (by omega)
   rw [hbv] at hy hbt
   have HBT := hid hbt
   clear hbt hbv
   have ht0 : (0 : Int) ≤ ((t + 1 : Nat) : Int) - 1 := by omega
   gi_wp2_with (refine ⟨trivial, ?_⟩; gi_at_call 87; refine (callsIn_wide.2 HBT.out).mono ?_; rintro e W' ⟨rfl, rfl⟩)
   refine hR.mono ?_
   rintro e W3 (⟨rfl, hJ3, hk3⟩ | ⟨rfl, hJx3⟩)
   ·gi_wp2
    go_roundw
    case rel => exact ⟨t, pre ++ [⟨t, by omega⟩], by omega, by go_num, by rw [List.map_append, HP.out, show k0 - t = (k0 - (t + 1)) + 1 by omega, downL_succ]; simp; omega, hJ3, hnx.trans hk3⟩
    case measure => simp [intOf]
   ·gi_wp2
    refine bodyPost_ret (results_none rfl _ _ _) rfl ?_
    exact ⟨⟨_, rfl⟩, .inr ⟨_, ⟨k0 - t, by omega, by rw [List.map_append, HP.out, show k0 - t = (k0 - (t + 1)) + 1 by omega, downL_succ]; simp; omega⟩, hJx3⟩⟩
theorem eachX_stops (nn : Nat) (hn : 1 ≤ nn) (Bs n₀ n c : Nat) (A : Option Addr) (xs : List Nat) (k0 : Nat) (hk0 : IsBits (V b64 xs) k0) (hd : Dg b64 xs) (hk1 : k0 ≤ 4611686018427387904) (hn1 : n ≤ 17592186044416) (w : World) (hBs : Bs < w.heap.size) 
  (hc : w.cell? ⟨Bs, 0, none⟩ = some (.slice A n c)) (hI : Sl w w.heap.size A n c xs) :
  SeqStopsK Fence.wide nn Tryz.prog 86 #[.pointer (some ⟨Bs, 0, none⟩)] (encE (V b64 xs) k0) (KpX n₀ Bs A n c xs) (fun ys => ys.map (·.1) = downL k0 k0) (fun pre => ∃ k, k ≤ k0 ∧ pre.map (·.1) = downL k0 k) k0 w := fun l J Jx W hW _ _ hY h0 => by
 have hc' := (hW.cell (p := ⟨Bs, 0, none⟩) hBs).trans hc
 exact each1X_in nn hn l Bs n₀ n c A xs k0 hk0 hd hk1 hn1 J Jx hY W hc' (hI.later hW (Nat.le_refl _)) h0
theorem each_new (w : World) (B : Nat) (A : Option Addr) (n c : Nat) (xs : List Nat) (hs : Sl w B A n c xs) (hd : Dg b64 xs) (hn : n ≤ 17592186044416) :
  Calls Tryz.prog 55 #[.slice A n c] w fun e w' => ∃ g A2 n2 c2 ys, e = .returned (.func (.func 86) #[] #[.pointer (some ⟨g, 0, none⟩)]) ∧ Nm b64 ys (V b64 xs) ∧ g < w'.heap.size ∧ w.heap.size ≤ g ∧ w'.cell? ⟨g, 0, none⟩ = some (.slice A2 n2 c2) ∧ Sl w' w'.heap.size A2 n2 c2 ys ∧ Below w.heap.size w w' := by
 go_enter Tryz.func55, Tryz.ntmps55
 go_wp2_with (go_at_call 43; refine (norm_any w B A n c xs hs hd hn).mono ?_; rintro e w1 ⟨ys, hN, A2, n2, c2, rfl, hs2, hb⟩)
 go_ret
 refine ⟨w1.heap.size, A2, n2, c2, ys, rfl, hN, by simp, hb.size, by simp, ?_, hb.alloc hb.size _⟩
 exact (hs2.below ((Below.refl _ w1).alloc (Nat.le_refl _) _)).more (by simp)
end Go.Proofs.YtbejcollbkeedaaGreat
namespace Go.Proofs.YtbejcollbkeedaaGreat
open Go.RowKit Go.Shelf
attribute [local go_sem] Oper.semAt_some
theorem bits_ex (N : Nat) : ∃ k, IsBits N k := by
 have h : ∀ m, N < 2 ^ m → ∃ k, IsBits N k := by
  intro m
  induction m with
  | zero => intro h; exact ⟨0, h, fun h => absurd rfl h⟩
  | succ m ih =>
   intro h
   rcases Nat.lt_or_ge N (2 ^ m) with h1 | h1
   ·exact ih h1
   ·exact ⟨m + 1, h, fun _ => h1⟩
 exact h N Nat.lt_two_pow_self
end Go.Proofs.YtbejcollbkeedaaGreat
namespace Go.Proofs.YtbejcollbkeedaaGreat
open Go.RowKit
theorem wlSI_store {F : Fence} {n' : Nat} {P : Program} {w : World} {ops : Array Oper} {rest : List Oper} {o : Oper} {a : Act} {Q : Exit → Act → World → Prop} (hgd : o.guard = none) (ty n : Nat) (hi : (P.info? ty).map (·.size) = some n) (x y : Operand) (ho : o.op = .store ty x y) (g : Nat) (vs' : List Value) (hx : a.eval x = .pointer (some ⟨g, 0, none⟩)) (hy : a.eval y = .agg vs'.toArray) (t : TypeId) (vs : List Value) (hr : RowV t w g vs) (hl : vs.length = n) (hl' : vs'.length = n) (h1 : Ones vs')
  (h : ∀ w', RowV t w' g vs' → w.grownBy w' (some g) → True → wpListIn F n' P ops Q rest (a.put o.dst undef) w') : wpListIn F n' P ops Q (o :: rest) a w := by
 obtain ⟨w', hrun, hr', hg⟩ := exec_store (P := P) (w := w) (o := o) (a := a) ty n hi x y ho g vs' hx hy t vs hr hl hl' h1
 exact wpListIn_skips hgd (by rw [ho]; intro c hc; cases hc) (fun f hf => by simp [Oper.about, ho] at hf) hrun (h w' hr' hg trivial)
theorem Nu.kept {A B : World} {v : Value} {k : Nat} (h : Nu A v k) {row : Option Nat} (hg : A.grownBy B row) (hr : ∀ r, row = some r → ∃ o : Obj, A.heap[r]? = some o ∧ o.isCells = false) : Nu B v k := by
 obtain ⟨xs, p, n, c, e, hs, hn, hl⟩ := h
 exact ⟨xs, p, n, c, e, (hs.kept hg hr).more hg.size, hn, hl⟩
theorem Rt.kept {A B : World} {v : Value} {T : Nat × Nat × Nat} (h : Rt A v T) {row : Option Nat} (hg : A.grownBy B row) (hr : ∀ r, row = some r → ∃ o : Obj, A.heap[r]? = some o ∧ o.isCells = false) : Rt B v T := by
 obtain ⟨a, b, c, e, h1, h2, h3⟩ := h
 exact ⟨a, b, c, e, h1.kept hg hr, h2.kept hg hr, h3.kept hg hr⟩
theorem Pt.kept {A B : World} {v : Value} {R : Option (Nat × Nat)} (h : Pt A v R) {row : Option Nat} (hg : A.grownBy B row) (hr : ∀ r, row = some r → ∃ o : Obj, A.heap[r]? = some o ∧ o.isCells = false) : Pt B v R := by
 rcases R with _ | ⟨x, y⟩
 ·obtain ⟨a, b, e, h1, h2⟩ := h
  exact ⟨a, b, e, h1.kept hg hr, h2.kept hg hr⟩
 ·obtain ⟨a, b, e, h1, h2⟩ := h
  exact ⟨a, b, e, h1.kept hg hr, h2.kept hg hr⟩
def mlN (p b : Nat) (one : Nat × Nat × Nat) (r k0 : Nat) : Nat → Nat × Nat × Nat
 | 0 => (0, 1, 0)
 | j + 1 => if r / 2 ^ (k0 - (j + 1)) % 2 = 1 then rcbN p b (rcbN p b (mlN p b one r k0 j) (mlN p b one r k0 j)) one else rcbN p b (mlN p b one r k0 j) (mlN p b one r k0 j)
def MlJ (g k0 : Nat) (p b : Nat) (one : Nat × Nat × Nat) (r : Nat) (pre : List (Ix k0)) (W : World) : Prop :=
 ∃ v0 v1 v2 T, RowV 79 W g [v0, v1, v2] ∧ Rt W (.agg #[v0, v1, v2]) T ∧ (pre.map (·.1) = downL k0 pre.length → T = mlN p b one r k0 pre.length)
theorem Rt.parts {w : World} {a b c : Value} {T : Nat × Nat × Nat} (h : Rt w (.agg #[a, b, c]) T) : Nu w a T.1 ∧ Nu w b T.2.1 ∧ Nu w c T.2.2 := by
 obtain ⟨x, y, z, e, h1, h2, h3⟩ := h
 injection e with e
 simp at e
 obtain ⟨rfl, rfl, rfl⟩ := e
 exact ⟨h1, h2, h3⟩
def NoU3 (a b c : Value) : Prop := (∀ x, a ≠ .int .u64 x) ∧ (∀ x, b ≠ .int .u64 x) ∧ (∀ x, c ≠ .int .u64 x)
theorem Rt.three {w : World} {v : Value} {T : Nat × Nat × Nat} (h : Rt w v T) : ∃ v0 v1 v2, v = .agg #[v0, v1, v2] ∧ v0.oneCell' = true ∧ v1.oneCell' = true ∧ v2.oneCell' = true ∧ NoU3 v0 v1 v2 := by
 obtain ⟨a, b, c, rfl, h1, h2, h3⟩ := h
 exact ⟨a, b, c, rfl, h1.one, h2.one, h3.one, slU h1, slU h2, slU h3⟩
end Go.Proofs.YtbejcollbkeedaaGreat
namespace Go.Proofs.YtbejcollbkeedaaGreat
open Go.RowKit
attribute [local go_sem] Oper.semAt_some
theorem mlN_lt {p b : Nat} (hp : 0 < p) (hb : b < p) (one : Nat × Nat × Nat) (r k0 : Nat) : ∀ j, (mlN p b one r k0 j).2.2 < p
 | 0 => hp
 | j + 1 => by
  rw [mlN]
  split
  ·exact (rcbN_lt hp hb _ _).2.2
  ·exact (rcbN_lt hp hb _ _).2.2
theorem rtSt {W w8 W9 : World} {g g5 : Nat} {vs : List Value} (hb : Below W.heap.size W w8) (hr : RowV 79 W g vs) (hno : NoU W g) (hg : w8.grownBy W9 (some g)) (h5 : g5 < W.heap.size) (hne : g < g5) :
  (∀ B, KeepsFrom B W W9) ∧ Below g W W9 ∧ ∀ A n c xs, KpX g g5 A n c xs W W9 := by
 have hno8 : NoU w8 g := fun off x hx => hno off x (by rw [← hx]; exact (hb.cell (p := ⟨g, off, none⟩) hr.lt).symm)
 have hbg : Below g W W9 := below_grown (hb.mono (Nat.le_of_lt hr.lt)) hg (Nat.le_refl _) (by have := hb.size; have := hr.lt; omega)
 refine ⟨fun B => ⟨Nat.le_trans hb.size hg.size, fun k o _ h ho => ?_⟩, hbg, fun A n c xs => ⟨hbg, ?_, fun h => (h.later hb (Nat.le_refl _)).sb ⟨g, hno8, hg⟩⟩⟩
 ·have hk := (Array.getElem?_eq_some_iff.1 h).1
  refine ((hg.block k (Nat.lt_of_lt_of_le hk hb.size) (fun e => ?_)).trans (hb.block k hk)).trans h
  injection e with e
  subst e
  rw [show W.heap[k]? = _ from hr] at h
  injection h with h
  rw [← h] at ho
  cases ho
 ·exact (hg.block g5 (Nat.lt_of_lt_of_le h5 hb.size) (fun e => by injection e with e; omega)).trans (hb.block g5 h5)
theorem cMul_yes (w : World) (c : Int) (D : Crv) (hc : crvOf c = some D) (vk vP : Value) (kN : Nat) (hk : NumR w 64 kN vk) (P : Option (Nat × Nat)) (hP : Pg w vP P) (has : hasN D.p D.b P) (hn : 1 < D.n) (hnl : D.n < b64 ^ 64) (rN : Nat) (hrN : kN % D.n = rN) :
  Calls Tryz.prog 20 #[.int .i64 c, vk, vP] w fun e w' => ∃ v k0, e = .returned (.tuple #[v, .bool true]) ∧ IsBits rN k0 ∧ PtS D.p (mlN D.p D.b (rtN P) rN k0 k0) v w' ∧ Below w.heap.size w w' := by
 have hmx : Tryz.prog.follows .mixedOrders = true := by kernel_rfl
 have hok := crv_ok hc
 obtain ⟨iP, bP, dP, rfl⟩ := hP.ex
 obtain ⟨W0, e0, r0, b0, s0⟩ := newS w 26 [.bool iP, bP, dP] _ rfl
 obtain ⟨gP, hgP⟩ : ∃ x, w.heap.size = x := ⟨_, rfl⟩
 obtain ⟨W1, e1, r1, b1, s1⟩ := newS W0 26 [.bool false, .slice none 0 0, .slice none 0 0] _ rfl
 obtain ⟨gr, hgr⟩ : ∃ x, W0.heap.size = x := ⟨_, rfl⟩
 obtain ⟨W2, e2, r2, b2, s2⟩ := newS W1 26 [.bool iP, bP, dP] _ rfl
 obtain ⟨gs, hgs⟩ : ∃ x, W1.heap.size = x := ⟨_, rfl⟩
 rw [hgP] at r0
 rw [hgr] at r1
 rw [hgs] at r2
 have hbw : Below w.heap.size w W2 := ((b0).trans (b1.mono (b0).size)).trans (b2.mono ((b0).trans (b1.mono (b0).size)).size)
 have qgP := ((r0.later b1).later b2)
 have qgr := (r1.later b2)
 have qgs := r2
 have HB := hid hbw
 have HGL := hid (show w.heap.size ≤ gr ∧ gP < gr ∧ gr < W2.heap.size ∧ gP < W2.heap.size by omega)
 have hP3 := hP.later hbw
 have HPP := hid hP3
 have HRP := hid qgP
 have HRR := hid qgr
 have pp0 := (r0.later b1).at_ (i := 0) rfl
 have p0 := qgP.at_ (i := 0) rfl
 have pp1 := (r0.later b1).at_ (i := 1) rfl
 have p1 := qgP.at_ (i := 1) rfl
 have pp2 := (r0.later b1).at_ (i := 2) rfl
 have p2 := qgP.at_ (i := 2) rfl
 have HK := hid (hk.later hbw)
 have HN := hid (And.intro hn hnl)
 have HRN0 := hid hrN
 clear hk hn hnl hrN
 have HDW := hid (domW_any W2 c D hc hok.1 gs 1 1 [(.bool iP, bP, dP)] [P] rfl (by decide) rfl (PtsV.one qgs) (by
  intro k a b d R h1 h2
  rcases k with _ | k
  ·simp at h1 h2
   obtain ⟨rfl, rfl, rfl⟩ := h1
   subst h2
   exact hP3
  ·simp at h1))
 have HOK := hid hok
 have Hhas := hid has
 clear has b0 s0 r0 b1 s1 r1 b2 s2 r2 hbw qgP qgs qgr hok hc hP hP3
 refine (callsIn_wide (n := 9)).1 ?_
 refine callsIn_of_wp_marks Tryz.func20 rfl trivial ?_ rfl
 simp only [Tryz.ntmps20, List.size_toArray, List.length_cons, List.length_nil, Nat.reduceAdd, Nat.reduceSub, Array.replicate_succ, Array.replicate_zero, List.push_toArray, List.append_toArray, List.nil_append, List.cons_append]
 gi_wp2_with fail
 refine ⟨trivial, (callsIn_wide.2 HDW.out).mono ?_⟩
 rintro e w1 (⟨vd, rfl, hvd, hall, hb1⟩ | ⟨rfl, ⟨R, hR, hRn⟩, hb1⟩)
 rotate_left
 ·exfalso
  simp only [List.mem_cons, List.not_mem_nil, or_false] at hR
  subst hR
  exact hRn Hhas.out
 ·skip
  obtain ⟨vp, vb, vn, vx, vy, rfl, k1, k2, k3, k4, k5⟩ := hvd
  obtain ⟨Ap, np, cp, rfl⟩ := k1.sl
  obtain ⟨Ab, nb, cb, rfl⟩ := k2.sl
  obtain ⟨An, nn, cn, rfl⟩ := k3.sl
  obtain ⟨Ax, nx, cx, rfl⟩ := k4.sl
  obtain ⟨Ay, ny, cy, rfl⟩ := k5.sl
  have HDM := hid (show Dm w1 _ D from ⟨_, _, _, _, _, rfl, k1, k2, k3, k4, k5⟩)
  obtain ⟨W5, e5, r5, b5, s5⟩ := newS w1 73 [.int .i64 0, .slice none 0 0, .slice none 0 0, .slice none 0 0, .bool false, .slice none 0 0, .slice none 0 0] _ rfl
  obtain ⟨g8, hg8⟩ : ∃ x, w1.heap.size = x := ⟨_, rfl⟩
  rw [hg8] at r5
  have HB5 := hid b5
  have HB1 := hid hb1
  have HG8 := hid (show W2.heap.size ≤ g8 by have := hb1.size; omega)
  have HNU := hid (NoU.of_row r5 (by intro v hv x; simp only [List.mem_cons, List.not_mem_nil, or_false] at hv; rcases hv with rfl | rfl | rfl | rfl | rfl | rfl | rfl <;> (intro h; cases h)))
  clear k1 k2 k3 k4 k5 hall hb1 b5 s5 p0 p1 p2 pp0 pp1 pp2
  gi_wp2_with ((with_reducible show wpListIn _ _ _ _ _ (⟨none, _, _, _, _, _⟩ :: _) _ _); refine wlSI_store rfl 73 7 Tryz.sizeDom _ _ rfl g8 [.int .i64 (D.size : Int), .slice Ap np cp, .slice Ab nb cb, .slice An nn cn, .bool false, .slice Ax nx cx, .slice Ay ny cy] rfl rfl 73 _ r5 rfl rfl (by intro v hv; simp only [List.mem_cons, List.not_mem_nil, or_false] at hv; rcases hv with rfl | rfl | rfl | rfl | rfl | rfl | rfl <;> rfl) ?_; intro w6 hr6 hg6 hz)
  have hsb : Sb W5 w6 := ⟨g8, HNU.out, hg6⟩
  have HDM6 := hid ((HDM.out.later HB5.out).sb hsb)
  have HP6 := hid (((HPP.out.later HB1.out).later HB5.out).sb hsb)
  have HRP6 := hid (((HRP.out.later HB1.out).later HB5.out).grown hg6 (by have := HG8.out; have := HGL.out; omega))
  have HR8 := hid hr6
  have hbw1 := HB.out.trans (HB1.out.mono HB.out.size)
  have hbw5 := hbw1.trans (HB5.out.mono hbw1.size)
  have HBW := hid (below_grown hbw5 hg6 (by have := HG8.out; have := HGL.out; omega) hbw5.size)
  have HR := hid (((HRR.out.later HB1.out).later HB5.out).grown hg6 (by have := HG8.out; have := HGL.out; omega))
  have HNO6 := hid (NoU.of_row HR.out (noU3 nofun nofun nofun))
  have HNE := hid (show gP ≠ gr ∧ g8 ≠ gr by have := HG8.out; have := HGL.out; omega)
  have HK6 := hid (((HK.out.later HB1.out).later HB5.out).sb hsb)
  clear hsb hbw1 hbw5 HDM HB5 HB1 HPP HRP HRR hr6 hg6 hz HNU
  obtain ⟨kb, hkb⟩ := bits_ex kN
  have hkb2 : (kb : Int) ≤ 4096 := by
   have h1 := HK6.out.lt
   have : ¬ Lg 4096 kN := not_lg h1
   have h2 : ¬ 4096 < kb := fun h => this ((bits_gt (q := 4096) hkb).1 h)
   omega
  have HKB := hid hkb
  have HBI := hid (bits_u w6 vk kN HK6.out)
  clear hkb
  gi_wp2_with fail
  refine ⟨trivial, (callsIn_wide.2 HBI.out).mono ?_⟩
  rintro e w7 ⟨kb', rfl, hkb', rfl⟩
  obtain rfl : kb' = kb := hkb'.unique HKB.out
  have hkb3 : ¬ (4096 : Int) < kb' := by omega
  have f3 := HR8.out.at_ (i := 3) rfl
  have HMO := hid (mod_u w6 vk (.slice An nn cn) kN D.n HK6.out (by
   obtain ⟨_, _, _, _, _, he, _, _, h3, _⟩ := HDM6.out
   injection he with he
   simp at he
   obtain ⟨_, _, ⟨rfl, rfl, rfl⟩, _⟩ := he
   exact h3.gu) (by have := HN.out.1; omega))
  clear hkb' HBI
  gi_wp2_with fail
  refine ⟨trivial, (callsIn_wide.2 HMO.out).mono ?_⟩
  rintro e w7 ⟨vr, rfl, hvr, hb7⟩
  rw [HRN0.out] at hvr
  obtain ⟨Ar, nr, cr, rfl⟩ := hvr.sl
  have HVR7 := hid hvr
  have HP7 := hid (HP6.out.later hb7)
  have HDM7 := hid (HDM6.out.later hb7)
  have HRP7 := hid (HRP6.out.later hb7)
  have HR87 := hid (HR8.out.later hb7)
  have HR7 := hid (HR.out.later hb7)
  have HBW7 := hid (HBW.out.trans (hb7.mono HBW.out.size))
  have pq0 := HRP7.out.at_ (i := 0) rfl
  have pq1 := HRP7.out.at_ (i := 1) rfl
  have pq2 := HRP7.out.at_ (i := 2) rfl
  have HRO := hid (crof_any w7 (.agg #[.bool iP, bP, dP]) P HP7.out)
  clear hvr hb7 f3 HMO HDM6 HP6 HRP6 HR8 HR HBW HNO6 hkb2 hkb3 HK6
  gi_wp2_with fail
  refine ⟨trivial, (callsIn_wide.2 HRO.out).mono ?_⟩
  rintro e w8 ⟨v1, rfl, hv1, hb8⟩
  gi_wp2_with fail
  refine ⟨trivial, (callsIn_wide.2 (cinf_any w8)).mono ?_⟩
  rintro e w9 ⟨rfl, hb9⟩
  gi_wp2_with fail
  refine ⟨trivial, (callsIn_wide.2 (crof_any w9 inf0 none ⟨_, _, rfl, rfl, rfl⟩)).mono ?_⟩
  rintro e w10 ⟨v2, rfl, hv2, hb10⟩
  have hv1' := (hv1.later hb9).later hb10
  have hb78 := hb8.trans ((hb9.trans (hb10.mono hb9.size)).mono hb8.size)
  obtain ⟨A0, B0, C0, rfl, oa0, ob0, oc0, nu0⟩ := hv1'.three
  obtain ⟨A2, B2, C2, rfl, oa2, ob2, oc2, nu2⟩ := hv2.three
  obtain ⟨Wa, ea, ra, ba, sa⟩ := newS w10 79 [.slice none 0 0, .slice none 0 0, .slice none 0 0] _ rfl
  obtain ⟨g12, hg12⟩ : ∃ x, w10.heap.size = x := ⟨_, rfl⟩
  rw [hg12] at ra
  obtain ⟨Wb, eb, rb, bb, sb⟩ := newS Wa 79 [.slice none 0 0, .slice none 0 0, .slice none 0 0] _ rfl
  obtain ⟨g13, hg13⟩ : ∃ x, Wa.heap.size = x := ⟨_, rfl⟩
  rw [hg13] at rb
  have rab := ra.later bb
  have hlt : g12 < g13 ∧ g13 < Wb.heap.size ∧ w7.heap.size ≤ g12 := by have := hb78.size; omega
  have HLT := hid hlt
  have HO1 := hid (ones3 oa0 ob0 oc0)
  have HO2 := hid (ones3 oa2 ob2 oc2)
  have HNUA := hid (noU3 nu0.1 nu0.2.1 nu0.2.2)
  have HNUZ := hid (NoU.of_row rab (noU3 nofun nofun nofun))
  have HZD := hid (HDM7.out.later hb78)
  have HZ1 := hid hv1'
  have HZ8 := hid (HR87.out.later hb78)
  have HZB := hid (ba.trans (bb.mono ba.size))
  have HZL := hid (show w10.heap.size ≤ g12 by omega)
  have HV1 := hid ((hv1'.later ba).later bb)
  have HV2 := hid ((hv2.later ba).later bb)
  have hbb := hb78.trans ((ba.trans (bb.mono ba.size)).mono hb78.size)
  have HBB := hid hbb
  clear hv1 hb8 hb9 hb10 hv1' hv2 hb78 oa0 ob0 oc0 nu0 oa2 ob2 oc2 nu2 ba bb sa sb hlt ra pq0 pq1 pq2 HRO hbb
  gi_wp2_with (first | ((with_reducible show wpListIn _ _ _ _ _ (⟨none, _, _, _, _, _⟩ :: _) _ _); refine wlSI_store rfl 79 3 Tryz.sizeRt _ _ rfl g12 [A0, B0, C0] rfl rfl 79 _ rab rfl rfl HO1.out ?_; intro w11 hr11 hg11 hz; have rb2 := rb.grown hg11 (by have := HLT.out; omega)) | ((with_reducible show wpListIn _ _ _ _ _ (⟨none, _, _, _, _, _⟩ :: _) _ _); refine wlSI_store rfl 79 3 Tryz.sizeRt _ _ rfl g13 [A2, B2, C2] rfl rfl 79 _ rb2 rfl rfl HO2.out ?_; intro w12 hr12 hg12' hz))
  have hsb1 : Sb Wb w11 := ⟨g12, HNUZ.out, hg11⟩
  have hnz2 : NoU w11 g13 := NoU.of_row rb2 (noU3 nofun nofun nofun)
  have hsb2 : Sb w11 w12 := ⟨g13, hnz2, hg12'⟩
  have HR12 := hid (hr11.grown hg12' (by have := HLT.out; omega))
  have HV1' := hid ((HV1.out.sb hsb1).sb hsb2)
  have HV2' := hid ((HV2.out.sb hsb1).sb hsb2)
  have HVR := hid (((HVR7.out.later HBB.out).sb hsb1).sb hsb2)
  have HDM := hid (((HDM7.out.later HBB.out).sb hsb1).sb hsb2)
  have hlt8 := HR87.out.lt
  have hltr := HR7.out.lt
  have HR8 := hid (((HR87.out.later HBB.out).grown hg11 (by have := HLT.out; omega)).grown hg12' (by have := HLT.out; omega))
  have HR := hid (((HR7.out.later HBB.out).grown hg11 (by have := HLT.out; omega)).grown hg12' (by have := HLT.out; omega))
  have hbwb := HBW7.out.trans (HBB.out.mono HBW7.out.size)
  have hbw11 := below_grown hbwb hg11 (by have := HLT.out; have := HBW7.out.size; omega) hbwb.size
  have HBW := hid (below_grown hbw11 hg12' (by have := HLT.out; have := HBW7.out.size; omega) hbw11.size)
  have hz11 := below_grown HZB.out hg11 HZL.out HZB.out.size
  have HZW := hid (below_grown hz11 hg12' (by have := HZL.out; have := HLT.out; omega) hz11.size)
  have HR13 := hid hr12
  have HORD := hid (show g8 < g13 ∧ gr < g13 ∧ g12 < g13 ∧ g13 < w12.heap.size ∧ w.heap.size ≤ g13 by have := HLT.out; have := HBW7.out.size; have := hg12'.size; have := hg11.size; omega)
  clear hz11 HZB hsb1 hnz2 hsb2 hr11 hg11 hr12 hg12' hz HV1 HV2 HVR7 HDM7 HR87 HR7 HBW7 HBB HNUZ hlt8 hltr hbwb hbw11 rb rb2 HRP7 HP7 ea eb rab HLT hg12 hg13
  obtain ⟨ys, A9, n9, c9, heq, hs9, hn9, hl9⟩ := HVR.out
  injection heq with e1 e2 e3
  subst e1 e2 e3
  have hea := each_new w12 _ _ _ _ _ hs9 hn9.1 (by omega)
  rw [hn9.2.2] at hea
  have HEA := hid hea
  clear hea hs9 hn9 hl9
  gi_wp2_with fail
  refine ⟨trivial, (callsIn_wide.2 HEA.out).mono ?_⟩
  rintro e w13 ⟨g5, A5, n5, c5, ys5, rfl, hN5, hg5, hgn, hc5, hs5, hb13⟩
  obtain ⟨k0, hk0⟩ := bits_ex rN
  have HRN := hid (show rN < b64 ^ 64 from Nat.lt_trans (by rw [← HRN0.out]; exact Nat.mod_lt _ (by have := HN.out.1; omega)) HN.out.2)
  have hk1 : k0 ≤ 4096 := Classical.byContradiction fun h => not_lg HRN.out ((bits_gt (q := 4096) hk0).1 (by omega))
  have hn5 : n5 ≤ 64 := by
   rw [hs5.len]
   exact hN5.length_le (by decide) HRN.out
  have hes := eachX_stops 8 (by decide) g5 g13 n5 c5 A5 ys5 k0 (by rw [hN5.2.2]; exact hk0) hN5.1 (by omega) (by omega) w13 hg5 hc5 hs5
  rw [hN5.2.2] at hes
  have HZX := hid (HZW.out.trans (hb13.mono HZW.out.size))
  have HO := hid (show w10.heap.size ≤ g13 ∧ g8 < g13 ∧ gr < g13 ∧ g12 < g13 ∧ g13 < w13.heap.size ∧ w.heap.size ≤ g13 ∧ g13 < g5 ∧ g5 < w13.heap.size ∧ w12.heap.size ≤ w13.heap.size by have := HORD.out; have := hb13.size; have := HZL.out; omega)
  have HJ0 := hid (show MlJ g13 k0 D.p D.b (rtN P) rN [] w13 from ⟨A2, B2, C2, rtN none, HR13.out.later hb13, HV2'.out.later hb13, fun _ => rfl⟩)
  have HES := hid hes
  have HK0 := hid hk0
  have HC5 := hid hc5
  have HS5 := hid hs5
  have H12 := hid (HR12.out.later hb13)
  have HO1' := hid (HV1'.out.later hb13)
  have HDM1 := hid (HDM.out.later hb13)
  have H8 := hid (HR8.out.later hb13)
  have HRR := hid (HR.out.later hb13)
  have HBX := hid (HBW.out.trans (hb13.mono HBW.out.size))
  clear hes hk0 hN5 hc5 hs5 hb13 hk1 hn5 hgn HR12 HV1' HV2' HVR HDM HR8 HR HBW HR13 HORD HEA
  gi_wp2_with fail
  refine wpIn_rangeFunc_ownG rfl (by omega) (gf := 86) (lb := #[.pointer (some ⟨g5, 0, none⟩)]) rfl trivial (enters_of Tryz.func86 (by kernel_rfl) rfl)
   HES.out KpX.trans (KpX.put (by have := HO.out; omega) hg5) (Below.refl _ _) (fun _ => rfl)
   (fun pre W => MlJ g13 k0 D.p D.b (rtN P) rN pre W ∧ Below g13 w13 W)
   (fun _ _ _ => False)
   (OwnFrom.and (Own.from (fun s A B row hs hg hr => by
    obtain ⟨v0, v1, v2, T, e1, e2, e3⟩ := hs
    exact ⟨v0, v1, v2, T, e1.kept hg hr, e2.kept hg hr, e3⟩) _) (ownFrom_below (by have := HO.out; omega) (by have := HO.out; omega)))
   (fun _ _ _ _ _ hs _ _ => hs)
   ⟨HJ0.out, Below.refl _ _⟩
   ?a1x ?assign ?body ?done ?stop
  case assign =>
   intro l x W K hK
   gi_wp2
   exact hK
  case body =>
   rintro l pre x W ⟨⟨v0, v1, v2, T, e1, e2, e3⟩, hBW⟩ hpl
   have hzW : Below w10.heap.size w10 W := HZX.out.trans (hBW.mono (by have := HO.out; omega))
   have r8 := HZ8.out.later hzW
   have f0 := r8.at_ (i := 0) rfl
   have f1 := r8.at_ (i := 1) rfl
   have f2 := r8.at_ (i := 2) rfl
   have f3 := r8.at_ (i := 3) rfl
   have f4 := r8.at_ (i := 4) rfl
   have f5 := r8.at_ (i := 5) rfl
   have f6 := r8.at_ (i := 6) rfl
   have t0 := e1.at_ (i := 0) rfl
   have t1 := e1.at_ (i := 1) rfl
   have t2 := e1.at_ (i := 2) rfl
   have HADD := hid (cadd_any W D T T _ _ _ (HZD.out.later hzW) e2 e2 (by have := HOK.out.1.1; omega) HOK.out.1.2.1 HOK.out.1.2.2)
   have HE1 := hid e1
   have HE2 := hid e2
   have HE3 := hid e3
   have HBWW := hid hBW
   have HZWW := hid hzW
   have hno : NoU3 v0 v1 v2 := by
    obtain ⟨q1, q2, q3⟩ := e2.parts
    exact ⟨slU q1, slU q2, slU q3⟩
   have HNOW := hid hno
   have HPL := hid hpl
   obtain ⟨i, hi⟩ := x
   obtain ⟨bv, hbv⟩ : ∃ bv, rN / 2 ^ i % 2 = bv := ⟨_, rfl⟩
   have hb2 : bv = 0 ∨ bv = 1 := by have := Nat.mod_lt (rN / 2 ^ i) (show 0 < 2 by decide); omega
   have HBV := hid hbv
   have hbi : (rN : Int) / 2 ^ i % 2 = (bv : Int) := by rw [← hbv]; simp
   have hbit : ∀ (hin : (pre ++ [(⟨i, hi⟩ : Ix k0)]).map (·.1) = downL k0 (pre ++ [(⟨i, hi⟩ : Ix k0)]).length), pre.map (·.1) = downL k0 pre.length ∧ i = k0 - (pre.length + 1) := by
    intro h
    rw [List.length_append, List.length_singleton, downL_succ, List.map_append] at h
    obtain ⟨h1, h2⟩ := List.append_inj' h rfl
    exact ⟨h1, by simp at h2; omega⟩
   have HBIT := hid hbit
   clear e2 e3 hBW hzW r8 hno hpl hbv hbit e1
   gi_wp2_with fail
   refine ⟨trivial, (CallsIn.inRound l (callsIn_wide.2 HADD.out)).mono ?_⟩
   rintro e w20 ⟨va, rfl, hva, hb20⟩
   obtain ⟨A20, B20, C20, rfl, oa, ob, oc, nu20⟩ := hva.three
   have HON := hid (ones3 oa ob oc)
   have HVA := hid hva
   have HB20 := hid hb20
   have hr20 := HE1.out.later hb20
   clear hva oa ob oc hb20 f0 f1 f2 f3 f4 f5 f6 t0 t1 t2
   have hnoW : NoU W g13 := NoU.of_row HE1.out (noU3 HNOW.out.1 HNOW.out.2.1 HNOW.out.2.2)
   have hno20 : NoU w20 g13 := NoU.of_row hr20 (noU3 HNOW.out.1 HNOW.out.2.1 HNOW.out.2.2)
   have HN20 := hid (And.intro hnoW hno20)
   have hg5W : g5 < W.heap.size := by have := HO.out; have := HBWW.out.size; omega
   have HG5W := hid hg5W
   clear hnoW hno20 hg5W
   rcases hb2 with h0 | h1
   ·subst h0
    gi_wp2_with ((with_reducible show wpListIn _ _ _ _ _ (⟨none, _, _, _, _, _⟩ :: _) _ _); refine wlSI_store rfl 79 3 Tryz.sizeRt _ _ rfl g13 [A20, B20, C20] rfl rfl 79 _ hr20 rfl rfl HON.out ?_; intro w21 hr21 hg21 hz)
    obtain ⟨s1, s2, s3⟩ := rtSt (g5 := g5) HB20.out HE1.out HN20.out.1 hg21 HG5W.out (by have := HO.out; omega)
    refine ⟨s1 _, s3 _ _ _ _, ⟨A20, B20, C20, _, hr21, HVA.out.sb ⟨g13, HN20.out.2, hg21⟩, fun hin => ?_⟩, HBWW.out.trans s2⟩
    obtain ⟨h1, h2⟩ := HBIT.out hin
    have h3 := HE3.out h1
    rw [List.length_append, List.length_singleton]
    show _ = mlN _ _ _ _ _ (pre.length + 1)
    rw [mlN, ← h2, HBV.out, if_neg (by decide), ← h3]
   ·subst h1
    have r8' := HZ8.out.later HZWW.out
    have r12' : RowV 79 W g12 [A0, B0, C0] := H12.out.below HBWW.out (by have := HO.out; omega)
    have HR8W := hid (r8'.later HB20.out)
    have HR12W := hid (r12'.later HB20.out)
    have HNEE := hid (show g8 ≠ g13 ∧ g12 ≠ g13 by have := HO.out; omega)
    clear r8' r12'
    gi_wp2_with ((with_reducible show wpListIn _ _ _ _ _ (⟨none, _, _, _, _, _⟩ :: _) _ _); refine wlSI_store rfl 79 3 Tryz.sizeRt _ _ rfl g13 [A20, B20, C20] rfl rfl 79 _ hr20 rfl rfl HON.out ?_; intro w21 hr21 hg21 hz; have q8 := HR8W.out.grown hg21 HNEE.out.1; have q12 := HR12W.out.grown hg21 HNEE.out.2; have f0 := q8.at_ (i := 0) rfl; have f1 := q8.at_ (i := 1) rfl; have f2 := q8.at_ (i := 2) rfl; have f3 := q8.at_ (i := 3) rfl; have f4 := q8.at_ (i := 4) rfl; have f5 := q8.at_ (i := 5) rfl; have f6 := q8.at_ (i := 6) rfl; have t0 := hr21.at_ (i := 0) rfl; have t1 := hr21.at_ (i := 1) rfl; have t2 := hr21.at_ (i := 2) rfl; have u0 := q12.at_ (i := 0) rfl; have u1 := q12.at_ (i := 1) rfl; have u2 := q12.at_ (i := 2) rfl)
    have hsb21 : Sb w20 w21 := ⟨g13, HN20.out.2, hg21⟩
    have HVA21 := hid (HVA.out.sb hsb21)
    have HADD2 := hid (cadd_any w21 D (rcbN D.p D.b T T) (rtN P) _ _ _ (((HZD.out.later HZWW.out).later HB20.out).sb hsb21) HVA21.out (((HZ1.out.later HZWW.out).later HB20.out).sb hsb21) (by have := HOK.out.1.1; omega) HOK.out.1.2.1 HOK.out.1.2.2)
    have HR21 := hid hr21
    have HG21 := hid hg21
    have hnu21 : NoU3 A20 B20 C20 := by
     obtain ⟨q1, q2, q3⟩ := HVA.out.parts
     exact ⟨slU q1, slU q2, slU q3⟩
    have HNU21 := hid hnu21
    clear hsb21 hr21 hg21 hz f0 f1 f2 f3 f4 f5 f6 t0 t1 t2 u0 u1 u2 q8 q12 hnu21
    refine ⟨trivial, (CallsIn.inRound l (callsIn_wide.2 HADD2.out)).mono ?_⟩
    rintro e w22 ⟨vb2, rfl, hvb, hb22⟩
    obtain ⟨A22, B22, C22, rfl, oa, ob, oc, nu22⟩ := hvb.three
    have HON2 := hid (ones3 oa ob oc)
    have HVB := hid hvb
    have HB22 := hid hb22
    have hr22 := HR21.out.later hb22
    clear hvb oa ob oc hb22
    gi_wp2_with ((with_reducible show wpListIn _ _ _ _ _ (⟨none, _, _, _, _, _⟩ :: _) _ _); refine wlSI_store rfl 79 3 Tryz.sizeRt _ _ rfl g13 [A22, B22, C22] rfl rfl 79 _ hr22 rfl rfl HON2.out ?_; intro w23 hr23 hg23 hz)
    obtain ⟨s1, s2, s3⟩ := rtSt (g5 := g5) HB20.out HE1.out HN20.out.1 HG21.out HG5W.out (by have := HO.out; omega)
    have hno21 : NoU w21 g13 := NoU.of_row HR21.out (noU3 HNU21.out.1 HNU21.out.2.1 HNU21.out.2.2)
    have hno22 : NoU w22 g13 := NoU.of_row hr22 (noU3 HNU21.out.1 HNU21.out.2.1 HNU21.out.2.2)
    obtain ⟨z1, z2, z3⟩ := rtSt (g5 := g5) HB22.out HR21.out hno21 hg23 (by have := HG5W.out; have := s2.size; omega) (by have := HO.out; omega)
    refine ⟨(s1 _).trans (z1 _), (s3 _ _ _ _).trans (z3 _ _ _ _), ⟨A22, B22, C22, _, hr23, HVB.out.sb ⟨g13, hno22, hg23⟩, fun hin => ?_⟩, HBWW.out.trans (s2.trans z2)⟩
    obtain ⟨h1, h2⟩ := HBIT.out hin
    have h3 := HE3.out h1
    rw [List.length_append, List.length_singleton]
    show _ = mlN _ _ _ _ _ (pre.length + 1)
    rw [mlN, ← h2, HBV.out, if_pos rfl, ← h3]
  case done =>
   rintro E ds W hD hds ⟨⟨v0, v1, v2, T, e1, e2, e3⟩, hBW⟩ hK
   have hl : ds.length = k0 := by have h := congrArg List.length hds; rwa [List.length_map, downL_length] at h
   have hfin := e3 (by rw [hl]; exact hds)
   rw [hl] at hfin
   have hzW : Below w10.heap.size w10 W := HZX.out.trans (hBW.mono (by have := HO.out; omega))
   have r8 := HZ8.out.later hzW
   have f0 := r8.at_ (i := 0) rfl
   have f1 := r8.at_ (i := 1) rfl
   have f2 := r8.at_ (i := 2) rfl
   have f3 := r8.at_ (i := 3) rfl
   have f4 := r8.at_ (i := 4) rfl
   have f5 := r8.at_ (i := 5) rfl
   have f6 := r8.at_ (i := 6) rfl
   have t0 := e1.at_ (i := 0) rfl
   have t1 := e1.at_ (i := 1) rfl
   have t2 := e1.at_ (i := 2) rfl
   have HPT := hid (cpt_any W D T _ _ (HZD.out.later hzW) e2 (by have := HOK.out.1.1; omega) (fun h0 => cop_lt HOK.out.2 (by rw [hfin]; exact mlN_lt (by have := HOK.out.1.1; omega) HOK.out.1.2.2 _ _ _ _) h0))
   have HFIN := hid hfin
   have HRW := hid (show RowV 26 W gr [.bool false, .slice none 0 0, .slice none 0 0] from HRR.out.below hBW (by have := HO.out; omega))
   have HBWW := hid hBW
   have HKD := hid hK
   have HDD := hid hD
   have HNEE := hid (show E ≠ gr by have h1 : w13.heap.size ≤ E := hD; have := HO.out; omega)
   clear e3 e2 hfin hzW r8 hl hds hBW hK hD e1
   gi_wp2_with fail
   refine ⟨trivial, (callsIn_wide.2 HPT.out).mono ?_⟩
   rintro e w24 ⟨v, R, rfl, hR, hv, hb24⟩
   obtain ⟨A24, B24, C24, rfl, oa, ob, oc, nu24⟩ := hv.three
   have HON3 := hid (ones3 oa ob oc)
   have HV := hid hv
   have HRP := hid hR
   have HB24 := hid hb24
   have hr24 := HRW.out.later hb24
   clear hv hR oa ob oc nu24 hb24 f0 f1 f2 f3 f4 f5 f6 t0 t1 t2
   gi_wp2_with ((with_reducible show wpListIn _ _ _ _ _ (⟨none, _, _, _, _, _⟩ :: _) _ _); refine wlSI_store rfl 26 3 Tryz.sizePt _ _ rfl gr [A24, B24, C24] rfl rfl 26 _ hr24 rfl rfl HON3.out ?_; intro w25 hr25 hg25 hz)
   have hltE := (Array.getElem?_eq_some_iff.1 HKD.out).1
   have hK25 : w25.heap[E]? = _ := (hg25.block E (Nat.lt_of_lt_of_le hltE HB24.out.size) (fun e => by injection e with e; exact HNEE.out e)).trans ((HB24.out.block E hltE).trans HKD.out)
   refine ⟨by simp, .inl ⟨_, _, rfl, run_takeDeferred hK25, ?_⟩⟩
   have hgp := grownBy_putObj' w25 E (.deferred none)
   have hgr2 : ∀ r', some E = some r' → ∃ o, w25.heap[r']? = some o ∧ o.isCells = false := fun r' e => by cases e; exact ⟨_, hK25, rfl⟩
   have hrF := hr25.kept hgp hgr2
   refine ⟨_, results_pt2 rfl _ gr _ rfl hrF rfl, _, k0, rfl, HK0.out, ⟨R, by rw [← HFIN.out]; exact HRP.out, (HV.out.sb ⟨gr, NoU.of_row hr24 (noU3 nofun nofun nofun), hg25⟩).kept hgp hgr2⟩, ?_⟩
   have hb1 := HBX.out.trans (HBWW.out.mono (by have := HO.out; omega))
   have hb2 := hb1.trans (HB24.out.mono hb1.size)
   have hb3 := below_grown hb2 hg25 HGL.out.1 hb2.size
   exact below_grown hb3 hgp (by have h1 : w13.heap.size ≤ E := HDD.out; have := HBX.out.size; omega) hb3.size
  case stop =>
   rintro E c' pre W _ _ h _
   exact h.elim
end Go.Proofs.YtbejcollbkeedaaGreat
namespace Go.Proofs.YtbejcollbkeedaaGreat
open Lean.Grind Cw
section
variable {p : Nat} [NeZero p]
theorem sub_add_p {K : Type} [CommRing K] (x y : K) : x + 0 - y = x - y := by grind
theorem zp_sumN (a b : Nat) : zp p (sumN p a b) = zp p a + zp p b := by
 unfold sumN
 split
 ·next h =>
  rw [zp_sub h, zp_add, zp_p]
  generalize zp p a + zp p b = x
  grind
 ·exact zp_add a b
theorem zp_difN {a b : Nat} (h : b ≤ a + p) : zp p (difN p a b) = zp p a - zp p b := by
 unfold difN
 split
 ·next h1 => exact zp_sub h1
 ·rw [zp_sub h, zp_add, zp_p, sub_add_p]
theorem zp_mulP (a b : Nat) : zp p (mulP p a b) = zp p a * zp p b := by rw [mulP, zp_mod, zp_mul]
theorem zp_mm (a b : Nat) : zp p (a * b % p) = zp p a * zp p b := by rw [zp_mod, zp_mul]
theorem zp_subP {a b : Nat} (h : b ≤ a + p) : zp p (subP p a b) = zp p a - zp p b := by
 rw [subP, zp_mod, zp_sub h, zp_add, zp_p, sub_add_p]
theorem zp_trN (a : Nat) : zp p (trN p a) = zp p a + zp p a + zp p a := by rw [trN, zp_sumN, zp_sumN]
theorem two_is {K : Type} [CommRing K] : (1 : K) + 1 = 2 := by grind
theorem zp_2 : zp p 2 = 2 := by
 have h2 : zp p 2 = zp p 1 + zp p 1 := by rw [← zp_add]
 rw [h2, zp_1]
 exact two_is
def zt (p : Nat) [NeZero p] (T : Nat × Nat × Nat) : Fin p × Fin p × Fin p := (zp p T.1, zp p T.2.1, zp p T.2.2)
omit [NeZero p] in
theorem le_ap {a b : Nat} (h : b < p) : b ≤ a + p := Nat.le_trans (Nat.le_of_lt h) (Nat.le_add_left _ _)
theorem zt_rcbN {b : Nat} (hb : b < p) (P Q : Nat × Nat × Nat) : zt p (rcbN p b P Q) = rcb (zp p b) (zt p P) (zt p Q) := by
 have hp : 0 < p := by omega
 obtain ⟨h1, h2, h3, h4, h5, h6, h7, h8, h9, h10, h11⟩ := nums_lt hp hb P Q
 have m : ∀ x, x % p < p := fun x => Nat.mod_lt x hp
 have e1 : zp p (nXX p P Q) = zp p P.1 * zp p Q.1 := zp_mm _ _
 have e2 : zp p (nYY p P Q) = zp p P.2.1 * zp p Q.2.1 := zp_mm _ _
 have e3 : zp p (nZZ p P Q) = zp p P.2.2 * zp p Q.2.2 := zp_mm _ _
 have e4 : zp p (nXY p P Q) = zp p P.1 * zp p Q.2.1 + zp p P.2.1 * zp p Q.1 := by rw [nXY, zp_sumN, zp_mm, zp_mm]
 have e5 : zp p (nXZ p P Q) = zp p P.1 * zp p Q.2.2 + zp p P.2.2 * zp p Q.1 := by rw [nXZ, zp_sumN, zp_mm, zp_mm]
 have e6 : zp p (nYZ p P Q) = zp p P.2.1 * zp p Q.2.2 + zp p P.2.2 * zp p Q.2.1 := by rw [nYZ, zp_sumN, zp_mm, zp_mm]
 have e7 : zp p (nS p b P Q) = (zp p (nXZ p P Q) - zp p b * zp p (nZZ p P Q)) + (zp p (nXZ p P Q) - zp p b * zp p (nZZ p P Q)) + (zp p (nXZ p P Q) - zp p b * zp p (nZZ p P Q)) := by
  rw [nS, zp_trN, zp_difN (le_ap (m _)), zp_mm]
 have e8 : zp p (nT p P Q) = (zp p (nXX p P Q) - zp p (nZZ p P Q)) + (zp p (nXX p P Q) - zp p (nZZ p P Q)) + (zp p (nXX p P Q) - zp p (nZZ p P Q)) := by
  rw [nT, zp_trN, zp_difN (le_ap h3)]
 have e9 : zp p (nW p b P Q) = (zp p b * zp p (nXZ p P Q) - zp p (nXX p P Q) - (zp p (nZZ p P Q) + zp p (nZZ p P Q) + zp p (nZZ p P Q))) + (zp p b * zp p (nXZ p P Q) - zp p (nXX p P Q) - (zp p (nZZ p P Q) + zp p (nZZ p P Q) + zp p (nZZ p P Q))) + (zp p b * zp p (nXZ p P Q) - zp p (nXX p P Q) - (zp p (nZZ p P Q) + zp p (nZZ p P Q) + zp p (nZZ p P Q))) := by
  rw [nW, zp_trN, zp_difN (le_ap (trN_lt h3)), zp_difN (le_ap h1), zp_mm, zp_trN]
 have e10 : zp p (nPl p b P Q) = zp p (nYY p P Q) + zp p (nS p b P Q) := by rw [nPl, zp_sumN]
 have e11 : zp p (nMi p b P Q) = zp p (nYY p P Q) - zp p (nS p b P Q) := by rw [nMi, zp_difN (le_ap h7)]
 show (zp p (difN p (nXY p P Q * nPl p b P Q % p) (nYZ p P Q * nW p b P Q % p)), zp p (sumN p (nT p P Q * nW p b P Q % p) (nMi p b P Q * nPl p b P Q % p)), zp p (sumN p (nYZ p P Q * nMi p b P Q % p) (nXY p P Q * nT p P Q % p))) = _
 rw [zp_difN (le_ap (m _)), zp_sumN, zp_sumN, zp_mm, zp_mm, zp_mm, zp_mm, zp_mm, zp_mm, e10, e11, e9, e8, e7, e1, e2, e3, e4, e5, e6]
 rfl
def lfp (p : Nat) [NeZero p] : Option (Nat × Nat) → Option (Fin p × Fin p)
 | none => none
 | some (x, y) => some (zp p x, zp p y)
def Inp (p : Nat) : Option (Nat × Nat) → Prop
 | none => True
 | some (x, y) => x < p ∧ y < p
theorem lfp_inj {P Q : Option (Nat × Nat)} (hP : Inp p P) (hQ : Inp p Q) (h : lfp p P = lfp p Q) : P = Q := by
 rcases P with _ | ⟨x, y⟩ <;> rcases Q with _ | ⟨u, v⟩
 ·rfl
 ·cases h
 ·cases h
 ·simp only [lfp, Option.some.injEq, Prod.mk.injEq] at h
  rw [zp_inj hP.1 hQ.1 h.1, zp_inj hP.2 hQ.2 h.2]
theorem cubic_is {K : Type} [CommRing K] (x b : K) : x * (x * x - 3) + b = x * x * x - 3 * x + b := by grind
theorem has_iff {b : Nat} (hp3 : 3 ≤ p) (hb : b < p) (P : Option (Nat × Nat)) : hasN p b P ↔ Inp p P ∧ onC (zp p b) (lfp p P) := by
 rcases P with _ | ⟨x, y⟩
 ·exact ⟨fun _ => ⟨trivial, trivial⟩, fun _ => trivial⟩
 ·have hp : 0 < p := by omega
  have m : ∀ x, x % p < p := fun x => Nat.mod_lt x hp
  have e1 : zp p (y * y % p) = zp p y * zp p y := zp_mm _ _
  have e2 : zp p (sumN p (x * difN p (x * x % p) 3 % p) b) = zp p x * zp p x * zp p x - 3 * zp p x + zp p b := by
   rw [zp_sumN, zp_mm, zp_difN (by omega), zp_mm, zp_3]
   exact cubic_is _ _
  have hl : sumN p (x * difN p (x * x % p) 3 % p) b < p := sumN_lt (m _) hb
  constructor
  ·rintro ⟨h1, h2, h3⟩
   refine ⟨⟨h1, h2⟩, ?_⟩
   show zp p y * zp p y = zp p x * zp p x * zp p x - 3 * zp p x + zp p b
   rw [← e1, ← e2, h3]
  ·rintro ⟨⟨h1, h2⟩, h3⟩
   refine ⟨h1, h2, zp_inj (m _) hl ?_⟩
   rw [e1, e2]
   exact h3
theorem on_iff {D : Crv} [NeZero D.p] (hb : D.b < D.p) (P : Option (Nat × Nat)) : onP D P ↔ Inp D.p P ∧ onC (zp D.p D.b) (lfp D.p P) := by
 rcases P with _ | ⟨x, y⟩
 ·exact ⟨fun _ => ⟨trivial, trivial⟩, fun _ => trivial⟩
 ·have hp : 0 < D.p := by omega
  have m : ∀ x, x % D.p < D.p := fun x => Nat.mod_lt x hp
  have e1 : zp D.p (mulP D.p y y) = zp D.p y * zp D.p y := zp_mulP _ _
  have e2 : zp D.p ((subP D.p (mulP D.p (mulP D.p x x) x) (mulP D.p 3 x) + D.b) % D.p) = zp D.p x * zp D.p x * zp D.p x - 3 * zp D.p x + zp D.p D.b := by
   rw [zp_mod, zp_add, zp_subP (b := mulP D.p 3 x) (le_ap (m _)), zp_mulP, zp_mulP, zp_mulP, zp_3]
  constructor
  ·rintro ⟨h1, h2, h3⟩
   refine ⟨⟨h1, h2⟩, ?_⟩
   show zp D.p y * zp D.p y = zp D.p x * zp D.p x * zp D.p x - 3 * zp D.p x + zp D.p D.b
   rw [← e1, ← e2, show mulP D.p y y = _ from h3]
  ·rintro ⟨⟨h1, h2⟩, h3⟩
   refine ⟨h1, h2, zp_inj (m _) (m _) ?_⟩
   rw [e1, e2]
   exact h3
theorem rtN_stands (h1 : (1 : Fin p) ≠ 0) (P : Option (Nat × Nat)) : Stands (zt p (rtN P)) (lfp p P) := by
 rcases P with _ | ⟨x, y⟩
 ·exact ⟨zp_0, h1, zp_0⟩
 ·refine ⟨h1, ?_, ?_⟩
  ·show zp p x = 1 * zp p x
   generalize zp p x = a
   grind
  ·show zp p y = 1 * zp p y
   generalize zp p y = a
   grind
theorem back_is {K : Type} [CommRing K] {z i t x : K} (h : z * i = 1) (ht : t = z * x) : t * i = x := by grind
theorem PtR.lf {T : Nat × Nat × Nat} {R : Option (Nat × Nat)} {Q : Option (Fin p × Fin p)} (h : PtR p T R) (hs : Stands (zt p T) Q) (hz : T.2.2 < p) : Inp p R ∧ lfp p R = Q := by
 have m : ∀ x, x % p < p := fun x => Nat.mod_lt x (by omega)
 rcases h with ⟨h0, rfl⟩ | ⟨h0, i, hi, h1, rfl⟩
 ·rcases Q with _ | ⟨x, y⟩
  ·exact ⟨trivial, rfl⟩
  ·refine absurd ?_ hs.1
   show zp p T.2.2 = 0
   rw [h0, zp_0]
 ·rcases Q with _ | ⟨x, y⟩
  ·exact absurd (zp_eq0 hz hs.2.2) h0
  ·refine ⟨⟨m _, m _⟩, ?_⟩
   have e : zp p T.2.2 * zp p i = 1 := by rw [← zp_mm, h1, zp_1]
   show some (zp p (T.1 * i % p), zp p (T.2.1 * i % p)) = some (x, y)
   rw [zp_mm, zp_mm, back_is e (show zp p T.1 = zp p T.2.2 * x from hs.2.1), back_is e (show zp p T.2.1 = zp p T.2.2 * y from hs.2.2)]
variable {b : Nat} (C : Cv (Fin p) (zp p b))
include C
end
end Go.Proofs.YtbejcollbkeedaaGreat
namespace Go.Proofs.YtbejcollbkeedaaGreat
open Go.RowKit
theorem rAdd9_opp (w : World) (vc : Value) (D : Crv) (hc : Cr w vc D) (hp : Bp D.p) (a qx qy : Value) (Ac : Option Addr) (nc cc : Nat) (x1 y1 x2 y2 : Nat) (ha : Nb w a x1) (hb : Nb w (.slice Ac nc cc) y1) (hqx : Nb w qx x2) (hqy : Nb w qy y2) (hx : x1 < D.p) (hy : y1 < D.p) (hx2 : x2 < D.p) (hy2 : y2 < D.p) (hxx : x1 = x2) (hyy : y1 ≠ y2) :
  Calls Tryz.prog 18 #[vc, .agg #[.bool false, a, .slice Ac nc cc], .agg #[.bool false, qx, qy]] w fun e w' => ∃ v, e = .returned v ∧ Rp w' v none ∧ Below w.heap.size w w' := by
 have hmx : Tryz.prog.follows .mixedOrders = true := by kernel_rfl
 obtain ⟨vp, vn, vb, vx, vy, rfl, kp, kb⟩ := hc.pr
 obtain ⟨W0, e0, r0, b0, s0⟩ := newS w 30 [vp, vn, vb, vx, vy, .int .i64 (D.size : Int)] _ rfl
 obtain ⟨W1, e1, r1, b1, s1⟩ := newS W0 33 [.bool false, a, .slice Ac nc cc] _ rfl
 obtain ⟨Wq, eq, rq, bq, sq⟩ := newS W1 33 [.bool false, qx, qy] _ rfl
 obtain ⟨W2, e2, r2, b2, s2⟩ := newS Wq 33 [.bool false, .slice none 0 0, .slice none 0 0] _ rfl
 obtain ⟨g0, hg0⟩ : ∃ g, w.heap.size = g := ⟨_, rfl⟩
 obtain ⟨g1, hg1⟩ : ∃ g, W0.heap.size = g := ⟨_, rfl⟩
 obtain ⟨gq, hgq⟩ : ∃ g, W1.heap.size = g := ⟨_, rfl⟩
 obtain ⟨gr, hgr⟩ : ∃ g, Wq.heap.size = g := ⟨_, rfl⟩
 have hb1 := b0.trans (b1.mono b0.size)
 have hbq := hb1.trans (bq.mono hb1.size)
 have hbw := hbq.trans (b2.mono hbq.size)
 have HGL := hid (show w.heap.size ≤ gr ∧ g0 ≠ gr ∧ g1 ≠ gr ∧ gq ≠ gr by omega)
 rw [hg0] at r0
 rw [hg1] at r1
 rw [hgq] at rq
 rw [hgr] at r2
 have r02 := ((r0.later b1).later bq).later b2
 have r12 := (r1.later bq).later b2
 have rq2 := rq.later b2
 have HB := hid hbw
 have HR0 := hid r02
 have HR1 := hid r12
 have HRQ := hid rq2
 have HRR := hid r2
 have HCR := hid (hc.later hbw)
 have HKP := hid (kp.later hbw)
 have HA := hid (ha.later hbw)
 have HBB := hid (hb.later hbw)
 have HQX := hid (hqx.later hbw)
 have HQY := hid (hqy.later hbw)
 have HP := hid hp
 have HX := hid hx
 have HY := hid hy
 have HX2 := hid hx2
 have HY2 := hid hy2
 have d0 := HR1.out.at_ (i := 0) rfl
 have d1 := HR1.out.at_ (i := 1) rfl
 have q0 := HRQ.out.at_ (i := 0) rfl
 have q1 := HRQ.out.at_ (i := 1) rfl
 have HM := hid (rcmp_b W2 a qx x1 x2 HA.out HQX.out)
 clear b0 b1 b2 bq s0 s1 s2 sq hb1 hbq hbw r0 r1 r2 rq r02 r12 rq2 hc kp kb ha hb hqx hqy hp hx hy hx2 hy2
 go_enter Tryz.func18, Tryz.ntmps18
 go_wp2_with fail
 refine HM.out.mono ?_
 rintro e w3 ⟨rfl, hbz⟩
 replace HR0 := hid (HR0.out.later hbz)
 replace HR1 := hid (HR1.out.later hbz)
 replace HRQ := hid (HRQ.out.later hbz)
 replace HRR := hid (HRR.out.later hbz)
 replace HCR := hid (HCR.out.later hbz)
 replace HKP := hid (HKP.out.later hbz)
 replace HA := hid (HA.out.later hbz)
 replace HBB := hid (HBB.out.later hbz)
 replace HQX := hid (HQX.out.later hbz)
 replace HQY := hid (HQY.out.later hbz)
 replace HB := hid (HB.out.trans (hbz.mono HB.out.size))
 clear hbz HM d0 d1 q0 q1
 have e1 := (ncmpEq (a := x1) (b := x2)).2 hxx
 have e2 : (ncmp x1 x2 == 0) = true := by rw [e1]; rfl
 have HM := hid (rcmp_b w3 (.slice Ac nc cc) qy y1 y2 HBB.out HQY.out)
 have d2 := HR1.out.at_ (i := 2) rfl
 have q2 := HRQ.out.at_ (i := 2) rfl
 clear hxx e1
 go_wp2_with fail
 refine HM.out.mono ?_
 rintro e w4 ⟨rfl, hbz⟩
 replace HR0 := hid (HR0.out.later hbz)
 replace HR1 := hid (HR1.out.later hbz)
 replace HRQ := hid (HRQ.out.later hbz)
 replace HRR := hid (HRR.out.later hbz)
 replace HCR := hid (HCR.out.later hbz)
 replace HKP := hid (HKP.out.later hbz)
 replace HA := hid (HA.out.later hbz)
 replace HBB := hid (HBB.out.later hbz)
 replace HQX := hid (HQX.out.later hbz)
 replace HQY := hid (HQY.out.later hbz)
 replace HB := hid (HB.out.trans (hbz.mono HB.out.size))
 clear hbz HM e2 d2 q2
 have e1 : ncmp y1 y2 ≠ 0 := fun h => hyy (ncmpEq.1 h)
 have e2 : (ncmp y1 y2 != 0) = true := bne_iff_ne.2 e1
 have d2 := HR1.out.at_ (i := 2) rfl
 clear hyy e1
 go_wp2_with ((with_reducible show wpList _ _ _ (⟨none, _, _, _, _, _⟩ :: _) _ _); refine wlS_store rfl 33 3 Tryz.sizeRp _ _ rfl gr [.bool true, .slice none 0 0, .slice none 0 0] rfl rfl 33 _ HRR.out rfl rfl (ones3 rfl rfl rfl) ?_; intro w6 hr6 hg6 hz6)
 exact ⟨rfl, _, results_rp rfl _ gr _ rfl hr6 rfl, _, rfl, ⟨_, _, rfl, Nb.nil _, Nb.nil _⟩, below_grown HB.out hg6 HGL.out.1 HB.out.size⟩
theorem rAdd9_dbl (w : World) (vc : Value) (D : Crv) (hc : Cr w vc D) (hp : Bp D.p) (a qx qy : Value) (Ac : Option Addr) (nc cc : Nat) (x1 y1 x2 y2 : Nat) (ha : Nb w a x1) (hb : Nb w (.slice Ac nc cc) y1) (hqx : Nb w qx x2) (hqy : Nb w qy y2) (hx : x1 < D.p) (hy : y1 < D.p) (hx2 : x2 < D.p) (hy2 : y2 < D.p) (hxx : x1 = x2) (hyy : y1 = y2) (hn0 : ¬ (nc : Int) = 0) (hg : Nat.gcd D.p (mulP D.p 2 y1) = 1) :
  Calls Tryz.prog 18 #[vc, .agg #[.bool false, a, .slice Ac nc cc], .agg #[.bool false, qx, qy]] w fun e w' => ∃ v R, e = .returned v ∧ R < D.p ∧ (mulP D.p 2 y1) * R % D.p = 1 ∧ Rp w' v (some (adX D.p (mulP D.p (subP D.p (mulP D.p 3 (mulP D.p x1 x1)) 3) R) x1 x2, adY D.p (mulP D.p (subP D.p (mulP D.p 3 (mulP D.p x1 x1)) 3) R) x1 y1 x2)) ∧ Below w.heap.size w w' := by
 have HG := hid hg
 clear hg
 have hmx : Tryz.prog.follows .mixedOrders = true := by kernel_rfl
 obtain ⟨vp, vn, vb, vx, vy, rfl, kp, kb⟩ := hc.pr
 obtain ⟨W0, e0, r0, b0, s0⟩ := newS w 30 [vp, vn, vb, vx, vy, .int .i64 (D.size : Int)] _ rfl
 obtain ⟨W1, e1, r1, b1, s1⟩ := newS W0 33 [.bool false, a, .slice Ac nc cc] _ rfl
 obtain ⟨Wq, eq, rq, bq, sq⟩ := newS W1 33 [.bool false, qx, qy] _ rfl
 obtain ⟨W2, e2, r2, b2, s2⟩ := newS Wq 33 [.bool false, .slice none 0 0, .slice none 0 0] _ rfl
 obtain ⟨g0, hg0⟩ : ∃ g, w.heap.size = g := ⟨_, rfl⟩
 obtain ⟨g1, hg1⟩ : ∃ g, W0.heap.size = g := ⟨_, rfl⟩
 obtain ⟨gq, hgq⟩ : ∃ g, W1.heap.size = g := ⟨_, rfl⟩
 obtain ⟨gr, hgr⟩ : ∃ g, Wq.heap.size = g := ⟨_, rfl⟩
 have hb1 := b0.trans (b1.mono b0.size)
 have hbq := hb1.trans (bq.mono hb1.size)
 have hbw := hbq.trans (b2.mono hbq.size)
 have HGL := hid (show w.heap.size ≤ gr ∧ g0 ≠ gr ∧ g1 ≠ gr ∧ gq ≠ gr by omega)
 rw [hg0] at r0
 rw [hg1] at r1
 rw [hgq] at rq
 rw [hgr] at r2
 have r02 := ((r0.later b1).later bq).later b2
 have r12 := (r1.later bq).later b2
 have rq2 := rq.later b2
 have HB := hid hbw
 have HR0 := hid r02
 have HR1 := hid r12
 have HRQ := hid rq2
 have HRR := hid r2
 have HCR := hid (hc.later hbw)
 have HKP := hid (kp.later hbw)
 have HA := hid (ha.later hbw)
 have HBB := hid (hb.later hbw)
 have HQX := hid (hqx.later hbw)
 have HQY := hid (hqy.later hbw)
 have HP := hid hp
 have HX := hid hx
 have HY := hid hy
 have HX2 := hid hx2
 have HY2 := hid hy2
 have d0 := HR1.out.at_ (i := 0) rfl
 have d1 := HR1.out.at_ (i := 1) rfl
 have q0 := HRQ.out.at_ (i := 0) rfl
 have q1 := HRQ.out.at_ (i := 1) rfl
 have HM := hid (rcmp_b W2 a qx x1 x2 HA.out HQX.out)
 clear b0 b1 b2 bq s0 s1 s2 sq hb1 hbq hbw r0 r1 r2 rq r02 r12 rq2 hc kp kb ha hb hqx hqy hp hx hy hx2 hy2
 go_enter Tryz.func18, Tryz.ntmps18
 go_wp2_with fail
 refine HM.out.mono ?_
 rintro e w3 ⟨rfl, hbz⟩
 replace HR0 := hid (HR0.out.later hbz)
 replace HR1 := hid (HR1.out.later hbz)
 replace HRQ := hid (HRQ.out.later hbz)
 replace HRR := hid (HRR.out.later hbz)
 replace HCR := hid (HCR.out.later hbz)
 replace HKP := hid (HKP.out.later hbz)
 replace HA := hid (HA.out.later hbz)
 replace HBB := hid (HBB.out.later hbz)
 replace HQX := hid (HQX.out.later hbz)
 replace HQY := hid (HQY.out.later hbz)
 replace HB := hid (HB.out.trans (hbz.mono HB.out.size))
 clear hbz HM d0 d1 q0 q1
 have e1 := (ncmpEq (a := x1) (b := x2)).2 hxx
 have e2 : (ncmp x1 x2 == 0) = true := by rw [e1]; rfl
 have HM := hid (rcmp_b w3 (.slice Ac nc cc) qy y1 y2 HBB.out HQY.out)
 have d2 := HR1.out.at_ (i := 2) rfl
 have q2 := HRQ.out.at_ (i := 2) rfl
 clear hxx e1
 go_wp2_with fail
 refine HM.out.mono ?_
 rintro e w4 ⟨rfl, hbz⟩
 replace HR0 := hid (HR0.out.later hbz)
 replace HR1 := hid (HR1.out.later hbz)
 replace HRQ := hid (HRQ.out.later hbz)
 replace HRR := hid (HRR.out.later hbz)
 replace HCR := hid (HCR.out.later hbz)
 replace HKP := hid (HKP.out.later hbz)
 replace HA := hid (HA.out.later hbz)
 replace HBB := hid (HBB.out.later hbz)
 replace HQX := hid (HQX.out.later hbz)
 replace HQY := hid (HQY.out.later hbz)
 replace HB := hid (HB.out.trans (hbz.mono HB.out.size))
 clear hbz HM e2 d2 q2
 have e1 := (ncmpEq (a := y1) (b := y2)).2 hyy
 have e2 : (ncmp y1 y2 != 0) = false := by rw [e1]; rfl
 have e3 : ((nc : Int) == 0) = false := beq_eq_false_iff_ne.2 hn0
 have d2 := HR1.out.at_ (i := 2) rfl
 clear hyy e1 hn0
 go_wp2_with fail
 clear e2 e3 d2
 refine (wpIn_wide (n := 9)).1 (wpIn_region_num0 rfl hmx [(38, .val (.agg #[vp, vn, vb, vx, vy, .int .i64 (D.size : Int)])), (39, .val (.agg #[vp, vn, vb, vx, vy, .int .i64 (D.size : Int)])), (40, .nb (3)), (41, .val (.agg #[vp, vn, vb, vx, vy, .int .i64 (D.size : Int)])), (42, .val (.pointer (some ⟨g1, 1, none⟩))), (43, .val (a)), (44, .val (.pointer (some ⟨g1, 1, none⟩))), (45, .val (a)), (46, .nb (mulP D.p (x1) (x1))), (47, .nb (mulP D.p (3) (mulP D.p (x1) (x1)))), (48, .nb (3)), (49, .nb (subP D.p (mulP D.p (3) (mulP D.p (x1) (x1))) (3))), (7, .nb (subP D.p (mulP D.p (3) (mulP D.p (x1) (x1))) (3)))] (by kernel_rfl) (by kernel_rfl) (by kernel_rfl) (by kernel_rfl) (by rfl) ?hopsp ?hendp)
 case hopsp =>
  intro i o a' V hB ho hev hrd
  have his : i < 13 := by have := (Array.getElem?_eq_some_iff.1 ho).1; simpa using this
  have hr0 := HR0.out.later hB
  have hr1 := HR1.out.later hB
  have hrq := HRQ.out.later hB
  have c0 := hr0.at_ (i := 0) rfl
  have d1 := hr1.at_ (i := 1) rfl
  have d2 := hr1.at_ (i := 2) rfl
  have q1 := hrq.at_ (i := 1) rfl
  have q2 := hrq.at_ (i := 2) rfl
  have hcr := HCR.out.later hB
  have hkp := HKP.out.later hB
  have hA := HA.out.later hB
  have hBB := HBB.out.later hB
  have hQX := HQX.out.later hB
  have hQY := HQY.out.later hB
  have hcase : i = 0 ∨ i = 1 ∨ i = 2 ∨ i = 3 ∨ i = 4 ∨ i = 5 ∨ i = 6 ∨ i = 7 ∨ i = 8 ∨ i = 9 ∨ i = 10 ∨ i = 11 ∨ i = 12 := by omega
  rcases hcase with rfl | rfl | rfl | rfl | rfl | rfl | rfl | rfl | rfl | rfl | rfl | rfl | rfl
  ·simp at ho
   subst ho
   have r3 := hev 3 rfl
   simp [Act.eval] at r3
   try simp [Act.put] at r3
   refine ⟨nofun, fun _ _ => trivial, nofun, .inl ⟨.agg #[vp, vn, vb, vx, vy, .int .i64 (D.size : Int)], V, exec_load 30 6 _ Tryz.underlying30 rfl Tryz.sizeCr _ rfl g0 [vp, vn, vb, vx, vy, .int .i64 (D.size : Int)] (by simpa [Act.eval] using r3) 30 hr0 rfl, Below.refl _ _, fun t ht => by cases ht; rfl⟩⟩
  ·simp at ho
   subst ho
   have r3 := hev 3 rfl
   simp [Act.eval] at r3
   try simp [Act.put] at r3
   refine ⟨nofun, fun _ _ => trivial, nofun, .inl ⟨.agg #[vp, vn, vb, vx, vy, .int .i64 (D.size : Int)], V, exec_load 30 6 _ Tryz.underlying30 rfl Tryz.sizeCr _ rfl g0 [vp, vn, vb, vx, vy, .int .i64 (D.size : Int)] (by simpa [Act.eval] using r3) 30 hr0 rfl, Below.refl _ _, fun t ht => by cases ht; rfl⟩⟩
  ·simp at ho
   subst ho
   refine ⟨nofun, fun _ _ => trivial, nofun, .inr ⟨29, #[.int .u64 3], ?_, (callsIn_wide.2 (rof_b V 3 (by decide))).mono ?_⟩⟩
   ·simp [execOp, Act.eval, resolve, invoke, Deferred.ofValue]
   ·rintro e w' ⟨v, rfl, hv, hB2⟩
    exact ⟨_, rfl, hB2, fun t ht => by cases ht; exact hv⟩
  ·simp at ho
   subst ho
   have r3 := hev 3 rfl
   simp [Act.eval] at r3
   try simp [Act.put] at r3
   refine ⟨nofun, fun _ _ => trivial, nofun, .inl ⟨.agg #[vp, vn, vb, vx, vy, .int .i64 (D.size : Int)], V, exec_load 30 6 _ Tryz.underlying30 rfl Tryz.sizeCr _ rfl g0 [vp, vn, vb, vx, vy, .int .i64 (D.size : Int)] (by simpa [Act.eval] using r3) 30 hr0 rfl, Below.refl _ _, fun t ht => by cases ht; rfl⟩⟩
  ·simp at ho
   subst ho
   have r4 := hev 4 rfl
   simp [Act.eval] at r4
   refine ⟨nofun, fun _ _ => trivial, nofun, .inl ⟨.pointer (some ⟨g1, 1, none⟩), V, ?_, Below.refl _ _, fun t ht => by cases ht; rfl⟩⟩
   simp [execOp, Act.eval, go_sem, r4, c0, d1, d2, q1, q2]
  ·simp at ho
   subst ho
   have r42 : a'.eval (.tmp 42) = .pointer (some ⟨g1, 1, none⟩) := hrd 42 rfl rfl
   simp [Act.eval] at r42
   refine ⟨nofun, fun _ _ => trivial, nofun, .inl ⟨a, V, ?_, Below.refl _ _, fun t ht => by cases ht; rfl⟩⟩
   simp [execOp, Act.eval, go_sem, r42, c0, d1, d2, q1, q2]
  ·simp at ho
   subst ho
   have r4 := hev 4 rfl
   simp [Act.eval] at r4
   refine ⟨nofun, fun _ _ => trivial, nofun, .inl ⟨.pointer (some ⟨g1, 1, none⟩), V, ?_, Below.refl _ _, fun t ht => by cases ht; rfl⟩⟩
   simp [execOp, Act.eval, go_sem, r4, c0, d1, d2, q1, q2]
  ·simp at ho
   subst ho
   have r44 : a'.eval (.tmp 44) = .pointer (some ⟨g1, 1, none⟩) := hrd 44 rfl rfl
   simp [Act.eval] at r44
   refine ⟨nofun, fun _ _ => trivial, nofun, .inl ⟨a, V, ?_, Below.refl _ _, fun t ht => by cases ht; rfl⟩⟩
   simp [execOp, Act.eval, go_sem, r44, c0, d1, d2, q1, q2]
  ·simp at ho
   subst ho
   have r41 : a'.eval (.tmp 41) = .agg #[vp, vn, vb, vx, vy, .int .i64 (D.size : Int)] := hrd 41 rfl rfl
   simp [Act.eval] at r41
   have r43 : a'.eval (.tmp 43) = a := hrd 43 rfl rfl
   simp [Act.eval] at r43
   have r45 : a'.eval (.tmp 45) = a := hrd 45 rfl rfl
   simp [Act.eval] at r45
   refine ⟨nofun, fun _ _ => trivial, nofun, .inr ⟨48, #[(.agg #[vp, vn, vb, vx, vy, .int .i64 (D.size : Int)]), a, a], ?_, (callsIn_wide.2 (rtimes9_any V _ _ _ D _ _ hcr hA hA HP.out.1)).mono ?_⟩⟩
   ·simp [execOp, Act.eval, r41, r43, r45, resolve, invoke, Deferred.ofValue]
   ·rintro e w' ⟨v, rfl, hv, hB2⟩
    exact ⟨_, rfl, hB2, fun t ht => by cases ht; exact hv⟩
  ·simp at ho
   subst ho
   have r39 : a'.eval (.tmp 39) = .agg #[vp, vn, vb, vx, vy, .int .i64 (D.size : Int)] := hrd 39 rfl rfl
   simp [Act.eval] at r39
   have r40 : Nb V (a'.eval (.tmp 40)) (3) := hrd 40 rfl rfl
   have r46 : Nb V (a'.eval (.tmp 46)) (mulP D.p (x1) (x1)) := hrd 46 rfl rfl
   refine ⟨nofun, fun _ _ => trivial, nofun, .inr ⟨48, #[(.agg #[vp, vn, vb, vx, vy, .int .i64 (D.size : Int)]), a'.eval (.tmp 40), a'.eval (.tmp 46)], ?_, (callsIn_wide.2 (rtimes9_any V _ _ _ D _ _ hcr r40 r46 HP.out.1)).mono ?_⟩⟩
   ·simp [execOp, Act.eval, r39, resolve, invoke, Deferred.ofValue]
   ·rintro e w' ⟨v, rfl, hv, hB2⟩
    exact ⟨_, rfl, hB2, fun t ht => by cases ht; exact hv⟩
  ·simp at ho
   subst ho
   refine ⟨nofun, fun _ _ => trivial, nofun, .inr ⟨29, #[.int .u64 3], ?_, (callsIn_wide.2 (rof_b V 3 (by decide))).mono ?_⟩⟩
   ·simp [execOp, Act.eval, resolve, invoke, Deferred.ofValue]
   ·rintro e w' ⟨v, rfl, hv, hB2⟩
    exact ⟨_, rfl, hB2, fun t ht => by cases ht; exact hv⟩
  ·simp at ho
   subst ho
   have r38 : a'.eval (.tmp 38) = .agg #[vp, vn, vb, vx, vy, .int .i64 (D.size : Int)] := hrd 38 rfl rfl
   simp [Act.eval] at r38
   have r47 : Nb V (a'.eval (.tmp 47)) (mulP D.p (3) (mulP D.p (x1) (x1))) := hrd 47 rfl rfl
   have r48 : Nb V (a'.eval (.tmp 48)) (3) := hrd 48 rfl rfl
   refine ⟨nofun, fun _ _ => trivial, nofun, .inr ⟨50, #[(.agg #[vp, vn, vb, vx, vy, .int .i64 (D.size : Int)]), a'.eval (.tmp 47), a'.eval (.tmp 48)], ?_, (callsIn_wide.2 (rminus9_any V _ _ _ D _ _ hcr r47 r48 (mside HP.out (Nat.mod_lt _ HP.out.1) (by have := HP.out.2.1; omega)))).mono ?_⟩⟩
   ·simp [execOp, Act.eval, r38, resolve, invoke, Deferred.ofValue]
   ·rintro e w' ⟨v, rfl, hv, hB2⟩
    exact ⟨_, rfl, hB2, fun t ht => by cases ht; exact hv⟩
  ·simp at ho
   subst ho
   have r49 : Nb V (a'.eval (.tmp 49)) (subP D.p (mulP D.p (3) (mulP D.p (x1) (x1))) (3)) := hrd 49 rfl rfl
   refine ⟨nofun, fun _ _ => trivial, nofun, .inl ⟨a'.eval (.tmp 49), V, ?_, Below.refl _ _, fun t ht => by cases ht; exact r49⟩⟩
   simp [execOp]
 intro valsp w5 hBp hPp
 have hl7 : Nb w5 (valsp 12) (subP D.p (mulP D.p (3) (mulP D.p (x1) (x1))) (3)) := hPp 12 7 _ rfl rfl
 obtain ⟨l7, hv7⟩ : ∃ l, valsp 12 = l := ⟨_, rfl⟩
 rw [hv7] at hl7
 replace HR0 := hid (HR0.out.later hBp)
 replace HR1 := hid (HR1.out.later hBp)
 replace HRQ := hid (HRQ.out.later hBp)
 replace HRR := hid (HRR.out.later hBp)
 replace HCR := hid (HCR.out.later hBp)
 replace HKP := hid (HKP.out.later hBp)
 replace HA := hid (HA.out.later hBp)
 replace HBB := hid (HBB.out.later hBp)
 replace HQX := hid (HQX.out.later hBp)
 replace HQY := hid (HQY.out.later hBp)
 replace HB := hid (HB.out.trans (hBp.mono HB.out.size))
 have HL7 := hid (show Nb w5 l7 (subP D.p (mulP D.p 3 (mulP D.p x1 x1)) 3) from hl7)
 clear hPp hBp hl7
 simp [wrote, Act.put, hv7]
 go_wp2_with fail
 refine (wpIn_wide (n := 9)).1 (wpIn_region_num0 rfl hmx [(50, .val (.agg #[vp, vn, vb, vx, vy, .int .i64 (D.size : Int)])), (51, .nb (2)), (52, .val (.pointer (some ⟨g1, 2, none⟩))), (53, .val (.slice Ac nc cc)), (54, .nb (mulP D.p (2) (y1))), (8, .nb (mulP D.p (2) (y1)))] (by kernel_rfl) (by kernel_rfl) (by kernel_rfl) (by kernel_rfl) (by rfl) ?hopsq ?hendq)
 case hopsq =>
  intro i o a' V hB ho hev hrd
  have his : i < 6 := by have := (Array.getElem?_eq_some_iff.1 ho).1; simpa using this
  have hr0 := HR0.out.later hB
  have hr1 := HR1.out.later hB
  have hrq := HRQ.out.later hB
  have c0 := hr0.at_ (i := 0) rfl
  have d1 := hr1.at_ (i := 1) rfl
  have d2 := hr1.at_ (i := 2) rfl
  have q1 := hrq.at_ (i := 1) rfl
  have q2 := hrq.at_ (i := 2) rfl
  have hcr := HCR.out.later hB
  have hkp := HKP.out.later hB
  have hA := HA.out.later hB
  have hBB := HBB.out.later hB
  have hQX := HQX.out.later hB
  have hQY := HQY.out.later hB
  have hl7 := HL7.out.later hB
  have hcase : i = 0 ∨ i = 1 ∨ i = 2 ∨ i = 3 ∨ i = 4 ∨ i = 5 := by omega
  rcases hcase with rfl | rfl | rfl | rfl | rfl | rfl
  ·simp at ho
   subst ho
   have r3 := hev 3 rfl
   simp [Act.eval] at r3
   try simp [Act.put] at r3
   refine ⟨nofun, fun _ _ => trivial, nofun, .inl ⟨.agg #[vp, vn, vb, vx, vy, .int .i64 (D.size : Int)], V, exec_load 30 6 _ Tryz.underlying30 rfl Tryz.sizeCr _ rfl g0 [vp, vn, vb, vx, vy, .int .i64 (D.size : Int)] (by simpa [Act.eval] using r3) 30 hr0 rfl, Below.refl _ _, fun t ht => by cases ht; rfl⟩⟩
  ·simp at ho
   subst ho
   refine ⟨nofun, fun _ _ => trivial, nofun, .inr ⟨29, #[.int .u64 2], ?_, (callsIn_wide.2 (rof_b V 2 (by decide))).mono ?_⟩⟩
   ·simp [execOp, Act.eval, resolve, invoke, Deferred.ofValue]
   ·rintro e w' ⟨v, rfl, hv, hB2⟩
    exact ⟨_, rfl, hB2, fun t ht => by cases ht; exact hv⟩
  ·simp at ho
   subst ho
   have r4 := hev 4 rfl
   simp [Act.eval] at r4
   refine ⟨nofun, fun _ _ => trivial, nofun, .inl ⟨.pointer (some ⟨g1, 2, none⟩), V, ?_, Below.refl _ _, fun t ht => by cases ht; rfl⟩⟩
   simp [execOp, Act.eval, go_sem, r4, c0, d1, d2, q1, q2]
  ·simp at ho
   subst ho
   have r52 : a'.eval (.tmp 52) = .pointer (some ⟨g1, 2, none⟩) := hrd 52 rfl rfl
   simp [Act.eval] at r52
   refine ⟨nofun, fun _ _ => trivial, nofun, .inl ⟨.slice Ac nc cc, V, ?_, Below.refl _ _, fun t ht => by cases ht; rfl⟩⟩
   simp [execOp, Act.eval, go_sem, r52, c0, d1, d2, q1, q2]
  ·simp at ho
   subst ho
   have r50 : a'.eval (.tmp 50) = .agg #[vp, vn, vb, vx, vy, .int .i64 (D.size : Int)] := hrd 50 rfl rfl
   simp [Act.eval] at r50
   have r51 : Nb V (a'.eval (.tmp 51)) (2) := hrd 51 rfl rfl
   have r53 : a'.eval (.tmp 53) = .slice Ac nc cc := hrd 53 rfl rfl
   simp [Act.eval] at r53
   refine ⟨nofun, fun _ _ => trivial, nofun, .inr ⟨48, #[(.agg #[vp, vn, vb, vx, vy, .int .i64 (D.size : Int)]), a'.eval (.tmp 51), .slice Ac nc cc], ?_, (callsIn_wide.2 (rtimes9_any V _ _ _ D _ _ hcr r51 hBB HP.out.1)).mono ?_⟩⟩
   ·simp [execOp, Act.eval, r50, r53, resolve, invoke, Deferred.ofValue]
   ·rintro e w' ⟨v, rfl, hv, hB2⟩
    exact ⟨_, rfl, hB2, fun t ht => by cases ht; exact hv⟩
  ·simp at ho
   subst ho
   have r54 : Nb V (a'.eval (.tmp 54)) (mulP D.p (2) (y1)) := hrd 54 rfl rfl
   refine ⟨nofun, fun _ _ => trivial, nofun, .inl ⟨a'.eval (.tmp 54), V, ?_, Below.refl _ _, fun t ht => by cases ht; exact r54⟩⟩
   simp [execOp]
 intro valsq w6 hBq hPq
 have hl8 : Nb w6 (valsq 5) (mulP D.p (2) (y1)) := hPq 5 8 _ rfl rfl
 obtain ⟨l8, hv8⟩ : ∃ l, valsq 5 = l := ⟨_, rfl⟩
 rw [hv8] at hl8
 replace HR0 := hid (HR0.out.later hBq)
 replace HR1 := hid (HR1.out.later hBq)
 replace HRQ := hid (HRQ.out.later hBq)
 replace HRR := hid (HRR.out.later hBq)
 replace HCR := hid (HCR.out.later hBq)
 replace HKP := hid (HKP.out.later hBq)
 replace HA := hid (HA.out.later hBq)
 replace HBB := hid (HBB.out.later hBq)
 replace HQX := hid (HQX.out.later hBq)
 replace HQY := hid (HQY.out.later hBq)
 replace HL7 := hid (HL7.out.later hBq)
 replace HB := hid (HB.out.trans (hBq.mono HB.out.size))
 have HL8 := hid (show Nb w6 l8 (mulP D.p 2 y1) from hl8)
 clear hPq hBq hl8
 simp [wrote, Act.put, hv8]
 have HM := hid (rinv_b w6 l8 vp _ D.p HL8.out HKP.out (by have := HP.out.2.1; omega) HG.out)
 have c0 := HR0.out.at_ (i := 0) rfl
 go_wp2_with fail
 refine HM.out.mono ?_
 rintro e wi ⟨l9, R, rfl, hl9, hR, hinv, hbz⟩
 replace HR0 := hid (HR0.out.later hbz)
 replace HR1 := hid (HR1.out.later hbz)
 replace HRQ := hid (HRQ.out.later hbz)
 replace HRR := hid (HRR.out.later hbz)
 replace HCR := hid (HCR.out.later hbz)
 replace HKP := hid (HKP.out.later hbz)
 replace HA := hid (HA.out.later hbz)
 replace HBB := hid (HBB.out.later hbz)
 replace HQX := hid (HQX.out.later hbz)
 replace HQY := hid (HQY.out.later hbz)
 replace HL7 := hid (HL7.out.later hbz)
 replace HL8 := hid (HL8.out.later hbz)
 replace HB := hid (HB.out.trans (hbz.mono HB.out.size))
 have HL9 := hid hl9
 have HRL := hid hR
 have HINV := hid hinv
 clear hbz hl9 hR hinv HM c0 HG
 have HM := hid (rtimes9_any wi _ l7 l9 D _ _ HCR.out HL7.out HL9.out HP.out.1)
 have c0 := HR0.out.at_ (i := 0) rfl
 have c1 := HR0.out.at_ (i := 1) rfl
 have c2 := HR0.out.at_ (i := 2) rfl
 have c3 := HR0.out.at_ (i := 3) rfl
 have c4 := HR0.out.at_ (i := 4) rfl
 have c5 := HR0.out.at_ (i := 5) rfl
 go_wp2_with fail
 refine HM.out.mono ?_
 rintro e wj ⟨l11, rfl, hl11, hbz⟩
 replace HR0 := hid (HR0.out.later hbz)
 replace HR1 := hid (HR1.out.later hbz)
 replace HRQ := hid (HRQ.out.later hbz)
 replace HRR := hid (HRR.out.later hbz)
 replace HCR := hid (HCR.out.later hbz)
 replace HKP := hid (HKP.out.later hbz)
 replace HA := hid (HA.out.later hbz)
 replace HBB := hid (HBB.out.later hbz)
 replace HQX := hid (HQX.out.later hbz)
 replace HQY := hid (HQY.out.later hbz)
 replace HL7 := hid (HL7.out.later hbz)
 replace HL8 := hid (HL8.out.later hbz)
 replace HL9 := hid (HL9.out.later hbz)
 replace HB := hid (HB.out.trans (hbz.mono HB.out.size))
 have HL11 := hid (show Nb wj l11 (mulP D.p (subP D.p (mulP D.p 3 (mulP D.p x1 x1)) 3) R) from hl11)
 clear hbz hl11 HM c0 c1 c2 c3 c4 c5
 go_wp2_with fail
 refine (wpIn_wide (n := 9)).1 (wpIn_region_num0 rfl hmx [(78, .val (.agg #[vp, vn, vb, vx, vy, .int .i64 (D.size : Int)])), (79, .val (.agg #[vp, vn, vb, vx, vy, .int .i64 (D.size : Int)])), (80, .val (.agg #[vp, vn, vb, vx, vy, .int .i64 (D.size : Int)])), (81, .val (l11)), (82, .val (l11)), (83, .nb (mulP D.p (mulP D.p (subP D.p (mulP D.p 3 (mulP D.p x1 x1)) 3) R) (mulP D.p (subP D.p (mulP D.p 3 (mulP D.p x1 x1)) 3) R))), (84, .val (.pointer (some ⟨g1, 1, none⟩))), (85, .val (a)), (86, .nb (subP D.p (mulP D.p (mulP D.p (subP D.p (mulP D.p 3 (mulP D.p x1 x1)) 3) R) (mulP D.p (subP D.p (mulP D.p 3 (mulP D.p x1 x1)) 3) R)) (x1))), (87, .val (.pointer (some ⟨gq, 1, none⟩))), (88, .val (qx)), (89, .nb (subP D.p (subP D.p (mulP D.p (mulP D.p (subP D.p (mulP D.p 3 (mulP D.p x1 x1)) 3) R) (mulP D.p (subP D.p (mulP D.p 3 (mulP D.p x1 x1)) 3) R)) (x1)) (x2))), (12, .nb (subP D.p (subP D.p (mulP D.p (mulP D.p (subP D.p (mulP D.p 3 (mulP D.p x1 x1)) 3) R) (mulP D.p (subP D.p (mulP D.p 3 (mulP D.p x1 x1)) 3) R)) (x1)) (x2)))] (by kernel_rfl) (by kernel_rfl) (by kernel_rfl) (by kernel_rfl) (by rfl) ?hopsx ?hendx)
 case hopsx =>
  intro i o a' V hB ho hev hrd
  have his : i < 13 := by have := (Array.getElem?_eq_some_iff.1 ho).1; simpa using this
  have hr0 := HR0.out.later hB
  have hr1 := HR1.out.later hB
  have hrq := HRQ.out.later hB
  have c0 := hr0.at_ (i := 0) rfl
  have d1 := hr1.at_ (i := 1) rfl
  have d2 := hr1.at_ (i := 2) rfl
  have q1 := hrq.at_ (i := 1) rfl
  have q2 := hrq.at_ (i := 2) rfl
  have hcr := HCR.out.later hB
  have hkp := HKP.out.later hB
  have hA := HA.out.later hB
  have hBB := HBB.out.later hB
  have hQX := HQX.out.later hB
  have hQY := HQY.out.later hB
  have hl11 := HL11.out.later hB
  have hcase : i = 0 ∨ i = 1 ∨ i = 2 ∨ i = 3 ∨ i = 4 ∨ i = 5 ∨ i = 6 ∨ i = 7 ∨ i = 8 ∨ i = 9 ∨ i = 10 ∨ i = 11 ∨ i = 12 := by omega
  rcases hcase with rfl | rfl | rfl | rfl | rfl | rfl | rfl | rfl | rfl | rfl | rfl | rfl | rfl
  ·simp at ho
   subst ho
   have r3 := hev 3 rfl
   simp [Act.eval] at r3
   try simp [Act.put] at r3
   refine ⟨nofun, fun _ _ => trivial, nofun, .inl ⟨.agg #[vp, vn, vb, vx, vy, .int .i64 (D.size : Int)], V, exec_load 30 6 _ Tryz.underlying30 rfl Tryz.sizeCr _ rfl g0 [vp, vn, vb, vx, vy, .int .i64 (D.size : Int)] (by simpa [Act.eval] using r3) 30 hr0 rfl, Below.refl _ _, fun t ht => by cases ht; rfl⟩⟩
  ·simp at ho
   subst ho
   have r3 := hev 3 rfl
   simp [Act.eval] at r3
   try simp [Act.put] at r3
   refine ⟨nofun, fun _ _ => trivial, nofun, .inl ⟨.agg #[vp, vn, vb, vx, vy, .int .i64 (D.size : Int)], V, exec_load 30 6 _ Tryz.underlying30 rfl Tryz.sizeCr _ rfl g0 [vp, vn, vb, vx, vy, .int .i64 (D.size : Int)] (by simpa [Act.eval] using r3) 30 hr0 rfl, Below.refl _ _, fun t ht => by cases ht; rfl⟩⟩
  ·simp at ho
   subst ho
   have r3 := hev 3 rfl
   simp [Act.eval] at r3
   try simp [Act.put] at r3
   refine ⟨nofun, fun _ _ => trivial, nofun, .inl ⟨.agg #[vp, vn, vb, vx, vy, .int .i64 (D.size : Int)], V, exec_load 30 6 _ Tryz.underlying30 rfl Tryz.sizeCr _ rfl g0 [vp, vn, vb, vx, vy, .int .i64 (D.size : Int)] (by simpa [Act.eval] using r3) 30 hr0 rfl, Below.refl _ _, fun t ht => by cases ht; rfl⟩⟩
  ·simp at ho
   subst ho
   have r11 := hev 11 rfl
   simp [Act.eval] at r11
   refine ⟨nofun, fun _ _ => trivial, nofun, .inl ⟨l11, V, ?_, Below.refl _ _, fun t ht => by cases ht; rfl⟩⟩
   simp [execOp, Act.eval, go_sem, r11, c0, d1, d2, q1, q2]
  ·simp at ho
   subst ho
   have r11 := hev 11 rfl
   simp [Act.eval] at r11
   refine ⟨nofun, fun _ _ => trivial, nofun, .inl ⟨l11, V, ?_, Below.refl _ _, fun t ht => by cases ht; rfl⟩⟩
   simp [execOp, Act.eval, go_sem, r11, c0, d1, d2, q1, q2]
  ·simp at ho
   subst ho
   have r80 : a'.eval (.tmp 80) = .agg #[vp, vn, vb, vx, vy, .int .i64 (D.size : Int)] := hrd 80 rfl rfl
   simp [Act.eval] at r80
   have r81 : a'.eval (.tmp 81) = l11 := hrd 81 rfl rfl
   simp [Act.eval] at r81
   have r82 : a'.eval (.tmp 82) = l11 := hrd 82 rfl rfl
   simp [Act.eval] at r82
   refine ⟨nofun, fun _ _ => trivial, nofun, .inr ⟨48, #[(.agg #[vp, vn, vb, vx, vy, .int .i64 (D.size : Int)]), l11, l11], ?_, (callsIn_wide.2 (rtimes9_any V _ _ _ D _ _ hcr hl11 hl11 HP.out.1)).mono ?_⟩⟩
   ·simp [execOp, Act.eval, r80, r81, r82, resolve, invoke, Deferred.ofValue]
   ·rintro e w' ⟨v, rfl, hv, hB2⟩
    exact ⟨_, rfl, hB2, fun t ht => by cases ht; exact hv⟩
  ·simp at ho
   subst ho
   have r4 := hev 4 rfl
   simp [Act.eval] at r4
   refine ⟨nofun, fun _ _ => trivial, nofun, .inl ⟨.pointer (some ⟨g1, 1, none⟩), V, ?_, Below.refl _ _, fun t ht => by cases ht; rfl⟩⟩
   simp [execOp, Act.eval, go_sem, r4, c0, d1, d2, q1, q2]
  ·simp at ho
   subst ho
   have r84 : a'.eval (.tmp 84) = .pointer (some ⟨g1, 1, none⟩) := hrd 84 rfl rfl
   simp [Act.eval] at r84
   refine ⟨nofun, fun _ _ => trivial, nofun, .inl ⟨a, V, ?_, Below.refl _ _, fun t ht => by cases ht; rfl⟩⟩
   simp [execOp, Act.eval, go_sem, r84, c0, d1, d2, q1, q2]
  ·simp at ho
   subst ho
   have r79 : a'.eval (.tmp 79) = .agg #[vp, vn, vb, vx, vy, .int .i64 (D.size : Int)] := hrd 79 rfl rfl
   simp [Act.eval] at r79
   have r83 : Nb V (a'.eval (.tmp 83)) (mulP D.p (mulP D.p (subP D.p (mulP D.p 3 (mulP D.p x1 x1)) 3) R) (mulP D.p (subP D.p (mulP D.p 3 (mulP D.p x1 x1)) 3) R)) := hrd 83 rfl rfl
   have r85 : a'.eval (.tmp 85) = a := hrd 85 rfl rfl
   simp [Act.eval] at r85
   refine ⟨nofun, fun _ _ => trivial, nofun, .inr ⟨50, #[(.agg #[vp, vn, vb, vx, vy, .int .i64 (D.size : Int)]), a'.eval (.tmp 83), a], ?_, (callsIn_wide.2 (rminus9_any V _ _ _ D _ _ hcr r83 hA (mside HP.out (Nat.mod_lt _ HP.out.1) HX.out))).mono ?_⟩⟩
   ·simp [execOp, Act.eval, r79, r85, resolve, invoke, Deferred.ofValue]
   ·rintro e w' ⟨v, rfl, hv, hB2⟩
    exact ⟨_, rfl, hB2, fun t ht => by cases ht; exact hv⟩
  ·simp at ho
   subst ho
   have r5 := hev 5 rfl
   simp [Act.eval] at r5
   refine ⟨nofun, fun _ _ => trivial, nofun, .inl ⟨.pointer (some ⟨gq, 1, none⟩), V, ?_, Below.refl _ _, fun t ht => by cases ht; rfl⟩⟩
   simp [execOp, Act.eval, go_sem, r5, c0, d1, d2, q1, q2]
  ·simp at ho
   subst ho
   have r87 : a'.eval (.tmp 87) = .pointer (some ⟨gq, 1, none⟩) := hrd 87 rfl rfl
   simp [Act.eval] at r87
   refine ⟨nofun, fun _ _ => trivial, nofun, .inl ⟨qx, V, ?_, Below.refl _ _, fun t ht => by cases ht; rfl⟩⟩
   simp [execOp, Act.eval, go_sem, r87, c0, d1, d2, q1, q2]
  ·simp at ho
   subst ho
   have r78 : a'.eval (.tmp 78) = .agg #[vp, vn, vb, vx, vy, .int .i64 (D.size : Int)] := hrd 78 rfl rfl
   simp [Act.eval] at r78
   have r86 : Nb V (a'.eval (.tmp 86)) (subP D.p (mulP D.p (mulP D.p (subP D.p (mulP D.p 3 (mulP D.p x1 x1)) 3) R) (mulP D.p (subP D.p (mulP D.p 3 (mulP D.p x1 x1)) 3) R)) (x1)) := hrd 86 rfl rfl
   have r88 : a'.eval (.tmp 88) = qx := hrd 88 rfl rfl
   simp [Act.eval] at r88
   refine ⟨nofun, fun _ _ => trivial, nofun, .inr ⟨50, #[(.agg #[vp, vn, vb, vx, vy, .int .i64 (D.size : Int)]), a'.eval (.tmp 86), qx], ?_, (callsIn_wide.2 (rminus9_any V _ _ _ D _ _ hcr r86 hQX (mside HP.out (Nat.mod_lt _ HP.out.1) HX2.out))).mono ?_⟩⟩
   ·simp [execOp, Act.eval, r78, r88, resolve, invoke, Deferred.ofValue]
   ·rintro e w' ⟨v, rfl, hv, hB2⟩
    exact ⟨_, rfl, hB2, fun t ht => by cases ht; exact hv⟩
  ·simp at ho
   subst ho
   have r89 : Nb V (a'.eval (.tmp 89)) (subP D.p (subP D.p (mulP D.p (mulP D.p (subP D.p (mulP D.p 3 (mulP D.p x1 x1)) 3) R) (mulP D.p (subP D.p (mulP D.p 3 (mulP D.p x1 x1)) 3) R)) (x1)) (x2)) := hrd 89 rfl rfl
   refine ⟨nofun, fun _ _ => trivial, nofun, .inl ⟨a'.eval (.tmp 89), V, ?_, Below.refl _ _, fun t ht => by cases ht; exact r89⟩⟩
   simp [execOp]
 intro valsx wk hBx hPx
 have hl12 : Nb wk (valsx 12) (subP D.p (subP D.p (mulP D.p (mulP D.p (subP D.p (mulP D.p 3 (mulP D.p x1 x1)) 3) R) (mulP D.p (subP D.p (mulP D.p 3 (mulP D.p x1 x1)) 3) R)) (x1)) (x2)) := hPx 12 12 _ rfl rfl
 obtain ⟨l12, hv12⟩ : ∃ l, valsx 12 = l := ⟨_, rfl⟩
 rw [hv12] at hl12
 replace HR0 := hid (HR0.out.later hBx)
 replace HR1 := hid (HR1.out.later hBx)
 replace HRQ := hid (HRQ.out.later hBx)
 replace HRR := hid (HRR.out.later hBx)
 replace HCR := hid (HCR.out.later hBx)
 replace HKP := hid (HKP.out.later hBx)
 replace HA := hid (HA.out.later hBx)
 replace HBB := hid (HBB.out.later hBx)
 replace HQX := hid (HQX.out.later hBx)
 replace HQY := hid (HQY.out.later hBx)
 replace HL11 := hid (HL11.out.later hBx)
 replace HB := hid (HB.out.trans (hBx.mono HB.out.size))
 have HL12 := hid (show Nb wk l12 (adX D.p (mulP D.p (subP D.p (mulP D.p 3 (mulP D.p x1 x1)) 3) R) x1 x2) from hl12)
 clear hPx hBx hl12
 simp [wrote, Act.put, hv12]
 obtain ⟨A12, n12, c12, rfl⟩ := HL12.out.sl
 have HNO := hid (NoU.of_row HRR.out (noU3 nofun nofun nofun))
 go_wp2_with fail
 refine (wpIn_wide (n := 9)).1 (wpIn_region_num1 rfl hmx [(90, .val (.slice A12 n12 c12)), (91, .val (.agg #[vp, vn, vb, vx, vy, .int .i64 (D.size : Int)])), (92, .val (.agg #[vp, vn, vb, vx, vy, .int .i64 (D.size : Int)])), (93, .val (l11)), (94, .val (.agg #[vp, vn, vb, vx, vy, .int .i64 (D.size : Int)])), (95, .val (.pointer (some ⟨g1, 1, none⟩))), (96, .val (a)), (97, .val (.slice A12 n12 c12)), (98, .nb (subP D.p (x1) (adX D.p (mulP D.p (subP D.p (mulP D.p 3 (mulP D.p x1 x1)) 3) R) x1 x2))), (99, .nb (mulP D.p (mulP D.p (subP D.p (mulP D.p 3 (mulP D.p x1 x1)) 3) R) (subP D.p (x1) (adX D.p (mulP D.p (subP D.p (mulP D.p 3 (mulP D.p x1 x1)) 3) R) x1 x2)))), (100, .val (.pointer (some ⟨g1, 2, none⟩))), (101, .val (.slice Ac nc cc)), (102, .nb (subP D.p (mulP D.p (mulP D.p (subP D.p (mulP D.p 3 (mulP D.p x1 x1)) 3) R) (subP D.p (x1) (adX D.p (mulP D.p (subP D.p (mulP D.p 3 (mulP D.p x1 x1)) 3) R) x1 x2))) (y1))), (103, .rp (some (adX D.p (mulP D.p (subP D.p (mulP D.p 3 (mulP D.p x1 x1)) 3) R) x1 x2, adY D.p (mulP D.p (subP D.p (mulP D.p 3 (mulP D.p x1 x1)) 3) R) x1 y1 x2)))] (by kernel_rfl) (by kernel_rfl) (by kernel_rfl) (by kernel_rfl) (by rfl) gr 14 ⟨_, rfl, rfl⟩ (HRR.out.lt) HNO.out 33 3 ⟨_, HRR.out, rfl⟩ (fun V => ∃ v0 v1 v2, RowV 33 V gr [v0, v1, v2] ∧ Rp V (.agg #[v0, v1, v2]) (some (adX D.p (mulP D.p (subP D.p (mulP D.p 3 (mulP D.p x1 x1)) 3) R) x1 x2, adY D.p (mulP D.p (subP D.p (mulP D.p 3 (mulP D.p x1 x1)) 3) R) x1 y1 x2))) ?hPs ?hops10 ?hs10 ?hend10)
 case hPs =>
  rintro V V' hlt hb ⟨v0, v1, v2, hr, ht⟩
  exact ⟨v0, v1, v2, hr.later hb, ht.later hb⟩
 case hops10 =>
  intro i o a' V hns hB ho hev hrd
  have his : i < 15 := by have := (Array.getElem?_eq_some_iff.1 ho).1; simpa using this
  have hSB : Sb wk V := ⟨gr, HNO.out, hB⟩
  have hr0 := HR0.out.grown hB HGL.out.2.1
  have hr1 := HR1.out.grown hB HGL.out.2.2.1
  have hrq := HRQ.out.grown hB HGL.out.2.2.2
  have c0 := hr0.at_ (i := 0) rfl
  have d1 := hr1.at_ (i := 1) rfl
  have d2 := hr1.at_ (i := 2) rfl
  have q1 := hrq.at_ (i := 1) rfl
  have q2 := hrq.at_ (i := 2) rfl
  have hcr := HCR.out.sb hSB
  have hkp := HKP.out.sb hSB
  have hA := HA.out.sb hSB
  have hBB := HBB.out.sb hSB
  have hQX := HQX.out.sb hSB
  have hQY := HQY.out.sb hSB
  have hl11 := HL11.out.sb hSB
  have hl12 := HL12.out.sb hSB
  have hcase : i = 0 ∨ i = 1 ∨ i = 2 ∨ i = 3 ∨ i = 4 ∨ i = 5 ∨ i = 6 ∨ i = 7 ∨ i = 8 ∨ i = 9 ∨ i = 10 ∨ i = 11 ∨ i = 12 ∨ i = 13 ∨ i = 14 := by omega
  rcases hcase with rfl | rfl | rfl | rfl | rfl | rfl | rfl | rfl | rfl | rfl | rfl | rfl | rfl | rfl | rfl
  ·simp at ho
   subst ho
   have r12 := hev 12 rfl
   simp [Act.eval] at r12
   refine ⟨nofun, fun _ _ => trivial, nofun, .inl ⟨.slice A12 n12 c12, V, ?_, Below.refl _ _, fun t ht => by cases ht; rfl⟩⟩
   simp [execOp, Act.eval, go_sem, r12, c0, d1, d2, q1, q2]
  ·simp at ho
   subst ho
   have r3 := hev 3 rfl
   simp [Act.eval] at r3
   try simp [Act.put] at r3
   refine ⟨nofun, fun _ _ => trivial, nofun, .inl ⟨.agg #[vp, vn, vb, vx, vy, .int .i64 (D.size : Int)], V, exec_load 30 6 _ Tryz.underlying30 rfl Tryz.sizeCr _ rfl g0 [vp, vn, vb, vx, vy, .int .i64 (D.size : Int)] (by simpa [Act.eval] using r3) 30 hr0 rfl, Below.refl _ _, fun t ht => by cases ht; rfl⟩⟩
  ·simp at ho
   subst ho
   have r3 := hev 3 rfl
   simp [Act.eval] at r3
   try simp [Act.put] at r3
   refine ⟨nofun, fun _ _ => trivial, nofun, .inl ⟨.agg #[vp, vn, vb, vx, vy, .int .i64 (D.size : Int)], V, exec_load 30 6 _ Tryz.underlying30 rfl Tryz.sizeCr _ rfl g0 [vp, vn, vb, vx, vy, .int .i64 (D.size : Int)] (by simpa [Act.eval] using r3) 30 hr0 rfl, Below.refl _ _, fun t ht => by cases ht; rfl⟩⟩
  ·simp at ho
   subst ho
   have r11 := hev 11 rfl
   simp [Act.eval] at r11
   refine ⟨nofun, fun _ _ => trivial, nofun, .inl ⟨l11, V, ?_, Below.refl _ _, fun t ht => by cases ht; rfl⟩⟩
   simp [execOp, Act.eval, go_sem, r11, c0, d1, d2, q1, q2]
  ·simp at ho
   subst ho
   have r3 := hev 3 rfl
   simp [Act.eval] at r3
   try simp [Act.put] at r3
   refine ⟨nofun, fun _ _ => trivial, nofun, .inl ⟨.agg #[vp, vn, vb, vx, vy, .int .i64 (D.size : Int)], V, exec_load 30 6 _ Tryz.underlying30 rfl Tryz.sizeCr _ rfl g0 [vp, vn, vb, vx, vy, .int .i64 (D.size : Int)] (by simpa [Act.eval] using r3) 30 hr0 rfl, Below.refl _ _, fun t ht => by cases ht; rfl⟩⟩
  ·simp at ho
   subst ho
   have r4 := hev 4 rfl
   simp [Act.eval] at r4
   refine ⟨nofun, fun _ _ => trivial, nofun, .inl ⟨.pointer (some ⟨g1, 1, none⟩), V, ?_, Below.refl _ _, fun t ht => by cases ht; rfl⟩⟩
   simp [execOp, Act.eval, go_sem, r4, c0, d1, d2, q1, q2]
  ·simp at ho
   subst ho
   have r95 : a'.eval (.tmp 95) = .pointer (some ⟨g1, 1, none⟩) := hrd 95 rfl rfl
   simp [Act.eval] at r95
   refine ⟨nofun, fun _ _ => trivial, nofun, .inl ⟨a, V, ?_, Below.refl _ _, fun t ht => by cases ht; rfl⟩⟩
   simp [execOp, Act.eval, go_sem, r95, c0, d1, d2, q1, q2]
  ·simp at ho
   subst ho
   have r12 := hev 12 rfl
   simp [Act.eval] at r12
   refine ⟨nofun, fun _ _ => trivial, nofun, .inl ⟨.slice A12 n12 c12, V, ?_, Below.refl _ _, fun t ht => by cases ht; rfl⟩⟩
   simp [execOp, Act.eval, go_sem, r12, c0, d1, d2, q1, q2]
  ·simp at ho
   subst ho
   have r94 : a'.eval (.tmp 94) = .agg #[vp, vn, vb, vx, vy, .int .i64 (D.size : Int)] := hrd 94 rfl rfl
   simp [Act.eval] at r94
   have r96 : a'.eval (.tmp 96) = a := hrd 96 rfl rfl
   simp [Act.eval] at r96
   have r97 : a'.eval (.tmp 97) = .slice A12 n12 c12 := hrd 97 rfl rfl
   simp [Act.eval] at r97
   refine ⟨nofun, fun _ _ => trivial, nofun, .inr ⟨50, #[(.agg #[vp, vn, vb, vx, vy, .int .i64 (D.size : Int)]), a, .slice A12 n12 c12], ?_, (callsIn_wide.2 (rminus9_any V _ _ _ D _ _ hcr hA hl12 (mside HP.out HX.out (Nat.mod_lt _ HP.out.1)))).mono ?_⟩⟩
   ·simp [execOp, Act.eval, r94, r96, r97, resolve, invoke, Deferred.ofValue]
   ·rintro e w' ⟨v, rfl, hv, hB2⟩
    exact ⟨_, rfl, hB2, fun t ht => by cases ht; exact hv⟩
  ·simp at ho
   subst ho
   have r92 : a'.eval (.tmp 92) = .agg #[vp, vn, vb, vx, vy, .int .i64 (D.size : Int)] := hrd 92 rfl rfl
   simp [Act.eval] at r92
   have r93 : a'.eval (.tmp 93) = l11 := hrd 93 rfl rfl
   simp [Act.eval] at r93
   have r98 : Nb V (a'.eval (.tmp 98)) (subP D.p (x1) (adX D.p (mulP D.p (subP D.p (mulP D.p 3 (mulP D.p x1 x1)) 3) R) x1 x2)) := hrd 98 rfl rfl
   refine ⟨nofun, fun _ _ => trivial, nofun, .inr ⟨48, #[(.agg #[vp, vn, vb, vx, vy, .int .i64 (D.size : Int)]), l11, a'.eval (.tmp 98)], ?_, (callsIn_wide.2 (rtimes9_any V _ _ _ D _ _ hcr hl11 r98 HP.out.1)).mono ?_⟩⟩
   ·simp [execOp, Act.eval, r92, r93, resolve, invoke, Deferred.ofValue]
   ·rintro e w' ⟨v, rfl, hv, hB2⟩
    exact ⟨_, rfl, hB2, fun t ht => by cases ht; exact hv⟩
  ·simp at ho
   subst ho
   have r4 := hev 4 rfl
   simp [Act.eval] at r4
   refine ⟨nofun, fun _ _ => trivial, nofun, .inl ⟨.pointer (some ⟨g1, 2, none⟩), V, ?_, Below.refl _ _, fun t ht => by cases ht; rfl⟩⟩
   simp [execOp, Act.eval, go_sem, r4, c0, d1, d2, q1, q2]
  ·simp at ho
   subst ho
   have r100 : a'.eval (.tmp 100) = .pointer (some ⟨g1, 2, none⟩) := hrd 100 rfl rfl
   simp [Act.eval] at r100
   refine ⟨nofun, fun _ _ => trivial, nofun, .inl ⟨.slice Ac nc cc, V, ?_, Below.refl _ _, fun t ht => by cases ht; rfl⟩⟩
   simp [execOp, Act.eval, go_sem, r100, c0, d1, d2, q1, q2]
  ·simp at ho
   subst ho
   have r91 : a'.eval (.tmp 91) = .agg #[vp, vn, vb, vx, vy, .int .i64 (D.size : Int)] := hrd 91 rfl rfl
   simp [Act.eval] at r91
   have r99 : Nb V (a'.eval (.tmp 99)) (mulP D.p (mulP D.p (subP D.p (mulP D.p 3 (mulP D.p x1 x1)) 3) R) (subP D.p (x1) (adX D.p (mulP D.p (subP D.p (mulP D.p 3 (mulP D.p x1 x1)) 3) R) x1 x2))) := hrd 99 rfl rfl
   have r101 : a'.eval (.tmp 101) = .slice Ac nc cc := hrd 101 rfl rfl
   simp [Act.eval] at r101
   refine ⟨nofun, fun _ _ => trivial, nofun, .inr ⟨50, #[(.agg #[vp, vn, vb, vx, vy, .int .i64 (D.size : Int)]), a'.eval (.tmp 99), .slice Ac nc cc], ?_, (callsIn_wide.2 (rminus9_any V _ _ _ D _ _ hcr r99 hBB (mside HP.out (Nat.mod_lt _ HP.out.1) HY.out))).mono ?_⟩⟩
   ·simp [execOp, Act.eval, r91, r101, resolve, invoke, Deferred.ofValue]
   ·rintro e w' ⟨v, rfl, hv, hB2⟩
    exact ⟨_, rfl, hB2, fun t ht => by cases ht; exact hv⟩
  ·simp at ho
   subst ho
   have r90 : a'.eval (.tmp 90) = .slice A12 n12 c12 := hrd 90 rfl rfl
   simp [Act.eval] at r90
   have r102 : Nb V (a'.eval (.tmp 102)) (subP D.p (mulP D.p (mulP D.p (subP D.p (mulP D.p 3 (mulP D.p x1 x1)) 3) R) (subP D.p (x1) (adX D.p (mulP D.p (subP D.p (mulP D.p 3 (mulP D.p x1 x1)) 3) R) x1 x2))) (y1)) := hrd 102 rfl rfl
   obtain ⟨A13, n13, c13, h13⟩ := r102.sl
   rw [h13] at r102
   simp [Act.eval] at h13
   refine ⟨nofun, fun _ _ => trivial, nofun, .inl ⟨.agg #[.bool false, .slice A12 n12 c12, .slice A13 n13 c13], V, ?_, Below.refl _ _, fun t ht => by cases ht; exact ⟨_, _, rfl, hl12, r102⟩⟩⟩
   simp [execOp, Act.eval, go_sem, r90, h13]
  ·simp at ho
   subst ho
   exact absurd rfl hns
 case hs10 =>
  intro o a' V hG hN hshp ho hev hrd
  simp at ho
  have hop : o.op = .store 33 (.tmp 6) (.tmp 103) := by subst ho; rfl
  have hds : o.dst = none := by subst ho; rfl
  have hrd98 : readsB o 103 = true := by subst ho; rfl
  have r98 : Rp V (a'.eval (.tmp 103)) (some (adX D.p (mulP D.p (subP D.p (mulP D.p 3 (mulP D.p x1 x1)) 3) R) x1 x2, adY D.p (mulP D.p (subP D.p (mulP D.p 3 (mulP D.p x1 x1)) 3) R) x1 y1 x2)) := hrd 103 hrd98 (by rfl)
  have o4 := hev 6 rfl
  obtain ⟨v1, v2, he, q2, q3⟩ := r98
  obtain ⟨vs, hrv, hvl⟩ := hshp
  obtain ⟨V', hrun, hr', hg'⟩ := exec_store (P := Tryz.prog) (w := V) (o := o) (a := a') 33 3 Tryz.sizeRp (.tmp 6) (.tmp 103) hop gr [.bool false, v1, v2] (by rw [o4]; rfl) he 33 vs hrv hvl rfl (ones3 rfl q2.one q3.one)
  refine ⟨(by intro c h; rw [hop] at h; cases h), fun _ _ => trivial, hds, V', hrun, hg', NoU.of_row hr' (noU3 nofun q2.no q3.no), ⟨_, hr', rfl⟩, .bool false, v1, v2, hr', ?_⟩
  have hsb : Sb V V' := ⟨gr, hN, hg'⟩
  exact ⟨_, _, rfl, q2.sb hsb, q3.sb hsb⟩
 case hend10 =>
  rintro vals V hG hN - ⟨v0, v1, v2, hr, ht⟩
  simp [wrote, Act.put]
  go_wp2_with fail
  refine ⟨rfl, _, results_rp rfl _ gr _ rfl hr rfl, _, R, rfl, HRL.out, HINV.out, ht, below_grown HB.out hG HGL.out.1 HB.out.size⟩
end Go.Proofs.YtbejcollbkeedaaGreat
namespace Go.Proofs.YtbejcollbkeedaaGreat
open Lean.Grind Cw
section
variable {K : Type} [CommRing K]
theorem iv_is {b d R : K} (C : Cv K b) (hd : d ≠ 0) (h : d * R = 1) : C.iv d = R := by
 have := C.inv d hd
 grind
end
section
variable {p : Nat} [NeZero p] {b : Nat} (C : Cv (Fin p) (zp p b))
include C
theorem adR_lf (hp : 0 < p) {x1 y1 x2 y2 R : Nat} (h1 : x1 < p ∧ y1 < p) (h2 : x2 < p ∧ y2 < p) (hx : x1 ≠ x2) (hR : subP p x2 x1 * R % p = 1) :
  Inp p (some (adX p (mulP p (subP p y2 y1) R) x1 x2, adY p (mulP p (subP p y2 y1) R) x1 y1 x2)) ∧
   lfp p (some (adX p (mulP p (subP p y2 y1) R) x1 x2, adY p (mulP p (subP p y2 y1) R) x1 y1 x2)) = C.ad (some (zp p x1, zp p y1)) (some (zp p x2, zp p y2)) := by
 have m : ∀ x, x % p < p := fun x => Nat.mod_lt x hp
 refine ⟨⟨m _, m _⟩, ?_⟩
 have hne : zp p x1 ≠ zp p x2 := fun h => hx (zp_inj h1.1 h2.1 h)
 have hd : zp p x2 - zp p x1 ≠ 0 := by
  intro h
  apply hne
  generalize zp p x1 = u at *
  generalize zp p x2 = v at *
  grind
 have e : (zp p x2 - zp p x1) * zp p R = 1 := by rw [← zp_subP (le_ap h1.1), ← zp_mm, hR, zp_1]
 simp only [Cv.ad, if_neg hne, iv_is C hd e, lfp]
 have eL : zp p (mulP p (subP p y2 y1) R) = (zp p y2 - zp p y1) * zp p R := by rw [zp_mulP, zp_subP (le_ap h1.2)]
 have eX : zp p (adX p (mulP p (subP p y2 y1) R) x1 x2) = (zp p y2 - zp p y1) * zp p R * ((zp p y2 - zp p y1) * zp p R) - zp p x1 - zp p x2 := by
  rw [adX, zp_subP (le_ap h2.1), zp_subP (le_ap h1.1), zp_mulP, eL]
 rw [eX, adY, zp_subP (le_ap h1.2), zp_mulP, zp_subP (b := adX p (mulP p (subP p y2 y1) R) x1 x2) (le_ap (m _)), eX, eL]
theorem adD_lf (hp : 3 < p) {x1 y1 R : Nat} (h1 : x1 < p ∧ y1 < p) (hy : zp p y1 ≠ 0) (hR : mulP p 2 y1 * R % p = 1) :
  Inp p (some (adX p (mulP p (subP p (mulP p 3 (mulP p x1 x1)) 3) R) x1 x1, adY p (mulP p (subP p (mulP p 3 (mulP p x1 x1)) 3) R) x1 y1 x1)) ∧
   lfp p (some (adX p (mulP p (subP p (mulP p 3 (mulP p x1 x1)) 3) R) x1 x1, adY p (mulP p (subP p (mulP p 3 (mulP p x1 x1)) 3) R) x1 y1 x1)) = C.ad (some (zp p x1, zp p y1)) (some (zp p x1, zp p y1)) := by
 have m : ∀ x, x % p < p := fun x => Nat.mod_lt x (by omega)
 refine ⟨⟨m _, m _⟩, ?_⟩
 have hd : 2 * zp p y1 ≠ 0 := C.mul_ne C.two hy
 have e : 2 * zp p y1 * zp p R = 1 := by rw [← zp_2, ← zp_mulP, ← zp_mm, hR, zp_1]
 simp only [Cv.ad, if_true, iv_is C hd e, lfp]
 have eL : zp p (mulP p (subP p (mulP p 3 (mulP p x1 x1)) 3) R) = (3 * (zp p x1 * zp p x1) - 3) * zp p R := by rw [zp_mulP, zp_subP (by omega), zp_mulP, zp_mulP, zp_3]
 have eX : zp p (adX p (mulP p (subP p (mulP p 3 (mulP p x1 x1)) 3) R) x1 x1) = (3 * (zp p x1 * zp p x1) - 3) * zp p R * ((3 * (zp p x1 * zp p x1) - 3) * zp p R) - zp p x1 - zp p x1 := by
  rw [adX, zp_subP (le_ap h1.1), zp_subP (le_ap h1.1), zp_mulP, eL]
 rw [eX, adY, zp_subP (le_ap h1.2), zp_mulP, zp_subP (b := adX p (mulP p (subP p (mulP p 3 (mulP p x1 x1)) 3) R) x1 x1) (le_ap (m _)), eX, eL]
end
section
variable {p : Nat} [NeZero p] {b : Nat} (C : Cv (Fin p) (zp p b))
include C
end
end Go.Proofs.YtbejcollbkeedaaGreat
namespace Go.Proofs.YtbejcollbkeedaaGreat
open Go.RowKit
def PartsV (w : World) (B : Nat) (A : Option Addr) (n c : Nat) (pss : List (List (BitVec 8))) : Prop :=
 ∃ vs, SlV w B A n c vs ∧ vs.length = pss.length ∧ ∀ (i : Nat) (v : Value) (ps : List (BitVec 8)), vs[i]? = some v → pss[i]? = some ps → ∃ Ai ni ci, v = .slice Ai ni ci ∧ SlV w B Ai ni ci (ps.map W8) ∧ (Ai = none → ci = 0)
theorem PartsV.below {w w' : World} {B n c : Nat} {A : Option Addr} {pss : List (List (BitVec 8))} (h : PartsV w B A n c pss) (hb : Below B w w') : PartsV w' B A n c pss := by
 obtain ⟨vs, h1, h2, h3⟩ := h
 exact ⟨vs, h1.below hb, h2, fun i v ps hv hp => by
  obtain ⟨Ai, ni, ci, e, hs, hz⟩ := h3 i v ps hv hp
  exact ⟨Ai, ni, ci, e, hs.below hb, hz⟩⟩
theorem PartsV.at_ {w : World} {B n c : Nat} {A : Option Addr} {pss : List (List (BitVec 8))} (h : PartsV w B A n c pss) {i : Nat} (hi : i < n) :
  ∃ b off ps Ai ni ci, A = some ⟨b, off, none⟩ ∧ b < B ∧ pss[i]? = some ps ∧ w.cell? ⟨b, off + i, none⟩ = some (.slice Ai ni ci) ∧ SlV w B Ai ni ci (ps.map W8) ∧ (Ai = none → ci = 0) := by
 obtain ⟨vs, h1, h2, h3⟩ := h
 obtain ⟨b, off, v, e, hb, hv, hc⟩ := h1.at_ hi
 have hip : i < pss.length := by have := (List.getElem?_eq_some_iff.1 hv).1; omega
 obtain ⟨Ai, ni, ci, rfl, hs, hz⟩ := h3 i v _ hv (List.getElem?_eq_getElem hip)
 exact ⟨b, off, _, Ai, ni, ci, e, hb, List.getElem?_eq_getElem hip, hc, hs, hz⟩
theorem PartsV.len {w : World} {B n c : Nat} {A : Option Addr} {pss : List (List (BitVec 8))} (h : PartsV w B A n c pss) : n = pss.length := by
 obtain ⟨vs, h1, h2, _⟩ := h
 rw [h1.len, h2]
theorem flat_take_le (pss : List (List (BitVec 8))) (j : Nat) : ((pss.take j).flatten).length ≤ pss.flatten.length := by
 have h := congrArg (fun l => (List.flatten l).length) (List.take_append_drop j pss)
 simp only [List.flatten_append, List.length_append] at h
 omega
theorem flat_take_succ {pss : List (List (BitVec 8))} {j : Nat} {ps : List (BitVec 8)} (h : pss[j]? = some ps) : (pss.take (j + 1)).flatten = (pss.take j).flatten ++ ps := by
 rw [List.take_add_one, h, List.flatten_append]; simp
theorem concat_any (w : World) (B : Nat) (A : Option Addr) (n c : Nat) (pss : List (List (BitVec 8))) (hs : PartsV w B A n c pss) (hB : B ≤ w.heap.size) (hn : n ≤ 1000000) (hlen : pss.flatten.length ≤ 17592186044416) :
  Calls Tryz.prog 62 #[.slice A n c] w fun e w' => ∃ v, e = .returned v ∧ w'.ownsRow w.heap.size 5 1 v pss.flatten.length (pss.flatten.map W8) ∧ Below w.heap.size w w' := by
 obtain ⟨G, hG⟩ : ∃ g, w.heap.size = g := ⟨_, rfl⟩
 have hnl := hs.len
 have hnI : (n : Int) ≤ 1000000 := by omega
 have HS := hid hs
 have HN := hid hnl
 have HG := hid hG
 have HLEN := hid hlen
 have HB := hid hB
 clear hs hnl hG hlen hB hn
 go_enter Tryz.func62, Tryz.ntmps62
 go_wp2
 go_loopw [3, 11] (fun s i wr => w = wr ∧ ∃ j L : Nat, j ≤ n ∧ i = .int .i64 (j : Int) ∧ s = .int .i64 (L : Int) ∧ Hid (((pss.take j).flatten).length = L) ∧ L ≤ 17592186044416) (fun _ i _ => n - (intOf i).toNat)
 case atStart => exact ⟨rfl, 0, 0, by omega, rfl, rfl, hid (by simp), by omega⟩
 case round =>
  obtain ⟨rfl, j, L, hj, rfl, rfl, HL, hL⟩ := hrel
  have hLI : (L : Int) ≤ 17592186044416 := by omega
  by_cases hjn : j = n
  ·subst hjn
   have HLT : Hid (pss.flatten.length = L) := hid (by have := HL.out; rwa [List.take_of_length_le (Nat.le_of_eq HN.out.symm)] at this)
   clear HL
   go_wp2_with fail
   refine (grow_both _ L hL).mono ?_
   rintro e w2 ⟨v0, rfl, hown, hb⟩
   rw [HG.out] at hown hb
   go_wp2
   go_loopw [6, 27] (fun v i wr => ∃ k Lk : Nat, k ≤ j ∧ i = .int .i64 (k : Int) ∧ Hid (((pss.take k).flatten).length = Lk) ∧ Lk ≤ 17592186044416 ∧ Hid (wr.ownsRow G 5 1 v Lk (((pss.take k).flatten).map W8)) ∧ Hid (Below G w wr)) (fun _ i _ => j - (intOf i).toNat)
   case atStart => exact ⟨0, 0, by omega, rfl, hid (by simp), by omega, hid (by simpa using hown), hid hb⟩
   case round =>
    clear hown hb
    obtain ⟨k, Lk, hk, rfl, HLk, hLk, HOWN, HBR⟩ := hrel
    have hkI : (k : Int) ≤ 1000000 := by omega
    by_cases hkn : k = j
    ·subst hkn
     go_wp2
     go_ret
     rw [HG.out]
     have h1 := HOWN.out
     have h2 := HLk.out
     rw [List.take_of_length_le (Nat.le_of_eq HN.out.symm)] at h1 h2
     rw [← h2] at h1
     exact ⟨_, rfl, h1, HBR.out⟩
    ·have hki : (k : Int) < j := by omega
     have hBG : B ≤ G := by have := HB.out; have := HG.out; omega
     obtain ⟨b, off, ps, Ai, ni, ci, rfl, hbB, hps, hcl, hsi, hzi⟩ := ((HS.out.below (HBR.out.mono hBG)).at_ (i := k) (by omega))
     have hfl := flat_take_succ hps
     have hle := flat_take_le pss (k + 1)
     have hnil : ps.length = ni := by simpa using hsi.len.symm
     have hL2 : ((pss.take (k + 1)).flatten).length = Lk + ni := by rw [hfl, List.length_append, HLk.out, hnil]
     have hsum : Lk + ni ≤ 17592186044416 := by have := HLEN.out; omega
     have hGs : G ≤ wr.heap.size := by have := HBR.out.size; have := HG.out; omega
     have HFL := hid hfl
     have HL2 := hid hL2
     have HSUM := hid hsum
     have HGS := hid hGs
     have hown := HOWN.out
     clear hfl hL2 hle hnil hps hsum
     go_wp2_with (at_builtin; refine wlv_append Tryz.elem8 rfl _ _ rfl G _ Lk (((pss.take k).flatten).map W8) rfl hown Ai ni ci _ rfl hzi B hsi (ones8 _) (by have := HSUM.out; omega) hGs ?_; intro v3 w3 hown3 hgr)
     have hb3 := HBR.out.grown hgr HGS.out (fun q hq => (hown.lt q hq).1)
     rw [← List.map_append, ← HFL.out] at hown3
     have HO3 := hid hown3
     have HB3 := hid hb3
     clear hown3 hgr hb3 hown hsi
     go_wp2
     go_roundw
     case rel => exact ⟨k + 1, Lk + ni, by omega, by go_num, HL2, HSUM.out, HO3, HB3⟩
     case measure => simp [intOf]; omega
  ·have hji : (j : Int) < n := by omega
   obtain ⟨b, off, ps, Ai, ni, ci, rfl, hbB, hps, hcl, hsi, hzi⟩ := (HS.out.at_ (i := j) (by omega))
   have hfl := flat_take_succ hps
   have hle := flat_take_le pss (j + 1)
   have hnil : ps.length = ni := by simpa using hsi.len.symm
   have hL2 : ((pss.take (j + 1)).flatten).length = L + ni := by rw [hfl, List.length_append, HL.out, hnil]
   have hsum : L + ni ≤ 17592186044416 := by have := HLEN.out; omega
   have hsumI : (L : Int) + ni ≤ 17592186044416 := by omega
   have HL2 := hid hL2
   have HSUM := hid hsum
   clear hfl hL2 hle hnil hps hsum hsi hzi
   go_wp2
   go_roundw
   case rel => exact ⟨by first | rfl | trivial, j + 1, L + ni, by omega, by go_num, by go_num, HL2, HSUM.out⟩
   case measure => simp [intOf]; omega
def beW (n N : Nat) : List (BitVec 8) := (be n N).map fun x => BitVec.ofNat 8 x
theorem beW_W8 (n N : Nat) : (beW n N).map W8 = (be n N).map U8 := by
 unfold beW
 rw [List.map_map]
 refine List.map_congr_left fun x hx => ?_
 have := be_lt n N x hx
 simp [i8, BitVec.toNat_ofNat, Nat.mod_eq_of_lt this]
theorem bytes_u (w : World) (a : Value) (x : Nat) (ha : NumR w 64 x a) (m : Nat) (hm : m ≤ 65536) (hlt : x < 256 ^ m) (hm0 : 0 < m) :
  Calls Tryz.prog 61 #[a, .int .i64 (m : Int)] w fun e w' => ∃ g, e = .returned (.tuple #[.slice (some ⟨g, 0, none⟩) m m, .bool true]) ∧ RowV 5 w' g ((beW m x).map W8) ∧ Below w.heap.size w w' := by
 obtain ⟨xs, A, n, c, rfl, hs, hd, rfl, hn⟩ := ha
 refine (bytes_yes w _ (Nat.le_refl _) _ _ _ _ hs hd (by omega) m hm hlt).mono ?_
 rintro e w' ⟨g, rfl, hr, hb⟩
 refine ⟨g, rfl, ?_, hb⟩
 rw [beW_W8]
 exact hr
def encN (s : Nat) : Option (Nat × Nat) → List (BitVec 8)
 | none => [0]
 | some (x, y) => 4 :: (beW s x ++ beW s y)
theorem cEnc_yes (w : World) (c : Int) (D : Crv) (hc : crvOf c = some D) (vP : Value) (P : Option (Nat × Nat)) (hP : Pg w vP P) (x y : Nat) (hPs : P = some (x, y)) (has : hasN D.p D.b P) (hs0 : 0 < D.size) (hs1 : D.size ≤ 65536) (hs2 : D.p < 256 ^ D.size) :
  Calls Tryz.prog 24 #[.int .i64 c, vP] w fun e w' => ∃ v, e = .returned (.tuple #[v, .bool true]) ∧ w'.ownsRow w.heap.size 5 1 v (encN D.size P).length ((encN D.size P).map W8) ∧ Below w.heap.size w w' := by
 have HSZ := hid (show 0 < D.size ∧ D.size ≤ 65536 ∧ D.p < 256 ^ D.size from ⟨hs0, hs1, hs2⟩)
 clear hs0 hs1 hs2
 have hmx : Tryz.prog.follows .mixedOrders = true := by kernel_rfl
 have hok := crv_ok hc
 obtain ⟨iP, bP, dP, rfl⟩ := hP.ex
 have hiP : iP = false := by
  subst hPs
  obtain ⟨a, b, e, _⟩ := hP
  injection e with e
  simp at e
  exact e.1
 subst hiP
 subst hPs
 obtain ⟨W0, e0, r0, b0, s0⟩ := newS w 26 [.bool false, bP, dP] _ rfl
 obtain ⟨gP, hgP⟩ : ∃ x, w.heap.size = x := ⟨_, rfl⟩
 obtain ⟨W1, e1, r1, b1, s1⟩ := newS W0 26 [.bool false, bP, dP] _ rfl
 obtain ⟨gs, hgs⟩ : ∃ x, W0.heap.size = x := ⟨_, rfl⟩
 rw [hgP] at r0
 rw [hgs] at r1
 have hbw : Below w.heap.size w W1 := (b0).trans (b1.mono (b0).size)
 have qgP := (r0.later b1)
 have qgs := r1
 have HB := hid hbw
 have HGL := hid (show w.heap.size ≤ gP ∧ gP < W1.heap.size by omega)
 have hP3 := hP.later hbw
 have HPP := hid hP3
 have HRP := hid qgP
 have pp0 := r0.at_ (i := 0) rfl
 have p0 := qgP.at_ (i := 0) rfl
 have pp1 := r0.at_ (i := 1) rfl
 have p1 := qgP.at_ (i := 1) rfl
 have pp2 := r0.at_ (i := 2) rfl
 have p2 := qgP.at_ (i := 2) rfl
 have HDW := hid (domW_any W1 c D hc hok.1 gs 1 1 [(.bool false, bP, dP)] [some (x, y)] rfl (by decide) rfl (PtsV.one qgs) (by
  intro k a b d R h1 h2
  rcases k with _ | k
  ·simp at h1 h2
   obtain ⟨rfl, rfl, rfl⟩ := h1
   subst h2
   exact hP3
  ·simp at h1))
 have HOK := hid hok
 have Hhas := hid has
 clear has b0 s0 r0 b1 s1 r1 hbw qgP qgs hok hc hP hP3
 go_enter Tryz.func24, Tryz.ntmps24
 go_wp2_with fail
 refine HDW.out.mono ?_
 rintro e w1 (⟨vd, rfl, hvd, hall, hb1⟩ | ⟨rfl, ⟨R, hR, hRn⟩, hb1⟩)
 rotate_left
 ·exfalso
  simp only [List.mem_cons, List.not_mem_nil, or_false] at hR
  subst hR
  exact hRn Hhas.out
 ·skip
  obtain ⟨vp, vb, vn, vx, vy, rfl, k1, k2, k3, k4, k5⟩ := hvd
  obtain ⟨Ap, np, cp, rfl⟩ := k1.sl
  obtain ⟨Ab, nb, cb, rfl⟩ := k2.sl
  obtain ⟨An, nn, cn, rfl⟩ := k3.sl
  obtain ⟨Ax, nx, cx, rfl⟩ := k4.sl
  obtain ⟨Ay, ny, cy, rfl⟩ := k5.sl
  have HDM := hid (show Dm w1 _ D from ⟨_, _, _, _, _, rfl, k1, k2, k3, k4, k5⟩)
  obtain ⟨W5, e5, r5, b5, s5⟩ := newS w1 73 [.int .i64 0, .slice none 0 0, .slice none 0 0, .slice none 0 0, .bool false, .slice none 0 0, .slice none 0 0] _ rfl
  obtain ⟨g8, hg8⟩ : ∃ x, w1.heap.size = x := ⟨_, rfl⟩
  rw [hg8] at r5
  have HB5 := hid b5
  have HB1 := hid hb1
  have HG8 := hid (show W1.heap.size ≤ g8 by have := hb1.size; omega)
  have HNU := hid (NoU.of_row r5 (by intro v hv x; simp only [List.mem_cons, List.not_mem_nil, or_false] at hv; rcases hv with rfl | rfl | rfl | rfl | rfl | rfl | rfl <;> (intro h; cases h)))
  clear k1 k2 k3 k4 k5 hall hb1 b5 s5 p0 p1 p2 pp0 pp1 pp2
  go_wp2_with ((with_reducible show wpList _ _ _ (⟨none, _, _, _, _, _⟩ :: _) _ _); refine wlS_store rfl 73 7 Tryz.sizeDom _ _ rfl g8 [.int .i64 (D.size : Int), .slice Ap np cp, .slice Ab nb cb, .slice An nn cn, .bool false, .slice Ax nx cx, .slice Ay ny cy] rfl rfl 73 _ r5 rfl rfl (by intro v hv; simp only [List.mem_cons, List.not_mem_nil, or_false] at hv; rcases hv with rfl | rfl | rfl | rfl | rfl | rfl | rfl <;> rfl) ?_; intro w6 hr6 hg6 hz; have q6 := ((HRP.out.later HB1.out).later HB5.out).grown hg6 (by have := HG8.out; have := HGL.out; omega); have c0 := q6.at_ (i := 0) rfl; have c1 := q6.at_ (i := 1) rfl; have c2 := q6.at_ (i := 2) rfl; have f0 := hr6.at_ (i := 0) rfl)
  have hsb : Sb W5 w6 := ⟨g8, HNU.out, hg6⟩
  have HDM6 := hid ((HDM.out.later HB5.out).sb hsb)
  have HP6 := hid (((HPP.out.later HB1.out).later HB5.out).sb hsb)
  have HRP6 := hid (((HRP.out.later HB1.out).later HB5.out).grown hg6 (by have := HG8.out; have := HGL.out; omega))
  have HR8 := hid hr6
  have hbw1 := HB.out.trans (HB1.out.mono HB.out.size)
  have hbw5 := hbw1.trans (HB5.out.mono hbw1.size)
  have HBW := hid (below_grown hbw5 hg6 (by have := HG8.out; have := HGL.out; omega) hbw5.size)
  clear hsb hbw1 hbw5 HDM HB5 HB1 HPP HRP hr6 hg6 hz HNU
  have hxy : NumR w6 64 x bP ∧ NumR w6 64 y dP := by
   obtain ⟨b', d', he, hx, hy⟩ := HP6.out
   injection he with he
   simp at he
   obtain ⟨rfl, rfl⟩ := he
   exact ⟨hx, hy⟩
  have HXY := hid hxy
  have HBX := hid (bytes_u w6 bP x hxy.1 D.size HSZ.out.2.1 (Nat.lt_trans Hhas.out.1 HSZ.out.2.2) HSZ.out.1)
  clear hxy c0 c1 f0 q6 c2
  refine HBX.out.mono ?_
  rintro e w7 ⟨gx, rfl, hrx, hb7⟩
  have HRX := hid hrx
  have c27 := (HRP6.out.later hb7).at_ (i := 2) rfl
  have f07 := (HR8.out.later hb7).at_ (i := 0) rfl
  have HB7 := hid (HBW.out.trans (hb7.mono HBW.out.size))
  have HBY := hid (bytes_u w7 dP y (HXY.out.2.later hb7) D.size HSZ.out.2.1 (Nat.lt_trans Hhas.out.2.1 HSZ.out.2.2) HSZ.out.1)
  clear hrx hb7
  go_wp2_with fail
  refine HBY.out.mono ?_
  rintro e w8 ⟨gy, rfl, hry, hb8⟩
  obtain ⟨W9, e9, r9, b9, s9⟩ := newS w8 5 [.int .u8 4] _ rfl
  obtain ⟨g9, hg9⟩ : ∃ z, w8.heap.size = z := ⟨_, rfl⟩
  rw [hg9] at r9
  obtain ⟨W10, e10, r10, b10, s10⟩ := newS W9 49 [.slice (some ⟨g9, 0, none⟩) 1 1, .slice (some ⟨gx, 0, none⟩) D.size D.size, .slice (some ⟨gy, 0, none⟩) D.size D.size] _ rfl
  obtain ⟨g10, hg10⟩ : ∃ z, W9.heap.size = z := ⟨_, rfl⟩
  rw [hg10] at r10
  have hrx8 := ((HRX.out.later hb8).later b9).later b10
  have hry8 := (hry.later b9).later b10
  have hr98 := r9.later b10
  have hB8 := HB7.out.trans (hb8.mono HB7.out.size)
  have hB9 := hB8.trans (b9.mono hB8.size)
  have HB10 := hid (hB9.trans (b10.mono hB9.size))
  have hlx : ((beW D.size x).map W8).length = D.size := by simp [beW, be_length]
  have hly : ((beW D.size y).map W8).length = D.size := by simp [beW, be_length]
  have sx := hrx8.sl (by rw [hlx]; have := HSZ.out.2.1; omega)
  have sy := hry8.sl (by rw [hly]; have := HSZ.out.2.1; omega)
  have s4 : SlV W10 W10.heap.size (some ⟨g9, 0, none⟩) 1 1 [W8 4] := hr98.sl (by simp)
  rw [hlx] at sx
  rw [hly] at sy
  have hsl := r10.sl (by simp)
  have hpart : PartsV W10 W10.heap.size (some ⟨g10, 0, none⟩) 3 3 [[4], beW D.size x, beW D.size y] := by
   refine ⟨_, hsl, rfl, fun i v ps hv hp => ?_⟩
   rcases i with _ | _ | _ | i
   ·simp at hv hp
    subst hv hp
    exact ⟨_, _, _, rfl, s4, fun h => by cases h⟩
   ·simp at hv hp
    subst hv hp
    exact ⟨_, _, _, rfl, sx, fun h => by cases h⟩
   ·simp at hv hp
    subst hv hp
    exact ⟨_, _, _, rfl, sy, fun h => by cases h⟩
   ·simp at hv
  have HC := hid (concat_any W10 _ _ 3 3 _ hpart (Nat.le_refl _) (by decide) (by simp [beW, be_length]; have := HSZ.out.2.1; omega))
  clear hpart hsl s4 sx sy hlx hly hB8 hB9 hrx8 hry8 hr98 r9 r10 b9 b10 s9 s10 hry hb8 c27 f07
  go_wp2_with fail
  refine HC.out.mono ?_
  rintro e w11 ⟨v, rfl, hown, hb11⟩
  have HOWN := hid hown
  have HB11 := hid hb11
  clear hown hb11
  go_wp2
  refine bodyPost_ret (results_tmp2 rfl _ _ _) rfl ?_
  have hfl : [[(4 : BitVec 8)], beW D.size x, beW D.size y].flatten = encN D.size (some (x, y)) := by simp [encN]
  have h1 := HOWN.out
  rw [hfl] at h1
  refine ⟨v, rfl, ?_, HB10.out.trans (HB11.out.mono HB10.out.size)⟩
  exact own_base h1 HB10.out.size
end Go.Proofs.YtbejcollbkeedaaGreat
