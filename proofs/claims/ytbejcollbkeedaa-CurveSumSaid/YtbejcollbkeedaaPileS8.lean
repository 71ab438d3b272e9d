/- Parts of one proof, joined: ModX, ModE, CuM, CuN, CwA, Ku, CuP, TreeB, CuQ, CuR, CuT, Open8, CuV, CwC, CwD. -/
import Derived.Test.YtbejcollbkeedaaPileS7
import Derived.Test.YtbejcollbkeedaaPileS3
import Derived.Test.YtbejcollbkeedaaPileS4
import Derived.Test.YtbejcollbkeedaaPileS2
import Derived.RangeFuncBox
import Derived.Deep.RegionHeld3
import Derived.Test.YtbejcollbkeedaaPileS6
import Derived.Test.YtbejcollbkeedaaPileS5
import Derived.Test.YtbejcollbkeedaaPileS1
set_option linter.unusedVariables false
set_option linter.unusedSimpArgs false
set_option linter.unusedSectionVars false
set_option maxRecDepth 100000
set_option maxHeartbeats 8000000
open Go.Lib (hid)
namespace Go.Proofs.Ytbejcollbkeedaa
open Go.RowKit Go.Shelf
attribute [local go_sem] Oper.semAt_some
def KpX (n₀ Bs : Nat) (A : Option Addr) (n c : Nat) (xs : List Nat) (W W' : World) : Prop := Below n₀ W W' ∧ W'.heap[Bs]? = W.heap[Bs]? ∧ (Sl W W.heap.size A n c xs → Sl W' W'.heap.size A n c xs)
theorem KpX.refl (n₀ Bs : Nat) (A : Option Addr) (n c : Nat) (xs : List Nat) (W : World) : KpX n₀ Bs A n c xs W W := ⟨Below.refl _ _, rfl, fun h => h⟩
theorem KpX.trans {n₀ Bs n c : Nat} {A : Option Addr} {xs : List Nat} {X Y Z : World} (h : KpX n₀ Bs A n c xs X Y) (k : KpX n₀ Bs A n c xs Y Z) : KpX n₀ Bs A n c xs X Z :=
 ⟨h.1.trans k.1, k.2.1.trans h.2.1, fun hs => k.2.2 (h.2.2 hs)⟩
theorem KpX.put {n₀ Bs n c : Nat} {A : Option Addr} {xs : List Nat} {w : World} (hn : n₀ ≤ w.heap.size) (hb : Bs < w.heap.size) (W : World) (l : Nat) (o o' : Obj) (hl : w.heap.size ≤ l) (h : W.heap[l]? = some o) (hc : o.isCells = false) (hw : o.isWalk = false) : KpX n₀ Bs A n c xs W (W.putObj l o') := by
 have k := KpB.put hn hb W l o o' hl h hc hw
 refine ⟨k.1, k.2, fun hs => ?_⟩
 have hz : (W.putObj l o').heap.size = W.heap.size := by simp [World.putObj]
 rw [hz]
 exact hs.kept (grownBy_putObj' W l o') (fun r e => by cases e; exact ⟨_, h, hc⟩)
theorem each1X_in (nn : Nat) (hn : 1 ≤ nn) (l Bs n₀ n c : Nat) (A : Option Addr) (xs : List Nat) (k0 : Nat) (hk0 : IsBits (V b64 xs) k0) (hd : Dg b64 xs) (hk1 : k0 ≤ 4611686018427387904) (hn1 : n ≤ 17592186044416) (J Jx : List (Ix k0) → World → Prop)
  (hY : ∀ pre x W, J pre W → pre.length < k0 → YieldAt Fence.wide (nn - 1) Try.prog l (encE (V b64 xs) k0 x) W fun e W' =>
   (e = .returned (.bool true) ∧ J (pre ++ [x]) W' ∧ KpX n₀ Bs A n c xs W W') ∨ (e = .returned (.bool false) ∧ Jx (pre ++ [x]) W'))
  (W : World) (hBs : W.cell? ⟨Bs, 0, none⟩ = some (.slice A n c)) (hs : Sl W W.heap.size A n c xs) (h0 : J [] W) :
  CallsIn Fence.wide nn Try.prog 46 #[.func (.yield l) #[] #[], .pointer (some ⟨Bs, 0, none⟩)] W fun e W' => (∃ v, e = .returned v) ∧
   ((∃ ys : List (Ix k0), ys.map (·.1) = downL k0 k0 ∧ J ys W') ∨ (∃ pre : List (Ix k0), (∃ k, k ≤ k0 ∧ pre.map (·.1) = downL k0 k) ∧ Jx pre W')) := by
 refine callsIn_of_wp Try.func46 rfl trivial ?_ rfl
 simp only [Try.ntmps46, List.size_toArray, List.length_cons, List.length_nil, Nat.reduceAdd, Nat.reduceSub, Array.replicate_succ, Array.replicate_zero, List.push_toArray, List.append_toArray, List.nil_append, List.cons_append]
 gi_wp2_with (refine ⟨trivial, ?_⟩; gi_at_call 24; refine (callsIn_wide.2 (bits_any W W.heap.size A n c xs hs hd hn1)).mono ?_; rintro e W' ⟨k1, rfl, hk, rfl⟩; obtain rfl := hk0.unique hk; clear hk)
 gi_loopw [3] (fun i wr => ∃ (m : Nat) (pre : List (Ix k0)), m ≤ k0 ∧ i = .int .i64 ((m : Int) - 1) ∧ pre.map (·.1) = downL k0 (k0 - m) ∧ J pre wr ∧ KpX n₀ Bs A n c xs W wr)
  (fun i _ => (intOf i + 1).toNat)
 case atStart => exact ⟨k0, [], Nat.le_refl _, rfl, by simp [downL], h0, KpX.refl _ _ _ _ _ _ _⟩
 case round =>
  obtain ⟨m, pre, hm, rfl, hpre, hJs, hnx⟩ := hrel
  have HP := hid hpre
  clear hpre
  by_cases hm0 : m = 0
  ·subst hm0
   gi_wp2
   go_end0
   exact ⟨⟨_, rfl⟩, .inl ⟨pre, HP.out, hJs⟩⟩
  ·obtain ⟨t, rfl⟩ : ∃ t, m = t + 1 := ⟨m - 1, by omega⟩
   have hBc : wr.cell? ⟨Bs, 0, none⟩ = some (.slice A n c) := (World.cell?_of_block (a := ⟨Bs, 0, none⟩) hnx.2.1).trans hBs
   have hsr := hnx.2.2 hs
   have hpl : pre.length < k0 := by
    have := congrArg List.length HP.out
    rw [List.length_map, downL_length] at this
    omega
   obtain ⟨fn, tmps, assign, body, hy, hR⟩ := hY pre ⟨t, by omega⟩ wr hJs hpl
   dsimp only [encE] at hy
   obtain ⟨bv, hbv⟩ : ∃ bv, V b64 xs / 2 ^ t % 2 = bv := ⟨_, rfl⟩
   have hbt := bit_any wr wr.heap.size A n c xs hsr hd t (by omega)
   rw [hbv] at hy hbt
   have HBT := hid hbt
   clear hbt hbv
   have ht0 : (0 : Int) ≤ ((t + 1 : Nat) : Int) - 1 := by omega
   gi_wp2_with (refine ⟨trivial, ?_⟩; gi_at_call 47; refine (callsIn_wide.2 HBT.out).mono ?_; rintro e W' ⟨rfl, rfl⟩)
   refine hR.mono ?_
   rintro e W3 (⟨rfl, hJ3, hk3⟩ | ⟨rfl, hJx3⟩)
   ·gi_wp2
    go_roundw
    case rel => exact ⟨t, pre ++ [⟨t, by omega⟩], by omega, by go_num, by rw [List.map_append, HP.out, show k0 - t = (k0 - (t + 1)) + 1 by omega, downL_succ]; simp; omega, hJ3, hnx.trans hk3⟩
    case measure => simp [intOf]
   ·gi_wp2
    refine bodyPost_ret (results_none rfl _ _ _) rfl ?_
    exact ⟨⟨_, rfl⟩, .inr ⟨_, ⟨k0 - t, by omega, by rw [List.map_append, HP.out, show k0 - t = (k0 - (t + 1)) + 1 by omega, downL_succ]; simp; omega⟩, hJx3⟩⟩
theorem eachX_stops (nn : Nat) (hn : 1 ≤ nn) (Bs n₀ n c : Nat) (A : Option Addr) (xs : List Nat) (k0 : Nat) (hk0 : IsBits (V b64 xs) k0) (hd : Dg b64 xs) (hk1 : k0 ≤ 4611686018427387904) (hn1 : n ≤ 17592186044416) (w : World) (hBs : Bs < w.heap.size) 
  (hc : w.cell? ⟨Bs, 0, none⟩ = some (.slice A n c)) (hI : Sl w w.heap.size A n c xs) :
  SeqStopsK Fence.wide nn Try.prog 46 #[.pointer (some ⟨Bs, 0, none⟩)] (encE (V b64 xs) k0) (KpX n₀ Bs A n c xs) (fun ys => ys.map (·.1) = downL k0 k0) (fun pre => ∃ k, k ≤ k0 ∧ pre.map (·.1) = downL k0 k) k0 w := fun l J Jx W hW _ _ hY h0 => by
 have hc' := (hW.cell (p := ⟨Bs, 0, none⟩) hBs).trans hc
 exact each1X_in nn hn l Bs n₀ n c A xs k0 hk0 hd hk1 hn1 J Jx hY W hc' (hI.later hW (Nat.le_refl _)) h0
theorem each_new (w : World) (B : Nat) (A : Option Addr) (n c : Nat) (xs : List Nat) (hs : Sl w B A n c xs) (hd : Dg b64 xs) (hn : n ≤ 17592186044416) :
  Calls Try.prog 27 #[.slice A n c] w fun e w' => ∃ g A2 n2 c2 ys, e = .returned (.func (.func 46) #[] #[.pointer (some ⟨g, 0, none⟩)]) ∧ Nm b64 ys (V b64 xs) ∧ g < w'.heap.size ∧ w.heap.size ≤ g ∧ w'.cell? ⟨g, 0, none⟩ = some (.slice A2 n2 c2) ∧ Sl w' w'.heap.size A2 n2 c2 ys ∧ Below w.heap.size w w' := by
 go_enter Try.func27, Try.ntmps27
 go_wp2_with (go_at_call 45; refine (norm_any w B A n c xs hs hd hn).mono ?_; rintro e w1 ⟨ys, hN, A2, n2, c2, rfl, hs2, hb⟩)
 go_ret
 refine ⟨w1.heap.size, A2, n2, c2, ys, rfl, hN, by simp, hb.size, by simp, ?_, hb.alloc hb.size _⟩
 exact (hs2.below ((Below.refl _ w1).alloc (Nat.le_refl _) _)).more (by simp)
end Go.Proofs.Ytbejcollbkeedaa
namespace Go.Proofs.Ytbejcollbkeedaa
open Go.RowKit Go.Shelf
attribute [local go_sem] Oper.semAt_some
theorem bits_ex (N : Nat) : ∃ k, IsBits N k := by
 have h : ∀ m, N < 2 ^ m → ∃ k, IsBits N k := by
  intro m
  induction m with
  | zero => intro h; exact ⟨0, h, fun h => absurd rfl h⟩
  | succ m ih =>
   intro h
   rcases Nat.lt_or_ge N (2 ^ m) with h1 | h1
   ·exact ih h1
   ·exact ⟨m + 1, h, fun _ => h1⟩
 exact h N Nat.lt_two_pow_self
end Go.Proofs.Ytbejcollbkeedaa
namespace Go.Proofs.Ytbejcollbkeedaa
open Go.RowKit
theorem wlSI_store {F : Fence} {n' : Nat} {P : Program} {w : World} {ops : Array Oper} {rest : List Oper} {o : Oper} {a : Act} {Q : Exit → Act → World → Prop} (hgd : o.guard = none) (ty n : Nat) (hi : (P.info? ty).map (·.size) = some n) (x y : Operand) (ho : o.op = .store ty x y) (g : Nat) (vs' : List Value) (hx : a.eval x = .pointer (some ⟨g, 0, none⟩)) (hy : a.eval y = .agg vs'.toArray) (t : TypeId) (vs : List Value) (hr : RowV t w g vs) (hl : vs.length = n) (hl' : vs'.length = n) (h1 : Ones vs')
  (h : ∀ w', RowV t w' g vs' → w.grownBy w' (some g) → True → wpListIn F n' P ops Q rest (a.put o.dst undef) w') : wpListIn F n' P ops Q (o :: rest) a w := by
 obtain ⟨w', hrun, hr', hg⟩ := exec_store (P := P) (w := w) (o := o) (a := a) ty n hi x y ho g vs' hx hy t vs hr hl hl' h1
 exact wpListIn_skips hgd (by rw [ho]; intro c hc; cases hc) (fun f hf => by simp [Oper.about, ho] at hf) hrun (h w' hr' hg trivial)
theorem Nu.kept {A B : World} {v : Value} {k : Nat} (h : Nu A v k) {row : Option Nat} (hg : A.grownBy B row) (hr : ∀ r, row = some r → ∃ o : Obj, A.heap[r]? = some o ∧ o.isCells = false) : Nu B v k := by
 obtain ⟨xs, p, n, c, e, hs, hn, hl⟩ := h
 exact ⟨xs, p, n, c, e, (hs.kept hg hr).more hg.size, hn, hl⟩
theorem Rt.kept {A B : World} {v : Value} {T : Nat × Nat × Nat} (h : Rt A v T) {row : Option Nat} (hg : A.grownBy B row) (hr : ∀ r, row = some r → ∃ o : Obj, A.heap[r]? = some o ∧ o.isCells = false) : Rt B v T := by
 obtain ⟨a, b, c, e, h1, h2, h3⟩ := h
 exact ⟨a, b, c, e, h1.kept hg hr, h2.kept hg hr, h3.kept hg hr⟩
theorem Pt.kept {A B : World} {v : Value} {R : Option (Nat × Nat)} (h : Pt A v R) {row : Option Nat} (hg : A.grownBy B row) (hr : ∀ r, row = some r → ∃ o : Obj, A.heap[r]? = some o ∧ o.isCells = false) : Pt B v R := by
 rcases R with _ | ⟨x, y⟩
 ·obtain ⟨a, b, e, h1, h2⟩ := h
  exact ⟨a, b, e, h1.kept hg hr, h2.kept hg hr⟩
 ·obtain ⟨a, b, e, h1, h2⟩ := h
  exact ⟨a, b, e, h1.kept hg hr, h2.kept hg hr⟩
def mlN (p b : Nat) (one : Nat × Nat × Nat) (r k0 : Nat) : Nat → Nat × Nat × Nat
 | 0 => (0, 1, 0)
 | j + 1 => if r / 2 ^ (k0 - (j + 1)) % 2 = 1 then rcbN p b (rcbN p b (mlN p b one r k0 j) (mlN p b one r k0 j)) one else rcbN p b (mlN p b one r k0 j) (mlN p b one r k0 j)
def MlJ (g k0 : Nat) (p b : Nat) (one : Nat × Nat × Nat) (r : Nat) (pre : List (Ix k0)) (W : World) : Prop :=
 ∃ v0 v1 v2 T, RowV 65 W g [v0, v1, v2] ∧ Rt W (.agg #[v0, v1, v2]) T ∧ (pre.map (·.1) = downL k0 pre.length → T = mlN p b one r k0 pre.length)
theorem Rt.parts {w : World} {a b c : Value} {T : Nat × Nat × Nat} (h : Rt w (.agg #[a, b, c]) T) : Nu w a T.1 ∧ Nu w b T.2.1 ∧ Nu w c T.2.2 := by
 obtain ⟨x, y, z, e, h1, h2, h3⟩ := h
 injection e with e
 simp at e
 obtain ⟨rfl, rfl, rfl⟩ := e
 exact ⟨h1, h2, h3⟩
def NoU3 (a b c : Value) : Prop := (∀ x, a ≠ .int .u64 x) ∧ (∀ x, b ≠ .int .u64 x) ∧ (∀ x, c ≠ .int .u64 x)
theorem Rt.three {w : World} {v : Value} {T : Nat × Nat × Nat} (h : Rt w v T) : ∃ v0 v1 v2, v = .agg #[v0, v1, v2] ∧ v0.oneCell' = true ∧ v1.oneCell' = true ∧ v2.oneCell' = true ∧ NoU3 v0 v1 v2 := by
 obtain ⟨a, b, c, rfl, h1, h2, h3⟩ := h
 exact ⟨a, b, c, rfl, h1.one, h2.one, h3.one, slU h1, slU h2, slU h3⟩
end Go.Proofs.Ytbejcollbkeedaa
namespace Go.Proofs.Ytbejcollbkeedaa
open Go.RowKit
attribute [local go_sem] Oper.semAt_some
theorem mlN_lt {p b : Nat} (hp : 0 < p) (hb : b < p) (one : Nat × Nat × Nat) (r k0 : Nat) : ∀ j, (mlN p b one r k0 j).2.2 < p
 | 0 => hp
 | j + 1 => by
  rw [mlN]
  split
  ·exact (rcbN_lt hp hb _ _).2.2
  ·exact (rcbN_lt hp hb _ _).2.2
theorem rtSt {W w8 W9 : World} {g g5 : Nat} {vs : List Value} (hb : Below W.heap.size W w8) (hr : RowV 65 W g vs) (hno : NoU W g) (hg : w8.grownBy W9 (some g)) (h5 : g5 < W.heap.size) (hne : g < g5) :
  (∀ B, KeepsFrom B W W9) ∧ Below g W W9 ∧ ∀ A n c xs, KpX g g5 A n c xs W W9 := by
 have hno8 : NoU w8 g := fun off x hx => hno off x (by rw [← hx]; exact (hb.cell (p := ⟨g, off, none⟩) hr.lt).symm)
 have hbg : Below g W W9 := below_grown (hb.mono (Nat.le_of_lt hr.lt)) hg (Nat.le_refl _) (by have := hb.size; have := hr.lt; omega)
 refine ⟨fun B => ⟨Nat.le_trans hb.size hg.size, fun k o _ h ho => ?_⟩, hbg, fun A n c xs => ⟨hbg, ?_, fun h => (h.later hb (Nat.le_refl _)).sb ⟨g, hno8, hg⟩⟩⟩
 ·have hk := (Array.getElem?_eq_some_iff.1 h).1
  refine ((hg.block k (Nat.lt_of_lt_of_le hk hb.size) (fun e => ?_)).trans (hb.block k hk)).trans h
  injection e with e
  subst e
  rw [show W.heap[k]? = _ from hr] at h
  injection h with h
  rw [← h] at ho
  cases ho
 ·exact (hg.block g5 (Nat.lt_of_lt_of_le h5 hb.size) (fun e => by injection e with e; omega)).trans (hb.block g5 h5)
theorem cMul_yes (w : World) (c : Int) (D : Crv) (hc : crvOf c = some D) (vk vP : Value) (kN : Nat) (hk : NumR w 64 kN vk) (P : Option (Nat × Nat)) (hP : Pg w vP P) (has : hasN D.p D.b P) (hn : 1 < D.n) (hnl : D.n < b64 ^ 64) (rN : Nat) (hrN : kN % D.n = rN) :
  Calls Try.prog 8 #[.int .i64 c, vk, vP] w fun e w' => ∃ v k0, e = .returned (.tuple #[v, .bool true]) ∧ IsBits rN k0 ∧ PtS D.p (mlN D.p D.b (rtN P) rN k0 k0) v w' ∧ Below w.heap.size w w' := by
 have hmx : Try.prog.follows .mixedOrders = true := by kernel_rfl
 have hok := crv_ok hc
 obtain ⟨iP, bP, dP, rfl⟩ := hP.ex
 obtain ⟨W0, e0, r0, b0, s0⟩ := newS w 31 [.bool iP, bP, dP] _ rfl
 obtain ⟨gP, hgP⟩ : ∃ x, w.heap.size = x := ⟨_, rfl⟩
 obtain ⟨W1, e1, r1, b1, s1⟩ := newS W0 31 [.bool false, .slice none 0 0, .slice none 0 0] _ rfl
 obtain ⟨gr, hgr⟩ : ∃ x, W0.heap.size = x := ⟨_, rfl⟩
 obtain ⟨W2, e2, r2, b2, s2⟩ := newS W1 31 [.bool iP, bP, dP] _ rfl
 obtain ⟨gs, hgs⟩ : ∃ x, W1.heap.size = x := ⟨_, rfl⟩
 rw [hgP] at r0
 rw [hgr] at r1
 rw [hgs] at r2
 have hbw : Below w.heap.size w W2 := ((b0).trans (b1.mono (b0).size)).trans (b2.mono ((b0).trans (b1.mono (b0).size)).size)
 have qgP := ((r0.later b1).later b2)
 have qgr := (r1.later b2)
 have qgs := r2
 have HB := hid hbw
 have HGL := hid (show w.heap.size ≤ gr ∧ gP < gr ∧ gr < W2.heap.size ∧ gP < W2.heap.size by omega)
 have hP3 := hP.later hbw
 have HPP := hid hP3
 have HRP := hid qgP
 have HRR := hid qgr
 have pp0 := (r0.later b1).at_ (i := 0) rfl
 have p0 := qgP.at_ (i := 0) rfl
 have pp1 := (r0.later b1).at_ (i := 1) rfl
 have p1 := qgP.at_ (i := 1) rfl
 have pp2 := (r0.later b1).at_ (i := 2) rfl
 have p2 := qgP.at_ (i := 2) rfl
 have HK := hid (hk.later hbw)
 have HN := hid (And.intro hn hnl)
 have HRN0 := hid hrN
 clear hk hn hnl hrN
 have HDW := hid (domW_any W2 c D hc hok.1 gs 1 1 [(.bool iP, bP, dP)] [P] rfl (by decide) rfl (PtsV.one qgs) (by
  intro k a b d R h1 h2
  rcases k with _ | k
  ·simp at h1 h2
   obtain ⟨rfl, rfl, rfl⟩ := h1
   subst h2
   exact hP3
  ·simp at h1))
 have HOK := hid hok
 have Hhas := hid has
 clear has b0 s0 r0 b1 s1 r1 b2 s2 r2 hbw qgP qgs qgr hok hc hP hP3
 refine (callsIn_wide (n := 9)).1 ?_
 refine callsIn_of_wp_marks Try.func8 rfl trivial ?_ rfl
 simp only [Try.ntmps8, List.size_toArray, List.length_cons, List.length_nil, Nat.reduceAdd, Nat.reduceSub, Array.replicate_succ, Array.replicate_zero, List.push_toArray, List.append_toArray, List.nil_append, List.cons_append]
 gi_wp2_with fail
 refine ⟨trivial, (callsIn_wide.2 HDW.out).mono ?_⟩
 rintro e w1 (⟨vd, rfl, hvd, hall, hb1⟩ | ⟨rfl, ⟨R, hR, hRn⟩, hb1⟩)
 rotate_left
 ·exfalso
  simp only [List.mem_cons, List.not_mem_nil, or_false] at hR
  subst hR
  exact hRn Hhas.out
 ·skip
  obtain ⟨vp, vb, vn, vx, vy, rfl, k1, k2, k3, k4, k5⟩ := hvd
  obtain ⟨Ap, np, cp, rfl⟩ := k1.sl
  obtain ⟨Ab, nb, cb, rfl⟩ := k2.sl
  obtain ⟨An, nn, cn, rfl⟩ := k3.sl
  obtain ⟨Ax, nx, cx, rfl⟩ := k4.sl
  obtain ⟨Ay, ny, cy, rfl⟩ := k5.sl
  have HDM := hid (show Dm w1 _ D from ⟨_, _, _, _, _, rfl, k1, k2, k3, k4, k5⟩)
  obtain ⟨W5, e5, r5, b5, s5⟩ := newS w1 56 [.int .i64 0, .slice none 0 0, .slice none 0 0, .slice none 0 0, .bool false, .slice none 0 0, .slice none 0 0] _ rfl
  obtain ⟨g8, hg8⟩ : ∃ x, w1.heap.size = x := ⟨_, rfl⟩
  rw [hg8] at r5
  have HB5 := hid b5
  have HB1 := hid hb1
  have HG8 := hid (show W2.heap.size ≤ g8 by have := hb1.size; omega)
  have HNU := hid (NoU.of_row r5 (by intro v hv x; simp only [List.mem_cons, List.not_mem_nil, or_false] at hv; rcases hv with rfl | rfl | rfl | rfl | rfl | rfl | rfl <;> (intro h; cases h)))
  clear k1 k2 k3 k4 k5 hall hb1 b5 s5 p0 p1 p2 pp0 pp1 pp2
  gi_wp2_with ((with_reducible show wpListIn _ _ _ _ _ (⟨none, _, _, _, _, _⟩ :: _) _ _); refine wlSI_store rfl 56 7 Try.sizeDom _ _ rfl g8 [.int .i64 (D.size : Int), .slice Ap np cp, .slice Ab nb cb, .slice An nn cn, .bool false, .slice Ax nx cx, .slice Ay ny cy] rfl rfl 56 _ r5 rfl rfl (by intro v hv; simp only [List.mem_cons, List.not_mem_nil, or_false] at hv; rcases hv with rfl | rfl | rfl | rfl | rfl | rfl | rfl <;> rfl) ?_; intro w6 hr6 hg6 hz)
  have hsb : Sb W5 w6 := ⟨g8, HNU.out, hg6⟩
  have HDM6 := hid ((HDM.out.later HB5.out).sb hsb)
  have HP6 := hid (((HPP.out.later HB1.out).later HB5.out).sb hsb)
  have HRP6 := hid (((HRP.out.later HB1.out).later HB5.out).grown hg6 (by have := HG8.out; have := HGL.out; omega))
  have HR8 := hid hr6
  have hbw1 := HB.out.trans (HB1.out.mono HB.out.size)
  have hbw5 := hbw1.trans (HB5.out.mono hbw1.size)
  have HBW := hid (below_grown hbw5 hg6 (by have := HG8.out; have := HGL.out; omega) hbw5.size)
  have HR := hid (((HRR.out.later HB1.out).later HB5.out).grown hg6 (by have := HG8.out; have := HGL.out; omega))
  have HNO6 := hid (NoU.of_row HR.out (noU3 nofun nofun nofun))
  have HNE := hid (show gP ≠ gr ∧ g8 ≠ gr by have := HG8.out; have := HGL.out; omega)
  have HK6 := hid (((HK.out.later HB1.out).later HB5.out).sb hsb)
  clear hsb hbw1 hbw5 HDM HB5 HB1 HPP HRP HRR hr6 hg6 hz HNU
  obtain ⟨kb, hkb⟩ := bits_ex kN
  have hkb2 : (kb : Int) ≤ 4096 := by
   have h1 := HK6.out.lt
   have : ¬ Lg 4096 kN := not_lg h1
   have h2 : ¬ 4096 < kb := fun h => this ((bits_gt (q := 4096) hkb).1 h)
   omega
  have HKB := hid hkb
  have HBI := hid (bits_u w6 vk kN HK6.out)
  clear hkb
  gi_wp2_with fail
  refine ⟨trivial, (callsIn_wide.2 HBI.out).mono ?_⟩
  rintro e w7 ⟨kb', rfl, hkb', rfl⟩
  obtain rfl : kb' = kb := hkb'.unique HKB.out
  have hkb3 : ¬ (4096 : Int) < kb' := by omega
  have f3 := HR8.out.at_ (i := 3) rfl
  have HMO := hid (mod_u w6 vk (.slice An nn cn) kN D.n HK6.out (by
   obtain ⟨_, _, _, _, _, he, _, _, h3, _⟩ := HDM6.out
   injection he with he
   simp at he
   obtain ⟨_, _, ⟨rfl, rfl, rfl⟩, _⟩ := he
   exact h3.gu) (by have := HN.out.1; omega))
  clear hkb' HBI
  gi_wp2_with fail
  refine ⟨trivial, (callsIn_wide.2 HMO.out).mono ?_⟩
  rintro e w7 ⟨vr, rfl, hvr, hb7⟩
  rw [HRN0.out] at hvr
  obtain ⟨Ar, nr, cr, rfl⟩ := hvr.sl
  have HVR7 := hid hvr
  have HP7 := hid (HP6.out.later hb7)
  have HDM7 := hid (HDM6.out.later hb7)
  have HRP7 := hid (HRP6.out.later hb7)
  have HR87 := hid (HR8.out.later hb7)
  have HR7 := hid (HR.out.later hb7)
  have HBW7 := hid (HBW.out.trans (hb7.mono HBW.out.size))
  have pq0 := HRP7.out.at_ (i := 0) rfl
  have pq1 := HRP7.out.at_ (i := 1) rfl
  have pq2 := HRP7.out.at_ (i := 2) rfl
  have HRO := hid (crof_any w7 (.agg #[.bool iP, bP, dP]) P HP7.out)
  clear hvr hb7 f3 HMO HDM6 HP6 HRP6 HR8 HR HBW HNO6 hkb2 hkb3 HK6
  gi_wp2_with fail
  refine ⟨trivial, (callsIn_wide.2 HRO.out).mono ?_⟩
  rintro e w8 ⟨v1, rfl, hv1, hb8⟩
  gi_wp2_with fail
  refine ⟨trivial, (callsIn_wide.2 (cinf_any w8)).mono ?_⟩
  rintro e w9 ⟨rfl, hb9⟩
  gi_wp2_with fail
  refine ⟨trivial, (callsIn_wide.2 (crof_any w9 inf0 none ⟨_, _, rfl, rfl, rfl⟩)).mono ?_⟩
  rintro e w10 ⟨v2, rfl, hv2, hb10⟩
  have hv1' := (hv1.later hb9).later hb10
  have hb78 := hb8.trans ((hb9.trans (hb10.mono hb9.size)).mono hb8.size)
  obtain ⟨A0, B0, C0, rfl, oa0, ob0, oc0, nu0⟩ := hv1'.three
  obtain ⟨A2, B2, C2, rfl, oa2, ob2, oc2, nu2⟩ := hv2.three
  obtain ⟨Wa, ea, ra, ba, sa⟩ := newS w10 65 [.slice none 0 0, .slice none 0 0, .slice none 0 0] _ rfl
  obtain ⟨g12, hg12⟩ : ∃ x, w10.heap.size = x := ⟨_, rfl⟩
  rw [hg12] at ra
  obtain ⟨Wb, eb, rb, bb, sb⟩ := newS Wa 65 [.slice none 0 0, .slice none 0 0, .slice none 0 0] _ rfl
  obtain ⟨g13, hg13⟩ : ∃ x, Wa.heap.size = x := ⟨_, rfl⟩
  rw [hg13] at rb
  have rab := ra.later bb
  have hlt : g12 < g13 ∧ g13 < Wb.heap.size ∧ w7.heap.size ≤ g12 := by have := hb78.size; omega
  have HLT := hid hlt
  have HO1 := hid (ones3 oa0 ob0 oc0)
  have HO2 := hid (ones3 oa2 ob2 oc2)
  have HNUA := hid (noU3 nu0.1 nu0.2.1 nu0.2.2)
  have HNUZ := hid (NoU.of_row rab (noU3 nofun nofun nofun))
  have HZD := hid (HDM7.out.later hb78)
  have HZ1 := hid hv1'
  have HZ8 := hid (HR87.out.later hb78)
  have HZB := hid (ba.trans (bb.mono ba.size))
  have HZL := hid (show w10.heap.size ≤ g12 by omega)
  have HV1 := hid ((hv1'.later ba).later bb)
  have HV2 := hid ((hv2.later ba).later bb)
  have hbb := hb78.trans ((ba.trans (bb.mono ba.size)).mono hb78.size)
  have HBB := hid hbb
  clear hv1 hb8 hb9 hb10 hv1' hv2 hb78 oa0 ob0 oc0 nu0 oa2 ob2 oc2 nu2 ba bb sa sb hlt ra pq0 pq1 pq2 HRO hbb
  gi_wp2_with (first | ((with_reducible show wpListIn _ _ _ _ _ (⟨none, _, _, _, _, _⟩ :: _) _ _); refine wlSI_store rfl 65 3 Try.sizeRt _ _ rfl g12 [A0, B0, C0] rfl rfl 65 _ rab rfl rfl HO1.out ?_; intro w11 hr11 hg11 hz; have rb2 := rb.grown hg11 (by have := HLT.out; omega)) | ((with_reducible show wpListIn _ _ _ _ _ (⟨none, _, _, _, _, _⟩ :: _) _ _); refine wlSI_store rfl 65 3 Try.sizeRt _ _ rfl g13 [A2, B2, C2] rfl rfl 65 _ rb2 rfl rfl HO2.out ?_; intro w12 hr12 hg12' hz))
  have hsb1 : Sb Wb w11 := ⟨g12, HNUZ.out, hg11⟩
  have hnz2 : NoU w11 g13 := NoU.of_row rb2 (noU3 nofun nofun nofun)
  have hsb2 : Sb w11 w12 := ⟨g13, hnz2, hg12'⟩
  have HR12 := hid (hr11.grown hg12' (by have := HLT.out; omega))
  have HV1' := hid ((HV1.out.sb hsb1).sb hsb2)
  have HV2' := hid ((HV2.out.sb hsb1).sb hsb2)
  have HVR := hid (((HVR7.out.later HBB.out).sb hsb1).sb hsb2)
  have HDM := hid (((HDM7.out.later HBB.out).sb hsb1).sb hsb2)
  have hlt8 := HR87.out.lt
  have hltr := HR7.out.lt
  have HR8 := hid (((HR87.out.later HBB.out).grown hg11 (by have := HLT.out; omega)).grown hg12' (by have := HLT.out; omega))
  have HR := hid (((HR7.out.later HBB.out).grown hg11 (by have := HLT.out; omega)).grown hg12' (by have := HLT.out; omega))
  have hbwb := HBW7.out.trans (HBB.out.mono HBW7.out.size)
  have hbw11 := below_grown hbwb hg11 (by have := HLT.out; have := HBW7.out.size; omega) hbwb.size
  have HBW := hid (below_grown hbw11 hg12' (by have := HLT.out; have := HBW7.out.size; omega) hbw11.size)
  have hz11 := below_grown HZB.out hg11 HZL.out HZB.out.size
  have HZW := hid (below_grown hz11 hg12' (by have := HZL.out; have := HLT.out; omega) hz11.size)
  have HR13 := hid hr12
  have HORD := hid (show g8 < g13 ∧ gr < g13 ∧ g12 < g13 ∧ g13 < w12.heap.size ∧ w.heap.size ≤ g13 by have := HLT.out; have := HBW7.out.size; have := hg12'.size; have := hg11.size; omega)
  clear hz11 HZB hsb1 hnz2 hsb2 hr11 hg11 hr12 hg12' hz HV1 HV2 HVR7 HDM7 HR87 HR7 HBW7 HBB HNUZ hlt8 hltr hbwb hbw11 rb rb2 HRP7 HP7 ea eb rab HLT hg12 hg13
  obtain ⟨ys, A9, n9, c9, heq, hs9, hn9, hl9⟩ := HVR.out
  injection heq with e1 e2 e3
  subst e1 e2 e3
  have hea := each_new w12 _ _ _ _ _ hs9 hn9.1 (by omega)
  rw [hn9.2.2] at hea
  have HEA := hid hea
  clear hea hs9 hn9 hl9
  gi_wp2_with fail
  refine ⟨trivial, (callsIn_wide.2 HEA.out).mono ?_⟩
  rintro e w13 ⟨g5, A5, n5, c5, ys5, rfl, hN5, hg5, hgn, hc5, hs5, hb13⟩
  obtain ⟨k0, hk0⟩ := bits_ex rN
  have HRN := hid (show rN < b64 ^ 64 from Nat.lt_trans (by rw [← HRN0.out]; exact Nat.mod_lt _ (by have := HN.out.1; omega)) HN.out.2)
  have hk1 : k0 ≤ 4096 := Classical.byContradiction fun h => not_lg HRN.out ((bits_gt (q := 4096) hk0).1 (by omega))
  have hn5 : n5 ≤ 64 := by
   rw [hs5.len]
   exact hN5.length_le (by decide) HRN.out
  have hes := eachX_stops 8 (by decide) g5 g13 n5 c5 A5 ys5 k0 (by rw [hN5.2.2]; exact hk0) hN5.1 (by omega) (by omega) w13 hg5 hc5 hs5
  rw [hN5.2.2] at hes
  have HZX := hid (HZW.out.trans (hb13.mono HZW.out.size))
  have HO := hid (show w10.heap.size ≤ g13 ∧ g8 < g13 ∧ gr < g13 ∧ g12 < g13 ∧ g13 < w13.heap.size ∧ w.heap.size ≤ g13 ∧ g13 < g5 ∧ g5 < w13.heap.size ∧ w12.heap.size ≤ w13.heap.size by have := HORD.out; have := hb13.size; have := HZL.out; omega)
  have HJ0 := hid (show MlJ g13 k0 D.p D.b (rtN P) rN [] w13 from ⟨A2, B2, C2, rtN none, HR13.out.later hb13, HV2'.out.later hb13, fun _ => rfl⟩)
  have HES := hid hes
  have HK0 := hid hk0
  have HC5 := hid hc5
  have HS5 := hid hs5
  have H12 := hid (HR12.out.later hb13)
  have HO1' := hid (HV1'.out.later hb13)
  have HDM1 := hid (HDM.out.later hb13)
  have H8 := hid (HR8.out.later hb13)
  have HRR := hid (HR.out.later hb13)
  have HBX := hid (HBW.out.trans (hb13.mono HBW.out.size))
  clear hes hk0 hN5 hc5 hs5 hb13 hk1 hn5 hgn HR12 HV1' HV2' HVR HDM HR8 HR HBW HR13 HORD HEA
  gi_wp2_with fail
  refine wpIn_rangeFunc_ownG rfl (by omega) (gf := 46) (lb := #[.pointer (some ⟨g5, 0, none⟩)]) rfl trivial (enters_of Try.func46 (by kernel_rfl) rfl)
   HES.out KpX.trans (KpX.put (by have := HO.out; omega) hg5) (Below.refl _ _) (fun _ => rfl)
   (fun pre W => MlJ g13 k0 D.p D.b (rtN P) rN pre W ∧ Below g13 w13 W)
   (fun _ _ _ => False)
   (OwnFrom.and (Own.from (fun s A B row hs hg hr => by
    obtain ⟨v0, v1, v2, T, e1, e2, e3⟩ := hs
    exact ⟨v0, v1, v2, T, e1.kept hg hr, e2.kept hg hr, e3⟩) _) (ownFrom_below (by have := HO.out; omega) (by have := HO.out; omega)))
   (fun _ _ _ _ _ hs _ _ => hs)
   ⟨HJ0.out, Below.refl _ _⟩
   ?a1x ?assign ?body ?done ?stop
  case assign =>
   intro l x W K hK
   gi_wp2
   exact hK
  case body =>
   rintro l pre x W ⟨⟨v0, v1, v2, T, e1, e2, e3⟩, hBW⟩ hpl
   have hzW : Below w10.heap.size w10 W := HZX.out.trans (hBW.mono (by have := HO.out; omega))
   have r8 := HZ8.out.later hzW
   have f0 := r8.at_ (i := 0) rfl
   have f1 := r8.at_ (i := 1) rfl
   have f2 := r8.at_ (i := 2) rfl
   have f3 := r8.at_ (i := 3) rfl
   have f4 := r8.at_ (i := 4) rfl
   have f5 := r8.at_ (i := 5) rfl
   have f6 := r8.at_ (i := 6) rfl
   have t0 := e1.at_ (i := 0) rfl
   have t1 := e1.at_ (i := 1) rfl
   have t2 := e1.at_ (i := 2) rfl
   have HADD := hid (cadd_any W D T T _ _ _ (HZD.out.later hzW) e2 e2 (by have := HOK.out.1.1; omega) HOK.out.1.2.1 HOK.out.1.2.2)
   have HE1 := hid e1
   have HE2 := hid e2
   have HE3 := hid e3
   have HBWW := hid hBW
   have HZWW := hid hzW
   have hno : NoU3 v0 v1 v2 := by
    obtain ⟨q1, q2, q3⟩ := e2.parts
    exact ⟨slU q1, slU q2, slU q3⟩
   have HNOW := hid hno
   have HPL := hid hpl
   obtain ⟨i, hi⟩ := x
   obtain ⟨bv, hbv⟩ : ∃ bv, rN / 2 ^ i % 2 = bv := ⟨_, rfl⟩
   have hb2 : bv = 0 ∨ bv = 1 := by have := Nat.mod_lt (rN / 2 ^ i) (show 0 < 2 by decide); omega
   have HBV := hid hbv
   have hbi : (rN : Int) / 2 ^ i % 2 = (bv : Int) := by rw [← hbv]; simp
   have hbit : ∀ (hin : (pre ++ [(⟨i, hi⟩ : Ix k0)]).map (·.1) = downL k0 (pre ++ [(⟨i, hi⟩ : Ix k0)]).length), pre.map (·.1) = downL k0 pre.length ∧ i = k0 - (pre.length + 1) := by
    intro h
    rw [List.length_append, List.length_singleton, downL_succ, List.map_append] at h
    obtain ⟨h1, h2⟩ := List.append_inj' h rfl
    exact ⟨h1, by simp at h2; omega⟩
   have HBIT := hid hbit
   clear e2 e3 hBW hzW r8 hno hpl hbv hbit e1
   gi_wp2_with fail
   refine ⟨trivial, (CallsIn.inRound l (callsIn_wide.2 HADD.out)).mono ?_⟩
   rintro e w20 ⟨va, rfl, hva, hb20⟩
   obtain ⟨A20, B20, C20, rfl, oa, ob, oc, nu20⟩ := hva.three
   have HON := hid (ones3 oa ob oc)
   have HVA := hid hva
   have HB20 := hid hb20
   have hr20 := HE1.out.later hb20
   clear hva oa ob oc hb20 f0 f1 f2 f3 f4 f5 f6 t0 t1 t2
   have hnoW : NoU W g13 := NoU.of_row HE1.out (noU3 HNOW.out.1 HNOW.out.2.1 HNOW.out.2.2)
   have hno20 : NoU w20 g13 := NoU.of_row hr20 (noU3 HNOW.out.1 HNOW.out.2.1 HNOW.out.2.2)
   have HN20 := hid (And.intro hnoW hno20)
   have hg5W : g5 < W.heap.size := by have := HO.out; have := HBWW.out.size; omega
   have HG5W := hid hg5W
   clear hnoW hno20 hg5W
   rcases hb2 with h0 | h1
   ·subst h0
    gi_wp2_with ((with_reducible show wpListIn _ _ _ _ _ (⟨none, _, _, _, _, _⟩ :: _) _ _); refine wlSI_store rfl 65 3 Try.sizeRt _ _ rfl g13 [A20, B20, C20] rfl rfl 65 _ hr20 rfl rfl HON.out ?_; intro w21 hr21 hg21 hz)
    obtain ⟨s1, s2, s3⟩ := rtSt (g5 := g5) HB20.out HE1.out HN20.out.1 hg21 HG5W.out (by have := HO.out; omega)
    refine ⟨s1 _, s3 _ _ _ _, ⟨A20, B20, C20, _, hr21, HVA.out.sb ⟨g13, HN20.out.2, hg21⟩, fun hin => ?_⟩, HBWW.out.trans s2⟩
    obtain ⟨h1, h2⟩ := HBIT.out hin
    have h3 := HE3.out h1
    rw [List.length_append, List.length_singleton]
    show _ = mlN _ _ _ _ _ (pre.length + 1)
    rw [mlN, ← h2, HBV.out, if_neg (by decide), ← h3]
   ·subst h1
    have r8' := HZ8.out.later HZWW.out
    have r12' : RowV 65 W g12 [A0, B0, C0] := H12.out.below HBWW.out (by have := HO.out; omega)
    have HR8W := hid (r8'.later HB20.out)
    have HR12W := hid (r12'.later HB20.out)
    have HNEE := hid (show g8 ≠ g13 ∧ g12 ≠ g13 by have := HO.out; omega)
    clear r8' r12'
    gi_wp2_with ((with_reducible show wpListIn _ _ _ _ _ (⟨none, _, _, _, _, _⟩ :: _) _ _); refine wlSI_store rfl 65 3 Try.sizeRt _ _ rfl g13 [A20, B20, C20] rfl rfl 65 _ hr20 rfl rfl HON.out ?_; intro w21 hr21 hg21 hz; have q8 := HR8W.out.grown hg21 HNEE.out.1; have q12 := HR12W.out.grown hg21 HNEE.out.2; have f0 := q8.at_ (i := 0) rfl; have f1 := q8.at_ (i := 1) rfl; have f2 := q8.at_ (i := 2) rfl; have f3 := q8.at_ (i := 3) rfl; have f4 := q8.at_ (i := 4) rfl; have f5 := q8.at_ (i := 5) rfl; have f6 := q8.at_ (i := 6) rfl; have t0 := hr21.at_ (i := 0) rfl; have t1 := hr21.at_ (i := 1) rfl; have t2 := hr21.at_ (i := 2) rfl; have u0 := q12.at_ (i := 0) rfl; have u1 := q12.at_ (i := 1) rfl; have u2 := q12.at_ (i := 2) rfl)
    have hsb21 : Sb w20 w21 := ⟨g13, HN20.out.2, hg21⟩
    have HVA21 := hid (HVA.out.sb hsb21)
    have HADD2 := hid (cadd_any w21 D (rcbN D.p D.b T T) (rtN P) _ _ _ (((HZD.out.later HZWW.out).later HB20.out).sb hsb21) HVA21.out (((HZ1.out.later HZWW.out).later HB20.out).sb hsb21) (by have := HOK.out.1.1; omega) HOK.out.1.2.1 HOK.out.1.2.2)
    have HR21 := hid hr21
    have HG21 := hid hg21
    have hnu21 : NoU3 A20 B20 C20 := by
     obtain ⟨q1, q2, q3⟩ := HVA.out.parts
     exact ⟨slU q1, slU q2, slU q3⟩
    have HNU21 := hid hnu21
    clear hsb21 hr21 hg21 hz f0 f1 f2 f3 f4 f5 f6 t0 t1 t2 u0 u1 u2 q8 q12 hnu21
    refine ⟨trivial, (CallsIn.inRound l (callsIn_wide.2 HADD2.out)).mono ?_⟩
    rintro e w22 ⟨vb2, rfl, hvb, hb22⟩
    obtain ⟨A22, B22, C22, rfl, oa, ob, oc, nu22⟩ := hvb.three
    have HON2 := hid (ones3 oa ob oc)
    have HVB := hid hvb
    have HB22 := hid hb22
    have hr22 := HR21.out.later hb22
    clear hvb oa ob oc hb22
    gi_wp2_with ((with_reducible show wpListIn _ _ _ _ _ (⟨none, _, _, _, _, _⟩ :: _) _ _); refine wlSI_store rfl 65 3 Try.sizeRt _ _ rfl g13 [A22, B22, C22] rfl rfl 65 _ hr22 rfl rfl HON2.out ?_; intro w23 hr23 hg23 hz)
    obtain ⟨s1, s2, s3⟩ := rtSt (g5 := g5) HB20.out HE1.out HN20.out.1 HG21.out HG5W.out (by have := HO.out; omega)
    have hno21 : NoU w21 g13 := NoU.of_row HR21.out (noU3 HNU21.out.1 HNU21.out.2.1 HNU21.out.2.2)
    have hno22 : NoU w22 g13 := NoU.of_row hr22 (noU3 HNU21.out.1 HNU21.out.2.1 HNU21.out.2.2)
    obtain ⟨z1, z2, z3⟩ := rtSt (g5 := g5) HB22.out HR21.out hno21 hg23 (by have := HG5W.out; have := s2.size; omega) (by have := HO.out; omega)
    refine ⟨(s1 _).trans (z1 _), (s3 _ _ _ _).trans (z3 _ _ _ _), ⟨A22, B22, C22, _, hr23, HVB.out.sb ⟨g13, hno22, hg23⟩, fun hin => ?_⟩, HBWW.out.trans (s2.trans z2)⟩
    obtain ⟨h1, h2⟩ := HBIT.out hin
    have h3 := HE3.out h1
    rw [List.length_append, List.length_singleton]
    show _ = mlN _ _ _ _ _ (pre.length + 1)
    rw [mlN, ← h2, HBV.out, if_pos rfl, ← h3]
  case done =>
   rintro E ds W hD hds ⟨⟨v0, v1, v2, T, e1, e2, e3⟩, hBW⟩ hK
   have hl : ds.length = k0 := by have h := congrArg List.length hds; rwa [List.length_map, downL_length] at h
   have hfin := e3 (by rw [hl]; exact hds)
   rw [hl] at hfin
   have hzW : Below w10.heap.size w10 W := HZX.out.trans (hBW.mono (by have := HO.out; omega))
   have r8 := HZ8.out.later hzW
   have f0 := r8.at_ (i := 0) rfl
   have f1 := r8.at_ (i := 1) rfl
   have f2 := r8.at_ (i := 2) rfl
   have f3 := r8.at_ (i := 3) rfl
   have f4 := r8.at_ (i := 4) rfl
   have f5 := r8.at_ (i := 5) rfl
   have f6 := r8.at_ (i := 6) rfl
   have t0 := e1.at_ (i := 0) rfl
   have t1 := e1.at_ (i := 1) rfl
   have t2 := e1.at_ (i := 2) rfl
   have HPT := hid (cpt_any W D T _ _ (HZD.out.later hzW) e2 (by have := HOK.out.1.1; omega) (fun h0 => cop_lt HOK.out.2 (by rw [hfin]; exact mlN_lt (by have := HOK.out.1.1; omega) HOK.out.1.2.2 _ _ _ _) h0))
   have HFIN := hid hfin
   have HRW := hid (show RowV 31 W gr [.bool false, .slice none 0 0, .slice none 0 0] from HRR.out.below hBW (by have := HO.out; omega))
   have HBWW := hid hBW
   have HKD := hid hK
   have HDD := hid hD
   have HNEE := hid (show E ≠ gr by have h1 : w13.heap.size ≤ E := hD; have := HO.out; omega)
   clear e3 e2 hfin hzW r8 hl hds hBW hK hD e1
   gi_wp2_with fail
   refine ⟨trivial, (callsIn_wide.2 HPT.out).mono ?_⟩
   rintro e w24 ⟨v, R, rfl, hR, hv, hb24⟩
   obtain ⟨A24, B24, C24, rfl, oa, ob, oc, nu24⟩ := hv.three
   have HON3 := hid (ones3 oa ob oc)
   have HV := hid hv
   have HRP := hid hR
   have HB24 := hid hb24
   have hr24 := HRW.out.later hb24
   clear hv hR oa ob oc nu24 hb24 f0 f1 f2 f3 f4 f5 f6 t0 t1 t2
   gi_wp2_with ((with_reducible show wpListIn _ _ _ _ _ (⟨none, _, _, _, _, _⟩ :: _) _ _); refine wlSI_store rfl 31 3 Try.sizePt _ _ rfl gr [A24, B24, C24] rfl rfl 31 _ hr24 rfl rfl HON3.out ?_; intro w25 hr25 hg25 hz)
   have hltE := (Array.getElem?_eq_some_iff.1 HKD.out).1
   have hK25 : w25.heap[E]? = _ := (hg25.block E (Nat.lt_of_lt_of_le hltE HB24.out.size) (fun e => by injection e with e; exact HNEE.out e)).trans ((HB24.out.block E hltE).trans HKD.out)
   refine ⟨by simp, .inl ⟨_, _, rfl, run_takeDeferred hK25, ?_⟩⟩
   have hgp := grownBy_putObj' w25 E (.deferred none)
   have hgr2 : ∀ r', some E = some r' → ∃ o, w25.heap[r']? = some o ∧ o.isCells = false := fun r' e => by cases e; exact ⟨_, hK25, rfl⟩
   have hrF := hr25.kept hgp hgr2
   refine ⟨_, results_pt2 rfl _ gr _ rfl hrF rfl, _, k0, rfl, HK0.out, ⟨R, by rw [← HFIN.out]; exact HRP.out, (HV.out.sb ⟨gr, NoU.of_row hr24 (noU3 nofun nofun nofun), hg25⟩).kept hgp hgr2⟩, ?_⟩
   have hb1 := HBX.out.trans (HBWW.out.mono (by have := HO.out; omega))
   have hb2 := hb1.trans (HB24.out.mono hb1.size)
   have hb3 := below_grown hb2 hg25 HGL.out.1 hb2.size
   exact below_grown hb3 hgp (by have h1 : w13.heap.size ≤ E := HDD.out; have := HBX.out.size; omega) hb3.size
  case stop =>
   rintro E c' pre W _ _ h _
   exact h.elim
end Go.Proofs.Ytbejcollbkeedaa
namespace Go.Proofs.Ytbejcollbkeedaa
open Lean.Grind Cw
section
variable {p : Nat} [NeZero p]
theorem sub_add_p {K : Type} [CommRing K] (x y : K) : x + 0 - y = x - y := by grind
theorem zp_sumN (a b : Nat) : zp p (sumN p a b) = zp p a + zp p b := by
 unfold sumN
 split
 ·next h =>
  rw [zp_sub h, zp_add, zp_p]
  generalize zp p a + zp p b = x
  grind
 ·exact zp_add a b
theorem zp_difN {a b : Nat} (h : b ≤ a + p) : zp p (difN p a b) = zp p a - zp p b := by
 unfold difN
 split
 ·next h1 => exact zp_sub h1
 ·rw [zp_sub h, zp_add, zp_p, sub_add_p]
theorem zp_mm (a b : Nat) : zp p (a * b % p) = zp p a * zp p b := by rw [zp_mod, zp_mul]
theorem zp_trN (a : Nat) : zp p (trN p a) = zp p a + zp p a + zp p a := by rw [trN, zp_sumN, zp_sumN]
def zt (p : Nat) [NeZero p] (T : Nat × Nat × Nat) : Fin p × Fin p × Fin p := (zp p T.1, zp p T.2.1, zp p T.2.2)
omit [NeZero p] in
theorem le_ap {a b : Nat} (h : b < p) : b ≤ a + p := Nat.le_trans (Nat.le_of_lt h) (Nat.le_add_left _ _)
theorem zt_rcbN {b : Nat} (hb : b < p) (P Q : Nat × Nat × Nat) : zt p (rcbN p b P Q) = rcb (zp p b) (zt p P) (zt p Q) := by
 have hp : 0 < p := by omega
 obtain ⟨h1, h2, h3, h4, h5, h6, h7, h8, h9, h10, h11⟩ := nums_lt hp hb P Q
 have m : ∀ x, x % p < p := fun x => Nat.mod_lt x hp
 have e1 : zp p (nXX p P Q) = zp p P.1 * zp p Q.1 := zp_mm _ _
 have e2 : zp p (nYY p P Q) = zp p P.2.1 * zp p Q.2.1 := zp_mm _ _
 have e3 : zp p (nZZ p P Q) = zp p P.2.2 * zp p Q.2.2 := zp_mm _ _
 have e4 : zp p (nXY p P Q) = zp p P.1 * zp p Q.2.1 + zp p P.2.1 * zp p Q.1 := by rw [nXY, zp_sumN, zp_mm, zp_mm]
 have e5 : zp p (nXZ p P Q) = zp p P.1 * zp p Q.2.2 + zp p P.2.2 * zp p Q.1 := by rw [nXZ, zp_sumN, zp_mm, zp_mm]
 have e6 : zp p (nYZ p P Q) = zp p P.2.1 * zp p Q.2.2 + zp p P.2.2 * zp p Q.2.1 := by rw [nYZ, zp_sumN, zp_mm, zp_mm]
 have e7 : zp p (nS p b P Q) = (zp p (nXZ p P Q) - zp p b * zp p (nZZ p P Q)) + (zp p (nXZ p P Q) - zp p b * zp p (nZZ p P Q)) + (zp p (nXZ p P Q) - zp p b * zp p (nZZ p P Q)) := by
  rw [nS, zp_trN, zp_difN (le_ap (m _)), zp_mm]
 have e8 : zp p (nT p P Q) = (zp p (nXX p P Q) - zp p (nZZ p P Q)) + (zp p (nXX p P Q) - zp p (nZZ p P Q)) + (zp p (nXX p P Q) - zp p (nZZ p P Q)) := by
  rw [nT, zp_trN, zp_difN (le_ap h3)]
 have e9 : zp p (nW p b P Q) = (zp p b * zp p (nXZ p P Q) - zp p (nXX p P Q) - (zp p (nZZ p P Q) + zp p (nZZ p P Q) + zp p (nZZ p P Q))) + (zp p b * zp p (nXZ p P Q) - zp p (nXX p P Q) - (zp p (nZZ p P Q) + zp p (nZZ p P Q) + zp p (nZZ p P Q))) + (zp p b * zp p (nXZ p P Q) - zp p (nXX p P Q) - (zp p (nZZ p P Q) + zp p (nZZ p P Q) + zp p (nZZ p P Q))) := by
  rw [nW, zp_trN, zp_difN (le_ap (trN_lt h3)), zp_difN (le_ap h1), zp_mm, zp_trN]
 have e10 : zp p (nPl p b P Q) = zp p (nYY p P Q) + zp p (nS p b P Q) := by rw [nPl, zp_sumN]
 have e11 : zp p (nMi p b P Q) = zp p (nYY p P Q) - zp p (nS p b P Q) := by rw [nMi, zp_difN (le_ap h7)]
 show (zp p (difN p (nXY p P Q * nPl p b P Q % p) (nYZ p P Q * nW p b P Q % p)), zp p (sumN p (nT p P Q * nW p b P Q % p) (nMi p b P Q * nPl p b P Q % p)), zp p (sumN p (nYZ p P Q * nMi p b P Q % p) (nXY p P Q * nT p P Q % p))) = _
 rw [zp_difN (le_ap (m _)), zp_sumN, zp_sumN, zp_mm, zp_mm, zp_mm, zp_mm, zp_mm, zp_mm, e10, e11, e9, e8, e7, e1, e2, e3, e4, e5, e6]
 rfl
def lfp (p : Nat) [NeZero p] : Option (Nat × Nat) → Option (Fin p × Fin p)
 | none => none
 | some (x, y) => some (zp p x, zp p y)
def Inp (p : Nat) : Option (Nat × Nat) → Prop
 | none => True
 | some (x, y) => x < p ∧ y < p
theorem lfp_inj {P Q : Option (Nat × Nat)} (hP : Inp p P) (hQ : Inp p Q) (h : lfp p P = lfp p Q) : P = Q := by
 rcases P with _ | ⟨x, y⟩ <;> rcases Q with _ | ⟨u, v⟩
 ·rfl
 ·cases h
 ·cases h
 ·simp only [lfp, Option.some.injEq, Prod.mk.injEq] at h
  rw [zp_inj hP.1 hQ.1 h.1, zp_inj hP.2 hQ.2 h.2]
theorem cubic_is {K : Type} [CommRing K] (x b : K) : x * (x * x - 3) + b = x * x * x - 3 * x + b := by grind
theorem has_iff {b : Nat} (hp3 : 3 ≤ p) (hb : b < p) (P : Option (Nat × Nat)) : hasN p b P ↔ Inp p P ∧ onC (zp p b) (lfp p P) := by
 rcases P with _ | ⟨x, y⟩
 ·exact ⟨fun _ => ⟨trivial, trivial⟩, fun _ => trivial⟩
 ·have hp : 0 < p := by omega
  have m : ∀ x, x % p < p := fun x => Nat.mod_lt x hp
  have e1 : zp p (y * y % p) = zp p y * zp p y := zp_mm _ _
  have e2 : zp p (sumN p (x * difN p (x * x % p) 3 % p) b) = zp p x * zp p x * zp p x - 3 * zp p x + zp p b := by
   rw [zp_sumN, zp_mm, zp_difN (by omega), zp_mm, zp_3]
   exact cubic_is _ _
  have hl : sumN p (x * difN p (x * x % p) 3 % p) b < p := sumN_lt (m _) hb
  constructor
  ·rintro ⟨h1, h2, h3⟩
   refine ⟨⟨h1, h2⟩, ?_⟩
   show zp p y * zp p y = zp p x * zp p x * zp p x - 3 * zp p x + zp p b
   rw [← e1, ← e2, h3]
  ·rintro ⟨⟨h1, h2⟩, h3⟩
   refine ⟨h1, h2, zp_inj (m _) hl ?_⟩
   rw [e1, e2]
   exact h3
theorem rtN_stands (h1 : (1 : Fin p) ≠ 0) (P : Option (Nat × Nat)) : Stands (zt p (rtN P)) (lfp p P) := by
 rcases P with _ | ⟨x, y⟩
 ·exact ⟨zp_0, h1, zp_0⟩
 ·refine ⟨h1, ?_, ?_⟩
  ·show zp p x = 1 * zp p x
   generalize zp p x = a
   grind
  ·show zp p y = 1 * zp p y
   generalize zp p y = a
   grind
theorem back_is {K : Type} [CommRing K] {z i t x : K} (h : z * i = 1) (ht : t = z * x) : t * i = x := by grind
theorem PtR.lf {T : Nat × Nat × Nat} {R : Option (Nat × Nat)} {Q : Option (Fin p × Fin p)} (h : PtR p T R) (hs : Stands (zt p T) Q) (hz : T.2.2 < p) : Inp p R ∧ lfp p R = Q := by
 have m : ∀ x, x % p < p := fun x => Nat.mod_lt x (by omega)
 rcases h with ⟨h0, rfl⟩ | ⟨h0, i, hi, h1, rfl⟩
 ·rcases Q with _ | ⟨x, y⟩
  ·exact ⟨trivial, rfl⟩
  ·refine absurd ?_ hs.1
   show zp p T.2.2 = 0
   rw [h0, zp_0]
 ·rcases Q with _ | ⟨x, y⟩
  ·exact absurd (zp_eq0 hz hs.2.2) h0
  ·refine ⟨⟨m _, m _⟩, ?_⟩
   have e : zp p T.2.2 * zp p i = 1 := by rw [← zp_mm, h1, zp_1]
   show some (zp p (T.1 * i % p), zp p (T.2.1 * i % p)) = some (x, y)
   rw [zp_mm, zp_mm, back_is e (show zp p T.1 = zp p T.2.2 * x from hs.2.1), back_is e (show zp p T.2.1 = zp p T.2.2 * y from hs.2.2)]
variable {b : Nat} (C : Cv (Fin p) (zp p b))
include C
theorem addN_lf (hp3 : 3 ≤ p) (hb : b < p) {P Q R : Option (Nat × Nat)} (hP : hasN p b P) (hQ : hasN p b Q) (h : PtR p (rcbN p b (rtN P) (rtN Q)) R) : Inp p R ∧ lfp p R = C.ad (lfp p P) (lfp p Q) := by
 refine h.lf ?_ (rcbN_lt (by omega) hb _ _).2.2
 rw [zt_rcbN hb]
 exact C.stands ((has_iff hp3 hb P).1 hP).2 ((has_iff hp3 hb Q).1 hQ).2 (rtN_stands C.one_ne P) (rtN_stands C.one_ne Q)
theorem ml_stands (hp3 : 3 ≤ p) (hb : b < p) {P : Option (Nat × Nat)} (hP : hasN p b P) {r k0 : Nat} (hr : r < 2 ^ k0) : ∀ j, j ≤ k0 → Stands (zt p (mlN p b (rtN P) r k0 j)) (C.mg (lfp p P) (r / 2 ^ (k0 - j)))
 | 0, _ => by
  rw [Nat.sub_zero, Nat.div_eq_of_lt hr]
  exact ⟨zp_0, C.one_ne, zp_0⟩
 | j + 1, hj => by
  have hon := ((has_iff hp3 hb P).1 hP).2
  have ih := ml_stands hp3 hb hP hr j (by omega)
  have e : k0 - j = k0 - (j + 1) + 1 := by omega
  rw [e, Nat.pow_succ, ← Nat.div_div_eq_div_mul] at ih
  have hm : zt p (rcbN p b (mlN p b (rtN P) r k0 j) (mlN p b (rtN P) r k0 j)) = rcb (zp p b) (zt p (mlN p b (rtN P) r k0 j)) (zt p (mlN p b (rtN P) r k0 j)) := zt_rcbN hb _ _
  have ho := C.mg_on hon (r / 2 ^ (k0 - (j + 1)) / 2)
  have hd := C.stands ho ho ih ih
  rw [C.mg_add hon (C.assocG hon), ← hm] at hd
  generalize hM : r / 2 ^ (k0 - (j + 1)) = M at *
  rw [mlN, hM]
  split
  ·next h1 =>
   rw [zt_rcbN hb]
   have := C.stands (C.mg_on hon (M / 2 + M / 2)) hon hd (rtN_stands C.one_ne P)
   have hM1 : M / 2 + M / 2 + 1 = M := by omega
   have e2 : C.mg (lfp p P) M = C.ad (C.mg (lfp p P) (M / 2 + M / 2)) (lfp p P) := by
    conv => lhs; rw [← hM1]
    rfl
   rw [e2]
   exact this
  ·next h1 =>
   rw [show M / 2 + M / 2 = M by omega] at hd
   exact hd
theorem mulN_lf (hp3 : 3 ≤ p) (hb : b < p) {P R : Option (Nat × Nat)} (hP : hasN p b P) {r k0 : Nat} (hr : r < 2 ^ k0) (h : PtR p (mlN p b (rtN P) r k0 k0) R) : Inp p R ∧ lfp p R = C.mg (lfp p P) r := by
 have hs := ml_stands C hp3 hb hP hr k0 (Nat.le_refl _)
 rw [Nat.sub_self, Nat.pow_zero, Nat.div_one] at hs
 exact h.lf hs (mlN_lt (by omega) hb _ _ _ _)
end
end Go.Proofs.Ytbejcollbkeedaa
namespace Go.Proofs.Ytbejcollbkeedaa
open Go.RowKit
def PartsV (w : World) (B : Nat) (A : Option Addr) (n c : Nat) (pss : List (List (BitVec 8))) : Prop :=
 ∃ vs, SlV w B A n c vs ∧ vs.length = pss.length ∧ ∀ (i : Nat) (v : Value) (ps : List (BitVec 8)), vs[i]? = some v → pss[i]? = some ps → ∃ Ai ni ci, v = .slice Ai ni ci ∧ SlV w B Ai ni ci (ps.map W8) ∧ (Ai = none → ci = 0)
theorem PartsV.below {w w' : World} {B n c : Nat} {A : Option Addr} {pss : List (List (BitVec 8))} (h : PartsV w B A n c pss) (hb : Below B w w') : PartsV w' B A n c pss := by
 obtain ⟨vs, h1, h2, h3⟩ := h
 exact ⟨vs, h1.below hb, h2, fun i v ps hv hp => by
  obtain ⟨Ai, ni, ci, e, hs, hz⟩ := h3 i v ps hv hp
  exact ⟨Ai, ni, ci, e, hs.below hb, hz⟩⟩
theorem PartsV.at_ {w : World} {B n c : Nat} {A : Option Addr} {pss : List (List (BitVec 8))} (h : PartsV w B A n c pss) {i : Nat} (hi : i < n) :
  ∃ b off ps Ai ni ci, A = some ⟨b, off, none⟩ ∧ b < B ∧ pss[i]? = some ps ∧ w.cell? ⟨b, off + i, none⟩ = some (.slice Ai ni ci) ∧ SlV w B Ai ni ci (ps.map W8) ∧ (Ai = none → ci = 0) := by
 obtain ⟨vs, h1, h2, h3⟩ := h
 obtain ⟨b, off, v, e, hb, hv, hc⟩ := h1.at_ hi
 have hip : i < pss.length := by have := (List.getElem?_eq_some_iff.1 hv).1; omega
 obtain ⟨Ai, ni, ci, rfl, hs, hz⟩ := h3 i v _ hv (List.getElem?_eq_getElem hip)
 exact ⟨b, off, _, Ai, ni, ci, e, hb, List.getElem?_eq_getElem hip, hc, hs, hz⟩
theorem PartsV.len {w : World} {B n c : Nat} {A : Option Addr} {pss : List (List (BitVec 8))} (h : PartsV w B A n c pss) : n = pss.length := by
 obtain ⟨vs, h1, h2, _⟩ := h
 rw [h1.len, h2]
theorem flat_take_le (pss : List (List (BitVec 8))) (j : Nat) : ((pss.take j).flatten).length ≤ pss.flatten.length := by
 have h := congrArg (fun l => (List.flatten l).length) (List.take_append_drop j pss)
 simp only [List.flatten_append, List.length_append] at h
 omega
theorem flat_take_succ {pss : List (List (BitVec 8))} {j : Nat} {ps : List (BitVec 8)} (h : pss[j]? = some ps) : (pss.take (j + 1)).flatten = (pss.take j).flatten ++ ps := by
 rw [List.take_add_one, h, List.flatten_append]; simp
theorem concat_any (w : World) (B : Nat) (A : Option Addr) (n c : Nat) (pss : List (List (BitVec 8))) (hs : PartsV w B A n c pss) (hB : B ≤ w.heap.size) (hn : n ≤ 1000000) (hlen : pss.flatten.length ≤ 17592186044416) :
  Calls Try.prog 33 #[.slice A n c] w fun e w' => ∃ v, e = .returned v ∧ w'.ownsRow w.heap.size 5 1 v pss.flatten.length (pss.flatten.map W8) ∧ Below w.heap.size w w' := by
 obtain ⟨G, hG⟩ : ∃ g, w.heap.size = g := ⟨_, rfl⟩
 have hnl := hs.len
 have hnI : (n : Int) ≤ 1000000 := by omega
 have HS := hid hs
 have HN := hid hnl
 have HG := hid hG
 have HLEN := hid hlen
 have HB := hid hB
 clear hs hnl hG hlen hB hn
 go_enter Try.func33, Try.ntmps33
 go_wp2
 go_loopw [3, 11] (fun s i wr => w = wr ∧ ∃ j L : Nat, j ≤ n ∧ i = .int .i64 (j : Int) ∧ s = .int .i64 (L : Int) ∧ Hid (((pss.take j).flatten).length = L) ∧ L ≤ 17592186044416) (fun _ i _ => n - (intOf i).toNat)
 case atStart => exact ⟨rfl, 0, 0, by omega, rfl, rfl, hid (by simp), by omega⟩
 case round =>
  obtain ⟨rfl, j, L, hj, rfl, rfl, HL, hL⟩ := hrel
  have hLI : (L : Int) ≤ 17592186044416 := by omega
  by_cases hjn : j = n
  ·subst hjn
   have HLT : Hid (pss.flatten.length = L) := hid (by have := HL.out; rwa [List.take_of_length_le (Nat.le_of_eq HN.out.symm)] at this)
   clear HL
   go_wp2_with fail
   refine (grow_both _ L hL).mono ?_
   rintro e w2 ⟨v0, rfl, hown, hb⟩
   rw [HG.out] at hown hb
   go_wp2
   go_loopw [6, 27] (fun v i wr => ∃ k Lk : Nat, k ≤ j ∧ i = .int .i64 (k : Int) ∧ Hid (((pss.take k).flatten).length = Lk) ∧ Lk ≤ 17592186044416 ∧ Hid (wr.ownsRow G 5 1 v Lk (((pss.take k).flatten).map W8)) ∧ Hid (Below G w wr)) (fun _ i _ => j - (intOf i).toNat)
   case atStart => exact ⟨0, 0, by omega, rfl, hid (by simp), by omega, hid (by simpa using hown), hid hb⟩
   case round =>
    clear hown hb
    obtain ⟨k, Lk, hk, rfl, HLk, hLk, HOWN, HBR⟩ := hrel
    have hkI : (k : Int) ≤ 1000000 := by omega
    by_cases hkn : k = j
    ·subst hkn
     go_wp2
     go_ret
     rw [HG.out]
     have h1 := HOWN.out
     have h2 := HLk.out
     rw [List.take_of_length_le (Nat.le_of_eq HN.out.symm)] at h1 h2
     rw [← h2] at h1
     exact ⟨_, rfl, h1, HBR.out⟩
    ·have hki : (k : Int) < j := by omega
     have hBG : B ≤ G := by have := HB.out; have := HG.out; omega
     obtain ⟨b, off, ps, Ai, ni, ci, rfl, hbB, hps, hcl, hsi, hzi⟩ := ((HS.out.below (HBR.out.mono hBG)).at_ (i := k) (by omega))
     have hfl := flat_take_succ hps
     have hle := flat_take_le pss (k + 1)
     have hnil : ps.length = ni := by simpa using hsi.len.symm
     have hL2 : ((pss.take (k + 1)).flatten).length = Lk + ni := by rw [hfl, List.length_append, HLk.out, hnil]
     have hsum : Lk + ni ≤ 17592186044416 := by have := HLEN.out; omega
     have hGs : G ≤ wr.heap.size := by have := HBR.out.size; have := HG.out; omega
     have HFL := hid hfl
     have HL2 := hid hL2
     have HSUM := hid hsum
     have HGS := hid hGs
     have hown := HOWN.out
     clear hfl hL2 hle hnil hps hsum
     go_wp2_with (at_builtin; refine wlv_append Try.elem8 rfl _ _ rfl G _ Lk (((pss.take k).flatten).map W8) rfl hown Ai ni ci _ rfl hzi B hsi (ones8 _) (by have := HSUM.out; omega) hGs ?_; intro v3 w3 hown3 hgr)
     have hb3 := HBR.out.grown hgr HGS.out (fun q hq => (hown.lt q hq).1)
     rw [← List.map_append, ← HFL.out] at hown3
     have HO3 := hid hown3
     have HB3 := hid hb3
     clear hown3 hgr hb3 hown hsi
     go_wp2
     go_roundw
     case rel => exact ⟨k + 1, Lk + ni, by omega, by go_num, HL2, HSUM.out, HO3, HB3⟩
     case measure => simp [intOf]; omega
  ·have hji : (j : Int) < n := by omega
   obtain ⟨b, off, ps, Ai, ni, ci, rfl, hbB, hps, hcl, hsi, hzi⟩ := (HS.out.at_ (i := j) (by omega))
   have hfl := flat_take_succ hps
   have hle := flat_take_le pss (j + 1)
   have hnil : ps.length = ni := by simpa using hsi.len.symm
   have hL2 : ((pss.take (j + 1)).flatten).length = L + ni := by rw [hfl, List.length_append, HL.out, hnil]
   have hsum : L + ni ≤ 17592186044416 := by have := HLEN.out; omega
   have hsumI : (L : Int) + ni ≤ 17592186044416 := by omega
   have HL2 := hid hL2
   have HSUM := hid hsum
   clear hfl hL2 hle hnil hps hsum hsi hzi
   go_wp2
   go_roundw
   case rel => exact ⟨by first | rfl | trivial, j + 1, L + ni, by omega, by go_num, by go_num, HL2, HSUM.out⟩
   case measure => simp [intOf]; omega
def beW (n N : Nat) : List (BitVec 8) := (be n N).map fun x => BitVec.ofNat 8 x
theorem beW_W8 (n N : Nat) : (beW n N).map W8 = (be n N).map U8 := by
 unfold beW
 rw [List.map_map]
 refine List.map_congr_left fun x hx => ?_
 have := be_lt n N x hx
 simp [i8, BitVec.toNat_ofNat, Nat.mod_eq_of_lt this]
theorem bytes_u (w : World) (a : Value) (x : Nat) (ha : NumR w 64 x a) (m : Nat) (hm : m ≤ 65536) (hlt : x < 256 ^ m) (hm0 : 0 < m) :
  Calls Try.prog 32 #[a, .int .i64 (m : Int)] w fun e w' => ∃ g, e = .returned (.tuple #[.slice (some ⟨g, 0, none⟩) m m, .bool true]) ∧ RowV 5 w' g ((beW m x).map W8) ∧ Below w.heap.size w w' := by
 obtain ⟨xs, A, n, c, rfl, hs, hd, rfl, hn⟩ := ha
 refine (bytes_yes w _ (Nat.le_refl _) _ _ _ _ hs hd (by omega) m hm hlt).mono ?_
 rintro e w' ⟨g, rfl, hr, hb⟩
 refine ⟨g, rfl, ?_, hb⟩
 rw [beW_W8]
 exact hr
def encN (s : Nat) : Option (Nat × Nat) → List (BitVec 8)
 | none => [0]
 | some (x, y) => 4 :: (beW s x ++ beW s y)
theorem cEnc_yes (w : World) (c : Int) (D : Crv) (hc : crvOf c = some D) (vP : Value) (P : Option (Nat × Nat)) (hP : Pg w vP P) (x y : Nat) (hPs : P = some (x, y)) (has : hasN D.p D.b P) (hs0 : 0 < D.size) (hs1 : D.size ≤ 65536) (hs2 : D.p < 256 ^ D.size) :
  Calls Try.prog 16 #[.int .i64 c, vP] w fun e w' => ∃ v, e = .returned (.tuple #[v, .bool true]) ∧ w'.ownsRow w.heap.size 5 1 v (encN D.size P).length ((encN D.size P).map W8) ∧ Below w.heap.size w w' := by
 have HSZ := hid (show 0 < D.size ∧ D.size ≤ 65536 ∧ D.p < 256 ^ D.size from ⟨hs0, hs1, hs2⟩)
 clear hs0 hs1 hs2
 have hmx : Try.prog.follows .mixedOrders = true := by kernel_rfl
 have hok := crv_ok hc
 obtain ⟨iP, bP, dP, rfl⟩ := hP.ex
 have hiP : iP = false := by
  subst hPs
  obtain ⟨a, b, e, _⟩ := hP
  injection e with e
  simp at e
  exact e.1
 subst hiP
 subst hPs
 obtain ⟨W0, e0, r0, b0, s0⟩ := newS w 31 [.bool false, bP, dP] _ rfl
 obtain ⟨gP, hgP⟩ : ∃ x, w.heap.size = x := ⟨_, rfl⟩
 obtain ⟨W1, e1, r1, b1, s1⟩ := newS W0 31 [.bool false, bP, dP] _ rfl
 obtain ⟨gs, hgs⟩ : ∃ x, W0.heap.size = x := ⟨_, rfl⟩
 rw [hgP] at r0
 rw [hgs] at r1
 have hbw : Below w.heap.size w W1 := (b0).trans (b1.mono (b0).size)
 have qgP := (r0.later b1)
 have qgs := r1
 have HB := hid hbw
 have HGL := hid (show w.heap.size ≤ gP ∧ gP < W1.heap.size by omega)
 have hP3 := hP.later hbw
 have HPP := hid hP3
 have HRP := hid qgP
 have pp0 := r0.at_ (i := 0) rfl
 have p0 := qgP.at_ (i := 0) rfl
 have pp1 := r0.at_ (i := 1) rfl
 have p1 := qgP.at_ (i := 1) rfl
 have pp2 := r0.at_ (i := 2) rfl
 have p2 := qgP.at_ (i := 2) rfl
 have HDW := hid (domW_any W1 c D hc hok.1 gs 1 1 [(.bool false, bP, dP)] [some (x, y)] rfl (by decide) rfl (PtsV.one qgs) (by
  intro k a b d R h1 h2
  rcases k with _ | k
  ·simp at h1 h2
   obtain ⟨rfl, rfl, rfl⟩ := h1
   subst h2
   exact hP3
  ·simp at h1))
 have HOK := hid hok
 have Hhas := hid has
 clear has b0 s0 r0 b1 s1 r1 hbw qgP qgs hok hc hP hP3
 go_enter Try.func16, Try.ntmps16
 go_wp2_with fail
 refine HDW.out.mono ?_
 rintro e w1 (⟨vd, rfl, hvd, hall, hb1⟩ | ⟨rfl, ⟨R, hR, hRn⟩, hb1⟩)
 rotate_left
 ·exfalso
  simp only [List.mem_cons, List.not_mem_nil, or_false] at hR
  subst hR
  exact hRn Hhas.out
 ·skip
  obtain ⟨vp, vb, vn, vx, vy, rfl, k1, k2, k3, k4, k5⟩ := hvd
  obtain ⟨Ap, np, cp, rfl⟩ := k1.sl
  obtain ⟨Ab, nb, cb, rfl⟩ := k2.sl
  obtain ⟨An, nn, cn, rfl⟩ := k3.sl
  obtain ⟨Ax, nx, cx, rfl⟩ := k4.sl
  obtain ⟨Ay, ny, cy, rfl⟩ := k5.sl
  have HDM := hid (show Dm w1 _ D from ⟨_, _, _, _, _, rfl, k1, k2, k3, k4, k5⟩)
  obtain ⟨W5, e5, r5, b5, s5⟩ := newS w1 56 [.int .i64 0, .slice none 0 0, .slice none 0 0, .slice none 0 0, .bool false, .slice none 0 0, .slice none 0 0] _ rfl
  obtain ⟨g8, hg8⟩ : ∃ x, w1.heap.size = x := ⟨_, rfl⟩
  rw [hg8] at r5
  have HB5 := hid b5
  have HB1 := hid hb1
  have HG8 := hid (show W1.heap.size ≤ g8 by have := hb1.size; omega)
  have HNU := hid (NoU.of_row r5 (by intro v hv x; simp only [List.mem_cons, List.not_mem_nil, or_false] at hv; rcases hv with rfl | rfl | rfl | rfl | rfl | rfl | rfl <;> (intro h; cases h)))
  clear k1 k2 k3 k4 k5 hall hb1 b5 s5 p0 p1 p2 pp0 pp1 pp2
  go_wp2_with ((with_reducible show wpList _ _ _ (⟨none, _, _, _, _, _⟩ :: _) _ _); refine wlS_store rfl 56 7 Try.sizeDom _ _ rfl g8 [.int .i64 (D.size : Int), .slice Ap np cp, .slice Ab nb cb, .slice An nn cn, .bool false, .slice Ax nx cx, .slice Ay ny cy] rfl rfl 56 _ r5 rfl rfl (by intro v hv; simp only [List.mem_cons, List.not_mem_nil, or_false] at hv; rcases hv with rfl | rfl | rfl | rfl | rfl | rfl | rfl <;> rfl) ?_; intro w6 hr6 hg6 hz; have q6 := ((HRP.out.later HB1.out).later HB5.out).grown hg6 (by have := HG8.out; have := HGL.out; omega); have c0 := q6.at_ (i := 0) rfl; have c1 := q6.at_ (i := 1) rfl; have c2 := q6.at_ (i := 2) rfl; have f0 := hr6.at_ (i := 0) rfl)
  have hsb : Sb W5 w6 := ⟨g8, HNU.out, hg6⟩
  have HDM6 := hid ((HDM.out.later HB5.out).sb hsb)
  have HP6 := hid (((HPP.out.later HB1.out).later HB5.out).sb hsb)
  have HRP6 := hid (((HRP.out.later HB1.out).later HB5.out).grown hg6 (by have := HG8.out; have := HGL.out; omega))
  have HR8 := hid hr6
  have hbw1 := HB.out.trans (HB1.out.mono HB.out.size)
  have hbw5 := hbw1.trans (HB5.out.mono hbw1.size)
  have HBW := hid (below_grown hbw5 hg6 (by have := HG8.out; have := HGL.out; omega) hbw5.size)
  clear hsb hbw1 hbw5 HDM HB5 HB1 HPP HRP hr6 hg6 hz HNU
  have hxy : NumR w6 64 x bP ∧ NumR w6 64 y dP := by
   obtain ⟨b', d', he, hx, hy⟩ := HP6.out
   injection he with he
   simp at he
   obtain ⟨rfl, rfl⟩ := he
   exact ⟨hx, hy⟩
  have HXY := hid hxy
  have HBX := hid (bytes_u w6 bP x hxy.1 D.size HSZ.out.2.1 (Nat.lt_trans Hhas.out.1 HSZ.out.2.2) HSZ.out.1)
  clear hxy c0 c1 f0 q6 c2
  refine HBX.out.mono ?_
  rintro e w7 ⟨gx, rfl, hrx, hb7⟩
  have HRX := hid hrx
  have c27 := (HRP6.out.later hb7).at_ (i := 2) rfl
  have f07 := (HR8.out.later hb7).at_ (i := 0) rfl
  have HB7 := hid (HBW.out.trans (hb7.mono HBW.out.size))
  have HBY := hid (bytes_u w7 dP y (HXY.out.2.later hb7) D.size HSZ.out.2.1 (Nat.lt_trans Hhas.out.2.1 HSZ.out.2.2) HSZ.out.1)
  clear hrx hb7
  go_wp2_with fail
  refine HBY.out.mono ?_
  rintro e w8 ⟨gy, rfl, hry, hb8⟩
  obtain ⟨W9, e9, r9, b9, s9⟩ := newS w8 5 [.int .u8 4] _ rfl
  obtain ⟨g9, hg9⟩ : ∃ z, w8.heap.size = z := ⟨_, rfl⟩
  rw [hg9] at r9
  obtain ⟨W10, e10, r10, b10, s10⟩ := newS W9 46 [.slice (some ⟨g9, 0, none⟩) 1 1, .slice (some ⟨gx, 0, none⟩) D.size D.size, .slice (some ⟨gy, 0, none⟩) D.size D.size] _ rfl
  obtain ⟨g10, hg10⟩ : ∃ z, W9.heap.size = z := ⟨_, rfl⟩
  rw [hg10] at r10
  have hrx8 := ((HRX.out.later hb8).later b9).later b10
  have hry8 := (hry.later b9).later b10
  have hr98 := r9.later b10
  have hB8 := HB7.out.trans (hb8.mono HB7.out.size)
  have hB9 := hB8.trans (b9.mono hB8.size)
  have HB10 := hid (hB9.trans (b10.mono hB9.size))
  have hlx : ((beW D.size x).map W8).length = D.size := by simp [beW, be_length]
  have hly : ((beW D.size y).map W8).length = D.size := by simp [beW, be_length]
  have sx := hrx8.sl (by rw [hlx]; have := HSZ.out.2.1; omega)
  have sy := hry8.sl (by rw [hly]; have := HSZ.out.2.1; omega)
  have s4 : SlV W10 W10.heap.size (some ⟨g9, 0, none⟩) 1 1 [W8 4] := hr98.sl (by simp)
  rw [hlx] at sx
  rw [hly] at sy
  have hsl := r10.sl (by simp)
  have hpart : PartsV W10 W10.heap.size (some ⟨g10, 0, none⟩) 3 3 [[4], beW D.size x, beW D.size y] := by
   refine ⟨_, hsl, rfl, fun i v ps hv hp => ?_⟩
   rcases i with _ | _ | _ | i
   ·simp at hv hp
    subst hv hp
    exact ⟨_, _, _, rfl, s4, fun h => by cases h⟩
   ·simp at hv hp
    subst hv hp
    exact ⟨_, _, _, rfl, sx, fun h => by cases h⟩
   ·simp at hv hp
    subst hv hp
    exact ⟨_, _, _, rfl, sy, fun h => by cases h⟩
   ·simp at hv
  have HC := hid (concat_any W10 _ _ 3 3 _ hpart (Nat.le_refl _) (by decide) (by simp [beW, be_length]; have := HSZ.out.2.1; omega))
  clear hpart hsl s4 sx sy hlx hly hB8 hB9 hrx8 hry8 hr98 r9 r10 b9 b10 s9 s10 hry hb8 c27 f07
  go_wp2_with fail
  refine HC.out.mono ?_
  rintro e w11 ⟨v, rfl, hown, hb11⟩
  have HOWN := hid hown
  have HB11 := hid hb11
  clear hown hb11
  go_wp2
  refine bodyPost_ret (results_tmp2 rfl _ _ _) rfl ?_
  have hfl : [[(4 : BitVec 8)], beW D.size x, beW D.size y].flatten = encN D.size (some (x, y)) := by simp [encN]
  have h1 := HOWN.out
  rw [hfl] at h1
  refine ⟨v, rfl, ?_, HB10.out.trans (HB11.out.mono HB10.out.size)⟩
  exact own_base h1 HB10.out.size
structure SpB where
 P : Value → World → Prop
 later : ∀ v V V', Below V.heap.size V V' → P v V → P v V'
def SpB.val (c : Value) : SpB := ⟨fun v _ => v = c, fun _ _ _ _ h => h⟩
def SpB.num (k : Nat) : SpB := ⟨fun v V => Nu V v k, fun _ _ _ hb h => h.later hb⟩
def SpB.row (t : TypeId) (N : Nat) (vs : List Value) : SpB := ⟨fun v V => ∃ g, v = .pointer (some ⟨g, 0, none⟩) ∧ N ≤ g ∧ RowV t V g vs, fun _ _ _ hb h => by
 obtain ⟨g, e, hN, hr⟩ := h
 exact ⟨g, e, hN, hr.later hb⟩⟩
def SpB.of (s : Spc) : SpB := ⟨s.P, fun v V V' hb h => s.sb v V V' (Sb.of_below hb) h⟩
def spbAt (L : List (Nat × SpB)) (t : Nat) (v : Value) (V : World) : Prop := match L.lookup t with
 | some s => s.P v V
 | none => True
theorem spbAt.later {L : List (Nat × SpB)} {t : Nat} {v : Value} {V V' : World} (hb : Below V.heap.size V V') (h : spbAt L t v V) : spbAt L t v V' := by
 unfold spbAt at h ⊢
 cases hl : L.lookup t with
 | none => trivial
 | some s =>
  rw [hl] at h
  exact s.later v V V' hb h
def OpOkB (F : Fence) (n : Nat) (P : Program) (L : List (Nat × SpB)) (a' : Act) (V : World) (o : Oper) : Prop :=
 (∀ c, o.op ≠ .defer c) ∧ (∀ f, o.about P V a'.eval = some f → F.fn f) ∧ o.dst ≠ none ∧
  ((∃ v V', (execOp a'.eval o).run P V = .ok (.value v) V' ∧ Below V.heap.size V V' ∧ ∀ t, o.dst = some t → spbAt L t v V') ∨
   ∃ f args, (execOp a'.eval o).run P V = .ok (.enter f args) V ∧ CallsIn F (n - 1) P f args V fun e w' => ∃ v, e = .returned v ∧ Below V.heap.size V w' ∧ ∀ t, o.dst = some t → spbAt L t v w')
theorem wpIn_region_numB {F : Fence} {n : Nat} {P : Program} {id : Nat} {ops : Array Oper} {Q : Exit → Act → World → Prop} {a : Act} {w : World} (hF : F.depth = none) (hm : P.follows .mixedOrders = true)
  (L : List (Nat × SpB)) (hd : distinctB ops = true) (hdep : depsW ops (L.map (·.1)) [] = true) (hon : onlyB ops (L.map (·.1)) = true) (hord : orderedB ops = true) (hsz : (L.map (·.1)).all (fun t => decide (t < a.tmps.size)) = true)
  (s : Nat) (hs : s + 1 = ops.size) (hroot : rootB ops s = true)
  (hops : ∀ (i : Nat) (o : Oper) (a' : Act) (V : World), i < s → Below w.heap.size w V → ops[i]? = some o → (∀ t, (L.map (·.1)).contains t = false → a'.eval (.tmp t) = a.eval (.tmp t)) → (∀ t, readsB o t = true → (L.map (·.1)).contains t = true → spbAt L t (a'.eval (.tmp t)) V) → OpOkB F n P L a' V o)
  (hlast : ∀ (vals : Nat → Value) (o : Oper) (a' : Act) (V : World), Below w.heap.size w V → ops[s]? = some o → (∀ t, (L.map (·.1)).contains t = false → a'.eval (.tmp t) = a.eval (.tmp t)) →
   (∀ t, readsB o t = true → (L.map (·.1)).contains t = true → ∃ (j : Nat) (oj : Oper), ops[j]? = some oj ∧ oj.dst = some t ∧ a'.eval (.tmp t) = vals j) → (∀ (i t : Nat) (o : Oper), i < s → ops[i]? = some o → o.dst = some t → spbAt L t (vals i) V) →
   (∀ c, o.op ≠ .defer c) ∧ (∀ f, o.about P V a'.eval = some f → F.fn f) ∧ ∃ v W2, ((execOp a'.eval o).run P V = .ok .skip W2 ∧ v = undef ∨ (execOp a'.eval o).run P V = .ok (.value v) W2) ∧
    Q .normal { tmps := wrote ops (fun j => if j = s then v else vals j) (Array.replicate ops.size true) a.tmps ops.size, defers := a.defers } W2) : (Code.region id ops true).wpIn F n P Q a w := by
 have hd' := distinct_of hd
 have hclose : ∀ (L : Array Bool), L.size = ops.size → (∀ (j : Nat) (oj : Oper), ops[j]? = some oj → L.getD j false = true → ∀ e ∈ oj.after, Region.binds .any e = true → L.getD e.on false = true) → L.getD s false = true → ∀ k i, i + k = s → L.getD i false = true := by
  intro L hsz hcl hL k
  induction k using Nat.strongRecOn with
  | _ k ih =>
   intro i hik
   rcases Nat.eq_zero_or_pos k with h0 | h0
   ·obtain rfl : i = s := by omega
    exact hL
   ·simp only [rootB, List.all_eq_true, List.mem_range] at hroot
    have h1 := hroot i (by omega)
    rw [List.any_eq_true] at h1
    obtain ⟨j, hj, h2⟩ := h1
    rw [List.mem_range] at hj
    rw [Bool.and_eq_true, decide_eq_true_eq] at h2
    have hjl := ih (s - j) (by omega) j (by omega)
    cases ho : ops[j]? with
    | none => rw [ho] at h2; simp at h2
    | some o =>
     rw [ho] at h2
     obtain ⟨e, he, he2⟩ := Array.any_eq_true'.1 h2.2
     rw [Bool.and_eq_true, beq_iff_eq] at he2
     have := hcl j o ho hjl e he he2.2
     rwa [he2.1] at this
 refine wpIn_region_relH hm hd' (fun b : Nat → Value => b) (fun b Ls V => (Ls.getD s false = false → Below w.heap.size w V ∧ ∀ (j t : Nat) (o : Oper), ops[j]? = some o → o.dst = some t → Ls.getD j false = true → spbAt L t (b j) V) ∧
   (Ls.getD s false = true → Q .normal { tmps := wrote ops b (Array.replicate ops.size true) a.tmps ops.size, defers := a.defers } V)) (fun _ => undef) ⟨fun _ => ⟨below_drewN (Below.refl _ w) 1, ?_⟩, fun h => ?_⟩ ?_ ?_ (acyclic_of hord)
 ·intro j t o _ _ hL
  rw [getD_rep] at hL
  cases hL
 ·rw [getD_rep] at h
  cases h
 ·rintro b Ls a' V ⟨hV0, -⟩ hLs hdf hcl hold hnew i hi o ho K hK
  obtain ⟨h1, o2, ho2, hde⟩ := mem_ready.1 hi
  obtain rfl : o = o2 := Option.some.inj (ho.symm.trans ho2)
  have hnl := unlisted h1
  have his : i ≤ s := by have := (Array.getElem?_eq_some_iff.1 ho).1; omega
  have hLf : Ls.getD s false = false := by
   apply Classical.byContradiction
   intro h
   have := hclose Ls hLs hcl (by simpa using h) (s - i) i (by omega)
   rw [hnl] at this
   cases this
  obtain ⟨hIV, hPV⟩ := hV0 hLf
  obtain ⟨hg, hev, hrd⟩ := tree_reads hdep hon hsz hold hnew ho hde
  have hrd' : ∀ t, readsB o t = true → (L.map (·.1)).contains t = true → spbAt L t (a'.eval (.tmp t)) V := by
   intro t h2 h3
   obtain ⟨j, oj, hj, hjd, hjL, e⟩ := hrd t h2 h3
   rw [e]
   exact hPV j t oj hj hjd hjL
  rcases Nat.lt_or_ge i s with his' | his'
  ·obtain ⟨hdef, hab, -, hrun⟩ := hops i o a' V his' hIV ho hev hrd'
   have hnext : ∀ v V', Below V.heap.size V V' → (∀ t, o.dst = some t → spbAt L t v V') → K (a'.put o.dst v) V' := by
    intro v V' hB hP
    have hk := hK (fun j => if j = i then v else b j) V' (fun j hj => by
     rw [if_neg]
     rintro rfl
     rw [hnl] at hj; cases hj) ⟨fun _ => ⟨hIV.trans (hB.mono hIV.size), fun j t oj hj hjd hjL => by
      by_cases hji : j = i
      ·subst hji
       obtain rfl : o = oj := Option.some.inj (ho.symm.trans hj)
       simp only [if_true]
       exact hP t hjd
      ·rw [getD_set_ne Ls (fun h => hji h.symm)] at hjL
       simp only [if_neg hji]
       exact (hPV j t oj hj hjd hjL).later hB⟩, fun h => by
      rw [getD_set_ne Ls (by omega), hLf] at h
      cases h⟩
    simpa using hk
   rcases hrun with ⟨v, V', hrun, hB, hP⟩ | ⟨f, args, hrun, hcall⟩
   ·exact in_value ho hg hdef hab hrun (hnext v V' hB hP)
   ·refine in_call_any ho hg hdef hF hab hrun (hcall.mono ?_)
    rintro e w' ⟨v, rfl, hB, hP⟩
    exact ⟨v, rfl, hnext v w' hB hP⟩
  ·obtain rfl : i = s := by omega
   have hall : ∀ j, j < i → Ls.getD j false = true := by
    intro j hj
    simp only [rootB, List.all_eq_true, List.mem_range] at hroot
    have hdown : ∀ k j, j + k = i → 0 < k → Ls.getD j false = true := by
     intro k
     induction k using Nat.strongRecOn with
     | _ k ih =>
      intro j hjk h0
      have h1 := hroot j (by omega)
      rw [List.any_eq_true] at h1
      obtain ⟨m, hm', h2⟩ := h1
      rw [List.mem_range] at hm'
      rw [Bool.and_eq_true, decide_eq_true_eq] at h2
      by_cases hmi : m = i
      ·subst hmi
       rw [ho] at h2
       obtain ⟨e, he, he2⟩ := Array.any_eq_true'.1 h2.2
       rw [Bool.and_eq_true, beq_iff_eq] at he2
       have := hde e he he2.2
       rwa [he2.1] at this
      ·have hml := ih (i - m) (by omega) m (by omega) (by omega)
       cases hom : ops[m]? with
       | none => rw [hom] at h2; simp at h2
       | some om =>
        rw [hom] at h2
        obtain ⟨e, he, he2⟩ := Array.any_eq_true'.1 h2.2
        rw [Bool.and_eq_true, beq_iff_eq] at he2
        have := hcl m om hom hml e he he2.2
        rwa [he2.1] at this
    exact hdown (i - j) j (by omega) (by omega)
   obtain ⟨hdef, hab, v, W2, hrun, hQ⟩ := hlast b o a' V hIV ho hev (fun t h2 h3 => by
    obtain ⟨j, oj, hj, hjd, hjL, e⟩ := hrd t h2 h3
    exact ⟨j, oj, hj, hjd, e⟩) fun j t oj hj hoj hjd => hPV j t oj hoj hjd (hall j hj)
   have hk := hK (fun j => if j = i then v else b j) W2 (fun j hj => by
    rw [if_neg]
    rintro rfl
    rw [hnl] at hj; cases hj) ⟨fun h => absurd h (by rw [getD_set_self Ls (by omega)]; simp), fun _ => hQ⟩
   simp only [if_true] at hk
   rcases hrun with ⟨hrun, rfl⟩ | hrun
   ·exact in_skip ho hg hdef hab hrun hk
   ·exact in_value ho hg hdef hab hrun hk
 ·rintro b Ls V ⟨-, h⟩ hL
  exact h (hL s (by omega))
def natsB (bs : List (BitVec 8)) : List Nat := bs.map BitVec.toNat
theorem sl8_of_slVB {w : World} {B n c : Nat} {A : Option Addr} {bs : List (BitVec 8)} (h : SlV w B A n c (bs.map W8)) : Sl8 w B A n c (natsB bs) := by
 refine ⟨by rw [natsB, List.length_map]; simpa using h.len, h.cap, h.max, fun x hx => ?_, fun hn => ?_⟩
 ·obtain ⟨y, _, rfl⟩ := List.mem_map.1 hx
  exact y.isLt
 ·obtain ⟨b, off, e, hb, hc⟩ := h.2.2.2 (by intro e; apply hn; rw [List.map_eq_nil_iff] at e; rw [natsB, e]; rfl)
  refine ⟨b, off, e, hb, fun k x hx => ?_⟩
  rw [natsB, List.getElem?_map, Option.map_eq_some_iff] at hx
  obtain ⟨y, hy, rfl⟩ := hx
  exact hc k (W8 y) (by rw [List.getElem?_map, hy]; rfl)
def numB (bs : List (BitVec 8)) : Nat := V 256 (natsB bs).reverse
theorem fromb_u (w : World) (A : Option Addr) (n c : Nat) (bs : List (BitVec 8)) (hs : SlV w w.heap.size A n c (bs.map W8)) (hn : n ≤ 500) : Calls Try.prog 34 #[.slice A n c] w fun e w' => RetU w (numB bs) e w' := by
 refine (frombytes_any w _ (Nat.le_refl _) A n c (natsB bs) (sl8_of_slVB hs) (by omega)).mono ?_
 rintro e w' ⟨zs, hz, A3, n3, c3, rfl, hs3, hB⟩
 refine ⟨_, rfl, Nu.of hs3 hz ?_, hB⟩
 have h1 : V 256 (natsB bs).reverse < 256 ^ (natsB bs).reverse.length := V_lt _ (fun x hx => by
  rw [List.mem_reverse] at hx
  obtain ⟨y, _, rfl⟩ := List.mem_map.1 hx
  exact y.isLt)
 have hl : (natsB bs).reverse.length = n := by
  have := hs.len
  simp [natsB] at this ⊢
  omega
 rw [hl] at h1
 exact Nat.lt_of_lt_of_le h1 (Nat.le_trans (Nat.pow_le_pow_right (by decide) hn) (by decide +kernel))
theorem SlV.first {w : World} {B n c bq off : Nat} {v : Value} {vs : List Value} (h : SlV w B (some ⟨bq, off, none⟩) n c (v :: vs)) : w.cell? ⟨bq, off, none⟩ = some v := by
 obtain ⟨b, o, e, _, hc⟩ := h.2.2.2 (by simp)
 injection e with e
 injection e with e1 e2
 subst e1 e2
 exact hc 0 v rfl
theorem cDec_good (w : World) (c : Int) (D : Crv) (hc : crvOf c = some D) (bq off n cp : Nat) (b0 : BitVec 8) (bs : List (BitVec 8)) (hs : SlV w w.heap.size (some ⟨bq, off, none⟩) n cp ((b0 :: bs).map W8)) (hn : n ≤ 500) (hb0 : b0 = 4) (hl : n = 1 + 2 * D.size) (hD : 0 < D.size ∧ D.size ≤ 200) (X Y : Nat) (hX : numB (bs.take D.size) = X) (hY : numB (bs.drop D.size) = Y) (has : hasN D.p D.b (some (X, Y))) :
  Calls Try.prog 17 #[.int .i64 c, .slice (some ⟨bq, off, none⟩) n cp] w fun e w' => ∃ v, e = .returned (.tuple #[v, .bool true]) ∧ Pt w' v (some (X, Y)) ∧ Below w.heap.size w w' := by
 have hnn : n = bs.length + 1 := by simpa using hs.len
 have hn1 : (0 : Int) < n := by omega
 have hn2 : ¬ (n : Int) = 0 := by omega
 have hz8 := BitVec.isLt b0
 obtain ⟨v8, hv8⟩ : ∃ v : Int, i8 b0 = v := ⟨_, rfl⟩
 have hc8 : (W8 b0) = .int .u8 v8 := by rw [← hv8]
 have hv0 : v8 = 4 := by rw [← hv8, hb0]; rfl
 subst hv0
 obtain ⟨sz, hsz⟩ : ∃ z, D.size = z := ⟨_, rfl⟩
 rw [hsz] at hl hD hX hY
 have HSZ := hid hsz
 subst hl
 have hD2 : (sz : Int) ≤ 200 := by omega
 have hD3 : (0 : Int) < (sz : Int) := by omega
 clear hb0 hsz hn1 hn2
 have HV8 := hid hv8
 have HC8 := hid hc8
 have HNN := hid hnn
 have HSW := hid hs
 clear hnn hz8 hv8 hc8
 have hmx : Try.prog.follows .mixedOrders = true := by kernel_rfl
 have hok := crv_ok hc
 have HOK := hid hok
 obtain ⟨W0, e0, r0, b0, s0⟩ := newS w 31 [.bool false, .slice none 0 0, .slice none 0 0] _ rfl
 obtain ⟨gr, hgr⟩ : ∃ x, w.heap.size = x := ⟨_, rfl⟩
 rw [hgr] at r0
 have HB := hid b0
 have HR := hid r0
 have HGL := hid (show w.heap.size ≤ gr by omega)
 have hs0 := hs.later b0 (Nat.le_refl _)
 have HS := hid hs0
 have Hhas := hid has
 have HhX := hid hX
 have HhY := hid hY
 have HhD := hid hD
 have HD := hid (domOf_yes W0 c D hc)
 clear b0 s0 r0 hc hs hs0 hok has hX hY hD
 go_enter Try.func17, Try.ntmps17
 go_wp2_with fail
 refine HD.out.mono ?_
 rintro e w1 ⟨vd, rfl, hvd, hb1⟩
 obtain ⟨vp, vb, vn, vx, vy, rfl, k1, k2, k3, k4, k5⟩ := hvd
 obtain ⟨Ap, np, cp', rfl⟩ := k1.sl
 obtain ⟨Ab, nb, cb, rfl⟩ := k2.sl
 obtain ⟨An, nn, cn, rfl⟩ := k3.sl
 obtain ⟨Ax, nx, cx, rfl⟩ := k4.sl
 obtain ⟨Ay, ny, cy, rfl⟩ := k5.sl
 have HDM := hid (show Dm w1 _ D from ⟨_, _, _, _, _, rfl, k1, k2, k3, k4, k5⟩)
 obtain ⟨W5, e5, r5, b5, s5⟩ := newS w1 56 [.int .i64 0, .slice none 0 0, .slice none 0 0, .slice none 0 0, .bool false, .slice none 0 0, .slice none 0 0] _ rfl
 obtain ⟨g8, hg8⟩ : ∃ x, w1.heap.size = x := ⟨_, rfl⟩
 rw [hg8] at r5
 have HB5 := hid b5
 have HB1 := hid hb1
 have HG8 := hid (show w1.heap.size ≤ g8 by omega)
 have HNU := hid (NoU.of_row r5 (by intro v hv x; simp only [List.mem_cons, List.not_mem_nil, or_false] at hv; rcases hv with rfl | rfl | rfl | rfl | rfl | rfl | rfl <;> (intro h; cases h)))
 have HRG := hid ((HR.out.later hb1).later b5)
 have HNR := hid (show gr ≠ g8 by have := (HR.out.later hb1).lt; omega)
 have hs5 := (HS.out.later hb1 (Nat.le_refl _)).later b5 (Nat.le_refl _)
 have HS5 := hid hs5
 clear hb1 b5 s5 hs5 k1 k2 k3 k4 k5
 have hbw1 := HB.out.trans (HB1.out.mono HB.out.size)
 have HBW5 := hid (hbw1.trans (HB5.out.mono hbw1.size))
 have HG8X := hid (show w.heap.size ≤ g8 by have := HG8.out; have := hbw1.size; omega)
 clear hbw1
 go_wp2_with ((with_reducible show wpList _ _ _ (⟨none, _, _, _, _, _⟩ :: _) _ _); refine wlS_store rfl 56 7 Try.sizeDom _ _ rfl g8 [.int .i64 (D.size : Int), .slice Ap np cp', .slice Ab nb cb, .slice An nn cn, .bool false, .slice Ax nx cx, .slice Ay ny cy] rfl rfl 56 _ r5 rfl rfl (by intro v hv; simp only [List.mem_cons, List.not_mem_nil, or_false] at hv; rcases hv with rfl | rfl | rfl | rfl | rfl | rfl | rfl <;> rfl) ?_; intro w6 hr6 hg6 hz; have HBX := hid (below_grown HBW5.out hg6 HG8X.out HBW5.out.size); have hc0 : w6.cell? ⟨bq, off, none⟩ = some (.int .u8 4) := (by have hh := (HSW.out.later HBX.out (Nat.le_refl _)).first; rw [HC8.out] at hh; exact hh); have f0 := hr6.at_ (i := 0) rfl; rw [HSZ.out] at f0)
 have hbw1 := HB.out.trans (HB1.out.mono HB.out.size)
 have hbw5 := hbw1.trans (HB5.out.mono hbw1.size)
 have HB6 := hid (below_grown hbw5 hg6 (by have := HG8.out; have := hbw1.size; omega) hbw5.size)
 have HR6 := hid (HRG.out.grown hg6 HNR.out)
 clear hbw1 hbw5
 have HDM6 := hid ((HDM.out.later HB5.out).sb ⟨g8, HNU.out, hg6⟩)
 have HR8 := hid hr6
 have hgrl := HR6.out.lt
 have HGX := hid (show gr < w6.heap.size ∧ g8 < w6.heap.size from ⟨hgrl, hr6.lt⟩)
 have hcap := (HSW.out).cap
 have hcm := (HSW.out).max
 have HCP := hid (And.intro hcap hcm)
 have hcap2 : ((1 + 2 * sz : Nat) : Int) ≤ (cp : Int) := by omega
 have hcm2 : (cp : Int) ≤ 9223372036854775807 := by omega
 clear hgrl hcap hcm
 have HD3 := hid (show sz ≤ 200 by omega)
 refine (wpIn_wide (n := 9)).1 (wpIn_region_numB rfl hmx [(47, .val (.slice (some ⟨bq, off, none⟩) (1 + 2 * sz) cp)), (48, .val (.pointer (some ⟨g8, 0, none⟩))), (49, .val (.int .i64 (sz : Int))), (50, .val (.int .i64 (1 + (sz : Int)))), (51, .val (.slice (some ⟨bq, off + 1, none⟩) sz (cp - 1))), (52, .num (X)), (53, .val (.slice (some ⟨bq, off, none⟩) (1 + 2 * sz) cp)), (54, .val (.pointer (some ⟨g8, 0, none⟩))), (55, .val (.int .i64 (sz : Int))), (56, .val (.int .i64 (1 + (sz : Int)))), (57, .val (.slice (some ⟨bq, off + (1 + sz), none⟩) sz (cp - (1 + sz)))), (58, .num (Y)), (59, .of (.pt (some (X, Y)))), (8, .row 31 w6.heap.size [.bool false, .slice none 0 0, .slice none 0 0])] (by kernel_rfl) (by kernel_rfl) (by kernel_rfl) (by kernel_rfl) (by rfl) 14 rfl (by kernel_rfl) ?hops8 ?hlast8)
 case hops8 =>
  intro i o a' V hns hB ho hev hrd
  have his : i < 15 := by have := (Array.getElem?_eq_some_iff.1 ho).1; simpa using this
  have hw : IntKind.i64.wrap (1 + (sz : Int)) = 1 + (sz : Int) := by
   rw [IntKind.wrap_i64]
   omega
  have k1 : 0 ≤ 1 + (sz : Int) ∧ 1 + (sz : Int) ≤ (cp : Int) := by omega
  have k2 : (1 : Int) ≤ max (1 + (sz : Int)) 0 := by omega
  have k3 : ¬ cp = 1 := by omega
  have k4 : (1 + (sz : Int)).toNat - 1 = sz := by omega
  have k5 : 0 ≤ 1 + (sz : Int) ∧ (sz : Int) ≤ 2 * (sz : Int) := by omega
  have k6 : (1 + (sz : Int)).toNat = 1 + sz := by omega
  have k7 : ¬ cp = 1 + sz := by omega
  have k8 : 1 + 2 * sz - (1 + sz) = sz := by omega
  have hr8 := HR8.out.later hB
  have f0 := hr8.at_ (i := 0) rfl
  rw [HSZ.out] at f0
  have hsV := HSW.out.later (HBX.out.trans (hB.mono HBX.out.size)) (Nat.le_refl _)
  have hd1 := hsV.drop (k := 1) (by omega)
  have hs1 : SlV V V.heap.size (some ⟨bq, off + 1, none⟩) sz (cp - 1) ((bs.take sz).map W8) := by
   have h := hd1.take (k := sz) (by omega)
   simpa [List.map_take] using h
  have hs2 : SlV V V.heap.size (some ⟨bq, off + (1 + sz), none⟩) sz (cp - (1 + sz)) ((bs.drop sz).map W8) := by
   have h := hsV.drop (k := 1 + sz) (by omega)
   have e : 1 + 2 * sz - (1 + sz) = sz := by omega
   rw [e, Nat.add_comm 1 sz] at h
   rw [Nat.add_comm 1 sz]
   simpa [List.map_drop] using h
  have hcase : i = 0 ∨ i = 1 ∨ i = 2 ∨ i = 3 ∨ i = 4 ∨ i = 5 ∨ i = 6 ∨ i = 7 ∨ i = 8 ∨ i = 9 ∨ i = 10 ∨ i = 11 ∨ i = 12 ∨ i = 13 ∨ i = 14 := by omega
  rcases hcase with rfl | rfl | rfl | rfl | rfl | rfl | rfl | rfl | rfl | rfl | rfl | rfl | rfl | rfl | rfl
  ·simp at ho
   subst ho
   have r1 := hev 1 rfl
   simp [Act.eval] at r1
   refine ⟨nofun, fun _ _ => trivial, nofun, .inl ⟨.slice (some ⟨bq, off, none⟩) (1 + 2 * sz) cp, V, ?_, Below.refl _ _, fun t ht => by cases ht; rfl⟩⟩
   simp [execOp, Act.eval, go_sem, r1, f0, hw]
  ·simp at ho
   subst ho
   have r6 := hev 6 rfl
   simp [Act.eval] at r6
   refine ⟨nofun, fun _ _ => trivial, nofun, .inl ⟨.pointer (some ⟨g8, 0, none⟩), V, ?_, Below.refl _ _, fun t ht => by cases ht; rfl⟩⟩
   simp [execOp, Act.eval, go_sem, r6, f0, hw]
  ·simp at ho
   subst ho
   have r48 : a'.eval (.tmp 48) = .pointer (some ⟨g8, 0, none⟩) := hrd 48 rfl rfl
   simp [Act.eval] at r48
   refine ⟨nofun, fun _ _ => trivial, nofun, .inl ⟨.int .i64 (sz : Int), V, ?_, Below.refl _ _, fun t ht => by cases ht; rfl⟩⟩
   simp [execOp, Act.eval, go_sem, r48, f0, hw]
  ·simp at ho
   subst ho
   have r49 : a'.eval (.tmp 49) = .int .i64 (sz : Int) := hrd 49 rfl rfl
   simp [Act.eval] at r49
   refine ⟨nofun, fun _ _ => trivial, nofun, .inl ⟨.int .i64 (1 + (sz : Int)), V, ?_, Below.refl _ _, fun t ht => by cases ht; rfl⟩⟩
   simp [execOp, Act.eval, go_sem, r49, f0, hw]
  ·simp at ho
   subst ho
   have r47 : a'.eval (.tmp 47) = .slice (some ⟨bq, off, none⟩) (1 + 2 * sz) cp := hrd 47 rfl rfl
   simp [Act.eval] at r47
   have r50 : a'.eval (.tmp 50) = .int .i64 (1 + (sz : Int)) := hrd 50 rfl rfl
   simp [Act.eval] at r50
   refine ⟨nofun, fun _ _ => trivial, nofun, .inl ⟨.slice (some ⟨bq, off + 1, none⟩) sz (cp - 1), V, ?_, Below.refl _ _, fun t ht => by cases ht; rfl⟩⟩
   simp [execOp, Act.eval, go_sem, r47, r50]
   rw [if_pos k1, if_pos k2, if_neg k3, k4]
  ·simp at ho
   subst ho
   have r51 : a'.eval (.tmp 51) = .slice (some ⟨bq, off + 1, none⟩) sz (cp - 1) := hrd 51 rfl rfl
   simp [Act.eval] at r51
   refine ⟨nofun, fun _ _ => trivial, nofun, .inr ⟨34, #[.slice (some ⟨bq, off + 1, none⟩) sz (cp - 1)], ?_, (callsIn_wide.2 (fromb_u V _ _ _ (bs.take sz) hs1 (by have := HD3.out; omega))).mono ?_⟩⟩
   ·simp [execOp, Act.eval, r51, resolve, invoke, Deferred.ofValue]
   ·rintro e w' ⟨v, rfl, hv, hB2⟩; rw [HhX.out] at hv
    exact ⟨_, rfl, hB2, fun t ht => by cases ht; exact hv⟩
  ·simp at ho
   subst ho
   have r1 := hev 1 rfl
   simp [Act.eval] at r1
   refine ⟨nofun, fun _ _ => trivial, nofun, .inl ⟨.slice (some ⟨bq, off, none⟩) (1 + 2 * sz) cp, V, ?_, Below.refl _ _, fun t ht => by cases ht; rfl⟩⟩
   simp [execOp, Act.eval, go_sem, r1, f0, hw]
  ·simp at ho
   subst ho
   have r6 := hev 6 rfl
   simp [Act.eval] at r6
   refine ⟨nofun, fun _ _ => trivial, nofun, .inl ⟨.pointer (some ⟨g8, 0, none⟩), V, ?_, Below.refl _ _, fun t ht => by cases ht; rfl⟩⟩
   simp [execOp, Act.eval, go_sem, r6, f0, hw]
  ·simp at ho
   subst ho
   have r54 : a'.eval (.tmp 54) = .pointer (some ⟨g8, 0, none⟩) := hrd 54 rfl rfl
   simp [Act.eval] at r54
   refine ⟨nofun, fun _ _ => trivial, nofun, .inl ⟨.int .i64 (sz : Int), V, ?_, Below.refl _ _, fun t ht => by cases ht; rfl⟩⟩
   simp [execOp, Act.eval, go_sem, r54, f0, hw]
  ·simp at ho
   subst ho
   have r55 : a'.eval (.tmp 55) = .int .i64 (sz : Int) := hrd 55 rfl rfl
   simp [Act.eval] at r55
   refine ⟨nofun, fun _ _ => trivial, nofun, .inl ⟨.int .i64 (1 + (sz : Int)), V, ?_, Below.refl _ _, fun t ht => by cases ht; rfl⟩⟩
   simp [execOp, Act.eval, go_sem, r55, f0, hw]
  ·simp at ho
   subst ho
   have r53 : a'.eval (.tmp 53) = .slice (some ⟨bq, off, none⟩) (1 + 2 * sz) cp := hrd 53 rfl rfl
   simp [Act.eval] at r53
   have r56 : a'.eval (.tmp 56) = .int .i64 (1 + (sz : Int)) := hrd 56 rfl rfl
   simp [Act.eval] at r56
   refine ⟨nofun, fun _ _ => trivial, nofun, .inl ⟨.slice (some ⟨bq, off + (1 + sz), none⟩) sz (cp - (1 + sz)), V, ?_, Below.refl _ _, fun t ht => by cases ht; rfl⟩⟩
   simp [execOp, Act.eval, go_sem, r53, r56]
   rw [if_pos k5, k6, if_neg k7, k8]
  ·simp at ho
   subst ho
   have r57 : a'.eval (.tmp 57) = .slice (some ⟨bq, off + (1 + sz), none⟩) sz (cp - (1 + sz)) := hrd 57 rfl rfl
   simp [Act.eval] at r57
   refine ⟨nofun, fun _ _ => trivial, nofun, .inr ⟨34, #[.slice (some ⟨bq, off + (1 + sz), none⟩) sz (cp - (1 + sz))], ?_, (callsIn_wide.2 (fromb_u V _ _ _ (bs.drop sz) hs2 (by have := HD3.out; omega))).mono ?_⟩⟩
   ·simp [execOp, Act.eval, r57, resolve, invoke, Deferred.ofValue]
   ·rintro e w' ⟨v, rfl, hv, hB2⟩; rw [HhY.out] at hv
    exact ⟨_, rfl, hB2, fun t ht => by cases ht; exact hv⟩
  ·simp at ho
   subst ho
   have r52 : Nu V (a'.eval (.tmp 52)) (X) := hrd 52 rfl rfl
   have r58 : Nu V (a'.eval (.tmp 58)) (Y) := hrd 58 rfl rfl
   obtain ⟨A52, n52, c52, h52⟩ := r52.sl
   rw [h52] at r52
   simp [Act.eval] at h52
   obtain ⟨A58, n58, c58, h58⟩ := r58.sl
   rw [h58] at r58
   simp [Act.eval] at h58
   refine ⟨nofun, fun _ _ => trivial, nofun, .inl ⟨.agg #[.bool false, .slice A52 n52 c52, .slice A58 n58 c58], V, ?_, Below.refl _ _, fun t ht => by cases ht; exact ⟨_, _, rfl, r52, r58⟩⟩⟩
   simp [execOp, Act.eval, go_sem, h52, h58]
  ·simp at ho
   subst ho
   refine ⟨nofun, fun _ _ => trivial, nofun, .inl ⟨.pointer (some ⟨V.heap.size, 0, none⟩), _, ?_, (Below.refl _ V).alloc (Nat.le_refl _) (.cells #[.bool false, .slice none 0 0, .slice none 0 0] 31), fun t ht => by cases ht; exact ⟨_, rfl, hB.size, RowV.new V 31 [.bool false, .slice none 0 0, .slice none 0 0]⟩⟩⟩
   simp [execOp, Act.eval, go_sem]
  ·simp at ho
   subst ho
   omega
 case hlast8 =>
  intro vals o a' V hB ho hev hrd hvals
  simp at ho
  have hop : o.op = .store 31 (.tmp 8) (.tmp 59) := by subst ho; rfl
  have hd8 : readsB o 8 = true := by subst ho; rfl
  have hd59 : readsB o 59 = true := by subst ho; rfl
  have e8 : a'.eval (.tmp 8) = vals 13 := by
   obtain ⟨j, oj, hj, hjd, e⟩ := hrd 8 hd8 (by rfl)
   have hj13 : j = 13 := distinct_of (by kernel_rfl) j 13 oj _ 8 hj rfl hjd rfl
   rw [e, hj13]
  have e59 : a'.eval (.tmp 59) = vals 12 := by
   obtain ⟨j, oj, hj, hjd, e⟩ := hrd 59 hd59 (by rfl)
   have hj12 : j = 12 := distinct_of (by kernel_rfl) j 12 oj _ 59 hj rfl hjd rfl
   rw [e, hj12]
  have p13 : ∃ g, vals 13 = .pointer (some ⟨g, 0, none⟩) ∧ w6.heap.size ≤ g ∧ RowV 31 V g [.bool false, .slice none 0 0, .slice none 0 0] := hvals 13 8 _ (by decide) rfl rfl
  have p12 : Pt V (vals 12) (some (X, Y)) := hvals 12 59 _ (by decide) rfl rfl
  obtain ⟨g9, he13, hg9, hr9⟩ := p13
  obtain ⟨vX, vY, he12, hvX, hvY⟩ := p12
  obtain ⟨V', hrun, hr', hg'⟩ := exec_store (P := Try.prog) (w := V) (o := o) (a := a') 31 3 Try.sizePt (.tmp 8) (.tmp 59) hop g9 [.bool false, vX, vY] (by rw [e8, he13]) (by rw [e59, he12]) 31 _ hr9 rfl rfl (ones3 rfl hvX.one hvY.one)
  refine ⟨(by intro c h; rw [hop] at h; cases h), (by subst ho; exact fun _ _ => trivial), undef, V', .inl ⟨hrun, rfl⟩, ?_⟩
  have hsb : Sb V V' := ⟨g9, NoU.of_row hr9 (noU3 nofun nofun nofun), hg'⟩
  have hne : g9 ≠ gr ∧ g9 ≠ g8 := by have := HGX.out; omega
  have HPv := hid (show Pg V' (.agg #[.bool false, vX, vY]) (some (X, Y)) from ⟨_, _, rfl, (hvX.sb hsb).gu, (hvY.sb hsb).gu⟩)
  have HVX := hid (And.intro (hvX.sb hsb) (hvY.sb hsb))
  have HDMv := hid ((HDM6.out.later hB).sb hsb)
  have HR8v := hid ((HR8.out.later hB).grown hg' (fun e => hne.2 e.symm))
  have HRv := hid ((HR6.out.later hB).grown hg' (fun e => hne.1 e.symm))
  have hbV := HBX.out.trans (hB.mono HBX.out.size)
  have HBV := hid (below_grown hbV hg' (by have := HBX.out.size; omega) hbV.size)
  have HR9 := hid hr'
  have HV13 := hid he13
  have oX := hvX.one
  have oY := hvY.one
  have HO := hid (And.intro oX oY)
  have HNE := hid hne
  clear hvX hvY hsb hne hbV hr9 hrun hg' hvals hrd hev ho hop e8 e59 he12 oX oY
  simp [wrote, Act.put]
  rw [he13]
  clear he13
  have p0 := HR9.out.at_ (i := 0) rfl
  have p1 := HR9.out.at_ (i := 1) rfl
  have p2 := HR9.out.at_ (i := 2) rfl
  have f0 := HR8v.out.at_ (i := 0) rfl
  have f1 := HR8v.out.at_ (i := 1) rfl
  have f2 := HR8v.out.at_ (i := 2) rfl
  have f3 := HR8v.out.at_ (i := 3) rfl
  have f4 := HR8v.out.at_ (i := 4) rfl
  have f5 := HR8v.out.at_ (i := 5) rfl
  have f6 := HR8v.out.at_ (i := 6) rfl
  have HHAS := hid (chas_any V' D (some (X, Y)) _ _ HDMv.out HPv.out HOK.out.1.1 HOK.out.1.2.1 HOK.out.1.2.2)
  go_wp2_with fail
  refine HHAS.out.mono ?_
  rintro e w10 ⟨rfl, hb10⟩
  have hdec : decide (hasN D.p D.b (some (X, Y))) = true := decide_eq_true Hhas.out
  rw [hdec]
  have hr10 := HRv.out.later hb10
  have h9 := HR9.out.later hb10
  have p0 := h9.at_ (i := 0) rfl
  have p1 := h9.at_ (i := 1) rfl
  have p2 := h9.at_ (i := 2) rfl
  have HB10 := hid (HBV.out.trans (hb10.mono HBV.out.size))
  have HVX10 := hid (And.intro (HVX.out.1.later hb10) (HVX.out.2.later hb10))
  clear hb10 f0 f1 f2 f3 f4 f5 f6 hdec h9
  go_wp2_with ((with_reducible show wpList _ _ _ (⟨none, _, _, _, _, _⟩ :: _) _ _); refine wlS_store rfl 31 3 Try.sizePt _ _ rfl gr [.bool false, vX, vY] rfl rfl 31 _ hr10 rfl rfl (ones3 rfl HO.out.1 HO.out.2) ?_; intro w12 hr12 hg12 hz)
  refine ⟨rfl, _, results_pt2 rfl _ gr _ rfl hr12 rfl, _, rfl, ⟨_, _, rfl, HVX10.out.1.sb ⟨gr, NoU.of_row hr10 (noU3 nofun nofun nofun), hg12⟩, HVX10.out.2.sb ⟨gr, NoU.of_row hr10 (noU3 nofun nofun nofun), hg12⟩⟩, below_grown HB10.out hg12 HGL.out HB10.out.size⟩
theorem cMult_yes (w : World) (c : Int) (D : Crv) (hc : crvOf c = some D) (vP : Value) (P : Option (Nat × Nat)) (hP : Pg w vP P) (has : hasN D.p D.b P) :
  Calls Try.prog 18 #[.int .i64 c, vP] w fun e w' => ∃ g7 g5 a b d dd, e = .returned (.func (.func 37) #[] #[.pointer (some ⟨g7, 0, none⟩), .pointer (some ⟨g5, 0, none⟩)]) ∧
   RowV 65 w' g7 [a, b, d] ∧ Rt w' (.agg #[a, b, d]) (rtN P) ∧ RowV 56 w' g5 dd ∧ Dm w' (.agg dd.toArray) D ∧ w.heap.size ≤ g7 ∧ w.heap.size ≤ g5 ∧ Below w.heap.size w w' := by
 have hmx : Try.prog.follows .mixedOrders = true := by kernel_rfl
 have hok := crv_ok hc
 obtain ⟨iP, bP, dP, rfl⟩ := hP.ex
 obtain ⟨W0, e0, r0, b0, s0⟩ := newS w 31 [.bool iP, bP, dP] _ rfl
 obtain ⟨gP, hgP⟩ : ∃ x, w.heap.size = x := ⟨_, rfl⟩
 obtain ⟨W1, e1, r1, b1, s1⟩ := newS W0 31 [.bool iP, bP, dP] _ rfl
 obtain ⟨gs, hgs⟩ : ∃ x, W0.heap.size = x := ⟨_, rfl⟩
 rw [hgP] at r0
 rw [hgs] at r1
 have hbw : Below w.heap.size w W1 := (b0).trans (b1.mono (b0).size)
 have qgP := (r0.later b1)
 have qgs := r1
 have HB := hid hbw
 have HGL := hid (show w.heap.size ≤ gP ∧ gP < W1.heap.size by omega)
 have hP3 := hP.later hbw
 have HPP := hid hP3
 have HRP := hid qgP
 have pp0 := r0.at_ (i := 0) rfl
 have p0 := qgP.at_ (i := 0) rfl
 have pp1 := r0.at_ (i := 1) rfl
 have p1 := qgP.at_ (i := 1) rfl
 have pp2 := r0.at_ (i := 2) rfl
 have p2 := qgP.at_ (i := 2) rfl
 have HDW := hid (domW_any W1 c D hc hok.1 gs 1 1 [(.bool iP, bP, dP)] [P] rfl (by decide) rfl (PtsV.one qgs) (by
  intro k a b d R h1 h2
  rcases k with _ | k
  ·simp at h1 h2
   obtain ⟨rfl, rfl, rfl⟩ := h1
   subst h2
   exact hP3
  ·simp at h1))
 have HOK := hid hok
 have Hhas := hid has
 clear has b0 s0 r0 b1 s1 r1 hbw qgP qgs hok hc hP hP3
 go_enter Try.func18, Try.ntmps18
 go_wp2_with fail
 refine HDW.out.mono ?_
 rintro e w1 (⟨vd, rfl, hvd, hall, hb1⟩ | ⟨rfl, ⟨R, hR, hRn⟩, hb1⟩)
 rotate_left
 ·exfalso
  simp only [List.mem_cons, List.not_mem_nil, or_false] at hR
  subst hR
  exact hRn Hhas.out
 ·skip
  obtain ⟨vp, vb, vn, vx, vy, rfl, k1, k2, k3, k4, k5⟩ := hvd
  obtain ⟨Ap, np, cp, rfl⟩ := k1.sl
  obtain ⟨Ab, nb, cb, rfl⟩ := k2.sl
  obtain ⟨An, nn, cn, rfl⟩ := k3.sl
  obtain ⟨Ax, nx, cx, rfl⟩ := k4.sl
  obtain ⟨Ay, ny, cy, rfl⟩ := k5.sl
  have HDM := hid (show Dm w1 _ D from ⟨_, _, _, _, _, rfl, k1, k2, k3, k4, k5⟩)
  obtain ⟨W5, e5, r5, b5, s5⟩ := newS w1 56 [.int .i64 0, .slice none 0 0, .slice none 0 0, .slice none 0 0, .bool false, .slice none 0 0, .slice none 0 0] _ rfl
  obtain ⟨g8, hg8⟩ : ∃ x, w1.heap.size = x := ⟨_, rfl⟩
  rw [hg8] at r5
  have HB5 := hid b5
  have HB1 := hid hb1
  have HG8 := hid (show W1.heap.size ≤ g8 by have := hb1.size; omega)
  have HNU := hid (NoU.of_row r5 (by intro v hv x; simp only [List.mem_cons, List.not_mem_nil, or_false] at hv; rcases hv with rfl | rfl | rfl | rfl | rfl | rfl | rfl <;> (intro h; cases h)))
  clear k1 k2 k3 k4 k5 hall hb1 b5 s5 p0 p1 p2 pp0 pp1 pp2
  go_wp2_with ((with_reducible show wpList _ _ _ (⟨none, _, _, _, _, _⟩ :: _) _ _); refine wlS_store rfl 56 7 Try.sizeDom _ _ rfl g8 [.int .i64 (D.size : Int), .slice Ap np cp, .slice Ab nb cb, .slice An nn cn, .bool false, .slice Ax nx cx, .slice Ay ny cy] rfl rfl 56 _ r5 rfl rfl (by intro v hv; simp only [List.mem_cons, List.not_mem_nil, or_false] at hv; rcases hv with rfl | rfl | rfl | rfl | rfl | rfl | rfl <;> rfl) ?_; intro w6 hr6 hg6 hz; have q6 := ((HRP.out.later HB1.out).later HB5.out).grown hg6 (by have := HG8.out; have := HGL.out; omega); have c0 := q6.at_ (i := 0) rfl; have c1 := q6.at_ (i := 1) rfl; have c2 := q6.at_ (i := 2) rfl)
  have hsb : Sb W5 w6 := ⟨g8, HNU.out, hg6⟩
  have HDM6 := hid ((HDM.out.later HB5.out).sb hsb)
  have HP6 := hid (((HPP.out.later HB1.out).later HB5.out).sb hsb)
  have HRP6 := hid (((HRP.out.later HB1.out).later HB5.out).grown hg6 (by have := HG8.out; have := HGL.out; omega))
  have HR8 := hid hr6
  have hbw1 := HB.out.trans (HB1.out.mono HB.out.size)
  have hbw5 := hbw1.trans (HB5.out.mono hbw1.size)
  have HBW := hid (below_grown hbw5 hg6 (by have := HG8.out; have := HGL.out; omega) hbw5.size)
  clear hsb hbw1 hbw5 HDM HB5 HB1 HPP HRP hr6 hg6 hz HNU
  refine (crof_any w6 _ P HP6.out).mono ?_
  rintro e w7 ⟨v7, rfl, hv7, hb7⟩
  obtain ⟨a, b, d, rfl, oa, ob, oc⟩ := (show ∃ a b d, v7 = .agg #[a, b, d] ∧ a.oneCell' = true ∧ b.oneCell' = true ∧ d.oneCell' = true by
   obtain ⟨a, b, d, rfl, q1, q2, q3⟩ := hv7
   exact ⟨a, b, d, rfl, q1.one, q2.one, q3.one⟩)
  obtain ⟨W9, e9, r9, b9, s9⟩ := newS w7 65 [.slice none 0 0, .slice none 0 0, .slice none 0 0] _ rfl
  obtain ⟨g9, hg9⟩ : ∃ x, w7.heap.size = x := ⟨_, rfl⟩
  rw [hg9] at r9
  have HV7 := hid (hv7.later b9)
  have HRD := hid ((HR8.out.later hb7).later b9)
  have HDD := hid ((HDM6.out.later hb7).later b9)
  have hb79 := HBW.out.trans (hb7.mono HBW.out.size)
  have HB9 := hid (hb79.trans (b9.mono hb79.size))
  have HNZ := hid (NoU.of_row r9 (noU3 nofun nofun nofun))
  have HG9 := hid (show w.heap.size ≤ g9 ∧ g8 ≠ g9 ∧ w.heap.size ≤ g8 by have := (HR8.out.later hb7).lt; have := hb79.size; have := HG8.out; have := HGL.out; omega)
  clear hv7 hb7 b9 s9 hb79 c0 c1 c2 q6
  go_wp2_with ((with_reducible show wpList _ _ _ (⟨none, _, _, _, _, _⟩ :: _) _ _); refine wlS_store rfl 65 3 Try.sizeRt _ _ rfl g9 [a, b, d] rfl rfl 65 _ r9 rfl rfl (ones3 oa ob oc) ?_; intro w10 hr10 hg10 hz)
  go_ret
  have hsb : Sb W9 w10 := ⟨g9, HNZ.out, hg10⟩
  exact ⟨g9, g8, a, b, d, _, rfl, hr10, HV7.out.sb hsb, HRD.out.grown hg10 HG9.out.2.1, HDD.out.sb hsb, HG9.out.1, HG9.out.2.2, below_grown HB9.out hg10 HG9.out.1 HB9.out.size⟩
theorem le_value (m N : Nat) : V 256 ((List.range m).map fun i => N / 256 ^ i % 256) = N % 256 ^ m := by
 induction m with
 | zero => simp [V, Nat.mod_one]
 | succ m ih =>
  rw [List.range_succ, List.map_append, V_append, ih, List.length_map, List.length_range, Nat.mod_pow_succ]
  simp [V]
theorem be_rev (m N : Nat) : (be m N).reverse = (List.range m).map fun i => N / 256 ^ i % 256 := by
 apply List.ext_getElem?
 intro t
 rcases Nat.lt_or_ge t m with h | h
 ·rw [List.getElem?_reverse (by rw [be_length]; exact h), be_length, be_get (by omega), show m - 1 - (m - 1 - t) = t by omega]
  simp [h]
 ·rw [List.getElem?_eq_none (by rw [List.length_reverse, be_length]; exact h), List.getElem?_eq_none (by simp [h])]
theorem be_value {m N : Nat} (h : N < 256 ^ m) : V 256 (be m N).reverse = N := by rw [be_rev, le_value, Nat.mod_eq_of_lt h]
theorem PtR.is {p : Nat} {T : Nat × Nat × Nat} {R : Option (Nat × Nat)} {i x y : Nat} (h : PtR p T R) (hp : 1 < p) (hi : i < p) (h1 : T.2.2 * i % p = 1) (hx : T.1 * i % p = x) (hy : T.2.1 * i % p = y) : R = some (x, y) := by
 rcases h with ⟨h0, rfl⟩ | ⟨h0, j, hj, h2, rfl⟩
 ·rw [h0, Nat.zero_mul, Nat.zero_mod] at h1
  omega
 ·obtain rfl := inverse_unique hj hi h2 h1
  rw [hx, hy]
def twoX : Nat := 0x7cf27b188d034f7e8a52380304b51ac3c08969e277f21b35a60b48fc47669978
def twoY : Nat := 0x7775510db8ed040293d9ac69f7430dbba7dade63ce982299e04b79d227873d1
theorem two_mul {R : Option (Nat × Nat)} {k0 : Nat} (hk : IsBits 2 k0) (h : PtR crv256.p (mlN crv256.p crv256.b (rtN (some (crv256.gx, crv256.gy))) 2 k0 k0) R) : R = some (twoX, twoY) := by
 obtain rfl : k0 = 2 := hk.unique ⟨by decide, by decide⟩
 exact h.is (by decide +kernel) (i := 0x3afc94969398d2d67af2fa276263bceaa28ad72c91b83f2befc0cc658c255db2) (by decide +kernel) (by decide +kernel) (by decide +kernel) (by decide +kernel)
theorem two_add {R : Option (Nat × Nat)} (h : PtR crv256.p (rcbN crv256.p crv256.b (rtN (some (crv256.gx, crv256.gy))) (rtN (some (crv256.gx, crv256.gy)))) R) : R = some (twoX, twoY) :=
 h.is (by decide +kernel) (i := 0x78a21857be9ed19cf9098f93af2019cdee30549945617199441a666635fbd920) (by decide +kernel) (by decide +kernel) (by decide +kernel) (by decide +kernel)
theorem has_g : hasN crv256.p crv256.b (some (crv256.gx, crv256.gy)) := by decide +kernel
theorem has_two : hasN crv256.p crv256.b (some (twoX, twoY)) := by decide +kernel
theorem numB_be : ∀ (n N : Nat), N < 256 ^ n → numB (beW n N) = N := by
 intro n N h
 have e : natsB (beW n N) = be n N := by
  unfold natsB beW
  rw [List.map_map]
  conv => rhs; rw [← List.map_id (be n N)]
  refine List.map_congr_left fun x hx => ?_
  have := be_lt n N x hx
  simp [BitVec.toNat_ofNat, Nat.mod_eq_of_lt this]
 unfold numB
 rw [e]
 exact be_value h
theorem nu_len {w : World} {v : Value} {k m : Nat} (h : Nu w v k) (h1 : b64 ^ m ≤ k) (h2 : k < b64 ^ (m + 1)) : ∃ A c, v = .slice A (m + 1) c := by
 obtain ⟨xs, A, n, c, rfl, hs, hn, _⟩ := h
 have l1 : xs.length ≤ m + 1 := hn.length_le (by decide) h2
 have l2 : ¬ xs.length ≤ m := fun hl => by
  have h3 := V_lt xs hn.1
  rw [hn.2.2] at h3
  have := Nat.pow_le_pow_right (show 0 < b64 by decide) hl
  omega
 have : n = m + 1 := by rw [hs.len]; omega
 subst this
 exact ⟨A, c, rfl⟩
theorem neq_nilIt (g g' : Nat) (w : World) : (binOp .neq 51 (.func (.func 37) #[] #[.pointer (some ⟨g, 0, none⟩), .pointer (some ⟨g', 0, none⟩)]) .nilFunc).run Try.prog w = .ok (.bool true) w := by kernel_rfl
theorem Pt.some_ {w : World} {v : Value} {x y : Nat} (h : Pt w v (some (x, y))) : ∃ a b, v = .agg #[.bool false, a, b] ∧ Nu w a x ∧ Nu w b y := h
theorem begun9_any (w : World) : Calls Try.prog 4 #[] w fun e w' => RetV w (.bool true) e w' := by
 have HB := hid (cBase_yes w 1 crv256 rfl)
 go_enter Try.func4, Try.ntmps4
 go_wp2_with fail
 refine HB.out.mono ?_
 rintro e w1 ⟨v, rfl, hv, hb1⟩
 obtain ⟨xg, yg, rfl, hxg, hyg⟩ := hv.some_
 obtain ⟨Ax, nx, cx, rfl⟩ := hxg.sl
 obtain ⟨Ay, ny, cy, rfl⟩ := hyg.sl
 obtain ⟨W1, e1, r1, b1, s1⟩ := newS w1 31 [.bool false, .slice none 0 0, .slice none 0 0] _ rfl
 obtain ⟨g1, hg1⟩ : ∃ x, w1.heap.size = x := ⟨_, rfl⟩
 rw [hg1] at r1
 have HN1 := hid (NoU.of_row r1 (noU3 nofun nofun nofun))
 have HV := hid (hv.later b1)
 have HB1 := hid (hb1.trans (b1.mono hb1.size))
 have HL1 := hid (show w.heap.size ≤ g1 by have := hb1.size; omega)
 clear hxg hyg hv hb1 b1 s1
 go_wp2_with ((with_reducible show wpList _ _ _ (⟨none, _, _, _, _, _⟩ :: _) _ _); refine wlS_store rfl 31 3 Try.sizePt _ _ rfl g1 [.bool false, .slice Ax nx cx, .slice Ay ny cy] rfl rfl 31 _ r1 rfl rfl (ones3 rfl rfl rfl) ?_; intro w2 hr2 hg2 hz; obtain ⟨Wk, ek, rk, bk, sk⟩ := newS w2 45 [.int .u64 2] _ rfl; obtain ⟨gk, hgk⟩ : ∃ x, W1.heap.size = x := ⟨_, rfl⟩; rw [hz, hgk] at rk; have hrk := hr2.later bk; have d0 := hrk.at_ (i := 0) rfl; have d1 := hrk.at_ (i := 1) rfl; have d2 := hrk.at_ (i := 2) rfl)
 have HZ2 := hid hz
 have HV2 := hid (HV.out.sb ⟨g1, HN1.out, hg2⟩)
 have HB2 := hid (below_grown HB1.out hg2 HL1.out HB1.out.size)
 have HR2 := hid hr2
 clear HV HB1 HN1 hr2 hg2 hz r1 e1 hg1
 have hvk : NumR Wk 64 2 (.slice (some ⟨gk, 0, none⟩) 1 1) := by
  refine ⟨[2], _, _, _, rfl, ⟨rfl, by decide, by decide, fun _ => ⟨gk, 0, rfl, rk.lt, fun k x hx => ?_⟩⟩, fun y hy => by simp at hy; subst hy; decide, rfl, by decide⟩
  rcases k with _ | k
  ·simp at hx
   subst hx
   exact rk.at_ rfl
  ·simp at hx
 have HVK := hid (HV2.out.later bk)
 have HRK := hid hrk
 have HBK := hid (HB2.out.trans (bk.mono HB2.out.size))
 have HML := hid (cMul_yes Wk 1 crv256 rfl (.slice (some ⟨gk, 0, none⟩) 1 1) (.agg #[.bool false, .slice Ax nx cx, .slice Ay ny cy]) 2 hvk (some (crv256.gx, crv256.gy)) HVK.out.pg has_g (by decide +kernel) (by decide +kernel) 2 (by decide +kernel))
 clear hvk rk bk sk hrk HV2 HR2 HB2
 refine HML.out.mono ?_
 rintro e w3 ⟨v, k0, rfl, hk0, ⟨R, hR, hPt⟩, hb3⟩
 obtain rfl := two_mul hk0 hR
 obtain ⟨x2, y2, rfl, hx2, hy2⟩ := hPt.some_
 obtain ⟨A2, n2, c2, rfl⟩ := hx2.sl
 obtain ⟨B2, m2, q2, rfl⟩ := hy2.sl
 obtain ⟨W4, e4, r4, b4, s4⟩ := newS w3 31 [.bool false, .slice none 0 0, .slice none 0 0] _ rfl
 obtain ⟨g4, hg4⟩ : ∃ x, w3.heap.size = x := ⟨_, rfl⟩
 rw [hg4] at r4
 have HN4 := hid (NoU.of_row r4 (noU3 nofun nofun nofun))
 have HP4 := hid (hPt.later b4)
 have HG4 := hid ((HVK.out.later hb3).later b4)
 have HR4 := hid ((HRK.out.later hb3).later b4)
 have hb34 := HBK.out.trans (hb3.mono HBK.out.size)
 have HB4 := hid (hb34.trans (b4.mono hb34.size))
 have HL4 := hid (show w.heap.size ≤ g4 ∧ g1 ≠ g4 by have := hb34.size; have := (HRK.out.later hb3).lt; omega)
 clear hk0 hR hPt hx2 hy2 hb3 hb34 b4 s4 d0 d1 d2 HML HVK HRK HBK ek hgk
 go_wp2_with ((with_reducible show wpList _ _ _ (⟨none, _, _, _, _, _⟩ :: _) _ _); refine wlS_store rfl 31 3 Try.sizePt _ _ rfl g4 [.bool false, .slice A2 n2 c2, .slice B2 m2 q2] rfl rfl 31 _ r4 rfl rfl (ones3 rfl rfl rfl) ?_; intro w5 hr5 hg5 hz; have t1 := HR4.out.grown hg5 HL4.out.2; have d0 := t1.at_ (i := 0) rfl; have d1 := t1.at_ (i := 1) rfl; have d2 := t1.at_ (i := 2) rfl)
 have hsb5 : Sb W4 w5 := ⟨g4, HN4.out, hg5⟩
 have HP5 := hid (HP4.out.sb hsb5)
 have HG5 := hid (HG4.out.sb hsb5)
 have HB5 := hid (below_grown HB4.out hg5 HL4.out.1 HB4.out.size)
 have HR15 := hid t1
 have HR45 := hid hr5
 have HAD := hid (cAdd_yes w5 1 crv256 rfl _ _ _ _ HG5.out.pg HG5.out.pg has_g has_g)
 clear hsb5 hr5 hg5 hz t1 HP4 HG4 HR4 HB4 HN4 r4 e4 hg4
 refine HAD.out.mono ?_
 rintro e w6 ⟨v, rfl, ⟨R, hR, hPt⟩, hb6⟩
 obtain rfl := two_add hR
 obtain ⟨x3, y3, rfl, hx3, hy3⟩ := hPt.some_
 obtain ⟨A3, n3, c3, rfl⟩ := hx3.sl
 obtain ⟨B3, m3, q3, rfl⟩ := hy3.sl
 obtain ⟨W7, e7, r7, b7, s7⟩ := newS w6 31 [.bool false, .slice none 0 0, .slice none 0 0] _ rfl
 obtain ⟨g7, hg7⟩ : ∃ x, w6.heap.size = x := ⟨_, rfl⟩
 rw [hg7] at r7
 have HN7 := hid (NoU.of_row r7 (noU3 nofun nofun nofun))
 have HQ7 := hid (hPt.later b7)
 have HP7 := hid ((HP5.out.later hb6).later b7)
 have HG7 := hid ((HG5.out.later hb6).later b7)
 have HR17 := hid ((HR15.out.later hb6).later b7)
 have HR47 := hid ((HR45.out.later hb6).later b7)
 have hb56 := HB5.out.trans (hb6.mono HB5.out.size)
 have HB7 := hid (hb56.trans (b7.mono hb56.size))
 have HL7 := hid (show w.heap.size ≤ g7 ∧ g1 ≠ g7 ∧ g4 ≠ g7 by have := hb56.size; have := (HR15.out.later hb6).lt; have := (HR45.out.later hb6).lt; omega)
 clear hR hPt hx3 hy3 hb6 hb56 b7 s7 d0 d1 d2 HAD HP5 HG5 HB5 HR15 HR45
 go_wp2_with ((with_reducible show wpList _ _ _ (⟨none, _, _, _, _, _⟩ :: _) _ _); refine wlS_store rfl 31 3 Try.sizePt _ _ rfl g7 [.bool false, .slice A3 n3 c3, .slice B3 m3 q3] rfl rfl 31 _ r7 rfl rfl (ones3 rfl rfl rfl) ?_; intro w8 hr8 hg8 hz; have t4 := HR47.out.grown hg8 HL7.out.2.2; have d0 := t4.at_ (i := 0) rfl; have d1 := t4.at_ (i := 1) rfl; have d2 := t4.at_ (i := 2) rfl)
 have hsb8 : Sb W7 w8 := ⟨g7, HN7.out, hg8⟩
 have HQ8 := hid (HQ7.out.sb hsb8)
 have HP8 := hid (HP7.out.sb hsb8)
 have HG8 := hid (HG7.out.sb hsb8)
 have HB8 := hid (below_grown HB7.out hg8 HL7.out.1 HB7.out.size)
 have HR18 := hid (HR17.out.grown hg8 HL7.out.2.1)
 have HR48 := hid t4
 have HR78 := hid hr8
 have HEN := hid (cEnc_yes w8 1 crv256 rfl _ _ HP8.out.pg twoX twoY rfl has_two (by decide) (by decide) (by decide +kernel))
 clear hsb8 hr8 hg8 hz t4 HQ7 HP7 HG7 HB7 HR17 HR47 HN7 r7 e7 hg7
 refine HEN.out.mono ?_
 rintro e w9 ⟨v, rfl, hown, hb9⟩
 obtain ⟨Ae, ce, rfl, hse, -, hne⟩ := SlV.of_own hown
 have hl65 : (encN crv256.size (some (twoX, twoY))).length = 65 := by simp [encN, beW, be_length, crv256]
 rw [hl65] at hse
 obtain ⟨be, oe, _, rfl, _, _, _⟩ := hse.at_ (k := 0) (by decide)
 have henc : encN crv256.size (some (twoX, twoY)) = 4 :: (beW 32 twoX ++ beW 32 twoY) := rfl
 rw [henc] at hse
 have HSE := hid hse
 have hlx : (beW 32 twoX).length = 32 := by simp [beW, be_length]
 have HDE := hid (cDec_good w9 1 crv256 rfl be oe 65 ce 4 (beW 32 twoX ++ beW 32 twoY) hse (by decide) rfl rfl (by decide) twoX twoY
  (by rw [show crv256.size = 32 from rfl, List.take_left' hlx]; exact numB_be 32 twoX (by decide +kernel))
  (by rw [show crv256.size = 32 from rfl, List.drop_left' hlx]; exact numB_be 32 twoY (by decide +kernel)) has_two)
 rw [hl65]
 have HB9 := hid (HB8.out.trans (hb9.mono HB8.out.size))
 have HQ9 := hid (HQ8.out.later hb9)
 have HG9 := hid (HG8.out.later hb9)
 have HR19 := hid (HR18.out.later hb9)
 have HR79 := hid (HR78.out.later hb9)
 clear hown hb9 hne hse henc hl65 hlx d0 d1 d2 HEN HQ8 HP8 HG8 HB8 HR18 HR48 HR78
 go_wp2_with fail
 refine HDE.out.mono ?_
 rintro e w10 ⟨v, rfl, hPt, hb10⟩
 obtain ⟨x5, y5, rfl, hx5, hy5⟩ := hPt.some_
 obtain ⟨A5, c5, rfl⟩ := nu_len hx5 (m := 3) (by decide +kernel) (by decide +kernel)
 obtain ⟨B5, m5, q5, rfl⟩ := hy5.sl
 obtain ⟨W11, e11, r11, b11, s11⟩ := newS w10 31 [.bool false, .slice none 0 0, .slice none 0 0] _ rfl
 obtain ⟨g11, hg11⟩ : ∃ x, w10.heap.size = x := ⟨_, rfl⟩
 rw [hg11] at r11
 have HQ11 := hid ((HQ9.out.later hb10).later b11)
 have HG11 := hid ((HG9.out.later hb10).later b11)
 have HR111 := hid ((HR19.out.later hb10).later b11)
 have HR711 := hid ((HR79.out.later hb10).later b11)
 have hb910 := HB9.out.trans (hb10.mono HB9.out.size)
 have HB11 := hid (hb910.trans (b11.mono hb910.size))
 have HN11 := hid (NoU.of_row r11 (noU3 nofun nofun nofun))
 have HL11 := hid (show w.heap.size ≤ g11 ∧ g1 ≠ g11 ∧ g7 ≠ g11 by have := hb910.size; have := (HR19.out.later hb10).lt; have := (HR79.out.later hb10).lt; omega)
 clear hPt hx5 hy5 hb10 hb910 b11 s11 HDE HQ9 HG9 HB9 HR19 HR79 HSE
 go_wp2_with ((with_reducible show wpList _ _ _ (⟨none, _, _, _, _, _⟩ :: _) _ _); refine wlS_store rfl 31 3 Try.sizePt _ _ rfl g11 [.bool false, .slice A5 4 c5, .slice B5 m5 q5] rfl rfl 31 _ r11 rfl rfl (ones3 rfl rfl rfl) ?_; intro w12 hr12 hg12 hz; have t1 := HR111.out.grown hg12 HL11.out.2.1; have d0 := t1.at_ (i := 0) rfl; have d1 := t1.at_ (i := 1) rfl; have d2 := t1.at_ (i := 2) rfl)
 have hsb12 : Sb W11 w12 := ⟨g11, HN11.out, hg12⟩
 have HQ12 := hid (HQ11.out.sb hsb12)
 have HG12 := hid (HG11.out.sb hsb12)
 have HB12 := hid (below_grown HB11.out hg12 HL11.out.1 HB11.out.size)
 have HR712 := hid (HR711.out.grown hg12 HL11.out.2.2)
 have HR1112 := hid hr12
 have HMU := hid (cMult_yes w12 1 crv256 rfl _ _ HG12.out.pg has_g)
 clear hsb12 hr12 hg12 hz t1 HQ11 HG11 HB11 HR111 HR711 HN11 r11 e11 hg11
 refine HMU.out.mono ?_
 rintro e w13 ⟨g7', g5', a', b', d', dd, rfl, -, -, -, -, -, -, hb13⟩
 have HQ13 := hid (HQ12.out.later hb13)
 have hr713 := HR712.out.later hb13
 have h70 := hr713.at_ (i := 0) rfl
 have h71 := hr713.at_ (i := 1) rfl
 have h72 := hr713.at_ (i := 2) rfl
 have HR1113 := hid (HR1112.out.later hb13)
 have HB13 := hid (HB12.out.trans (hb13.mono HB12.out.size))
 have hnil := neq_nilIt g7' g5' w13
 have HON := hid (cOn_yes w13 1 crv256 rfl _ _ HQ13.out.pg)
 clear hb13 hr713 d0 d1 d2 HMU HQ12 HG12 HB12 HR712 HR1112
 go_wp2_with fail
 refine HON.out.mono ?_
 rintro e w14 ⟨rfl, hb14⟩
 have hdec : decide (hasN crv256.p crv256.b (some (twoX, twoY))) = true := decide_eq_true has_two
 rw [hdec]
 have h8 := HR1113.out.later hb14
 have h81 := h8.at_ (i := 1) rfl
 have HB14 := hid (HB13.out.trans (hb14.mono HB13.out.size))
 have HSI := hid (cSize_yes w14 2 crv384 rfl)
 clear hnil hdec h8 hb14 h70 h71 h72 HON HQ13 HR1113
 go_wp2_with fail
 refine HSI.out.mono ?_
 rintro e w15 ⟨rfl, hb15⟩
 have HB15 := hid (HB14.out.trans (hb15.mono HB14.out.size))
 have HOR := hid (cOrder_yes w15 1 crv256 rfl)
 have e48 : ((crv384.size : Nat) : Int) = 48 := rfl
 rw [e48]
 clear hb15 h81 HSI e48
 go_wp2_with fail
 refine HOR.out.mono ?_
 rintro e w16 ⟨v, rfl, hv, hb16⟩
 obtain ⟨A6, c6, rfl⟩ := nu_len hv (m := 3) (by decide +kernel) (by decide +kernel)
 have HB16 := hid (HB15.out.trans (hb16.mono HB15.out.size))
 clear hv hb16 HOR
 go_wp2
 go_ret
 exact ⟨rfl, HB16.out⟩
end Go.Proofs.Ytbejcollbkeedaa
namespace Go.Proofs.Ytbejcollbkeedaa
open Lean.Grind Cw
theorem rl256 : rootless crv256.p crv256.b 256 (0xa969487079f1744798bf0de6fded091b66e9d328eb0645fe5d979d1339b7f47f, 0xa4a08891884100c13323460107a8d28eede4387fa3e6e9bfebec9f6d72d0b5cc, 0x4cde11cf86cb876cd59cf0115813c55af0ecd3cda667d98bb9a347a56aa74a6d) = true := by decide +kernel
theorem rl384 : rootless crv384.p crv384.b 384 (0x95adec811ebe8d4b9e2b41150d78f91a619189a415583b8f5e01888da3353b61765cde8cd6c12846310c3f0c10aae682, 0x3581b884702fb0931c541a5cacefbe3bea864db86e01e048170560418dca3aa8689f246d9d11ccd2e145532dd48491af, 0x4efcebfdccd7cb25d1b864228f0c32d3a83ec026134ae4753bdff5d3f1fa20b278b31dc3487beb792024fe436f36b43a) = true := by decide +kernel
theorem crv_two {c : Int} {D : Crv} (h : crvOf c = some D) : D = crv256 ∨ D = crv384 := by
 unfold crvOf at h
 split at h
 ·exact .inl (Option.some.inj h).symm
 ·split at h
  ·exact .inr (Option.some.inj h).symm
  ·cases h
theorem crv_cv {c : Int} {D : Crv} (h : crvOf c = some D) : ∃ (_ : NeZero D.p), Nonempty (Cv (Fin D.p) (zp D.p D.b)) := by
 rcases crv_two h with rfl | rfl
 ·haveI : NeZero crv256.p := ⟨by decide +kernel⟩
  exact ⟨this, ⟨cvOf (p := crv256.p) (b := crv256.b) (L := 256) prime_p256 (by decide +kernel) rl256⟩⟩
 ·haveI : NeZero crv384.p := ⟨by decide +kernel⟩
  exact ⟨this, ⟨cvOf (p := crv384.p) (b := crv384.b) (L := 384) prime_p384 (by decide +kernel) rl384⟩⟩
theorem bp_of (p : Nat) (h8 : 8 < p) (h : p < b64 ^ 6) : Bp p := by
 refine ⟨by omega, h8, ?_⟩
 have h1 : b64 ^ 6 + b64 ^ 6 < b32 ^ 4096 := by decide +kernel
 omega
theorem crv_lims {c : Int} {D : Crv} (h : crvOf c = some D) : Bp D.p ∧ 8 < D.p ∧ D.p < b64 ^ 6 ∧ D.b < D.p ∧ D.gx < D.p ∧ D.gy < D.p ∧ IsP D.p ∧ 1 < D.n ∧ D.n < b64 ^ 6 ∧ ¬ ((D.size : Int) = 0) := by
 rcases crv_two h with rfl | rfl
 ·exact ⟨bp_of _ (by decide +kernel) (by decide +kernel), by decide +kernel, by decide +kernel, by decide +kernel, by decide +kernel, by decide +kernel, prime_p256, by decide +kernel, by decide +kernel, by decide⟩
 ·exact ⟨bp_of _ (by decide +kernel) (by decide +kernel), by decide +kernel, by decide +kernel, by decide +kernel, by decide +kernel, by decide +kernel, prime_p384, by decide +kernel, by decide +kernel, by decide⟩
theorem has_base {c : Int} {D : Crv} (h : crvOf c = some D) : hasN D.p D.b (some (D.gx, D.gy)) := by
 rcases crv_two h with rfl | rfl
 ·decide +kernel
 ·decide +kernel
end Go.Proofs.Ytbejcollbkeedaa
namespace Go.Proofs.Ytbejcollbkeedaa
open Lean.Grind Cw
theorem ord256 : (mlN crv256.p crv256.b (rtN (some (crv256.gx, crv256.gy))) crv256.n 256 256).2.2 = 0 := by decide +kernel
theorem ord384 : (mlN crv384.p crv384.b (rtN (some (crv384.gx, crv384.gy))) crv384.n 384 384).2.2 = 0 := by decide +kernel
theorem stands_none {K : Type} [CommRing K] {T : K × K × K} {P : Option (K × K)} (h : Stands T P) (h0 : T.2.2 = 0) : P = none := by
 rcases P with _ | ⟨x, y⟩
 ·rfl
 ·exact absurd h0 h.1
theorem mg_of_ml {p : Nat} [NeZero p] {b : Nat} (C : Cv (Fin p) (zp p b)) (hp3 : 3 ≤ p) (hb : b < p) {P : Option (Nat × Nat)} (hP : hasN p b P) {r k0 : Nat} (hr : r < 2 ^ k0) (h : (mlN p b (rtN P) r k0 k0).2.2 = 0) : C.mg (lfp p P) r = none := by
 have hs := ml_stands C hp3 hb hP hr k0 (Nat.le_refl _)
 rw [Nat.sub_self, Nat.pow_zero, Nat.div_one] at hs
 refine stands_none hs ?_
 show zp p _ = 0
 rw [h, zp_0]
theorem crv_ord {c : Int} {D : Crv} (h : crvOf c = some D) [NeZero D.p] (C : Cv (Fin D.p) (zp D.p D.b)) : C.mg (lfp D.p (some (D.gx, D.gy))) D.n = none := by
 obtain ⟨hbp, h8, hp, hb, -, -, -, -, -, -⟩ := crv_lims h
 have hg := has_base h
 have ho : ∃ k0, D.n < 2 ^ k0 ∧ (mlN D.p D.b (rtN (some (D.gx, D.gy))) D.n k0 k0).2.2 = 0 := by
  clear hg hbp h8 hp hb C
  rcases crv_two h with rfl | rfl
  ·exact ⟨256, by decide +kernel, ord256⟩
  ·exact ⟨384, by decide +kernel, ord384⟩
 obtain ⟨k0, h1, h2⟩ := ho
 exact mg_of_ml C (by omega) hb hg h1 h2
section
variable {p : Nat} [NeZero p] {b : Nat} (C : Cv (Fin p) (zp p b))
include C
omit C
include C
end
end Go.Proofs.Ytbejcollbkeedaa
