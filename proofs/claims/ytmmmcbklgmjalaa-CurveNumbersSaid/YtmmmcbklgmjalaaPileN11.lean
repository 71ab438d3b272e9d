/- Parts of one proof, joined: ModX, Box, ModE, CuM, CuN, Open8, CuV, CuW, RvA, RvB. -/
import Derived.Test.YtmmmcbklgmjalaaPileN4
import Derived.Test.YtmmmcbklgmjalaaPileN5
import Derived.Test.YtmmmcbklgmjalaaPileN2
import Derived.RangeFuncBox
import Derived.Deep.RegionHeld3
import Derived.Test.YtmmmcbklgmjalaaPileN9
import Derived.Test.YtmmmcbklgmjalaaPileN10
import Derived.Test.YtmmmcbklgmjalaaPileN1

/- limb.Each's iterator, where the body writes above n₀ (but neither the iterator's box nor its number). -/
namespace Go.Proofs.Ytmmmcbklgmjalaa
open Go.RowKit Go.Shelf
attribute [local go_sem] Oper.semAt_some

def KpX (n₀ Bs : Nat) (A : Option Addr) (n c : Nat) (xs : List Nat) (W W' : World) : Prop := Below n₀ W W' ∧ W'.heap[Bs]? = W.heap[Bs]? ∧ (Sl W W.heap.size A n c xs → Sl W' W'.heap.size A n c xs)
theorem KpX.refl (n₀ Bs : Nat) (A : Option Addr) (n c : Nat) (xs : List Nat) (W : World) : KpX n₀ Bs A n c xs W W := ⟨Below.refl _ _, rfl, fun h => h⟩
theorem KpX.trans {n₀ Bs n c : Nat} {A : Option Addr} {xs : List Nat} {X Y Z : World} (h : KpX n₀ Bs A n c xs X Y) (k : KpX n₀ Bs A n c xs Y Z) : KpX n₀ Bs A n c xs X Z :=
  ⟨h.1.trans k.1, k.2.1.trans h.2.1, fun hs => k.2.2 (h.2.2 hs)⟩
theorem KpX.put {n₀ Bs n c : Nat} {A : Option Addr} {xs : List Nat} {w : World} (hn : n₀ ≤ w.heap.size) (hb : Bs < w.heap.size) (W : World) (l : Nat) (o o' : Obj) (hl : w.heap.size ≤ l) (h : W.heap[l]? = some o) (hc : o.isCells = false) (hw : o.isWalk = false) : KpX n₀ Bs A n c xs W (W.putObj l o') := by
  have k := KpB.put hn hb W l o o' hl h hc hw
  refine ⟨k.1, k.2, fun hs => ?_⟩
  have hz : (W.putObj l o').heap.size = W.heap.size := by simp [World.putObj]
  rw [hz]
  exact hs.kept (grownBy_putObj' W l o') (fun r e => by cases e; exact ⟨_, h, hc⟩)

set_option maxRecDepth 100000 in
set_option maxHeartbeats 2000000 in
theorem each1X_in (nn : Nat) (hn : 1 ≤ nn) (l Bs n₀ n c : Nat) (A : Option Addr) (xs : List Nat) (k0 : Nat) (hk0 : IsBits (V b64 xs) k0) (hd : Dg b64 xs) (hk1 : k0 ≤ 4611686018427387904) (hn1 : n ≤ 17592186044416) (J Jx : List (Ix k0) → World → Prop)
    (hY : ∀ pre x W, J pre W → pre.length < k0 → YieldAt Fence.wide (nn - 1) Try.prog l (encE (V b64 xs) k0 x) W fun e W' =>
      (e = .returned (.bool true) ∧ J (pre ++ [x]) W' ∧ KpX n₀ Bs A n c xs W W') ∨ (e = .returned (.bool false) ∧ Jx (pre ++ [x]) W'))
    (W : World) (hBs : W.cell? ⟨Bs, 0, none⟩ = some (.slice A n c)) (hs : Sl W W.heap.size A n c xs) (h0 : J [] W) :
    CallsIn Fence.wide nn Try.prog 49 #[.func (.yield l) #[] #[], .pointer (some ⟨Bs, 0, none⟩)] W fun e W' => (∃ v, e = .returned v) ∧
      ((∃ ys : List (Ix k0), ys.map (·.1) = downL k0 k0 ∧ J ys W') ∨ (∃ pre : List (Ix k0), (∃ k, k ≤ k0 ∧ pre.map (·.1) = downL k0 k) ∧ Jx pre W')) := by
  refine callsIn_of_wp Try.func49 rfl trivial ?_ rfl
  simp only [Try.ntmps49, List.size_toArray, List.length_cons, List.length_nil, Nat.reduceAdd, Nat.reduceSub, Array.replicate_succ, Array.replicate_zero, List.push_toArray, List.append_toArray, List.nil_append, List.cons_append]
  gi_wp2_with (refine ⟨trivial, ?_⟩; gi_at_call 28; refine (callsIn_wide.2 (bits_any W W.heap.size A n c xs hs hd hn1)).mono ?_; rintro e W' ⟨k1, rfl, hk, rfl⟩; obtain rfl := hk0.unique hk; clear hk)
  gi_loopw [3] (fun i wr => ∃ (m : Nat) (pre : List (Ix k0)), m ≤ k0 ∧ i = .int .i64 ((m : Int) - 1) ∧ pre.map (·.1) = downL k0 (k0 - m) ∧ J pre wr ∧ KpX n₀ Bs A n c xs W wr)
    (fun i _ => (intOf i + 1).toNat)
  case atStart => exact ⟨k0, [], Nat.le_refl _, rfl, by simp [downL], h0, KpX.refl _ _ _ _ _ _ _⟩
  case round =>
    obtain ⟨m, pre, hm, rfl, hpre, hJs, hnx⟩ := hrel
    have HP := Lib.hid hpre
    clear hpre
    by_cases hm0 : m = 0
    · subst hm0
      gi_wp2
      go_end0
      exact ⟨⟨_, rfl⟩, .inl ⟨pre, HP.out, hJs⟩⟩
    · obtain ⟨t, rfl⟩ : ∃ t, m = t + 1 := ⟨m - 1, by omega⟩
      have hBc : wr.cell? ⟨Bs, 0, none⟩ = some (.slice A n c) := (World.cell?_of_block (a := ⟨Bs, 0, none⟩) hnx.2.1).trans hBs
      have hsr := hnx.2.2 hs
      have hpl : pre.length < k0 := by
        have := congrArg List.length HP.out
        rw [List.length_map, downL_length] at this
        omega
      obtain ⟨fn, tmps, assign, body, hy, hR⟩ := hY pre ⟨t, by omega⟩ wr hJs hpl
      dsimp only [encE] at hy
      obtain ⟨bv, hbv⟩ : ∃ bv, V b64 xs / 2 ^ t % 2 = bv := ⟨_, rfl⟩
      have hbt := bit_any wr wr.heap.size A n c xs hsr hd t (by omega)
      rw [hbv] at hy hbt
      have HBT := Lib.hid hbt
      clear hbt hbv
      have ht0 : (0 : Int) ≤ ((t + 1 : Nat) : Int) - 1 := by omega
      gi_wp2_with (refine ⟨trivial, ?_⟩; gi_at_call 50; refine (callsIn_wide.2 HBT.out).mono ?_; rintro e W' ⟨rfl, rfl⟩)
      refine hR.mono ?_
      rintro e W3 (⟨rfl, hJ3, hk3⟩ | ⟨rfl, hJx3⟩)
      · gi_wp2
        go_roundw
        case rel => exact ⟨t, pre ++ [⟨t, by omega⟩], by omega, by go_num, by rw [List.map_append, HP.out, show k0 - t = (k0 - (t + 1)) + 1 by omega, downL_succ]; simp; omega, hJ3, hnx.trans hk3⟩
        case measure => simp [intOf]
      · gi_wp2
        refine bodyPost_ret (results_none rfl _ _ _) rfl ?_
        exact ⟨⟨_, rfl⟩, .inr ⟨_, ⟨k0 - t, by omega, by rw [List.map_append, HP.out, show k0 - t = (k0 - (t + 1)) + 1 by omega, downL_succ]; simp; omega⟩, hJx3⟩⟩

theorem eachX_stops (nn : Nat) (hn : 1 ≤ nn) (Bs n₀ n c : Nat) (A : Option Addr) (xs : List Nat) (k0 : Nat) (hk0 : IsBits (V b64 xs) k0) (hd : Dg b64 xs) (hk1 : k0 ≤ 4611686018427387904) (hn1 : n ≤ 17592186044416) (w : World) (hBs : Bs < w.heap.size) 
    (hc : w.cell? ⟨Bs, 0, none⟩ = some (.slice A n c)) (hI : Sl w w.heap.size A n c xs) :
    SeqStopsK Fence.wide nn Try.prog 49 #[.pointer (some ⟨Bs, 0, none⟩)] (encE (V b64 xs) k0) (KpX n₀ Bs A n c xs) (fun ys => ys.map (·.1) = downL k0 k0) (fun pre => ∃ k, k ≤ k0 ∧ pre.map (·.1) = downL k0 k) k0 w := fun l J Jx W hW _ _ hY h0 => by
  have hc' := (hW.cell (p := ⟨Bs, 0, none⟩) hBs).trans hc
  exact each1X_in nn hn l Bs n₀ n c A xs k0 hk0 hd hk1 hn1 J Jx hY W hc' (hI.later hW (Nat.le_refl _)) h0


set_option maxRecDepth 100000 in
set_option maxHeartbeats 800000 in
/-- Each boxes a copy in a new block. -/
theorem each_new (w : World) (B : Nat) (A : Option Addr) (n c : Nat) (xs : List Nat) (hs : Sl w B A n c xs) (hd : Dg b64 xs) (hn : n ≤ 17592186044416) :
    Calls Try.prog 31 #[.slice A n c] w fun e w' => ∃ g A2 n2 c2 ys, e = .returned (.func (.func 49) #[] #[.pointer (some ⟨g, 0, none⟩)]) ∧ Nm b64 ys (V b64 xs) ∧ g < w'.heap.size ∧ w.heap.size ≤ g ∧ w'.cell? ⟨g, 0, none⟩ = some (.slice A2 n2 c2) ∧ Sl w' w'.heap.size A2 n2 c2 ys ∧ Below w.heap.size w w' := by
  go_enter Try.func31, Try.ntmps31
  go_wp2_with (go_at_call 48; refine (norm_any w B A n c xs hs hd hn).mono ?_; rintro e w1 ⟨ys, hN, A2, n2, c2, rfl, hs2, hb⟩)
  go_ret
  refine ⟨w1.heap.size, A2, n2, c2, ys, rfl, hN, by simp, hb.size, by simp, ?_, hb.alloc hb.size _⟩
  exact (hs2.below ((Below.refl _ w1).alloc (Nat.le_refl _) _)).more (by simp)
end Go.Proofs.Ytmmmcbklgmjalaa

/- Boxes: variables that live in a block of their own. -/
set_option linter.unusedVariables false
set_option linter.unusedSimpArgs false
namespace Go.Proofs.Ytmmmcbklgmjalaa
open Go.RowKit

theorem newboxE (w : World) (t : TypeId) (v : Value) : ∃ W, w.alloc (.cells #[v] t) = W ∧ Below w.heap.size w W ∧ W.cell? ⟨w.heap.size, 0, none⟩ = some v ∧ W.frozen? ⟨w.heap.size, 0, none⟩ = false ∧ W.heap.size = w.heap.size + 1 :=
  ⟨_, rfl, (Below.refl _ _).alloc (Nat.le_refl _) _, (Boxed.new w t v).cell, (Boxed.new w t v).frozen, by simp⟩
/-- a box below the heap's end holds v -/
def BxE (b : Nat) (v : Value) (W : World) : Prop := W.cell? ⟨b, 0, none⟩ = some v ∧ W.frozen? ⟨b, 0, none⟩ = false ∧ b < W.heap.size
theorem BxE.later {b : Nat} {v : Value} {W W' : World} (h : BxE b v W) (hb : Below W.heap.size W W') : BxE b v W' :=
  ⟨(hb.cell (p := ⟨b, 0, none⟩) h.2.2).trans h.1, (hb.frozen (p := ⟨b, 0, none⟩) h.2.2).trans h.2.1, Nat.lt_of_lt_of_le h.2.2 hb.size⟩

theorem newBox (w : World) (t : TypeId) (v : Value) : ∃ W, w.alloc (.cells #[v] t) = W ∧ Below w.heap.size w W ∧ BxE w.heap.size v W ∧ W.heap.size = w.heap.size + 1 := by
  obtain ⟨W, e, h, h1, h2, h3⟩ := newboxE w t v
  exact ⟨W, e, h, ⟨h1, h2, by omega⟩, h3⟩
theorem below_drewR (B : Nat) (w : World) (n : Nat) : Below B w (w.drewN n) := ⟨rfl, rfl, rfl, Nat.le_refl _, fun _ _ => rfl⟩
theorem below_box {B : Nat} {a w : World} (h : Below B a w) {b : Nat} (hb : B ≤ b) (u : Value) : Below B a (w.setCell ⟨b, 0, none⟩ u) := h.setCell (p := ⟨b, 0, none⟩) hb u
theorem BxE.set {b : Nat} {v : Value} {W : World} (h : BxE b v W) (u : Value) : BxE b u (W.setCell ⟨b, 0, none⟩ u) :=
  ⟨World.cell?_setCell_same' _ _ _ (by rw [h.1]; rfl), by rw [World.frozen?_setCell]; exact h.2.1, by have := h.2.2; simpa [World.setCell] using this⟩
theorem BxE.far {b b' : Nat} {v : Value} {W : World} (h : BxE b v W) (hn : b' ≠ b) (u : Value) : BxE b v (W.setCell ⟨b', 0, none⟩ u) :=
  ⟨by rw [World.cell?_setCell_other _ _ _ _ (fun e => hn (by injection e))]; exact h.1, by rw [World.frozen?_setCell]; exact h.2.1, by have := h.2.2; simpa [World.setCell] using this⟩
theorem BxE.kept {b : Nat} {v : Value} {A B' : World} (h : BxE b v A) {row : Option Nat} (hg : A.grownBy B' row) (hr : ∀ r, row = some r → ∃ o : Obj, A.heap[r]? = some o ∧ o.isCells = false) : BxE b v B' :=
  ⟨cell_kept h.1 hg hr, (frozen_kept h.1 hg hr).trans h.2.1, Nat.lt_of_lt_of_le h.2.2 hg.size⟩
theorem BxE.new (w : World) (t : TypeId) (v : Value) : BxE w.heap.size v (w.alloc (.cells #[v] t)) := by
  obtain ⟨W, rfl, _, h1, h2, h3⟩ := newboxE w t v
  exact ⟨h1, h2, by omega⟩
theorem BxE.drewN {b : Nat} {v : Value} {W : World} (h : BxE b v W) (n : Nat) : BxE b v (W.drewN n) := h
theorem SlV.setFar {w : World} {B n c : Nat} {A : Option Addr} {vs : List Value} (h : SlV w B A n c vs) {b : Nat} (hb : B ≤ b) (u : Value) : SlV (w.setCell ⟨b, 0, none⟩ u) B A n c vs :=
  h.below ((Below.refl B w).setCell (p := ⟨b, 0, none⟩) hb u)
end Go.Proofs.Ytmmmcbklgmjalaa

/- modarith: Exp. -/
namespace Go.Proofs.Ytmmmcbklgmjalaa
open Go.RowKit Go.Shelf
attribute [local go_sem] Oper.semAt_some

theorem bits_ex (N : Nat) : ∃ k, IsBits N k := by
  have h : ∀ m, N < 2 ^ m → ∃ k, IsBits N k := by
    intro m
    induction m with
    | zero => intro h; exact ⟨0, h, fun h => absurd rfl h⟩
    | succ m ih =>
      intro h
      rcases Nat.lt_or_ge N (2 ^ m) with h1 | h1
      · exact ih h1
      · exact ⟨m + 1, h, fun _ => h1⟩
  exact h N Nat.lt_two_pow_self
theorem lg_mono {q a b : Nat} (h : Lg q a) (hab : a ≤ b) : Lg q b := Nat.le_trans h hab
/-- a call, and its result stored into the box -/
structure ExSt (W W9 : World) (g g5 : Nat) (v : Value) : Prop where
  kf : ∀ B, KeepsFrom B W W9
  bel : Below g W W9
  kp : ∀ A n c xs, KpX g g5 A n c xs W W9
  cell : W9.cell? ⟨g, 0, none⟩ = some v
  fr : W9.frozen? ⟨g, 0, none⟩ = false
  lt : g < W9.heap.size
  lt5 : g5 < W9.heap.size
theorem exSt {W w8 W9 : World} {g g5 nq cq : Nat} {Aq : Option Addr} {v : Value} (hb : Below W.heap.size W w8) (e1 : W.cell? ⟨g, 0, none⟩ = some (.slice Aq nq cq)) (e2 : W.frozen? ⟨g, 0, none⟩ = false) (hg : g < W.heap.size) (h5 : g5 < W.heap.size) (hne : g < g5) (e9 : w8.setCell ⟨g, 0, none⟩ v = W9) :
    ExSt W W9 g g5 v ∧ W9.heap.size = w8.heap.size ∧ (∀ A n c xs, Sl w8 w8.heap.size A n c xs → Sl W9 W9.heap.size A n c xs) := by
  have cg := (hb.cell (p := ⟨g, 0, none⟩) hg).trans e1
  have fg := (hb.frozen (p := ⟨g, 0, none⟩) hg).trans e2
  have hno : ∀ x : Nat, w8.cell? ⟨g, 0, none⟩ ≠ some (.int .u64 (x : Int)) := fun x h => by rw [cg] at h; cases h
  have hz : W9.heap.size = w8.heap.size := by rw [← e9]; simp [World.setCell]
  have hsl : ∀ A n c xs, Sl w8 w8.heap.size A n c xs → Sl W9 W9.heap.size A n c xs := fun A n c xs h => by
    rw [hz, ← e9]; exact h.setOther hno _
  have hk : KeepsOthers w8 W9 := by rw [← e9]; exact KeepsOthers.setCell _ _ _
  have hbg : Below g W W9 := (hb.mono (Nat.le_of_lt hg)).trans (by rw [← e9]; exact (Below.refl _ _).setCell (p := ⟨g, 0, none⟩) (Nat.le_refl _) _)
  refine ⟨⟨fun B => ?_, hbg, fun A n c xs => ⟨hbg, ?_, fun h => hsl _ _ _ _ (h.later hb (Nat.le_refl _))⟩, ?_, ?_, ?_, ?_⟩, hz, hsl⟩
  · exact KeepsFrom.trans ⟨hb.size, fun k o _ h _ => (hb.block k (Array.getElem?_eq_some_iff.1 h).1).trans h⟩ (hk.from B)
  · rw [← e9]
    exact (Below.heap_setCell _ _ _ _ (by show g5 ≠ g; omega)).trans (hb.block g5 h5)
  · rw [← e9]; exact World.cell?_setCell_same' _ _ _ (by rw [cg]; rfl)
  · rw [← e9, World.frozen?_setCell]; exact fg
  · rw [hz]; exact Nat.lt_of_lt_of_le hg hb.size
  · rw [hz]; exact Nat.lt_of_lt_of_le h5 hb.size
/-- what the power's box holds between the rounds -/
def ExJ (g k0 N E M : Nat) (pre : List (Ix k0)) (W : World) : Prop :=
  ∃ Aq nq cq q pq, W.cell? ⟨g, 0, none⟩ = some (.slice Aq nq cq) ∧ W.frozen? ⟨g, 0, none⟩ = false ∧ g < W.heap.size ∧ Sl W W.heap.size Aq nq cq q ∧ Nm b64 q pq ∧ pq < M ∧ (pre.map (·.1) = downL k0 pre.length → pq = N ^ (E / 2 ^ (k0 - pre.length)) % M)
/-- what the first power's region makes -/
structure ExB where
  A1 : Option Addr
  n1 : Nat
  c1 : Nat
  rs : List Nat
  A : Option Addr
  n : Nat
  c : Nat
  r : List Nat
  g : Nat
def exVals (v5 : Value) (b : ExB) (j : Nat) : Value :=
  [.slice b.A1 b.n1 b.c1, v5, .tuple #[.slice b.A b.n b.c, .bool true], .tuple #[.slice b.A b.n b.c, .bool true], .slice b.A b.n b.c, .bool true, .pointer (some ⟨b.g, 0, none⟩), undef, .bool true].getD j undef
structure ExW (W : World) (M : Nat) (b : ExB) (L : Array Bool) (w : World) : Prop where
  bel : Below W.heap.size W w
  one : L.getD 0 false = true → Sl w w.heap.size b.A1 b.n1 b.c1 b.rs ∧ Nm b64 b.rs 1
  mod : L.getD 2 false = true → Sl w w.heap.size b.A b.n b.c b.r ∧ Nm b64 b.r (1 % M)
  box : L.getD 6 false = true → W.heap.size ≤ b.g ∧ b.g < w.heap.size ∧ w.frozen? ⟨b.g, 0, none⟩ = false
  old : L.getD 6 false = true → L.getD 7 false = false → w.cell? ⟨b.g, 0, none⟩ = some (.slice none 0 0)
  new : L.getD 7 false = true → w.cell? ⟨b.g, 0, none⟩ = some (.slice b.A b.n b.c)
theorem ExW.same {W w : World} {M : Nat} {b : ExB} {L : Array Bool} (h : ExW W M b L w) {k : Nat} (h0 : k ≠ 0) (h2 : k ≠ 2) (h6 : k ≠ 6) (h7 : k ≠ 7) : ExW W M b (L.setIfInBounds k true) w := by
  refine ⟨h.bel, ?_, ?_, ?_, ?_, ?_⟩
  · rw [getD_set_other L h0]; exact h.one
  · rw [getD_set_other L h2]; exact h.mod
  · rw [getD_set_other L h6]; exact h.box
  · rw [getD_set_other L h6, getD_set_other L h7]; exact h.old
  · rw [getD_set_other L h7]; exact h.new
theorem Sl.setOtherE {w : World} {B n c : Nat} {A : Option Addr} {xs : List Nat} (h : Sl w B A n c xs) {p : Addr} (hp : ∀ x : Nat, w.cell? p ≠ some (.int .u64 (x : Int))) (u : Value) : Sl (w.setCell p u) B A n c xs := h.setOther hp u

end Go.Proofs.Ytmmmcbklgmjalaa

/- curve: Mul. -/
set_option linter.unusedVariables false
set_option linter.unusedSimpArgs false
namespace Go.Proofs.Ytmmmcbklgmjalaa
open Go.RowKit

/-- a whole structure is written, inside a fence -/
theorem wlSI_store {F : Fence} {n' : Nat} {P : Program} {w : World} {ops : Array Oper} {rest : List Oper} {o : Oper} {a : Act} {Q : Exit → Act → World → Prop} (hgd : o.guard = none) (ty n : Nat) (hi : (P.info? ty).map (·.size) = some n) (x y : Operand) (ho : o.op = .store ty x y) (g : Nat) (vs' : List Value) (hx : a.eval x = .pointer (some ⟨g, 0, none⟩)) (hy : a.eval y = .agg vs'.toArray) (t : TypeId) (vs : List Value) (hr : RowV t w g vs) (hl : vs.length = n) (hl' : vs'.length = n) (h1 : Ones vs')
    (h : ∀ w', RowV t w' g vs' → w.grownBy w' (some g) → True → wpListIn F n' P ops Q rest (a.put o.dst undef) w') : wpListIn F n' P ops Q (o :: rest) a w := by
  obtain ⟨w', hrun, hr', hg⟩ := exec_store (P := P) (w := w) (o := o) (a := a) ty n hi x y ho g vs' hx hy t vs hr hl hl' h1
  exact wpListIn_skips hgd (by rw [ho]; intro c hc; cases hc) (fun f hf => by simp [Oper.about, ho] at hf) hrun (h w' hr' hg trivial)
theorem Nu.kept {A B : World} {v : Value} {k : Nat} (h : Nu A v k) {row : Option Nat} (hg : A.grownBy B row) (hr : ∀ r, row = some r → ∃ o : Obj, A.heap[r]? = some o ∧ o.isCells = false) : Nu B v k := by
  obtain ⟨xs, p, n, c, e, hs, hn, hl⟩ := h
  exact ⟨xs, p, n, c, e, (hs.kept hg hr).more hg.size, hn, hl⟩
theorem Rt.kept {A B : World} {v : Value} {T : Nat × Nat × Nat} (h : Rt A v T) {row : Option Nat} (hg : A.grownBy B row) (hr : ∀ r, row = some r → ∃ o : Obj, A.heap[r]? = some o ∧ o.isCells = false) : Rt B v T := by
  obtain ⟨a, b, c, e, h1, h2, h3⟩ := h
  exact ⟨a, b, c, e, h1.kept hg hr, h2.kept hg hr, h3.kept hg hr⟩
theorem Pt.kept {A B : World} {v : Value} {R : Option (Nat × Nat)} (h : Pt A v R) {row : Option Nat} (hg : A.grownBy B row) (hr : ∀ r, row = some r → ∃ o : Obj, A.heap[r]? = some o ∧ o.isCells = false) : Pt B v R := by
  rcases R with _ | ⟨x, y⟩
  · obtain ⟨a, b, e, h1, h2⟩ := h
    exact ⟨a, b, e, h1.kept hg hr, h2.kept hg hr⟩
  · obtain ⟨a, b, e, h1, h2⟩ := h
    exact ⟨a, b, e, h1.kept hg hr, h2.kept hg hr⟩
/-- the multiple by the bits of r from above -/
def mlN (p b : Nat) (one : Nat × Nat × Nat) (r k0 : Nat) : Nat → Nat × Nat × Nat
  | 0 => (0, 1, 0)
  | j + 1 => if r / 2 ^ (k0 - (j + 1)) % 2 = 1 then rcbN p b (rcbN p b (mlN p b one r k0 j) (mlN p b one r k0 j)) one else rcbN p b (mlN p b one r k0 j) (mlN p b one r k0 j)
/-- what the multiple's block holds between the rounds -/
def MlJ (g k0 : Nat) (p b : Nat) (one : Nat × Nat × Nat) (r : Nat) (pre : List (Ix k0)) (W : World) : Prop :=
  ∃ v0 v1 v2 T, RowV 68 W g [v0, v1, v2] ∧ Rt W (.agg #[v0, v1, v2]) T ∧ (pre.map (·.1) = downL k0 pre.length → T = mlN p b one r k0 pre.length)
theorem Rt.parts {w : World} {a b c : Value} {T : Nat × Nat × Nat} (h : Rt w (.agg #[a, b, c]) T) : Nu w a T.1 ∧ Nu w b T.2.1 ∧ Nu w c T.2.2 := by
  obtain ⟨x, y, z, e, h1, h2, h3⟩ := h
  injection e with e
  simp at e
  obtain ⟨rfl, rfl, rfl⟩ := e
  exact ⟨h1, h2, h3⟩
def NoU3 (a b c : Value) : Prop := (∀ x, a ≠ .int .u64 x) ∧ (∀ x, b ≠ .int .u64 x) ∧ (∀ x, c ≠ .int .u64 x)
theorem Rt.three {w : World} {v : Value} {T : Nat × Nat × Nat} (h : Rt w v T) : ∃ v0 v1 v2, v = .agg #[v0, v1, v2] ∧ v0.oneCell' = true ∧ v1.oneCell' = true ∧ v2.oneCell' = true ∧ NoU3 v0 v1 v2 := by
  obtain ⟨a, b, c, rfl, h1, h2, h3⟩ := h
  exact ⟨a, b, c, rfl, h1.one, h2.one, h3.one, slU h1, slU h2, slU h3⟩

set_option maxRecDepth 100000 in
set_option maxHeartbeats 4000000 in
theorem cMul_none (w : World) (c : Int) (hc : crvOf c = none) (vk vP : Value) (hP : P3 vP) :
    Calls Try.prog 15 #[.int .i64 c, vk, vP] w fun e w' => e = .returned (.tuple #[inf0, .bool false]) ∧ Below w.heap.size w w' := by
  have hmx : Try.prog.follows .mixedOrders = true := by kernel_rfl
  obtain ⟨iP, bP, dP, rfl, hi1, hi2, hi3⟩ := hP
  obtain ⟨W0, e0, r0, b0, s0⟩ := newS w 36 [iP, bP, dP] _ rfl
  obtain ⟨gP, hgP⟩ : ∃ x, w.heap.size = x := ⟨_, rfl⟩
  obtain ⟨W1, e1, r1, b1, s1⟩ := newS W0 36 [.bool false, .slice none 0 0, .slice none 0 0] _ rfl
  obtain ⟨gr, hgr⟩ : ∃ x, W0.heap.size = x := ⟨_, rfl⟩
  obtain ⟨W2, e2, r2, b2, s2⟩ := newS W1 36 [iP, bP, dP] _ rfl
  obtain ⟨gs, hgs⟩ : ∃ x, W1.heap.size = x := ⟨_, rfl⟩
  rw [hgP] at r0
  rw [hgr] at r1
  rw [hgs] at r2
  have hbw : Below w.heap.size w W2 := ((b0).trans (b1.mono (b0).size)).trans (b2.mono ((b0).trans (b1.mono (b0).size)).size)
  have qgP := ((r0.later b1).later b2)
  have qgr := (r1.later b2)
  have qgs := r2
  have HB := Lib.hid hbw
  have HGL := Lib.hid (show w.heap.size ≤ gr ∧ gP < gr ∧ gr < W2.heap.size ∧ gP < W2.heap.size by omega)
  have HRP := Lib.hid qgP
  have HRR := Lib.hid qgr
  have pp0 := (r0.later b1).at_ (i := 0) rfl
  have p0 := qgP.at_ (i := 0) rfl
  have pp1 := (r0.later b1).at_ (i := 1) rfl
  have p1 := qgP.at_ (i := 1) rfl
  have pp2 := (r0.later b1).at_ (i := 2) rfl
  have p2 := qgP.at_ (i := 2) rfl
  have HDW := Lib.hid (domW_no W2 c hc (.slice (some ⟨gs, 0, none⟩) 1 1))
  clear  b0 s0 r0 b1 s1 r1 b2 s2 r2 hbw qgP qgs qgr hc
  refine (callsIn_wide (n := 9)).1 ?_
  refine callsIn_of_wp_marks Try.func15 rfl trivial ?_ rfl
  simp only [Try.ntmps15, List.size_toArray, List.length_cons, List.length_nil, Nat.reduceAdd, Nat.reduceSub, Array.replicate_succ, Array.replicate_zero, List.push_toArray, List.append_toArray, List.nil_append, List.cons_append]
  gi_wp2_with fail
  refine ⟨trivial, (callsIn_wide.2 HDW.out).mono ?_⟩
  rintro e w1 ⟨rfl, hb1⟩
  obtain ⟨W5, e5, r5, b5, s5⟩ := newS w1 59 [.int .i64 0, .slice none 0 0, .slice none 0 0, .slice none 0 0, .bool false, .slice none 0 0, .slice none 0 0] _ rfl
  obtain ⟨g8, hg8⟩ : ∃ x, w1.heap.size = x := ⟨_, rfl⟩
  rw [hg8] at r5
  have HB5 := Lib.hid b5
  have HB1 := Lib.hid hb1
  have HG8 := Lib.hid (show W2.heap.size ≤ g8 by have := hb1.size; omega)
  clear hb1 b5 s5 p0 p1 p2 pp0 pp1 pp2
  gi_wp2_with ((with_reducible show wpListIn _ _ _ _ _ (⟨none, _, _, _, _, _⟩ :: _) _ _); refine wlSI_store rfl 59 7 Try.sizeDom _ _ rfl g8 [.int .i64 0, .slice none 0 0, .slice none 0 0, .slice none 0 0, .bool false, .slice none 0 0, .slice none 0 0] rfl rfl 59 _ r5 rfl rfl (by intro v hv; simp only [List.mem_cons, List.not_mem_nil, or_false] at hv; rcases hv with rfl | rfl | rfl | rfl | rfl | rfl | rfl <;> rfl) ?_; intro w6 hr6 hg6 hz)
  have hbw1 := HB.out.trans (HB1.out.mono HB.out.size)
  have hbw5 := hbw1.trans (HB5.out.mono hbw1.size)
  have HBW := Lib.hid (below_grown hbw5 hg6 (by have := HG8.out; have := HGL.out; omega) hbw5.size)
  have HR := Lib.hid (((HRR.out.later HB1.out).later HB5.out).grown hg6 (by have := HG8.out; have := HGL.out; omega))
  clear hbw1 hbw5 hr6 hg6 hz
  gi_wp2_with fail
  refine ⟨trivial, ?_⟩
  gi_wp2_with fail
  refine ⟨trivial, (callsIn_wide.2 (cinf_any w6)).mono ?_⟩
  rintro e w7 ⟨rfl, hb7⟩
  have hr7 := HR.out.later hb7
  have HBW7 := Lib.hid (HBW.out.trans (hb7.mono HBW.out.size))
  clear hb7
  gi_wp2_with ((with_reducible show wpListIn _ _ _ _ _ (⟨none, _, _, _, _, _⟩ :: _) _ _); refine wlSI_store rfl 36 3 Try.sizePt _ _ rfl gr [.bool true, .slice none 0 0, .slice none 0 0] rfl rfl 36 _ hr7 rfl rfl (ones3 rfl rfl rfl) ?_; intro w8 hr8 hg8' hz)
  refine ⟨_, results_pt2 rfl _ gr _ rfl hr8 rfl, rfl, below_grown HBW7.out hg8' HGL.out.1 HBW7.out.size⟩

set_option maxRecDepth 100000 in
set_option maxHeartbeats 4000000 in
theorem cMul_no (w : World) (c : Int) (D : Crv) (hc : crvOf c = some D) (vk vP : Value) (P : Option (Nat × Nat)) (hP : Pg w vP P) (hno : ¬ hasN D.p D.b P) :
    Calls Try.prog 15 #[.int .i64 c, vk, vP] w fun e w' => e = .returned (.tuple #[inf0, .bool false]) ∧ Below w.heap.size w w' := by
  have hmx : Try.prog.follows .mixedOrders = true := by kernel_rfl
  have hok := crv_ok hc
  obtain ⟨iP, bP, dP, rfl⟩ := hP.ex
  obtain ⟨W0, e0, r0, b0, s0⟩ := newS w 36 [.bool iP, bP, dP] _ rfl
  obtain ⟨gP, hgP⟩ : ∃ x, w.heap.size = x := ⟨_, rfl⟩
  obtain ⟨W1, e1, r1, b1, s1⟩ := newS W0 36 [.bool false, .slice none 0 0, .slice none 0 0] _ rfl
  obtain ⟨gr, hgr⟩ : ∃ x, W0.heap.size = x := ⟨_, rfl⟩
  obtain ⟨W2, e2, r2, b2, s2⟩ := newS W1 36 [.bool iP, bP, dP] _ rfl
  obtain ⟨gs, hgs⟩ : ∃ x, W1.heap.size = x := ⟨_, rfl⟩
  rw [hgP] at r0
  rw [hgr] at r1
  rw [hgs] at r2
  have hbw : Below w.heap.size w W2 := ((b0).trans (b1.mono (b0).size)).trans (b2.mono ((b0).trans (b1.mono (b0).size)).size)
  have qgP := ((r0.later b1).later b2)
  have qgr := (r1.later b2)
  have qgs := r2
  have HB := Lib.hid hbw
  have HGL := Lib.hid (show w.heap.size ≤ gr ∧ gP < gr ∧ gr < W2.heap.size ∧ gP < W2.heap.size by omega)
  have hP3 := hP.later hbw
  have HPP := Lib.hid hP3
  have HRP := Lib.hid qgP
  have HRR := Lib.hid qgr
  have pp0 := (r0.later b1).at_ (i := 0) rfl
  have p0 := qgP.at_ (i := 0) rfl
  have pp1 := (r0.later b1).at_ (i := 1) rfl
  have p1 := qgP.at_ (i := 1) rfl
  have pp2 := (r0.later b1).at_ (i := 2) rfl
  have p2 := qgP.at_ (i := 2) rfl
  have HDW := Lib.hid (domW_any W2 c D hc hok.1 gs 1 1 [(.bool iP, bP, dP)] [P] rfl (by decide) rfl (PtsV.one qgs) (by
    intro k a b d R h1 h2
    rcases k with _ | k
    · simp at h1 h2
      obtain ⟨rfl, rfl, rfl⟩ := h1
      subst h2
      exact hP3
    · simp at h1))
  have HOK := Lib.hid hok
  have Hhno := Lib.hid hno
  clear hno b0 s0 r0 b1 s1 r1 b2 s2 r2 hbw qgP qgs qgr hok hc hP hP3
  refine (callsIn_wide (n := 9)).1 ?_
  refine callsIn_of_wp_marks Try.func15 rfl trivial ?_ rfl
  simp only [Try.ntmps15, List.size_toArray, List.length_cons, List.length_nil, Nat.reduceAdd, Nat.reduceSub, Array.replicate_succ, Array.replicate_zero, List.push_toArray, List.append_toArray, List.nil_append, List.cons_append]
  gi_wp2_with fail
  refine ⟨trivial, (callsIn_wide.2 HDW.out).mono ?_⟩
  rintro e w1 (⟨vd, rfl, hvd, hall, hb1⟩ | ⟨rfl, ⟨R, hR, hRn⟩, hb1⟩)
  · exact absurd (hall P (by simp)) Hhno.out
  · clear hR hRn
    obtain ⟨W5, e5, r5, b5, s5⟩ := newS w1 59 [.int .i64 0, .slice none 0 0, .slice none 0 0, .slice none 0 0, .bool false, .slice none 0 0, .slice none 0 0] _ rfl
    obtain ⟨g8, hg8⟩ : ∃ x, w1.heap.size = x := ⟨_, rfl⟩
    rw [hg8] at r5
    have HB5 := Lib.hid b5
    have HB1 := Lib.hid hb1
    have HG8 := Lib.hid (show W2.heap.size ≤ g8 by have := hb1.size; omega)
    clear hb1 b5 s5 p0 p1 p2 pp0 pp1 pp2
    gi_wp2_with ((with_reducible show wpListIn _ _ _ _ _ (⟨none, _, _, _, _, _⟩ :: _) _ _); refine wlSI_store rfl 59 7 Try.sizeDom _ _ rfl g8 [.int .i64 0, .slice none 0 0, .slice none 0 0, .slice none 0 0, .bool false, .slice none 0 0, .slice none 0 0] rfl rfl 59 _ r5 rfl rfl (by intro v hv; simp only [List.mem_cons, List.not_mem_nil, or_false] at hv; rcases hv with rfl | rfl | rfl | rfl | rfl | rfl | rfl <;> rfl) ?_; intro w6 hr6 hg6 hz)
    have hbw1 := HB.out.trans (HB1.out.mono HB.out.size)
    have hbw5 := hbw1.trans (HB5.out.mono hbw1.size)
    have HBW := Lib.hid (below_grown hbw5 hg6 (by have := HG8.out; have := HGL.out; omega) hbw5.size)
    have HR := Lib.hid (((HRR.out.later HB1.out).later HB5.out).grown hg6 (by have := HG8.out; have := HGL.out; omega))
    clear hbw1 hbw5 hr6 hg6 hz
    gi_wp2_with fail
    refine ⟨trivial, ?_⟩
    gi_wp2_with fail
    refine ⟨trivial, (callsIn_wide.2 (cinf_any w6)).mono ?_⟩
    rintro e w7 ⟨rfl, hb7⟩
    have hr7 := HR.out.later hb7
    have HBW7 := Lib.hid (HBW.out.trans (hb7.mono HBW.out.size))
    clear hb7
    gi_wp2_with ((with_reducible show wpListIn _ _ _ _ _ (⟨none, _, _, _, _, _⟩ :: _) _ _); refine wlSI_store rfl 36 3 Try.sizePt _ _ rfl gr [.bool true, .slice none 0 0, .slice none 0 0] rfl rfl 36 _ hr7 rfl rfl (ones3 rfl rfl rfl) ?_; intro w8 hr8 hg8' hz)
    refine ⟨_, results_pt2 rfl _ gr _ rfl hr8 rfl, rfl, below_grown HBW7.out hg8' HGL.out.1 HBW7.out.size⟩

end Go.Proofs.Ytmmmcbklgmjalaa

/- curve: Mul of a point of the curve. -/
set_option linter.unusedVariables false
set_option linter.unusedSimpArgs false
namespace Go.Proofs.Ytmmmcbklgmjalaa
open Go.RowKit
attribute [local go_sem] Oper.semAt_some

theorem mlN_lt {p b : Nat} (hp : 0 < p) (hb : b < p) (one : Nat × Nat × Nat) (r k0 : Nat) : ∀ j, (mlN p b one r k0 j).2.2 < p
  | 0 => hp
  | j + 1 => by
    rw [mlN]
    split
    · exact (rcbN_lt hp hb _ _).2.2
    · exact (rcbN_lt hp hb _ _).2.2
/-- a call, and its result stored into the block -/
theorem rtSt {W w8 W9 : World} {g g5 : Nat} {vs : List Value} (hb : Below W.heap.size W w8) (hr : RowV 68 W g vs) (hno : NoU W g) (hg : w8.grownBy W9 (some g)) (h5 : g5 < W.heap.size) (hne : g < g5) :
    (∀ B, KeepsFrom B W W9) ∧ Below g W W9 ∧ ∀ A n c xs, KpX g g5 A n c xs W W9 := by
  have hno8 : NoU w8 g := fun off x hx => hno off x (by rw [← hx]; exact (hb.cell (p := ⟨g, off, none⟩) hr.lt).symm)
  have hbg : Below g W W9 := below_grown (hb.mono (Nat.le_of_lt hr.lt)) hg (Nat.le_refl _) (by have := hb.size; have := hr.lt; omega)
  refine ⟨fun B => ⟨Nat.le_trans hb.size hg.size, fun k o _ h ho => ?_⟩, hbg, fun A n c xs => ⟨hbg, ?_, fun h => (h.later hb (Nat.le_refl _)).sb ⟨g, hno8, hg⟩⟩⟩
  · have hk := (Array.getElem?_eq_some_iff.1 h).1
    refine ((hg.block k (Nat.lt_of_lt_of_le hk hb.size) (fun e => ?_)).trans (hb.block k hk)).trans h
    injection e with e
    subst e
    rw [show W.heap[k]? = _ from hr] at h
    injection h with h
    rw [← h] at ho
    cases ho
  · exact (hg.block g5 (Nat.lt_of_lt_of_le h5 hb.size) (fun e => by injection e with e; omega)).trans (hb.block g5 h5)
set_option maxRecDepth 100000 in
set_option maxHeartbeats 4000000 in
theorem cMul_yes (w : World) (c : Int) (D : Crv) (hc : crvOf c = some D) (vk vP : Value) (kN : Nat) (hk : NumR w 64 kN vk) (P : Option (Nat × Nat)) (hP : Pg w vP P) (has : hasN D.p D.b P) (hn : 1 < D.n) (hnl : D.n < b64 ^ 64) (rN : Nat) (hrN : kN % D.n = rN) :
    Calls Try.prog 15 #[.int .i64 c, vk, vP] w fun e w' => ∃ v k0, e = .returned (.tuple #[v, .bool true]) ∧ IsBits rN k0 ∧ PtS D.p (mlN D.p D.b (rtN P) rN k0 k0) v w' ∧ Below w.heap.size w w' := by
  have hmx : Try.prog.follows .mixedOrders = true := by kernel_rfl
  have hok := crv_ok hc
  obtain ⟨iP, bP, dP, rfl⟩ := hP.ex
  obtain ⟨W0, e0, r0, b0, s0⟩ := newS w 36 [.bool iP, bP, dP] _ rfl
  obtain ⟨gP, hgP⟩ : ∃ x, w.heap.size = x := ⟨_, rfl⟩
  obtain ⟨W1, e1, r1, b1, s1⟩ := newS W0 36 [.bool false, .slice none 0 0, .slice none 0 0] _ rfl
  obtain ⟨gr, hgr⟩ : ∃ x, W0.heap.size = x := ⟨_, rfl⟩
  obtain ⟨W2, e2, r2, b2, s2⟩ := newS W1 36 [.bool iP, bP, dP] _ rfl
  obtain ⟨gs, hgs⟩ : ∃ x, W1.heap.size = x := ⟨_, rfl⟩
  rw [hgP] at r0
  rw [hgr] at r1
  rw [hgs] at r2
  have hbw : Below w.heap.size w W2 := ((b0).trans (b1.mono (b0).size)).trans (b2.mono ((b0).trans (b1.mono (b0).size)).size)
  have qgP := ((r0.later b1).later b2)
  have qgr := (r1.later b2)
  have qgs := r2
  have HB := Lib.hid hbw
  have HGL := Lib.hid (show w.heap.size ≤ gr ∧ gP < gr ∧ gr < W2.heap.size ∧ gP < W2.heap.size by omega)
  have hP3 := hP.later hbw
  have HPP := Lib.hid hP3
  have HRP := Lib.hid qgP
  have HRR := Lib.hid qgr
  have pp0 := (r0.later b1).at_ (i := 0) rfl
  have p0 := qgP.at_ (i := 0) rfl
  have pp1 := (r0.later b1).at_ (i := 1) rfl
  have p1 := qgP.at_ (i := 1) rfl
  have pp2 := (r0.later b1).at_ (i := 2) rfl
  have p2 := qgP.at_ (i := 2) rfl
  have HK := Lib.hid (hk.later hbw)
  have HN := Lib.hid (And.intro hn hnl)
  have HRN0 := Lib.hid hrN
  clear hk hn hnl hrN
  have HDW := Lib.hid (domW_any W2 c D hc hok.1 gs 1 1 [(.bool iP, bP, dP)] [P] rfl (by decide) rfl (PtsV.one qgs) (by
    intro k a b d R h1 h2
    rcases k with _ | k
    · simp at h1 h2
      obtain ⟨rfl, rfl, rfl⟩ := h1
      subst h2
      exact hP3
    · simp at h1))
  have HOK := Lib.hid hok
  have Hhas := Lib.hid has
  clear has b0 s0 r0 b1 s1 r1 b2 s2 r2 hbw qgP qgs qgr hok hc hP hP3
  refine (callsIn_wide (n := 9)).1 ?_
  refine callsIn_of_wp_marks Try.func15 rfl trivial ?_ rfl
  simp only [Try.ntmps15, List.size_toArray, List.length_cons, List.length_nil, Nat.reduceAdd, Nat.reduceSub, Array.replicate_succ, Array.replicate_zero, List.push_toArray, List.append_toArray, List.nil_append, List.cons_append]
  gi_wp2_with fail
  refine ⟨trivial, (callsIn_wide.2 HDW.out).mono ?_⟩
  rintro e w1 (⟨vd, rfl, hvd, hall, hb1⟩ | ⟨rfl, ⟨R, hR, hRn⟩, hb1⟩)
  rotate_left
  · exfalso
    simp only [List.mem_cons, List.not_mem_nil, or_false] at hR
    subst hR
    exact hRn Hhas.out
  · skip
    obtain ⟨vp, vb, vn, vx, vy, rfl, k1, k2, k3, k4, k5⟩ := hvd
    obtain ⟨Ap, np, cp, rfl⟩ := k1.sl
    obtain ⟨Ab, nb, cb, rfl⟩ := k2.sl
    obtain ⟨An, nn, cn, rfl⟩ := k3.sl
    obtain ⟨Ax, nx, cx, rfl⟩ := k4.sl
    obtain ⟨Ay, ny, cy, rfl⟩ := k5.sl
    have HDM := Lib.hid (show Dm w1 _ D from ⟨_, _, _, _, _, rfl, k1, k2, k3, k4, k5⟩)
    obtain ⟨W5, e5, r5, b5, s5⟩ := newS w1 59 [.int .i64 0, .slice none 0 0, .slice none 0 0, .slice none 0 0, .bool false, .slice none 0 0, .slice none 0 0] _ rfl
    obtain ⟨g8, hg8⟩ : ∃ x, w1.heap.size = x := ⟨_, rfl⟩
    rw [hg8] at r5
    have HB5 := Lib.hid b5
    have HB1 := Lib.hid hb1
    have HG8 := Lib.hid (show W2.heap.size ≤ g8 by have := hb1.size; omega)
    have HNU := Lib.hid (NoU.of_row r5 (by intro v hv x; simp only [List.mem_cons, List.not_mem_nil, or_false] at hv; rcases hv with rfl | rfl | rfl | rfl | rfl | rfl | rfl <;> (intro h; cases h)))
    clear k1 k2 k3 k4 k5 hall hb1 b5 s5 p0 p1 p2 pp0 pp1 pp2
    gi_wp2_with ((with_reducible show wpListIn _ _ _ _ _ (⟨none, _, _, _, _, _⟩ :: _) _ _); refine wlSI_store rfl 59 7 Try.sizeDom _ _ rfl g8 [.int .i64 (D.size : Int), .slice Ap np cp, .slice Ab nb cb, .slice An nn cn, .bool false, .slice Ax nx cx, .slice Ay ny cy] rfl rfl 59 _ r5 rfl rfl (by intro v hv; simp only [List.mem_cons, List.not_mem_nil, or_false] at hv; rcases hv with rfl | rfl | rfl | rfl | rfl | rfl | rfl <;> rfl) ?_; intro w6 hr6 hg6 hz)
    have hsb : Sb W5 w6 := ⟨g8, HNU.out, hg6⟩
    have HDM6 := Lib.hid ((HDM.out.later HB5.out).sb hsb)
    have HP6 := Lib.hid (((HPP.out.later HB1.out).later HB5.out).sb hsb)
    have HRP6 := Lib.hid (((HRP.out.later HB1.out).later HB5.out).grown hg6 (by have := HG8.out; have := HGL.out; omega))
    have HR8 := Lib.hid hr6
    have hbw1 := HB.out.trans (HB1.out.mono HB.out.size)
    have hbw5 := hbw1.trans (HB5.out.mono hbw1.size)
    have HBW := Lib.hid (below_grown hbw5 hg6 (by have := HG8.out; have := HGL.out; omega) hbw5.size)
    have HR := Lib.hid (((HRR.out.later HB1.out).later HB5.out).grown hg6 (by have := HG8.out; have := HGL.out; omega))
    have HNO6 := Lib.hid (NoU.of_row HR.out (noU3 (by intro x h; cases h) (by intro x h; cases h) (by intro x h; cases h)))
    have HNE := Lib.hid (show gP ≠ gr ∧ g8 ≠ gr by have := HG8.out; have := HGL.out; omega)
    have HK6 := Lib.hid (((HK.out.later HB1.out).later HB5.out).sb hsb)
    clear hsb hbw1 hbw5 HDM HB5 HB1 HPP HRP HRR hr6 hg6 hz HNU
    obtain ⟨kb, hkb⟩ := bits_ex kN
    have hkb2 : (kb : Int) ≤ 4096 := by
      have h1 := HK6.out.lt
      have : ¬ Lg 4096 kN := not_lg h1
      have h2 : ¬ 4096 < kb := fun h => this ((bits_gt (q := 4096) hkb).1 h)
      omega
    have HKB := Lib.hid hkb
    have HBI := Lib.hid (bits_u w6 vk kN HK6.out)
    clear hkb
    gi_wp2_with fail
    refine ⟨trivial, (callsIn_wide.2 HBI.out).mono ?_⟩
    rintro e w7 ⟨kb', rfl, hkb', rfl⟩
    obtain rfl : kb' = kb := hkb'.unique HKB.out
    have hkb3 : ¬ (4096 : Int) < kb' := by omega
    have f3 := HR8.out.at_ (i := 3) rfl
    have HMO := Lib.hid (mod_u w6 vk (.slice An nn cn) kN D.n HK6.out (by
      obtain ⟨_, _, _, _, _, he, _, _, h3, _⟩ := HDM6.out
      injection he with he
      simp at he
      obtain ⟨_, _, ⟨rfl, rfl, rfl⟩, _⟩ := he
      exact h3.gu) (by have := HN.out.1; omega))
    clear hkb' HBI
    gi_wp2_with fail
    refine ⟨trivial, (callsIn_wide.2 HMO.out).mono ?_⟩
    rintro e w7 ⟨vr, rfl, hvr, hb7⟩
    rw [HRN0.out] at hvr
    obtain ⟨Ar, nr, cr, rfl⟩ := hvr.sl
    have HVR7 := Lib.hid hvr
    have HP7 := Lib.hid (HP6.out.later hb7)
    have HDM7 := Lib.hid (HDM6.out.later hb7)
    have HRP7 := Lib.hid (HRP6.out.later hb7)
    have HR87 := Lib.hid (HR8.out.later hb7)
    have HR7 := Lib.hid (HR.out.later hb7)
    have HBW7 := Lib.hid (HBW.out.trans (hb7.mono HBW.out.size))
    have pq0 := HRP7.out.at_ (i := 0) rfl
    have pq1 := HRP7.out.at_ (i := 1) rfl
    have pq2 := HRP7.out.at_ (i := 2) rfl
    have HRO := Lib.hid (crof_any w7 (.agg #[.bool iP, bP, dP]) P HP7.out)
    clear hvr hb7 f3 HMO HDM6 HP6 HRP6 HR8 HR HBW HNO6 hkb2 hkb3 HK6
    gi_wp2_with fail
    refine ⟨trivial, (callsIn_wide.2 HRO.out).mono ?_⟩
    rintro e w8 ⟨v1, rfl, hv1, hb8⟩
    gi_wp2_with fail
    refine ⟨trivial, (callsIn_wide.2 (cinf_any w8)).mono ?_⟩
    rintro e w9 ⟨rfl, hb9⟩
    gi_wp2_with fail
    refine ⟨trivial, (callsIn_wide.2 (crof_any w9 inf0 none ⟨_, _, rfl, rfl, rfl⟩)).mono ?_⟩
    rintro e w10 ⟨v2, rfl, hv2, hb10⟩
    have hv1' := (hv1.later hb9).later hb10
    have hb78 := hb8.trans ((hb9.trans (hb10.mono hb9.size)).mono hb8.size)
    obtain ⟨A0, B0, C0, rfl, oa0, ob0, oc0, nu0⟩ := hv1'.three
    obtain ⟨A2, B2, C2, rfl, oa2, ob2, oc2, nu2⟩ := hv2.three
    obtain ⟨Wa, ea, ra, ba, sa⟩ := newS w10 68 [.slice none 0 0, .slice none 0 0, .slice none 0 0] _ rfl
    obtain ⟨g12, hg12⟩ : ∃ x, w10.heap.size = x := ⟨_, rfl⟩
    rw [hg12] at ra
    obtain ⟨Wb, eb, rb, bb, sb⟩ := newS Wa 68 [.slice none 0 0, .slice none 0 0, .slice none 0 0] _ rfl
    obtain ⟨g13, hg13⟩ : ∃ x, Wa.heap.size = x := ⟨_, rfl⟩
    rw [hg13] at rb
    have rab := ra.later bb
    have hlt : g12 < g13 ∧ g13 < Wb.heap.size ∧ w7.heap.size ≤ g12 := by have := hb78.size; omega
    have HLT := Lib.hid hlt
    have HO1 := Lib.hid (ones3 oa0 ob0 oc0)
    have HO2 := Lib.hid (ones3 oa2 ob2 oc2)
    have HNUA := Lib.hid (noU3 nu0.1 nu0.2.1 nu0.2.2)
    have HNUZ := Lib.hid (NoU.of_row rab (noU3 (by intro x h; cases h) (by intro x h; cases h) (by intro x h; cases h)))
    have HZD := Lib.hid (HDM7.out.later hb78)
    have HZ1 := Lib.hid hv1'
    have HZ8 := Lib.hid (HR87.out.later hb78)
    have HZB := Lib.hid (ba.trans (bb.mono ba.size))
    have HZL := Lib.hid (show w10.heap.size ≤ g12 by omega)
    have HV1 := Lib.hid ((hv1'.later ba).later bb)
    have HV2 := Lib.hid ((hv2.later ba).later bb)
    have hbb := hb78.trans ((ba.trans (bb.mono ba.size)).mono hb78.size)
    have HBB := Lib.hid hbb
    clear hv1 hb8 hb9 hb10 hv1' hv2 hb78 oa0 ob0 oc0 nu0 oa2 ob2 oc2 nu2 ba bb sa sb hlt ra pq0 pq1 pq2 HRO hbb
    gi_wp2_with (first | ((with_reducible show wpListIn _ _ _ _ _ (⟨none, _, _, _, _, _⟩ :: _) _ _); refine wlSI_store rfl 68 3 Try.sizeRt _ _ rfl g12 [A0, B0, C0] rfl rfl 68 _ rab rfl rfl HO1.out ?_; intro w11 hr11 hg11 hz; have rb2 := rb.grown hg11 (by have := HLT.out; omega)) | ((with_reducible show wpListIn _ _ _ _ _ (⟨none, _, _, _, _, _⟩ :: _) _ _); refine wlSI_store rfl 68 3 Try.sizeRt _ _ rfl g13 [A2, B2, C2] rfl rfl 68 _ rb2 rfl rfl HO2.out ?_; intro w12 hr12 hg12' hz))
    have hsb1 : Sb Wb w11 := ⟨g12, HNUZ.out, hg11⟩
    have hnz2 : NoU w11 g13 := NoU.of_row rb2 (noU3 (by intro x h; cases h) (by intro x h; cases h) (by intro x h; cases h))
    have hsb2 : Sb w11 w12 := ⟨g13, hnz2, hg12'⟩
    have HR12 := Lib.hid (hr11.grown hg12' (by have := HLT.out; omega))
    have HV1' := Lib.hid ((HV1.out.sb hsb1).sb hsb2)
    have HV2' := Lib.hid ((HV2.out.sb hsb1).sb hsb2)
    have HVR := Lib.hid (((HVR7.out.later HBB.out).sb hsb1).sb hsb2)
    have HDM := Lib.hid (((HDM7.out.later HBB.out).sb hsb1).sb hsb2)
    have hlt8 := HR87.out.lt
    have hltr := HR7.out.lt
    have HR8 := Lib.hid (((HR87.out.later HBB.out).grown hg11 (by have := HLT.out; omega)).grown hg12' (by have := HLT.out; omega))
    have HR := Lib.hid (((HR7.out.later HBB.out).grown hg11 (by have := HLT.out; omega)).grown hg12' (by have := HLT.out; omega))
    have hbwb := HBW7.out.trans (HBB.out.mono HBW7.out.size)
    have hbw11 := below_grown hbwb hg11 (by have := HLT.out; have := HBW7.out.size; omega) hbwb.size
    have HBW := Lib.hid (below_grown hbw11 hg12' (by have := HLT.out; have := HBW7.out.size; omega) hbw11.size)
    have hz11 := below_grown HZB.out hg11 HZL.out HZB.out.size
    have HZW := Lib.hid (below_grown hz11 hg12' (by have := HZL.out; have := HLT.out; omega) hz11.size)
    have HR13 := Lib.hid hr12
    have HORD := Lib.hid (show g8 < g13 ∧ gr < g13 ∧ g12 < g13 ∧ g13 < w12.heap.size ∧ w.heap.size ≤ g13 by have := HLT.out; have := HBW7.out.size; have := hg12'.size; have := hg11.size; omega)
    clear hz11 HZB hsb1 hnz2 hsb2 hr11 hg11 hr12 hg12' hz HV1 HV2 HVR7 HDM7 HR87 HR7 HBW7 HBB HNUZ hlt8 hltr hbwb hbw11 rb rb2 HRP7 HP7 ea eb rab HLT hg12 hg13
    obtain ⟨ys, A9, n9, c9, heq, hs9, hn9, hl9⟩ := HVR.out
    injection heq with e1 e2 e3
    subst e1 e2 e3
    have hea := each_new w12 _ _ _ _ _ hs9 hn9.1 (by omega)
    rw [hn9.2.2] at hea
    have HEA := Lib.hid hea
    clear hea hs9 hn9 hl9
    gi_wp2_with fail
    refine ⟨trivial, (callsIn_wide.2 HEA.out).mono ?_⟩
    rintro e w13 ⟨g5, A5, n5, c5, ys5, rfl, hN5, hg5, hgn, hc5, hs5, hb13⟩
    obtain ⟨k0, hk0⟩ := bits_ex rN
    have HRN := Lib.hid (show rN < b64 ^ 64 from Nat.lt_trans (by rw [← HRN0.out]; exact Nat.mod_lt _ (by have := HN.out.1; omega)) HN.out.2)
    have hk1 : k0 ≤ 4096 := Classical.byContradiction fun h => not_lg HRN.out ((bits_gt (q := 4096) hk0).1 (by omega))
    have hn5 : n5 ≤ 64 := by
      rw [hs5.len]
      exact hN5.length_le (by decide) HRN.out
    have hes := eachX_stops 8 (by decide) g5 g13 n5 c5 A5 ys5 k0 (by rw [hN5.2.2]; exact hk0) hN5.1 (by omega) (by omega) w13 hg5 hc5 hs5
    rw [hN5.2.2] at hes
    have HZX := Lib.hid (HZW.out.trans (hb13.mono HZW.out.size))
    have HO := Lib.hid (show w10.heap.size ≤ g13 ∧ g8 < g13 ∧ gr < g13 ∧ g12 < g13 ∧ g13 < w13.heap.size ∧ w.heap.size ≤ g13 ∧ g13 < g5 ∧ g5 < w13.heap.size ∧ w12.heap.size ≤ w13.heap.size by have := HORD.out; have := hb13.size; have := HZL.out; omega)
    have HJ0 := Lib.hid (show MlJ g13 k0 D.p D.b (rtN P) rN [] w13 from ⟨A2, B2, C2, rtN none, HR13.out.later hb13, HV2'.out.later hb13, fun _ => rfl⟩)
    have HES := Lib.hid hes
    have HK0 := Lib.hid hk0
    have HC5 := Lib.hid hc5
    have HS5 := Lib.hid hs5
    have H12 := Lib.hid (HR12.out.later hb13)
    have HO1' := Lib.hid (HV1'.out.later hb13)
    have HDM1 := Lib.hid (HDM.out.later hb13)
    have H8 := Lib.hid (HR8.out.later hb13)
    have HRR := Lib.hid (HR.out.later hb13)
    have HBX := Lib.hid (HBW.out.trans (hb13.mono HBW.out.size))
    clear hes hk0 hN5 hc5 hs5 hb13 hk1 hn5 hgn HR12 HV1' HV2' HVR HDM HR8 HR HBW HR13 HORD HEA
    gi_wp2_with fail
    refine wpIn_rangeFunc_ownG rfl (by omega) (gf := 49) (lb := #[.pointer (some ⟨g5, 0, none⟩)]) rfl trivial (enters_of Try.func49 (by kernel_rfl) rfl)
      HES.out KpX.trans (KpX.put (by have := HO.out; omega) hg5) (Below.refl _ _) (fun _ => rfl)
      (fun pre W => MlJ g13 k0 D.p D.b (rtN P) rN pre W ∧ Below g13 w13 W)
      (fun _ _ _ => False)
      (OwnFrom.and (Own.from (fun s A B row hs hg hr => by
        obtain ⟨v0, v1, v2, T, e1, e2, e3⟩ := hs
        exact ⟨v0, v1, v2, T, e1.kept hg hr, e2.kept hg hr, e3⟩) _) (ownFrom_below (by have := HO.out; omega) (by have := HO.out; omega)))
      (fun _ _ _ _ _ hs _ _ => hs)
      ⟨HJ0.out, Below.refl _ _⟩
      ?a1x ?assign ?body ?done ?stop
    case assign =>
      intro l x W K hK
      gi_wp2
      exact hK
    case body =>
      rintro l pre x W ⟨⟨v0, v1, v2, T, e1, e2, e3⟩, hBW⟩ hpl
      have hzW : Below w10.heap.size w10 W := HZX.out.trans (hBW.mono (by have := HO.out; omega))
      have r8 := HZ8.out.later hzW
      have f0 := r8.at_ (i := 0) rfl
      have f1 := r8.at_ (i := 1) rfl
      have f2 := r8.at_ (i := 2) rfl
      have f3 := r8.at_ (i := 3) rfl
      have f4 := r8.at_ (i := 4) rfl
      have f5 := r8.at_ (i := 5) rfl
      have f6 := r8.at_ (i := 6) rfl
      have t0 := e1.at_ (i := 0) rfl
      have t1 := e1.at_ (i := 1) rfl
      have t2 := e1.at_ (i := 2) rfl
      have HADD := Lib.hid (cadd_any W D T T _ _ _ (HZD.out.later hzW) e2 e2 (by have := HOK.out.1.1; omega) HOK.out.1.2.1 HOK.out.1.2.2)
      have HE1 := Lib.hid e1
      have HE2 := Lib.hid e2
      have HE3 := Lib.hid e3
      have HBWW := Lib.hid hBW
      have HZWW := Lib.hid hzW
      have hno : NoU3 v0 v1 v2 := by
        obtain ⟨q1, q2, q3⟩ := e2.parts
        exact ⟨slU q1, slU q2, slU q3⟩
      have HNOW := Lib.hid hno
      have HPL := Lib.hid hpl
      obtain ⟨i, hi⟩ := x
      obtain ⟨bv, hbv⟩ : ∃ bv, rN / 2 ^ i % 2 = bv := ⟨_, rfl⟩
      have hb2 : bv = 0 ∨ bv = 1 := by have := Nat.mod_lt (rN / 2 ^ i) (show 0 < 2 by decide); omega
      have HBV := Lib.hid hbv
      have hbi : (rN : Int) / 2 ^ i % 2 = (bv : Int) := by rw [← hbv]; simp
      have hbit : ∀ (hin : (pre ++ [(⟨i, hi⟩ : Ix k0)]).map (·.1) = downL k0 (pre ++ [(⟨i, hi⟩ : Ix k0)]).length), pre.map (·.1) = downL k0 pre.length ∧ i = k0 - (pre.length + 1) := by
        intro h
        rw [List.length_append, List.length_singleton, downL_succ, List.map_append] at h
        obtain ⟨h1, h2⟩ := List.append_inj' h rfl
        exact ⟨h1, by simp at h2; omega⟩
      have HBIT := Lib.hid hbit
      clear e2 e3 hBW hzW r8 hno hpl hbv hbit e1
      gi_wp2_with fail
      refine ⟨trivial, (CallsIn.inRound l (callsIn_wide.2 HADD.out)).mono ?_⟩
      rintro e w20 ⟨va, rfl, hva, hb20⟩
      obtain ⟨A20, B20, C20, rfl, oa, ob, oc, nu20⟩ := hva.three
      have HON := Lib.hid (ones3 oa ob oc)
      have HVA := Lib.hid hva
      have HB20 := Lib.hid hb20
      have hr20 := HE1.out.later hb20
      clear hva oa ob oc hb20 f0 f1 f2 f3 f4 f5 f6 t0 t1 t2
      have hnoW : NoU W g13 := NoU.of_row HE1.out (noU3 HNOW.out.1 HNOW.out.2.1 HNOW.out.2.2)
      have hno20 : NoU w20 g13 := NoU.of_row hr20 (noU3 HNOW.out.1 HNOW.out.2.1 HNOW.out.2.2)
      have HN20 := Lib.hid (And.intro hnoW hno20)
      have hg5W : g5 < W.heap.size := by have := HO.out; have := HBWW.out.size; omega
      have HG5W := Lib.hid hg5W
      clear hnoW hno20 hg5W
      rcases hb2 with h0 | h1
      · subst h0
        gi_wp2_with ((with_reducible show wpListIn _ _ _ _ _ (⟨none, _, _, _, _, _⟩ :: _) _ _); refine wlSI_store rfl 68 3 Try.sizeRt _ _ rfl g13 [A20, B20, C20] rfl rfl 68 _ hr20 rfl rfl HON.out ?_; intro w21 hr21 hg21 hz)
        obtain ⟨s1, s2, s3⟩ := rtSt (g5 := g5) HB20.out HE1.out HN20.out.1 hg21 HG5W.out (by have := HO.out; omega)
        refine ⟨s1 _, s3 _ _ _ _, ⟨A20, B20, C20, _, hr21, HVA.out.sb ⟨g13, HN20.out.2, hg21⟩, fun hin => ?_⟩, HBWW.out.trans s2⟩
        obtain ⟨h1, h2⟩ := HBIT.out hin
        have h3 := HE3.out h1
        rw [List.length_append, List.length_singleton]
        show _ = mlN _ _ _ _ _ (pre.length + 1)
        rw [mlN, ← h2, HBV.out, if_neg (by decide), ← h3]
      · subst h1
        have r8' := HZ8.out.later HZWW.out
        have r12' : RowV 68 W g12 [A0, B0, C0] := H12.out.below HBWW.out (by have := HO.out; omega)
        have HR8W := Lib.hid (r8'.later HB20.out)
        have HR12W := Lib.hid (r12'.later HB20.out)
        have HNEE := Lib.hid (show g8 ≠ g13 ∧ g12 ≠ g13 by have := HO.out; omega)
        clear r8' r12'
        gi_wp2_with ((with_reducible show wpListIn _ _ _ _ _ (⟨none, _, _, _, _, _⟩ :: _) _ _); refine wlSI_store rfl 68 3 Try.sizeRt _ _ rfl g13 [A20, B20, C20] rfl rfl 68 _ hr20 rfl rfl HON.out ?_; intro w21 hr21 hg21 hz; have q8 := HR8W.out.grown hg21 HNEE.out.1; have q12 := HR12W.out.grown hg21 HNEE.out.2; have f0 := q8.at_ (i := 0) rfl; have f1 := q8.at_ (i := 1) rfl; have f2 := q8.at_ (i := 2) rfl; have f3 := q8.at_ (i := 3) rfl; have f4 := q8.at_ (i := 4) rfl; have f5 := q8.at_ (i := 5) rfl; have f6 := q8.at_ (i := 6) rfl; have t0 := hr21.at_ (i := 0) rfl; have t1 := hr21.at_ (i := 1) rfl; have t2 := hr21.at_ (i := 2) rfl; have u0 := q12.at_ (i := 0) rfl; have u1 := q12.at_ (i := 1) rfl; have u2 := q12.at_ (i := 2) rfl)
        have hsb21 : Sb w20 w21 := ⟨g13, HN20.out.2, hg21⟩
        have HVA21 := Lib.hid (HVA.out.sb hsb21)
        have HADD2 := Lib.hid (cadd_any w21 D (rcbN D.p D.b T T) (rtN P) _ _ _ (((HZD.out.later HZWW.out).later HB20.out).sb hsb21) HVA21.out (((HZ1.out.later HZWW.out).later HB20.out).sb hsb21) (by have := HOK.out.1.1; omega) HOK.out.1.2.1 HOK.out.1.2.2)
        have HR21 := Lib.hid hr21
        have HG21 := Lib.hid hg21
        have hnu21 : NoU3 A20 B20 C20 := by
          obtain ⟨q1, q2, q3⟩ := HVA.out.parts
          exact ⟨slU q1, slU q2, slU q3⟩
        have HNU21 := Lib.hid hnu21
        clear hsb21 hr21 hg21 hz f0 f1 f2 f3 f4 f5 f6 t0 t1 t2 u0 u1 u2 q8 q12 hnu21
        refine ⟨trivial, (CallsIn.inRound l (callsIn_wide.2 HADD2.out)).mono ?_⟩
        rintro e w22 ⟨vb2, rfl, hvb, hb22⟩
        obtain ⟨A22, B22, C22, rfl, oa, ob, oc, nu22⟩ := hvb.three
        have HON2 := Lib.hid (ones3 oa ob oc)
        have HVB := Lib.hid hvb
        have HB22 := Lib.hid hb22
        have hr22 := HR21.out.later hb22
        clear hvb oa ob oc hb22
        gi_wp2_with ((with_reducible show wpListIn _ _ _ _ _ (⟨none, _, _, _, _, _⟩ :: _) _ _); refine wlSI_store rfl 68 3 Try.sizeRt _ _ rfl g13 [A22, B22, C22] rfl rfl 68 _ hr22 rfl rfl HON2.out ?_; intro w23 hr23 hg23 hz)
        obtain ⟨s1, s2, s3⟩ := rtSt (g5 := g5) HB20.out HE1.out HN20.out.1 HG21.out HG5W.out (by have := HO.out; omega)
        have hno21 : NoU w21 g13 := NoU.of_row HR21.out (noU3 HNU21.out.1 HNU21.out.2.1 HNU21.out.2.2)
        have hno22 : NoU w22 g13 := NoU.of_row hr22 (noU3 HNU21.out.1 HNU21.out.2.1 HNU21.out.2.2)
        obtain ⟨z1, z2, z3⟩ := rtSt (g5 := g5) HB22.out HR21.out hno21 hg23 (by have := HG5W.out; have := s2.size; omega) (by have := HO.out; omega)
        refine ⟨(s1 _).trans (z1 _), (s3 _ _ _ _).trans (z3 _ _ _ _), ⟨A22, B22, C22, _, hr23, HVB.out.sb ⟨g13, hno22, hg23⟩, fun hin => ?_⟩, HBWW.out.trans (s2.trans z2)⟩
        obtain ⟨h1, h2⟩ := HBIT.out hin
        have h3 := HE3.out h1
        rw [List.length_append, List.length_singleton]
        show _ = mlN _ _ _ _ _ (pre.length + 1)
        rw [mlN, ← h2, HBV.out, if_pos rfl, ← h3]
    case done =>
      rintro E ds W hD hds ⟨⟨v0, v1, v2, T, e1, e2, e3⟩, hBW⟩ hK
      have hl : ds.length = k0 := by have h := congrArg List.length hds; rwa [List.length_map, downL_length] at h
      have hfin := e3 (by rw [hl]; exact hds)
      rw [hl] at hfin
      have hzW : Below w10.heap.size w10 W := HZX.out.trans (hBW.mono (by have := HO.out; omega))
      have r8 := HZ8.out.later hzW
      have f0 := r8.at_ (i := 0) rfl
      have f1 := r8.at_ (i := 1) rfl
      have f2 := r8.at_ (i := 2) rfl
      have f3 := r8.at_ (i := 3) rfl
      have f4 := r8.at_ (i := 4) rfl
      have f5 := r8.at_ (i := 5) rfl
      have f6 := r8.at_ (i := 6) rfl
      have t0 := e1.at_ (i := 0) rfl
      have t1 := e1.at_ (i := 1) rfl
      have t2 := e1.at_ (i := 2) rfl
      have HPT := Lib.hid (cpt_any W D T _ _ (HZD.out.later hzW) e2 (by have := HOK.out.1.1; omega) (fun h0 => cop_lt HOK.out.2 (by rw [hfin]; exact mlN_lt (by have := HOK.out.1.1; omega) HOK.out.1.2.2 _ _ _ _) h0))
      have HFIN := Lib.hid hfin
      have HRW := Lib.hid (show RowV 36 W gr [.bool false, .slice none 0 0, .slice none 0 0] from HRR.out.below hBW (by have := HO.out; omega))
      have HBWW := Lib.hid hBW
      have HKD := Lib.hid hK
      have HDD := Lib.hid hD
      have HNEE := Lib.hid (show E ≠ gr by have h1 : w13.heap.size ≤ E := hD; have := HO.out; omega)
      clear e3 e2 hfin hzW r8 hl hds hBW hK hD e1
      gi_wp2_with fail
      refine ⟨trivial, (callsIn_wide.2 HPT.out).mono ?_⟩
      rintro e w24 ⟨v, R, rfl, hR, hv, hb24⟩
      obtain ⟨A24, B24, C24, rfl, oa, ob, oc, nu24⟩ := hv.three
      have HON3 := Lib.hid (ones3 oa ob oc)
      have HV := Lib.hid hv
      have HRP := Lib.hid hR
      have HB24 := Lib.hid hb24
      have hr24 := HRW.out.later hb24
      clear hv hR oa ob oc nu24 hb24 f0 f1 f2 f3 f4 f5 f6 t0 t1 t2
      gi_wp2_with ((with_reducible show wpListIn _ _ _ _ _ (⟨none, _, _, _, _, _⟩ :: _) _ _); refine wlSI_store rfl 36 3 Try.sizePt _ _ rfl gr [A24, B24, C24] rfl rfl 36 _ hr24 rfl rfl HON3.out ?_; intro w25 hr25 hg25 hz)
      have hltE := (Array.getElem?_eq_some_iff.1 HKD.out).1
      have hK25 : w25.heap[E]? = _ := (hg25.block E (Nat.lt_of_lt_of_le hltE HB24.out.size) (fun e => by injection e with e; exact HNEE.out e)).trans ((HB24.out.block E hltE).trans HKD.out)
      refine ⟨by simp, .inl ⟨_, _, rfl, run_takeDeferred hK25, ?_⟩⟩
      have hgp := grownBy_putObj' w25 E (.deferred none)
      have hgr2 : ∀ r', some E = some r' → ∃ o, w25.heap[r']? = some o ∧ o.isCells = false := fun r' e => by cases e; exact ⟨_, hK25, rfl⟩
      have hrF := hr25.kept hgp hgr2
      refine ⟨_, results_pt2 rfl _ gr _ rfl hrF rfl, _, k0, rfl, HK0.out, ⟨R, by rw [← HFIN.out]; exact HRP.out, (HV.out.sb ⟨gr, NoU.of_row hr24 (noU3 (by intro x h; cases h) (by intro x h; cases h) (by intro x h; cases h)), hg25⟩).kept hgp hgr2⟩, ?_⟩
      have hb1 := HBX.out.trans (HBWW.out.mono (by have := HO.out; omega))
      have hb2 := hb1.trans (HB24.out.mono hb1.size)
      have hb3 := below_grown hb2 hg25 HGL.out.1 hb2.size
      exact below_grown hb3 hgp (by have h1 : w13.heap.size ≤ E := HDD.out; have := HBX.out.size; omega) hb3.size
    case stop =>
      rintro E c' pre W _ _ h _
      exact h.elim

end Go.Proofs.Ytmmmcbklgmjalaa

/- Bytes that came in; bytes as text; the number of bytes. -/
namespace Go.Proofs.Ytmmmcbklgmjalaa
open Go.RowKit

theorem sl8_of_row {w : World} {a : Option Addr} {len cap : Nat} {zs : List Int}
    (h : (a = none ∧ len = 0 ∧ cap = 0 ∧ zs = []) ∨ ∃ x, a = some x ∧ len ≤ cap ∧ cap ≤ maxLen ∧ zs.length = cap ∧ (∀ i, i < zs.length → w.cell? (x.add i) = some (.int .u8 (zs.getD i 0))) ∧ ∀ n ∈ zs, (Lit.int .u8 n).wf = true) :
    ∃ bs, Sl8 w w.heap.size a len cap bs := by
  rcases h with ⟨rfl, rfl, rfl, rfl⟩ | ⟨x, rfl, hl, hm, hz, hc, hwf⟩
  · exact ⟨[], rfl, Nat.le_refl _, by omega, (fun x hx => by cases hx), fun h => absurd rfl h⟩
  · have hb : ∀ n ∈ zs, 0 ≤ n ∧ n ≤ 255 := fun n hn => bounds_u8 (hwf n hn)
    refine ⟨(zs.take len).map Int.toNat, by simp; omega, hl, by simpa [maxLen] using hm, fun y hy => ?_, fun hne => ?_⟩
    · obtain ⟨z, hz, rfl⟩ := List.mem_map.1 hy
      have := hb z (List.mem_of_mem_take hz)
      omega
    · have hlen : 0 < len := by
        rcases Nat.eq_zero_or_pos len with h | h
        · subst h; simp at hne
        · exact h
      obtain ⟨b, off, spot⟩ := x
      have h0 := hc 0 (by omega)
      have hsp : spot = none := by simpa [Addr.add] using World.cell?_spot h0
      subst hsp
      refine ⟨b, off, rfl, World.block_lt_of_cell? w _ (by simpa [Addr.add] using h0), fun k y hy => ?_⟩
      rw [List.getElem?_map, Option.map_eq_some_iff] at hy
      obtain ⟨z, hzk, rfl⟩ := hy
      rw [List.getElem?_take] at hzk
      split at hzk
      · rename_i hkl
        have h1 := hc k (by omega)
        rw [Addr.add_lit, List.getD_eq_getElem?_getD, hzk] at h1
        have := hb z (List.mem_of_getElem? hzk)
        rw [Int.toNat_of_nonneg this.1]
        exact h1
      · cases hzk
theorem Sl8.take {w : World} {B n c : Nat} {A : Option Addr} {bs : List Nat} (h : Sl8 w B A n c bs) {k : Nat} (hk : k ≤ n) : Sl8 w B A k c (bs.take k) := by
  have h1 := h.1
  refine ⟨by rw [List.length_take]; omega, by have := h.2.1; omega, h.2.2.1, fun x hx => h.2.2.2.1 x (List.mem_of_mem_take hx), fun hn => ?_⟩
  obtain ⟨b, off, e, hlt, hc⟩ := h.2.2.2.2 (by intro e; subst e; simp at hn)
  refine ⟨b, off, e, hlt, fun j x hx => hc j x ?_⟩
  rw [List.getElem?_take] at hx
  split at hx
  · exact hx
  · cases hx

theorem le_value (m N : Nat) : V 256 ((List.range m).map fun i => N / 256 ^ i % 256) = N % 256 ^ m := by
  induction m with
  | zero => simp [V, Nat.mod_one]
  | succ m ih =>
    rw [List.range_succ, List.map_append, V_append, ih, List.length_map, List.length_range, Nat.mod_pow_succ]
    simp [V]
theorem be_rev (m N : Nat) : (be m N).reverse = (List.range m).map fun i => N / 256 ^ i % 256 := by
  apply List.ext_getElem?
  intro t
  rcases Nat.lt_or_ge t m with h | h
  · rw [List.getElem?_reverse (by rw [be_length]; exact h), be_length, be_get (by omega), show m - 1 - (m - 1 - t) = t by omega]
    simp [h]
  · rw [List.getElem?_eq_none (by rw [List.length_reverse, be_length]; exact h), List.getElem?_eq_none (by simp [h])]
theorem be_value {m N : Nat} (h : N < 256 ^ m) : V 256 (be m N).reverse = N := by rw [be_rev, le_value, Nat.mod_eq_of_lt h]
theorem rev_lt {bs : List Nat} {k : Nat} (hb : ∀ x ∈ bs, x < 256) (hk : bs.length ≤ 4 * k) : V 256 bs.reverse < b32 ^ k := by
  have h1 := V_lt (B := 256) bs.reverse (fun x hx => hb x (List.mem_reverse.1 hx))
  have h2 : 256 ^ bs.reverse.length ≤ 256 ^ (4 * k) := Nat.pow_le_pow_right (by decide) (by rw [List.length_reverse]; exact hk)
  rw [show b32 = 256 ^ 4 from rfl, ← Nat.pow_mul]
  omega

theorem conv_row {W : World} {g m : Nat} {zs : List Nat} (h : Row8 W g zs) (hl : zs.length = m) (hb : ∀ x ∈ zs, x < 256) :
    (convert 50 9 (.slice (some ⟨g, 0, none⟩) m m)).run Try.prog W = .ok (.string ⟨(zs.map UInt8.ofNat).toArray⟩) W := by
  have e : m = (zs.map UInt8.ofNat).length := by rw [List.length_map, hl]
  have hr := run_convert_bytes_back (P := Try.prog) W 50 9 5 ⟨g, 0, none⟩ m (zs.map UInt8.ofNat) Try.underlying50 Try.underlying5 Try.underlying9 (fun j hj => ?_)
  · rw [← e] at hr
    exact hr
  · rw [Addr.add_lit, Nat.zero_add]
    have hj' : j < zs.length := by simpa using hj
    rw [h.at_ (List.getElem?_eq_getElem hj'), List.getElem_map]
    have := hb _ (List.getElem_mem hj')
    rw [UInt8.toNat_ofNat', Nat.mod_eq_of_lt this]
theorem conv_nil (W : World) : (convert 50 9 (.slice none 0 0)).run Try.prog W = .ok (.string ⟨#[]⟩) W := by
  rw [run_convert_bytes_string W 50 9 5 none 0 0 Try.underlying50 Try.underlying5 Try.underlying9]
  rfl
end Go.Proofs.Ytmmmcbklgmjalaa

/- The law's begun: some points are told. -/
set_option linter.unusedVariables false
set_option linter.unusedSimpArgs false
namespace Go.Proofs.Ytmmmcbklgmjalaa
open Go.RowKit

theorem PtR.is {p : Nat} {T : Nat × Nat × Nat} {R : Option (Nat × Nat)} {i x y : Nat} (h : PtR p T R) (hp : 1 < p) (hi : i < p) (h1 : T.2.2 * i % p = 1) (hx : T.1 * i % p = x) (hy : T.2.1 * i % p = y) : R = some (x, y) := by
  rcases h with ⟨h0, rfl⟩ | ⟨h0, j, hj, h2, rfl⟩
  · rw [h0, Nat.zero_mul, Nat.zero_mod] at h1
    omega
  · obtain rfl := inverse_unique hj hi h2 h1
    rw [hx, hy]
def twoX : Nat := 0x7cf27b188d034f7e8a52380304b51ac3c08969e277f21b35a60b48fc47669978
def twoY : Nat := 0x7775510db8ed040293d9ac69f7430dbba7dade63ce982299e04b79d227873d1
theorem two_mul {R : Option (Nat × Nat)} {k0 : Nat} (hk : IsBits 2 k0) (h : PtR crv256.p (mlN crv256.p crv256.b (rtN (some (crv256.gx, crv256.gy))) 2 k0 k0) R) : R = some (twoX, twoY) := by
  obtain rfl : k0 = 2 := hk.unique ⟨by decide, by decide⟩
  exact h.is (by decide +kernel) (i := 0x3afc94969398d2d67af2fa276263bceaa28ad72c91b83f2befc0cc658c255db2) (by decide +kernel) (by decide +kernel) (by decide +kernel) (by decide +kernel)
theorem two_add {R : Option (Nat × Nat)} (h : PtR crv256.p (rcbN crv256.p crv256.b (rtN (some (crv256.gx, crv256.gy))) (rtN (some (crv256.gx, crv256.gy)))) R) : R = some (twoX, twoY) :=
  h.is (by decide +kernel) (i := 0x78a21857be9ed19cf9098f93af2019cdee30549945617199441a666635fbd920) (by decide +kernel) (by decide +kernel) (by decide +kernel) (by decide +kernel)
theorem has_g : hasN crv256.p crv256.b (some (crv256.gx, crv256.gy)) := by decide +kernel
theorem has_two : hasN crv256.p crv256.b (some (twoX, twoY)) := by decide +kernel
theorem numB_be : ∀ (n N : Nat), N < 256 ^ n → numB (beW n N) = N := by
  intro n N h
  have e : natsB (beW n N) = be n N := by
    unfold natsB beW
    rw [List.map_map]
    conv => rhs; rw [← List.map_id (be n N)]
    refine List.map_congr_left fun x hx => ?_
    have := be_lt n N x hx
    simp [BitVec.toNat_ofNat, Nat.mod_eq_of_lt this]
  unfold numB
  rw [e]
  exact be_value h
theorem nu_len {w : World} {v : Value} {k m : Nat} (h : Nu w v k) (h1 : b64 ^ m ≤ k) (h2 : k < b64 ^ (m + 1)) : ∃ A c, v = .slice A (m + 1) c := by
  obtain ⟨xs, A, n, c, rfl, hs, hn, _⟩ := h
  have l1 : xs.length ≤ m + 1 := hn.length_le (by decide) h2
  have l2 : ¬ xs.length ≤ m := fun hl => by
    have h3 := V_lt xs hn.1
    rw [hn.2.2] at h3
    have := Nat.pow_le_pow_right (show 0 < b64 by decide) hl
    omega
  have : n = m + 1 := by rw [hs.len]; omega
  subst this
  exact ⟨A, c, rfl⟩
theorem neq_nilIt (g g' : Nat) (w : World) : (binOp .neq 55 (.func (.func 40) #[] #[.pointer (some ⟨g, 0, none⟩), .pointer (some ⟨g', 0, none⟩)]) .nilFunc).run Try.prog w = .ok (.bool true) w := by kernel_rfl
theorem Pt.some_ {w : World} {v : Value} {x y : Nat} (h : Pt w v (some (x, y))) : ∃ a b, v = .agg #[.bool false, a, b] ∧ Nu w a x ∧ Nu w b y := h
set_option maxRecDepth 100000 in
set_option maxHeartbeats 4000000 in
theorem begun9_any (w : World) : Calls Try.prog 5 #[] w fun e w' => RetV w (.bool true) e w' := by
  have HB := Lib.hid (cBase_yes w 1 crv256 rfl)
  go_enter Try.func5, Try.ntmps5
  go_wp2_with fail
  refine HB.out.mono ?_
  rintro e w1 ⟨v, rfl, hv, hb1⟩
  obtain ⟨xg, yg, rfl, hxg, hyg⟩ := hv.some_
  obtain ⟨Ax, nx, cx, rfl⟩ := hxg.sl
  obtain ⟨Ay, ny, cy, rfl⟩ := hyg.sl
  obtain ⟨W1, e1, r1, b1, s1⟩ := newS w1 36 [.bool false, .slice none 0 0, .slice none 0 0] _ rfl
  obtain ⟨g1, hg1⟩ : ∃ x, w1.heap.size = x := ⟨_, rfl⟩
  rw [hg1] at r1
  have HN1 := Lib.hid (NoU.of_row r1 (noU3 (by intro x h; cases h) (by intro x h; cases h) (by intro x h; cases h)))
  have HV := Lib.hid (hv.later b1)
  have HB1 := Lib.hid (hb1.trans (b1.mono hb1.size))
  have HL1 := Lib.hid (show w.heap.size ≤ g1 by have := hb1.size; omega)
  clear hxg hyg hv hb1 b1 s1
  go_wp2_with ((with_reducible show wpList _ _ _ (⟨none, _, _, _, _, _⟩ :: _) _ _); refine wlS_store rfl 36 3 Try.sizePt _ _ rfl g1 [.bool false, .slice Ax nx cx, .slice Ay ny cy] rfl rfl 36 _ r1 rfl rfl (ones3 rfl rfl rfl) ?_; intro w2 hr2 hg2 hz; obtain ⟨Wk, ek, rk, bk, sk⟩ := newS w2 49 [.int .u64 2] _ rfl; obtain ⟨gk, hgk⟩ : ∃ x, W1.heap.size = x := ⟨_, rfl⟩; rw [hz, hgk] at rk; have hrk := hr2.later bk; have d0 := hrk.at_ (i := 0) rfl; have d1 := hrk.at_ (i := 1) rfl; have d2 := hrk.at_ (i := 2) rfl)
  have HZ2 := Lib.hid hz
  have HV2 := Lib.hid (HV.out.sb ⟨g1, HN1.out, hg2⟩)
  have HB2 := Lib.hid (below_grown HB1.out hg2 HL1.out HB1.out.size)
  have HR2 := Lib.hid hr2
  clear HV HB1 HN1 hr2 hg2 hz r1 e1 hg1
  have hvk : NumR Wk 64 2 (.slice (some ⟨gk, 0, none⟩) 1 1) := by
    refine ⟨[2], _, _, _, rfl, ⟨rfl, by decide, by decide, fun _ => ⟨gk, 0, rfl, rk.lt, fun k x hx => ?_⟩⟩, fun y hy => by simp at hy; subst hy; decide, rfl, by decide⟩
    rcases k with _ | k
    · simp at hx
      subst hx
      exact rk.at_ rfl
    · simp at hx
  have HVK := Lib.hid (HV2.out.later bk)
  have HRK := Lib.hid hrk
  have HBK := Lib.hid (HB2.out.trans (bk.mono HB2.out.size))
  have HML := Lib.hid (cMul_yes Wk 1 crv256 rfl (.slice (some ⟨gk, 0, none⟩) 1 1) (.agg #[.bool false, .slice Ax nx cx, .slice Ay ny cy]) 2 hvk (some (crv256.gx, crv256.gy)) HVK.out.pg has_g (by decide +kernel) (by decide +kernel) 2 (by decide +kernel))
  clear hvk rk bk sk hrk HV2 HR2 HB2
  refine HML.out.mono ?_
  rintro e w3 ⟨v, k0, rfl, hk0, ⟨R, hR, hPt⟩, hb3⟩
  obtain rfl := two_mul hk0 hR
  obtain ⟨x2, y2, rfl, hx2, hy2⟩ := hPt.some_
  obtain ⟨A2, n2, c2, rfl⟩ := hx2.sl
  obtain ⟨B2, m2, q2, rfl⟩ := hy2.sl
  obtain ⟨W4, e4, r4, b4, s4⟩ := newS w3 36 [.bool false, .slice none 0 0, .slice none 0 0] _ rfl
  obtain ⟨g4, hg4⟩ : ∃ x, w3.heap.size = x := ⟨_, rfl⟩
  rw [hg4] at r4
  have HN4 := Lib.hid (NoU.of_row r4 (noU3 (by intro x h; cases h) (by intro x h; cases h) (by intro x h; cases h)))
  have HP4 := Lib.hid (hPt.later b4)
  have HG4 := Lib.hid ((HVK.out.later hb3).later b4)
  have HR4 := Lib.hid ((HRK.out.later hb3).later b4)
  have hb34 := HBK.out.trans (hb3.mono HBK.out.size)
  have HB4 := Lib.hid (hb34.trans (b4.mono hb34.size))
  have HL4 := Lib.hid (show w.heap.size ≤ g4 ∧ g1 ≠ g4 by have := hb34.size; have := (HRK.out.later hb3).lt; omega)
  clear hk0 hR hPt hx2 hy2 hb3 hb34 b4 s4 d0 d1 d2 HML HVK HRK HBK ek hgk
  go_wp2_with ((with_reducible show wpList _ _ _ (⟨none, _, _, _, _, _⟩ :: _) _ _); refine wlS_store rfl 36 3 Try.sizePt _ _ rfl g4 [.bool false, .slice A2 n2 c2, .slice B2 m2 q2] rfl rfl 36 _ r4 rfl rfl (ones3 rfl rfl rfl) ?_; intro w5 hr5 hg5 hz; have t1 := HR4.out.grown hg5 HL4.out.2; have d0 := t1.at_ (i := 0) rfl; have d1 := t1.at_ (i := 1) rfl; have d2 := t1.at_ (i := 2) rfl)
  have hsb5 : Sb W4 w5 := ⟨g4, HN4.out, hg5⟩
  have HP5 := Lib.hid (HP4.out.sb hsb5)
  have HG5 := Lib.hid (HG4.out.sb hsb5)
  have HB5 := Lib.hid (below_grown HB4.out hg5 HL4.out.1 HB4.out.size)
  have HR15 := Lib.hid t1
  have HR45 := Lib.hid hr5
  have HAD := Lib.hid (cAdd_yes w5 1 crv256 rfl _ _ _ _ HG5.out.pg HG5.out.pg has_g has_g)
  clear hsb5 hr5 hg5 hz t1 HP4 HG4 HR4 HB4 HN4 r4 e4 hg4
  refine HAD.out.mono ?_
  rintro e w6 ⟨v, rfl, ⟨R, hR, hPt⟩, hb6⟩
  obtain rfl := two_add hR
  obtain ⟨x3, y3, rfl, hx3, hy3⟩ := hPt.some_
  obtain ⟨A3, n3, c3, rfl⟩ := hx3.sl
  obtain ⟨B3, m3, q3, rfl⟩ := hy3.sl
  obtain ⟨W7, e7, r7, b7, s7⟩ := newS w6 36 [.bool false, .slice none 0 0, .slice none 0 0] _ rfl
  obtain ⟨g7, hg7⟩ : ∃ x, w6.heap.size = x := ⟨_, rfl⟩
  rw [hg7] at r7
  have HN7 := Lib.hid (NoU.of_row r7 (noU3 (by intro x h; cases h) (by intro x h; cases h) (by intro x h; cases h)))
  have HQ7 := Lib.hid (hPt.later b7)
  have HP7 := Lib.hid ((HP5.out.later hb6).later b7)
  have HG7 := Lib.hid ((HG5.out.later hb6).later b7)
  have HR17 := Lib.hid ((HR15.out.later hb6).later b7)
  have HR47 := Lib.hid ((HR45.out.later hb6).later b7)
  have hb56 := HB5.out.trans (hb6.mono HB5.out.size)
  have HB7 := Lib.hid (hb56.trans (b7.mono hb56.size))
  have HL7 := Lib.hid (show w.heap.size ≤ g7 ∧ g1 ≠ g7 ∧ g4 ≠ g7 by have := hb56.size; have := (HR15.out.later hb6).lt; have := (HR45.out.later hb6).lt; omega)
  clear hR hPt hx3 hy3 hb6 hb56 b7 s7 d0 d1 d2 HAD HP5 HG5 HB5 HR15 HR45
  go_wp2_with ((with_reducible show wpList _ _ _ (⟨none, _, _, _, _, _⟩ :: _) _ _); refine wlS_store rfl 36 3 Try.sizePt _ _ rfl g7 [.bool false, .slice A3 n3 c3, .slice B3 m3 q3] rfl rfl 36 _ r7 rfl rfl (ones3 rfl rfl rfl) ?_; intro w8 hr8 hg8 hz; have t4 := HR47.out.grown hg8 HL7.out.2.2; have d0 := t4.at_ (i := 0) rfl; have d1 := t4.at_ (i := 1) rfl; have d2 := t4.at_ (i := 2) rfl)
  have hsb8 : Sb W7 w8 := ⟨g7, HN7.out, hg8⟩
  have HQ8 := Lib.hid (HQ7.out.sb hsb8)
  have HP8 := Lib.hid (HP7.out.sb hsb8)
  have HG8 := Lib.hid (HG7.out.sb hsb8)
  have HB8 := Lib.hid (below_grown HB7.out hg8 HL7.out.1 HB7.out.size)
  have HR18 := Lib.hid (HR17.out.grown hg8 HL7.out.2.1)
  have HR48 := Lib.hid t4
  have HR78 := Lib.hid hr8
  have HEN := Lib.hid (cEnc_yes w8 1 crv256 rfl _ _ HP8.out.pg twoX twoY rfl has_two (by decide) (by decide) (by decide +kernel))
  clear hsb8 hr8 hg8 hz t4 HQ7 HP7 HG7 HB7 HR17 HR47 HN7 r7 e7 hg7
  refine HEN.out.mono ?_
  rintro e w9 ⟨v, rfl, hown, hb9⟩
  obtain ⟨Ae, ce, rfl, hse, -, hne⟩ := SlV.of_own hown
  have hl65 : (encN crv256.size (some (twoX, twoY))).length = 65 := by simp [encN, beW, be_length, crv256]
  rw [hl65] at hse
  obtain ⟨be, oe, _, rfl, _, _, _⟩ := hse.at_ (k := 0) (by decide)
  have henc : encN crv256.size (some (twoX, twoY)) = 4 :: (beW 32 twoX ++ beW 32 twoY) := rfl
  rw [henc] at hse
  have HSE := Lib.hid hse
  have hlx : (beW 32 twoX).length = 32 := by simp [beW, be_length]
  have HDE := Lib.hid (cDec_good w9 1 crv256 rfl be oe 65 ce 4 (beW 32 twoX ++ beW 32 twoY) hse (by decide) rfl rfl (by decide) twoX twoY
    (by rw [show crv256.size = 32 from rfl, List.take_left' hlx]; exact numB_be 32 twoX (by decide +kernel))
    (by rw [show crv256.size = 32 from rfl, List.drop_left' hlx]; exact numB_be 32 twoY (by decide +kernel)) has_two)
  rw [hl65]
  have HB9 := Lib.hid (HB8.out.trans (hb9.mono HB8.out.size))
  have HQ9 := Lib.hid (HQ8.out.later hb9)
  have HG9 := Lib.hid (HG8.out.later hb9)
  have HR19 := Lib.hid (HR18.out.later hb9)
  have HR79 := Lib.hid (HR78.out.later hb9)
  clear hown hb9 hne hse henc hl65 hlx d0 d1 d2 HEN HQ8 HP8 HG8 HB8 HR18 HR48 HR78
  go_wp2_with fail
  refine HDE.out.mono ?_
  rintro e w10 ⟨v, rfl, hPt, hb10⟩
  obtain ⟨x5, y5, rfl, hx5, hy5⟩ := hPt.some_
  obtain ⟨A5, c5, rfl⟩ := nu_len hx5 (m := 3) (by decide +kernel) (by decide +kernel)
  obtain ⟨B5, m5, q5, rfl⟩ := hy5.sl
  obtain ⟨W11, e11, r11, b11, s11⟩ := newS w10 36 [.bool false, .slice none 0 0, .slice none 0 0] _ rfl
  obtain ⟨g11, hg11⟩ : ∃ x, w10.heap.size = x := ⟨_, rfl⟩
  rw [hg11] at r11
  have HQ11 := Lib.hid ((HQ9.out.later hb10).later b11)
  have HG11 := Lib.hid ((HG9.out.later hb10).later b11)
  have HR111 := Lib.hid ((HR19.out.later hb10).later b11)
  have HR711 := Lib.hid ((HR79.out.later hb10).later b11)
  have hb910 := HB9.out.trans (hb10.mono HB9.out.size)
  have HB11 := Lib.hid (hb910.trans (b11.mono hb910.size))
  have HN11 := Lib.hid (NoU.of_row r11 (noU3 (by intro x h; cases h) (by intro x h; cases h) (by intro x h; cases h)))
  have HL11 := Lib.hid (show w.heap.size ≤ g11 ∧ g1 ≠ g11 ∧ g7 ≠ g11 by have := hb910.size; have := (HR19.out.later hb10).lt; have := (HR79.out.later hb10).lt; omega)
  clear hPt hx5 hy5 hb10 hb910 b11 s11 HDE HQ9 HG9 HB9 HR19 HR79 HSE
  go_wp2_with ((with_reducible show wpList _ _ _ (⟨none, _, _, _, _, _⟩ :: _) _ _); refine wlS_store rfl 36 3 Try.sizePt _ _ rfl g11 [.bool false, .slice A5 4 c5, .slice B5 m5 q5] rfl rfl 36 _ r11 rfl rfl (ones3 rfl rfl rfl) ?_; intro w12 hr12 hg12 hz; have t1 := HR111.out.grown hg12 HL11.out.2.1; have d0 := t1.at_ (i := 0) rfl; have d1 := t1.at_ (i := 1) rfl; have d2 := t1.at_ (i := 2) rfl)
  have hsb12 : Sb W11 w12 := ⟨g11, HN11.out, hg12⟩
  have HQ12 := Lib.hid (HQ11.out.sb hsb12)
  have HG12 := Lib.hid (HG11.out.sb hsb12)
  have HB12 := Lib.hid (below_grown HB11.out hg12 HL11.out.1 HB11.out.size)
  have HR712 := Lib.hid (HR711.out.grown hg12 HL11.out.2.2)
  have HR1112 := Lib.hid hr12
  have HMU := Lib.hid (cMult_yes w12 1 crv256 rfl _ _ HG12.out.pg has_g)
  clear hsb12 hr12 hg12 hz t1 HQ11 HG11 HB11 HR111 HR711 HN11 r11 e11 hg11
  refine HMU.out.mono ?_
  rintro e w13 ⟨g7', g5', a', b', d', dd, rfl, -, -, -, -, -, -, hb13⟩
  have HQ13 := Lib.hid (HQ12.out.later hb13)
  have hr713 := HR712.out.later hb13
  have h70 := hr713.at_ (i := 0) rfl
  have h71 := hr713.at_ (i := 1) rfl
  have h72 := hr713.at_ (i := 2) rfl
  have HR1113 := Lib.hid (HR1112.out.later hb13)
  have HB13 := Lib.hid (HB12.out.trans (hb13.mono HB12.out.size))
  have hnil := neq_nilIt g7' g5' w13
  have HON := Lib.hid (cOn_yes w13 1 crv256 rfl _ _ HQ13.out.pg)
  clear hb13 hr713 d0 d1 d2 HMU HQ12 HG12 HB12 HR712 HR1112
  go_wp2_with fail
  refine HON.out.mono ?_
  rintro e w14 ⟨rfl, hb14⟩
  have hdec : decide (hasN crv256.p crv256.b (some (twoX, twoY))) = true := decide_eq_true has_two
  rw [hdec]
  have h8 := HR1113.out.later hb14
  have h81 := h8.at_ (i := 1) rfl
  have HB14 := Lib.hid (HB13.out.trans (hb14.mono HB13.out.size))
  have HSI := Lib.hid (cSize_yes w14 2 crv384 rfl)
  clear hnil hdec h8 hb14 h70 h71 h72 HON HQ13 HR1113
  go_wp2_with fail
  refine HSI.out.mono ?_
  rintro e w15 ⟨rfl, hb15⟩
  have HB15 := Lib.hid (HB14.out.trans (hb15.mono HB14.out.size))
  have HOR := Lib.hid (cOrder_yes w15 1 crv256 rfl)
  have e48 : ((crv384.size : Nat) : Int) = 48 := rfl
  rw [e48]
  clear hb15 h81 HSI e48
  go_wp2_with fail
  refine HOR.out.mono ?_
  rintro e w16 ⟨v, rfl, hv, hb16⟩
  obtain ⟨A6, c6, rfl⟩ := nu_len hv (m := 3) (by decide +kernel) (by decide +kernel)
  have HB16 := Lib.hid (HB15.out.trans (hb16.mono HB15.out.size))
  clear hv hb16 HOR
  go_wp2
  go_ret
  exact ⟨rfl, HB16.out⟩
end Go.Proofs.Ytmmmcbklgmjalaa

/- curve: Prime. -/
set_option linter.unusedVariables false
set_option linter.unusedSimpArgs false
namespace Go.Proofs.Ytmmmcbklgmjalaa
open Go.RowKit

set_option maxRecDepth 100000 in
set_option maxHeartbeats 4000000 in
theorem cPrime_yes (w : World) (c : Int) (D : Crv) (hc : crvOf c = some D) :
    Calls Try.prog 9 #[.int .i64 c] w fun e w' => RetU w D.p e w' := by
  have HB := Lib.hid (Below.refl w.heap.size w)
  have HD := Lib.hid (domOf_yes w c D hc)
  clear hc
  go_enter Try.func9, Try.ntmps9
  go_wp2_with fail
  refine HD.out.mono ?_
  rintro e w1 ⟨vd, rfl, hvd, hb1⟩
  obtain ⟨vp, vb, vn, vx, vy, rfl, k1, k2, k3, k4, k5⟩ := hvd
  obtain ⟨Ap, np, cp, rfl⟩ := k1.sl
  obtain ⟨Ab, nb, cb, rfl⟩ := k2.sl
  obtain ⟨An, nn, cn, rfl⟩ := k3.sl
  obtain ⟨Ax, nx, cx, rfl⟩ := k4.sl
  obtain ⟨Ay, ny, cy, rfl⟩ := k5.sl
  have HDM := Lib.hid (show Dm w1 _ D from ⟨_, _, _, _, _, rfl, k1, k2, k3, k4, k5⟩)
  obtain ⟨W5, e5, r5, b5, s5⟩ := newS w1 59 [.int .i64 0, .slice none 0 0, .slice none 0 0, .slice none 0 0, .bool false, .slice none 0 0, .slice none 0 0] _ rfl
  obtain ⟨g8, hg8⟩ : ∃ x, w1.heap.size = x := ⟨_, rfl⟩
  rw [hg8] at r5
  have HB5 := Lib.hid b5
  have HB1 := Lib.hid hb1
  have HG8 := Lib.hid (show w1.heap.size ≤ g8 by omega)
  have HNU := Lib.hid (NoU.of_row r5 (by intro v hv x; simp only [List.mem_cons, List.not_mem_nil, or_false] at hv; rcases hv with rfl | rfl | rfl | rfl | rfl | rfl | rfl <;> (intro h; cases h)))
  clear hb1 b5 s5 k1 k2 k3 k4 k5
  go_wp2_with ((with_reducible show wpList _ _ _ (⟨none, _, _, _, _, _⟩ :: _) _ _); refine wlS_store rfl 59 7 Try.sizeDom _ _ rfl g8 [.int .i64 (D.size : Int), .slice Ap np cp, .slice Ab nb cb, .slice An nn cn, .bool false, .slice Ax nx cx, .slice Ay ny cy] rfl rfl 59 _ r5 rfl rfl (by intro v hv; simp only [List.mem_cons, List.not_mem_nil, or_false] at hv; rcases hv with rfl | rfl | rfl | rfl | rfl | rfl | rfl <;> rfl) ?_; intro w6 hr6 hg6 hz; have f0 := hr6.at_ (i := 0) rfl; have f1 := hr6.at_ (i := 1) rfl; have f3 := hr6.at_ (i := 3) rfl)
  have hbw1 := HB.out.trans (HB1.out.mono HB.out.size)
  have hbw5 := hbw1.trans (HB5.out.mono hbw1.size)
  have hb6 := below_grown hbw5 hg6 (by have := HG8.out; have := hbw1.size; omega) hbw5.size
  have hsb : Sb W5 w6 := ⟨g8, HNU.out, hg6⟩
  have hdm := (HDM.out.later HB5.out).sb hsb
  obtain ⟨_, _, _, _, _, he, k1, k2, k3, k4, k5⟩ := hdm
  injection he with he
  simp at he
  obtain ⟨⟨rfl, rfl, rfl⟩, ⟨rfl, rfl, rfl⟩, ⟨rfl, rfl, rfl⟩, ⟨rfl, rfl, rfl⟩, ⟨rfl, rfl, rfl⟩⟩ := he
  go_ret
  exact ⟨_, rfl, k1, hb6⟩

set_option maxRecDepth 100000 in
set_option maxHeartbeats 4000000 in
theorem cPrime_no (w : World) (c : Int) (hc : crvOf c = none) :
    Calls Try.prog 9 #[.int .i64 c] w fun e w' => RetU w 0 e w' := by
  have HB := Lib.hid (Below.refl w.heap.size w)
  have HD := Lib.hid (domOf_no w c hc)
  clear hc
  go_enter Try.func9, Try.ntmps9
  go_wp2_with fail
  refine HD.out.mono ?_
  rintro e w1 ⟨rfl, hb1⟩
  obtain ⟨W5, e5, r5, b5, s5⟩ := newS w1 59 [.int .i64 0, .slice none 0 0, .slice none 0 0, .slice none 0 0, .bool false, .slice none 0 0, .slice none 0 0] _ rfl
  obtain ⟨g8, hg8⟩ : ∃ x, w1.heap.size = x := ⟨_, rfl⟩
  rw [hg8] at r5
  have HB5 := Lib.hid b5
  have HB1 := Lib.hid hb1
  have HG8 := Lib.hid (show w1.heap.size ≤ g8 by omega)
  have HNU := Lib.hid (NoU.of_row r5 (by intro v hv x; simp only [List.mem_cons, List.not_mem_nil, or_false] at hv; rcases hv with rfl | rfl | rfl | rfl | rfl | rfl | rfl <;> (intro h; cases h)))
  clear hb1 b5 s5
  go_wp2_with ((with_reducible show wpList _ _ _ (⟨none, _, _, _, _, _⟩ :: _) _ _); refine wlS_store rfl 59 7 Try.sizeDom _ _ rfl g8 [.int .i64 0, .slice none 0 0, .slice none 0 0, .slice none 0 0, .bool false, .slice none 0 0, .slice none 0 0] rfl rfl 59 _ r5 rfl rfl (by intro v hv; simp only [List.mem_cons, List.not_mem_nil, or_false] at hv; rcases hv with rfl | rfl | rfl | rfl | rfl | rfl | rfl <;> rfl) ?_; intro w6 hr6 hg6 hz; have f0 := hr6.at_ (i := 0) rfl; have f1 := hr6.at_ (i := 1) rfl; have f3 := hr6.at_ (i := 3) rfl)
  have hbw1 := HB.out.trans (HB1.out.mono HB.out.size)
  have hbw5 := hbw1.trans (HB5.out.mono hbw1.size)
  have hb6 := below_grown hbw5 hg6 (by have := HG8.out; have := hbw1.size; omega) hbw5.size
  go_ret
  exact ⟨_, rfl, Nu.nil _, hb6⟩

end Go.Proofs.Ytmmmcbklgmjalaa

/- The reference's curves: Of, Base. -/
set_option linter.unusedVariables false
set_option linter.unusedSimpArgs false
namespace Go.Proofs.Ytmmmcbklgmjalaa
open Go.RowKit

/-- a number of the reference behind a value -/
def Nb (w : World) (v : Value) (k : Nat) : Prop := ∃ xs A n c, v = .slice A n c ∧ Sl w w.heap.size A n c xs ∧ Nm b32 xs k ∧ n ≤ 4096
theorem Nb.sb {w w' : World} {v : Value} {k : Nat} (h : Nb w v k) (hb : Sb w w') : Nb w' v k := by
  obtain ⟨xs, A, n, c, e, hs, hn, hl⟩ := h
  exact ⟨xs, A, n, c, e, hs.sb hb, hn, hl⟩
theorem Nb.later {w w' : World} {v : Value} {k : Nat} (h : Nb w v k) (hb : Below w.heap.size w w') : Nb w' v k := h.sb (Sb.of_below hb)
theorem Nb.sl {w : World} {v : Value} {k : Nat} (h : Nb w v k) : ∃ A n c, v = .slice A n c := by
  obtain ⟨xs, A, n, c, e, _⟩ := h
  exact ⟨A, n, c, e⟩
theorem Nb.nil (w : World) : Nb w (.slice none 0 0) 0 :=
  ⟨[], none, 0, 0, rfl, Sl.nil _ _ _ (by omega), ⟨fun x hx => (by cases hx), fun x hx => (by cases hx), rfl⟩, by omega⟩
theorem Nb.of {w : World} {n c k : Nat} {A : Option Addr} {xs : List Nat} (hs : Sl w w.heap.size A n c xs) (hn : Nm b32 xs k) (hk : k < b32 ^ 4096) : Nb w (.slice A n c) k :=
  ⟨xs, A, n, c, rfl, hs, hn, by rw [hs.len]; exact hn.length_le (by decide) hk⟩
theorem Nb.no {w : World} {v : Value} {k : Nat} (h : Nb w v k) : ∀ x, v ≠ .int .u64 x := by
  obtain ⟨xs, A, n, c, rfl, _⟩ := h
  intro x hx
  cases hx
/-- a call returns a number of the reference -/
def RetB (w : World) (k : Nat) (e : Ending) (w' : World) : Prop := ∃ v, e = .returned v ∧ Nb w' v k ∧ Below w.heap.size w w'
theorem b64_128 : b64 ^ 64 ≤ b32 ^ 4096 := by decide +kernel
theorem from_u (w : World) (v : Value) (k : Nat) (h : NumR w 64 k v) : Calls Try.prog 19 #[v] w fun e w' => RetB w k e w' := by
  have hlt := h.lt
  obtain ⟨xs, A, n, c, rfl, hs, hd, rfl, hl⟩ := h
  refine (from_any w _ (Nat.le_refl _) A n c xs hs hd (by omega)).mono ?_
  rintro e w' ⟨ys, hn, A', n', c', rfl, hs', hb⟩
  exact ⟨_, rfl, Nb.of hs' hn (Nat.lt_of_lt_of_le hlt b64_128), hb⟩
theorem from_lit (w : World) (n : Nat) (xs : List Nat) (arr : Array Value) (ha : arr = (xs.map U).toArray) (k : Nat) (hn : n = xs.length) (hn1 : n ≤ 60) (hk : Nm b64 xs k) :
    Calls Try.prog 19 #[.slice (some ⟨w.heap.size, 0, none⟩) n n] (w.alloc (.cells arr 49)) fun e w' => RetB w k e w' := by
  subst ha
  have hr := RowV.new w 49 (xs.map U)
  have hb : Below w.heap.size w (w.alloc (.cells (xs.map U).toArray 49)) := (Below.refl _ w).alloc (Nat.le_refl _) _
  have hr' : Row (w.alloc (.cells (xs.map U).toArray 49)) w.heap.size xs := hr
  have hs := hr'.sl (by omega)
  rw [← hn] at hs
  refine (from_u _ _ k ⟨xs, _, n, n, rfl, hs, hk.1, hk.2.2, by omega⟩).mono ?_
  rintro e w' ⟨v, rfl, hv, hB⟩
  exact ⟨_, rfl, hv, hb.trans (hB.mono hb.size)⟩
theorem Try.sizeCr : (Try.prog.info? 26).map (·.size) = some 6 := by kernel_rfl
theorem Try.sizeRp : (Try.prog.info? 29).map (·.size) = some 3 := by kernel_rfl
theorem results_cr {fn : Func} {q : Tmp} {w : World} (h : fn.results = #[.cell q 26]) (tmps : Array Value) (g : Nat) (vs : List Value) (hp : tmps.getD q undef = .pointer (some ⟨g, 0, none⟩)) (hr : RowV 26 w g vs) (hl : vs.length = 6) :
    (results fn tmps).run Try.prog w = .ok (.agg vs.toArray) w :=
  results_cell_row h tmps w g _ vs.toArray (0, 0) _ hp hr Try.underlying26 rfl (by rw [Try.sizeCr]; simp [hl])
theorem results_rp {fn : Func} {q : Tmp} {w : World} (h : fn.results = #[.cell q 29]) (tmps : Array Value) (g : Nat) (vs : List Value) (hp : tmps.getD q undef = .pointer (some ⟨g, 0, none⟩)) (hr : RowV 29 w g vs) (hl : vs.length = 3) :
    (results fn tmps).run Try.prog w = .ok (.agg vs.toArray) w :=
  results_cell_row h tmps w g _ vs.toArray (0, 0) _ hp hr Try.underlying29 rfl (by rw [Try.sizeRp]; simp [hl])
/-- a value is a curve of the reference -/
def Cr (w : World) (v : Value) (D : Crv) : Prop := ∃ vp vn vb vx vy, v = .agg #[vp, vn, vb, vx, vy, .int .i64 (D.size : Int)] ∧ Nb w vp D.p ∧ Nb w vn D.n ∧ Nb w vb D.b ∧ Nb w vx D.gx ∧ Nb w vy D.gy
theorem Cr.sb {w w' : World} {v : Value} {D : Crv} (h : Cr w v D) (hb : Sb w w') : Cr w' v D := by
  obtain ⟨vp, vb, vn, vx, vy, e, h1, h2, h3, h4, h5⟩ := h
  exact ⟨vp, vb, vn, vx, vy, e, h1.sb hb, h2.sb hb, h3.sb hb, h4.sb hb, h5.sb hb⟩
theorem Cr.later {w w' : World} {v : Value} {D : Crv} (h : Cr w v D) (hb : Below w.heap.size w w') : Cr w' v D := h.sb (Sb.of_below hb)
/-- .. a point of the reference -/
def Rp (w : World) (v : Value) : Option (Nat × Nat) → Prop
  | none => ∃ a b, v = .agg #[.bool true, a, b] ∧ Nb w a 0 ∧ Nb w b 0
  | some (x, y) => ∃ a b, v = .agg #[.bool false, a, b] ∧ Nb w a x ∧ Nb w b y
theorem Rp.sb {w w' : World} {v : Value} {P : Option (Nat × Nat)} (h : Rp w v P) (hb : Sb w w') : Rp w' v P := by
  rcases P with _ | ⟨x, y⟩
  · obtain ⟨a, b, e, h1, h2⟩ := h
    exact ⟨a, b, e, h1.sb hb, h2.sb hb⟩
  · obtain ⟨a, b, e, h1, h2⟩ := h
    exact ⟨a, b, e, h1.sb hb, h2.sb hb⟩
theorem Rp.later {w w' : World} {v : Value} {P : Option (Nat × Nat)} (h : Rp w v P) (hb : Below w.heap.size w w') : Rp w' v P := h.sb (Sb.of_below hb)
/-- no curve's value -/
abbrev cr0 : Value := .agg #[.slice none 0 0, .slice none 0 0, .slice none 0 0, .slice none 0 0, .slice none 0 0, .int .i64 0]
theorem noU6 {a b c d e : Value} {z : Int} (ha : ∀ x, a ≠ .int .u64 x) (hb : ∀ x, b ≠ .int .u64 x) (hc : ∀ x, c ≠ .int .u64 x) (hd : ∀ x, d ≠ .int .u64 x) (he : ∀ x, e ≠ .int .u64 x) : ∀ v ∈ [a, b, c, d, e, .int .i64 z], ∀ x, v ≠ .int .u64 x := by
  intro v hv x
  simp only [List.mem_cons, List.not_mem_nil, or_false] at hv
  rcases hv with rfl | rfl | rfl | rfl | rfl | rfl
  · exact ha x
  · exact hb x
  · exact hc x
  · exact hd x
  · exact he x
  · intro h; cases h
theorem ones6 {a b c d e f : Value} (ha : a.oneCell' = true) (hb : b.oneCell' = true) (hc : c.oneCell' = true) (hd : d.oneCell' = true) (he : e.oneCell' = true) (hf : f.oneCell' = true) : Ones [a, b, c, d, e, f] := by
  intro v hv
  simp only [List.mem_cons, List.not_mem_nil, or_false] at hv
  rcases hv with rfl | rfl | rfl | rfl | rfl | rfl <;> assumption

set_option maxRecDepth 100000 in
set_option maxHeartbeats 1600000 in
theorem rOf9_no (w : World) (c : Int) (h : crvOf c = none) : Calls Try.prog 6 #[.int .i64 c] w fun e w' => e = .returned cr0 ∧ Below w.heap.size w w' := by
  have h1 : c ≠ 1 := by rintro rfl; cases h
  have h2 : c ≠ 2 := by rintro rfl; cases h
  obtain ⟨W0, e0, r0, b0, z0⟩ := newS w 26 [.slice none 0 0, .slice none 0 0, .slice none 0 0, .slice none 0 0, .slice none 0 0, .int .i64 0] _ rfl
  obtain ⟨gr, hgr⟩ : ∃ g, w.heap.size = g := ⟨_, rfl⟩
  have HGR := Lib.hid hgr
  rw [hgr] at r0
  go_enter Try.func6, Try.ntmps6
  go_wp2_with ((with_reducible show wpList _ _ _ (⟨none, _, _, _, _, _⟩ :: _) _ _); refine wlS_store rfl 26 6 Try.sizeCr _ _ rfl gr [.slice none 0 0, .slice none 0 0, .slice none 0 0, .slice none 0 0, .slice none 0 0, .int .i64 0] rfl rfl 26 _ r0 rfl rfl (ones6 rfl rfl rfl rfl rfl rfl) ?_; intro w6 hr6 hg6 hz6)
  refine ⟨rfl, _, results_cr rfl _ gr _ rfl hr6 rfl, rfl, below_grown b0 hg6 (by rw [HGR.out]; exact Nat.le_refl _) b0.size⟩

set_option maxRecDepth 100000 in
set_option maxHeartbeats 1600000 in
theorem rOf9_256 (w : World) : Calls Try.prog 6 #[.int .i64 1] w fun e w' => ∃ v, e = .returned v ∧ Cr w' v crv256 ∧ Below w.heap.size w w' := by
  have hlit : ∀ (W : World) (xs : List Nat) (arr : Array Value) (k : Nat), arr = (xs.map U).toArray → xs.length = 4 → Nm b64 xs k →
      Calls Try.prog 19 #[.slice (some ⟨W.heap.size, 0, none⟩) 4 4] (W.alloc (.cells arr 49)) fun e w' => RetB W k e w' :=
    fun W xs arr k h1 h2 h3 => from_lit W 4 xs arr h1 k h2.symm (by decide) h3
  obtain ⟨W0, e0, r0, b0, z0⟩ := newS w 26 [.slice none 0 0, .slice none 0 0, .slice none 0 0, .slice none 0 0, .slice none 0 0, .int .i64 0] _ rfl
  have HB0 := Lib.hid b0
  have HR := Lib.hid r0
  have HLIT := Lib.hid hlit
  clear b0 r0 hlit z0
  go_enter Try.func6, Try.ntmps6
  go_wp2_with fail
  refine (HLIT.out W0 [18446744073709551615, 4294967295, 0, 18446744069414584321] _ 0xffffffff00000001000000000000000000000000ffffffffffffffffffffffff rfl rfl (nm_of (by decide +kernel) (by decide +kernel) (by decide +kernel))).mono ?_
  rintro e w1 ⟨v1, rfl, hv1, hb1⟩
  have HV1 := Lib.hid hv1
  have HB1 := Lib.hid hb1
  clear hv1 hb1
  go_wp2_with fail
  refine (HLIT.out w1 [17562291160714782033, 13611842547513532036, 18446744073709551615, 18446744069414584320] _ 0xffffffff00000000ffffffffffffffffbce6faada7179e84f3b9cac2fc632551 rfl rfl (nm_of (by decide +kernel) (by decide +kernel) (by decide +kernel))).mono ?_
  rintro e w2 ⟨v2, rfl, hv2, hb2⟩
  have HV1 := Lib.hid (HV1.out.later hb2)
  have HV2 := Lib.hid hv2
  have HB2 := Lib.hid (HB1.out.trans (hb2.mono HB1.out.size))
  clear hv2 hb2
  go_wp2_with fail
  refine (HLIT.out w2 [4309448131093880907, 7285987128567378166, 12964664127075681980, 6540974713487397863] _ 0x5ac635d8aa3a93e7b3ebbd55769886bc651d06b0cc53b0f63bce3c3e27d2604b rfl rfl (nm_of (by decide +kernel) (by decide +kernel) (by decide +kernel))).mono ?_
  rintro e w3 ⟨v3, rfl, hv3, hb3⟩
  have HV1 := Lib.hid (HV1.out.later hb3)
  have HV2 := Lib.hid (HV2.out.later hb3)
  have HV3 := Lib.hid hv3
  have HB3 := Lib.hid (HB2.out.trans (hb3.mono HB2.out.size))
  clear hv3 hb3
  go_wp2_with fail
  refine (HLIT.out w3 [17627433388654248598, 8575836109218198432, 17923454489921339634, 7716867327612699207] _ 0x6b17d1f2e12c4247f8bce6e563a440f277037d812deb33a0f4a13945d898c296 rfl rfl (nm_of (by decide +kernel) (by decide +kernel) (by decide +kernel))).mono ?_
  rintro e w4 ⟨v4, rfl, hv4, hb4⟩
  have HV1 := Lib.hid (HV1.out.later hb4)
  have HV2 := Lib.hid (HV2.out.later hb4)
  have HV3 := Lib.hid (HV3.out.later hb4)
  have HV4 := Lib.hid hv4
  have HB4 := Lib.hid (HB3.out.trans (hb4.mono HB3.out.size))
  clear hv4 hb4
  go_wp2_with fail
  refine (HLIT.out w4 [14678990851816772085, 3156516839386865358, 10297457778147434006, 5756518291402817435] _ 0x4fe342e2fe1a7f9b8ee7eb4a7c0f9e162bce33576b315ececbb6406837bf51f5 rfl rfl (nm_of (by decide +kernel) (by decide +kernel) (by decide +kernel))).mono ?_
  rintro e w5 ⟨v5, rfl, hv5, hb5⟩
  have HV1 := Lib.hid (HV1.out.later hb5)
  have HV2 := Lib.hid (HV2.out.later hb5)
  have HV3 := Lib.hid (HV3.out.later hb5)
  have HV4 := Lib.hid (HV4.out.later hb5)
  have HV5 := Lib.hid hv5
  have HB5 := Lib.hid (HB4.out.trans (hb5.mono HB4.out.size))
  clear hv5 hb5
  have hRW := HR.out.later HB5.out
  obtain ⟨gr, hgr⟩ : ∃ g, w.heap.size = g := ⟨_, rfl⟩
  rw [hgr] at hRW ⊢
  have HGR := Lib.hid hgr
  clear e0
  obtain ⟨A1, n1, c1, rfl⟩ := HV1.out.sl
  obtain ⟨A2, n2, c2, rfl⟩ := HV2.out.sl
  obtain ⟨A3, n3, c3, rfl⟩ := HV3.out.sl
  obtain ⟨A4, n4, c4, rfl⟩ := HV4.out.sl
  obtain ⟨A5, n5, c5, rfl⟩ := HV5.out.sl
  go_wp2_with ((with_reducible show wpList _ _ _ (⟨none, _, _, _, _, _⟩ :: _) _ _); refine wlS_store rfl 26 6 Try.sizeCr _ _ rfl gr [.slice A1 n1 c1, .slice A2 n2 c2, .slice A3 n3 c3, .slice A4 n4 c4, .slice A5 n5 c5, .int .i64 32] rfl rfl 26 _ hRW rfl rfl (ones6 rfl rfl rfl rfl rfl rfl) ?_; intro w6 hr6 hg6 hz6)
  refine ⟨rfl, _, results_cr rfl _ gr _ rfl hr6 rfl, ?_⟩
  have hbw := HB0.out.trans (HB5.out.mono HB0.out.size)
  have hs6 : Sb w5 w6 := ⟨gr, NoU.of_row hRW (noU6 (by intro x h; cases h) (by intro x h; cases h) (by intro x h; cases h) (by intro x h; cases h) (by intro x h; cases h)), hg6⟩
  exact ⟨_, rfl, ⟨_, _, _, _, _, rfl, HV1.out.sb hs6, HV2.out.sb hs6, HV3.out.sb hs6, HV4.out.sb hs6, HV5.out.sb hs6⟩, below_grown hbw hg6 (by rw [HGR.out]; exact Nat.le_refl _) hbw.size⟩

set_option maxRecDepth 100000 in
set_option maxHeartbeats 1600000 in
theorem rOf9_384 (w : World) : Calls Try.prog 6 #[.int .i64 2] w fun e w' => ∃ v, e = .returned v ∧ Cr w' v crv384 ∧ Below w.heap.size w w' := by
  have hlit : ∀ (W : World) (xs : List Nat) (arr : Array Value) (k : Nat), arr = (xs.map U).toArray → xs.length = 6 → Nm b64 xs k →
      Calls Try.prog 19 #[.slice (some ⟨W.heap.size, 0, none⟩) 6 6] (W.alloc (.cells arr 49)) fun e w' => RetB W k e w' :=
    fun W xs arr k h1 h2 h3 => from_lit W 6 xs arr h1 k h2.symm (by decide) h3
  obtain ⟨W0, e0, r0, b0, z0⟩ := newS w 26 [.slice none 0 0, .slice none 0 0, .slice none 0 0, .slice none 0 0, .slice none 0 0, .int .i64 0] _ rfl
  have HB0 := Lib.hid b0
  have HR := Lib.hid r0
  have HLIT := Lib.hid hlit
  clear b0 r0 hlit z0
  go_enter Try.func6, Try.ntmps6
  go_wp2_with fail
  refine (HLIT.out W0 [4294967295, 18446744069414584320, 18446744073709551614, 18446744073709551615, 18446744073709551615, 18446744073709551615] _ 0xfffffffffffffffffffffffffffffffffffffffffffffffffffffffffffffffeffffffff0000000000000000ffffffff rfl rfl (nm_of (by decide +kernel) (by decide +kernel) (by decide +kernel))).mono ?_
  rintro e w1 ⟨v1, rfl, hv1, hb1⟩
  have HV1 := Lib.hid hv1
  have HB1 := Lib.hid hb1
  clear hv1 hb1
  go_wp2_with fail
  refine (HLIT.out w1 [17072048233947408755, 6348401684107011962, 14367412456785391071, 18446744073709551615, 18446744073709551615, 18446744073709551615] _ 0xffffffffffffffffffffffffffffffffffffffffffffffffc7634d81f4372ddf581a0db248b0a77aecec196accc52973 rfl rfl (nm_of (by decide +kernel) (by decide +kernel) (by decide +kernel))).mono ?_
  rintro e w2 ⟨v2, rfl, hv2, hb2⟩
  have HV1 := Lib.hid (HV1.out.later hb2)
  have HV2 := Lib.hid hv2
  have HB2 := Lib.hid (HB1.out.trans (hb2.mono HB1.out.size))
  clear hv2 hb2
  go_wp2_with fail
  refine (HLIT.out w2 [3064076045283764975, 14291673747578343837, 221811693264799578, 1737717031765098770, 10992729701402291481, 12912154004749740004] _ 0xb3312fa7e23ee7e4988e056be3f82d19181d9c6efe8141120314088f5013875ac656398d8a2ed19d2a85c8edd3ec2aef rfl rfl (nm_of (by decide +kernel) (by decide +kernel) (by decide +kernel))).mono ?_
  rintro e w3 ⟨v3, rfl, hv3, hb3⟩
  have HV1 := Lib.hid (HV1.out.later hb3)
  have HV2 := Lib.hid (HV2.out.later hb3)
  have HV3 := Lib.hid hv3
  have HB3 := Lib.hid (HB2.out.trans (hb3.mono HB2.out.size))
  clear hv3 hb3
  go_wp2_with fail
  refine (HLIT.out w3 [4203087948775033527, 6125724927633205612, 6482722621138151992, 7934563412932533144, 10282218360005504372, 12288012358878168375] _ 0xaa87ca22be8b05378eb1c71ef320ad746e1d3b628ba79b9859f741e082542a385502f25dbf55296c3a545e3872760ab7 rfl rfl (nm_of (by decide +kernel) (by decide +kernel) (by decide +kernel))).mono ?_
  rintro e w4 ⟨v4, rfl, hv4, hb4⟩
  have HV1 := Lib.hid (HV1.out.later hb4)
  have HV2 := Lib.hid (HV2.out.later hb4)
  have HV3 := Lib.hid (HV3.out.later hb4)
  have HV4 := Lib.hid hv4
  have HB4 := Lib.hid (HB3.out.trans (hb4.mono HB3.out.size))
  clear hv4 hb4
  go_wp2_with fail
  refine (HLIT.out w4 [8809917716911230559, 747793036959711645, 16850834916486723776, 17938995913990739068, 6745997240412855337, 3897828414440483951] _ 0x3617de4a96262c6f5d9e98bf9292dc29f8f41dbd289a147ce9da3113b5f0b8c00a60b1ce1d7e819d7a431d7c90ea0e5f rfl rfl (nm_of (by decide +kernel) (by decide +kernel) (by decide +kernel))).mono ?_
  rintro e w5 ⟨v5, rfl, hv5, hb5⟩
  have HV1 := Lib.hid (HV1.out.later hb5)
  have HV2 := Lib.hid (HV2.out.later hb5)
  have HV3 := Lib.hid (HV3.out.later hb5)
  have HV4 := Lib.hid (HV4.out.later hb5)
  have HV5 := Lib.hid hv5
  have HB5 := Lib.hid (HB4.out.trans (hb5.mono HB4.out.size))
  clear hv5 hb5
  have hRW := HR.out.later HB5.out
  obtain ⟨gr, hgr⟩ : ∃ g, w.heap.size = g := ⟨_, rfl⟩
  rw [hgr] at hRW ⊢
  have HGR := Lib.hid hgr
  clear e0
  obtain ⟨A1, n1, c1, rfl⟩ := HV1.out.sl
  obtain ⟨A2, n2, c2, rfl⟩ := HV2.out.sl
  obtain ⟨A3, n3, c3, rfl⟩ := HV3.out.sl
  obtain ⟨A4, n4, c4, rfl⟩ := HV4.out.sl
  obtain ⟨A5, n5, c5, rfl⟩ := HV5.out.sl
  go_wp2_with ((with_reducible show wpList _ _ _ (⟨none, _, _, _, _, _⟩ :: _) _ _); refine wlS_store rfl 26 6 Try.sizeCr _ _ rfl gr [.slice A1 n1 c1, .slice A2 n2 c2, .slice A3 n3 c3, .slice A4 n4 c4, .slice A5 n5 c5, .int .i64 48] rfl rfl 26 _ hRW rfl rfl (ones6 rfl rfl rfl rfl rfl rfl) ?_; intro w6 hr6 hg6 hz6)
  refine ⟨rfl, _, results_cr rfl _ gr _ rfl hr6 rfl, ?_⟩
  have hbw := HB0.out.trans (HB5.out.mono HB0.out.size)
  have hs6 : Sb w5 w6 := ⟨gr, NoU.of_row hRW (noU6 (by intro x h; cases h) (by intro x h; cases h) (by intro x h; cases h) (by intro x h; cases h) (by intro x h; cases h)), hg6⟩
  exact ⟨_, rfl, ⟨_, _, _, _, _, rfl, HV1.out.sb hs6, HV2.out.sb hs6, HV3.out.sb hs6, HV4.out.sb hs6, HV5.out.sb hs6⟩, below_grown hbw hg6 (by rw [HGR.out]; exact Nat.le_refl _) hbw.size⟩

theorem rOf9_yes (w : World) (c : Int) (D : Crv) (h : crvOf c = some D) : Calls Try.prog 6 #[.int .i64 c] w fun e w' => ∃ v, e = .returned v ∧ Cr w' v D ∧ Below w.heap.size w w' := by
  unfold crvOf at h
  split at h
  · rename_i h1
    subst h1
    obtain rfl := Option.some.inj h
    exact rOf9_256 w
  · split at h
    · rename_i h2
      subst h2
      obtain rfl := Option.some.inj h
      exact rOf9_384 w
    · cases h

set_option maxRecDepth 100000 in
set_option maxHeartbeats 1600000 in
theorem rBase9_raw (w : World) (Ap An Ab Ax Ay : Option Addr) (np cp nn cn nb cb nx cx ny cy : Nat) (z : Int) : Calls Try.prog 7 #[.agg #[.slice Ap np cp, .slice An nn cn, .slice Ab nb cb, .slice Ax nx cx, .slice Ay ny cy, .int .i64 z]] w fun e w' => e = .returned (.agg #[.bool false, .slice Ax nx cx, .slice Ay ny cy]) ∧ Below w.heap.size w w' := by
  obtain ⟨W0, e0, r0, b0, z0⟩ := newS w 26 [.slice Ap np cp, .slice An nn cn, .slice Ab nb cb, .slice Ax nx cx, .slice Ay ny cy, .int .i64 z] _ rfl
  obtain ⟨W1, e1, r1, b1, z1⟩ := newS W0 29 [.bool false, .slice none 0 0, .slice none 0 0] _ rfl
  have r01 := r0.later b1
  have f3 := r01.at_ (i := 3) rfl
  have f4 := r01.at_ (i := 4) rfl
  obtain ⟨g0, hg0⟩ : ∃ g, w.heap.size = g := ⟨_, rfl⟩
  obtain ⟨gr, hgr⟩ : ∃ g, W0.heap.size = g := ⟨_, rfl⟩
  have HGR := Lib.hid (show w.heap.size ≤ gr by omega)
  have HB := Lib.hid (b0.trans (b1.mono b0.size))
  rw [hgr] at r1
  rw [hg0] at f3 f4
  clear b0 b1 z0 z1 r0 r01
  go_enter Try.func7, Try.ntmps7
  go_wp2_with ((with_reducible show wpList _ _ _ (⟨none, _, _, _, _, _⟩ :: _) _ _); refine wlS_store rfl 29 3 Try.sizeRp _ _ rfl gr [.bool false, .slice Ax nx cx, .slice Ay ny cy] rfl rfl 29 _ r1 rfl rfl (ones3 rfl rfl rfl) ?_; intro w6 hr6 hg6 hz6)
  refine ⟨rfl, _, results_rp rfl _ gr _ rfl hr6 rfl, rfl, below_grown HB.out hg6 HGR.out HB.out.size⟩
theorem rBase9_any (w : World) (v : Value) (D : Crv) (h : Cr w v D) : Calls Try.prog 7 #[v] w fun e w' => ∃ v', e = .returned v' ∧ Rp w' v' (some (D.gx, D.gy)) ∧ Below w.heap.size w w' := by
  obtain ⟨vp, vn, vb, vx, vy, rfl, h1, h2, h3, h4, h5⟩ := h
  obtain ⟨Ap, np, cp, rfl⟩ := h1.sl
  obtain ⟨An, nn, cn, rfl⟩ := h2.sl
  obtain ⟨Ab, nb, cb, rfl⟩ := h3.sl
  obtain ⟨Ax, nx, cx, rfl⟩ := h4.sl
  obtain ⟨Ay, ny, cy, rfl⟩ := h5.sl
  refine (rBase9_raw w _ _ _ _ _ _ _ _ _ _ _ _ _ _ _ _).mono ?_
  rintro e w' ⟨rfl, hb⟩
  exact ⟨_, rfl, ⟨_, _, rfl, h4.later hb, h5.later hb⟩, hb⟩
end Go.Proofs.Ytmmmcbklgmjalaa

/- The reference's Is of points. -/
set_option linter.unusedVariables false
set_option linter.unusedSimpArgs false
namespace Go.Proofs.Ytmmmcbklgmjalaa
open Go.RowKit

theorem is_u (w : World) (v v' : Value) (k : Nat) (h : Nu w v k) (h' : Nb w v' k) : Calls Try.prog 8 #[v, v'] w fun e w' => RetV w (.bool true) e w' := by
  obtain ⟨xs, A, n, c, rfl, hs, hn, hl⟩ := h
  obtain ⟨ys, A2, n2, c2, rfl, hs2, hn2, hl2⟩ := h'
  exact is_any w _ (Nat.le_refl _) A n c xs hs A2 n2 c2 ys hs2 k hn hn2 (by omega)

set_option maxRecDepth 100000 in
set_option maxHeartbeats 1600000 in
theorem is9_true (w : World) (a b c d : Value) (x y : Nat) (h1 : Nu w a x) (h2 : Nu w b y) (h3 : Nb w c x) (h4 : Nb w d y) :
    Calls Try.prog 11 #[.agg #[.bool true, a, b], .agg #[.bool true, c, d]] w fun e w' => RetV w (.bool true) e w' := by
  obtain ⟨Aa, na, ca, rfl⟩ := h1.sl
  obtain ⟨Ab, nb, cb, rfl⟩ := h2.sl
  obtain ⟨Ac, nc, cc, rfl⟩ := h3.sl
  obtain ⟨Ad, nd, cd, rfl⟩ := h4.sl
  obtain ⟨W0, e0, r0, b0, z0⟩ := newS w 36 [.bool true, .slice Aa na ca, .slice Ab nb cb] _ rfl
  obtain ⟨W1, e1, r1, b1, z1⟩ := newS W0 29 [.bool true, .slice Ac nc cc, .slice Ad nd cd] _ rfl
  have r01 := r0.later b1
  have hb := b0.trans (b1.mono b0.size)
  have HB := Lib.hid hb
  have H1 := Lib.hid (is_u W1 _ _ x (h1.later hb) (h3.later hb))
  have H2 := Lib.hid (h2.later hb)
  have H4 := Lib.hid (h4.later hb)
  obtain ⟨g0, hg0⟩ : ∃ g, w.heap.size = g := ⟨_, rfl⟩
  obtain ⟨g1, hg1⟩ : ∃ g, W0.heap.size = g := ⟨_, rfl⟩
  rw [hg0] at r01
  rw [hg1] at r1
  have R0 := Lib.hid r01
  have R1 := Lib.hid r1
  have a0 := r01.at_ (i := 0) rfl
  have a1 := r01.at_ (i := 1) rfl
  have c0 := r1.at_ (i := 0) rfl
  have c1 := r1.at_ (i := 1) rfl
  clear h1 h2 h3 h4 r0 r1 r01 b0 b1 z0 z1 hb
  go_enter Try.func11, Try.ntmps11
  go_wp2_with fail
  refine H1.out.mono ?_
  rintro e w2 ⟨rfl, hb2⟩
  have a2 := (R0.out.later hb2).at_ (i := 2) rfl
  have c2 := (R1.out.later hb2).at_ (i := 2) rfl
  have H5 := Lib.hid (is_u w2 _ _ y (H2.out.later hb2) (H4.out.later hb2))
  have HB2 := Lib.hid (HB.out.trans (hb2.mono HB.out.size))
  clear hb2 a0 a1 c0 c1 R0 R1 H2 H4 HB
  go_wp2_with fail
  refine H5.out.mono ?_
  rintro e w3 ⟨rfl, hb3⟩
  have HB3 := Lib.hid (HB2.out.trans (hb3.mono HB2.out.size))
  clear hb3 a2 c2 HB2
  go_wp2
  go_ret
  exact ⟨rfl, HB3.out⟩

set_option maxRecDepth 100000 in
set_option maxHeartbeats 1600000 in
theorem is9_false (w : World) (a b c d : Value) (x y : Nat) (h1 : Nu w a x) (h2 : Nu w b y) (h3 : Nb w c x) (h4 : Nb w d y) :
    Calls Try.prog 11 #[.agg #[.bool false, a, b], .agg #[.bool false, c, d]] w fun e w' => RetV w (.bool true) e w' := by
  obtain ⟨Aa, na, ca, rfl⟩ := h1.sl
  obtain ⟨Ab, nb, cb, rfl⟩ := h2.sl
  obtain ⟨Ac, nc, cc, rfl⟩ := h3.sl
  obtain ⟨Ad, nd, cd, rfl⟩ := h4.sl
  obtain ⟨W0, e0, r0, b0, z0⟩ := newS w 36 [.bool false, .slice Aa na ca, .slice Ab nb cb] _ rfl
  obtain ⟨W1, e1, r1, b1, z1⟩ := newS W0 29 [.bool false, .slice Ac nc cc, .slice Ad nd cd] _ rfl
  have r01 := r0.later b1
  have hb := b0.trans (b1.mono b0.size)
  have HB := Lib.hid hb
  have H1 := Lib.hid (is_u W1 _ _ x (h1.later hb) (h3.later hb))
  have H2 := Lib.hid (h2.later hb)
  have H4 := Lib.hid (h4.later hb)
  obtain ⟨g0, hg0⟩ : ∃ g, w.heap.size = g := ⟨_, rfl⟩
  obtain ⟨g1, hg1⟩ : ∃ g, W0.heap.size = g := ⟨_, rfl⟩
  rw [hg0] at r01
  rw [hg1] at r1
  have R0 := Lib.hid r01
  have R1 := Lib.hid r1
  have a0 := r01.at_ (i := 0) rfl
  have a1 := r01.at_ (i := 1) rfl
  have c0 := r1.at_ (i := 0) rfl
  have c1 := r1.at_ (i := 1) rfl
  clear h1 h2 h3 h4 r0 r1 r01 b0 b1 z0 z1 hb
  go_enter Try.func11, Try.ntmps11
  go_wp2_with fail
  refine H1.out.mono ?_
  rintro e w2 ⟨rfl, hb2⟩
  have a2 := (R0.out.later hb2).at_ (i := 2) rfl
  have c2 := (R1.out.later hb2).at_ (i := 2) rfl
  have H5 := Lib.hid (is_u w2 _ _ y (H2.out.later hb2) (H4.out.later hb2))
  have HB2 := Lib.hid (HB.out.trans (hb2.mono HB.out.size))
  clear hb2 a0 a1 c0 c1 R0 R1 H2 H4 HB
  go_wp2_with fail
  refine H5.out.mono ?_
  rintro e w3 ⟨rfl, hb3⟩
  have HB3 := Lib.hid (HB2.out.trans (hb3.mono HB2.out.size))
  clear hb3 a2 c2 HB2
  go_wp2
  go_ret
  exact ⟨rfl, HB3.out⟩

theorem is9_any (w : World) (v v' : Value) (P : Option (Nat × Nat)) (h : Pt w v P) (h' : Rp w v' P) : Calls Try.prog 11 #[v, v'] w fun e w' => RetV w (.bool true) e w' := by
  rcases P with _ | ⟨x, y⟩
  · obtain ⟨a, b, rfl, h1, h2⟩ := h
    obtain ⟨c, d, rfl, h3, h4⟩ := h'
    exact is9_true w a b c d 0 0 h1 h2 h3 h4
  · obtain ⟨a, b, rfl, h1, h2⟩ := h
    obtain ⟨c, d, rfl, h3, h4⟩ := h'
    exact is9_false w a b c d x y h1 h2 h3 h4
end Go.Proofs.Ytmmmcbklgmjalaa
