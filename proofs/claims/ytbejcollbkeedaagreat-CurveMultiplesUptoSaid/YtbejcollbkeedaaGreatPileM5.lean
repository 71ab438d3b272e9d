/- Parts of one proof, joined: QuoH, QuoK, ModA, ModB, ModC, ModM, ModD, RefM, ModR, ModS, Pure, Chn. -/
import Derived.Test.YtbejcollbkeedaaGreatPileM4
import Derived.Deep.RegionLaw
import Derived.Deep.RegionHeld3
import Derived.Outline
import Derived.Test.YtbejcollbkeedaaGreatPileM3
import Derived.Test.YtbejcollbkeedaaGreatPileM2
import Derived.Test.YtbejcollbkeedaaGreatPileM1
set_option linter.unusedVariables false
set_option linter.unusedSimpArgs false
set_option linter.unusedSectionVars false
set_option maxRecDepth 100000
set_option maxHeartbeats 8000000
open Go.Lib (hid)
namespace Go.Proofs.YtbejcollbkeedaaGreat
open Go.RowKit Go.Shelf
attribute [local go_sem] Oper.semAt_some
theorem lq_step {B k v L W Q us us2 R U : Nat} (hwin : us = L + B ^ k * W) (hL : L < B ^ k) (hQ : W / v = Q) (hv0 : 0 < v) (h2 : us2 + B ^ k * (Q * v) = us) (hv : us + R * B ^ (k + 1) * v = U) :
  us2 + (Q + B * R) * B ^ k * v = U ∧ us2 < v * B ^ k := by
 have h3 := Nat.div_add_mod W v
 have h4 := Nat.mod_lt W hv0
 rw [hQ] at h3
 obtain ⟨r, hr⟩ : ∃ r, W % v = r := ⟨_, rfl⟩
 rw [hr] at h3 h4
 have e1 : B ^ (k + 1) = B ^ k * B := Nat.pow_succ ..
 obtain ⟨P, hP⟩ : ∃ P, B ^ k = P := ⟨_, rfl⟩
 rw [e1, hP] at hv
 rw [hP] at hwin hL h2 ⊢
 clear e1
 refine ⟨?_, ?_⟩
 ·clear hwin hL hQ h3 h4
  grind
 ·have h5 : us2 = L + P * r := by
   have h6 : P * W = P * (v * Q) + P * r := by rw [← h3, Nat.mul_add]
   have h7 : P * (Q * v) = P * (v * Q) := by rw [Nat.mul_comm Q]
   omega
  have h6 := Nat.mul_le_mul_left P (show r + 1 ≤ v from h4)
  rw [Nat.mul_add, Nat.mul_one, Nat.mul_comm P v] at h6
  omega
theorem lq_first {N M m n nq s : Nat} (hN : N < b64 ^ m) (hM : b64 ^ (n - 1) ≤ M) (hn : 1 ≤ n) (hnq : m + 1 = n + nq) : N * 2 ^ s < M * 2 ^ s * b64 ^ nq := by
 have h1 := Nat.mul_le_mul_right (b64 ^ nq) hM
 rw [← Nat.pow_add, show n - 1 + nq = m by omega] at h1
 rw [Nat.mul_right_comm]
 exact Nat.mul_lt_mul_of_pos_right (Nat.lt_of_lt_of_le hN h1) (Nat.pow_pos (by decide))
theorem lq_norm {ys vs : List Nat} {M p s t : Nat} (hM : Nm b64 ys M) (hl : ys.length = p + 2) (ht : ys[p + 1]? = some t) (hs1 : 9223372036854775808 ≤ t * 2 ^ s) (hs2 : t * 2 ^ s < 18446744073709551616) (hv : Nm b64 vs (M * 2 ^ s)) :
  vs.length = p + 2 ∧ (∀ x, vs[p + 1]? = some x → 9223372036854775808 ≤ x) := by
 have e : M = V b64 (ys.take (p + 1)) + b64 ^ (p + 1) * t := by rw [← hM.2.2, ← V_take_succ ht, List.take_of_length_le (by omega)]
 have hlo := V_lt (ys.take (p + 1)) (hM.1.take (p + 1))
 rw [List.length_take, Nat.min_eq_left (by omega)] at hlo
 obtain ⟨lo, hloe⟩ : ∃ lo, V b64 (ys.take (p + 1)) = lo := ⟨_, rfl⟩
 obtain ⟨P, hP⟩ : ∃ P, b64 ^ (p + 1) = P := ⟨_, rfl⟩
 obtain ⟨S, hS⟩ : ∃ S, 2 ^ s = S := ⟨_, rfl⟩
 rw [hloe] at e hlo
 rw [hP] at e hlo
 rw [hS] at hs1 hs2 hv
 have hS0 : 0 < S := by rw [← hS]; exact Nat.pow_pos (by decide)
 have e2 : M * S = lo * S + P * (t * S) := by rw [e, Nat.add_mul, Nat.mul_assoc]
 have h3 : lo * S < P * S := Nat.mul_lt_mul_of_pos_right hlo hS0
 have hSt : S ≤ 18446744073709551616 := by
  rcases Nat.eq_zero_or_pos t with h | h
  ·subst h; simp at hs1
  ·have := Nat.mul_le_mul_right S h; omega
 have hlt : M * S < b64 ^ (p + 2) := by
  have h4 := Nat.mul_le_mul_left P (show t * S + 1 ≤ 18446744073709551616 by omega)
  have h5 : (lo + 1) * S ≤ P * S := Nat.mul_le_mul_right _ hlo
  have h6 : (t + 1) * S ≤ 18446744073709551616 := by
   -- t S < 2^64 and S divides 2^64
   have h7 : s < 64 ∨ 64 ≤ s := by omega
   rcases h7 with h7 | h7
   ·have e64 : 18446744073709551616 = 2 ^ (64 - s) * S := by rw [← hS, ← Nat.pow_add, show 64 - s + s = 64 by omega]
    rw [e64] at hs2 ⊢
    exact Nat.mul_le_mul_right _ (Nat.lt_of_mul_lt_mul_right hs2)
   ·have h8 : 2 ^ 64 ≤ 2 ^ s := Nat.pow_le_pow_right (by decide) h7
    rw [hS] at h8
    have h9 : t = 0 := by
     rcases Nat.eq_zero_or_pos t with h | h
     ·exact h
     ·have := Nat.mul_le_mul_right S h; omega
    subst h9; omega
  have h8 := Nat.mul_le_mul_left P h6
  rw [show p + 2 = (p + 1) + 1 by omega, Nat.pow_succ, hP]
  have h9 : P * ((t + 1) * S) = P * (t * S) + P * S := by rw [Nat.add_mul, Nat.one_mul, Nat.mul_add]
  have h10 : P * 18446744073709551616 = P * b64 := rfl
  omega
 have hge : P * 9223372036854775808 ≤ M * S := by
  have := Nat.mul_le_mul_left P hs1
  omega
 have hlen : vs.length = p + 2 := by
  have h1 := hv.length_le (by decide) hlt
  apply Classical.byContradiction
  intro hne
  have h2 := V_lt vs hv.1
  rw [hv.2.2] at h2
  have h3 : b64 ^ vs.length ≤ P := by rw [← hP]; exact Nat.pow_le_pow_right b64_pos (by omega)
  omega
 refine ⟨hlen, fun x hx => ?_⟩
 have e3 : M * S = V b64 (vs.take (p + 1)) + P * x := by
  rw [← hv.2.2, ← hP, ← V_take_succ hx, List.take_of_length_le (by omega)]
 have h4 := V_lt (vs.take (p + 1)) (hv.1.take (p + 1))
 rw [List.length_take, Nat.min_eq_left (by omega), hP] at h4
 apply Classical.byContradiction
 intro hne
 have h5 := Nat.mul_le_mul_left P (show x + 1 ≤ 9223372036854775808 by omega)
 rw [Nat.mul_add, Nat.mul_one] at h5
 omega
theorem lq_fit {xs zs : List Nat} {N m nz s : Nat} (hN : Nm b64 xs N) (hm : m = xs.length) (hz : Nm b64 zs (N * 2 ^ s)) (hs : s < 64) (hn : nz = zs.length) : nz ≤ m + 1 := by
 rw [hn]
 refine hz.length_le (by decide) ?_
 have h1 := V_lt xs hN.1
 rw [hN.2.2, ← hm] at h1
 have h2 : 2 ^ s ≤ b64 := by
  have : 2 ^ s ≤ 2 ^ 64 := Nat.pow_le_pow_right (by decide) (by omega)
  exact this
 have h3 : N * 2 ^ s < b64 ^ m * 2 ^ s := Nat.mul_lt_mul_of_pos_right h1 (Nat.pow_pos (by decide))
 have h4 := Nat.mul_le_mul_left (b64 ^ m) h2
 rw [Nat.pow_succ]
 omega
theorem lq_copy {zs us : List Nat} {m N : Nat} (h : us = splice (List.replicate (m + 1) 0) 0 zs) (hz : Nm b64 zs N) (hl : zs.length ≤ m + 1) : us.length = m + 1 ∧ Dg b64 us ∧ V b64 us = N := by
 subst h
 have hc := copy_V (B := b64) (zs := List.replicate (m + 1) 0) (ys := zs) rfl (by simpa using hl)
 refine ⟨?_, copy_Dg (dg_zeros b64_pos _) hz.1 0, ?_⟩
 ·unfold splice
  simp
  omega
 ·unfold splice
  simp [V_append, V_replicate, hz.2.2]
def LQCut (mk : Option Addr → Nat → Nat → Value → Array Value) (W4 : World) (gu m N s : Nat) (e : Exit) (a : Act) (w' : World) : Prop :=
 e = .normal ∧ ∃ Az nz cz vcp zs, a = { tmps := mk Az nz cz vcp, defers := [] } ∧ Row w' gu (splice (List.replicate (m + 1) 0) 0 zs) ∧ Nm b64 zs (N * 2 ^ s) ∧ zs.length ≤ m + 1 ∧ Only W4 w' gu
theorem Sl.setOther {w : World} {B n c : Nat} {A : Option Addr} {xs : List Nat} (h : Sl w B A n c xs) {p : Addr} (hp : ∀ x : Nat, w.cell? p ≠ some (.int .u64 (x : Int))) (u : Value) : Sl (w.setCell p u) B A n c xs := by
 refine ⟨h.1, h.2.1, h.2.2.1, fun hn => ?_⟩
 obtain ⟨b, off, e, hlt, hc⟩ := h.rd hn
 refine ⟨b, off, e, hlt, fun k x hx => ?_⟩
 rw [World.cell?_setCell_other w p _ u (fun e' => hp x (by rw [e']; exact hc k x hx))]
 exact hc k x hx
structure Two (W w : World) (g h : Nat) : Prop where
 os : w.os = W.os
 tape : w.tape = W.tape
 output : w.output = W.output
 size : W.heap.size ≤ w.heap.size
 block : ∀ k, k < W.heap.size → k ≠ g → k ≠ h → w.heap[k]? = W.heap[k]?
theorem Two.fst {W w w' : World} {g h : Nat} (k : Two W w g h) (ho : Only w w' g) : Two W w' g h :=
 ⟨ho.os.trans k.os, ho.tape.trans k.tape, ho.output.trans k.output, Nat.le_trans k.size ho.size, fun i h1 h2 h3 => (ho.block i (Nat.lt_of_lt_of_le h1 k.size) (fun e => by injection e with e; exact h2 e)).trans (k.block i h1 h2 h3)⟩
theorem Two.snd {W w w' : World} {g h : Nat} (k : Two W w g h) (ho : Only w w' h) : Two W w' g h :=
 ⟨ho.os.trans k.os, ho.tape.trans k.tape, ho.output.trans k.output, Nat.le_trans k.size ho.size, fun i h1 h2 h3 => (ho.block i (Nat.lt_of_lt_of_le h1 k.size) (fun e => by injection e with e; exact h3 e)).trans (k.block i h1 h2 h3)⟩
theorem Two.below {W w : World} {g h B : Nat} (k : Two W w g h) (hg : B ≤ g) (hh : B ≤ h) (hs : B ≤ W.heap.size) : Below B W w :=
 ⟨k.os, k.tape, k.output, k.size, fun i hi => k.block i (by omega) (by omega) (by omega)⟩
theorem Two.cell {W w : World} {g h b : Nat} (k : Two W w g h) (hb : b < W.heap.size) (hg : b ≠ g) (hh : b ≠ h) {v : Value} (hc : W.cell? ⟨b, 0, none⟩ = some v) : w.cell? ⟨b, 0, none⟩ = some v :=
 (World.cell?_of_block (a := ⟨b, 0, none⟩) (k.block b hb hg hh)).trans hc
theorem Two.keeps {W w : World} {g h : Nat} {us qs : List Nat} (k : Two W w g h) (hu : Row W g us) (hq : Row W h qs) (B : Nat) : KeepsFrom B W w :=
 ⟨k.size, fun i o _ ho hc => by
  have hi := (Array.getElem?_eq_some_iff.1 ho).1
  refine (k.block i hi ?_ ?_).trans ho
  ·intro e; subst e; unfold Row at hu; rw [hu] at ho; cases ho; cases hc
  ·intro e; subst e; unfold Row at hq; rw [hq] at ho; cases ho; cases hc⟩
def lqVals (gq gu i nq m n : Nat) (sv : Value) (q : Nat) (j : Nat) : Value :=
 [.slice (some ⟨gq, 0, none⟩) nq nq, .int .i64 (i : Int), .slice (some ⟨gu, 0, none⟩) (m + 1) (m + 1), .int .i64 (i : Int), .int .i64 (i : Int), sv, .int .i64 (n : Int), .int .i64 ((i : Int) + n), .int .i64 ((i : Int) + n + 1), .slice (some ⟨gu, i, none⟩) (n + 1) (m + 1 - i), sv, .int .u64 (q : Int), .pointer (some ⟨gq, i, none⟩)].getD j undef
theorem lqVals_same (gq gu i nq m n : Nat) (sv : Value) (q q' j : Nat) (h : j ≠ 11) : lqVals gq gu i nq m n sv q j = lqVals gq gu i nq m n sv q' j := by
 match j, h with
 | 0, _ => rfl
 | 1, _ => rfl
 | 2, _ => rfl
 | 3, _ => rfl
 | 4, _ => rfl
 | 5, _ => rfl
 | 6, _ => rfl
 | 7, _ => rfl
 | 8, _ => rfl
 | 9, _ => rfl
 | 10, _ => rfl
 | 11, h => exact absurd rfl h
 | 12, _ => rfl
 | k + 13, _ => rfl
def lqWo (W : World) (gu gq m i : Nat) (us qs : List Nat) (C : Prop) (Q v : Nat) (q : Nat) (L : Array Bool) (w : World) : Prop :=
 Two W w gu gq ∧ ∃ us1 qs1, Row w gu us1 ∧ Row w gq qs1 ∧ (L.getD 11 false = false → us1 = us) ∧ (L.getD 11 false = true → q < b64 ∧ us1.length = m + 1 ∧ Dg b64 us1 ∧ (C → q = Q ∧ V b64 us1 + b64 ^ i * (Q * v) = V b64 us)) ∧
  (L.getD 13 false = false → qs1 = qs) ∧ (L.getD 13 false = true → qs1 = qs.set i q)
theorem lqWo.same {W w : World} {gu gq m i : Nat} {us qs : List Nat} {C : Prop} {Q v q : Nat} {L : Array Bool} (h : lqWo W gu gq m i us qs C Q v q L w) {k : Nat} (h1 : k ≠ 11) (h2 : k ≠ 13) : lqWo W gu gq m i us qs C Q v q (L.setIfInBounds k true) w := by
 unfold lqWo at h ⊢
 rw [getD_set_other L h1, getD_set_other L h2]
 exact h
theorem lq_good {nq : Nat} {pre : List (Ix nq × Nat)} {x : Ix nq × Nat} (h : firsts (pre ++ [x]) = downL nq (pre ++ [x]).length) : firsts pre = downL nq pre.length ∧ x.1.1 = nq - 1 - pre.length := by
 rw [List.length_append, List.length_singleton, downL_succ, firsts_snoc] at h
 obtain ⟨h1, h2⟩ := List.append_inj' h rfl
 exact ⟨h1, by simpa using h2⟩
theorem lq_num {m i nq k vM uN q Q n : Nat} {us us1 qs : List Nat} (hk : i = nq - 1 - k) (hkn : k < nq) (hl : us.length = m + 1) (hd : Dg b64 us) (hq : qs.length = nq) (hfit : i + n + 1 ≤ m + 1) (hvb : vM * b64 ≤ b64 ^ (n + 1)) (hv0 : 0 < vM)
  (h1 : V b64 us + V b64 (qs.drop (nq - k)) * b64 ^ (nq - k) * vM = uN) (h2 : V b64 us < vM * b64 ^ (nq - k)) (hQ : Q = V b64 ((us.drop i).take (n + 1)) / vM) (hqQ : q = Q) (h3 : V b64 us1 + b64 ^ i * (Q * vM) = V b64 us) :
  V b64 us1 + V b64 ((qs.set i q).drop (nq - (k + 1))) * b64 ^ (nq - (k + 1)) * vM = uN ∧ V b64 us1 < vM * b64 ^ (nq - (k + 1)) := by
 have e1 : nq - k = i + 1 := by omega
 have e2 : nq - (k + 1) = i := by omega
 rw [e1] at h1 h2
 rw [e2]
 obtain ⟨hw, _⟩ := quo_win (n1 := n + 1) (k := i) (by omega) h2 hvb
 have hlo := V_lt (us.take i) (hd.take i)
 rw [List.length_take, Nat.min_eq_left (by omega)] at hlo
 have e3 : (qs.set i q).drop i = q :: qs.drop (i + 1) := by
  rw [List.drop_eq_getElem_cons (l := qs.set i q) (i := i) (by rw [List.length_set]; omega), List.drop_set_of_lt (by omega), List.getElem_set_self]
 rw [e3, V_cons, hqQ]
 exact lq_step hw hlo hQ.symm hv0 h3 h1
def RetLQ (w : World) (N M : Nat) (e : Ending) (w' : World) : Prop :=
 ∃ A3 n3 c3 q A4 n4 c4 r, e = .returned (.tuple #[.slice A3 n3 c3, .slice A4 n4 c4]) ∧ Sl w' w'.heap.size A3 n3 c3 q ∧ Sl w' w'.heap.size A4 n4 c4 r ∧ Below w.heap.size w w' ∧ Nm b64 q (N / M) ∧ Nm b64 r (N % M)
structure RqB where
 mt : Nat
 Ar : Option Addr
 nr : Nat
 cr : Nat
 rs : List Nat
def rqVals (gq gu nq m s : Nat) (b : RqB) (j : Nat) : Value :=
 [.slice (some ⟨gq, 0, none⟩) nq nq, .slice (some ⟨gq, 0, none⟩) b.mt nq, .slice (some ⟨gu, 0, none⟩) (m + 1) (m + 1), .int .i64 (s : Int), .slice b.Ar b.nr b.cr, undef, .slice b.Ar b.nr b.cr].getD j undef
structure RqW (W : World) (b4 b8 gq gu nq m D R : Nat) (qs us : List Nat) (b : RqB) (L : Array Bool) (w : World) : Prop where
 c4 : L.getD 5 false = false → w.cell? ⟨b4, 0, none⟩ = some (.slice (some ⟨gq, 0, none⟩) nq nq)
 c4' : L.getD 5 false = true → w.cell? ⟨b4, 0, none⟩ = some (.slice (some ⟨gq, 0, none⟩) b.mt nq)
 f4 : w.frozen? ⟨b4, 0, none⟩ = false
 c8 : w.cell? ⟨b8, 0, none⟩ = some (.slice (some ⟨gu, 0, none⟩) (m + 1) (m + 1))
 sq : Sl w W.heap.size (some ⟨gq, 0, none⟩) nq nq qs
 su : Sl w W.heap.size (some ⟨gu, 0, none⟩) (m + 1) (m + 1) us
 tr : L.getD 1 false = true → Sl w W.heap.size (some ⟨gq, 0, none⟩) b.mt nq (trimmed qs)
 sh : L.getD 4 false = true → Sl w w.heap.size b.Ar b.nr b.cr b.rs ∧ Nm b64 b.rs R
 size : W.heap.size ≤ w.heap.size
 bel : Below b4 W w
 rc : w.heap[D]? = some (.deferred (some []))
theorem RqW.same {W w : World} {b4 b8 gq gu nq m D R : Nat} {qs us : List Nat} {b : RqB} {L : Array Bool} (h : RqW W b4 b8 gq gu nq m D R qs us b L w) {k : Nat} (h1 : k ≠ 1) (h4 : k ≠ 4) (h5 : k ≠ 5) : RqW W b4 b8 gq gu nq m D R qs us b (L.setIfInBounds k true) w := by
 refine ⟨?_, ?_, h.f4, h.c8, h.sq, h.su, ?_, ?_, h.size, h.bel, h.rc⟩
 ·rw [getD_set_other L h5]; exact h.c4
 ·rw [getD_set_other L h5]; exact h.c4'
 ·rw [getD_set_other L h1]; exact h.tr
 ·rw [getD_set_other L h4]; exact h.sh
theorem Sl.kept {A B' : World} {B n c : Nat} {p : Option Addr} {xs : List Nat} (h : Sl A B p n c xs) {row : Option Nat} (hg : A.grownBy B' row) (hr : ∀ r, row = some r → ∃ o : Obj, A.heap[r]? = some o ∧ o.isCells = false) : Sl B' B p n c xs := by
 refine ⟨h.1, h.2.1, h.2.2.1, fun hn => ?_⟩
 obtain ⟨b, off, e, hlt, hc⟩ := h.rd hn
 exact ⟨b, off, e, hlt, fun k x hx => cell_kept (hc k x hx) hg hr⟩
theorem longQuo_any (w : World) (A1 : Option Addr) (m c1 : Nat) (xs : List Nat) (hs1 : Sl w w.heap.size A1 m c1 xs) (A2 : Option Addr) (n c2 : Nat) (ys : List Nat) (hs2 : Sl w w.heap.size A2 n c2 ys) (N M : Nat) (hN : Nm b64 xs N) (hM : Nm b64 ys M)
  (hm : m ≤ 100000000) (hNM : M ≤ N) (p p1 : Nat) (hnp : n = p + 2) (hp1 : p1 = p + 1) :
  Calls Tryz.prog 102 #[.slice A1 m c1, .slice A2 n c2] w fun e w' => RetLQ w N M e w' := by
 have hnm : n ≤ m := by rw [hs1.len, hs2.len]; exact len_le_of (by decide) hM hN hNM
 obtain ⟨b2, o2, t, rfl, hb2, ht, hct⟩ := hs2.at_ (k := p1) (by omega)
 have htl := hM.1.get ht
 have ht0 : t ≠ 0 := by
  refine hM.2.1 t ?_
  rw [List.getLast?_eq_getElem?, ← hs2.len, hnp]
  rw [hp1] at ht
  simpa using ht
 obtain ⟨nq, hnq⟩ : ∃ nq, m + 1 = n + nq := ⟨m + 1 - n, by omega⟩
 have HLX := hid hs1.len
 have HLY := hid hs2.len
 have HN := hid hN
 have HM := hid hM
 have HNP := hid hnp
 have HP1 := hid hp1
 have HT := hid ht
 have HNQ := hid hnq
 have HTL := hid htl
 have HT0 := hid ht0
 have i1 : (n : Int) - 1 = (p1 : Int) := by omega
 have i2 : (p1 : Int) < n := by omega
 have i3 : (n : Int) ≤ 100000000 := by omega
 have i4 : (m : Int) ≤ 100000000 := by omega
 have i5 : (m : Int) - n + 1 = (nq : Int) := by omega
 have i6 : (n : Int) ≤ m := by omega
 clear hnp hp1 ht hnq hN hM htl ht0 hNM hnm
 refine (callsIn_wide (n := 9)).1 ?_
 refine callsIn_of_wp_marks Tryz.func102 rfl trivial ?_ rfl
 simp only [Tryz.ntmps102, List.size_toArray, List.length_cons, List.length_nil, Nat.reduceAdd, Nat.reduceSub, Array.replicate_succ, Array.replicate_zero, List.push_toArray, List.append_toArray, List.nil_append, List.cons_append]
 gi_wp2_with fail
 refine ⟨trivial, (callsIn_wide.2 (lz_any t HTL.out HT0.out _)).mono ?_⟩
 rintro e w1 ⟨s, rfl, ⟨hs0, hs3, hs4⟩, rfl⟩
 have hbox := Boxed.new w 23 (.slice none 0 0)
 have hBa : Below w.heap.size w (w.alloc (.cells #[.slice none 0 0] 23)) := (Below.refl _ w).alloc (Nat.le_refl _) _
 have hsza : (w.alloc (.cells #[.slice none 0 0] 23)).heap.size = w.heap.size + 1 := by simp
 obtain ⟨Wa, hWa⟩ : ∃ Wa, w.alloc (.cells #[.slice none 0 0] 23) = Wa := ⟨_, rfl⟩
 rw [hWa] at hbox hBa hsza ⊢
 obtain ⟨b4, hb4⟩ : ∃ b4, w.heap.size = b4 := ⟨_, rfl⟩
 have HB4 := hid hb4
 have c4 := hbox.cell
 have f4 := hbox.frozen
 rw [hb4] at hsza c4 f4 ⊢
 have l4 : b4 < Wa.heap.size := by omega
 have HSZA := hid hsza
 clear hWa hsza hbox
 have hx1 := hs1.below hBa
 have hy1 := hs2.below hBa
 rw [hb4] at hx1 hy1 hBa
 clear hs1 hs2 hct hb4 hb2
 have HS3 := hid hs3
 have HS4 := hid hs4
 clear hs3 hs4
 have h4s : b4 ≤ Wa.heap.size := by omega
 gi_wp2_with fail
 refine ⟨trivial, (callsIn_wide.2 (shl_any Wa b4 h4s _ _ _ _ hy1 HM.out.1 (by omega) s (by omega))).mono ?_⟩
 rintro e w2 ⟨vs, hvs, Av, nv, cv, rfl, hv2, hb2⟩
 rw [HM.out.2.2] at hvs
 obtain ⟨hvl, hvt⟩ := lq_norm (p := p) (t := t) HM.out (by have h1 := hy1.len; have h2 := HNP.out; omega) (by have := HT.out; have h := HP1.out; rw [h] at this; exact this) HS3.out HS4.out hvs
 have hnv : nv = n := by rw [hv2.len, hvl]; exact HNP.out.symm
 subst hnv
 have HVS := hid hvs
 have HVT := hid hvt
 have c4' := (hb2.cell (p := ⟨b4, 0, none⟩) l4).trans c4
 have f4' := (hb2.frozen (p := ⟨b4, 0, none⟩) l4).trans f4
 have hx2 := hx1.below (hb2.mono h4s)
 have hB2 := hBa.trans (hb2.mono h4s)
 have l4' := Nat.lt_of_lt_of_le l4 hb2.size
 clear hvs hvl hvt c4 f4 hx1 hy1 hBa l4 hb2 HSZA h4s HS3 HS4
 obtain ⟨Z, hZ⟩ : ∃ Z : Array Value, Z = (List.map U (List.replicate (m + 1) 0)).toArray := ⟨_, rfl⟩
 have HZ := hid hZ
 clear hZ
 gi_wp2_with (gi_at_make; refine wl_make_in rfl _ _ Tryz.underlying23 rfl _ (m + 1) rfl rfl (by omega) Z HZ.out ?_)
 have x7 := Boxed.new w2 23 (.slice Av nv cv)
 have x7' := (x7.alloc (.cells Z 63)).alloc (.cells #[.slice (some ⟨w2.heap.size + 1, 0, none⟩) (m + 1) (m + 1)] 23)
 have r3 : Row ((w2.alloc (.cells #[.slice Av nv cv] 23)).alloc (.cells Z 63)) (w2.heap.size + 1) (List.replicate (m + 1) 0) := by
  have h := heap_alloc_new (w2.alloc (.cells #[.slice Av nv cv] 23)) (.cells Z 63)
  simp only [World.size_alloc] at h
  unfold Row
  rw [h, HZ.out]
 have r3' := r3.alloc (.cells #[.slice (some ⟨w2.heap.size + 1, 0, none⟩) (m + 1) (m + 1)] 23)
 have x8 := Boxed.new ((w2.alloc (.cells #[.slice Av nv cv] 23)).alloc (.cells Z 63)) 23 (.slice (some ⟨w2.heap.size + 1, 0, none⟩) (m + 1) (m + 1))
 have hB3 : Below w2.heap.size w2 (((w2.alloc (.cells #[.slice Av nv cv] 23)).alloc (.cells Z 63)).alloc (.cells #[.slice (some ⟨w2.heap.size + 1, 0, none⟩) (m + 1) (m + 1)] 23)) :=
  (((Below.refl _ w2).alloc (Nat.le_refl _) _).alloc (by simp) _).alloc (by simp; omega) _
 have hsz3 : (((w2.alloc (.cells #[.slice Av nv cv] 23)).alloc (.cells Z 63)).alloc (.cells #[.slice (some ⟨w2.heap.size + 1, 0, none⟩) (m + 1) (m + 1)] 23)).heap.size = w2.heap.size + 1 + 1 + 1 := by simp
 obtain ⟨W4, hW4⟩ : ∃ W4, (((w2.alloc (.cells #[.slice Av nv cv] 23)).alloc (.cells Z 63)).alloc (.cells #[.slice (some ⟨w2.heap.size + 1, 0, none⟩) (m + 1) (m + 1)] 23)) = W4 := ⟨_, rfl⟩
 rw [hW4] at x7' r3' x8 hB3 hsz3 ⊢
 simp only [World.size_alloc] at x7' r3' x8
 obtain ⟨b7, hb7⟩ : ∃ b7, w2.heap.size = b7 := ⟨_, rfl⟩
 rw [hb7] at x7' r3' x8 hsz3 l4' hv2 hB3 ⊢
 have c7 := x7'.cell
 have c8 := x8.cell
 have k4 := (hB3.cell (p := ⟨b4, 0, none⟩) l4').trans c4'
 have g4 := (hB3.frozen (p := ⟨b4, 0, none⟩) l4').trans f4'
 have hv4 := hv2.below hB3
 have hx4 := hx2.below (hB3.mono (Nat.le_of_lt l4'))
 have hB4 := hB2.trans (hB3.mono (Nat.le_of_lt l4'))
 have HSZ3 := hid hsz3
 clear hW4 x7 x7' r3 x8 hB3 hsz3 hb7 c4' f4' hv2 hx2 hB2
 have hmx : Tryz.prog.follows .mixedOrders = true := by kernel_rfl
 refine wpIn_wide.2 ?_
 have hx4' : Sl W4.drew b4 A1 m c1 xs := hx4
 have hb4s : b4 ≤ W4.drew.heap.size := by show b4 ≤ W4.heap.size; have := HSZ3.out; omega
 have hshl := shl_any W4.drew b4 hb4s _ _ _ _ hx4' HN.out.1 (by omega) s (by omega)
 rw [HN.out.2.2] at hshl
 have HSHL := hid hshl
 have l4b := HSZ3.out
 clear hshl
 refine Code.wp_mono (fun e a' w' (h : LQCut (fun Az nz cz vcp => #[Value.slice A1 m c1, Value.slice (some { block := b2, off := o2 }) nv c2, undef, undef,
     Value.pointer (some { block := b4, off := 0 }), Value.slice none 0 0, Value.int IntKind.i64 ↑s,
     Value.pointer (some { block := b7, off := 0 }), Value.pointer (some { block := b7 + 1 + 1, off := 0 }), undef,
     Value.slice (some { block := b2, off := o2 }) nv c2, Value.slice (some { block := b2, off := o2 }) nv c2,
     Value.int IntKind.i64 ↑nv, Value.int IntKind.i64 ↑p1, Value.pointer (some { block := b2, off := o2 + p1 }),
     Value.int IntKind.u64 ↑t, Value.int IntKind.i64 ↑s, Value.slice (some { block := b2, off := o2 }) nv c2,
     Value.int IntKind.i64 ↑s, Value.slice Av nv cv, Value.slice A1 m c1, Value.int IntKind.i64 ↑m,
     Value.int IntKind.i64 (↑m + 1), Value.slice (some { block := b7 + 1, off := 0 }) (m + 1) (m + 1),
     Value.slice (some { block := b7 + 1, off := 0 }) (m + 1) (m + 1), Value.slice A1 m c1,
     Value.int IntKind.i64 ↑s, Value.slice Az nz cz, vcp, undef, undef, undef, undef, undef, undef, undef, undef,
     undef, undef, undef, undef, undef, undef, undef, undef, undef, undef, undef, undef, undef, undef, undef,
     undef, undef, undef, undef, undef, undef]) W4 (b7 + 1) m N s e a' w') => ?_) ?_
 rotate_left
 ·refine wp_region_noPanic ?_
  have r4 : Row W4.drew (b7 + 1) (List.replicate (m + 1) 0) := r3'
  have hgu : b7 + 1 < W4.drew.heap.size := by show b7 + 1 < W4.heap.size; omega
  go_region_law (first
   | (refine step_call2 rfl 113 _ _ _ rfl (.slice A1 m c1) (.int .i64 (s : Int)) rfl rfl (by kernel_rfl) (HSHL.out.mono ?_); rintro e w5 ⟨zs, hzs, Az, nz, cz, rfl, hz5, hb5⟩; refine ⟨_, rfl, ?_⟩; have d8 := (hb5.cell (p := ⟨b7 + 1 + 1, 0, none⟩) (by show b7 + 1 + 1 < W4.heap.size; omega)).trans c8; have hnz := lq_fit HN.out hx4.len hzs hs0 hz5.len; have HZS := hid hzs; clear hzs)
   | (refine step_copyU rfl _ _ _ _ Tryz.underlying23 rfl (b7 + 1) 0 (m + 1) (m + 1) Az nz cz rfl rfl (List.replicate (m + 1) 0) zs (r4.below hb5 hgu) w5.heap.size hz5 (by simp) hnz ?_; intro w6 vcp hr6 ho6 hs6))
  all_goals
   refine NoPanic.normal ⟨rfl, Az, nz, cz, vcp, zs, rfl, hr6, HZS.out, by rw [← hz5.len]; exact hnz, ?_⟩
   exact ((show Only W4 W4.drew (b7 + 1) from (Only.refl W4 _).drewN 1).trans (Only.of_below hb5 _)).trans ho6
 obtain ⟨rfl, Az, nz, cz, vcp, zs, rfl, hr6, hzs, hnz, hO6⟩ := h
 dsimp only
 obtain ⟨us0, hus0⟩ : ∃ us0, us0 = splice (List.replicate (m + 1) 0) 0 zs := ⟨_, rfl⟩
 rw [← hus0] at hr6
 obtain ⟨hu1, hu2, hu3⟩ := lq_copy hus0 hzs hnz
 have hu2l := hid hu1
 have HU3 := hid hu3
 have l7 : b7 ≤ W4.heap.size := by omega
 have hBe := hO6.below (B := b7) (by omega) l7
 have k4' := (hBe.cell (p := ⟨b4, 0, none⟩) l4').trans k4
 have g4' := (hBe.frozen (p := ⟨b4, 0, none⟩) l4').trans g4
 have c7' := (World.cell?_of_block (a := ⟨b7, 0, none⟩) (hO6.block b7 (by omega) (fun e => by injection e; omega))).trans c7
 have c8' := (World.cell?_of_block (a := ⟨b7 + 1 + 1, 0, none⟩) (hO6.block (b7 + 1 + 1) (by omega) (fun e => by injection e; omega))).trans c8
 have hv6 := hv4.below hBe
 have hB6 := hB4.trans (hBe.mono (Nat.le_of_lt l4'))
 have hsz6 := hO6.size
 rw [l4b] at hsz6
 have HSZ6 := hid hsz6
 obtain ⟨Z2, hZ2⟩ : ∃ Z : Array Value, Z = (List.map U (List.replicate nq 0)).toArray := ⟨_, rfl⟩
 have HZ2 := hid hZ2
 clear hZ2 hu1 hu3 hus0 hzs hnz zs hO6 hBe k4 g4 c7 c8 hv4 hB4 HSHL r3' hx4 hx4' hb4s l7 hsz6
 have hlt4 : b4 < w'.heap.size := by have := HSZ6.out; omega
 have q2 : (w'.alloc (.cells Z2 63)).cell? ⟨b4, 0, none⟩ = some (.slice none 0 0) := (World.cell?_alloc_lt _ _ _ hlt4).trans k4'
 have q3 : (w'.alloc (.cells Z2 63)).frozen? ⟨b4, 0, none⟩ = false := ((Below.refl w'.heap.size w').alloc (Nat.le_refl _) _).frozen (p := ⟨b4, 0, none⟩) hlt4 |>.trans g4'
 have q4 : ((w'.alloc (.cells Z2 63)).setCell ⟨b4, 0, none⟩ (.slice (some ⟨w'.heap.size, 0, none⟩) nq nq)).cell? ⟨b4, 0, none⟩ = some (.slice (some ⟨w'.heap.size, 0, none⟩) nq nq) := World.cell?_setCell_same' _ _ _ (by rw [q2]; rfl)
 gi_wp2_with (gi_at_make; refine wl_make_in rfl _ _ Tryz.underlying23 rfl _ nq rfl rfl (by omega) Z2 HZ2.out ?_)
 refine ⟨trivial, (back_in Fence.wide _ trivial rfl _ _ _ _).mono ?_⟩
 rintro e w1 ⟨rfl, rfl⟩
 gi_wp2_with fail
 have hvset := hv6.setOther (p := ⟨b4, 0, none⟩) (fun x => by rw [k4']; intro h; cases h) (.slice (some ⟨w'.heap.size, 0, none⟩) nq nq)
 have c7s := (World.cell?_setCell_other w' ⟨b4, 0, none⟩ ⟨b7, 0, none⟩ (.slice (some ⟨w'.heap.size, 0, none⟩) nq nq) (by intro e; injection e; omega)).trans c7'
 have c8s := (World.cell?_setCell_other w' ⟨b4, 0, none⟩ ⟨b7 + 1 + 1, 0, none⟩ (.slice (some ⟨w'.heap.size, 0, none⟩) nq nq) (by intro e; injection e; omega)).trans c8'
 have c4s := World.cell?_setCell_same' w' ⟨b4, 0, none⟩ (.slice (some ⟨w'.heap.size, 0, none⟩) nq nq) (by rw [k4']; rfl)
 have f4s : (w'.setCell ⟨b4, 0, none⟩ (.slice (some ⟨w'.heap.size, 0, none⟩) nq nq)).frozen? ⟨b4, 0, none⟩ = false := by rw [World.frozen?_setCell]; exact g4'
 have hrs := hr6.far (p := ⟨b4, 0, none⟩) (by show b7 + 1 ≠ b4; omega) (.slice (some ⟨w'.heap.size, 0, none⟩) nq nq)
 have hBs := hB6.setCell (p := ⟨b4, 0, none⟩) (Nat.le_refl _) (.slice (some ⟨w'.heap.size, 0, none⟩) nq nq)
 have hss : (w'.setCell ⟨b4, 0, none⟩ (.slice (some ⟨w'.heap.size, 0, none⟩) nq nq)).heap.size = w'.heap.size := by simp [World.setCell]
 obtain ⟨WS, hWS⟩ : ∃ WS, w'.setCell ⟨b4, 0, none⟩ (.slice (some ⟨w'.heap.size, 0, none⟩) nq nq) = WS := ⟨_, rfl⟩
 obtain ⟨gq, hgq⟩ : ∃ gq, w'.heap.size = gq := ⟨_, rfl⟩
 have hg6 := HSZ6.out
 rw [hWS] at hvset c7s c8s c4s f4s hrs hBs hss ⊢
 rw [hgq] at c4s hss hg6 ⊢
 clear hWS q2 q3 q4 k4' g4' c7' c8' hr6 hv6 hB6 HSZ6 hlt4
 have rq : Row (WS.alloc (.cells Z2 63)) gq (List.replicate nq 0) := by
  have h := heap_alloc_new WS (.cells Z2 63)
  rw [hss] at h
  unfold Row
  rw [h, HZ2.out]
 have x9 := Boxed.new (WS.alloc (.cells Z2 63)) 23 (.slice (some ⟨gq, 0, none⟩) nq nq)
 have hb9 : (WS.alloc (.cells Z2 63)).heap.size = gq + 1 := by simp [hss]
 have hba : Below WS.heap.size WS ((WS.alloc (.cells Z2 63)).alloc (.cells #[.slice (some ⟨gq, 0, none⟩) nq nq] 23)) := ((Below.refl _ WS).alloc (Nat.le_refl _) _).alloc (by simp) _
 have rq2 := rq.alloc (.cells #[.slice (some ⟨gq, 0, none⟩) nq nq] 23)
 have hsz0 : ((WS.alloc (.cells Z2 63)).alloc (.cells #[.slice (some ⟨gq, 0, none⟩) nq nq] 23)).heap.size = gq + 1 + 1 := by simp [hss]
 obtain ⟨W0, hW0⟩ : ∃ W0, (WS.alloc (.cells Z2 63)).alloc (.cells #[.slice (some ⟨gq, 0, none⟩) nq nq] 23) = W0 := ⟨_, rfl⟩
 rw [hW0] at x9 hba rq2 hsz0 ⊢
 rw [hb9] at x9
 rw [hss] at hba
 have c9 := x9.cell
 have c7 := (hba.cell (p := ⟨b7, 0, none⟩) (by show b7 < gq; omega)).trans c7s
 have c8 := (hba.cell (p := ⟨b7 + 1 + 1, 0, none⟩) (by show b7 + 1 + 1 < gq; omega)).trans c8s
 have c4 := (hba.cell (p := ⟨b4, 0, none⟩) (by show b4 < gq; omega)).trans c4s
 have f4 := (hba.frozen (p := ⟨b4, 0, none⟩) (by show b4 < gq; omega)).trans f4s
 have ru := hrs.below hba (by omega)
 have hv0 := hvset.below (hba.mono (by omega))
 have hB0 := hBs.trans (hba.mono (by omega))
 have HSZ0 := hid hsz0
 have HVS2 := hid HVS.out.2.2
 have hdv := HVS.out.1
 have hnqm : m + 1 = nv + nq := HNQ.out
 have HLEN := hid (show (List.replicate nq 0).length = nq by simp)
 clear hW0 hgq hvset c7s c8s c4s f4s hrs hBs hss rq x9 hb9 hba w' WS HZ2
 obtain ⟨vM, hvM⟩ : ∃ vM, M * 2 ^ s = vM := ⟨_, rfl⟩
 obtain ⟨uN, huN⟩ : ∃ uN, N * 2 ^ s = uN := ⟨_, rfl⟩
 have HVM := hid hvM
 have HUN := hid huN
 have hfirst : V b64 us0 < vM * b64 ^ nq := by
  rw [HU3.out, ← hvM]
  refine lq_first (n := nv) ?_ ?_ (by have := HNP.out; omega) hnqm
  ·have h := V_lt xs HN.out.1
   rw [HN.out.2.2, ← HLX.out] at h
   exact h
  ·have h := V_ge (B := b64) HM.out.2.1 (by intro e; have h2 := HT.out; rw [e] at h2; simp at h2)
   rw [HM.out.2.2, ← HLY.out] at h
   exact h
 have hstart : V b64 us0 + V b64 ((List.replicate nq 0).drop nq) * b64 ^ nq * vM = uN := by
  rw [List.drop_of_length_le (by simp), HU3.out, ← huN]
  simp [V]
 have HFI := hid hfirst
 have HST := hid hstart
 have hvpos : 0 < vM := by
  rcases Nat.eq_zero_or_pos vM with h | h
  ·rw [h] at hfirst; omega
  ·exact h
 have HVP := hid hvpos
 clear hvM huN hfirst hstart hvpos
 refine wpIn_rangeFunc_ownG rfl (by omega) (gf := 109) (lb := #[.pointer (some ⟨gq + 1, 0, none⟩)]) rfl trivial (enters_of Tryz.func109 (by kernel_rfl) rfl)
  (backR_stops Fence.wide _ trivial rfl (by omega) (gq + 1) b7 nq gq (List.replicate nq 0) W0 (by rw [HSZ0.out]; omega) (by omega) c9 rq2 HLEN.out) KpR.trans (KpR.put (by rw [HSZ0.out]; omega) (by rw [HSZ0.out]; omega) (by rw [HSZ0.out]; omega)) (Below.refl _ _) (fun _ => rfl)
  (fun pre W => ((∃ us qs, us.length = m + 1 ∧ Dg b64 us ∧ qs.length = nq ∧ Dg b64 qs ∧ Row W (b7 + 1) us ∧ Row W gq qs ∧ (firsts pre = downL nq pre.length → V b64 us + V b64 (qs.drop (nq - pre.length)) * b64 ^ (nq - pre.length) * vM = uN ∧ V b64 us < vM * b64 ^ (nq - pre.length))) ∧
   W.cell? ⟨b7, 0, none⟩ = some (.slice Av nv cv) ∧ W.cell? ⟨b7 + 1 + 1, 0, none⟩ = some (.slice (some ⟨b7 + 1, 0, none⟩) (m + 1) (m + 1))) ∧ Below b7 W0 W)
  (fun _ _ _ => False)
  (OwnFrom.and (Own.from (fun st A B row hs hg hr => by
    obtain ⟨⟨us, qs, e1, e2, e3, e4, e5, e6, e7⟩, e8, e9⟩ := hs
    exact ⟨⟨us, qs, e1, e2, e3, e4, row_kept e5 hg hr, row_kept e6 hg hr, e7⟩, cell_kept e8 hg hr, cell_kept e9 hg hr⟩) _) (ownFrom_below (by rw [HSZ0.out]; omega) (by rw [HSZ0.out]; omega)))
  (fun _ _ _ _ _ hs _ _ => hs)
  ⟨⟨⟨us0, _, hu2l.out, hu2, HLEN.out, dg_zeros b64_pos _, ru, rq2, fun _ => ⟨HST.out, HFI.out⟩⟩, c7, c8⟩, Below.refl _ _⟩
  ?a1 ?assign ?body ?done ?stop
 case assign =>
  intro l x W K hK
  gi_wp2
  exact hK
 case body =>
  rintro l pre x W ⟨⟨⟨us, qs, e1, e2, e3, e4, e5, e6, e7⟩, c7W, c8W⟩, hBW⟩ hpl
  obtain ⟨⟨i, hi⟩, xv⟩ := x
  have hii : (i : Int) < nq := by omega
  have c4W := (hBW.cell (p := ⟨b4, 0, none⟩) (by show b4 < b7; omega)).trans c4
  have hvW := hv0.below hBW
  have hfit : i + nv + 1 ≤ m + 1 := by omega
  have hWs : gq + 1 + 1 ≤ W.heap.size := by have := hBW.size; have := HSZ0.out; omega
  have hnp := HNP.out
  obtain ⟨C, hC⟩ : ∃ C, (V b64 us < vM * b64 ^ (i + 1)) = C := ⟨_, rfl⟩
  obtain ⟨Q, hQ⟩ : ∃ Q, Q = V b64 ((us.drop i).take (nv + 1)) / vM := ⟨_, rfl⟩
  have hdig : ∀ W' : World, Row W' (b7 + 1) us → Sl W' b7 Av nv cv vs → Calls Tryz.prog 114 #[.slice (some ⟨b7 + 1, i, none⟩) (nv + 1) (m + 1 - i), .slice Av nv cv] W' fun e w' => RetDigC W' (b7 + 1) i us C Q vM e w' := by
   intro W' h1 h2
   have h := digit_all W' (b7 + 1) i (m + 1 - i) us h1 b7 Av nv (nv + 1) p cv vs h2 (by omega) hnp rfl (by omega) (by omega) e2 hdv HVT.out
   rw [HVS2.out, HVM.out, hC, ← hQ] at h
   exact h
  have HDIG := hid hdig
  have HE1 := hid e1
  have HE3 := hid e3
  have HE7 := hid e7
  have HCC := hid hC
  have HQQ := hid hQ
  have HNP' := hid hnp
  clear hdig e1 e3 e7 hC hQ hnp
  have i7 : (0 : Int) ≤ (i : Int) + nv + 1 := by omega
  have i8 : (i : Int) ≤ (i : Int) + nv + 1 := by omega
  have i9 : (i : Int) + nv + 1 ≤ (m : Int) + 1 := by omega
  gi_wp2
  refine wpIn_region_rel hmx ?hd (lqVals gq (b7 + 1) i nq m nv (.slice Av nv cv)) (lqWo W (b7 + 1) gq m i us qs C Q vM) 0 ?hw0 ?hstep ?hend ?hac
  case hd => exact distinct_of (by kernel_rfl)
  case hac => exact acyclic_of (by kernel_rfl)
  case hw0 => exact ⟨(show Two W W.drew _ _ from ⟨rfl, rfl, rfl, Nat.le_refl _, fun _ _ _ _ => rfl⟩), us, qs, e5, e6, fun _ => rfl, fun h => (by exact absurd h (by decide)), fun _ => rfl, fun h => (by exact absurd h (by decide))⟩
  case hstep =>
   intro b L a' w'' hWo hs hdf hcl hold hnew i' hi' oi hoi K hK
   obtain ⟨hnl, o2, ho2, hdep⟩ := mem_ready.1 hi'
   obtain rfl : oi = o2 := Option.some.inj (hoi.symm.trans ho2)
   have hlt : i' < 14 := (Array.getElem?_eq_some_iff.1 hoi).1
   have t4 : a'.tmps.getD 4 undef = .pointer (some ⟨b4, 0, none⟩) := hold 4 (free_of (by kernel_rfl))
   have t7 : a'.tmps.getD 7 undef = .pointer (some ⟨b7, 0, none⟩) := hold 7 (free_of (by kernel_rfl))
   have t8 : a'.tmps.getD 8 undef = .pointer (some ⟨b7 + 1 + 1, 0, none⟩) := hold 8 (free_of (by kernel_rfl))
   have t9 : a'.tmps.getD 9 undef = .int .i64 (i : Int) := hold 9 (free_of (by kernel_rfl))
   clear hold
   have k4 := hWo.1.cell (b := b4) (by omega) (by omega) (by omega) c4W
   have k7 := hWo.1.cell (b := b7) (by omega) (by omega) (by omega) c7W
   have k8 := hWo.1.cell (b := b7 + 1 + 1) (by omega) (by omega) (by omega) c8W
   have hsame : i' ≠ 11 → i' ≠ 13 → lqWo W (b7 + 1) gq m i us qs C Q vM b (L.setIfInBounds i' true) w'' := fun h1 h2 => hWo.same h1 h2
   obtain rfl | rfl | rfl | rfl | rfl | rfl | rfl | rfl | rfl | rfl | rfl | rfl | rfl | rfl : i' = 0 ∨ i' = 1 ∨ i' = 2 ∨ i' = 3 ∨ i' = 4 ∨ i' = 5 ∨ i' = 6 ∨ i' = 7 ∨ i' = 8 ∨ i' = 9 ∨ i' = 10 ∨ i' = 11 ∨ i' = 12 ∨ i' = 13 := by omega
   all_goals
    have hoi' := hoi
    simp only [List.getElem?_toArray, List.getElem?_cons_zero, List.getElem?_cons_succ, Option.some.injEq] at hoi'
    subst hoi'
   ·refine in_value hoi rfl nofun (fun _ _ => trivial) ?_ (hK b _ (fun _ _ => rfl) (hsame (by decide) (by decide)))
    simp [execOp, Act.eval, t4, k4, go_sem, lqVals]
   ·refine in_value hoi rfl nofun (fun _ _ => trivial) ?_ (hK b _ (fun _ _ => rfl) (hsame (by decide) (by decide)))
    simp [execOp, Act.eval, t9, lqVals]
   ·refine in_value hoi rfl nofun (fun _ _ => trivial) ?_ (hK b _ (fun _ _ => rfl) (hsame (by decide) (by decide)))
    simp [execOp, Act.eval, t8, k8, go_sem, lqVals]
   ·refine in_value hoi rfl nofun (fun _ _ => trivial) ?_ (hK b _ (fun _ _ => rfl) (hsame (by decide) (by decide)))
    simp [execOp, Act.eval, t9, lqVals]
   ·refine in_value hoi rfl nofun (fun _ _ => trivial) ?_ (hK b _ (fun _ _ => rfl) (hsame (by decide) (by decide)))
    simp [execOp, Act.eval, t9, lqVals]
   ·refine in_value hoi rfl nofun (fun _ _ => trivial) ?_ (hK b _ (fun _ _ => rfl) (hsame (by decide) (by decide)))
    simp [execOp, Act.eval, t7, k7, go_sem, lqVals]
   ·have u := hnew 5 _ 45 rfl rfl (hdep ⟨5, .data⟩ (by simp) rfl) (by simp)
    simp only [lqVals, List.getD_cons_zero, List.getD_cons_succ] at u
    refine in_value hoi rfl nofun (fun _ _ => trivial) ?_ (hK b _ (fun _ _ => rfl) (hsame (by decide) (by decide)))
    simp [Act.eval, u, go_sem, lqVals]
   ·have u1 := hnew 4 _ 44 rfl rfl (hdep ⟨4, .data⟩ (by simp) rfl) (by simp)
    have u2 := hnew 6 _ 46 rfl rfl (hdep ⟨6, .data⟩ (by simp) rfl) (by simp)
    simp only [lqVals, List.getD_cons_zero, List.getD_cons_succ] at u1 u2
    have hw : IntKind.i64.wrap ((i : Int) + nv) = (i : Int) + nv := IntWalk.i64_in _ (by omega)
    refine in_value hoi rfl nofun (fun _ _ => trivial) ?_ (hK b _ (fun _ _ => rfl) (hsame (by decide) (by decide)))
    simp [execOp, Act.eval, u1, u2, go_sem, lqVals, hw]
   ·have u1 := hnew 7 _ 47 rfl rfl (hdep ⟨7, .data⟩ (by simp) rfl) (by simp)
    simp only [lqVals, List.getD_cons_zero, List.getD_cons_succ] at u1
    have hw : IntKind.i64.wrap ((i : Int) + nv + 1) = (i : Int) + nv + 1 := IntWalk.i64_in _ (by omega)
    refine in_value hoi rfl nofun (fun _ _ => trivial) ?_ (hK b _ (fun _ _ => rfl) (hsame (by decide) (by decide)))
    simp [execOp, Act.eval, u1, go_sem, lqVals, hw]
   ·have u1 := hnew 2 _ 42 rfl rfl (hdep ⟨2, .data⟩ (by simp) rfl) (by simp)
    have u2 := hnew 3 _ 43 rfl rfl (hdep ⟨3, .data⟩ (by simp) rfl) (by simp)
    have u3 := hnew 8 _ 48 rfl rfl (hdep ⟨8, .data⟩ (by simp) rfl) (by simp)
    simp only [lqVals, List.getD_cons_zero, List.getD_cons_succ] at u1 u2 u3
    refine in_value hoi rfl nofun (fun _ _ => trivial) ?_ (hK b _ (fun _ _ => rfl) (hsame (by decide) (by decide)))
    simp [execOp, Act.eval, u1, u2, u3, go_sem, lqVals]
    have et : ((i : Int) + nv + 1).toNat - i = nv + 1 := by omega
    rw [if_pos ⟨by omega, by omega⟩, if_pos (by omega), if_neg (by omega), et]
   ·refine in_value hoi rfl nofun (fun _ _ => trivial) ?_ (hK b _ (fun _ _ => rfl) (hsame (by decide) (by decide)))
    simp [execOp, Act.eval, t7, k7, go_sem, lqVals]
   ·have u1 := hnew 9 _ 49 rfl rfl (hdep ⟨9, .data⟩ (by simp) rfl) (by simp)
    have u2 := hnew 10 _ 50 rfl rfl (hdep ⟨10, .data⟩ (by simp) rfl) (by simp)
    simp only [lqVals, List.getD_cons_zero, List.getD_cons_succ] at u1 u2
    have h11 := unlisted hnl
    have h13 : L.getD 13 false = false := by
     apply Classical.byContradiction
     intro h
     have h2 := hcl 13 _ rfl (by simpa using h) ⟨11, .data⟩ (by simp) rfl
     rw [h11] at h2
     cases h2
    obtain ⟨hTwo, us1, qs1, hru, hrq, hu0, hu1, hq0, hq1⟩ := hWo
    obtain rfl := hu0 h11
    obtain rfl := hq0 h13
    have hvw := hvW.below (hTwo.below (B := b7) (by omega) (by omega) (by omega))
    refine in_call_any (f := 114) (args := #[.slice (some ⟨b7 + 1, i, none⟩) (nv + 1) (m + 1 - i), .slice Av nv cv]) hoi rfl nofun rfl (fun _ _ => trivial) ?_ (CallsIn.inRound l (callsIn_wide.2 ((HDIG.out w'' hru hvw).mono ?_)))
    ·simp [Act.eval, u1, u2, go_sem]
    ·rintro e w3 ⟨q, us2, rfl, hq64, hr2, hon, hz2, hl2, hd2, hcc⟩
     refine ⟨.int .u64 (q : Int), rfl, hK q w3 (fun j hj => lqVals_same _ _ _ _ _ _ _ _ _ _ (fun e => by subst e; rw [h11] at hj; cases hj)) ?_⟩
     refine ⟨hTwo.fst hon, us2, qs1, hr2, hon.row hrq (by omega), fun h => ?_, fun _ => ⟨hq64, by rw [hl2, HE1.out], hd2, hcc⟩, fun _ => rfl, fun h => ?_⟩
     ·rw [getD_set_self L (by rw [hs]; decide)] at h; cases h
     ·rw [getD_set_other L (by decide), h13] at h; cases h
   ·have u1 := hnew 0 _ 40 rfl rfl (hdep ⟨0, .data⟩ (by simp) rfl) (by simp)
    have u2 := hnew 1 _ 41 rfl rfl (hdep ⟨1, .data⟩ (by simp) rfl) (by simp)
    simp only [lqVals, List.getD_cons_zero, List.getD_cons_succ] at u1 u2
    refine in_value hoi rfl nofun (fun _ _ => trivial) ?_ (hK b _ (fun _ _ => rfl) (hsame (by decide) (by decide)))
    simp [execOp, Act.eval, u1, u2, go_sem, lqVals, hii]
   ·have u1 := hnew 12 _ 52 rfl rfl (hdep ⟨12, .data⟩ (by simp) rfl) (by simp)
    have u2 := hnew 11 _ 51 rfl rfl (hdep ⟨11, .data⟩ (by simp) rfl) (by simp)
    simp only [lqVals, List.getD_cons_zero, List.getD_cons_succ] at u1 u2
    have h13 := unlisted hnl
    have h11 : L.getD 11 false = true := hdep ⟨11, .data⟩ (by simp) rfl
    obtain ⟨hTwo, us1, qs1, hru, hrq, hu0, hu1, hq0, hq1⟩ := hWo
    obtain rfl := hq0 h13
    obtain ⟨old, hold⟩ := get_lt (zs := qs1) (k := i) (by rw [HE3.out]; exact hi)
    have hcz := hrq.at_ hold
    have hfz := hrq.frozen i
    refine in_skip (w' := w''.setCell ⟨gq, i, none⟩ (.int .u64 (b : Int))) hoi rfl nofun (fun _ _ => trivial) ?_ (hK b _ (fun _ _ => rfl) ?_)
    ·simp [execOp, Act.eval, u1, u2, go_sem, stored, hcz, hfz]
    ·refine ⟨hTwo.snd ((Only.refl w'' gq).set _ _), us1, qs1.set i b, hru.far (by show b7 + 1 ≠ gq; omega) _, hrq.set _ _, fun h => ?_, fun _ => hu1 h11, fun h => ?_, fun _ => rfl⟩
     ·rw [getD_set_other L (by decide), h11] at h; cases h
     ·rw [getD_set_self L (by rw [hs]; decide)] at h; cases h
  case hend =>
   intro b L w'' hWo hL
   generalize wrote _ _ _ _ _ = TT
   gi_wp2
   obtain ⟨hTwo, us1, qs1, hru, hrq, _, hu1, _, hq1⟩ := hWo
   obtain ⟨hb64, hl1, hd1, hcc⟩ := hu1 (hL 11 (by decide))
   obtain rfl := hq1 (hL 13 (by decide))
   have hB1 := hTwo.below (B := b7) (by omega) (by omega) (by omega)
   refine ⟨hTwo.keeps e5 e6 _, ⟨hB1, hTwo.block (gq + 1) (by omega) (by omega) (by omega), fun zs hz hzl => ⟨_, hrq, by rw [List.length_set]; exact HE3.out⟩⟩, ⟨⟨us1, _, hl1, hd1, by rw [List.length_set]; exact HE3.out, e4.set _ hb64, hru, hrq, fun hg => ?_⟩, hTwo.cell (by omega) (by omega) (by omega) c7W, hTwo.cell (by omega) (by omega) (by omega) c8W⟩, hBW.trans hB1⟩
   obtain ⟨g1, g2⟩ := lq_good hg
   obtain ⟨n1, n2⟩ := HE7.out g1
   have g3 : i = nq - 1 - pre.length := g2
   have hcC : C := by
    rw [← HCC.out]
    have e : nq - pre.length = i + 1 := by omega
    rw [e] at n2
    exact n2
   obtain ⟨hqQ, hV⟩ := hcc hcC
   rw [List.length_append, List.length_singleton]
   refine lq_num g3 hpl HE1.out e2 HE3.out (by omega) ?_ HVP.out n1 n2 HQQ.out hqQ hV
   have h1 := V_lt vs hdv
   rw [HVS2.out, HVM.out, ← hv0.len] at h1
   rw [Nat.pow_succ]
   exact Nat.mul_le_mul_right _ (Nat.le_of_lt h1)
 case done =>
  rintro D dl W hD hds ⟨⟨⟨us, qs, e1, e2, e3, e4, e5, e6, e7⟩, c7W, c8W⟩, hBW⟩ hK
  have hl : dl.length = nq := by rw [← firsts_length, hds, downL_length]
  obtain ⟨n1, n2⟩ := e7 (by rw [hl]; exact hds)
  rw [hl, Nat.sub_self, List.drop_zero, Nat.pow_zero, Nat.mul_one] at n1
  rw [hl, Nat.sub_self, Nat.pow_zero, Nat.mul_one] at n2
  have hMp : 0 < M := by
   rcases Nat.eq_zero_or_pos M with h | h
   ·have := HVP.out; have h2 := HVM.out; rw [h] at h2; omega
   ·exact h
  obtain ⟨f1, f2⟩ := quo_end (N := N) (M := M) (s := 2 ^ s) (Nat.pow_pos (by decide)) hMp (by rw [Nat.mul_comm _ M, Nat.mul_comm _ N, HVM.out, HUN.out]; exact n1) (by rw [Nat.mul_comm, HVM.out]; exact n2)
  have hdiv : V b64 us / 2 ^ s = N % M := by rw [f2]; exact Nat.mul_div_cancel_left _ (Nat.pow_pos (by decide))
  have c4W := (hBW.cell (p := ⟨b4, 0, none⟩) (by show b4 < b7; omega)).trans c4
  have f4W := (hBW.frozen (p := ⟨b4, 0, none⟩) (by show b4 < b7; omega)).trans f4
  have hsq := e6.sl (by omega)
  have hsu := e5.sl (by omega)
  rw [e3] at hsq
  rw [e1] at hsu
  have hWs : gq + 1 + 1 ≤ W.heap.size := by have := hBW.size; have := HSZ0.out; omega
  have hDlt : D < W.heap.size := (Array.getElem?_eq_some_iff.1 hK).1
  have HQV := hid f1
  have HBT := hid (hB0.trans (hBW.mono (by omega)))
  have HDQ := hid e4
  have HDU := hid e2
  have HDIV := hid hdiv
  have hWo0 : RqW W b4 (b7 + 1 + 1) gq (b7 + 1) nq m D (N % M) qs us ⟨0, none, 0, 0, []⟩ (Array.replicate 7 false) W.drew :=
   ⟨fun _ => c4W, fun h => (by exact absurd h (by decide)), f4W, c8W, hsq, hsu, fun h => (by exact absurd h (by decide)), fun h => (by exact absurd h (by decide)), Nat.le_refl _, (Below.refl _ W).drew, hK⟩
  have HW0 := hid hWo0
  clear hsq hsu f1 f2 hdiv n1 n2 e7 hl hds e1 e2 e3 e4 e5 e6 c7 c8 c4 f4 ru rq2 c9 c7W c8W c4W f4W hWo0 hK
  gi_wp2
  refine wpIn_region_rel hmx ?hd2 (rqVals gq (b7 + 1) nq m s) (RqW W b4 (b7 + 1 + 1) gq (b7 + 1) nq m D (N % M) qs us) ⟨0, none, 0, 0, []⟩ HW0.out ?hstep2 ?hend2 ?hac2
  case hd2 => exact distinct_of (by kernel_rfl)
  case hac2 => exact acyclic_of (by kernel_rfl)
  case hstep2 =>
   intro b L a' w'' hWo hs hdf hcl hold hnew i' hi' oi hoi K hK
   obtain ⟨hnl, o2, ho2, hdep⟩ := mem_ready.1 hi'
   obtain rfl : oi = o2 := Option.some.inj (hoi.symm.trans ho2)
   have hlt : i' < 7 := (Array.getElem?_eq_some_iff.1 hoi).1
   have t4 : a'.tmps.getD 4 undef = .pointer (some ⟨b4, 0, none⟩) := hold 4 (free_of (by kernel_rfl))
   have t6 : a'.tmps.getD 6 undef = .int .i64 (s : Int) := hold 6 (free_of (by kernel_rfl))
   have t8 : a'.tmps.getD 8 undef = .pointer (some ⟨b7 + 1 + 1, 0, none⟩) := hold 8 (free_of (by kernel_rfl))
   clear hold
   have k8 := hWo.c8
   obtain rfl | rfl | rfl | rfl | rfl | rfl | rfl : i' = 0 ∨ i' = 1 ∨ i' = 2 ∨ i' = 3 ∨ i' = 4 ∨ i' = 5 ∨ i' = 6 := by omega
   all_goals
    have hoi' := hoi
    simp only [List.getElem?_toArray, List.getElem?_cons_zero, List.getElem?_cons_succ, Option.some.injEq] at hoi'
    subst hoi'
   ·have h0 := unlisted hnl
    have h5 : L.getD 5 false = false := by
     apply Classical.byContradiction
     intro h
     have h2 := hcl 5 _ rfl (by simpa using h) ⟨1, .data⟩ (by simp) rfl
     have h3 := hcl 1 _ rfl h2 ⟨0, .data⟩ (by simp) rfl
     rw [h0] at h3
     cases h3
    have k4 := hWo.c4 h5
    refine in_value hoi rfl nofun (fun _ _ => trivial) ?_ (hK b _ (fun _ _ => rfl) (hWo.same (by decide) (by decide) (by decide)))
    simp [execOp, Act.eval, t4, k4, go_sem, rqVals]
   ·have u := hnew 0 _ 53 rfl rfl (hdep ⟨0, .data⟩ (by simp) rfl) (by simp)
    simp only [rqVals, List.getD_cons_zero] at u
    have h1 := unlisted hnl
    have h5 : L.getD 5 false = false := by
     apply Classical.byContradiction
     intro h
     have h2 := hcl 5 _ rfl (by simpa using h) ⟨1, .data⟩ (by simp) rfl
     rw [h1] at h2
     cases h2
    refine in_call_any (f := 74) (args := #[.slice (some ⟨gq, 0, none⟩) nq nq]) hoi rfl nofun rfl (fun _ _ => trivial) ?_ (callsIn_wide.2 ((ltrim_sl w'' _ _ _ _ _ hWo.sq).mono ?_))
    ·simp [Act.eval, u, go_sem]
    ·rintro e w3 ⟨mt, rfl, hst, hmt, rfl⟩
     refine ⟨_, rfl, hK ⟨mt, b.Ar, b.nr, b.cr, b.rs⟩ _ (fun j hj => ?_) ?_⟩
     ·match j, hj with
      | 0, _ => rfl
      | 1, hj => rw [h1] at hj; cases hj
      | 2, _ => rfl
      | 3, _ => rfl
      | 4, _ => rfl
      | 5, _ => rfl
      | 6, _ => rfl
      | _ + 7, _ => rfl
     ·refine ⟨?_, ?_, hWo.f4, hWo.c8, hWo.sq, hWo.su, fun _ => hst, ?_, hWo.size, hWo.bel, hWo.rc⟩
      ·rw [getD_set_other L (by decide)]; exact hWo.c4
      ·rw [getD_set_other L (by decide)]; intro h; rw [h5] at h; cases h
      ·rw [getD_set_other L (by decide)]; exact hWo.sh
   ·refine in_value hoi rfl nofun (fun _ _ => trivial) ?_ (hK b _ (fun _ _ => rfl) (hWo.same (by decide) (by decide) (by decide)))
    simp [execOp, Act.eval, t8, k8, go_sem, rqVals]
   ·refine in_value hoi rfl nofun (fun _ _ => trivial) ?_ (hK b _ (fun _ _ => rfl) (hWo.same (by decide) (by decide) (by decide)))
    simp [execOp, Act.eval, t6, rqVals]
   ·have u1 := hnew 2 _ 55 rfl rfl (hdep ⟨2, .data⟩ (by simp) rfl) (by simp)
    have u2 := hnew 3 _ 56 rfl rfl (hdep ⟨3, .data⟩ (by simp) rfl) (by simp)
    simp only [rqVals, List.getD_cons_zero, List.getD_cons_succ] at u1 u2
    have h4 := unlisted hnl
    have h6 : L.getD 6 false = false := by
     apply Classical.byContradiction
     intro h
     have h2 := hcl 6 _ rfl (by simpa using h) ⟨4, .data⟩ (by simp) rfl
     rw [h4] at h2
     cases h2
    have hsh := shr_any w'' _ (Nat.le_refl _) _ _ _ _ (hWo.su.more hWo.size) HDU.out (by omega) s (by omega)
    rw [HDIV.out] at hsh
    refine in_call_any (f := 115) (args := #[.slice (some ⟨b7 + 1, 0, none⟩) (m + 1) (m + 1), .int .i64 (s : Int)]) hoi rfl nofun rfl (fun _ _ => trivial) ?_ (callsIn_wide.2 (hsh.mono ?_))
    ·simp [Act.eval, u1, u2, go_sem]
    ·rintro e w3 ⟨rs, hrs, Ar, nr, cr, rfl, hsr, hbr⟩
     have hb3 : b4 < w''.heap.size := by have := hWo.size; omega
     have hb8 : b7 + 1 + 1 < w''.heap.size := by have := hWo.size; omega
     refine ⟨_, rfl, hK ⟨b.mt, Ar, nr, cr, rs⟩ _ (fun j hj => ?_) ?_⟩
     ·match j, hj with
      | 0, _ => rfl
      | 1, _ => rfl
      | 2, _ => rfl
      | 3, _ => rfl
      | 4, hj => rw [h4] at hj; cases hj
      | 5, _ => rfl
      | 6, hj => rw [h6] at hj; cases hj
      | _ + 7, _ => rfl
     ·refine ⟨?_, ?_, (hbr.frozen (p := ⟨b4, 0, none⟩) hb3).trans hWo.f4, (hbr.cell (p := ⟨b7 + 1 + 1, 0, none⟩) hb8).trans hWo.c8, hWo.sq.below (hbr.mono hWo.size), hWo.su.below (hbr.mono hWo.size), ?_, fun _ => ⟨hsr, hrs⟩, Nat.le_trans hWo.size hbr.size, hWo.bel.trans (hbr.mono (Nat.le_of_lt hb3)), (hbr.block D (by have := hWo.size; omega)).trans hWo.rc⟩
      ·rw [getD_set_other L (by decide)]; intro h; exact (hbr.cell (p := ⟨b4, 0, none⟩) hb3).trans (hWo.c4 h)
      ·rw [getD_set_other L (by decide)]; intro h; exact (hbr.cell (p := ⟨b4, 0, none⟩) hb3).trans (hWo.c4' h)
      ·rw [getD_set_other L (by decide)]; intro h; exact (hWo.tr h).below (hbr.mono hWo.size)
   ·have u1 := hnew 1 _ 54 rfl rfl (hdep ⟨1, .data⟩ (by simp) rfl) (by simp)
    simp only [rqVals, List.getD_cons_zero, List.getD_cons_succ] at u1
    have h5 := unlisted hnl
    have hcz := hWo.c4 h5
    have hfz := hWo.f4
    have hno : ∀ x : Nat, w''.cell? ⟨b4, 0, none⟩ ≠ some (.int .u64 (x : Int)) := fun x h => by rw [hcz] at h; cases h
    have hbD : D ≠ b4 := by have := HSZ0.out; omega
    refine in_skip (w' := w''.setCell ⟨b4, 0, none⟩ (.slice (some ⟨gq, 0, none⟩) b.mt nq)) hoi rfl nofun (fun _ _ => trivial) ?_ (hK b _ (fun _ _ => rfl) ?_)
    ·simp [execOp, Act.eval, t4, u1, go_sem, stored, hcz, hfz]
    ·refine ⟨fun h => ?_, fun _ => World.cell?_setCell_same' _ _ _ (by rw [hcz]; rfl), by rw [World.frozen?_setCell]; exact hfz, ?_, hWo.sq.setOther hno _, hWo.su.setOther hno _, ?_, ?_, ?_, hWo.bel.setCell (p := ⟨b4, 0, none⟩) (Nat.le_refl _) _, (Below.heap_setCell _ _ _ _ hbD).trans hWo.rc⟩
     ·rw [getD_set_self L (by rw [hs]; decide)] at h; cases h
     ·rw [World.cell?_setCell_other _ _ _ _ (by intro e; injection e with e1; omega)]; exact hWo.c8
     ·rw [getD_set_other L (by decide)]; intro h; exact (hWo.tr h).setOther hno _
     ·rw [getD_set_other L (by decide)]
      intro h
      obtain ⟨z1, z2⟩ := hWo.sh h
      refine ⟨?_, z2⟩
      have hz : (w''.setCell ⟨b4, 0, none⟩ (.slice (some ⟨gq, 0, none⟩) b.mt nq)).heap.size = w''.heap.size := by simp [World.setCell]
      rw [hz]
      exact z1.setOther hno _
     ·have hz : (w''.setCell ⟨b4, 0, none⟩ (.slice (some ⟨gq, 0, none⟩) b.mt nq)).heap.size = w''.heap.size := by simp [World.setCell]
      rw [hz]; exact hWo.size
   ·have u1 := hnew 4 _ 57 rfl rfl (hdep ⟨4, .data⟩ (by simp) rfl) (by simp)
    simp only [rqVals, List.getD_cons_zero, List.getD_cons_succ] at u1
    refine in_value hoi rfl nofun (fun _ _ => trivial) ?_ (hK b _ (fun _ _ => rfl) (hWo.same (by decide) (by decide) (by decide)))
    simp [execOp, Act.eval, u1, go_sem, rqVals]
  case hend2 =>
   intro b L w'' hWo hL
   generalize hTT : wrote _ _ _ _ _ = TT
   have h5 : TT.getD 5 undef = .slice b.Ar b.nr b.cr := by
    rw [← hTT]
    exact wrote_new _ _ _ _ (distinct_of (by kernel_rfl)) (j := 6) rfl rfl (by simp) (by simp) _ (by decide)
   have h4 : TT.getD 4 undef = .pointer (some ⟨b4, 0, none⟩) := by
    rw [← hTT]
    refine (wrote_old _ _ _ _ 4 ?_ _).trans ?_
    ·exact free_of (by kernel_rfl)
    ·rfl
   rw [Array.getD_eq_getD_getElem?] at h4 h5
   clear hTT
   have hc4 := hWo.c4' (hL 5 (by decide))
   have hst := hWo.tr (hL 1 (by decide))
   obtain ⟨hsr, hrs⟩ := hWo.sh (hL 4 (by decide))
   have hrc := hWo.rc
   have hsz := hWo.size
   have hbl := hWo.bel
   have HRS := hid hrs
   clear hWo hL hrs
   gi_wp2
   refine ⟨by simp, .inl ⟨_, _, rfl, run_takeDeferred hrc, ?_⟩⟩
   have hg := grownBy_putObj' w'' D (.deferred none)
   have hgr : ∀ r', some D = some r' → ∃ o, w''.heap[r']? = some o ∧ o.isCells = false := fun r' e => by cases e; exact ⟨_, hrc, rfl⟩
   have hc5 := cell_kept hc4 hg hgr
   have hpz : (w''.putObj D (.deferred none)).heap.size = w''.heap.size := by simp [World.putObj]
   have hnq2 := trimmed_nm HDQ.out
   rw [HQV.out] at hnq2
   have hst2 := (hst.kept hg hgr).more (B' := (w''.putObj D (.deferred none)).heap.size) (by rw [hpz]; exact hsz)
   have hsr2 := hsr.kept hg hgr
   rw [← hpz] at hsr2
   refine ⟨.tuple #[.slice (some ⟨gq, 0, none⟩) b.mt nq, .slice b.Ar b.nr b.cr], ?_, _, _, _, _, _, _, _, _, rfl, hst2, hsr2, ?_, hnq2, HRS.out⟩
   ·simp [results, Tryz.f102, go_sem, hc5, h4, h5]
   ·have hb := HBT.out.trans hbl
    rw [HB4.out]
    exact hb.trans (belowK_b (w := W0) (by have := HSZ0.out; omega) _ D _ _ hD hrc rfl rfl)
 case stop =>
  rintro D c pre W _ _ h _
  exact h.elim
end Go.Proofs.YtbejcollbkeedaaGreat
namespace Go.Proofs.YtbejcollbkeedaaGreat
open Go.RowKit
theorem longQ : LongQ := fun w A1 m c1 xs hs1 A2 n c2 ys hs2 N M hN hM hm hNM p p1 hnp hp1 => longQuo_any w A1 m c1 xs hs1 A2 n c2 ys hs2 N M hN hM hm hNM p p1 hnp hp1
def Lg (q N : Nat) : Prop := 2 ^ q ≤ N
theorem bits_gt {N k q : Nat} (h : IsBits N k) : q < k ↔ Lg q N := by
 constructor
 ·intro hq
  exact Nat.le_trans (Nat.pow_le_pow_right (by decide) (by omega)) (h.2 (by omega))
 ·intro hq
  apply Classical.byContradiction
  intro hn
  have h1 : 2 ^ k ≤ 2 ^ q := Nat.pow_le_pow_right (by decide) (by omega)
  have h2 := h.1
  unfold Lg at hq
  omega
theorem bits_zero {N k : Nat} (h : IsBits N k) : k = 0 ↔ N = 0 := by
 constructor
 ·rintro rfl
  have := h.1
  rw [Nat.pow_zero] at this
  omega
 ·rintro rfl
  apply Classical.byContradiction
  intro hk
  have h2 := h.2 hk
  have h3 := Nat.pow_pos (n := k - 1) (show 0 < 2 by decide)
  omega
structure Ns where
 A : Option Addr
 n : Nat
 c : Nat
 xs : List Nat
def Tl (w : World) (g : Nat) (ns : List Ns) : Prop :=
 ∀ k x, ns[k]? = some x → w.cell? ⟨g, k, none⟩ = some (.slice x.A x.n x.c) ∧ (∃ B, Sl w B x.A x.n x.c x.xs) ∧ Dg b64 x.xs ∧ x.n ≤ 17592186044416
def TlB (ns : List Ns) (b : Bool) : Prop := b = true ↔ ∃ x ∈ ns, Lg 4096 (V b64 x.xs)
theorem tooLong_any (w : World) (g L : Nat) (ns : List Ns) (hl : L = ns.length) (hL : L ≤ 1000000) (ht : Tl w g ns) :
  Calls Tryz.prog 84 #[.slice (some ⟨g, 0, none⟩) L L] w fun e w' => (∃ b, e = .returned (.bool b) ∧ TlB ns b) ∧ w = w' := by
 have HT := hid ht
 have HL := hid hl
 clear ht hl
 go_enter Tryz.func84, Tryz.ntmps84
 go_wp2
 go_loopw [7] (fun i wr => ∃ k : Nat, k ≤ L ∧ i = .int .i64 (k : Nat) ∧ (∀ x ∈ ns.take k, ¬ Lg 4096 (V b64 x.xs)) ∧ wr = w) (fun i _ => L - (intOf i).toNat)
 case atStart => exact ⟨0, Nat.zero_le _, rfl, by simp, rfl⟩
 case round =>
  obtain ⟨k, hk, rfl, hno, rfl⟩ := hrel
  have HNO := hid hno
  clear hno
  by_cases h0 : k = L
  ·subst h0
   have hf : TlB ns false := by
    constructor
    ·intro h; cases h
    ·rintro ⟨x, hx, hlx⟩
     exact absurd hlx (HNO.out x (by rw [List.take_of_length_le (by rw [HL.out]; omega)]; exact hx))
   have HF := hid hf
   clear hf
   go_wp2
   go_ret
   exact ⟨⟨_, rfl, HF.out⟩, rfl⟩
  ·have hlt : k < L := by omega
   have hki : (k : Int) < L := by omega
   obtain ⟨x, hx⟩ : ∃ x, ns[k]? = some x := ⟨_, List.getElem?_eq_getElem (by rw [← HL.out]; exact hlt)⟩
   obtain ⟨hc, ⟨B, hs⟩, hd, hn⟩ := HT.out k x hx
   have HX := hid hx
   clear hx
   have hb := bits_any wr B _ _ _ _ hs hd hn
   have HB := hid hb
   clear hb
   go_wp2_with fail
   refine HB.out.mono ?_
   rintro e w1 ⟨kk, rfl, hkk, rfl⟩
   have hgt := bits_gt (q := 4096) hkk
   have HG := hid hgt
   clear hgt hkk
   by_cases h4 : 4096 < kk
   ·have hi : (4096 : Int) < (kk : Int) := by omega
    have ht : TlB ns true := ⟨fun _ => ⟨x, List.mem_of_getElem? HX.out, HG.out.1 h4⟩, fun _ => rfl⟩
    have HTR := hid ht
    clear ht
    go_wp2
    go_ret
    exact ⟨⟨_, rfl, HTR.out⟩, rfl⟩
   ·have hi : ¬ (4096 : Int) < (kk : Int) := by omega
    have hno2 : ∀ y ∈ ns.take (k + 1), ¬ Lg 4096 (V b64 y.xs) := by
     intro y hy
     rw [List.take_add_one, HX.out] at hy
     rcases List.mem_append.1 hy with h | h
     ·exact HNO.out y h
     ·simp at h
      subst h
      exact fun h => h4 (HG.out.2 h)
    have HN2 := hid hno2
    clear hno2
    go_wp2
    go_roundw
    case rel => exact ⟨k + 1, by omega, by go_num, HN2.out, by first | rfl | trivial⟩
    case measure => simp [intOf]; omega
theorem isZero_any (w : World) (B : Nat) (A : Option Addr) (n c : Nat) (xs : List Nat) (hs : Sl w B A n c xs) (hd : Dg b64 xs) (hn : n ≤ 17592186044416) :
  Calls Tryz.prog 104 #[.slice A n c] w fun e w' => (∃ b, e = .returned (.bool b) ∧ (b = true ↔ V b64 xs = 0)) ∧ w = w' := by
 have hb := bits_any w B A n c xs hs hd hn
 have HB := hid hb
 clear hb
 go_enter Tryz.func104, Tryz.ntmps104
 go_wp2_with fail
 refine HB.out.mono ?_
 rintro e w1 ⟨kk, rfl, hkk, rfl⟩
 have hz := bits_zero hkk
 have HZ := hid hz
 clear hz hkk
 go_wp2
 go_ret
 refine ⟨⟨_, rfl, ?_⟩, rfl⟩
 rw [← HZ.out]
 simp
theorem cell_new (w : World) (vs : Array Value) (t : TypeId) {k : Nat} {v : Value} (h : vs[k]? = some v) : (w.alloc (.cells vs t)).cell? ⟨w.heap.size, k, none⟩ = some v := by
 have h2 := heap_alloc_new w (.cells vs t)
 unfold World.cell?
 dsimp only
 rw [h2]
 exact h
theorem tl_new (w : World) (t : TypeId) (ns : List Ns) (h : ∀ x ∈ ns, Sl w w.heap.size x.A x.n x.c x.xs ∧ Dg b64 x.xs ∧ x.n ≤ 17592186044416) :
  Tl (w.alloc (.cells (ns.map fun x => Value.slice x.A x.n x.c).toArray t)) w.heap.size ns := by
 intro k x hx
 obtain ⟨h1, h2, h3⟩ := h x (List.mem_of_getElem? hx)
 refine ⟨cell_new w _ t ?_, ⟨w.heap.size, h1.below ((Below.refl _ w).alloc (Nat.le_refl _) _)⟩, h2, h3⟩
 simp [hx]
def RetM (w : World) (ok : Prop) (R : Nat) (e : Ending) (w' : World) : Prop :=
 ∃ b A n c r, e = .returned (.tuple #[.slice A n c, .bool b]) ∧ (b = true ↔ ok) ∧ (b = false → A = none ∧ n = 0 ∧ c = 0) ∧ (b = true → Nm b64 r R) ∧ Sl w' w'.heap.size A n c r ∧ Below w.heap.size w w'
theorem RetM.no {w w' : World} {ok : Prop} {R : Nat} (h : ¬ ok) (hb : Below w.heap.size w w') : RetM w ok R (.returned (.tuple #[.slice none 0 0, .bool false])) w' :=
 ⟨false, none, 0, 0, [], rfl, ⟨fun h => (by cases h), fun h' => absurd h' h⟩, fun _ => ⟨rfl, rfl, rfl⟩, fun h => (by cases h), Sl.nil _ _ _ (by omega), hb⟩
theorem mod_any (w : World) (A1 : Option Addr) (n1 c1 : Nat) (xs : List Nat) (hs1 : Sl w w.heap.size A1 n1 c1 xs) (A2 : Option Addr) (n2 c2 : Nat) (ys : List Nat) (hs2 : Sl w w.heap.size A2 n2 c2 ys) (hd1 : Dg b64 xs) (hd2 : Dg b64 ys)
  (hn1 : n1 ≤ 100000000) (hn2 : n2 ≤ 100000000) (N M : Nat) (hN : V b64 xs = N) (hM : V b64 ys = M) :
  Calls Tryz.prog 54 #[.slice A1 n1 c1, .slice A2 n2 c2] w fun e w' => RetM w (¬ Lg 4096 N ∧ ¬ Lg 4096 M ∧ M ≠ 0) (N % M) e w' := by
 have ht := tl_new w 23 [⟨A1, n1, c1, xs⟩, ⟨A2, n2, c2, ys⟩] (by
  intro x hx
  simp at hx
  rcases hx with rfl | rfl
  ·exact ⟨hs1, hd1, by show n1 ≤ _; omega⟩
  ·exact ⟨hs2, hd2, by show n2 ≤ _; omega⟩)
 have htl := tooLong_any _ _ 2 _ rfl (by decide) ht
 have hb1 : Below w.heap.size w (w.alloc (.cells #[.slice A1 n1 c1, .slice A2 n2 c2] 23)) := (Below.refl _ w).alloc (Nat.le_refl _) _
 have HTL := hid htl
 have HN := hid hN
 have HM := hid hM
 have HD1 := hid hd1
 have HD2 := hid hd2
 have HS1 := hid (hs1.later hb1 (Nat.le_refl _))
 have HS2 := hid (hs2.later hb1 (Nat.le_refl _))
 clear htl ht hN hM hd1 hd2 hs1 hs2
 go_enter Tryz.func54, Tryz.ntmps54
 go_wp2_with fail
 refine HTL.out.mono ?_
 rintro e w1 ⟨⟨b, rfl, hb⟩, rfl⟩
 have HB := hid hb
 clear hb
 rcases b with _ | _
 ·have hnl : ¬ Lg 4096 N ∧ ¬ Lg 4096 M := by
   have h := HB.out
   refine ⟨fun h1 => ?_, fun h1 => ?_⟩
   ·have := h.2 ⟨⟨A1, n1, c1, xs⟩, by simp, by rw [HN.out]; exact h1⟩; cases this
   ·have := h.2 ⟨⟨A2, n2, c2, ys⟩, by simp, by rw [HM.out]; exact h1⟩; cases this
  have HNL := hid hnl
  clear hnl
  rcases Nat.eq_zero_or_pos M with h0 | h0
  ·have hq := quo_zero _ _ _ _ _ HS1.out _ _ _ _ HS2.out HD2.out (HM.out.trans h0)
   have hno : ¬ (¬ Lg 4096 N ∧ ¬ Lg 4096 M ∧ M ≠ 0) := fun h => h.2.2 h0
   have HQ := hid hq
   have HNO := hid hno
   clear hq hno h0
   go_wp2_with fail
   refine HQ.out.mono ?_
   rintro e w2 ⟨rfl, hc⟩
   go_wp2
   go_ret2
   exact RetM.no HNO.out (hb1.trans (hc.mono hb1.size))
  ·have hq := quo_all longQ _ _ _ _ _ HS1.out _ _ _ _ HS2.out N M HN.out HM.out HD1.out HD2.out hn1 h0
   have hyes : ¬ Lg 4096 N ∧ ¬ Lg 4096 M ∧ M ≠ 0 := ⟨HNL.out.1, HNL.out.2, by omega⟩
   have HQ := hid hq
   have HYES := hid hyes
   clear hq hyes h0
   go_wp2_with fail
   refine HQ.out.mono ?_
   rintro e w2 ⟨lq, Aq, nq, cq, lr, Ar, nr, cr, rfl, hsq, hsr, hc, hnq, hnr⟩
   have HNR := hid hnr
   clear hnq hnr hsq
   go_wp2
   go_ret2
   exact ⟨true, _, _, _, lr, rfl, ⟨fun _ => HYES.out, fun _ => rfl⟩, fun h => (by cases h), fun _ => HNR.out, hsr, hb1.trans (hc.mono hb1.size)⟩
 ·have hno : ¬ (¬ Lg 4096 N ∧ ¬ Lg 4096 M ∧ M ≠ 0) := by
   rintro ⟨h1, h2, _⟩
   obtain ⟨x, hx, hlx⟩ := HB.out.1 rfl
   simp at hx
   rcases hx with rfl | rfl
   ·exact h1 (HN.out ▸ hlx)
   ·exact h2 (HM.out ▸ hlx)
  have HNO := hid hno
  clear hno
  go_wp2
  go_ret2
  exact RetM.no HNO.out hb1
theorem mmul_any (w : World) (A1 : Option Addr) (n1 c1 : Nat) (xs : List Nat) (hs1 : Sl w w.heap.size A1 n1 c1 xs) (A2 : Option Addr) (n2 c2 : Nat) (ys : List Nat) (hs2 : Sl w w.heap.size A2 n2 c2 ys) (A3 : Option Addr) (n3 c3 : Nat) (zs : List Nat) (hs3 : Sl w w.heap.size A3 n3 c3 zs)
  (hd1 : Dg b64 xs) (hd2 : Dg b64 ys) (hd3 : Dg b64 zs)
  (hn1 : n1 ≤ 10000000) (hn2 : n2 ≤ 10000000) (hn3 : n3 ≤ 10000000) (N P M : Nat) (hN : V b64 xs = N) (hP : V b64 ys = P) (hM : V b64 zs = M) :
  Calls Tryz.prog 91 #[.slice A1 n1 c1, .slice A2 n2 c2, .slice A3 n3 c3] w fun e w' => RetM w (¬ Lg 4096 N ∧ ¬ Lg 4096 P ∧ ¬ Lg 4096 M ∧ M ≠ 0) (N * P % M) e w' := by
 have ht := tl_new w 23 [⟨A1, n1, c1, xs⟩, ⟨A2, n2, c2, ys⟩, ⟨A3, n3, c3, zs⟩] (by
  intro x hx
  simp at hx
  rcases hx with rfl | rfl | rfl
  ·exact ⟨hs1, hd1, by show n1 ≤ _; omega⟩
  ·exact ⟨hs2, hd2, by show n2 ≤ _; omega⟩
  ·exact ⟨hs3, hd3, by show n3 ≤ _; omega⟩)
 have htl := tooLong_any _ _ 3 _ rfl (by decide) ht
 have hb1 : Below w.heap.size w (w.alloc (.cells #[.slice A1 n1 c1, .slice A2 n2 c2, .slice A3 n3 c3] 23)) := (Below.refl _ w).alloc (Nat.le_refl _) _
 have HTL := hid htl
 have HN := hid hN
 have HP := hid hP
 have HM := hid hM
 have HD1 := hid hd1
 have HD2 := hid hd2
 have HD3 := hid hd3
 have HS1 := hid (hs1.later hb1 (Nat.le_refl _))
 have HS2 := hid (hs2.later hb1 (Nat.le_refl _))
 have HS3 := hid (hs3.later hb1 (Nat.le_refl _))
 clear htl ht hN hP hM hd1 hd2 hd3 hs1 hs2 hs3
 go_enter Tryz.func91, Tryz.ntmps91
 go_wp2_with fail
 refine HTL.out.mono ?_
 rintro e w1 ⟨⟨b, rfl, hb⟩, rfl⟩
 have HB := hid hb
 clear hb
 rcases b with _ | _
 ·have hnl : ¬ Lg 4096 N ∧ ¬ Lg 4096 P ∧ ¬ Lg 4096 M := by
   have h := HB.out
   refine ⟨fun h1 => ?_, fun h1 => ?_, fun h1 => ?_⟩
   ·have := h.2 ⟨⟨A1, n1, c1, xs⟩, by simp, by rw [HN.out]; exact h1⟩; cases this
   ·have := h.2 ⟨⟨A2, n2, c2, ys⟩, by simp, by rw [HP.out]; exact h1⟩; cases this
   ·have := h.2 ⟨⟨A3, n3, c3, zs⟩, by simp, by rw [HM.out]; exact h1⟩; cases this
  have HNL := hid hnl
  clear hnl
  have hmu := lmul_any _ _ (Nat.le_refl _) _ _ _ _ HS1.out _ _ _ _ HS2.out HD1.out HD2.out (by omega) (by omega)
  rw [HN.out, HP.out] at hmu
  have HMU := hid hmu
  clear hmu
  go_wp2_with fail
  refine HMU.out.mono ?_
  rintro e w2 ⟨ps, hps, Ap, np, cp, rfl, hsp, hc⟩
  have hs3 := HS3.out.later hc (Nat.le_refl _)
  have hb2 := hb1.trans (hc.mono hb1.size)
  clear hc
  have hnp : np ≤ 100000000 := by
   rw [hsp.len]
   have hlx := HS1.out.len
   have hly := HS2.out.len
   have h1 : N < b64 ^ n1 := by rw [← HN.out, hlx]; exact V_lt _ HD1.out
   have h2 : P < b64 ^ n2 := by rw [← HP.out, hly]; exact V_lt _ HD2.out
   have h3 : N * P < b64 ^ (n1 + n2) := by rw [Nat.pow_add]; exact Nat.mul_lt_mul'' h1 h2
   have h4 := hps.length_le (by decide) h3
   omega
  have HPS := hid hps
  clear hps
  rcases Nat.eq_zero_or_pos M with h0 | h0
  ·have hq := quo_zero _ _ _ _ _ hsp _ _ _ _ hs3 HD3.out (HM.out.trans h0)
   have hno : ¬ (¬ Lg 4096 N ∧ ¬ Lg 4096 P ∧ ¬ Lg 4096 M ∧ M ≠ 0) := fun h => h.2.2.2 h0
   have HQ := hid hq
   have HNO := hid hno
   clear hq hno h0
   go_wp2_with fail
   refine HQ.out.mono ?_
   rintro e w3 ⟨rfl, hc⟩
   go_wp2
   go_ret2
   exact RetM.no HNO.out (hb2.trans (hc.mono hb2.size))
  ·have hq := quo_all longQ _ _ _ _ _ hsp _ _ _ _ hs3 (N * P) M HPS.out.2.2 HM.out HPS.out.1 HD3.out hnp h0
   have hyes : ¬ Lg 4096 N ∧ ¬ Lg 4096 P ∧ ¬ Lg 4096 M ∧ M ≠ 0 := ⟨HNL.out.1, HNL.out.2.1, HNL.out.2.2, by omega⟩
   have HQ := hid hq
   have HYES := hid hyes
   clear hq hyes h0
   go_wp2_with fail
   refine HQ.out.mono ?_
   rintro e w3 ⟨lq, Aq, nq, cq, lr, Ar, nr, cr, rfl, hsq, hsr, hc, hnq, hnr⟩
   have HNR := hid hnr
   clear hnq hnr hsq
   go_wp2
   go_ret2
   exact ⟨true, _, _, _, lr, rfl, ⟨fun _ => HYES.out, fun _ => rfl⟩, fun h => (by cases h), fun _ => HNR.out, hsr, hb2.trans (hc.mono hb2.size)⟩
 ·have hno : ¬ (¬ Lg 4096 N ∧ ¬ Lg 4096 P ∧ ¬ Lg 4096 M ∧ M ≠ 0) := by
   rintro ⟨h1, h2, h3, _⟩
   obtain ⟨x, hx, hlx⟩ := HB.out.1 rfl
   simp at hx
   rcases hx with rfl | rfl | rfl
   ·exact h1 (HN.out ▸ hlx)
   ·exact h2 (HP.out ▸ hlx)
   ·exact h3 (HM.out ▸ hlx)
  have HNO := hid hno
  clear hno
  go_wp2
  go_ret2
  exact RetM.no HNO.out hb1
end Go.Proofs.YtbejcollbkeedaaGreat
namespace Go.Proofs.YtbejcollbkeedaaGreat
open Go.RowKit
theorem sl_unique {w : World} {B B' n c : Nat} {A : Option Addr} {xs ys : List Nat} (h : Sl w B A n c xs) (h' : Sl w B' A n c ys) : xs = ys := by
 have l1 := h.len
 have l2 := h'.len
 apply List.ext_getElem?
 intro k
 by_cases hk : k < n
 ·obtain ⟨b, o, x, e, _, hx, hc⟩ := h.at_ hk
  obtain ⟨b2, o2, y, e2, _, hy, hc2⟩ := h'.at_ hk
  rw [e] at e2
  injection e2 with e3
  injection e3 with e4 e5
  subst e4
  subst e5
  rw [hc] at hc2
  injection hc2 with e6
  injection e6 with _ e7
  rw [hx, hy]
  have : x = y := by omega
  rw [this]
 ·rw [List.getElem?_eq_none (by omega), List.getElem?_eq_none (by omega)]
open Classical in
noncomputable def numAt (w : World) (v : Value) : Nat :=
 if h : ∃ xs A n c, v = .slice A n c ∧ ∃ B, Sl w B A n c xs then V b64 (Classical.choose h) else 0
theorem numAt_sl {w : World} {B n c : Nat} {A : Option Addr} {xs : List Nat} (h : Sl w B A n c xs) : numAt w (.slice A n c) = V b64 xs := by
 have hex : ∃ xs A' n' c', Value.slice A n c = .slice A' n' c' ∧ ∃ B, Sl w B A' n' c' xs := ⟨xs, A, n, c, rfl, B, h⟩
 unfold numAt
 rw [dif_pos hex]
 obtain ⟨A', n', c', e, B', hs⟩ := Classical.choose_spec hex
 injection e with e1 e2 e3
 subst e1
 obtain rfl : n = n' := by first | exact e2 | omega
 obtain rfl : c = c' := by first | exact e3 | omega
 rw [sl_unique hs h]
def Num (w : World) (K p : Nat) (v : Value) : Prop := ∃ xs A n c, v = .slice A n c ∧ Sl w w.heap.size A n c xs ∧ Nm b64 xs p ∧ p < b64 ^ K
theorem Num.len {w : World} {K p : Nat} {v : Value} (h : Num w K p v) : ∃ xs A n c, v = .slice A n c ∧ Sl w w.heap.size A n c xs ∧ Nm b64 xs p ∧ n ≤ K := by
 obtain ⟨xs, A, n, c, e, hs, hn, hl⟩ := h
 exact ⟨xs, A, n, c, e, hs, hn, by rw [hs.len]; exact hn.length_le (by decide) hl⟩
end Go.Proofs.YtbejcollbkeedaaGreat
namespace Go.Proofs.YtbejcollbkeedaaGreat
def sg (n : Bool) : Int := if n then -1 else 1
structure Inv (a m : Nat) (last rest before times : Nat) (n : Bool) : Prop where
 up : (m : Int) ∣ (last : Int) + sg n * before * a
 down : (m : Int) ∣ (rest : Int) - sg n * times * a
 sum : last * times + rest * before = m
 gcd : Nat.gcd last rest = Nat.gcd m a
theorem Inv.start (a m : Nat) : Inv a m m a 0 1 false := by
 refine ⟨?_, ?_, by simp, rfl⟩
 ·simp [sg]
 ·simp [sg]
theorem sg_not (n : Bool) : sg (!n) = -sg n := by cases n <;> rfl
theorem Inv.step {a m last rest before times : Nat} {n : Bool} (h : Inv a m last rest before times n) :
  Inv a m rest (last % rest) times (before + last / rest * times) (!n) := by
 have hdm := Nat.div_add_mod last rest
 obtain ⟨q, hq⟩ : ∃ q, last / rest = q := ⟨_, rfl⟩
 obtain ⟨r, hr2⟩ : ∃ r, last % rest = r := ⟨_, rfl⟩
 have hg := h.gcd
 have hg2 : Nat.gcd rest (last % rest) = Nat.gcd last rest := by rw [Nat.gcd_comm last rest, Nat.gcd_rec rest last, Nat.gcd_comm]
 rw [hr2] at hg2
 rw [hq, hr2] at hdm ⊢
 have hdi : (rest : Int) * q + r = last := by exact_mod_cast hdm
 refine ⟨?_, ?_, ?_, hg2.trans hg⟩
 ·rw [sg_not]
  have e : (rest : Int) + -sg n * times * a = rest - sg n * times * a := by grind
  rw [e]
  exact h.down
 ·rw [sg_not]
  have e : (r : Int) - -sg n * ((before + q * times : Nat) : Int) * a = (last + sg n * before * a) - q * (rest - sg n * times * a) := by
   rw [Int.natCast_add, Int.natCast_mul]
   grind
  rw [e]
  exact Int.dvd_sub h.up (Int.dvd_mul_of_dvd_right h.down)
 ·have := h.sum
  subst hdm
  grind
theorem Inv.none {a m last before times : Nat} {n : Bool} (h : Inv a m last 0 before times n) (hl : 1 < last) : Nat.gcd m a ≠ 1 := by
 have := h.gcd
 rw [Nat.gcd_zero_right] at this
 omega
theorem Inv.bound {a m last rest before times : Nat} {n : Bool} (h : Inv a m last rest before times n) (hl : 1 < last) (hm : 1 < m) : times < m := by
 have hs := h.sum
 have h1 : 2 * times ≤ last * times := Nat.mul_le_mul_right _ hl
 rcases Nat.eq_zero_or_pos times with h0 | h0
 ·omega
 ·have := Nat.zero_le (rest * before)
  omega
theorem Inv.plus {a m last before times : Nat} (h : Inv a m last 1 before times false) (hm : 1 < m) : a * times % m = 1 := by
 have h1 : (m : Int) ∣ 1 - sg false * times * a := by simpa using h.down
 have h2 : ((a * times : Nat) : Int) % m = 1 := by
  have e : ((a * times : Nat) : Int) = 1 - (1 - sg false * times * a) := by
   rw [Int.natCast_mul]
   simp [sg]
   grind
  rw [e, Int.sub_emod, Int.emod_eq_zero_of_dvd h1]
  simp only [Int.sub_zero, Int.emod_emod]
  exact Int.emod_eq_of_lt (by decide) (by omega)
 exact_mod_cast h2
theorem Inv.minus {a m last before times : Nat} (h : Inv a m last 1 before times true) (hm : 1 < m) (hb : times < m) : 0 < times ∧ a * (m - times) % m = 1 := by
 have h1 : (m : Int) ∣ 1 - sg true * times * a := by simpa using h.down
 have ht : 0 < times := by
  rcases Nat.eq_zero_or_pos times with h0 | h0
  ·subst h0
   obtain ⟨k, hk⟩ := h1
   simp [sg] at hk
   exfalso
   have h3 : (m : Int) ∣ 1 := ⟨k, hk⟩
   have h4 := Int.le_of_dvd (by decide) h3
   omega
  ·exact h0
 refine ⟨ht, ?_⟩
 have h2 : ((a * (m - times) : Nat) : Int) % m = 1 := by
  have e : ((a * (m - times) : Nat) : Int) = 1 - (1 - sg true * times * a) + m * a := by
   rw [Int.natCast_mul, Int.natCast_sub (by omega)]
   simp [sg]
   grind
  rw [e, Int.add_mul_emod_self_left, Int.sub_emod, Int.emod_eq_zero_of_dvd h1]
  simp only [Int.sub_zero, Int.emod_emod]
  exact Int.emod_eq_of_lt (by decide) (by omega)
 exact_mod_cast h2
theorem inverse_unique {a m b c : Nat} (hb : b < m) (hc : c < m) (h1 : a * b % m = 1) (h2 : a * c % m = 1) : b = c := by
 have e1 : b * (a * c) % m = b := by rw [Nat.mul_mod, h2, Nat.mod_eq_of_lt hb, Nat.mul_one, Nat.mod_eq_of_lt hb]
 have e2 : c * (a * b) % m = c := by rw [Nat.mul_mod, h1, Nat.mod_eq_of_lt hc, Nat.mul_one, Nat.mod_eq_of_lt hc]
 have e3 : b * (a * c) = c * (a * b) := by grind
 rw [← e1, e3, e2]
theorem inverse_gcd {a m b : Nat} (h : a * b % m = 1) : Nat.gcd m a = 1 := by
 have h1 : Nat.gcd m a ∣ m := Nat.gcd_dvd_left _ _
 have h2 : Nat.gcd m a ∣ a * b := Nat.dvd_trans (Nat.gcd_dvd_right _ _) (Nat.dvd_mul_right _ _)
 have h3 := (Nat.dvd_mod_iff h1).2 h2
 rw [h] at h3
 exact Nat.dvd_one.1 h3
structure RInv (a m : Nat) (r s x y : Nat) : Prop where
 up : a * x % m = r % m
 down : a * y % m = s % m
 gcd : Nat.gcd r s = Nat.gcd m a
 lx : x < m
 ly : y < m
theorem RInv.start (a m : Nat) (hm : 1 < m) : RInv a m m (a % m) 0 1 := by
 refine ⟨by simp, by simp, ?_, by omega, hm⟩
 rw [Nat.gcd_comm m (a % m), ← Nat.gcd_rec m a]
theorem RInv.step {a m r s x y : Nat} (h : RInv a m r s x y) (hm : 1 < m) :
  r / s * y % m ≤ x + m ∧ RInv a m s (r % s) y ((x + m - r / s * y % m) % m) := by
 have hml := Nat.mod_lt (r / s * y) (show 0 < m by omega)
 refine ⟨by omega, ⟨h.down, ?_, ?_, h.ly, Nat.mod_lt _ (by omega)⟩⟩
 ·obtain ⟨k1, hk1⟩ : ∃ k : Int, (a * x : Int) - r = k * m := by
   have : (m : Int) ∣ (a * x : Int) - r := by
    apply Int.dvd_of_emod_eq_zero
    rw [Int.sub_emod]
    have := h.up
    have h3 : ((a * x : Nat) : Int) % m = (r : Int) % m := by exact_mod_cast this
    rw [Int.natCast_mul] at h3
    rw [h3]; simp
   obtain ⟨k, hk⟩ := this
   exact ⟨k, by rw [hk]; exact Int.mul_comm _ _⟩
  obtain ⟨k2, hk2⟩ : ∃ k : Int, (a * y : Int) - s = k * m := by
   have : (m : Int) ∣ (a * y : Int) - s := by
    apply Int.dvd_of_emod_eq_zero
    rw [Int.sub_emod]
    have := h.down
    have h3 : ((a * y : Nat) : Int) % m = (s : Int) % m := by exact_mod_cast this
    rw [Int.natCast_mul] at h3
    rw [h3]; simp
   obtain ⟨k, hk⟩ := this
   exact ⟨k, by rw [hk]; exact Int.mul_comm _ _⟩
  obtain ⟨z, hz⟩ : ∃ z, r / s * y % m = z := ⟨_, rfl⟩
  have hz3 := Nat.div_add_mod (r / s * y) m
  obtain ⟨k3, hk3⟩ : ∃ k, r / s * y / m = k := ⟨_, rfl⟩
  rw [hz, hk3] at hz3
  have hdm := Nat.div_add_mod r s
  obtain ⟨q, hq⟩ : ∃ q, r / s = q := ⟨_, rfl⟩
  obtain ⟨t, ht⟩ : ∃ t, r % s = t := ⟨_, rfl⟩
  rw [hq, ht] at hdm
  rw [hz, ht]
  rw [hq] at hz3
  rw [hz] at hml
  have hr : (r : Int) = s * q + t := by exact_mod_cast hdm.symm
  have hzi : (m : Int) * k3 + z = q * y := by exact_mod_cast hz3
  have h9 : ((a * ((x + m - z) % m) : Nat) : Int) % m = (t : Int) % m := by
   rw [Int.natCast_mul, Int.natCast_emod, Int.natCast_sub (by omega), Int.natCast_add, Int.mul_emod, Int.emod_emod, ← Int.mul_emod]
   have e : (a : Int) * (x + m - z) = t + m * (k1 - q * k2 + a + a * k3) := by grind
   rw [e, Int.add_mul_emod_self_left]
  exact_mod_cast h9
 ·rw [← h.gcd, Nat.gcd_comm r s, Nat.gcd_rec s r, Nat.gcd_comm]
theorem RInv.done {a m r x y : Nat} (h : RInv a m r 0 x y) (hm : 1 < m) : r = Nat.gcd m a ∧ (r = 1 → a * x % m = 1) := by
 refine ⟨by have := h.gcd; rwa [Nat.gcd_zero_right] at this, fun h1 => ?_⟩
 rw [h.up, h1, Nat.mod_eq_of_lt hm]
end Go.Proofs.YtbejcollbkeedaaGreat
namespace Go.Proofs.YtbejcollbkeedaaGreat
open Go.RowKit
def RetInv (w : World) (N M : Nat) (e : Ending) (w' : World) : Prop :=
 ∃ b A n c r, e = .returned (.tuple #[.slice A n c, .bool b]) ∧ (b = true ↔ ¬ Lg 4096 N ∧ ¬ Lg 4096 M ∧ 1 < M ∧ Nat.gcd M N = 1) ∧ (b = false → A = none ∧ n = 0 ∧ c = 0) ∧ (b = true → ∃ R, Nm b64 r R ∧ R < M ∧ N * R % M = 1) ∧ Sl w' w'.heap.size A n c r ∧ Below w.heap.size w w'
theorem RetInv.no {w w' : World} {N M : Nat} (h : ¬ (¬ Lg 4096 N ∧ ¬ Lg 4096 M ∧ 1 < M ∧ Nat.gcd M N = 1)) (hb : Below w.heap.size w w') : RetInv w N M (.returned (.tuple #[.slice none 0 0, .bool false])) w' :=
 ⟨false, none, 0, 0, [], rfl, ⟨fun h => (by cases h), fun h' => absurd h' h⟩, fun _ => ⟨rfl, rfl, rfl⟩, fun h => (by cases h), Sl.nil _ _ _ (by omega), hb⟩
def NumR (w : World) (K p : Nat) (v : Value) : Prop := ∃ xs A n c, v = .slice A n c ∧ Sl w w.heap.size A n c xs ∧ Dg b64 xs ∧ V b64 xs = p ∧ n ≤ K
theorem NumR.of {w : World} {K p n c : Nat} {A : Option Addr} {xs : List Nat} (hs : Sl w w.heap.size A n c xs) (hn : Nm b64 xs p) (hp : p < b64 ^ K) : NumR w K p (.slice A n c) :=
 ⟨xs, A, n, c, rfl, hs, hn.1, hn.2.2, by rw [hs.len]; exact hn.length_le (by decide) hp⟩
theorem NumR.at_ {w : World} {K p : Nat} {v : Value} (h : NumR w K p v) : numAt w v = p := by
 obtain ⟨xs, A, n, c, rfl, hs, _, hn, _⟩ := h
 rw [numAt_sl hs, hn]
theorem NumR.later {w w' : World} {K p : Nat} {v : Value} (h : NumR w K p v) (hb : Below w.heap.size w w') : NumR w' K p v := by
 obtain ⟨xs, A, n, c, e, hs, h2, h3, h4⟩ := h
 exact ⟨xs, A, n, c, e, hs.later hb (Nat.le_refl _), h2, h3, h4⟩
theorem lg_one {N : Nat} : Lg 1 N ↔ 2 ≤ N := by unfold Lg; rw [Nat.pow_one]
theorem inv_small {a m last rest before times : Nat} {n : Bool} (h : Inv a m last rest before times n) (hl : 1 < last) (hr : 1 < rest) : before ≤ m ∧ times ≤ m ∧ before + last / rest * times ≤ m := by
 have h1 := h.sum
 have h2 := h.step.sum
 have h3 : 1 * times ≤ last * times := Nat.mul_le_mul_right _ (by omega)
 have h4 : 1 * before ≤ rest * before := Nat.mul_le_mul_right _ (by omega)
 have h5 : 1 * (before + last / rest * times) ≤ rest * (before + last / rest * times) := Nat.mul_le_mul_right _ (by omega)
 omega
theorem inverse_any (w : World) (A1 : Option Addr) (n1 c1 : Nat) (xs : List Nat) (hs1 : Sl w w.heap.size A1 n1 c1 xs) (A2 : Option Addr) (n2 c2 : Nat) (ys : List Nat) (hs2 : Sl w w.heap.size A2 n2 c2 ys) (hd1 : Dg b64 xs) (hd2 : Dg b64 ys)
  (K : Nat) (hK : K ≤ 10000000) (hn1 : n1 ≤ K) (hn2 : n2 ≤ K) (N M : Nat) (hN : V b64 xs = N) (hM : V b64 ys = M) :
  Calls Tryz.prog 90 #[.slice A1 n1 c1, .slice A2 n2 c2] w fun e w' => RetInv w N M e w' := by
 have hNl : N < b64 ^ K := by
  rw [← hN]; exact Nat.lt_of_lt_of_le (V_lt _ hd1) (Nat.pow_le_pow_right b64_pos (by rw [← hs1.len]; exact hn1))
 have hMl : M < b64 ^ K := by
  rw [← hM]; exact Nat.lt_of_lt_of_le (V_lt _ hd2) (Nat.pow_le_pow_right b64_pos (by rw [← hs2.len]; exact hn2))
 have ht := tl_new w 23 [⟨A1, n1, c1, xs⟩, ⟨A2, n2, c2, ys⟩] (by
  intro x hx
  simp at hx
  rcases hx with rfl | rfl
  ·exact ⟨hs1, hd1, by show n1 ≤ _; omega⟩
  ·exact ⟨hs2, hd2, by show n2 ≤ _; omega⟩)
 have htl := tooLong_any _ _ 2 _ rfl (by decide) ht
 have hb1 : Below w.heap.size w (w.alloc (.cells #[.slice A1 n1 c1, .slice A2 n2 c2] 23)) := (Below.refl _ w).alloc (Nat.le_refl _) _
 have hs1' := hs1.later hb1 (Nat.le_refl _)
 have hs2' := hs2.later hb1 (Nat.le_refl _)
 have hbt := bits_any _ _ _ _ _ _ hs2' hd2 (by omega)
 rw [hM] at hbt
 have HTL := hid htl
 have HBT := hid hbt
 have HN := hid hN
 have HM := hid hM
 have HD1 := hid hd1
 have HD2 := hid hd2
 have HNL := hid hNl
 have HML := hid hMl
 have HS2 := hid hs2
 clear htl ht hbt hN hM hd1 hd2 hs1 hs2 hNl hMl
 go_enter Tryz.func90, Tryz.ntmps90
 go_wp2_with fail
 refine HTL.out.mono ?_
 rintro e w1 ⟨⟨b, rfl, hb⟩, rfl⟩
 have HB := hid hb
 clear hb
 rcases b with _ | _
 ·have hnl : ¬ Lg 4096 N ∧ ¬ Lg 4096 M := by
   have h := HB.out
   refine ⟨fun h1 => ?_, fun h1 => ?_⟩
   ·have := h.2 ⟨⟨A1, n1, c1, xs⟩, by simp, by rw [HN.out]; exact h1⟩; cases this
   ·have := h.2 ⟨⟨A2, n2, c2, ys⟩, by simp, by rw [HM.out]; exact h1⟩; cases this
  have HNL2 := hid hnl
  clear hnl
  go_wp2_with fail
  refine HBT.out.mono ?_
  rintro e w1 ⟨km, rfl, hkm, rfl⟩
  have hgm := (bits_gt (q := 1) hkm).trans lg_one
  have HGM := hid hgm
  clear hgm hkm
  by_cases hM2 : 2 ≤ M
  ·have hk2 : ¬ (km : Int) < 2 := by have := HGM.out.2 hM2; omega
   obtain ⟨wa, hwa⟩ : ∃ wa, w.alloc (.cells #[.slice A1 n1 c1, .slice A2 n2 c2] 23) = wa := ⟨_, rfl⟩
   rw [hwa] at hb1 hs1' hs2' ⊢
   have HM2 := hid hM2
   clear hwa hM2
   have ho0 : Calls Tryz.prog 73 #[.int .u64 0] wa (fun e w' => RetN b64 wa 0 e w') := of_any 0 b64_pos wa
   have HO0 := hid ho0
   clear ho0
   go_wp2_with fail
   refine HO0.out.mono ?_
   rintro e w2 ⟨bs, hbs, Ab, nb, cb, rfl, hsb, hc⟩
   replace hs1' := hs1'.later hc (Nat.le_refl _)
   replace hs2' := hs2'.later hc (Nat.le_refl _)
   replace hb1 := hb1.trans (hc.mono hb1.size)
   have HBS := hid hbs
   clear hc hbs
   have ho1 : Calls Tryz.prog 73 #[.int .u64 1] w2 (fun e w' => RetN b64 w2 1 e w') := of_any 1 (by decide) w2
   have HO1 := hid ho1
   clear ho1
   go_wp2_with fail
   refine HO1.out.mono ?_
   rintro e w3 ⟨ts, hts, At, nt, ct, rfl, hst, hc⟩
   replace hs1' := hs1'.later hc (Nat.le_refl _)
   replace hs2' := hs2'.later hc (Nat.le_refl _)
   replace hsb := hsb.later hc (Nat.le_refl _)
   replace hb1 := hb1.trans (hc.mono hb1.size)
   have HTS := hid hts
   clear hc hts
   have hlt0 : (0 : Nat) < b64 ^ K := Nat.pow_pos b64_pos
   have hone : Num w3 (K + 1) 1 (.slice At nt ct) := ⟨_, _, _, _, rfl, hst, HTS.out, by
    have h := Nat.pow_le_pow_right b64_pos (show 1 ≤ K + 1 by omega)
    rw [Nat.pow_one] at h
    exact Nat.lt_of_lt_of_le (by decide) h⟩
   have hzero : Num w3 (K + 1) 0 (.slice Ab nb cb) := ⟨_, _, _, _, rfl, hsb, HBS.out, Nat.pow_pos b64_pos⟩
   have hMK : M < b64 ^ (K + 1) := Nat.lt_of_lt_of_le HML.out (Nat.pow_le_pow_right b64_pos (by omega))
   have hm3 : NumR w3 (K + 1) M (.slice A2 n2 c2) := ⟨_, _, _, _, rfl, hs2', HD2.out, HM.out, by omega⟩
   have ha3 : NumR w3 (K + 1) N (.slice A1 n1 c1) := ⟨_, _, _, _, rfl, hs1', HD1.out, HN.out, by omega⟩
   have HONE := hid hone
   have HZERO := hid hzero
   have HM3 := hid hm3
   have HA3 := hid ha3
   have HMK := hid hMK
   clear hone hzero hm3 ha3 hMK hlt0 hsb hst hs1' hs2'
   go_wp2
   go_loopw [6, 7, 8, 9, 10] (fun l r bf t ng wr => ∃ ln rn bn tn : Nat, ∃ n : Bool, NumR wr (K + 1) ln l ∧ NumR wr (K + 1) rn r ∧ Num wr (K + 1) bn bf ∧ Num wr (K + 1) tn t ∧ ng = .bool n ∧ Inv N M ln rn bn tn n ∧ 1 < ln ∧ Below w.heap.size w wr) (fun _ r _ _ _ wr => numAt wr r)
   case atStart => exact ⟨M, N, 0, 1, false, HM3.out, HA3.out, HZERO.out, HONE.out, rfl, Inv.start N M, HM2.out, hb1⟩
   case round =>
    obtain ⟨ln, rn, bn, tn, ng, hl, hr, hbf, ht, rfl, hinv, hl1, hB⟩ := hrel
    have HR := hid hr
    obtain ⟨lx, Al, nl, cl, rfl, hsl, hdl, hvl, hnl⟩ := hl
    obtain ⟨rx, Ar, nr, cr, rfl, hsr, hdr, hvr, hnr⟩ := hr
    have HT := hid ht
    obtain ⟨bx, Ab, nb, cb, rfl, hsb, hbn, hnb⟩ := hbf.len
    obtain ⟨tx, At, nt, ct, rfl, hst, htn, hnt⟩ := ht.len
    have hdb := hbn.1
    have hvb := hbn.2.2
    have hdt := htn.1
    have hvt := htn.2.2
    have HTN := hid htn
    have HDL := hid hdl
    have HVL := hid hvl
    have HDR := hid hdr
    have HVR := hid hvr
    have HDB := hid hdb
    have HVB := hid hvb
    have HDT := hid hdt
    have HVT := hid hvt
    have HINV := hid hinv
    have HL1 := hid hl1
    have hbr := bits_any wr _ _ _ _ _ hsr hdr (by omega)
    rw [hvr] at hbr
    have HBR := hid hbr
    clear hdl hvl hdr hvr hdb hvb hdt hvt hinv hl1 hbr hbf ht hbn htn
    go_wp2_with fail
    refine HBR.out.mono ?_
    rintro e w4 ⟨kr, rfl, hkr, rfl⟩
    have hgr := (bits_gt (q := 1) hkr).trans lg_one
    have HGR := hid hgr
    clear hgr hkr
    by_cases hr2 : 2 ≤ rn
    ·have hk2 : (1 : Int) < (kr : Int) := by have := HGR.out.2 hr2; omega
     have hq := quo_all longQ wr _ _ _ _ hsl _ _ _ _ hsr ln rn HVL.out HVR.out HDL.out HDR.out (by omega) (by omega)
     obtain ⟨sm1, sm2, sm3⟩ := inv_small HINV.out HL1.out hr2
     obtain ⟨Q, hQ⟩ : ∃ Q, ln / rn = Q := ⟨_, rfl⟩
     have hst2 := HINV.out.step
     have hml := Nat.mod_lt ln (show 0 < rn by omega)
     obtain ⟨R, hR⟩ : ∃ R, ln % rn = R := ⟨_, rfl⟩
     rw [hQ, hR] at hq hst2
     rw [hQ] at sm3
     rw [hR] at hml
     have hRK : R < b64 ^ (K + 1) := by
      refine Nat.lt_trans hml ?_
      rw [← HVR.out]
      exact Nat.lt_of_lt_of_le (V_lt _ HDR.out) (Nat.pow_le_pow_right b64_pos (by rw [← hsr.len]; exact hnr))
     have hQK : Q < b64 ^ (K + 1) := by
      rw [← hQ]
      refine Nat.lt_of_le_of_lt (Nat.div_le_self _ _) ?_
      rw [← HVL.out]
      exact Nat.lt_of_lt_of_le (V_lt _ HDL.out) (Nat.pow_le_pow_right b64_pos (by rw [← hsl.len]; exact hnl))
     have HQ := hid hq
     have HSTEP := hid hst2
     have HML2 := hid hml
     have HRK := hid hRK
     have HQK := hid hQK
     have HR2 := hid hr2
     have HSM3 := hid (Nat.lt_of_le_of_lt sm3 HMK.out)
     have HSM4 := hid (Nat.lt_of_le_of_lt (Nat.le_trans (Nat.le_add_left _ _) sm3) HMK.out)
     clear hq hst2 hml hRK hQK hr2 sm1 sm2 sm3 hQ hR
     go_wp2_with fail
     refine HQ.out.mono ?_
     rintro e w4 ⟨qx, Aq, nq, cq, sx, As, ns, cs, rfl, hsq, hss, hc, hnq, hns⟩
     replace hsr := hsr.later hc (Nat.le_refl _)
     replace hsb := hsb.later hc (Nat.le_refl _)
     replace hst := hst.later hc (Nat.le_refl _)
     replace hB := hB.trans (hc.mono hB.size)
     clear hc
     have hnq2 : nq ≤ K + 1 := by rw [hsq.len]; exact hnq.length_le (by decide) HQK.out
     have hmu := lmul_any w4 _ (Nat.le_refl _) _ _ _ _ hsq _ _ _ _ hst hnq.1 HDT.out (by omega) (by omega)
     rw [hnq.2.2, HVT.out] at hmu
     have HMU := hid hmu
     have HNS := hid hns
     clear hnq hmu hns
     go_wp2_with fail
     refine HMU.out.mono ?_
     rintro e w5 ⟨px, hpx, Ap, np, cp, rfl, hsp, hc⟩
     replace hsr := hsr.later hc (Nat.le_refl _)
     replace hsb := hsb.later hc (Nat.le_refl _)
     replace hst := hst.later hc (Nat.le_refl _)
     replace hss := hss.later hc (Nat.le_refl _)
     replace hB := hB.trans (hc.mono hB.size)
     clear hc hsq
     have hnp2 : np ≤ K + 1 := by rw [hsp.len]; exact hpx.length_le (by decide) HSM4.out
     have had := ladd_any w5 _ (Nat.le_refl _) _ _ _ _ hsb _ _ _ _ hsp HDB.out hpx.1 (by omega) (by omega)
     rw [hpx.2.2, HVB.out] at had
     have HAD := hid had
     clear had hpx
     go_wp2_with fail
     refine HAD.out.mono ?_
     rintro e w6 ⟨ux, hux, Au, nu, cu, rfl, hsu, hc⟩
     replace hsr := hsr.later hc (Nat.le_refl _)
     replace hst := hst.later hc (Nat.le_refl _)
     replace hss := hss.later hc (Nat.le_refl _)
     replace hB := hB.trans (hc.mono hB.size)
     clear hc hsp hsb
     have hrel2 : NumR w6 (K + 1) rn (.slice Ar nr cr) ∧ NumR w6 (K + 1) R (.slice As ns cs) ∧ Num w6 (K + 1) tn (.slice At nt ct) ∧ Num w6 (K + 1) (bn + Q * tn) (.slice Au nu cu) :=
      ⟨⟨_, _, _, _, rfl, hsr, HDR.out, HVR.out, hnr⟩, .of hss HNS.out HRK.out, ⟨_, _, _, _, rfl, hst, HTN.out, (by obtain ⟨_, _, _, _, _, _, _, h⟩ := HT.out; exact h)⟩, ⟨_, _, _, _, rfl, hsu, hux, HSM3.out⟩⟩
     have HREL := hid hrel2
     clear hrel2 hux
     go_wp2
     go_roundw
     case rel => exact ⟨rn, R, tn, bn + Q * tn, !ng, HREL.out.1, HREL.out.2.1, HREL.out.2.2.1, HREL.out.2.2.2, rfl, HSTEP.out, HR2.out, hB⟩
     case measure =>
      rw [HREL.out.2.1.at_, HR.out.at_]
      exact HML2.out
    ·have hk2 : ¬ (1 : Int) < (kr : Int) := fun h => hr2 (HGR.out.1 (by omega))
     have hz := isZero_any wr _ _ _ _ _ hsr HDR.out (by omega)
     rw [HVR.out] at hz
     have HZ := hid hz
     have HR2 := hid hr2
     clear hz hr2
     go_wp2_with fail
     refine HZ.out.mono ?_
     rintro e w4 ⟨⟨b, rfl, hb⟩, rfl⟩
     have HBZ := hid hb
     clear hb
     rcases b with _ | _
     ·have hr1 : rn = 1 := by
       have h1 := HR2.out
       rcases Nat.eq_zero_or_pos rn with h | h
       ·have := HBZ.out.2 h; cases this
       ·omega
      have HR1 := hid hr1
      have hinv1 := HINV.out
      rw [hr1] at hinv1
      have hbd := hinv1.bound HL1.out HM2.out
      have HI1 := hid hinv1
      have HBD := hid hbd
      clear hr1 hinv1 hbd
      rcases ng with _ | _
      ·have hpl := HI1.out.plus HM2.out
       have hgc := inverse_gcd hpl
       have HPL := hid hpl
       have HGC := hid hgc
       clear hpl hgc
       go_wp2
       go_ret2
       exact ⟨true, _, _, _, tx, rfl, ⟨fun _ => ⟨HNL2.out.1, HNL2.out.2, HM2.out, HGC.out⟩, fun _ => rfl⟩, fun h => (by cases h), fun _ => ⟨tn, HTN.out, HBD.out, HPL.out⟩, hst, hB⟩
      ·have hmi := HI1.out.minus HM2.out HBD.out
       have hgc := inverse_gcd hmi.2
       have HMI := hid hmi
       have HGC := hid hgc
       clear hmi hgc
       have hsb2 := lsub_yes wr _ _ _ _ (HS2.out.later hB (Nat.le_refl _)) _ _ _ _ hst HD2.out HDT.out (by omega) (by rw [HM.out, HVT.out]; exact Nat.le_of_lt HBD.out)
       rw [HM.out, HVT.out] at hsb2
       have HSB2 := hid hsb2
       clear hsb2
       go_wp2_with fail
       refine HSB2.out.mono ?_
       rintro e w4 ⟨dx, Ad, nd, cd, hdx, rfl, hsd, hc⟩
       have HDX := hid hdx
       clear hdx
       go_wp2
       go_ret2
       exact ⟨true, _, _, _, dx, rfl, ⟨fun _ => ⟨HNL2.out.1, HNL2.out.2, HM2.out, HGC.out⟩, fun _ => rfl⟩, fun h => (by cases h), fun _ => ⟨M - tn, HDX.out, by have := HMI.out.1; have := HBD.out; omega, HMI.out.2⟩, hsd, hB.trans (hc.mono hB.size)⟩
     ·have hr0 : rn = 0 := HBZ.out.1 rfl
      have hi0 := HINV.out
      rw [hr0] at hi0
      have hg := hi0.none HL1.out
      have hno : ¬ (¬ Lg 4096 N ∧ ¬ Lg 4096 M ∧ 1 < M ∧ Nat.gcd M N = 1) := fun h => hg h.2.2.2
      have HNO := hid hno
      clear hno hg hi0 hr0
      go_wp2
      go_ret2
      exact RetInv.no HNO.out hB
  ·have hno : ¬ (¬ Lg 4096 N ∧ ¬ Lg 4096 M ∧ 1 < M ∧ Nat.gcd M N = 1) := fun h => hM2 h.2.2.1
   have hk2 : (km : Int) < 2 := Classical.byContradiction fun h => hM2 (HGM.out.1 (by omega))
   have HNO := hid hno
   clear hno hM2
   go_wp2
   go_ret2
   exact RetInv.no HNO.out hb1
 ·have hno : ¬ (¬ Lg 4096 N ∧ ¬ Lg 4096 M ∧ 1 < M ∧ Nat.gcd M N = 1) := by
   rintro ⟨h1, h2, _⟩
   obtain ⟨x, hx, hlx⟩ := HB.out.1 rfl
   simp at hx
   rcases hx with rfl | rfl
   ·exact h1 (HN.out ▸ hlx)
   ·exact h2 (HM.out ▸ hlx)
  have HNO := hid hno
  clear hno
  go_wp2
  go_ret2
  exact RetInv.no HNO.out hb1
theorem rquo_any (w : World) (A1 : Option Addr) (n c1 : Nat) (xs : List Nat) (hs1 : Sl w w.heap.size A1 n c1 xs) (A2 : Option Addr) (m c2 : Nat) (ys : List Nat) (hs2 : Sl w w.heap.size A2 m c2 ys) (N M : Nat) (hN : Nm b32 xs N) (hM : Nm b32 ys M)
  (hn : n ≤ 100000000) (hm : m ≤ 100000000) (hM0 : 0 < M) :
  Calls Tryz.prog 81 #[.slice A1 n c1, .slice A2 m c2] w fun e w' => ∃ A3 n3 c3 q A4 n4 c4 r, e = .returned (.tuple #[.slice A3 n3 c3, .slice A4 n4 c4]) ∧ Sl w' w'.heap.size A3 n3 c3 q ∧ Nm b32 q (N / M) ∧ Sl w' w'.heap.size A4 n4 c4 r ∧ Nm b32 r (N % M) ∧ Below w.heap.size w w' := by
 rcases Nat.lt_or_ge N M with hlt | hge
 ·have hcmp := rcmp_ret w _ _ _ _ _ hs1 _ _ _ _ _ hs2 _ _ hN hM
  rw [ncmp_lt hlt] at hcmp
  have hq : Nm b32 [] (N / M) := by rw [Nat.div_eq_of_lt hlt]; exact ⟨fun x hx => (by cases hx), fun x hx => (by cases hx), rfl⟩
  have hr : Nm b32 xs (N % M) := by rw [Nat.mod_eq_of_lt hlt]; exact hN
  have HCMP := hid hcmp
  have HQ := hid hq
  have HR := hid hr
  clear hcmp hq hr
  go_enter Tryz.func81, Tryz.ntmps81
  go_wp2_with fail
  refine HCMP.out.mono ?_
  rintro e w1 ⟨rfl, hc⟩
  have hs3 := hs1.later hc (Nat.le_refl _)
  go_wp2_with fail
  go_ret2
  exact ⟨_, _, _, [], _, _, _, xs, rfl, Sl.nil _ _ _ (by omega), HQ.out, hs3, HR.out, hc⟩
 ·have hmpos : m ≠ 0 := by
   intro h
   have h1 : ys = [] := List.eq_nil_of_length_eq_zero (by rw [← hs2.len]; exact h)
   have := hM.2.2
   rw [h1] at this
   simp [V] at this
   omega
  obtain ⟨p, hp⟩ : ∃ p, m = p + 1 := ⟨m - 1, by omega⟩
  rcases Nat.eq_zero_or_pos p with h0 | h1
  ·subst h0
   obtain ⟨cv, hcv⟩ : ∃ cv, ncmp N M = cv := ⟨_, rfl⟩
   have hcv0 : ¬ cv < 0 := by
    rcases Nat.lt_or_ge M N with h | h
    ·rw [ncmp_gt h] at hcv; omega
    ·rw [Nat.le_antisymm h hge, ncmp_eq] at hcv; omega
   have hcmp := rcmp_ret w _ _ _ _ _ hs1 _ _ _ _ _ hs2 _ _ hN hM
   rw [hcv] at hcmp
   have HCMP := hid hcmp
   obtain ⟨b2, o2, y, rfl, hb2, hy, hc2⟩ := hs2.at_ (k := 0) (by omega)
   rw [Nat.add_zero] at hc2
   have hyl := lt32.1 (hM.1.get hy)
   have hyM : M = y := by
    have h9 := hM.2.2
    obtain ⟨z, hz⟩ : ∃ z, ys = [z] := List.length_eq_one_iff.1 (by rw [← hs2.len, hp])
    subst hz
    simp at hy
    subst hy
    simp [V] at h9
    omega
   have HYL := hid hyl
   have HYM := hid hyM
   clear hcmp hcv hyl hyM hy hmpos
   subst hp
   go_enter Tryz.func81, Tryz.ntmps81
   go_wp2_with fail
   refine HCMP.out.mono ?_
   rintro e w1 ⟨rfl, hc⟩
   replace hs1 := hs1.later hc (Nat.le_refl _)
   replace hc2 := (hc.cell (p := ⟨b2, o2, none⟩) hb2).trans hc2
   have hB := (Below.refl w.heap.size w).trans hc
   clear hc
   go_wp2_with fail
   have hsm := small_any w1 _ (Nat.le_refl _) _ _ _ _ hs1 hN.1 (by omega) y (by have := HYM.out; omega) HYL.out
   rw [hN.2.2] at hsm
   obtain ⟨R, hR⟩ : ∃ R, N % y = R := ⟨_, rfl⟩
   rw [hR] at hsm
   refine hsm.mono ?_
   rintro e w2 ⟨A3, n3, c3, q, rfl, hq, hsq, hc⟩
   replace hB := hB.trans (hc.mono hB.size)
   clear hc
   have hrow := heap_new_row w2 R
   have hslr := hrow.sl (by simp)
   have hbw := (Below.refl w2.heap.size w2).alloc (Nat.le_refl _) (.cells #[.int .u64 ((R : Nat) : Int)] 63)
   have hRl : R < b32 := by rw [← hR, lt32]; have h9 := Nat.mod_lt N (show 0 < y by have := HYM.out; omega); have := HYL.out; omega
   have hnr : Nm b32 (trimmed [R]) (N % M) := by
    have h := trimmed_nm (B := b32) (xs := [R]) (fun x hx => by simp at hx; subst hx; exact hRl)
    rw [HYM.out, hR]
    simpa [V] using h
   have HNR := hid hnr
   have hsq' := hsq.later hbw (Nat.le_refl _)
   have hB' := hB.trans (hbw.mono hB.size)
   have hq' : Nm b32 q (N / M) := by rw [HYM.out]; exact hq
   have HQ' := hid hq'
   clear hR hnr hrow hbw hsq hq hq'
   go_wp2_with (go_at_call 60; refine (rtrim_sl _ _ _ _ _ [R] hslr).mono ?_; rintro e w3 ⟨m5, rfl, hst5, hm5, rfl⟩)
   go_ret2
   exact ⟨_, _, _, _, _, _, _, _, rfl, hsq', HQ'.out, hst5, HNR.out, hB'⟩
  ·exact rquo_long w _ _ _ _ hs1 _ _ _ _ hs2 N M hN hM hn hm hge p hp h1
end Go.Proofs.YtbejcollbkeedaaGreat
namespace Go.Proofs.YtbejcollbkeedaaGreat
open Go.RowKit
theorem rmod2_any (w : World) (A1 : Option Addr) (n c1 : Nat) (xs : List Nat) (hs1 : Sl w w.heap.size A1 n c1 xs) (A2 : Option Addr) (m c2 : Nat) (ys : List Nat) (hs2 : Sl w w.heap.size A2 m c2 ys) (N M : Nat) (hN : Nm b32 xs N) (hM : Nm b32 ys M)
  (hn : n ≤ 100000000) (hm : m ≤ 100000000) (hM0 : 0 < M) :
  Calls Tryz.prog 49 #[.slice A1 n c1, .slice A2 m c2] w fun e w' => RetN b32 w (N % M) e w' := by
 have hq := rquo_any w _ _ _ _ hs1 _ _ _ _ hs2 N M hN hM hn hm hM0
 have HQ := hid hq
 clear hq hN hM
 go_enter Tryz.func49, Tryz.ntmps49
 go_wp2_with fail
 refine HQ.out.mono ?_
 rintro e w1 ⟨A3, n3, c3, q, A4, n4, c4, r, rfl, _, _, hsr, hr, hc⟩
 have HR := hid hr
 clear hr
 go_wp2
 go_ret
 exact ⟨r, HR.out, _, _, _, rfl, hsr, hc⟩
theorem rmul2_any (w : World) (A1 : Option Addr) (n c1 : Nat) (xs : List Nat) (hs1 : Sl w w.heap.size A1 n c1 xs) (A2 : Option Addr) (m c2 : Nat) (ys : List Nat) (hs2 : Sl w w.heap.size A2 m c2 ys) (A3 : Option Addr) (k c3 : Nat) (zs : List Nat) (hs3 : Sl w w.heap.size A3 k c3 zs) (N P M : Nat) (hN : Nm b32 xs N) (hP : Nm b32 ys P) (hM : Nm b32 zs M)
  (hn : n ≤ 10000000) (hm : m ≤ 10000000) (hk : k ≤ 10000000) (hM0 : 0 < M) :
  Calls Tryz.prog 80 #[.slice A1 n c1, .slice A2 m c2, .slice A3 k c3] w fun e w' => RetN b32 w (N * P % M) e w' := by
 have hmu := rmul_any w _ (Nat.le_refl _) _ _ _ _ hs1 _ _ _ _ hs2 hN.1 hP.1 (by omega) (by omega)
 rw [hN.2.2, hP.2.2] at hmu
 have hl : N * P < b32 ^ (n + m) := by
  rw [Nat.pow_add]
  refine Nat.mul_lt_mul'' ?_ ?_
  ·rw [← hN.2.2, hs1.len]; exact V_lt _ hN.1
  ·rw [← hP.2.2, hs2.len]; exact V_lt _ hP.1
 have HMU := hid hmu
 have HL := hid hl
 have HM := hid hM
 clear hmu hN hP hl hM
 go_enter Tryz.func80, Tryz.ntmps80
 go_wp2_with fail
 refine HMU.out.mono ?_
 rintro e w1 ⟨ps, hps, Ap, np, cp, rfl, hsp, hc⟩
 have hnp : np ≤ n + m := by rw [hsp.len]; exact hps.length_le (by decide) HL.out
 have hmo := rmod2_any w1 _ _ _ _ hsp _ _ _ _ (hs3.later hc (Nat.le_refl _)) (N * P) M hps HM.out (by omega) (by omega) hM0
 have HMO := hid hmo
 clear hmo hps
 go_wp2_with fail
 refine HMO.out.mono ?_
 rintro e w2 ⟨rs, hrs, Ar, nr, cr, rfl, hsr, hc2⟩
 have HRS := hid hrs
 clear hrs
 go_wp2
 go_ret
 exact ⟨rs, HRS.out, _, _, _, rfl, hsr, hc.trans (hc2.mono hc.size)⟩
def Num32 (w : World) (K p : Nat) (v : Value) : Prop := ∃ xs A n c, v = .slice A n c ∧ Sl w w.heap.size A n c xs ∧ Nm b32 xs p ∧ p < b32 ^ K
theorem Num32.len {w : World} {K p : Nat} {v : Value} (h : Num32 w K p v) : ∃ xs A n c, v = .slice A n c ∧ Sl w w.heap.size A n c xs ∧ Nm b32 xs p ∧ n ≤ K := by
 obtain ⟨xs, A, n, c, e, hs, hn, hl⟩ := h
 exact ⟨xs, A, n, c, e, hs, hn, by rw [hs.len]; exact hn.length_le (by decide) hl⟩
open Classical in
noncomputable def num32At (w : World) (v : Value) : Nat :=
 if h : ∃ xs A n c, v = .slice A n c ∧ ∃ B, Sl w B A n c xs then V b32 (Classical.choose h) else 0
theorem num32At_sl {w : World} {B n c : Nat} {A : Option Addr} {xs : List Nat} (h : Sl w B A n c xs) : num32At w (.slice A n c) = V b32 xs := by
 have hex : ∃ xs A' n' c', Value.slice A n c = .slice A' n' c' ∧ ∃ B, Sl w B A' n' c' xs := ⟨xs, A, n, c, rfl, B, h⟩
 unfold num32At
 rw [dif_pos hex]
 obtain ⟨A', n', c', e, B', hs⟩ := Classical.choose_spec hex
 injection e with e1 e2 e3
 subst e1
 obtain rfl : n = n' := by first | exact e2 | omega
 obtain rfl : c = c' := by first | exact e3 | omega
 rw [sl_unique hs h]
end Go.Proofs.YtbejcollbkeedaaGreat
namespace Go.Proofs.YtbejcollbkeedaaGreat
open Go.RowKit
theorem rof_any (x : Nat) (hx : x < b64) (w : World) :
  Calls Tryz.prog 29 #[.int .u64 (x : Int)] w fun e w' => RetN b32 w x e w' := by
 have hsl := (heap_new_row w x).sl (by simp)
 have hb : Below w.heap.size w (w.alloc (.cells #[.int .u64 (x : Int)] 63)) := (Below.refl _ w).alloc (Nat.le_refl _) _
 have hf := from_any _ _ (Nat.le_refl _) _ _ _ _ hsl (fun y hy => by simp at hy; omega) (by simp)
 have hv : V b64 [x] = x := by simp [V]
 rw [hv] at hf
 have HF := hid hf
 clear hf hv hsl
 go_enter Tryz.func29, Tryz.ntmps29
 go_wp2_with fail
 refine HF.out.mono ?_
 rintro e w1 ⟨zs, hz, A, n, c, rfl, hs, hc⟩
 have HZ := hid hz
 clear hz
 go_wp2
 go_ret
 exact ⟨zs, HZ.out, _, _, _, rfl, hs, hb.trans (hc.mono hb.size)⟩
end Go.Proofs.YtbejcollbkeedaaGreat
namespace Go.Proofs.YtbejcollbkeedaaGreat
open Go.RowKit Go.Shelf
def usesOp : Op → Option (List Operand)
 | .move x | .assign x => some [x]
 | .load _ x => some [x]
 | .store _ x y => some [x, y]
 | .binOp _ _ x y _ => some [x, y]
 | .unOp _ _ x => some [x]
 | .convert _ _ x => some [x]
 | .indexAddr _ x y | .index _ x y => some [x, y]
 | .extract x _ => some [x]
 | .slice _ x lo hi mx => some (x :: (lo.toList ++ (hi.toList ++ mx.toList)))
 | .fieldAddr _ x _ | .field _ x _ => some [x]
 | .nilCheck x => some [x]
 | .alloc _ => some []
 | .build _ parts => some (parts.toList.map (·.2))
 | .call c => match c.callee with
  | .value f => some (f :: c.args.toList)
  | .builtin _ => some c.args.toList
  | .invoke _ _ => none
 | _ => none
def valP (ops : Array Oper) (asg : List (Nat × Value)) (i : Nat) : Value :=
 match (ops[i]?).bind (·.dst) with
 | some t => (asg.lookup t).getD undef
 | none => undef
def onlyB (ops : Array Oper) (asg : List Nat) : Bool := asg.all fun t => (List.range ops.size).any fun j => match (ops[j]?).bind (·.dst) with
 | some t' => t' == t
 | none => false
def rootB (ops : Array Oper) (s : Nat) : Bool := (List.range s).all fun i => (List.range (s + 1)).any fun j => decide (i < j) && match ops[j]? with
 | some o => o.after.any fun e => e.on == i && Region.binds .any e
 | none => false
theorem wrote_congrH (ops : Array Oper) (v1 v2 : Nat → Value) (L : Array Bool) (t0 : Array Value) (h : ∀ j, L.getD j false = true → v1 j = v2 j) : ∀ k, wrote ops v1 L t0 k = wrote ops v2 L t0 k := by
 intro k
 induction k with
 | zero => rfl
 | succ k ih =>
  simp only [wrote]
  split
  ·next hk => rw [ih, h k hk]
  ·exact ih
theorem wrote_oldL (ops : Array Oper) (vals : Nat → Value) (L : Array Bool) (t0 : Array Value) (t : Tmp) (h : ∀ (i : Nat) (oi : Oper), ops[i]? = some oi → L.getD i false = true → oi.dst ≠ some t) : ∀ k, (wrote ops vals L t0 k).getD t undef = t0.getD t undef
 | 0 => rfl
 | k + 1 => by
  simp only [wrote]
  split
  ·next hk =>
   rw [put_getD_ne, wrote_oldL ops vals L t0 t h k]
   intro e
   obtain ⟨o, ho, e'⟩ := Option.bind_eq_some_iff.1 e
   exact h k o ho hk e'
  ·exact wrote_oldL ops vals L t0 t h k
theorem wpIn_region_relH {β : Type} {F : Fence} {n : Nat} {P : Program} {id : Nat} {ops : Array Oper} {Q : Exit → Act → World → Prop} {a : Act} {w : World} (hm : P.follows .mixedOrders = true) (hd : Distinct ops)
  (vals : β → Nat → Value) (Wo : β → Array Bool → World → Prop) (b0 : β) (hw0 : Wo b0 (Array.replicate ops.size false) w.drew)
  (hstep : ∀ (b : β) (L : Array Bool) (a' : Act) (w' : World), Wo b L w' → L.size = ops.size → a'.defers = a.defers → (∀ (j : Nat) (oj : Oper), ops[j]? = some oj → L.getD j false = true → ∀ e ∈ oj.after, Region.binds .any e = true → L.getD e.on false = true) →
   (∀ t, (∀ (i : Nat) (oi : Oper), ops[i]? = some oi → L.getD i false = true → oi.dst ≠ some t) → a'.tmps.getD t undef = a.tmps.getD t undef) →
   (∀ (j : Nat) (oj : Oper) t, ops[j]? = some oj → oj.dst = some t → L.getD j false = true → t < a.tmps.size → a'.tmps.getD t undef = vals b j) →
   ∀ i ∈ Region.ready .any ops L, ∀ oi, ops[i]? = some oi → ∀ (K : Act → World → Prop), (∀ b' w'', (∀ j, L.getD j false = true → vals b' j = vals b j) → Wo b' (L.setIfInBounds i true) w'' → K (a'.put oi.dst (vals b' i)) w'') → wpOpIn F n P ops Q i K a' w')
  (hend : ∀ (b : β) (L : Array Bool) (w' : World), Wo b L w' → (∀ i, i < ops.size → L.getD i false = true) → Q .normal { tmps := wrote ops (vals b) (Array.replicate ops.size true) a.tmps ops.size, defers := a.defers } w')
  (hacyc : ∀ L : Array Bool, L.size = ops.size → Region.ready .any ops L = [] → ∀ i, i < ops.size → L.getD i false = true) : (Code.region id ops true).wpIn F n P Q a w := by
 refine wpIn_region_any hm ?_
 refine wpAnyIn_inv (fun L a' w' => (L.size = ops.size ∧ ∀ (j : Nat) (oj : Oper), ops[j]? = some oj → L.getD j false = true → ∀ e ∈ oj.after, Region.binds .any e = true → L.getD e.on false = true) ∧ ∃ b, a' = { tmps := wrote ops (vals b) L a.tmps ops.size, defers := a.defers } ∧ Wo b L w') ?_ ?_ (fun L a w h => h.1.1) _ _ _ _ ⟨⟨by simp, ?_⟩, b0, ?_, hw0⟩ ?_
 ·rintro L a' w' ⟨⟨hs, hcl⟩, b, rfl, hW⟩ i hi
  obtain ⟨h1, o, ho, hdep⟩ := mem_ready.1 hi
  have hi' : i < L.size := by rw [hs]; exact (Array.getElem?_eq_some_iff.1 ho).1
  have hf : L.getD i false = false := by
   rw [Array.getD_eq_getD_getElem?, Array.getElem?_eq_getElem hi'] at h1 ⊢
   simpa using h1
  refine hstep b L { tmps := wrote ops (vals b) L a.tmps ops.size, defers := a.defers } _ hW hs rfl hcl (fun t ht => wrote_oldL ops (vals b) L a.tmps t ht _) (fun j oj t hj hjt hL ht => wrote_new ops (vals b) L a.tmps hd hj hjt hL ht _ (Array.getElem?_eq_some_iff.1 hj).1) i hi o ho _ fun b' w'' hv hw'' => ⟨⟨by simp [hs], ?_⟩, b', ?_, hw''⟩
  ·have hmono : ∀ t, L.getD t false = true → (L.setIfInBounds i true).getD t false = true := by
    intro t ht
    by_cases e : t = i
    ·subst e; simp [Array.getD_eq_getD_getElem?, hi']
    ·simp only [Array.getD_eq_getD_getElem?] at ht ⊢
     rw [Array.getElem?_setIfInBounds_ne (fun h => e h.symm)]; exact ht
   intro j oj hj hLj e he hb
   by_cases hji : j = i
   ·subst hji
    obtain rfl : o = oj := Option.some.inj (ho.symm.trans hj)
    exact hmono _ (hdep e he hb)
   ·refine hmono _ (hcl j oj hj ?_ e he hb)
    simp only [Array.getD_eq_getD_getElem?] at hLj ⊢
    rw [Array.getElem?_setIfInBounds_ne (fun h => hji h.symm)] at hLj
    exact hLj
  rw [wrote_set ops (vals b') L a.tmps hd ho hi' hf, if_pos (by rw [← hs]; exact hi'), wrote_congrH ops (vals b') (vals b) L a.tmps hv]
  unfold Act.put
  cases o.dst <;> rfl
 ·rintro L a' w' ⟨⟨hs, _⟩, b, rfl, hW⟩ hr
  have hall := hacyc L hs hr
  have e : L = Array.replicate ops.size true := by
   apply Array.ext
   ·simp [hs]
   ·intro i h1 h2
    have := hall i (by omega)
    rw [Array.getD_eq_getD_getElem?, Array.getElem?_eq_getElem h1] at this
    simpa using this
  have h := hend b L w' hW hall
  rw [e]
  exact h
 ·intro j oj _ hLj
  exfalso
  rw [Array.getD_eq_getD_getElem?, Array.getElem?_replicate] at hLj
  split at hLj <;> simp at hLj
 ·have : ∀ k, wrote ops (vals b0) (Array.replicate ops.size false) a.tmps k = a.tmps := by
   intro k
   induction k with
   | zero => rfl
   | succ k ih =>
    simp only [wrote]
    rw [if_neg (by rw [Array.getD_eq_getD_getElem?, Array.getElem?_replicate]; split <;> simp)]
    exact ih
  rw [this]
 ·simp
def usesW : Op → Option (List Operand)
 | .buildSlice _ _ parts => some (parts.toList.map (·.2))
 | .makeSlice _ x y => some [x, y]
 | x => usesOp x
def depsW (ops : Array Oper) (asg wk : List Nat) : Bool := (List.range ops.size).all fun i => match ops[i]? with
 | none => true
 | some o => o.guard.isNone && (match o.dst with | some t => asg.contains t || wk.contains t | none => true) && match usesW o.op with
  | none => false
  | some l => l.all fun x => match x with
   | .tmp t => bif asg.contains t then (List.range ops.size).all fun j => match (ops[j]?).bind (·.dst) with
    | some t' => t' != t || o.after.any fun e => e.on == j && Region.binds .any e
    | none => true
    else (List.range ops.size).all fun j => match (ops[j]?).bind (·.dst) with
    | some t' => t' != t || decide (j + 1 = ops.size)
    | none => true
   | _ => true
end Go.Proofs.YtbejcollbkeedaaGreat
