/- PadEnc1: given's own function, as an iterator. -/
import Derived.Test.YtnpaidieijlkkaaDoorQPeC
import Derived.Test.YtnpaidieijlkkaaDoorQRangeG
set_option linter.unusedVariables false
set_option linter.unusedSimpArgs false
namespace Go.Proofs.YtnpaidieijlkkaaDoor
open Go.RowKit Go.Shelf

abbrev encG : BitVec 8 → Array Value := fun x => #[W8 x]
/-- the byte that is handed out, and what is counted by then -/
def GvR (q : Nat) (rb pre : List (BitVec 8)) (x : BitVec 8) (W : World) : Prop := pre = rb.take pre.length ∧ rb[pre.length]? = some x ∧ BxE q (.int .i64 ((pre.length : Int) + 1)) W
theorem GvR.own (q : Nat) (rb : List (BitVec 8)) (B : Nat) (pre : List (BitVec 8)) : OwnFrom B (GvR q rb pre) := fun s W W' row hs hg hr => ⟨hs.1, hs.2.1, hs.2.2.kept hg (fun r e => (hr r e).2)⟩
def GvS (q : Nat) (rb xs : List (BitVec 8)) (W : World) : Prop := xs = rb ∧ BxE q (.int .i64 (rb.length : Int)) W
theorem GvS.own (q : Nat) (rb : List (BitVec 8)) (B : Nat) : OwnFrom B (GvS q rb) := fun s W W' row hs hg hr => ⟨hs.1, hs.2.kept hg (fun r e => (hr r e).2)⟩
theorem SlV.same {A C : World} {B n c : Nat} {p : Option Addr} {vs : List Value} (h : SlV A B p n c vs) (hp : vs ≠ [] → ∀ b off s, p = some ⟨b, off, s⟩ → C.heap[b]? = A.heap[b]?) : SlV C B p n c vs := ⟨h.1, h.2.1, h.2.2.1, fun hn => by
  obtain ⟨b, off, e, hlt, hc⟩ := h.2.2.2 hn
  exact ⟨b, off, e, hlt, fun k x hx => (cell_of_block (hp hn b off none e)).trans (hc k x hx)⟩⟩
def GvI (q bb cc B : Nat) (A : Option Addr) (n c : Nat) (rb : List (BitVec 8)) (J : List (BitVec 8) → World → Prop) (j : Nat) (wr : World) : Prop :=
  BxE q (.int .i64 (j : Int)) wr ∧ BxE bb (.slice A n c) wr ∧ BxE cc (.pointer (some ⟨q, 0, none⟩)) wr ∧ SlV wr B A n c (rb.map W8) ∧ J (rb.take j) wr
set_option maxRecDepth 100000 in
set_option maxHeartbeats 2000000 in
theorem given1_in (nn : Nat) (hnn : 1 ≤ nn) (w : World) (q bb cc ab : Nat) (hbq : bb ≠ q) (hcq : cc ≠ q) (A : Option Addr) (n c : Nat) (rb : List (BitVec 8)) (hab : rb ≠ [] → ∀ b off s, A = some ⟨b, off, s⟩ → b = ab) (haq : ab ≠ q)
    (hsl : SlV w w.heap.size A n c (rb.map W8)) (hn2 : n ≤ 1000000) (hq : BxE q (.int .i64 0) w) (hb : BxE bb (.slice A n c) w) (hc : BxE cc (.pointer (some ⟨q, 0, none⟩)) w) (N : Nat) :
    SeqG Fence.wide nn Tryd.prog 48 #[.pointer (some ⟨bb, 0, none⟩), .pointer (some ⟨cc, 0, none⟩)] encG (GvR q rb) (KpS [bb, cc, q, ab]) (GvS q rb) (fun _ => True) N q w := by
  intro l J Jx W hW hJ hJx hJg hJN hY h0
  have hln : rb.length = n := by simpa using hsl.len.symm
  have H0 := Lib.hid (show GvI q bb cc w.heap.size A n c rb J 0 W from ⟨hq.later hW, hb.later hW, hc.later hW, hsl.below hW, by simpa using h0⟩)
  have HY := Lib.hid hY
  have HJG := Lib.hid hJg
  have HA := Lib.hid (⟨hab, haq, hln⟩ : (rb ≠ [] → ∀ b off s, A = some ⟨b, off, s⟩ → b = ab) ∧ ab ≠ q ∧ rb.length = n)
  have kn2 : (n : Int) ≤ 1000000 := by omega
  clear hY hq hb hc hsl hJN hJg hab haq hln h0
  refine callsIn_of_wp Tryd.func48 rfl trivial ?_ rfl
  simp only [Tryd.ntmps48, List.size_toArray, List.length_cons, List.length_nil, Nat.reduceAdd, Nat.reduceSub, Array.replicate_succ, Array.replicate_zero, List.push_toArray, List.append_toArray, List.nil_append, List.cons_append]
  gi_wp2
  gi_loopw [4] (fun v wr => ∃ j : Nat, j ≤ n ∧ v = .int .i64 (j : Int) ∧ Hid (GvI q bb cc w.heap.size A n c rb J j wr)) (fun v _ => n + 1 - (intOf v).toNat)
  case atStart => exact ⟨0, by omega, rfl, H0⟩
  case round =>
    obtain ⟨j, hj, rfl, HI⟩ := hrel
    obtain ⟨i1, i2, i3, i4, i5⟩ := HI.out
    have q1 := i1.1
    have f1 := i1.2.1
    have q2 := i2.1
    have q3 := i3.1
    by_cases hjn : j = n
    · subst hjn
      have kj : ¬ (j : Int) < j := by omega
      have hend : (∃ xs, GvS q rb xs wr ∧ J xs wr) := ⟨rb, ⟨rfl, by rw [HA.out.2.2]; exact i1⟩, by have h := i5; rw [List.take_of_length_le (by have := HA.out.2.2; omega)] at h; exact h⟩
      have HE := Lib.hid hend
      clear i1 i2 i3 i4 i5 hend
      gi_wp2
      go_end0
      exact ⟨⟨_, rfl⟩, .inl HE.out⟩
    · have kj : (j : Int) < n := by omega
      obtain ⟨x, hx⟩ : ∃ x, rb[j]? = some x := ⟨_, List.getElem?_eq_getElem (by have := HA.out; omega)⟩
      obtain ⟨W1, e1⟩ : ∃ V, wr.setCell ⟨q, 0, none⟩ (.int .i64 ((j : Int) + 1)) = V := ⟨_, rfl⟩
      have hg1 : wr.grownBy W1 (some q) := by rw [← e1]; exact grownBy_setCell' wr q _
      have hJ1 := HJG.out _ wr W1 i5 hg1
      have j1 : BxE q (.int .i64 ((j : Int) + 1)) W1 := by rw [← e1]; exact i1.set _
      have j2 := i2.grownG hg1 hbq
      have j3 := i3.grownG hg1 hcq
      have j4 : SlV W1 w.heap.size A n c (rb.map W8) := by
        rw [← e1]
        exact i4.same (fun hne b off s e => by
          have hb := HA.out.1 (by intro h; apply hne; rw [h]; rfl) b off s e
          exact Below.heap_setCell wr _ _ _ (by show b ≠ q; rw [hb]; exact HA.out.2.1))
      obtain ⟨b2, o2, rfl, _, hcx⟩ := j4.byte hx
      have q2' := j2.1
      have hlj : (rb.take j).length = j := by rw [List.length_take]; have := HA.out.2.2; omega
      obtain ⟨fn, tmps, assign, body, hy, hRd⟩ := HY.out (rb.take j) x W1 hJ1 ⟨by rw [hlj], by rw [hlj]; exact hx, by rw [hlj]; exact j1⟩
      dsimp only [encG] at hy
      have htk : rb.take j ++ [x] = rb.take (j + 1) := by rw [List.take_add_one, hx]; rfl
      have HT := Lib.hid htk
      have HJ := Lib.hid (⟨j1, j2, j3, j4⟩ : BxE q (.int .i64 ((j : Int) + 1)) W1 ∧ BxE bb (.slice (some ⟨b2, o2, none⟩) n c) W1 ∧ BxE cc (.pointer (some ⟨q, 0, none⟩)) W1 ∧ SlV W1 w.heap.size (some ⟨b2, o2, none⟩) n c (rb.map W8))
      clear i1 i2 i3 i4 i5 j1 j2 j3 j4 hg1 hJ1 htk hlj hx
      gi_wp2_with fail
      refine hRd.mono ?_
      rintro e W3 (⟨rfl, hJ3, hKp⟩ | ⟨rfl, hJx3⟩)
      · have hnew : GvI q bb cc w.heap.size (some ⟨b2, o2, none⟩) n c rb J (j + 1) W3 := ⟨by have h := HJ.out.1.block hKp.1 (hKp.2 q (by simp)); rw [show ((j + 1 : Nat) : Int) = (j : Int) + 1 by omega]; exact h, HJ.out.2.1.block hKp.1 (hKp.2 bb (by simp)), HJ.out.2.2.1.block hKp.1 (hKp.2 cc (by simp)),
          HJ.out.2.2.2.same (fun hne b off s e => by have hb := HA.out.1 (by intro h; apply hne; rw [h]; rfl) b off s e; rw [hb]; exact hKp.2 ab (by simp)), by rw [← HT.out]; exact hJ3⟩
        have HNEW := Lib.hid hnew
        clear hnew hKp hJ3
        gi_wp2
        go_roundw
        case rel => exact ⟨j + 1, by omega, by go_num, HNEW⟩
        case measure => simp [intOf]; omega
      · gi_wp2
        refine bodyPost_ret (results_none rfl _ _ _) rfl ?_
        exact ⟨⟨_, rfl⟩, .inr ⟨_, trivial, hJx3⟩⟩
end Go.Proofs.YtnpaidieijlkkaaDoor
