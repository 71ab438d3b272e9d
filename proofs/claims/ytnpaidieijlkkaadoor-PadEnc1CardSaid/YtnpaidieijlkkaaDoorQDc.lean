/- drbg: the iterator values, Bytes. -/
import Derived.Test.YtnpaidieijlkkaaDoorQDb
import Derived.Test.YtnpaidieijlkkaaDoorQRangeM
import Derived.Test.YtnpaidieijlkkaaDoorPileJ10
import Derived.Deep.LoopGhost
import Derived.Test.YtnpaidieijlkkaaDoorQMidIn
set_option linter.unusedVariables false
set_option linter.unusedSimpArgs false
namespace Go.Proofs.YtnpaidieijlkkaaDoor
open Go.RowKit Go.Shelf
attribute [local go_sem] Oper.semAt_some

/-- what V becomes -/
def vIter (key val : List (BitVec 8)) : Nat → List (BitVec 8)
  | 0 => val
  | j + 1 => stepL key (vIter key val j)
theorem vIter_length (key val : List (BitVec 8)) (h : val.length = 32) : ∀ j, (vIter key val j).length = 32
  | 0 => h
  | j + 1 => stepL_length _ _
abbrev encV : List (BitVec 8) → Array Value := fun x => #[.agg (x.map W8).toArray]
def VaR (g : Nat) (key val : List (BitVec 8)) (calls : Int) (pre : List (List (BitVec 8))) (x : List (BitVec 8)) (W : World) : Prop :=
  x = vIter key val (pre.length + 1) ∧ DrbgR W g key (vIter key val (pre.length + 1)) calls
theorem DrbgR.kept {A B' : World} {g : Nat} {key val : List (BitVec 8)} {calls : Int} (h : DrbgR A g key val calls) {row : Option Nat} (hg : A.grownBy B' row) (hr : ∀ r, row = some r → ∃ o : Obj, A.heap[r]? = some o ∧ o.isCells = false) : DrbgR B' g key val calls := ⟨h.hk, h.hv, h.row.kept hg hr⟩
theorem VaR.own (g : Nat) (key val : List (BitVec 8)) (calls : Int) (B : Nat) (pre : List (List (BitVec 8))) : OwnFrom B (VaR g key val calls pre) := fun s W W' row hs hg hr => ⟨hs.1, hs.2.kept hg (fun r e => (hr r e).2)⟩
/-- these blocks stay -/
def KpS (s : List Nat) (A B : World) : Prop := A.heap.size ≤ B.heap.size ∧ ∀ q ∈ s, B.heap[q]? = A.heap[q]?
theorem KpS.trans {s : List Nat} {A B C : World} (h : KpS s A B) (h' : KpS s B C) : KpS s A C := ⟨Nat.le_trans h.1 h'.1, fun q hq => (h'.2 q hq).trans (h.2 q hq)⟩
theorem KpS.put {s : List Nat} {l : Nat} {W : World} (hl : ∀ q ∈ s, q ≠ l) (o' : Obj) : KpS s W (W.putObj l o') := ⟨by simp [World.putObj], fun q hq => World.putObj_heap_other (hl q hq)⟩
theorem KpS.below {s : List Nat} {B : Nat} {A C : World} (h : Below B A C) (hB : ∀ q ∈ s, q < B) : KpS s A C := ⟨h.size, fun q hq => h.block q (hB q hq)⟩
theorem DrbgR.drbg' {s : List Nat} {g : Nat} {A C : World} {key val : List (BitVec 8)} {calls : Int} (h : DrbgR A g key val calls) (hk : KpS s A C) (hq : g ∈ s) : DrbgR C g key val calls := ⟨h.hk, h.hv, (hk.2 g hq).trans h.row⟩
theorem cell_of_block {A C : World} {q o : Nat} (h : C.heap[q]? = A.heap[q]?) : C.cell? ⟨q, o, none⟩ = A.cell? ⟨q, o, none⟩ := by simp only [World.cell?, h]
theorem frozen_of_block {A C : World} {q o : Nat} (h : C.heap[q]? = A.heap[q]?) : C.frozen? ⟨q, o, none⟩ = A.frozen? ⟨q, o, none⟩ := by simp only [World.frozen?, h]
theorem StartsG.block {A C : World} (h : StartsG A) (hs : A.heap.size ≤ C.heap.size) (hq : C.heap[1]? = A.heap[1]?) : StartsG C := ⟨Nat.lt_of_lt_of_le h.1 hs, fun k h1 h5 j v hv => (cell_of_block hq).trans (h.2 k h1 h5 j v hv)⟩
theorem RootsG.block {A C : World} (h : RootsG A) (hs : A.heap.size ≤ C.heap.size) (hq : C.heap[4]? = A.heap[4]?) : RootsG C := ⟨Nat.lt_of_lt_of_le h.1 hs, fun k x hx => (cell_of_block hq).trans (h.2 k x hx)⟩
theorem BxE.block {b : Nat} {v : Value} {A C : World} (h : BxE b v A) (hs : A.heap.size ≤ C.heap.size) (hq : C.heap[b]? = A.heap[b]?) : BxE b v C := ⟨(cell_of_block hq).trans h.1, (frozen_of_block hq).trans h.2.1, Nat.lt_of_lt_of_le h.2.2 hs⟩

/-- ahead of a round: m rounds at most are to come -/
def VaI (g bx : Nat) (key val : List (BitVec 8)) (calls : Int) (N : Nat) (J : List (List (BitVec 8)) → World → Prop) (wr : World) (m : Nat) : Prop :=
  ∃ pre : List (List (BitVec 8)), pre.length + m = N ∧ DrbgR wr g key (vIter key val pre.length) calls ∧ BxE bx (.pointer (some ⟨g, 0, none⟩)) wr ∧ StartsG wr ∧ RootsG wr ∧ J pre wr
set_option maxRecDepth 100000 in
set_option maxHeartbeats 2000000 in
theorem values1_in (nn : Nat) (hn : 1 ≤ nn) (w : World) (g bx : Nat) (hg1 : 4 < g) (hbg : bx ≠ g) (hbx1 : 4 < bx) (key val : List (BitVec 8)) (calls : Int) (h : DrbgR w g key val calls) (hb : BxE bx (.pointer (some ⟨g, 0, none⟩)) w) (hGS : StartsG w) (hGR : RootsG w) (N : Nat) (hN : 1 ≤ N) :
    SeqM Fence.wide nn Tryd.prog 71 #[.pointer (some ⟨bx, 0, none⟩)] encV (VaR g key val calls) (KpS [1, 4, g, bx]) (fun _ => False) (fun _ => True) N g w := by
  intro l J Jx W hW hJ hJx hJg hJN hY h0
  have hbl := hb.2.2
  have hgl := h.row.lt
  have H0 := Lib.hid (⟨h.later hW, hb.later hW, hGS.later hW, hGR.later hW⟩ : DrbgR W g key val calls ∧ BxE bx (.pointer (some ⟨g, 0, none⟩)) W ∧ StartsG W ∧ RootsG W)
  have HY := Lib.hid hY
  have HJN := Lib.hid hJN
  have HJG := Lib.hid hJg
  have hWs := hW.size
  clear hY h hb hGS hGR hJN hJg
  refine callsIn_of_wp Tryd.func71 rfl trivial ?_ rfl
  simp only [Tryd.ntmps71, List.size_toArray, List.length_cons, List.length_nil, Nat.reduceAdd, Nat.reduceSub, Array.replicate_succ, Array.replicate_zero, List.push_toArray, List.append_toArray, List.nil_append, List.cons_append]
  gi_wp2
  gi_loopw [] (fun wr => ∃ m, VaI g bx key val calls N J wr m) (fun wr => leastOf (VaI g bx key val calls N J wr))
  case atStart => exact ⟨N, [], by simp, H0.out.1, H0.out.2.1, H0.out.2.2.1, H0.out.2.2.2, h0⟩
  case round =>
    obtain ⟨m, hm⟩ : ∃ m, m = leastOf (VaI g bx key val calls N J wr) := ⟨_, rfl⟩
    have hms := (leastOf_spec hrel).1
    rw [← hm] at hms ⊢
    have HMM := Lib.hid hm
    clear hrel hm
    obtain ⟨pre, hpl, hd, hb, hS, hR, hJp⟩ := hms
    have hst := dstep_any wr g key _ calls hd hS hR
    have HST := Lib.hid hst
    have q1 := hb.1
    have HD := Lib.hid (⟨hd, hb, hS, hR⟩ : DrbgR wr g key (vIter key val pre.length) calls ∧ BxE bx (.pointer (some ⟨g, 0, none⟩)) wr ∧ StartsG wr ∧ RootsG wr)
    have HPL := Lib.hid hpl
    clear hst hd hb hS hR hpl
    gi_wp2_with fail
    refine ⟨trivial, (callsIn_wide.2 HST.out).mono ?_⟩
    rintro e w1 ⟨rfl, hd1, ho1⟩
    have hJ1 := HJG.out pre wr w1 hJp ho1
    have hb1 := HD.out.2.1.block ho1.size (ho1.block bx HD.out.2.1.2.2 (by intro e; injection e; omega))
    have hlt := HJN.out pre w1 hJ1
    obtain ⟨Vn, hVn⟩ : ∃ V, vIter key val (pre.length + 1) = V := ⟨_, rfl⟩
    rw [show stepL key (vIter key val pre.length) = Vn from hVn] at hd1
    have HVN := Lib.hid hVn
    have HD1 := Lib.hid (⟨hd1, hb1, HD.out.2.2.1.only ho1 hg1, HD.out.2.2.2.only ho1 hg1⟩ : DrbgR w1 g key Vn calls ∧ BxE bx (.pointer (some ⟨g, 0, none⟩)) w1 ∧ StartsG w1 ∧ RootsG w1)
    have q1' := hb1.1
    obtain ⟨fn, tmps, assign, body, hy, hRd⟩ := HY.out pre Vn w1 hJ1 ⟨hVn.symm, by rw [hVn]; exact hd1⟩
    dsimp only [encV] at hy
    have hvl : (Vn.map W8).length = 32 := by rw [List.length_map]; exact hd1.hv
    have hrange : w1.rangeAt g 32 (Vn.map W8) := fun j v hv => hd1.row.at_ (by
      have hj := (List.getElem?_eq_some_iff.1 hv).1
      rw [dL, List.getElem?_append_right (by simp [hd1.hk]), List.length_map, hd1.hk, Nat.add_sub_cancel_left, List.getElem?_append_left hj]
      exact hv)
    clear hd1 ho1 hJp hb1 q1 hVn
    gi_wp2_with (refine wpListIn_load_mid rfl 61 _ rfl g 32 rfl (Vn.map W8) _ hrange Tryd.underlying61 rfl (Tryd.arr328.trans (by rw [hvl])) ?_)
    refine hRd.mono ?_
    rintro e W3 (⟨rfl, hJ3, hKp⟩ | ⟨rfl, hJx3⟩)
    · have hnew : VaI g bx key val calls N J W3 (m - 1) := ⟨pre ++ [Vn], by rw [List.length_append, List.length_singleton]; have := HPL.out; omega, by
          rw [List.length_append, List.length_singleton, HVN.out]
          exact HD1.out.1.drbg' hKp (by simp), HD1.out.2.1.block hKp.1 (hKp.2 bx (by simp)), HD1.out.2.2.1.block hKp.1 (hKp.2 _ (by simp)), HD1.out.2.2.2.block hKp.1 (hKp.2 _ (by simp)), hJ3⟩
      have HNEW := Lib.hid hnew
      have hm1 : m - 1 < m := by have := HPL.out; omega
      have HM1 := Lib.hid hm1
      clear hnew hKp hm1
      gi_wp2
      go_roundw
      case rel => exact ⟨_, HNEW.out⟩
      case measure => exact Nat.lt_of_le_of_lt ((leastOf_spec ⟨_, HNEW.out⟩).2 _ HNEW.out) HM1.out
    · gi_wp2
      refine bodyPost_ret (results_none rfl _ _ _) rfl ?_
      exact ⟨⟨_, rfl⟩, .inr ⟨_, trivial, hJx3⟩⟩
end Go.Proofs.YtnpaidieijlkkaaDoor
