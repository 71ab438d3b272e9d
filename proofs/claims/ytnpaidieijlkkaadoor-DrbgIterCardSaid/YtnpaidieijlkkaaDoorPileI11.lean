/- Parts of one proof, joined: Dc, QuietR, StillR, Dd, Uc, De, Ud, LimbE, LimbF, Reg. -/
import Derived.Test.YtnpaidieijlkkaaDoorPileI9
import Derived.Test.YtnpaidieijlkkaaDoorPileI10
import Derived.Test.YtnpaidieijlkkaaDoorPileI5
import Derived.Deep.LoopGhost
import Derived.Test.YtnpaidieijlkkaaDoorRows
import Derived.WalkKit
import Derived.Sort.QuietThIn
import Derived.Sort.QuietTacIn
import Derived.StillTail
import Derived.OwnWalkIn
import Derived.RangeFuncCalls
import Derived.Test.YtnpaidieijlkkaaDoorPileI4
import Derived.Test.YtnpaidieijlkkaaDoorPileI1

/- drbg: the iterator values, Bytes. -/
set_option linter.unusedVariables false
set_option linter.unusedSimpArgs false
namespace Go.Proofs.YtnpaidieijlkkaaDoor
open Go.RowKit Go.Shelf
attribute [local go_sem] Oper.semAt_some

/-- what V becomes -/
def vIter (key val : List (BitVec 8)) : Nat → List (BitVec 8)
  | 0 => val
  | j + 1 => stepL key (vIter key val j)
theorem vIter_length (key val : List (BitVec 8)) (h : val.length = 32) : ∀ j, (vIter key val j).length = 32
  | 0 => h
  | j + 1 => stepL_length _ _
abbrev encV : List (BitVec 8) → Array Value := fun x => #[.agg (x.map W8).toArray]
def VaR (g : Nat) (key val : List (BitVec 8)) (calls : Int) (pre : List (List (BitVec 8))) (x : List (BitVec 8)) (W : World) : Prop :=
  x = vIter key val (pre.length + 1) ∧ DrbgR W g key (vIter key val (pre.length + 1)) calls
theorem DrbgR.kept {A B' : World} {g : Nat} {key val : List (BitVec 8)} {calls : Int} (h : DrbgR A g key val calls) {row : Option Nat} (hg : A.grownBy B' row) (hr : ∀ r, row = some r → ∃ o : Obj, A.heap[r]? = some o ∧ o.isCells = false) : DrbgR B' g key val calls := ⟨h.hk, h.hv, h.row.kept hg hr⟩
theorem VaR.own (g : Nat) (key val : List (BitVec 8)) (calls : Int) (B : Nat) (pre : List (List (BitVec 8))) : OwnFrom B (VaR g key val calls pre) := fun s W W' row hs hg hr => ⟨hs.1, hs.2.kept hg (fun r e => (hr r e).2)⟩
/-- these blocks stay -/
def KpS (s : List Nat) (A B : World) : Prop := A.heap.size ≤ B.heap.size ∧ ∀ q ∈ s, B.heap[q]? = A.heap[q]?
theorem KpS.trans {s : List Nat} {A B C : World} (h : KpS s A B) (h' : KpS s B C) : KpS s A C := ⟨Nat.le_trans h.1 h'.1, fun q hq => (h'.2 q hq).trans (h.2 q hq)⟩
theorem KpS.put {s : List Nat} {l : Nat} {W : World} (hl : ∀ q ∈ s, q ≠ l) (o' : Obj) : KpS s W (W.putObj l o') := ⟨by simp [World.putObj], fun q hq => World.putObj_heap_other (hl q hq)⟩
theorem KpS.below {s : List Nat} {B : Nat} {A C : World} (h : Below B A C) (hB : ∀ q ∈ s, q < B) : KpS s A C := ⟨h.size, fun q hq => h.block q (hB q hq)⟩
theorem DrbgR.drbg' {s : List Nat} {g : Nat} {A C : World} {key val : List (BitVec 8)} {calls : Int} (h : DrbgR A g key val calls) (hk : KpS s A C) (hq : g ∈ s) : DrbgR C g key val calls := ⟨h.hk, h.hv, (hk.2 g hq).trans h.row⟩
theorem cell_of_block {A C : World} {q o : Nat} (h : C.heap[q]? = A.heap[q]?) : C.cell? ⟨q, o, none⟩ = A.cell? ⟨q, o, none⟩ := by simp only [World.cell?, h]
theorem frozen_of_block {A C : World} {q o : Nat} (h : C.heap[q]? = A.heap[q]?) : C.frozen? ⟨q, o, none⟩ = A.frozen? ⟨q, o, none⟩ := by simp only [World.frozen?, h]
theorem StartsG.block {A C : World} (h : StartsG A) (hs : A.heap.size ≤ C.heap.size) (hq : C.heap[1]? = A.heap[1]?) : StartsG C := ⟨Nat.lt_of_lt_of_le h.1 hs, fun k h1 h5 j v hv => (cell_of_block hq).trans (h.2 k h1 h5 j v hv)⟩
theorem RootsG.block {A C : World} (h : RootsG A) (hs : A.heap.size ≤ C.heap.size) (hq : C.heap[4]? = A.heap[4]?) : RootsG C := ⟨Nat.lt_of_lt_of_le h.1 hs, fun k x hx => (cell_of_block hq).trans (h.2 k x hx)⟩
theorem BxE.block {b : Nat} {v : Value} {A C : World} (h : BxE b v A) (hs : A.heap.size ≤ C.heap.size) (hq : C.heap[b]? = A.heap[b]?) : BxE b v C := ⟨(cell_of_block hq).trans h.1, (frozen_of_block hq).trans h.2.1, Nat.lt_of_lt_of_le h.2.2 hs⟩

/-- ahead of a round: m rounds at most are to come -/
def VaI (g bx : Nat) (key val : List (BitVec 8)) (calls : Int) (N : Nat) (J : List (List (BitVec 8)) → World → Prop) (wr : World) (m : Nat) : Prop :=
  ∃ pre : List (List (BitVec 8)), pre.length + m = N ∧ DrbgR wr g key (vIter key val pre.length) calls ∧ BxE bx (.pointer (some ⟨g, 0, none⟩)) wr ∧ StartsG wr ∧ RootsG wr ∧ J pre wr
set_option maxRecDepth 100000 in
set_option maxHeartbeats 2000000 in
theorem values1_in (nn : Nat) (hn : 1 ≤ nn) (w : World) (g bx : Nat) (hg1 : 4 < g) (hbg : bx ≠ g) (hbx1 : 4 < bx) (key val : List (BitVec 8)) (calls : Int) (h : DrbgR w g key val calls) (hb : BxE bx (.pointer (some ⟨g, 0, none⟩)) w) (hGS : StartsG w) (hGR : RootsG w) (N : Nat) (hN : 1 ≤ N) :
    SeqM Fence.wide nn Tryd.prog 71 #[.pointer (some ⟨bx, 0, none⟩)] encV (VaR g key val calls) (KpS [1, 4, g, bx]) (fun _ => False) (fun _ => True) N g w := by
  intro l J Jx W hW hJ hJx hJg hJN hY h0
  have hbl := hb.2.2
  have hgl := h.row.lt
  have H0 := Lib.hid (⟨h.later hW, hb.later hW, hGS.later hW, hGR.later hW⟩ : DrbgR W g key val calls ∧ BxE bx (.pointer (some ⟨g, 0, none⟩)) W ∧ StartsG W ∧ RootsG W)
  have HY := Lib.hid hY
  have HJN := Lib.hid hJN
  have HJG := Lib.hid hJg
  have hWs := hW.size
  clear hY h hb hGS hGR hJN hJg
  refine callsIn_of_wp Tryd.func71 rfl trivial ?_ rfl
  simp only [Tryd.ntmps71, List.size_toArray, List.length_cons, List.length_nil, Nat.reduceAdd, Nat.reduceSub, Array.replicate_succ, Array.replicate_zero, List.push_toArray, List.append_toArray, List.nil_append, List.cons_append]
  gi_wp2
  gi_loopw [] (fun wr => ∃ m, VaI g bx key val calls N J wr m) (fun wr => leastOf (VaI g bx key val calls N J wr))
  case atStart => exact ⟨N, [], by simp, H0.out.1, H0.out.2.1, H0.out.2.2.1, H0.out.2.2.2, h0⟩
  case round =>
    obtain ⟨m, hm⟩ : ∃ m, m = leastOf (VaI g bx key val calls N J wr) := ⟨_, rfl⟩
    have hms := (leastOf_spec hrel).1
    rw [← hm] at hms ⊢
    have HMM := Lib.hid hm
    clear hrel hm
    obtain ⟨pre, hpl, hd, hb, hS, hR, hJp⟩ := hms
    have hst := dstep_any wr g key _ calls hd hS hR
    have HST := Lib.hid hst
    have q1 := hb.1
    have HD := Lib.hid (⟨hd, hb, hS, hR⟩ : DrbgR wr g key (vIter key val pre.length) calls ∧ BxE bx (.pointer (some ⟨g, 0, none⟩)) wr ∧ StartsG wr ∧ RootsG wr)
    have HPL := Lib.hid hpl
    clear hst hd hb hS hR hpl
    gi_wp2_with fail
    refine ⟨trivial, (callsIn_wide.2 HST.out).mono ?_⟩
    rintro e w1 ⟨rfl, hd1, ho1⟩
    have hJ1 := HJG.out pre wr w1 hJp ho1
    have hb1 := HD.out.2.1.block ho1.size (ho1.block bx HD.out.2.1.2.2 (by intro e; injection e; omega))
    have hlt := HJN.out pre w1 hJ1
    obtain ⟨Vn, hVn⟩ : ∃ V, vIter key val (pre.length + 1) = V := ⟨_, rfl⟩
    rw [show stepL key (vIter key val pre.length) = Vn from hVn] at hd1
    have HVN := Lib.hid hVn
    have HD1 := Lib.hid (⟨hd1, hb1, HD.out.2.2.1.only ho1 hg1, HD.out.2.2.2.only ho1 hg1⟩ : DrbgR w1 g key Vn calls ∧ BxE bx (.pointer (some ⟨g, 0, none⟩)) w1 ∧ StartsG w1 ∧ RootsG w1)
    have q1' := hb1.1
    obtain ⟨fn, tmps, assign, body, hy, hRd⟩ := HY.out pre Vn w1 hJ1 ⟨hVn.symm, by rw [hVn]; exact hd1⟩
    dsimp only [encV] at hy
    have hvl : (Vn.map W8).length = 32 := by rw [List.length_map]; exact hd1.hv
    have hrange : w1.rangeAt g 32 (Vn.map W8) := fun j v hv => hd1.row.at_ (by
      have hj := (List.getElem?_eq_some_iff.1 hv).1
      rw [dL, List.getElem?_append_right (by simp [hd1.hk]), List.length_map, hd1.hk, Nat.add_sub_cancel_left, List.getElem?_append_left hj]
      exact hv)
    clear hd1 ho1 hJp hb1 q1 hVn
    gi_wp2_with (refine wpListIn_load_mid rfl 61 _ rfl g 32 rfl (Vn.map W8) _ hrange Tryd.underlying61 rfl (Tryd.arr328.trans (by rw [hvl])) ?_)
    refine hRd.mono ?_
    rintro e W3 (⟨rfl, hJ3, hKp⟩ | ⟨rfl, hJx3⟩)
    · have hnew : VaI g bx key val calls N J W3 (m - 1) := ⟨pre ++ [Vn], by rw [List.length_append, List.length_singleton]; have := HPL.out; omega, by
          rw [List.length_append, List.length_singleton, HVN.out]
          exact HD1.out.1.drbg' hKp (by simp), HD1.out.2.1.block hKp.1 (hKp.2 bx (by simp)), HD1.out.2.2.1.block hKp.1 (hKp.2 _ (by simp)), HD1.out.2.2.2.block hKp.1 (hKp.2 _ (by simp)), hJ3⟩
      have HNEW := Lib.hid hnew
      have hm1 : m - 1 < m := by have := HPL.out; omega
      have HM1 := Lib.hid hm1
      clear hnew hKp hm1
      gi_wp2
      go_roundw
      case rel => exact ⟨_, HNEW.out⟩
      case measure => exact Nat.lt_of_le_of_lt ((leastOf_spec ⟨_, HNEW.out⟩).2 _ HNEW.out) HM1.out
    · gi_wp2
      refine bodyPost_ret (results_none rfl _ _ _) rfl ?_
      exact ⟨⟨_, rfl⟩, .inr ⟨_, trivial, hJx3⟩⟩
end Go.Proofs.YtnpaidieijlkkaaDoor

/- A region that draws its order and only reads, in the body of a range over a function (where the fence knows its round). -/
set_option linter.unusedVariables false
set_option linter.unusedSimpArgs false
namespace Go.Proofs.YtnpaidieijlkkaaDoor
open Go.RowKit

/-- no operation defers -/
def noDeferB (l : List Oper) : Bool := l.all fun o => match o.op with | .defer _ => false | _ => true
theorem noDeferB_spec {l : List Oper} (h : noDeferB l = true) {i : Nat} {o : Oper} (ho : l[i]? = some o) (c : _) : o.op ≠ .defer c := fun hc => by
  have := List.all_eq_true.1 h o (List.mem_of_getElem? ho)
  rw [hc] at this
  cases this
variable {F : Fence} {n : Nat} {P : Program} {md : Region.Mode} {C : World → Prop}

theorem wpIn_of_quietR {o : Oper} {a : Act} {K : Act → Prop} {K' : Act → World → Prop} {Q' : Exit → Act → World → Prop} {w : World} (hnd : ∀ c, o.op ≠ .defer c) (hw : C w) (h : ∀ a w', C w' → K a → K' a w')
    (ha : o.askedIn F P a C) (hh : o.quietIn F n P a C K) : o.wpIn F n P a w K' Q' := by
  obtain ⟨v, hv, hK⟩ := hh
  refine ⟨ha w hw, ?_⟩
  have h3 : Oper.quietUponIn F n P C w v ((execOp a.eval o).run P w) := hv w hw
  rw [Oper.semAt_eq _ _ _ hnd]
  generalize (execOp a.eval o).run P w = r at h3
  cases r with
  | halt x w' => exact h3.elim
  | ok x w' =>
    cases x with
    | value u => obtain ⟨rfl, rfl⟩ := h3; exact h _ _ hw hK
    | skip => obtain ⟨rfl, rfl⟩ := h3; exact h _ _ hw hK
    | enter f args =>
      obtain ⟨rfl, hd, hc⟩ := h3
      refine ⟨hd, hc.mono ?_⟩
      rintro e w'' ⟨rfl, hw''⟩
      exact h _ _ hw'' hK
    | _ => exact h3.elim
theorem wpOpIn_of_quietR {l : List Oper} (hnd : noDeferB l = true) {i : Nat} {a : Act} {K : Act → Prop} {K' : Act → World → Prop} {Q' : Exit → Act → World → Prop} {w : World} (hC : C w) (h : ∀ a w', C w' → K a → K' a w')
    (hh : qOpIn F n P l.toArray C i K a) : wpOpIn F n P l.toArray Q' i K' a w := by
  unfold qOpIn at hh
  unfold wpOpIn
  cases ho : l.toArray[i]? with
  | none => rw [ho] at hh; exact h _ _ hC hh
  | some o =>
    rw [ho] at hh
    obtain ⟨ha, hh⟩ := hh
    have hn : ∀ c, o.op ≠ .defer c := noDeferB_spec hnd (by simpa using ho)
    by_cases hw : Region.wanted o (yielded l.toArray a.tmps) = true
    · simp only [hw, if_true] at hh ⊢
      exact wpIn_of_quietR hn hC h ha hh
    · simp only [hw] at hh ⊢
      exact ⟨ha w hC, h _ _ hC hh⟩
theorem wpAnyIn_of_quietR {l : List Oper} (hnd : noDeferB l = true) {Q : Act → Prop} {Q' : Exit → Act → World → Prop} (hQ : ∀ a w, C w → Q a → Q' .normal a w) : ∀ (fuel : Nat) (listed : Array Bool) (a : Act) (w : World), C w →
    wpAnyQIn F n P md l.toArray C Q fuel listed a → wpAnyIn F n P md l.toArray Q' fuel listed a w
  | 0, _, _, _, hw, h => ⟨h.1, hQ _ _ hw h.2⟩
  | fuel + 1, _, _, _, hw, h => ⟨fun h0 => hQ _ _ hw (h.1 h0), fun i hi => wpOpIn_of_quietR hnd hw (fun a' w' hw' => wpAnyIn_of_quietR hnd hQ fuel _ a' w' hw') (h.2 i hi)⟩
theorem wpIn_region_quietR {id : Nat} {Q : Exit → Act → World → Prop} {a : Act} {w : World} {l : List Oper} (hm : P.follows .mixedOrders = true) (hB : Region.lexB .any l.toArray = true) (hnd : noDeferB l = true)
    (h : wpQuietIn F n P l.toArray (fun w' => ∃ n, w' = w.drewN n) (fun a' => ∀ w', (∃ n, w' = w.drewN n) → Q .normal a' w') l a) : (Code.region id l.toArray true).wpIn F n P Q a w := by
  simp only [Region.lexB, Bool.and_eq_true] at hB
  refine wpIn_region_any hm (wpAnyIn_of_quietR hnd (C := fun w' => ∃ n, w' = w.drewN n) (Q := fun a' => ∀ w', (∃ n, w' = w.drewN n) → Q .normal a' w') (fun _ w' hw' h => h w' hw') _ _ _ _ ⟨1, rfl⟩ ?_)
  have := wpAnyQIn_lex (F := F) (n := n) (P := P) (C := fun w' => ∃ n, w' = w.drewN n) (md := .any) hB.1 l 0 (Array.replicate l.toArray.size false) a (by simp) (by simpa using hB.2) h
  simpa using this
end Go.Proofs.YtnpaidieijlkkaaDoor

/- A region that draws its order, some reads ahead of a sequence, in the body of a range over a function. -/
set_option linter.unusedVariables false
set_option linter.unusedSimpArgs false
namespace Go.Proofs.YtnpaidieijlkkaaDoor
open Go.RowKit

variable {P : Program} {md : Region.Mode}
theorem wpIn_round_of_wp {o : Oper} {a : Act} {w : World} {K : Act → World → Prop} {Q : Exit → Act → World → Prop} {r n : Nat} (hnd : ∀ c, o.op ≠ .defer c) (h : o.wp P a w K Q) : o.wpIn (Fence.wide.inRound r) n P a w K Q := by
  refine ⟨fun _ _ => trivial, ?_⟩
  rw [Oper.semAt_plain _ _ _ hnd]
  unfold Oper.wp at h
  generalize (execOp a.eval o).run P w = x at h
  cases x with
  | halt x w' => cases x <;> first | exact h | exact h.elim
  | ok x w' =>
    cases x with
    | value u => exact h
    | skip => exact h
    | defer d => exact h
    | enter f args => exact ⟨fun h => (by cases h), (CallsIn.inRound r (callsIn_wide.2 h)).mono (fun e w' he => by cases e <;> exact he)⟩
    | row row args => exact ⟨fun h => (by cases h), fun c cs _ => let ⟨v, w', hr, s⟩ := h c cs; ⟨v, w', hr, stepsIn_wide.2 s⟩⟩
    | _ => exact h.elim
theorem wpAnyIn_round {l : List Oper} {Q : Exit → Act → World → Prop} {r n : Nat} (hnd : noDeferB l = true) (hlo : ¬ LetsOut Q) : ∀ (fuel : Nat) (L : Array Bool) (a : Act) (w : World), wpAny P md l.toArray Q fuel L a w → wpAnyIn (Fence.wide.inRound r) n P md l.toArray Q fuel L a w
  | 0, _, _, _, h => h
  | fuel + 1, L, a, w, h => ⟨h.1, fun i hi => by
    have h2 := h.2 i hi
    unfold wpOp at h2
    unfold wpOpIn
    cases ho : l.toArray[i]? with
    | none => rw [ho] at h2; exact wpAnyIn_round hnd hlo fuel _ a w h2
    | some o =>
      rw [ho] at h2
      have hn : ∀ c, o.op ≠ .defer c := noDeferB_spec hnd (by simpa using ho)
      by_cases hw : Region.wanted o (yielded l.toArray a.tmps) = true
      · simp only [hw, if_true] at h2 ⊢
        rcases h2 with h2 | h2
        · exact Oper.wpIn_mono (fun a w => wpAnyIn_round hnd hlo fuel _ a w) (wpIn_round_of_wp hn h2)
        · exact absurd h2.2 hlo
      · simp only [hw] at h2 ⊢
        exact ⟨fun _ _ => trivial, wpAnyIn_round hnd hlo fuel _ _ w h2⟩⟩
theorem wpIn_region_still_tailR {id r m : Nat} {Q : Exit → Act → World → Prop} {a : Act} {w : World} {l : List Oper} (n : Nat) (hm : P.follows .mixedOrders = true) (hB : Region.lexTailB .any l.toArray n = true) (hnd : noDeferB l = true) (hlo : ¬ LetsOut Q)
    (h : wpStill P l.toArray w.drew (fun a' => wpList P l.toArray Q (l.drop n) a' w.drew) (l.take n) a) : (Code.region id l.toArray true).wpIn (Fence.wide.inRound r) m P Q a w := by
  simp only [Region.lexTailB, Bool.and_eq_true, decide_eq_true_eq] at hB
  obtain ⟨⟨⟨⟨hsel, hn⟩, hs⟩, hc⟩, hlex⟩ := hB
  have hn' : n < l.length := by simpa using hn
  have htl : (l.take n).length = n := by simp; omega
  have hdl : (l.drop n).length = l.toArray.size - n := by simp
  have inv0 : HeadInv .any l.toArray n (Array.replicate l.toArray.size false) :=
    ⟨by simp, fun j oj _ hl => (by rw [getD_replicate_false] at hl; cases hl), fun t _ ht => getD_in (by simpa using ht) (getD_replicate_false _ _)⟩
  have H := wpAnyL_lex (md := .any) (g := l.toArray.size - n) hsel hs hc hn (l.take n) 0 _ a (fun j hj => by
    have hj' : j < n := by rw [htl] at hj; exact hj
    simp [hj']) (by simpa using htl) inv0 (by rw [htl]; exact hlex) h
  refine wpIn_region_any hm (wpAnyIn_round hnd hlo _ _ _ _ ?_)
  have := wpAny_of_head (Q' := Q) (g := l.toArray.size - n) (fun listed a' hL => by
    have := wpAny_of_seq (md := .any) (Q' := Q) (l.drop n) n listed a' w.drew (fun j => by simp [List.getElem?_drop]) (by rw [hdl]; exact hL.1) hL.2
    rwa [hdl] at this) _ _ _ H
  rw [htl, show n + (l.toArray.size - n) = l.toArray.size by omega] at this
  exact this
end Go.Proofs.YtnpaidieijlkkaaDoor

/- drbg: Bytes. -/
set_option linter.unusedVariables false
set_option linter.unusedSimpArgs false
namespace Go.Proofs.YtnpaidieijlkkaaDoor
open Go.RowKit Go.Shelf
attribute [local go_sem] Oper.semAt_some

section
variable {F : Fence} {n : Nat} {P : Program} {t e : TypeId} {z : Value} {sz : Nat} {w : World} {ops : Array Oper} {rest : List Oper} {o : Oper} {a : Act} {Q : Exit → Act → World → Prop}
theorem wlv_make_in (E : Elem P t e z sz) (hg : o.guard = none) (l : Operand)
    (hop : o.op = Op.makeSlice t l l) (N : Int) (m : Nat) (hl : a.eval l = .int .i64 N) (hN : N = m) (hn : m ≤ 17592186044416)
    (h : ∀ w', RowV e w' w.heap.size (List.replicate m z) → Below w.heap.size w w' → w'.heap.size = w.heap.size + 1 → wpListIn F n P ops Q rest (a.put o.dst (.slice (some ⟨w.heap.size, 0, none⟩) m m)) w') :
    wpListIn F n P ops Q (o :: rest) a w := by
  obtain ⟨i0, hi, hz0, hz1, hz2⟩ := info_parts E.info
  subst hN
  have hb : (i0.bytes : Int) * (m : Int) ≤ 281474976710656 := by
    rw [hz2]
    have h1 : sz * m ≤ 8 * 17592186044416 := Nat.mul_le_mul E.b8 hn
    have h2 : ((sz * m : Nat) : Int) ≤ 8 * 17592186044416 := by omega
    rw [Int.natCast_mul] at h2
    omega
  have hr := run_make (P := P) w t e i0 z E.sl hi hz0 .i64 .i64 m m (by omega) (by omega) hb (by omega)
  simp only [Int.toNat_natCast] at hr
  refine wpListIn_value (w' := w.alloc (.cells (List.replicate m z).toArray e (0, 0))) hg (by rw [hop]; intro c hc; cases hc) (fun f hf => by simp [Oper.about, hop] at hf) ?_ (h _ (RowV.new _ _ _) ((Below.refl _ _).alloc (Nat.le_refl _) _) (by simp))
  have e2 : madeCells z.cells m = (List.replicate m z).toArray := by
    apply Array.ext'
    rw [E.one, toList_madeCells_one]
  simp only [execOp, hop, hl, hr, Result.andThen, hz1, Nat.mul_one, e2, Sem.run_bind, Sem.run_pure]
end
/-- two writing operations, one behind the other: places i and j -/
def worD (V0 V1 V2 : World) (i j : Nat) (L : Array Bool) : World := if L.getD j false then V2 else if L.getD i false then V1 else V0
theorem worD_other {V0 V1 V2 : World} {i j : Nat} (L : Array Bool) {k : Nat} (h1 : k ≠ i) (h2 : k ≠ j) : worD V0 V1 V2 i j (L.setIfInBounds k true) = worD V0 V1 V2 i j L := by
  unfold worD
  rw [getD_set_other L h1, getD_set_other L h2]
theorem worD_none {V0 V1 V2 : World} {i j : Nat} {L : Array Bool} (h1 : L.getD i false = false) (h2 : L.getD j false = false) : worD V0 V1 V2 i j L = V0 := by unfold worD; rw [h1, h2]; rfl
theorem worD_first {V0 V1 V2 : World} {i j : Nat} {L : Array Bool} (h1 : L.getD i false = true) (h2 : L.getD j false = false) : worD V0 V1 V2 i j L = V1 := by unfold worD; rw [h1, h2]; rfl
theorem worD_both {V0 V1 V2 : World} {i j : Nat} {L : Array Bool} (h2 : L.getD j false = true) : worD V0 V1 V2 i j L = V2 := by unfold worD; rw [h2]; rfl
theorem setCells_drewN (g q : Nat) : ∀ (ys : List Value) (o : Nat) (w : World), (w.drewN q).setCells g o ys = (w.setCells g o ys).drewN q
  | [], _, _ => rfl
  | y :: r, o, w => setCells_drewN g q r (o + 1) (w.setCell ⟨g, o, none⟩ y)
/-- what comes, and the state behind it -/
def bytesL (key val : List (BitVec 8)) (N : Nat) : List (BitVec 8) := fillL (fun i => vIter key val (i + 1)) N
def bytesS (key val : List (BitVec 8)) (N : Nat) : List (BitVec 8) × List (BitVec 8) := updL (key, vIter key val ((N + 31) / 32)) []
theorem dvalues_any (w : World) (g : Nat) : Calls Tryd.prog 41 #[.pointer (some ⟨g, 0, none⟩)] w fun e w' => e = .returned (.func (.func 71) #[] #[.pointer (some ⟨w.heap.size, 0, none⟩)]) ∧ BxE w.heap.size (.pointer (some ⟨g, 0, none⟩)) w' ∧ Below w.heap.size w w' := by
  obtain ⟨W1, e1, hB1, b1, s1⟩ := newBox w 25 (.pointer (some ⟨g, 0, none⟩))
  have HB := Lib.hid hB1
  have H1 := Lib.hid b1
  clear hB1 b1 s1
  go_enter Tryd.func41, Tryd.ntmps41
  go_wp2
  go_ret
  exact ⟨rfl, H1.out, HB.out⟩
theorem DrbgR.calls_ {w : World} {g : Nat} {key val : List (BitVec 8)} {calls : Int} (h : DrbgR w g key val calls) : w.cell? ⟨g, 64, none⟩ = some (.int .i64 calls) := h.row.at_ (by
  rw [dL, List.getElem?_append_right (by simp [h.hk]), List.length_map, h.hk, List.getElem?_append_right (by simp [h.hv]), List.length_map, h.hv]; rfl)
theorem DrbgR.putCalls {w : World} {g : Nat} {key val : List (BitVec 8)} {calls : Int} (h : DrbgR w g key val calls) (c : Int) : DrbgR (w.setCell ⟨g, 64, none⟩ (.int .i64 c)) g key val c := ⟨h.hk, h.hv, by
  have h2 := h.row.set 64 (.int .i64 c)
  have : (dL key val calls).set 64 (.int .i64 c) = dL key val c := by
    rw [dL, List.set_append_right _ _ (by simp [h.hk]), List.length_map, h.hk, List.set_append_right _ _ (by simp [h.hv]), List.length_map, h.hv]; rfl
  rwa [this] at h2⟩
/-- ahead of a round -/
def ByI (w : World) (g o x6 : Nat) (key val : List (BitVec 8)) (N : Nat) (pre : List (List (BitVec 8))) (W : World) : Prop :=
  32 * pre.length < N ∧ OnlyV w W g ∧ RowV 5 W o ((seqL (fun i => vIter key val (i + 1)) pre.length ++ List.replicate (N - 32 * pre.length) 0).map W8) ∧ BxE x6 (.slice (some ⟨o, 32 * pre.length, none⟩) (N - 32 * pre.length) (N - 32 * pre.length)) W
/-- all has come -/
def ByX (w : World) (g o : Nat) (key val : List (BitVec 8)) (calls : Int) (N : Nat) (pre : List (List (BitVec 8))) (W : World) : Prop :=
  pre.length = (N + 31) / 32 ∧ OnlyV w W g ∧ RowV 5 W o ((bytesL key val N).map W8) ∧ DrbgR W g key (vIter key val pre.length) calls
theorem OnlyV.new' {a b c : World} {g o : Nat} (h : OnlyV a b g) (k : OnlyV b c o) (ho : a.heap.size ≤ o) : OnlyV a c g :=
  ⟨k.os.trans h.os, k.tape.trans h.tape, k.output.trans h.output, Nat.le_trans h.size k.size, fun i hi hn => (k.block i (Nat.lt_of_lt_of_le hi h.size) (fun e => by injection e; omega)).trans (h.block i hi hn)⟩
theorem OnlyV.grown' {a w w' : World} {g : Nat} (h : OnlyV a w g) (hg : w.grownBy w' (some g)) : OnlyV a w' g := h.trans hg
theorem RowV.grownG {t : TypeId} {A B : World} {b g : Nat} {vs : List Value} (h : RowV t A b vs) (hg : A.grownBy B (some g)) (hn : b ≠ g) : RowV t B b vs := (hg.block b h.lt (fun e => hn (by injection e))).trans h
theorem BxE.grownG {A B : World} {b g : Nat} {v : Value} (h : BxE b v A) (hg : A.grownBy B (some g)) (hn : b ≠ g) : BxE b v B := h.block hg.size (hg.block b h.2.2 (fun e => hn (by injection e)))
set_option maxRecDepth 100000 in
set_option maxHeartbeats 4000000 in
theorem dbytes_any (w : World) (g : Nat) (hg1 : 4 < g) (key val : List (BitVec 8)) (calls : Int) (hc0 : 0 ≤ calls) (hc1 : calls ≤ 1000000) (h : DrbgR w g key val calls) (hGS : StartsG w) (hGR : RootsG w) (N : Nat) (hN1 : 1 ≤ N) (hN2 : N ≤ 65536) :
    Calls Tryd.prog 15 #[.pointer (some ⟨g, 0, none⟩), .int .i64 (N : Int)] w fun e w' => ∃ o, e = .returned (.slice (some ⟨o, 0, none⟩) N N) ∧ w.heap.size ≤ o ∧ RowV 5 w' o ((bytesL key val N).map W8) ∧ DrbgR w' g (bytesS key val N).1 (bytesS key val N).2 (calls + 1) ∧ OnlyV w w' g := by
  have hgl := h.row.lt
  obtain ⟨o, ho⟩ : ∃ o, w.heap.size = o := ⟨_, rfl⟩
  have kN1 : (1 : Int) ≤ N := by omega
  have kN2 : (N : Int) ≤ 65536 := by omega
  have HD := Lib.hid h
  have HG := Lib.hid (⟨hGS, hGR⟩ : StartsG w ∧ RootsG w)
  have HO := Lib.hid ho
  clear h hGS hGR
  refine (callsIn_wide (n := 9)).1 ?_
  refine callsIn_of_wp_marks Tryd.func15 rfl trivial ?_ rfl
  simp only [Tryd.ntmps15, List.size_toArray, List.length_cons, List.length_nil, Nat.reduceAdd, Nat.reduceSub, Array.replicate_succ, Array.replicate_zero, List.push_toArray, List.append_toArray, List.nil_append, List.cons_append]
  gi_wp2_with (refine wlv_make_in Tryd.elem8 rfl _ rfl _ N rfl rfl (by omega) ?_; intro W1 r1 b1 z1)
  rw [ho] at r1
  obtain ⟨W2, e2, hB2, b2, s2⟩ := newBox W1 22 (.slice (some ⟨o, 0, none⟩) N N)
  have hx6 : W1.heap.size = o + 1 := by omega
  rw [hx6] at b2
  have hv := dvalues_any W2 g
  have hs2 : W2.heap.size = o + 2 := by omega
  rw [hs2] at hv
  rw [e2]
  refine ⟨trivial, (callsIn_wide.2 hv).mono ?_⟩
  rintro e W3 ⟨rfl, hbx, hb3⟩
  have h02 : Below w.heap.size w W2 := b1.trans (hB2.mono b1.size)
  have h03 : Below w.heap.size w W3 := h02.trans (hb3.mono (by omega))
  have hrow3 : RowV 5 W3 o (List.replicate N (.int .u8 0)) := (r1.later hB2).below hb3 (by omega)
  have hbox3 : BxE (o + 1) (.slice (some ⟨o, 0, none⟩) N N) W3 := b2.later (by rw [hs2]; exact hb3)
  have hd3 := HD.out.later h03
  have hseq := values1_in 8 (by decide) W3 g (o + 2) hg1 (by omega) (by have := HG.out.2.1; omega) key val calls hd3 hbx (HG.out.1.later h03) (HG.out.2.later h03) N hN1
  have HSEQ := Lib.hid hseq
  have H03 := Lib.hid h03
  have HR3 := Lib.hid hrow3
  have HX3 := Lib.hid hbox3
  have HD3 := Lib.hid hd3
  have hsz3 : o + 3 ≤ W3.heap.size := by have := hbx.2.2; omega
  have HBX := Lib.hid hbx
  clear hseq h03 h02 hrow3 hbox3 hd3 hbx hb3 hv b2 hB2 b1 r1 z1 s2 e2 hx6 hs2 ho
  gi_wp2_with fail
  refine wpIn_rangeM rfl (by decide) (gf := 71) (lb := #[.pointer (some ⟨o + 2, 0, none⟩)]) rfl trivial (enters_of Tryd.func71 (by kernel_rfl) rfl)
    (by have := HO.out; omega : g < W3.heap.size) HSEQ.out (fun a b => a.trans b) (fun W l ob ob' hl _ _ _ => KpS.put (by intro q hq; simp only [List.mem_cons, List.not_mem_nil, or_false] at hq; have := HO.out; rcases hq with rfl | rfl | rfl | rfl <;> omega) _) (fun _ => rfl)
    (ByI w g o (o + 1) key val N) (fun c pre W => c = .exit 0 ∧ ByX w g o key val calls N pre W) ?hI ?hIg ?hIN ?hIx (fun pre => VaR.own _ _ _ _ _ pre) ?hI0 (fun A B hA hb => KpS.below hb (by intro q hq; simp only [List.mem_cons, List.not_mem_nil, or_false] at hq; have := HO.out; rcases hq with rfl | rfl | rfl | rfl <;> omega))
    (fun x W a' W' => a' = { tmps := #[.pointer (some ⟨g, 0, none⟩), .int .i64 (N : Int), undef, undef, .slice none 0 0, .slice (some ⟨o, 0, none⟩) N N, .pointer (some ⟨o + 1, 0, none⟩), .pointer (some ⟨W.heap.size, 0, none⟩), .pointer (some ⟨g, 0, none⟩), .bool false, .bool false, .int .i64 (N : Int), .bool (decide ((N : Int) < 1)), .bool (decide ((N : Int) < 1)), .bool (decide ((N : Int) < 1)), .int .i64 (N : Int), .bool (decide (65536 < (N : Int))), .bool (decide ((N : Int) < 1) || decide (65536 < (N : Int))), .int .i64 (N : Int), .slice (some ⟨o, 0, none⟩) N N, .slice (some ⟨o, 0, none⟩) N N, .pointer (some ⟨g, 0, none⟩), .func (.func 71) #[] #[.pointer (some ⟨o + 2, 0, none⟩)], .agg (x.map W8).toArray, undef, undef, undef, undef, undef, undef, undef, undef, undef, undef, undef, undef, undef, undef, undef, undef, undef, undef], defers := [] } ∧ RowV 61 W' W.heap.size (x.map W8)) ?assign ?hAx ?body ?done ?stop
  case hI =>
    rintro s W W' row ⟨h1, h2, h3, h4⟩ hg hr
    exact ⟨h1, h2.grown hg (fun r e => by have := (hr r e).1; have := HO.out; omega), h3.kept hg (fun r e => (hr r e).2), h4.kept hg (fun r e => (hr r e).2)⟩
  case hIg =>
    rintro s A B ⟨h1, h2, h3, h4⟩ hg
    have := HO.out
    exact ⟨h1, h2.grown' hg, h3.grownG hg (by omega), h4.grownG hg (by omega)⟩
  case hIN =>
    rintro s A ⟨h1, _⟩
    omega
  case hIx =>
    rintro c s W W' row ⟨rfl, h1, h2, h3, h4⟩ hg hr
    exact ⟨rfl, h1, h2.grown hg (fun r e => by have := (hr r e).1; have := HO.out; omega), h3.kept hg (fun r e => (hr r e).2), h4.kept hg (fun r e => (hr r e).2)⟩
  case hI0 =>
    refine ⟨by show 32 * 0 < N; omega, OnlyV.of_below H03.out g, ?_, by simpa using HX3.out⟩
    have h := HR3.out
    rw [show (Value.int .u8 0) = W8 0 from rfl, ← List.map_replicate] at h
    exact h
  case assign =>
    rintro l pre x W K hW ⟨hx, hd⟩ hK
    have hxl := hd.hv
    rw [← hx] at hxl
    obtain ⟨W1', e1', r1', b1', z1'⟩ := newV W 61 (List.replicate 32 (.int .u8 0)) #[.int .u8 0, .int .u8 0, .int .u8 0, .int .u8 0, .int .u8 0, .int .u8 0, .int .u8 0, .int .u8 0, .int .u8 0, .int .u8 0, .int .u8 0, .int .u8 0, .int .u8 0, .int .u8 0, .int .u8 0, .int .u8 0, .int .u8 0, .int .u8 0, .int .u8 0, .int .u8 0, .int .u8 0, .int .u8 0, .int .u8 0, .int .u8 0, .int .u8 0, .int .u8 0, .int .u8 0, .int .u8 0, .int .u8 0, .int .u8 0, .int .u8 0, .int .u8 0] rfl
    obtain ⟨bw, hbw⟩ : ∃ b, W.heap.size = b := ⟨_, rfl⟩
    rw [hbw] at r1'
    have hxm : (x.map W8).toArray.size = 32 := by simpa using hxl
    have hth : W1'.there bw 0 32 := fun j hj => ⟨by
      rw [Nat.zero_add, r1'.cell j, List.getElem?_replicate, if_pos hj]; rfl, r1'.frozen _⟩
    obtain ⟨W2', e2'⟩ : ∃ V, W1'.setCells bw 0 (x.map W8).toArray.toList = V := ⟨_, rfl⟩
    have hr2 : RowV 61 W2' bw (x.map W8) := by
      rw [← e2']
      have h2 := RowV.setCells (x.map W8) 0 _ _ r1'
      have h3 := setL_mid (x.map W8) [] (List.replicate 32 (.int .u8 0)) [] (by simp [hxl])
      simp only [List.length_nil, List.nil_append, List.append_nil] at h3
      rwa [h3] at h2
    have hb2 : Below W.heap.size W W2' := by
      rw [← e2']
      exact b1'.trans ((OnlyV.sets (g := bw) _ _ _ (OnlyV.refl _ _)).below (by omega) (by omega))
    rw [← hbw] at hr2
    have hKK := hK _ _ hb2 ⟨rfl, hr2⟩
    rw [hbw] at hKK
    have HKK := Lib.hid hKK
    clear hKK hK hx hd hr2 hb2
    gi_wp2_with (refine wpListIn_store_mid rfl 61 _ _ rfl bw 0 (x.map W8).toArray rfl rfl (by rw [hxm]; exact hth) (by rw [hxm]; exact Tryd.arr328) (all_oneCell_toArray (ones8 x)) ?_)
    exact HKK.out
  case hAx =>
    rintro x W a' W' o' ⟨h1, h2⟩ l ob _ hl ho hc
    exact ⟨h1, (World.putObj_heap_other (by omega)).trans h2⟩
  case body =>
    rintro l pre x W0 a' W hW0 ⟨rfl, hrv⟩ ⟨hI1, hI2, hI3, hI4⟩ ⟨hx, hd⟩
    obtain ⟨bw, hbw⟩ : ∃ b, W0.heap.size = b := ⟨_, rfl⟩
    rw [hbw] at hrv ⊢
    have hbo : o + 3 ≤ bw := by omega
    have hxl : x.length = 32 := by rw [hx]; exact hd.hv
    obtain ⟨j, hj⟩ : ∃ j, pre.length = j := ⟨_, rfl⟩
    rw [hj] at hI1 hI3 hI4 hd hx
    obtain ⟨p, hp⟩ : ∃ p, 32 * j = p := ⟨_, rfl⟩
    obtain ⟨r, hr⟩ : ∃ r, N - p = r := ⟨_, rfl⟩
    rw [hp] at hI1 hI3 hI4
    rw [hr] at hI3 hI4
    obtain ⟨m, hm⟩ : ∃ m, min r 32 = m := ⟨_, rfl⟩
    have q6 := hI4.1
    have f6 := hI4.2.1
    have hrow := hI3
    have hrvV := hrv
    have hseql : (seqL (fun i => vIter key val (i + 1)) j).length = p := by rw [seqL_length _ 32 (fun i => vIter_length _ _ (by have := HD.out.hv; exact this) _), hp]
    have hxm : (x.map W8).length = 32 := by rw [List.length_map, hxl]
    obtain ⟨xs, hxs⟩ : ∃ l, (x.map W8).take m = l := ⟨_, rfl⟩
    have hxsl : xs.length = m := by rw [← hxs, List.length_take, hxm]; omega
    have hcp : ∀ ty (q : Nat), (Builtin.copy_ #[22, 22] ty #[.slice (some ⟨o, p, none⟩) r r, .slice (some ⟨bw, 0, none⟩) 32 32]).run Tryd.prog (W.drewN q) = .ok (goInt xs.length) ((W.setCells o p xs).drewN q) := fun ty q => by
      rw [← setCells_drewN]
      obtain ⟨i0, hi, hz0, hz1, hz2⟩ := info_parts Tryd.elem8.info
      refine run_copy_cells (W.drewN q) _ _ ty 5 o p r r ⟨bw, 0, none⟩ 32 32 xs Tryd.underlying22 (by rw [hi]; simp [hz1]) (by rw [hxsl, ← hm]; exact Nat.min_comm _ _) (fun k v hv => ?_) (fun k hk => ?_) (fun k hk => hrow.frozen _) (fun v hv => ?_)
      · rw [Addr.add_lit, Nat.zero_add, World.cell?_drewN]
        refine hrvV.at_ ?_
        rw [← hxs, List.getElem?_take] at hv
        split at hv
        · exact hv
        · cases hv
      · rw [World.cell?_drewN, hrow.cell, List.getElem?_eq_getElem (by rw [List.length_map, List.length_append, hseql, List.length_replicate]; omega)]
        rfl
      · rw [← hxs] at hv
        exact ones8 x v (List.mem_of_mem_take hv)
    rw [hxsl] at hcp
    obtain ⟨V1, e1⟩ : ∃ U, W.setCells o p xs = U := ⟨_, rfl⟩
    rw [e1] at hcp
    have ho1 : OnlyV W V1 o := by rw [← e1]; exact OnlyV.sets _ _ _ (OnlyV.refl _ _)
    have hx61 := hI4.grownG ho1 (by omega)
    have hrow1 : RowV 5 V1 o ((seqL (fun i => vIter key val (i + 1)) j).map W8 ++ (xs ++ List.replicate (r - m) (W8 0))) := by
      have h2 := RowV.setCells xs p _ _ hrow
      rw [e1, List.map_append, List.map_replicate, show List.replicate r (W8 0) = List.replicate m (W8 0) ++ List.replicate (r - m) (W8 0) by rw [List.replicate_append_replicate]; congr 1; omega] at h2
      have h3 := setL_mid xs ((seqL (fun i => vIter key val (i + 1)) j).map W8) (List.replicate m (W8 0)) (List.replicate (r - m) (W8 0)) (by rw [List.length_replicate, hxsl])
      rw [List.length_map, hseql] at h3
      rw [h3] at h2
      exact h2
    have hd1 : DrbgR V1 g key (vIter key val (j + 1)) calls := ⟨hd.hk, hd.hv, hd.row.grownG ho1 (by have := HO.out; omega)⟩
    have q61 := hx61.1
    have f61 := hx61.2.1
    have HX61 := Lib.hid hx61
    have HROW1 := Lib.hid hrow1
    have HD1 := Lib.hid hd1
    have HO1 := Lib.hid ho1
    have HI2 := Lib.hid hI2
    have HXS := Lib.hid (⟨hxs, hxsl, hseql, hxm⟩ : (x.map W8).take m = xs ∧ xs.length = m ∧ (seqL (fun i => vIter key val (i + 1)) j).length = p ∧ (x.map W8).length = 32)
    have HXX := Lib.hid hx
    have HJ := Lib.hid hj
    have HP := Lib.hid hp
    have HR := Lib.hid hr
    have HM := Lib.hid hm
    have HBW := Lib.hid (show bw < W.heap.size from hrv.lt)
    clear hx61 hrow1 hd1 ho1 hI2 hI3 hI4 hrv hd hx hj hp hr hm hxs hxsl hseql hxm hrvV hrow hbw
    have kr : (r : Int) ≤ 65536 := by have := HR.out; omega
    have km0 : (0 : Int) ≤ m := by omega
    have kmr : (m : Int) ≤ r := by have := HM.out; omega
    obtain ⟨S', hS'⟩ : ∃ S', Value.slice (if r = m then some ⟨o, p, none⟩ else some ⟨o, p + m, none⟩) (r - m) (r - m) = S' := ⟨_, rfl⟩
    obtain ⟨V2, e2⟩ : ∃ U, V1.setCell ⟨o + 1, 0, none⟩ S' = U := ⟨_, rfl⟩
    have q62 : BxE (o + 1) S' V2 := by rw [← e2]; exact HX61.out.set _
    have HQ62 := Lib.hid q62
    have hmx : Tryd.prog.follows .mixedOrders = true := by kernel_rfl
    dsimp only
    gi_wp2_with fail
    refine wpIn_region_inv hmx ?hd
      (fun k => [.slice (some ⟨o, p, none⟩) r r, .slice (some ⟨o, p, none⟩) r r, .slice (some ⟨bw, 0, none⟩) 32 32, .int .i64 (m : Int), S'].getD k undef)
      (worD W V1 V2 3 5) ?hw0 ?hstep ?hend ?hac
    case hd => exact distinct_of (by kernel_rfl)
    case hw0 => exact ⟨1, by rw [worD_none (by kernel_rfl) (by kernel_rfl)]; rfl⟩
    case hac => exact acyclic_of (by kernel_rfl)
    case hstep =>
      intro L a' hs hdf hcl hold hnew i' hi' oi hoi q0 K hK
      obtain ⟨hnl, o2, ho2, hdep⟩ := mem_ready.1 hi'
      obtain rfl : oi = o2 := Option.some.inj (hoi.symm.trans ho2)
      have hlt : i' < 6 := (Array.getElem?_eq_some_iff.1 hoi).1
      have t6 : a'.tmps.getD 6 undef = .pointer (some ⟨o + 1, 0, none⟩) := hold 6 (free_of (by kernel_rfl))
      have t7 : a'.tmps.getD 7 undef = .pointer (some ⟨bw, 0, none⟩) := hold 7 (free_of (by kernel_rfl))
      clear hold
      obtain rfl | rfl | rfl | rfl | rfl | rfl : i' = 0 ∨ i' = 1 ∨ i' = 2 ∨ i' = 3 ∨ i' = 4 ∨ i' = 5 := by omega
      all_goals
        have hoi' := hoi
        simp only [List.getElem?_toArray, List.getElem?_cons_zero, List.getElem?_cons_succ, Option.some.injEq] at hoi'
        subst hoi'
      · have h5 : L.getD 5 false = false := by
          apply Classical.byContradiction
          intro h
          have h2 := hcl 4 _ rfl (hcl 5 _ rfl (by simpa using h) ⟨4, .data⟩ (by simp) rfl) ⟨0, .data⟩ (by simp) rfl
          rw [unlisted hnl] at h2
          cases h2
        have hw : (worD W V1 V2 3 5 L).cell? ⟨o + 1, 0, none⟩ = some (.slice (some ⟨o, p, none⟩) r r) := by
          unfold worD
          rw [h5]
          simp only [Bool.false_eq_true, if_false]
          split
          · exact q61
          · exact q6
        rw [worD_other L (by decide) (by decide)] at hK
        refine in_value hoi rfl (by intro c h; cases h) (fun _ _ => trivial) ?_ (hK q0)
        simp [execOp, Act.eval, t6, hw, go_sem]
      · have h3 : L.getD 3 false = false := by
          apply Classical.byContradiction
          intro h
          have h2 := hcl 3 _ rfl (by simpa using h) ⟨1, .data⟩ (by simp) rfl
          rw [unlisted hnl] at h2
          cases h2
        have h5 : L.getD 5 false = false := by
          apply Classical.byContradiction
          intro h
          have h2 := hcl 4 _ rfl (hcl 5 _ rfl (by simpa using h) ⟨4, .data⟩ (by simp) rfl) ⟨3, .data⟩ (by simp) rfl
          rw [h3] at h2
          cases h2
        rw [worD_other L (by decide) (by decide)] at hK
        rw [worD_none h3 h5] at hK ⊢
        refine in_value hoi rfl (by intro c h; cases h) (fun _ _ => trivial) ?_ (hK q0)
        simp [execOp, Act.eval, t6, q6, go_sem]
      · rw [worD_other L (by decide) (by decide)] at hK
        refine in_value hoi rfl (by intro c h; cases h) (fun _ _ => trivial) ?_ (hK q0)
        simp [execOp, Act.eval, t7, go_sem]
      · have h3 := unlisted hnl
        have h5 : L.getD 5 false = false := by
          apply Classical.byContradiction
          intro h
          have h2 := hcl 4 _ rfl (hcl 5 _ rfl (by simpa using h) ⟨4, .data⟩ (by simp) rfl) ⟨3, .data⟩ (by simp) rfl
          rw [h3] at h2
          cases h2
        have t25 : a'.tmps.getD 25 undef = .slice (some ⟨o, p, none⟩) r r := hnew 1 _ 25 rfl rfl (hdep ⟨1, .data⟩ (by simp) rfl) (by simp)
        have t26 : a'.tmps.getD 26 undef = .slice (some ⟨bw, 0, none⟩) 32 32 := hnew 2 _ 26 rfl rfl (hdep ⟨2, .data⟩ (by simp) rfl) (by simp)
        rw [worD_first (getD_set_self L (by rw [hs]; decide)) (by rw [getD_set_other L (by decide)]; exact h5)] at hK
        rw [worD_none h3 h5]
        refine in_value hoi rfl (by intro c h; cases h) (fun _ _ => trivial) ?_ (hK q0)
        simp [execOp, Act.eval, t25, t26, resolve, invoke, builtin, hcp, goInt, go_sem]
      · have h4 := unlisted hnl
        have h5 : L.getD 5 false = false := by
          apply Classical.byContradiction
          intro h
          have h2 := hcl 5 _ rfl (by simpa using h) ⟨4, .data⟩ (by simp) rfl
          rw [h4] at h2
          cases h2
        have t24 : a'.tmps.getD 24 undef = .slice (some ⟨o, p, none⟩) r r := hnew 0 _ 24 rfl rfl (hdep ⟨0, .data⟩ (by simp) rfl) (by simp)
        have t27 : a'.tmps.getD 27 undef = .int .i64 (m : Int) := hnew 3 _ 27 rfl rfl (hdep ⟨3, .data⟩ (by simp) rfl) (by simp)
        rw [worD_other L (by decide) (by decide)] at hK
        refine in_value hoi rfl (by intro c h; cases h) (fun _ _ => trivial) ?_ (hK q0)
        have hmrN : m ≤ r := by omega
        simp [execOp, Act.eval, t24, t27, go_sem, hmrN, ← hS']
      · have h5 := unlisted hnl
        have t28 : a'.tmps.getD 28 undef = S' := hnew 4 _ 28 rfl rfl (hdep ⟨4, .data⟩ (by simp) rfl) (by simp)
        have h3 : L.getD 3 false = true := hcl 4 _ rfl (hdep ⟨4, .data⟩ (by simp) rfl) ⟨3, .data⟩ (by simp) rfl
        rw [worD_both (getD_set_self L (by rw [hs]; decide))] at hK
        rw [worD_first h3 h5]
        refine in_skip hoi rfl (by intro c h; cases h) (fun _ _ => trivial) ?_ (hK q0)
        subst hS'
        simp [execOp, Act.eval, t6, t28, go_sem, stored, q61, f61]
        rw [← e2]
        rfl
    case hend =>
      intro L q hL
      rw [worD_both (hL 5 (by decide))]
      refine Eq.mpr (congrArg (fun T => Exit.then _ _ Exit.normal { tmps := T, defers := _ } (V2.drewN q)) (show wrote _ _ _ _ _ = #[.pointer (some ⟨g, 0, none⟩), .int .i64 (N : Int), undef, undef, .slice none 0 0, .slice (some ⟨o, 0, none⟩) N N, .pointer (some ⟨o + 1, 0, none⟩), .pointer (some ⟨bw, 0, none⟩), .pointer (some ⟨g, 0, none⟩), .bool false, .bool false, .int .i64 (N : Int), .bool (decide ((N : Int) < 1)), .bool (decide ((N : Int) < 1)), .bool (decide ((N : Int) < 1)), .int .i64 (N : Int), .bool (decide (65536 < (N : Int))), .bool (decide ((N : Int) < 1) || decide (65536 < (N : Int))), .int .i64 (N : Int), .slice (some ⟨o, 0, none⟩) N N, .slice (some ⟨o, 0, none⟩) N N, .pointer (some ⟨g, 0, none⟩), .func (.func 71) #[] #[.pointer (some ⟨o + 2, 0, none⟩)], .agg (x.map W8).toArray, .slice (some ⟨o, p, none⟩) r r, .slice (some ⟨o, p, none⟩) r r, .slice (some ⟨bw, 0, none⟩) 32 32, .int .i64 (m : Int), S', undef, undef, undef, undef, undef, undef, undef, undef, undef, undef, undef, undef, undef] by rfl)) ?_
      dsimp only
      have hoV : OnlyV W V2 o ∨ True := .inr trivial
      have hO1 := HO1.out
      have hw3 := HO.out
      have kf : KeepsFrom W3.heap.size W (V2.drewN q) := by
        rw [← e2]
        exact KeepsFrom.trans (⟨hO1.size, fun k ob hk hh _ => (hO1.block k (Array.getElem?_eq_some_iff.1 hh).1 (fun e => by injection e; omega)).trans hh⟩ : KeepsFrom W3.heap.size W V1) (((KeepsOthers.setCell V1 ⟨o + 1, 0, none⟩ S').from _).trans ⟨Nat.le_refl _, fun _ _ _ h _ => h⟩)
      have hkp : KpS [1, 4, g, o + 2] W (V2.drewN q) := by
        rw [← e2]
        refine ⟨by have := hO1.size; simpa [World.setCell] using this, fun k hk => ?_⟩
        have hko : k ≠ o ∧ k ≠ o + 1 ∧ k < W.heap.size := by
          simp only [List.mem_cons, List.not_mem_nil, or_false] at hk
          have := HI2.out.size
          have := HBW.out
          have := HG.out.2.1
          rcases hk with rfl | rfl | rfl | rfl <;> omega
        exact (Below.heap_setCell V1 ⟨o + 1, 0, none⟩ S' k (by show k ≠ o + 1; exact hko.2.1)).trans (hO1.block k hko.2.2 (fun e => by injection e; omega))
      have hX6 : BxE (o + 1) S' (V2.drewN q) := HQ62.out
      have hrw : RowV 5 (V2.drewN q) o ((seqL (fun i => vIter key val (i + 1)) j).map W8 ++ (xs ++ List.replicate (r - m) (W8 0))) := by
        have h := HROW1.out.far (p := ⟨o + 1, 0, none⟩) (by show o ≠ o + 1; omega) S'
        rw [e2] at h
        exact h
      have hdd : DrbgR (V2.drewN q) g key (vIter key val (j + 1)) calls := by
        have h := HD1.out
        refine ⟨h.hk, h.hv, ?_⟩
        have h2 := h.row.far (p := ⟨o + 1, 0, none⟩) (by show g ≠ o + 1; omega) S'
        rw [e2] at h2
        exact h2
      have hoo : OnlyV w (V2.drewN q) g := by
        have h := (HI2.out.new' hO1 (by omega)).new' ((OnlyV.refl V1 (o + 1)).set 0 S') (by omega)
        rw [e2] at h
        exact h.drewN q
      obtain ⟨U, eU⟩ : ∃ U, V2.drewN q = U := ⟨_, rfl⟩
      rw [eU] at kf hkp hX6 hrw hdd hoo ⊢
      have KF := Lib.hid kf
      have KP := Lib.hid hkp
      have RW := Lib.hid hrw
      have DD := Lib.hid hdd
      have OO := Lib.hid hoo
      have X6 := Lib.hid hX6
      have u6 := hX6.1
      clear kf hkp hrw hdd hoo hoV hO1 hw3 hX6 eU e2 q6 f6 q61 f61 hcp hL q62
      by_cases hfin : r ≤ 32
      · have hmr : m = r := by have := HM.out; omega
        have hSf : S' = .slice (some ⟨o, p, none⟩) 0 0 := by rw [← hS', if_pos hmr.symm, hmr, Nat.sub_self]
        have HSF := Lib.hid hSf
        rw [hSf] at u6
        have HMR := Lib.hid hmr
        clear hS' hSf hmr
        gi_wp2
        refine ⟨KF.out, rfl, ?_, OO.out, ?_, ?_⟩
        · rw [List.length_append, List.length_singleton, HJ.out]
          have := HP.out
          have := HR.out
          omega
        · have h := RW.out
          have hf : bytesL key val N = seqL (fun i => vIter key val (i + 1)) j ++ x.take m := by
            rw [bytesL, ← fillL_eq _ 32 (fun i => vIter_length _ _ (by have := HD.out.hv; exact this) _) (by decide) N (j + 1) (by have := HP.out; have := HR.out; omega), seqL, List.take_append, List.take_of_length_le (by rw [HXS.out.2.2.1]; have := HR.out; omega), HXS.out.2.2.1]
            rw [show N - p = m by have := HR.out; have := HMR.out; omega, ← HXX.out]
          rw [hf, List.map_append, List.map_take, HXS.out.1]
          rw [show r - m = 0 by have := HMR.out; omega] at h
          simpa using h
        · rw [List.length_append, List.length_singleton, HJ.out]
          exact DD.out
      · have hm32 : m = 32 := by have := HM.out; omega
        obtain ⟨r2, hr2⟩ : ∃ r2, r - 32 = r2 := ⟨_, rfl⟩
        have hSf : S' = .slice (some ⟨o, p + 32, none⟩) r2 r2 := by rw [← hS', hm32, if_neg (by omega), hr2]
        have HSF := Lib.hid hSf
        rw [hSf] at u6
        have HM2 := Lib.hid (⟨hm32, hr2, by omega⟩ : m = 32 ∧ r - 32 = r2 ∧ 0 < r2)
        have hr2I : ¬ (r2 : Int) = 0 := by omega
        clear hS' hSf hm32 hr2
        gi_wp2
        refine ⟨KF.out, KP.out, ?_, OO.out, ?_, ?_⟩
        · rw [List.length_append, List.length_singleton, HJ.out]
          have := HP.out
          have := HR.out
          omega
        · rw [List.length_append, List.length_singleton, HJ.out, seqL, List.map_append, List.map_append, List.map_replicate, ← HXX.out, List.append_assoc]
          have h := RW.out
          rw [← HXS.out.1, HM2.out.1, List.take_of_length_le (by rw [HXS.out.2.2.2]; exact Nat.le_refl _)] at h
          rw [show N - 32 * (j + 1) = r - 32 by have := HP.out; have := HR.out; omega]
          exact h
        · rw [List.length_append, List.length_singleton, HJ.out]
          have h := X6.out
          rw [HSF.out] at h
          rw [show 32 * (j + 1) = p + 32 by have := HP.out; omega, show N - (p + 32) = r2 by have := HP.out; have := HR.out; have := HM2.out; omega]
          exact h
  case done =>
    intro D xs W _ h
    exact h.elim
  case stop =>
    rintro D c pre W hD _ ⟨rfl, hl, hO, hrow, hdr⟩ hK
    have hsw := HO.out
    have hDl := (Array.getElem?_eq_some_iff.1 hK).1
    have hu := dupdate_any W g hg1 (key, vIter key val pre.length) calls hdr (HG.out.1.only hO hg1) (HG.out.2.only hO hg1) 0 none 0 0 [] (SlV.nil _ _ _ (by decide)) (fun _ => rfl) (Nat.zero_le _) (by decide)
    rw [show updL (key, vIter key val pre.length) [] = bytesS key val N by rw [bytesS, hl]] at hu
    obtain ⟨kv, hkv⟩ : ∃ kv, bytesS key val N = kv := ⟨_, rfl⟩
    rw [hkv] at hu
    have HU := Lib.hid hu
    have HOO := Lib.hid hO
    have HRW := Lib.hid hrow
    have HKV := Lib.hid hkv
    clear hu hO hrow hdr hl hkv
    gi_wp2_with fail
    refine ⟨trivial, (callsIn_wide.2 HU.out).mono ?_⟩
    rintro e W4 ⟨rfl, hd4, ho4⟩
    have c64 : W4.cell? ⟨g, 64, none⟩ = some (.int .i64 calls) := hd4.calls_
    have f64 := hd4.row.frozen 64
    obtain ⟨W5, e5⟩ : ∃ U, W4.setCell ⟨g, 64, none⟩ (.int .i64 (calls + 1)) = U := ⟨_, rfl⟩
    have hd5 : DrbgR W5 g kv.1 kv.2 (calls + 1) := by rw [← e5]; exact hd4.putCalls _
    have ho5 : OnlyV W W5 g := by rw [← e5]; exact ho4.set 64 _
    have hK5 : W5.heap[D]? = some (.deferred (some [])) := (ho5.block D hDl (fun e => by injection e; omega)).trans hK
    have hr5 : RowV 5 W5 o ((bytesL key val N).map W8) := HRW.out.only ho5 (by omega)
    have hO5 := HOO.out.trans ho5
    have HD5 := Lib.hid hd5
    have HR5 := Lib.hid hr5
    have HO5 := Lib.hid hO5
    have HD9 := Lib.hid (show o ≤ D ∧ D < W5.heap.size from ⟨by omega, (Array.getElem?_eq_some_iff.1 hK5).1⟩)
    clear hd4 ho4 hd5 ho5 hr5 hO5
    gi_wp2
    refine ⟨by simp, .inl ⟨_, _, rfl, run_takeDeferred hK5, ?_⟩⟩
    have hgr := grownBy_putObj' W5 D (.deferred none)
    have hnc : ∀ r, some D = some r → ∃ ob : Obj, W5.heap[r]? = some ob ∧ ob.isCells = false := fun r e => by cases e; exact ⟨_, hK5, rfl⟩
    refine ⟨.slice (some ⟨o, 0, none⟩) N N, by simp [results, Tryd.f15, go_sem], o, rfl, Nat.le_of_eq hsw, HR5.out.kept hgr hnc, ?_, HO5.out.grown hgr (fun r e => by cases e; have := HD9.out; omega)⟩
    rw [HKV.out]
    exact HD5.out.kept hgr hnc
end Go.Proofs.YtnpaidieijlkkaaDoor

/- baileyref4: Bytes. -/
set_option linter.unusedVariables false
set_option linter.unusedSimpArgs false
namespace Go.Proofs.YtnpaidieijlkkaaDoor
open Go.RowKit Go.Shelf

theorem SlV.grown_ {w w' : World} {n c : Nat} {A : Option Addr} {vs : List Value} {row : Option Nat} (h : SlV w w.heap.size A n c vs) (hg : w.grownBy w' row) (hp : ∀ b off s, A = some ⟨b, off, s⟩ → row ≠ some b) : SlV w' w'.heap.size A n c vs :=
  ⟨h.1, h.2.1, h.2.2.1, fun hn => by
    obtain ⟨b, off, e, hlt, hc⟩ := h.2.2.2 hn
    refine ⟨b, off, e, Nat.lt_of_lt_of_le hlt hg.size, fun k v hv => ?_⟩
    have h1 := hc k v hv
    have h2 := hg.block b hlt (fun e2 => hp b off none e e2.symm)
    unfold World.cell? at h1 ⊢
    simp only [h2]
    exact h1⟩
theorem R4R.grown_ {w w' : World} {g : Nat} {key val : List (BitVec 8)} {n : Int} {Ak Av : Option Addr} {ck cv : Nat} {row : Option Nat} (h : R4R w g key val n Ak Av ck cv) (hg : w.grownBy w' row) (h1 : row ≠ some g) (h2 : ∀ b off s, Ak = some ⟨b, off, s⟩ → row ≠ some b) (h3 : ∀ b off s, Av = some ⟨b, off, s⟩ → row ≠ some b) : R4R w' g key val n Ak Av ck cv :=
  ⟨h.hk, h.hv, (hg.block g h.row.lt (fun e => h1 e.symm)).trans h.row, h.ks.grown_ hg h2, h.vs.grown_ hg h3, h.kg, h.vg⟩
theorem R4R.setN {w : World} {g : Nat} {key val : List (BitVec 8)} {n : Int} {Ak Av : Option Addr} {ck cv : Nat} (h : R4R w g key val n Ak Av ck cv) (m : Int) : R4R (w.setCell ⟨g, 2, none⟩ (.int .i64 m)) g key val m Ak Av ck cv :=
  have ho : OnlyV w (w.setCell ⟨g, 2, none⟩ (.int .i64 m)) g := (OnlyV.refl w g).set 2 _
  ⟨h.hk, h.hv, h.row.set 2 (.int .i64 m), h.ks.onlyG ho h.kg, h.vs.onlyG ho h.vg, h.kg, h.vg⟩
set_option maxRecDepth 100000 in
set_option maxHeartbeats 8000000 in
theorem r4bytes_any (w : World) (g : Nat) (key val : List (BitVec 8)) (N : Int) (hN0 : 0 ≤ N) (hN1 : N ≤ 1000000) (Ak Av : Option Addr) (ck cv : Nat) (h : R4R w g key val N Ak Av ck cv) (M : Nat) (hM1 : 1 ≤ M) (hM2 : M ≤ 65536) :
    Calls Tryd.prog 14 #[.pointer (some ⟨g, 0, none⟩), .int .i64 (M : Int)] w fun e w' => ∃ v, e = .returned v ∧ FreshV w' w.heap.size v (bytesL key val M) ∧ R4E w.heap.size w' g (bytesS key val M).1 (bytesS key val M).2 (N + 1) ∧ OnlyV w w' g := by
  obtain ⟨b0, hb0⟩ : ∃ b, w.heap.size = b := ⟨_, rfl⟩
  have kM1 : (1 : Int) ≤ M := by omega
  have kM2 : (M : Int) ≤ 65536 := by omega
  have hgb : g < b0 := by have := h.row.lt; omega
  have hkb : ∀ b off s, Ak = some ⟨b, off, s⟩ → b < b0 := fun b off s e => by
    obtain ⟨b', o', _, e', hlt, _⟩ := h.ks.at_ (k := 0) (by decide)
    rw [e] at e'
    injection e' with e'
    injection e' with e1
    omega
  have HKB := Lib.hid hkb
  have HB0 := Lib.hid hb0
  have HR := Lib.hid h
  clear h hb0 hkb
  go_enter Tryd.func14, Tryd.ntmps14
  go_wp2
  go_loopw [5] (fun v V => ∃ (i Ln cb cvi : Nat) (Ab Avi : Option Addr), v = .slice Ab Ln cb ∧ Ln = 32 * i ∧ Ln < M + 32 ∧ Hid (V.ownsRow b0 5 1 (.slice Ab Ln cb) Ln ((seqL (fun i => vIter key val (i + 1)) i).map W8)) ∧ Hid (R4R V g key (vIter key val i) N Ak Avi ck cvi) ∧ Hid (OnlyV w V g) ∧ Hid (∀ b off s, Avi = some ⟨b, off, s⟩ → (Value.slice Ab Ln cb).ownBlock ≠ some b)) (fun v _ => M + 64 - (match v with | .slice _ Ln _ => Ln | _ => 0))
  case atStart => exact ⟨0, 0, 0, cv, none, Av, rfl, rfl, by omega, Lib.hid ⟨rfl, .inl ⟨rfl, rfl⟩⟩, HR, Lib.hid (OnlyV.refl _ _), Lib.hid (fun _ _ _ _ e => by cases e)⟩
  case round =>
    obtain ⟨i, Ln, cb, cvi, Ab, Avi, rfl, hLi, hLM, HOWN, HRi, HO, HNE⟩ := hrel
    obtain ⟨w2, rfl⟩ : ∃ V, V = wr := ⟨_, rfl⟩
    have hsz2 := HO.out.size
    have hsz2b : b0 ≤ w2.heap.size := by have := HB0.out; omega
    obtain ⟨vi, hvi⟩ : ∃ l, vIter key val i = l := ⟨_, rfl⟩
    have hvs : vIter key val (i + 1) = stepL key vi := by rw [← hvi]; rfl
    have HVS := Lib.hid hvs
    have HVI := Lib.hid hvi
    have HLI := Lib.hid hLi
    rw [hvi] at HRi
    clear hvs hvi hLi
    by_cases hLt : Ln < M
    · have kLt : (Ln : Int) < M := by omega
      obtain ⟨gm, hgm⟩ : ∃ x, x = w2.heap.size := ⟨_, rfl⟩
      have HGM := Lib.hid hgm
      clear hgm
      have hmx : Tryd.prog.follows .mixedOrders = true := by kernel_rfl
      have hgl := HRi.out.row.lt
      go_wp2_with fail
      refine (wpIn_wide (n := 9)).1 (wpIn_region_chainM (β := Value) rfl hmx (fun v => [(16, (.pointer (some ⟨g, 0, none⟩) : Value)), (17, (.pointer (some ⟨g, 0, none⟩))), (18, (.pointer (some ⟨g, 0, none⟩))), (19, (.pointer (some ⟨g, 0, none⟩))), (20, (.slice Ak 32 ck)), (21, (.pointer (some ⟨g, 0, none⟩))), (22, (.pointer (some ⟨g, 0, none⟩))), (23, (.pointer (some ⟨g, 1, none⟩))), (24, (.slice Avi 32 cvi)), (25, (.slice (some ⟨gm, 0, none⟩) 1 1)), (26, (v)), (27, (.pointer (some ⟨g, 0, none⟩))), (28, (.pointer (some ⟨g, 1, none⟩)))]) (fun _ => []) [16, 17, 18, 19, 20, 21, 22, 23, 24, 25, 26, 27, 28] [] (fun _ => rfl) (fun _ => rfl) (by kernel_rfl) (by kernel_rfl) (by kernel_rfl) (by kernel_rfl) (by first | rfl | simp) 9 5 rfl (by kernel_rfl) (by kernel_rfl)
        (fun L k v V => (k = 0 → ∃ q, V = w2.drewN q) ∧ (k = 1 → ∃ q, V = (w2.alloc (.cells #[.slice Avi 32 cvi] 22)).drewN q) ∧ (2 ≤ k ∧ k < 5 → FreshV V w2.heap.size v (stepL key vi) ∧ Below w2.heap.size w2 V) ∧ (k = 5 → (∀ i, i < 9 → L.getD i false = true) ∧ FreshV V w2.heap.size v (stepL key vi) ∧ OnlyV w2 V g ∧ RowV 66 V g [.slice Ak 32 ck, v, .int .i64 N])) ?hRA undef ?h0A ?hopsA ?htailA ?hendA)
      case hRA =>
        rintro L k v V q ⟨q1, q2, q3, q5⟩
        exact ⟨fun e => by obtain ⟨x, hx⟩ := q1 e; exact ⟨x + q, by rw [hx, World.drewN_drewN]⟩, fun e => by obtain ⟨x, hx⟩ := q2 e; exact ⟨x + q, by rw [hx, World.drewN_drewN]⟩, fun e => ⟨(q3 e).1, below_drewN (q3 e).2 q⟩, fun e => ⟨(q5 e).1, (q5 e).2.1, (q5 e).2.2.1.drewN q, (q5 e).2.2.2⟩⟩
      case h0A => exact ⟨fun _ => ⟨0, rfl⟩, fun e => by omega, fun e => by omega, fun e => by omega⟩
      case hopsA =>
        rintro m o L k v V his hk hLi hLs ⟨q1, q2, q3, q5⟩ ho
        have hk5 : k ≠ 5 := fun e => by
          have := (q5 e).1 m his
          rw [hLi] at this
          cases this
        have hB : Below w2.heap.size w2 V := by
          have hk3 : k = 0 ∨ k = 1 ∨ (2 ≤ k ∧ k < 5) := by omega
          rcases hk3 with rfl | rfl | h2
          · obtain ⟨x, rfl⟩ := q1 rfl
            exact below_drewN (Below.refl _ _) x
          · obtain ⟨x, rfl⟩ := q2 rfl
            exact below_drewN ((Below.refl _ _).alloc (Nat.le_refl _) _) x
          · exact (q3 h2).2
        have hrow := HRi.out.row.later hB
        have hc0 := hrow.at_ (i := 0) rfl
        have hc1 := hrow.at_ (i := 1) rfl
        have hR' : ∀ L2 : Array Bool, (k = 0 → ∃ q, V = w2.drewN q) ∧ (k = 1 → ∃ q, V = (w2.alloc (.cells #[.slice Avi 32 cvi] 22)).drewN q) ∧ (2 ≤ k ∧ k < 5 → FreshV V w2.heap.size v (stepL key vi) ∧ Below w2.heap.size w2 V) ∧ (k = 5 → (∀ i, i < 9 → L2.getD i false = true) ∧ FreshV V w2.heap.size v (stepL key vi) ∧ OnlyV w2 V g ∧ RowV 66 V g [.slice Ak 32 ck, v, .int .i64 N]) := fun L2 => ⟨q1, q2, q3, fun e => absurd e hk5⟩
        clear q1 q2 q3 q5 hrow hk5 hB
        have hi2 : m = 0 ∨ m = 1 ∨ m = 2 ∨ m = 3 ∨ m = 4 ∨ m = 5 ∨ m = 6 ∨ m = 7 ∨ m = 8 := by omega
        rcases hi2 with rfl | rfl | rfl | rfl | rfl | rfl | rfl | rfl | rfl
        · have ho' := ho
          simp only [List.getElem?_toArray, List.getElem?_cons_zero, List.getElem?_cons_succ, Option.some.injEq] at ho'
          subst ho'
          refine ⟨(by intro c h; cases h), fun _ _ => trivial, .inl ⟨V, ?_, hR' _⟩⟩
          first | (simp [execOp, evP, valP, Act.eval, List.lookup_cons]; done) | (simp [execOp, evP, valP, Act.eval, List.lookup_cons, go_sem, hc0, hc1]; done)
        · have ho' := ho
          simp only [List.getElem?_toArray, List.getElem?_cons_zero, List.getElem?_cons_succ, Option.some.injEq] at ho'
          subst ho'
          refine ⟨(by intro c h; cases h), fun _ _ => trivial, .inl ⟨V, ?_, hR' _⟩⟩
          first | (simp [execOp, evP, valP, Act.eval, List.lookup_cons]; done) | (simp [execOp, evP, valP, Act.eval, List.lookup_cons, go_sem, hc0, hc1]; done)
        · have ho' := ho
          simp only [List.getElem?_toArray, List.getElem?_cons_zero, List.getElem?_cons_succ, Option.some.injEq] at ho'
          subst ho'
          refine ⟨(by intro c h; cases h), fun _ _ => trivial, .inl ⟨V, ?_, hR' _⟩⟩
          first | (simp [execOp, evP, valP, Act.eval, List.lookup_cons]; done) | (simp [execOp, evP, valP, Act.eval, List.lookup_cons, go_sem, hc0, hc1]; done)
        · have ho' := ho
          simp only [List.getElem?_toArray, List.getElem?_cons_zero, List.getElem?_cons_succ, Option.some.injEq] at ho'
          subst ho'
          refine ⟨(by intro c h; cases h), fun _ _ => trivial, .inl ⟨V, ?_, hR' _⟩⟩
          first | (simp [execOp, evP, valP, Act.eval, List.lookup_cons]; done) | (simp [execOp, evP, valP, Act.eval, List.lookup_cons, go_sem, hc0, hc1]; done)
        · have ho' := ho
          simp only [List.getElem?_toArray, List.getElem?_cons_zero, List.getElem?_cons_succ, Option.some.injEq] at ho'
          subst ho'
          refine ⟨(by intro c h; cases h), fun _ _ => trivial, .inl ⟨V, ?_, hR' _⟩⟩
          first | (simp [execOp, evP, valP, Act.eval, List.lookup_cons]; done) | (simp [execOp, evP, valP, Act.eval, List.lookup_cons, go_sem, hc0, hc1]; done)
        · have ho' := ho
          simp only [List.getElem?_toArray, List.getElem?_cons_zero, List.getElem?_cons_succ, Option.some.injEq] at ho'
          subst ho'
          refine ⟨(by intro c h; cases h), fun _ _ => trivial, .inl ⟨V, ?_, hR' _⟩⟩
          first | (simp [execOp, evP, valP, Act.eval, List.lookup_cons]; done) | (simp [execOp, evP, valP, Act.eval, List.lookup_cons, go_sem, hc0, hc1]; done)
        · have ho' := ho
          simp only [List.getElem?_toArray, List.getElem?_cons_zero, List.getElem?_cons_succ, Option.some.injEq] at ho'
          subst ho'
          refine ⟨(by intro c h; cases h), fun _ _ => trivial, .inl ⟨V, ?_, hR' _⟩⟩
          first | (simp [execOp, evP, valP, Act.eval, List.lookup_cons]; done) | (simp [execOp, evP, valP, Act.eval, List.lookup_cons, go_sem, hc0, hc1]; done)
        · have ho' := ho
          simp only [List.getElem?_toArray, List.getElem?_cons_zero, List.getElem?_cons_succ, Option.some.injEq] at ho'
          subst ho'
          refine ⟨(by intro c h; cases h), fun _ _ => trivial, .inl ⟨V, ?_, hR' _⟩⟩
          first | (simp [execOp, evP, valP, Act.eval, List.lookup_cons]; done) | (simp [execOp, evP, valP, Act.eval, List.lookup_cons, go_sem, hc0, hc1]; done)
        · have ho' := ho
          simp only [List.getElem?_toArray, List.getElem?_cons_zero, List.getElem?_cons_succ, Option.some.injEq] at ho'
          subst ho'
          refine ⟨(by intro c h; cases h), fun _ _ => trivial, .inl ⟨V, ?_, hR' _⟩⟩
          first | (simp [execOp, evP, valP, Act.eval, List.lookup_cons]; done) | (simp [execOp, evP, valP, Act.eval, List.lookup_cons, go_sem, hc0, hc1]; done)
      case htailA =>
        rintro L k v V o hk hLs ⟨q1, q2, q3, q5⟩ ho haf
        have hk2 : k = 0 ∨ k = 1 ∨ k = 2 ∨ k = 3 ∨ k = 4 := by omega
        have ho' := ho
        rcases hk2 with rfl | rfl | rfl | rfl | rfl
        · simp only [Nat.add_zero, List.getElem?_toArray, List.getElem?_cons_zero, List.getElem?_cons_succ, Option.some.injEq] at ho'
          subst ho'
          obtain ⟨x, rfl⟩ := q1 rfl
          refine ⟨(by intro c h; cases h), fun _ _ => trivial, .inl ⟨v, (w2.alloc (.cells #[.slice Avi 32 cvi] 22)).drewN x, fun _ _ => rfl, ⟨fun e => by omega, fun _ => ⟨x, rfl⟩, fun e => by omega, fun e => by omega⟩, .inr ?_⟩⟩
          simp [execOp, evP, valP, Act.eval, List.lookup_cons, go_sem]
          exact ⟨HGM.out.symm, rfl⟩
        · simp only [Nat.reduceAdd, List.getElem?_toArray, List.getElem?_cons_zero, List.getElem?_cons_succ, Option.some.injEq] at ho'
          subst ho'
          obtain ⟨x, rfl⟩ := q2 rfl
          have hba : Below w2.heap.size w2 ((w2.alloc (.cells #[.slice Avi 32 cvi] 22)).drewN x) := below_drewN ((Below.refl _ _).alloc (Nat.le_refl _) _) x
          have hrowp : RowV 22 ((w2.alloc (.cells #[.slice Avi 32 cvi] 22)).drewN x) gm [.slice Avi 32 cvi] := by rw [HGM.out]; exact RowV.new w2 22 [.slice Avi 32 cvi]
          have h4 := HRi.out.later hba
          have hsz := hba.size
          have hgp := hrowp.lt
          have hcall := r4hmac_any ((w2.alloc (.cells #[.slice Avi 32 cvi] 22)).drewN x) _ _ 32 _ key h4.ks HRi.out.nn.1 (Nat.le_refl _) (by decide) (some ⟨gm, 0, none⟩) 1 1 [vi] (PartsV.one hrowp h4.vs HRi.out.nn.2 hgp) (by decide) (by have := HRi.out.hv; simp; omega)
          rw [show [vi].flatten = vi by simp] at hcall
          have hcall : Calls Tryd.prog 40 #[.slice Ak 32 ck, .slice (some ⟨gm, 0, none⟩) 1 1] ((w2.alloc (.cells #[.slice Avi 32 cvi] 22)).drewN x) (fun e w' => ∃ v, e = .returned v ∧ FreshV w' ((w2.alloc (.cells #[.slice Avi 32 cvi] 22)).drewN x).heap.size v (stepL key vi) ∧ Below ((w2.alloc (.cells #[.slice Avi 32 cvi] 22)).drewN x).heap.size ((w2.alloc (.cells #[.slice Avi 32 cvi] 22)).drewN x) w') := hcall
          refine ⟨(by intro c h; cases h), fun _ _ => trivial, .inr ⟨40, #[.slice Ak 32 ck, .slice (some ⟨gm, 0, none⟩) 1 1], ?_, (callsIn_wide.2 hcall).mono ?_⟩⟩
          · simp [execOp, evP, valP, Act.eval, List.lookup_cons, go_sem]
          · rintro e W' ⟨v', rfl, hf, hb⟩
            refine ⟨v', rfl, ?_, ⟨fun e => by omega, fun e => by omega, fun _ => ⟨hf.mono_ hsz, hba.trans (hb.mono hsz)⟩, fun e => by omega⟩⟩
            intro j hj
            have hj2 : j < 10 := hj
            have hj4 : j = 0 ∨ j = 1 ∨ j = 2 ∨ j = 3 ∨ j = 4 ∨ j = 5 ∨ j = 6 ∨ j = 7 ∨ j = 8 ∨ j = 9 := by omega
            rcases hj4 with rfl | rfl | rfl | rfl | rfl | rfl | rfl | rfl | rfl | rfl <;> rfl
        · simp only [Nat.reduceAdd, List.getElem?_toArray, List.getElem?_cons_zero, List.getElem?_cons_succ, Option.some.injEq] at ho'
          subst ho'
          refine ⟨(by intro c h; cases h), fun _ _ => trivial, .inl ⟨v, V, fun _ _ => rfl, ⟨fun e => by omega, fun e => by omega, fun _ => q3 (by omega), fun e => by omega⟩, .inr ?_⟩⟩
          simp [execOp, evP, valP, Act.eval, List.lookup_cons, go_sem]
        · simp only [Nat.reduceAdd, List.getElem?_toArray, List.getElem?_cons_zero, List.getElem?_cons_succ, Option.some.injEq] at ho'
          subst ho'
          refine ⟨(by intro c h; cases h), fun _ _ => trivial, .inl ⟨v, V, fun _ _ => rfl, ⟨fun e => by omega, fun e => by omega, fun _ => q3 (by omega), fun e => by omega⟩, .inr ?_⟩⟩
          simp [execOp, evP, valP, Act.eval, List.lookup_cons, go_sem]
        · simp only [Nat.reduceAdd, List.getElem?_toArray, List.getElem?_cons_zero, List.getElem?_cons_succ, Option.some.injEq] at ho'
          subst ho'
          obtain ⟨⟨A', c', rfl, hs', hz', hb'⟩, hB'⟩ := q3 (by omega)
          obtain ⟨lo, hlo⟩ : ∃ x, (stepL key vi).length = x := ⟨_, rfl⟩
          rw [hlo] at hs' ⊢
          have hrow := HRi.out.row.later hB'
          have hfz := hrow.frozen 1
          have hcc := hrow.at_ (i := 1) rfl
          have hO' : OnlyV V (V.setCell ⟨g, 1, none⟩ (.slice A' lo c')) g := (OnlyV.refl V g).set 1 _
          refine ⟨(by intro c h; cases h), fun _ _ => trivial, .inl ⟨.slice A' lo c', V.setCell ⟨g, 1, none⟩ (.slice A' lo c'), fun _ _ => rfl, ⟨fun e => by omega, fun e => by omega, fun e => by omega, fun _ => ⟨?_, ⟨A', c', by rw [hlo], ?_, hz', hb'⟩, (OnlyV.of_below hB' g).trans hO', hrow.set 1 (.slice A' lo c')⟩⟩, .inl ⟨?_, rfl⟩⟩⟩
          · intro m hm
            rw [show 9 + 4 = 13 from rfl, getD_set_other _ (show (13 : Nat) ≠ m by omega)]
            have hi2 : m = 0 ∨ m = 1 ∨ m = 2 ∨ m = 3 ∨ m = 4 ∨ m = 5 ∨ m = 6 ∨ m = 7 ∨ m = 8 := by omega
            rcases hi2 with rfl | rfl | rfl | rfl | rfl | rfl | rfl | rfl | rfl
            · exact haf ⟨0, .phase⟩ (by simp) rfl
            · exact haf ⟨1, .phase⟩ (by simp) rfl
            · exact haf ⟨2, .phase⟩ (by simp) rfl
            · exact haf ⟨3, .phase⟩ (by simp) rfl
            · exact haf ⟨4, .phase⟩ (by simp) rfl
            · exact haf ⟨5, .phase⟩ (by simp) rfl
            · exact haf ⟨6, .phase⟩ (by simp) rfl
            · exact haf ⟨7, .phase⟩ (by simp) rfl
            · exact haf ⟨8, .phase⟩ (by simp) rfl
          · rw [hlo]; exact hs'.onlyG hO' (fun b off s e => by have := hb' _ e; simp at this; omega)
          · simp [execOp, evP, valP, Act.eval, List.lookup_cons, go_sem, hcc, hfz]
      case hendA =>
        rintro v L V hL ⟨_, _, _, q5⟩
        obtain ⟨_, ⟨A', c', rfl, hs', hz', hb'⟩, hO', hr'⟩ := q5 rfl
        rw [stepL_length] at hs' hr'
        rw [stepL_length]
        simp [wrote, valP, Act.put, List.lookup_cons]
        have hR5 : R4R V g key (stepL key vi) N Ak A' ck c' := ⟨HRi.out.hk, stepL_length _ _, hr', HRi.out.ks.onlyG hO' HRi.out.kg, hs', HRi.out.kg, fun b off s e => by have := hb' _ e; simp at this; omega⟩
        obtain ⟨w5, rfl⟩ : ∃ X, X = V := ⟨_, rfl⟩
        have hsz5 := hO'.size
        have hown5 := own_only HOWN.out hO' (fun e => by have := (HOWN.out.lt g e).1; omega)
        have hne5 : ∀ b off s, A' = some ⟨b, off, s⟩ → (Value.slice Ab Ln cb).ownBlock ≠ some b := fun b off s e e2 => by
          have h1 := hb' _ e
          have h2 := (HOWN.out.lt b e2).2
          simp at h1
          omega
        have hvl : ∀ b off s, A' = some ⟨b, off, s⟩ → b < w5.heap.size := fun b off s e => by
          obtain ⟨b', o', _, e', hlt, _⟩ := hs'.at_ (k := 0) (by decide)
          rw [e] at e'
          injection e' with e'
          injection e' with e1
          omega
        have hc1 := hr'.at_ (i := 1) rfl
        obtain ⟨sv, hsv⟩ : ∃ l, stepL key vi = l := ⟨_, rfl⟩
        rw [hsv] at hR5 hs'
        have HSV := Lib.hid hsv
        have HR5 := Lib.hid hR5
        have HS5 := Lib.hid hs'
        have HZ5 := Lib.hid hz'
        have HO5 := Lib.hid (HO.out.trans hO')
        have HOWN5 := Lib.hid hown5
        have HNE5 := Lib.hid hne5
        have HVL := Lib.hid hvl
        clear hR5 hs' hz' hb' hO' hr' hown5 hne5 hvl hsv q5 hgl hL
        go_wp2_with (at_builtin; refine wlv_appA Tryd.elem8 rfl _ _ rfl b0 (.slice Ab Ln cb) Ln _ rfl HOWN5.out A' 32 c' (sv.map W8) rfl HZ5.out w5.heap.size HS5.out (ones8 sv) (by omega) (by omega) ?_; intro v6 w6 hown6 hgr6 hpl6; obtain ⟨A6, c6, rfl, hs6, hz6⟩ := own_all hown6; have HOWN6 := Lib.hid hown6; have HGR6 := Lib.hid hgr6; have HPL6 := Lib.hid hpl6; clear hown6 hgr6 hpl6 hs6 hz6)
        have hbk : ∀ r, (Value.slice Ab Ln cb).ownBlock = some r → b0 ≤ r := fun r e => (HOWN5.out.lt r e).1
        have hR6 := HR5.out.grown_ HGR6.out (fun e => by have := hbk g e; omega) (fun b off s e e2 => by have h1 := hbk b e2; have h2 := HKB.out b off s e; omega) HNE5.out
        have hO6 := HO5.out.grown HGR6.out (fun r e => by have := hbk r e; have := HB0.out; omega)
        have hne6 : ∀ b off s, A' = some ⟨b, off, s⟩ → (Value.slice A6 (Ln + 32) c6).ownBlock ≠ some b := fun b off s e e2 => by
          rcases HPL6.out b e2 with h | h
          · exact HNE5.out b off s e h
          · have := HVL.out b off s e
            omega
        have hown6 := HOWN6.out
        rw [← List.map_append] at hown6
        have hsq : seqL (fun i => vIter key val (i + 1)) i ++ sv = seqL (fun i => vIter key val (i + 1)) (i + 1) := by rw [← HSV.out, ← HVS.out]; rfl
        rw [hsq] at hown6
        have hv6 : vIter key val (i + 1) = sv := by rw [HVS.out, HSV.out]
        rw [← hv6] at hR6
        have HOWN7 := Lib.hid hown6
        have HR7 := Lib.hid hR6
        have HO7 := Lib.hid hO6
        have HNE7 := Lib.hid hne6
        clear hbk hR6 hO6 hne6 hown6 hsq hv6 hc1
        go_wp2
        go_roundw
        case rel => exact ⟨i + 1, Ln + 32, c6, c', A6, A', rfl, by have := HLI.out; omega, by omega, HOWN7, HR7, HO7, HNE7⟩
        case measure => show M + 64 - (Ln + 32) < M + 64 - Ln; omega
    · have kLt : ¬ (Ln : Int) < M := by omega
      have hul := r4update_any w2 g key vi N Ak Avi ck cvi HRi.out 0 none 0 0 [] (SlV.nil _ _ _ (by decide)) (fun _ => rfl) (Nat.zero_le _) (by decide)
      have hi : (M + 31) / 32 = i := by have := HLI.out; omega
      have hS : bytesS key val M = updL (key, vi) [] := by rw [bytesS, hi, HVI.out]
      have hBL : (seqL (fun i => vIter key val (i + 1)) i).take M = bytesL key val M := fillL_eq _ 32 (fun j => vIter_length key val HR.out.hv (j + 1)) (by decide) M i (by have := HLI.out; omega)
      rw [← hS] at hul
      have HU := Lib.hid hul
      have HBL := Lib.hid hBL
      clear hul hi hS hBL
      go_wp2_with fail
      refine HU.out.mono ?_
      rintro e w3 ⟨rfl, ⟨Ak3, Av3, ck3, cv3, hR3, hk3, hv3⟩, hO3⟩
      have hown3 := own_only HOWN.out hO3 (fun e => by have := (HOWN.out.lt g e).1; omega)
      have hc2 := hR3.row.at_ (i := 2) rfl
      have hf2 := hR3.row.frozen 2
      have hRN := hR3.setN (N + 1)
      have hOs : OnlyV w3 (w3.setCell ⟨g, 2, none⟩ (.int .i64 (N + 1))) g := (OnlyV.refl w3 g).set 2 _
      have hOt := (HO.out.trans hO3).trans hOs
      have hownN := own_only hown3 hOs (fun e => by have := (hown3.lt g e).1; omega)
      obtain ⟨gb, cb', rfl1, hb1, hslN⟩ := own_form0 hownN (by omega)
      injection rfl1 with e1 e2 e3
      subst e1
      subst e3
      have hcap : (M : Int) ≤ cb := by have := hslN.cap; omega
      have hMb : M ≤ cb := by omega
      have HRN := Lib.hid hRN
      have HK3 := Lib.hid (show ∀ b off s, Ak3 = some ⟨b, off, s⟩ → w.heap.size ≤ b from fun b off s e => by have := hk3 b off s e; omega)
      have HV3 := Lib.hid (show ∀ b off s, Av3 = some ⟨b, off, s⟩ → w.heap.size ≤ b from fun b off s e => by have := hv3 b off s e; omega)
      clear hk3 hv3
      have HOT := Lib.hid hOt
      have HSLN := Lib.hid hslN
      have HB1 := Lib.hid hb1
      clear hRN hOt hslN hb1 hown3 hownN hOs hR3 hO3 HU
      go_wp2
      go_ret
      refine ⟨_, rfl, ?_, R4E.mk_ HRN.out HK3.out HV3.out, HOT.out⟩
      exact FreshV.take_ HSLN.out (by intro h; cases h) (fun a e => by injection e with e; subst e; show w.heap.size ≤ gb; have := HB0.out; have := HB1.out; omega) M (by omega) HBL.out
end Go.Proofs.YtnpaidieijlkkaaDoor

/- drbg: Reseed, Left, All; no generator. -/
set_option linter.unusedVariables false
set_option linter.unusedSimpArgs false
namespace Go.Proofs.YtnpaidieijlkkaaDoor
open Go.RowKit Go.Shelf
attribute [local go_sem] Oper.semAt_some

theorem dleft_nil (w : World) : Calls Tryd.prog 36 #[.pointer none] w fun e w' => e = .returned (.int .i64 0) ∧ w = w' := by
  go_enter Tryd.func36, Tryd.ntmps36
  go_wp2
  go_ret
  exact ⟨rfl, rfl⟩
theorem dleft_any (w : World) (g : Nat) (key val : List (BitVec 8)) (calls : Int) (h : DrbgR w g key val calls) : Calls Tryd.prog 36 #[.pointer (some ⟨g, 0, none⟩)] w fun e w' => e = .returned (.int .i64 calls) ∧ w = w' := by
  have hc := h.calls_
  clear h
  go_enter Tryd.func36, Tryd.ntmps36
  go_wp2
  go_ret
  exact ⟨rfl, rfl⟩
theorem dbytes_nil (w : World) (n : Int) : Calls Tryd.prog 15 #[.pointer none, .int .i64 n] w fun e w' => e = .returned (.slice none 0 0) ∧ w = w' := by
  go_enter Tryd.func15, Tryd.ntmps15
  go_wp2
  go_ret
  exact ⟨rfl, rfl⟩
theorem dbytes_no (w : World) (g : Nat) (n : Int) (h : n < 1 ∨ 65536 < n) : Calls Tryd.prog 15 #[.pointer (some ⟨g, 0, none⟩), .int .i64 n] w fun e w' => e = .returned (.slice none 0 0) ∧ w = w' := by
  by_cases h1 : n < 1
  · clear h
    go_enter Tryd.func15, Tryd.ntmps15
    go_wp2
    go_ret
    exact ⟨rfl, rfl⟩
  · have h2 : 65536 < n := by omega
    clear h
    go_enter Tryd.func15, Tryd.ntmps15
    go_wp2
    go_ret
    exact ⟨rfl, rfl⟩
theorem dall_any (w : World) (p : Option Addr) : Calls Tryd.prog 13 #[.pointer p] w fun e w' => e = .returned (.func (.func 39) #[] #[.pointer (some ⟨w.heap.size, 0, none⟩)]) ∧ BxE w.heap.size (.pointer p) w' ∧ Below w.heap.size w w' := by
  obtain ⟨W1, e1, hB1, b1, s1⟩ := newBox w 25 (.pointer p)
  have HB := Lib.hid hB1
  have H1 := Lib.hid b1
  clear hB1 b1 s1
  go_enter Tryd.func13, Tryd.ntmps13
  go_wp2
  go_ret
  exact ⟨rfl, H1.out, HB.out⟩
/-- no generator: nothing comes -/
theorem all1_nil (nn : Nat) (hn : 1 ≤ nn) (w : World) (bx : Nat) (hb : BxE bx (.pointer none) w) (Kp : World → World → Prop) :
    SeqP Fence.wide nn Tryd.prog 39 #[.pointer (some ⟨bx, 0, none⟩)] (fun x : BitVec 8 => #[W8 x]) (fun _ _ _ => True) Kp (fun xs => xs = []) (fun _ => False) 0 w := by
  intro l J Jx W hW hJ hJx hY h0
  have c1 := (hb.later hW).1
  clear hY hb
  refine callsIn_of_wp Tryd.func39 rfl trivial ?_ rfl
  simp only [Tryd.ntmps39, List.size_toArray, List.length_cons, List.length_nil, Nat.reduceAdd, Nat.reduceSub, Array.replicate_succ, Array.replicate_zero, List.push_toArray, List.append_toArray, List.nil_append, List.cons_append]
  gi_wp2
  refine bodyPost_ret (results_none rfl _ _ _) rfl ?_
  exact ⟨⟨_, rfl⟩, .inl ⟨[], rfl, h0⟩⟩
end Go.Proofs.YtnpaidieijlkkaaDoor

/- drbg: All's own function, as an iterator. -/
set_option linter.unusedVariables false
set_option linter.unusedSimpArgs false
namespace Go.Proofs.YtnpaidieijlkkaaDoor
open Go.RowKit Go.Shelf

/-- the generator after j times Bytes(1) -/
def stD (key val : List (BitVec 8)) : Nat → List (BitVec 8) × List (BitVec 8)
  | 0 => (key, val)
  | j + 1 => bytesS (stD key val j).1 (stD key val j).2 1
/-- the byte that it then hands out -/
def oneD (key val : List (BitVec 8)) (j : Nat) : BitVec 8 := (bytesL (stD key val j).1 (stD key val j).2 1).getD 0 0
abbrev encO : BitVec 8 → Array Value := fun x => #[W8 x]
def AlR (g : Nat) (key val : List (BitVec 8)) (calls : Int) (pre : List (BitVec 8)) (x : BitVec 8) (W : World) : Prop :=
  x = oneD key val pre.length ∧ DrbgR W g (stD key val (pre.length + 1)).1 (stD key val (pre.length + 1)).2 (calls + pre.length + 1)
theorem AlR.own (g : Nat) (key val : List (BitVec 8)) (calls : Int) (B : Nat) (pre : List (BitVec 8)) : OwnFrom B (AlR g key val calls pre) := fun s W W' row hs hg hr => ⟨hs.1, hs.2.kept hg (fun r e => (hr r e).2)⟩
/-- ahead of a round: m rounds at most are to come -/
def AlI (g bx : Nat) (key val : List (BitVec 8)) (calls : Int) (N : Nat) (J : List (BitVec 8) → World → Prop) (wr : World) (m : Nat) : Prop :=
  ∃ pre : List (BitVec 8), pre.length + m = N ∧ DrbgR wr g (stD key val pre.length).1 (stD key val pre.length).2 (calls + pre.length) ∧ BxE bx (.pointer (some ⟨g, 0, none⟩)) wr ∧ StartsG wr ∧ RootsG wr ∧ J pre wr
set_option maxRecDepth 100000 in
set_option maxHeartbeats 2000000 in
theorem all1_in (nn : Nat) (hn : 1 ≤ nn) (w : World) (g bx : Nat) (hg1 : 4 < g) (hbg : bx ≠ g) (hbx1 : 4 < bx) (key val : List (BitVec 8)) (calls : Int) (hc0 : 0 ≤ calls) (h : DrbgR w g key val calls) (hb : BxE bx (.pointer (some ⟨g, 0, none⟩)) w) (hGS : StartsG w) (hGR : RootsG w) (N : Nat) (hN : 1 ≤ N) (hcN : calls + N ≤ 1000000) :
    SeqM Fence.wide nn Tryd.prog 39 #[.pointer (some ⟨bx, 0, none⟩)] encO (AlR g key val calls) (KpS [1, 4, g, bx]) (fun _ => False) (fun _ => True) N g w := by
  intro l J Jx W hW hJ hJx hJg hJN hY h0
  have hbl := hb.2.2
  have hgl := h.row.lt
  have hd0 : DrbgR W g (stD key val 0).1 (stD key val 0).2 (calls + (0 : Nat)) := by
    have := h.later hW
    rw [show calls + ((0 : Nat) : Int) = calls by omega]
    exact this
  have H0 := Lib.hid (⟨hd0, hb.later hW, hGS.later hW, hGR.later hW⟩ : DrbgR W g (stD key val 0).1 (stD key val 0).2 (calls + (0 : Nat)) ∧ BxE bx (.pointer (some ⟨g, 0, none⟩)) W ∧ StartsG W ∧ RootsG W)
  have q0 := (hb.later hW).1
  have HY := Lib.hid hY
  have HJN := Lib.hid hJN
  have HJG := Lib.hid hJg
  have hWs := hW.size
  clear hY h hb hGS hGR hJN hJg hd0
  refine callsIn_of_wp Tryd.func39 rfl trivial ?_ rfl
  simp only [Tryd.ntmps39, List.size_toArray, List.length_cons, List.length_nil, Nat.reduceAdd, Nat.reduceSub, Array.replicate_succ, Array.replicate_zero, List.push_toArray, List.append_toArray, List.nil_append, List.cons_append]
  gi_wp2
  gi_loopw [] (fun wr => ∃ m, AlI g bx key val calls N J wr m) (fun wr => leastOf (AlI g bx key val calls N J wr))
  case atStart => exact ⟨N, [], by simp, H0.out.1, H0.out.2.1, H0.out.2.2.1, H0.out.2.2.2, h0⟩
  case round =>
    obtain ⟨m, hm⟩ : ∃ m, m = leastOf (AlI g bx key val calls N J wr) := ⟨_, rfl⟩
    have hms := (leastOf_spec hrel).1
    rw [← hm] at hms ⊢
    have HMM := Lib.hid hm
    clear hrel hm
    obtain ⟨pre, hpl, hd, hb, hS, hR, hJp⟩ := hms
    have hst := dbytes_any wr g hg1 _ _ (calls + pre.length) (by omega) (by omega) hd hS hR 1 (by decide) (by decide)
    have HST := Lib.hid hst
    have q1 := hb.1
    have HD := Lib.hid (⟨hb, hS, hR⟩ : BxE bx (.pointer (some ⟨g, 0, none⟩)) wr ∧ StartsG wr ∧ RootsG wr)
    have HPL := Lib.hid hpl
    clear hst hd hb hS hR hpl
    gi_wp2_with fail
    refine ⟨trivial, (callsIn_wide.2 HST.out).mono ?_⟩
    rintro e w1 ⟨o, rfl, ho, hro, hd1, ho1⟩
    have hJ1 := HJG.out pre wr w1 hJp ho1
    have hb1 := HD.out.1.block ho1.size (ho1.block bx HD.out.1.2.2 (by intro e; injection e; omega))
    have hlt := HJN.out pre w1 hJ1
    have hone : w1.cell? ⟨o, 0, none⟩ = some (W8 (oneD key val pre.length)) := hro.at_ (by
      have hl : (bytesL (stD key val pre.length).1 (stD key val pre.length).2 1).length = 1 := fillL_length _ 32 (fun j => stepL_length _ _) (by decide) 1
      rw [List.getElem?_map, List.getElem?_eq_getElem (by omega)]
      unfold oneD
      rw [List.getD_eq_getElem?_getD, List.getElem?_eq_getElem (by omega)]
      rfl)
    have hd2 : DrbgR w1 g (stD key val (pre.length + 1)).1 (stD key val (pre.length + 1)).2 (calls + pre.length + 1) := hd1
    obtain ⟨x, hx⟩ : ∃ x, oneD key val pre.length = x := ⟨_, rfl⟩
    rw [hx] at hone
    have HX := Lib.hid hx
    have HD1 := Lib.hid (⟨hd2, hb1, HD.out.2.1.only ho1 hg1, HD.out.2.2.only ho1 hg1⟩ : DrbgR w1 g (stD key val (pre.length + 1)).1 (stD key val (pre.length + 1)).2 (calls + pre.length + 1) ∧ BxE bx (.pointer (some ⟨g, 0, none⟩)) w1 ∧ StartsG w1 ∧ RootsG w1)
    have q1' := hb1.1
    obtain ⟨fn, tmps, assign, body, hy, hRd⟩ := HY.out pre x w1 hJ1 ⟨hx.symm, hd2⟩
    dsimp only [encO] at hy
    clear hd1 hd2 ho1 hJp hb1 q1 hx hro ho
    gi_wp2_with fail
    refine hRd.mono ?_
    rintro e W3 (⟨rfl, hJ3, hKp⟩ | ⟨rfl, hJx3⟩)
    · have hnew : AlI g bx key val calls N J W3 (m - 1) := ⟨pre ++ [x], by rw [List.length_append, List.length_singleton]; have := HPL.out; omega, by
          rw [List.length_append, List.length_singleton, show calls + ((pre.length + 1 : Nat) : Int) = calls + pre.length + 1 by omega]
          exact HD1.out.1.drbg' hKp (by simp), HD1.out.2.1.block hKp.1 (hKp.2 bx (by simp)), HD1.out.2.2.1.block hKp.1 (hKp.2 _ (by simp)), HD1.out.2.2.2.block hKp.1 (hKp.2 _ (by simp)), hJ3⟩
      have HNEW := Lib.hid hnew
      have hm1 : m - 1 < m := by have := HPL.out; omega
      have HM1 := Lib.hid hm1
      clear hnew hKp hm1
      gi_wp2
      go_roundw
      case rel => exact ⟨_, HNEW.out⟩
      case measure => exact Nat.lt_of_le_of_lt ((leastOf_spec ⟨_, HNEW.out⟩).2 _ HNEW.out) HM1.out
    · gi_wp2
      refine bodyPost_ret (results_none rfl _ _ _) rfl ?_
      exact ⟨⟨_, rfl⟩, .inr ⟨_, trivial, hJx3⟩⟩
end Go.Proofs.YtnpaidieijlkkaaDoor

/- limb.Cmp. -/
namespace Go.Proofs.YtnpaidieijlkkaaDoor
open Go.RowKit Go.Shelf

set_option maxHeartbeats 400000 in
theorem cmpU_any (x y : Nat) (w : World) :
    Calls Tryd.prog 122 #[.int .u64 x, .int .u64 y] w fun e w' => e = .returned (.int .i64 (ncmp x y)) ∧ w = w' := by
  have hxx : ((x : Int) != x) = false := by simp
  have hyy : ((y : Int) != y) = false := by simp
  rcases Nat.lt_trichotomy x y with h | h | h
  · rw [ncmp_lt h]
    have h1 : (x : Int) < y := by omega
    go_enter Tryd.func122, Tryd.ntmps122
    go_wp2
    go_ret
    exact ⟨rfl, rfl⟩
  · subst h
    rw [ncmp_eq]
    go_enter Tryd.func122, Tryd.ntmps122
    go_wp2
    go_ret
    exact ⟨rfl, rfl⟩
  · rw [ncmp_gt h]
    have h1 : (y : Int) < x := by omega
    go_enter Tryd.func122, Tryd.ntmps122
    go_wp2
    go_ret
    exact ⟨rfl, rfl⟩

theorem cmpI_any (x y : Nat) (w : World) :
    Calls Tryd.prog 120 #[.int .i64 (x : Int), .int .i64 (y : Int)] w fun e w' => e = .returned (.int .i64 (ncmp x y)) ∧ w = w' := by
  refine (Tryd.cmp_Compare_int x y w).mono fun e w' ⟨he, hw⟩ => ⟨?_, hw.symm⟩
  rw [he]
  unfold Lib.compareInt ncmp
  congr 2
  repeat' split
  all_goals first | rfl | omega

attribute [local go_sem] Oper.semAt_some

theorem sl_trim_of {w w' : World} {B m n c : Nat} {A : Option Addr} {xs : List Nat} (h : Sl w B A n c xs) (h' : Sl w' B A m c (trimmed xs)) : Sl w B A m c (trimmed xs) := by
  have e : m = trimL xs n := by rw [h'.len, trimmed_length, h.len]
  subst e
  exact sl_trim h

theorem mem_down {n k i : Nat} {l : List (Ix n)} (h : l.map (·.1) = downL n k) (h1 : n ≤ i + k) (h2 : i < n) : ∃ x ∈ l, x.1 = i := by
  have hm : i ∈ l.map (·.1) := by
    rw [h]
    exact List.mem_map.2 ⟨n - 1 - i, List.mem_range.2 (by omega), by omega⟩
  obtain ⟨x, hx, e⟩ := List.mem_map.1 hm
  exact ⟨x, hx, e⟩

theorem cmp_at {B : Nat} {xs ys : List Nat} {m : Nat} (hd : Dg B xs) (hd2 : Dg B ys) (hl : xs.length = ys.length) (hm : m < xs.length) (hne : xs[m]?.getD 0 ≠ ys[m]?.getD 0) (he : ∀ i, m < i → i < xs.length → xs[i]? = ys[i]?) :
    ncmp (V B xs) (V B ys) = ncmp (xs[m]?.getD 0) (ys[m]?.getD 0) := by
  obtain ⟨x, hx⟩ := get_lt hm
  obtain ⟨y, hy⟩ := get_lt (zs := ys) (k := m) (by omega)
  have hdr : xs.drop (m + 1) = ys.drop (m + 1) := by
    apply List.ext_getElem?
    intro j
    rw [List.getElem?_drop, List.getElem?_drop]
    rcases Nat.lt_or_ge (m + 1 + j) xs.length with h | h
    · exact he _ (by omega) h
    · rw [List.getElem?_eq_none h, List.getElem?_eq_none (by omega)]
  rw [hx, hy] at hne ⊢
  simp only [Option.getD_some] at hne ⊢
  rcases Nat.lt_or_gt_of_ne hne with h | h
  · rw [ncmp_lt h, ncmp_lt (cmp_lt hd hl hx hy hdr h)]
  · rw [ncmp_gt h, ncmp_gt (cmp_lt hd2 hl.symm hy hx hdr.symm h)]

theorem ncmp_ne {a b : Nat} (h : a ≠ b) : (ncmp a b != 0) = true := by
  rcases Nat.lt_or_gt_of_ne h with h | h
  · rw [ncmp_lt h]; decide
  · rw [ncmp_gt h]; decide

set_option maxRecDepth 100000 in
set_option maxHeartbeats 2000000 in
theorem lcmp_any (w : World) (A1 : Option Addr) (n1 c1 : Nat) (xs : List Nat) (hs1 : Sl w w.heap.size A1 n1 c1 xs) (A2 : Option Addr) (n2 c2 : Nat) (ys : List Nat) (hs2 : Sl w w.heap.size A2 n2 c2 ys) (hd : Dg b64 xs) (hd2 : Dg b64 ys) :
    Calls Tryd.prog 93 #[.slice A1 n1 c1, .slice A2 n2 c2] w fun e w' => RetV w (.int .i64 (ncmp (V b64 xs) (V b64 ys))) e w' := by
  have hX := trimmed_nm hd
  have hY := trimmed_nm hd2
  have hs3 := sl_trim hs1
  have hs4 := sl_trim hs2
  refine (callsIn_wide (n := 9)).1 ?_
  refine callsIn_of_wp_marks Tryd.func93 rfl trivial ?_ rfl
  simp only [Tryd.ntmps93, List.size_toArray, List.length_cons, List.length_nil, Nat.reduceAdd, Nat.reduceSub, Array.replicate_succ, Array.replicate_zero, List.push_toArray, List.append_toArray, List.nil_append, List.cons_append]
  gi_wp2_with fail
  refine ⟨trivial, callsIn_wide.2 ((ltrim_sl _ w.heap.size A1 n1 c1 xs (hs1.below ((Below.refl _ _).alloc (Nat.le_refl _) _))).mono ?_)⟩
  rintro e w1 ⟨m1, rfl, h1, hm1, rfl⟩
  gi_wp2_with fail
  refine ⟨trivial, callsIn_wide.2 ((ltrim_sl _ w.heap.size A2 n2 c2 ys (hs2.below ((Below.refl _ _).alloc (Nat.le_refl _) _))).mono ?_)⟩
  rintro e w1 ⟨m2, rfl, h2, hm2, rfl⟩
  gi_wp2_with fail
  refine ⟨trivial, callsIn_wide.2 ((cmpI_any m1 m2 _).mono ?_)⟩
  rintro e w1 ⟨rfl, rfl⟩
  by_cases hne : m1 = m2
  · subst hne
    have e0 : ncmp m1 m1 = 0 := ncmp_eq m1
    rw [e0]
    gi_wp2_with fail
    refine ⟨trivial, (back_in Fence.wide _ trivial rfl _ _ _ _).mono ?_⟩
    rintro e w1 ⟨rfl, rfl⟩
    gi_wp2_with fail
    have HX := Lib.hid hX
    have HY := Lib.hid hY
    have HE := Lib.hid e0
    clear e0 hX hY
    have bR := Boxed.new w 3 (.int .i64 0)
    have bY := Boxed.new (w.alloc (.cells #[.int .i64 0] 3)) 56 (.slice A2 m1 c2)
    have bX := Boxed.new ((w.alloc (.cells #[.int .i64 0] 3)).alloc (.cells #[.slice A2 m1 c2] 56)) 56 (.slice A1 m1 c1)
    have bR2 := (bR.alloc (.cells #[.slice A2 m1 c2] 56)).alloc (.cells #[.slice A1 m1 c1] 56)
    have bY2 := bY.alloc (.cells #[.slice A1 m1 c1] 56)
    have hB0 : Below w.heap.size w (((w.alloc (.cells #[.int .i64 0] 3)).alloc (.cells #[.slice A2 m1 c2] 56)).alloc (.cells #[.slice A1 m1 c1] 56)) := (((Below.refl _ w).alloc (Nat.le_refl _) _).alloc (by simp) _).alloc (by simp; omega) _
    obtain ⟨W0, hW0⟩ : ∃ W0, (((w.alloc (.cells #[.int .i64 0] 3)).alloc (.cells #[.slice A2 m1 c2] 56)).alloc (.cells #[.slice A1 m1 c1] 56)) = W0 := ⟨_, rfl⟩
    have hsz : W0.heap.size = w.heap.size + 3 := by rw [← hW0]; simp
    rw [hW0] at bX bR2 bY2 hB0 ⊢
    simp only [World.size_alloc] at bX bR2 bY2
    have h1' : Sl W0 w.heap.size A1 m1 c1 (trimmed xs) := (sl_trim_of hs1 h1).below hB0
    have h2' : Sl w w.heap.size A2 m1 c2 (trimmed ys) := sl_trim_of hs2 h2
    have HSZ := Lib.hid hsz
    clear hsz hW0 bR bY h1 h2 hs1 hs2 hs3 hs4
    refine wpIn_rangeFunc_ownG rfl (by omega) (gf := 136) (lb := #[.pointer (some ⟨w.heap.size + 1 + 1, 0, none⟩)]) rfl trivial (enters_of Tryd.func136 (by kernel_rfl) rfl)
      (back_stops Fence.wide _ trivial rfl (by omega) (w.heap.size + 1 + 1) w.heap.size m1 c1 A1 (trimmed xs) W0 (by rw [HSZ.out]; omega) (by rw [HSZ.out]; omega) bX.cell h1') KpB.trans (KpB.put (by rw [HSZ.out]; omega) (by rw [HSZ.out]; omega)) (Below.refl _ _) (fun _ => rfl)
      (fun pre W => ((∀ i ∈ pre, (trimmed xs)[i.1]? = (trimmed ys)[i.1]?) ∧ W.cell? ⟨w.heap.size, 0, none⟩ = some (.int .i64 0) ∧ W.frozen? ⟨w.heap.size, 0, none⟩ = false ∧ W.cell? ⟨w.heap.size + 1, 0, none⟩ = some (.slice A2 m1 c2)) ∧ Below w.heap.size w W)
      (fun c pre W => (c = .ret ∧ ∃ ini last, pre = ini ++ [last] ∧ (∀ i ∈ ini, (trimmed xs)[i.1]? = (trimmed ys)[i.1]?) ∧ (trimmed xs)[last.1]?.getD 0 ≠ (trimmed ys)[last.1]?.getD 0 ∧ W.cell? ⟨w.heap.size, 0, none⟩ = some (.int .i64 (ncmp ((trimmed xs)[last.1]?.getD 0) ((trimmed ys)[last.1]?.getD 0)))) ∧ Below w.heap.size w W)
      (OwnFrom.and (Own.from (fun s A B row hs hg hr => ⟨hs.1, cell_kept hs.2.1 hg hr, (frozen_kept hs.2.1 hg hr).trans hs.2.2.1, cell_kept hs.2.2.2 hg hr⟩) _) (ownFrom_below (Nat.le_refl _) (by rw [HSZ.out]; omega)))
      (fun c => OwnFrom.and (Own.from (fun s A B row hs hg hr => by obtain ⟨hc, ini, last, e1, e2, e3, e4⟩ := hs; exact ⟨hc, ini, last, e1, e2, e3, cell_kept e4 hg hr⟩) _) (ownFrom_below (Nat.le_refl _) (by rw [HSZ.out]; omega)))
      ⟨⟨by simp, bR2.cell, bR2.frozen, bY2.cell⟩, hB0⟩
      (fun x => { tmps := #[.slice A1 n1 c1, .slice A2 n2 c2, undef, undef, .pointer (some ⟨w.heap.size, 0, none⟩), .slice A1 m1 c1, .pointer (some ⟨w.heap.size + 1, 0, none⟩), .int .i64 0, .int .i64 (x.1 : Int), .int .u64 (((trimmed xs)[x.1]?.getD 0 : Nat) : Int), undef, .slice A1 n1 c1, .slice A1 m1 c1, .slice A2 n2 c2, .slice A2 m1 c2, .slice A1 m1 c1, .int .i64 (m1 : Int), .slice A2 m1 c2, .int .i64 (m1 : Int), .int .i64 0, .int .i64 0, .bool false, undef, .slice A1 m1 c1, .func (.func 136) #[] #[.pointer (some ⟨w.heap.size + 1 + 1, 0, none⟩)], .int .i64 (x.1 : Int), .int .u64 (((trimmed xs)[x.1]?.getD 0 : Nat) : Int), undef, undef, undef, undef, undef, undef, undef, undef, undef], defers := [] }) ?assign ?body ?done ?stop
    case assign =>
      intro l x W K hK
      gi_wp2
      exact hK
    case body =>
      rintro l pre x W ⟨⟨hp, hcr, hfr, hcy⟩, hB⟩ _
      obtain ⟨i, hi⟩ := x
      obtain ⟨b, off, y, rfl, hb, hy, hc⟩ := (h2'.below hB).at_ hi
      obtain ⟨xv, hxv⟩ : ∃ xv, (trimmed xs)[i]? = some xv := get_lt (by rw [← h1'.len]; exact hi)
      have HI := Lib.hid hp
      have HXV := Lib.hid hxv
      have HYV := Lib.hid hy
      clear hp hy
      dsimp only
      rw [hxv]
      dsimp only [Option.getD_some]
      clear hxv
      have hii : (i : Int) < m1 := by omega
      by_cases hxy : xv = y
      · subst hxy
        have e1 := ncmp_eq xv
        have HE1 := Lib.hid e1
        clear e1
        gi_wp2_with (refine ⟨trivial, ?_⟩; gi_at_call 122; refine (CallsIn.inRound l (callsIn_wide.2 (cmpU_any xv xv W))).mono ?_; rw [HE1.out]; rintro e w' ⟨rfl, rfl⟩)
        exact ⟨KeepsFrom.refl _ _, KpB.refl _ _ _, ⟨fun j hj => (List.mem_append.1 hj).elim (HI.out j) (fun e => by simp at e; subst e; exact HXV.out.trans HYV.out.symm), hcr, hfr, hcy⟩, hB⟩
      · have hnz := ncmp_ne hxy
        obtain ⟨cv, hcv⟩ : ∃ cv, ncmp xv y = cv := ⟨_, rfl⟩
        rw [hcv] at hnz
        have HCV := Lib.hid hcv
        clear hcv
        gi_wp2_with (refine ⟨trivial, ?_⟩; gi_at_call 122; refine (CallsIn.inRound l (callsIn_wide.2 (cmpU_any xv y W))).mono ?_; rw [HCV.out]; rintro e w' ⟨rfl, rfl⟩)
        have hcs := World.cell?_setCell_same' W ⟨w.heap.size, 0, none⟩ (.int .i64 cv) (by rw [hcr]; rfl)
        exact ⟨(KeepsOthers.setCell _ _ _).from _, ⟨rfl, pre, ⟨i, hi⟩, rfl, HI.out, by rw [HXV.out, HYV.out]; exact hxy, by rw [HXV.out, HYV.out]; simp only [Option.getD_some]; rw [HCV.out]; exact hcs⟩, hB.setCell (p := ⟨w.heap.size, 0, none⟩) (Nat.le_refl _) _⟩
    case done =>
      rintro D ds W hD hds ⟨⟨hp, hcr, hfr, hcy⟩, hB⟩ hK
      have HDS := Lib.hid hds
      have HP := Lib.hid hp
      clear hds hp
      gi_wp2
      have hK' := (KeepsOthers.setCell W ⟨w.heap.size, 0, none⟩ (.int .i64 0)).same D _ hK rfl
      refine ⟨by simp, .inl ⟨_, _, rfl, run_takeDeferred hK', ?_⟩⟩
      have hc5 := cell_kept (World.cell?_setCell_same' W ⟨w.heap.size, 0, none⟩ (.int .i64 0) (by rw [hcr]; rfl)) (grownBy_putObj' _ D (.deferred none)) (fun r e => by cases e; exact ⟨_, hK', rfl⟩)
      have hxy : trimmed xs = trimmed ys := by
        apply List.ext_getElem?
        intro j
        rcases Nat.lt_or_ge j m1 with h | h
        · obtain ⟨x, hx, rfl⟩ := mem_down HDS.out (i := j) (by omega) h
          exact HP.out x hx
        · rw [List.getElem?_eq_none (by rw [← h1'.len]; exact h), List.getElem?_eq_none (by rw [← h2'.len]; exact h)]
      have hz : ncmp (V b64 xs) (V b64 ys) = 0 := by rw [← HX.out.2.2, ← HY.out.2.2, hxy, ncmp_eq]
      refine ⟨.int .i64 0, ?_, by rw [hz], (hB.setCell (p := ⟨w.heap.size, 0, none⟩) (Nat.le_refl _) _).trans (belowK_b (w := W0) (by rw [HSZ.out]; omega) _ D _ _ hD hK' rfl rfl)⟩
      simp [results, Tryd.f93, go_sem, hc5]
    case stop =>
      rintro D c pre W hD ⟨k, hk, hkp⟩ ⟨⟨rfl, ini, last, e1, e2, e3, hcr⟩, hB⟩ hK
      have HKP := Lib.hid hkp
      have HE1 := Lib.hid e1
      have HE2 := Lib.hid e2
      have HE3 := Lib.hid e3
      clear hkp e1 e2 e3
      obtain ⟨cv, hcv⟩ : ∃ cv, ncmp ((trimmed xs)[last.1]?.getD 0) ((trimmed ys)[last.1]?.getD 0) = cv := ⟨_, rfl⟩
      rw [hcv] at hcr
      have HCV := Lib.hid hcv
      clear hcv
      gi_wp2
      refine ⟨by simp, .inl ⟨_, _, rfl, run_takeDeferred hK, ?_⟩⟩
      have hc5 := cell_kept hcr (grownBy_putObj' _ D (.deferred none)) (fun r e => by cases e; exact ⟨_, hK, rfl⟩)
      have hfin : ncmp (V b64 xs) (V b64 ys) = cv := by
        have hkp := HKP.out
        rw [HE1.out] at hkp
        obtain ⟨k', rfl⟩ : ∃ k', k = k' + 1 := by
          cases k with
          | zero => simp [downL] at hkp
          | succ k' => exact ⟨k', rfl⟩
        rw [downL_succ, List.map_append] at hkp
        obtain ⟨hini, hlast⟩ := List.append_inj' hkp rfl
        have hl : last.1 = m1 - 1 - k' := by simpa using hlast
        rw [← HCV.out, ← HX.out.2.2, ← HY.out.2.2]
        refine cmp_at HX.out.1 HY.out.1 (by rw [← h1'.len, ← h2'.len]) (by rw [← h1'.len]; exact last.2) HE3.out (fun i hi1 hi2 => ?_)
        rw [← h1'.len] at hi2
        obtain ⟨x, hx, rfl⟩ := mem_down hini (i := i) (by omega) hi2
        exact HE2.out x hx
      refine ⟨.int .i64 cv, ?_, by rw [hfin], hB.trans (belowK_b (w := W0) (by rw [HSZ.out]; omega) _ D _ _ hD hK rfl rfl)⟩
      simp [results, Tryd.f93, go_sem, hc5]
  · have hl1 := h1.len
    have hl2 := h2.len
    have e0 : ncmp m1 m2 = ncmp (V b64 xs) (V b64 ys) := by
      rw [← hX.2.2, ← hY.2.2]
      rcases Nat.lt_or_gt_of_ne hne with h | h
      · rw [ncmp_lt h, ncmp_lt (lt_of_length hX.1 (by decide) hY.2.1 (by rw [← hl1, ← hl2]; exact h))]
      · rw [ncmp_gt h, ncmp_gt (lt_of_length hY.1 (by decide) hX.2.1 (by rw [← hl1, ← hl2]; exact h))]
    have hnz := ncmp_ne hne
    obtain ⟨cv, hcv⟩ : ∃ cv, ncmp m1 m2 = cv := ⟨_, rfl⟩
    rw [hcv] at hnz
    have HCV := Lib.hid hcv
    have HE := Lib.hid e0
    rw [hcv]
    clear hcv e0 hl1 hl2
    gi_wp2
    refine ⟨.int .i64 cv, ?_, by rw [← HE.out, HCV.out], ?_⟩
    · simp [results, Tryd.f93, go_sem]
    · exact ((Below.refl _ w).alloc (Nat.le_refl _) _).alloc (by simp) _
end Go.Proofs.YtnpaidieijlkkaaDoor

/- limb.Sub. -/
namespace Go.Proofs.YtnpaidieijlkkaaDoor
open Go.RowKit

theorem len_le_of {B : Nat} {a b : List Nat} {N M : Nat} (hB : 1 < B) (ha : Nm B a N) (hb : Nm B b M) (h : N ≤ M) : a.length ≤ b.length := by
  rcases Nat.lt_or_ge b.length a.length with hl | hl
  · have := lt_of_length hb.1 hB ha.2.1 hl
    rw [ha.2.2, hb.2.2] at this
    omega
  · exact hl

/-- a slice and true -/
def RetNB (B : Nat) (w : World) (k : Nat) (e : Ending) (w' : World) : Prop :=
  ∃ xs A n c, Nm B xs k ∧ e = .returned (.tuple #[.slice A n c, .bool true]) ∧ Sl w' w'.heap.size A n c xs ∧ Below w.heap.size w w'

end Go.Proofs.YtnpaidieijlkkaaDoor

/- (the laws for regions that draw their order lie in Reg2) -/
