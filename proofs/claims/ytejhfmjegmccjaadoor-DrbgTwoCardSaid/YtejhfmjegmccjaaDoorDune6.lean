/- Parts of one proof, joined: QuietR, StillR, Dd, De, LimbE, LimbF, Reg, LimbG, LimbH, LimbI, Base8, LimbJ. -/
import Derived.Test.YtejhfmjegmccjaaDoorRows
import Derived.WalkKit
import Derived.Sort.QuietThIn
import Derived.Sort.QuietTacIn
import Derived.StillTail
import Derived.OwnWalkIn
import Derived.RangeFuncCalls
import Derived.Test.YtejhfmjegmccjaaDoorDune5
import Derived.Test.YtejhfmjegmccjaaDoorDune4
import Derived.Test.YtejhfmjegmccjaaDoorDune1
import Derived.Lib.BitFns
import Derived.Lib.ItoaNum

/- A region that draws its order and only reads, in the body of a range over a function (where the fence knows its round). -/
set_option linter.unusedVariables false
set_option linter.unusedSimpArgs false
namespace Go.Proofs.YtejhfmjegmccjaaDoor
open Go.RowKit

/-- no operation defers -/
def noDeferB (l : List Oper) : Bool := l.all fun o => match o.op with | .defer _ => false | _ => true
theorem noDeferB_spec {l : List Oper} (h : noDeferB l = true) {i : Nat} {o : Oper} (ho : l[i]? = some o) (c : _) : o.op ≠ .defer c := fun hc => by
  have := List.all_eq_true.1 h o (List.mem_of_getElem? ho)
  rw [hc] at this
  cases this
variable {F : Fence} {n : Nat} {P : Program} {md : Region.Mode} {C : World → Prop}

theorem wpIn_of_quietR {o : Oper} {a : Act} {K : Act → Prop} {K' : Act → World → Prop} {Q' : Exit → Act → World → Prop} {w : World} (hnd : ∀ c, o.op ≠ .defer c) (hw : C w) (h : ∀ a w', C w' → K a → K' a w')
    (ha : o.askedIn F P a C) (hh : o.quietIn F n P a C K) : o.wpIn F n P a w K' Q' := by
  obtain ⟨v, hv, hK⟩ := hh
  refine ⟨ha w hw, ?_⟩
  have h3 : Oper.quietUponIn F n P C w v ((execOp a.eval o).run P w) := hv w hw
  rw [Oper.semAt_eq _ _ _ hnd]
  generalize (execOp a.eval o).run P w = r at h3
  cases r with
  | halt x w' => exact h3.elim
  | ok x w' =>
    cases x with
    | value u => obtain ⟨rfl, rfl⟩ := h3; exact h _ _ hw hK
    | skip => obtain ⟨rfl, rfl⟩ := h3; exact h _ _ hw hK
    | enter f args =>
      obtain ⟨rfl, hd, hc⟩ := h3
      refine ⟨hd, hc.mono ?_⟩
      rintro e w'' ⟨rfl, hw''⟩
      exact h _ _ hw'' hK
    | _ => exact h3.elim
theorem wpOpIn_of_quietR {l : List Oper} (hnd : noDeferB l = true) {i : Nat} {a : Act} {K : Act → Prop} {K' : Act → World → Prop} {Q' : Exit → Act → World → Prop} {w : World} (hC : C w) (h : ∀ a w', C w' → K a → K' a w')
    (hh : qOpIn F n P l.toArray C i K a) : wpOpIn F n P l.toArray Q' i K' a w := by
  unfold qOpIn at hh
  unfold wpOpIn
  cases ho : l.toArray[i]? with
  | none => rw [ho] at hh; exact h _ _ hC hh
  | some o =>
    rw [ho] at hh
    obtain ⟨ha, hh⟩ := hh
    have hn : ∀ c, o.op ≠ .defer c := noDeferB_spec hnd (by simpa using ho)
    by_cases hw : Region.wanted o (yielded l.toArray a.tmps) = true
    · simp only [hw, if_true] at hh ⊢
      exact wpIn_of_quietR hn hC h ha hh
    · simp only [hw] at hh ⊢
      exact ⟨ha w hC, h _ _ hC hh⟩
theorem wpAnyIn_of_quietR {l : List Oper} (hnd : noDeferB l = true) {Q : Act → Prop} {Q' : Exit → Act → World → Prop} (hQ : ∀ a w, C w → Q a → Q' .normal a w) : ∀ (fuel : Nat) (listed : Array Bool) (a : Act) (w : World), C w →
    wpAnyQIn F n P md l.toArray C Q fuel listed a → wpAnyIn F n P md l.toArray Q' fuel listed a w
  | 0, _, _, _, hw, h => ⟨h.1, hQ _ _ hw h.2⟩
  | fuel + 1, _, _, _, hw, h => ⟨fun h0 => hQ _ _ hw (h.1 h0), fun i hi => wpOpIn_of_quietR hnd hw (fun a' w' hw' => wpAnyIn_of_quietR hnd hQ fuel _ a' w' hw') (h.2 i hi)⟩
theorem wpIn_region_quietR {id : Nat} {Q : Exit → Act → World → Prop} {a : Act} {w : World} {l : List Oper} (hm : P.follows .mixedOrders = true) (hB : Region.lexB .any l.toArray = true) (hnd : noDeferB l = true)
    (h : wpQuietIn F n P l.toArray (fun w' => ∃ n, w' = w.drewN n) (fun a' => ∀ w', (∃ n, w' = w.drewN n) → Q .normal a' w') l a) : (Code.region id l.toArray true).wpIn F n P Q a w := by
  simp only [Region.lexB, Bool.and_eq_true] at hB
  refine wpIn_region_any hm (wpAnyIn_of_quietR hnd (C := fun w' => ∃ n, w' = w.drewN n) (Q := fun a' => ∀ w', (∃ n, w' = w.drewN n) → Q .normal a' w') (fun _ w' hw' h => h w' hw') _ _ _ _ ⟨1, rfl⟩ ?_)
  have := wpAnyQIn_lex (F := F) (n := n) (P := P) (C := fun w' => ∃ n, w' = w.drewN n) (md := .any) hB.1 l 0 (Array.replicate l.toArray.size false) a (by simp) (by simpa using hB.2) h
  simpa using this
end Go.Proofs.YtejhfmjegmccjaaDoor

/- A region that draws its order, some reads ahead of a sequence, in the body of a range over a function. -/
set_option linter.unusedVariables false
set_option linter.unusedSimpArgs false
namespace Go.Proofs.YtejhfmjegmccjaaDoor
open Go.RowKit

variable {P : Program} {md : Region.Mode}
theorem wpIn_round_of_wp {o : Oper} {a : Act} {w : World} {K : Act → World → Prop} {Q : Exit → Act → World → Prop} {r n : Nat} (hnd : ∀ c, o.op ≠ .defer c) (h : o.wp P a w K Q) : o.wpIn (Fence.wide.inRound r) n P a w K Q := by
  refine ⟨fun _ _ => trivial, ?_⟩
  rw [Oper.semAt_plain _ _ _ hnd]
  unfold Oper.wp at h
  generalize (execOp a.eval o).run P w = x at h
  cases x with
  | halt x w' => cases x <;> first | exact h | exact h.elim
  | ok x w' =>
    cases x with
    | value u => exact h
    | skip => exact h
    | defer d => exact h
    | enter f args => exact ⟨fun h => (by cases h), (CallsIn.inRound r (callsIn_wide.2 h)).mono (fun e w' he => by cases e <;> exact he)⟩
    | row row args => exact ⟨fun h => (by cases h), fun c cs _ => let ⟨v, w', hr, s⟩ := h c cs; ⟨v, w', hr, stepsIn_wide.2 s⟩⟩
    | _ => exact h.elim
theorem wpAnyIn_round {l : List Oper} {Q : Exit → Act → World → Prop} {r n : Nat} (hnd : noDeferB l = true) (hlo : ¬ LetsOut Q) : ∀ (fuel : Nat) (L : Array Bool) (a : Act) (w : World), wpAny P md l.toArray Q fuel L a w → wpAnyIn (Fence.wide.inRound r) n P md l.toArray Q fuel L a w
  | 0, _, _, _, h => h
  | fuel + 1, L, a, w, h => ⟨h.1, fun i hi => by
    have h2 := h.2 i hi
    unfold wpOp at h2
    unfold wpOpIn
    cases ho : l.toArray[i]? with
    | none => rw [ho] at h2; exact wpAnyIn_round hnd hlo fuel _ a w h2
    | some o =>
      rw [ho] at h2
      have hn : ∀ c, o.op ≠ .defer c := noDeferB_spec hnd (by simpa using ho)
      by_cases hw : Region.wanted o (yielded l.toArray a.tmps) = true
      · simp only [hw, if_true] at h2 ⊢
        rcases h2 with h2 | h2
        · exact Oper.wpIn_mono (fun a w => wpAnyIn_round hnd hlo fuel _ a w) (wpIn_round_of_wp hn h2)
        · exact absurd h2.2 hlo
      · simp only [hw] at h2 ⊢
        exact ⟨fun _ _ => trivial, wpAnyIn_round hnd hlo fuel _ _ w h2⟩⟩
theorem wpIn_region_still_tailR {id r m : Nat} {Q : Exit → Act → World → Prop} {a : Act} {w : World} {l : List Oper} (n : Nat) (hm : P.follows .mixedOrders = true) (hB : Region.lexTailB .any l.toArray n = true) (hnd : noDeferB l = true) (hlo : ¬ LetsOut Q)
    (h : wpStill P l.toArray w.drew (fun a' => wpList P l.toArray Q (l.drop n) a' w.drew) (l.take n) a) : (Code.region id l.toArray true).wpIn (Fence.wide.inRound r) m P Q a w := by
  simp only [Region.lexTailB, Bool.and_eq_true, decide_eq_true_eq] at hB
  obtain ⟨⟨⟨⟨hsel, hn⟩, hs⟩, hc⟩, hlex⟩ := hB
  have hn' : n < l.length := by simpa using hn
  have htl : (l.take n).length = n := by simp; omega
  have hdl : (l.drop n).length = l.toArray.size - n := by simp
  have inv0 : HeadInv .any l.toArray n (Array.replicate l.toArray.size false) :=
    ⟨by simp, fun j oj _ hl => (by rw [getD_replicate_false] at hl; cases hl), fun t _ ht => getD_in (by simpa using ht) (getD_replicate_false _ _)⟩
  have H := wpAnyL_lex (md := .any) (g := l.toArray.size - n) hsel hs hc hn (l.take n) 0 _ a (fun j hj => by
    have hj' : j < n := by rw [htl] at hj; exact hj
    simp [hj']) (by simpa using htl) inv0 (by rw [htl]; exact hlex) h
  refine wpIn_region_any hm (wpAnyIn_round hnd hlo _ _ _ _ ?_)
  have := wpAny_of_head (Q' := Q) (g := l.toArray.size - n) (fun listed a' hL => by
    have := wpAny_of_seq (md := .any) (Q' := Q) (l.drop n) n listed a' w.drew (fun j => by simp [List.getElem?_drop]) (by rw [hdl]; exact hL.1) hL.2
    rwa [hdl] at this) _ _ _ H
  rw [htl, show n + (l.toArray.size - n) = l.toArray.size by omega] at this
  exact this
end Go.Proofs.YtejhfmjegmccjaaDoor

/- drbg: Bytes. -/
set_option linter.unusedVariables false
set_option linter.unusedSimpArgs false
namespace Go.Proofs.YtejhfmjegmccjaaDoor
open Go.RowKit Go.Shelf
attribute [local go_sem] Oper.semAt_some

section
variable {F : Fence} {n : Nat} {P : Program} {t e : TypeId} {z : Value} {sz : Nat} {w : World} {ops : Array Oper} {rest : List Oper} {o : Oper} {a : Act} {Q : Exit → Act → World → Prop}
theorem wlv_make_in (E : Elem P t e z sz) (hg : o.guard = none) (l : Operand)
    (hop : o.op = Op.makeSlice t l l) (N : Int) (m : Nat) (hl : a.eval l = .int .i64 N) (hN : N = m) (hn : m ≤ 17592186044416)
    (h : ∀ w', RowV e w' w.heap.size (List.replicate m z) → Below w.heap.size w w' → w'.heap.size = w.heap.size + 1 → wpListIn F n P ops Q rest (a.put o.dst (.slice (some ⟨w.heap.size, 0, none⟩) m m)) w') :
    wpListIn F n P ops Q (o :: rest) a w := by
  obtain ⟨i0, hi, hz0, hz1, hz2⟩ := info_parts E.info
  subst hN
  have hb : (i0.bytes : Int) * (m : Int) ≤ 281474976710656 := by
    rw [hz2]
    have h1 : sz * m ≤ 8 * 17592186044416 := Nat.mul_le_mul E.b8 hn
    have h2 : ((sz * m : Nat) : Int) ≤ 8 * 17592186044416 := by omega
    rw [Int.natCast_mul] at h2
    omega
  have hr := run_make (P := P) w t e i0 z E.sl hi hz0 .i64 .i64 m m (by omega) (by omega) hb (by omega)
  simp only [Int.toNat_natCast] at hr
  refine wpListIn_value (w' := w.alloc (.cells (List.replicate m z).toArray e (0, 0))) hg (by rw [hop]; intro c hc; cases hc) (fun f hf => by simp [Oper.about, hop] at hf) ?_ (h _ (RowV.new _ _ _) ((Below.refl _ _).alloc (Nat.le_refl _) _) (by simp))
  have e2 : madeCells z.cells m = (List.replicate m z).toArray := by
    apply Array.ext'
    rw [E.one, toList_madeCells_one]
  simp only [execOp, hop, hl, hr, Result.andThen, hz1, Nat.mul_one, e2, Sem.run_bind, Sem.run_pure]
end
/-- two writing operations, one behind the other: places i and j -/
def worD (V0 V1 V2 : World) (i j : Nat) (L : Array Bool) : World := if L.getD j false then V2 else if L.getD i false then V1 else V0
theorem worD_other {V0 V1 V2 : World} {i j : Nat} (L : Array Bool) {k : Nat} (h1 : k ≠ i) (h2 : k ≠ j) : worD V0 V1 V2 i j (L.setIfInBounds k true) = worD V0 V1 V2 i j L := by
  unfold worD
  rw [getD_set_other L h1, getD_set_other L h2]
theorem worD_none {V0 V1 V2 : World} {i j : Nat} {L : Array Bool} (h1 : L.getD i false = false) (h2 : L.getD j false = false) : worD V0 V1 V2 i j L = V0 := by unfold worD; rw [h1, h2]; rfl
theorem worD_first {V0 V1 V2 : World} {i j : Nat} {L : Array Bool} (h1 : L.getD i false = true) (h2 : L.getD j false = false) : worD V0 V1 V2 i j L = V1 := by unfold worD; rw [h1, h2]; rfl
theorem worD_both {V0 V1 V2 : World} {i j : Nat} {L : Array Bool} (h2 : L.getD j false = true) : worD V0 V1 V2 i j L = V2 := by unfold worD; rw [h2]; rfl
theorem setCells_drewN (g q : Nat) : ∀ (ys : List Value) (o : Nat) (w : World), (w.drewN q).setCells g o ys = (w.setCells g o ys).drewN q
  | [], _, _ => rfl
  | y :: r, o, w => setCells_drewN g q r (o + 1) (w.setCell ⟨g, o, none⟩ y)
/-- what comes, and the state behind it -/
def bytesL (key val : List (BitVec 8)) (N : Nat) : List (BitVec 8) := fillL (fun i => vIter key val (i + 1)) N
def bytesS (key val : List (BitVec 8)) (N : Nat) : List (BitVec 8) × List (BitVec 8) := updL (key, vIter key val ((N + 31) / 32)) []
theorem dvalues_any (w : World) (g : Nat) : Calls Tryd.prog 65 #[.pointer (some ⟨g, 0, none⟩)] w fun e w' => e = .returned (.func (.func 83) #[] #[.pointer (some ⟨w.heap.size, 0, none⟩)]) ∧ BxE w.heap.size (.pointer (some ⟨g, 0, none⟩)) w' ∧ Below w.heap.size w w' := by
  obtain ⟨W1, e1, hB1, b1, s1⟩ := newBox w 47 (.pointer (some ⟨g, 0, none⟩))
  have HB := Lib.hid hB1
  have H1 := Lib.hid b1
  clear hB1 b1 s1
  go_enter Tryd.func65, Tryd.ntmps65
  go_wp2
  go_ret
  exact ⟨rfl, H1.out, HB.out⟩
theorem DrbgR.calls_ {w : World} {g : Nat} {key val : List (BitVec 8)} {calls : Int} (h : DrbgR w g key val calls) : w.cell? ⟨g, 64, none⟩ = some (.int .i64 calls) := h.row.at_ (by
  rw [dL, List.getElem?_append_right (by simp [h.hk]), List.length_map, h.hk, List.getElem?_append_right (by simp [h.hv]), List.length_map, h.hv]; rfl)
theorem DrbgR.putCalls {w : World} {g : Nat} {key val : List (BitVec 8)} {calls : Int} (h : DrbgR w g key val calls) (c : Int) : DrbgR (w.setCell ⟨g, 64, none⟩ (.int .i64 c)) g key val c := ⟨h.hk, h.hv, by
  have h2 := h.row.set 64 (.int .i64 c)
  have : (dL key val calls).set 64 (.int .i64 c) = dL key val c := by
    rw [dL, List.set_append_right _ _ (by simp [h.hk]), List.length_map, h.hk, List.set_append_right _ _ (by simp [h.hv]), List.length_map, h.hv]; rfl
  rwa [this] at h2⟩
/-- ahead of a round -/
def ByI (w : World) (g o x6 : Nat) (key val : List (BitVec 8)) (N : Nat) (pre : List (List (BitVec 8))) (W : World) : Prop :=
  32 * pre.length < N ∧ OnlyV w W g ∧ RowV 5 W o ((seqL (fun i => vIter key val (i + 1)) pre.length ++ List.replicate (N - 32 * pre.length) 0).map W8) ∧ BxE x6 (.slice (some ⟨o, 32 * pre.length, none⟩) (N - 32 * pre.length) (N - 32 * pre.length)) W
/-- all has come -/
def ByX (w : World) (g o : Nat) (key val : List (BitVec 8)) (calls : Int) (N : Nat) (pre : List (List (BitVec 8))) (W : World) : Prop :=
  pre.length = (N + 31) / 32 ∧ OnlyV w W g ∧ RowV 5 W o ((bytesL key val N).map W8) ∧ DrbgR W g key (vIter key val pre.length) calls
theorem OnlyV.new' {a b c : World} {g o : Nat} (h : OnlyV a b g) (k : OnlyV b c o) (ho : a.heap.size ≤ o) : OnlyV a c g :=
  ⟨k.os.trans h.os, k.tape.trans h.tape, k.output.trans h.output, Nat.le_trans h.size k.size, fun i hi hn => (k.block i (Nat.lt_of_lt_of_le hi h.size) (fun e => by injection e; omega)).trans (h.block i hi hn)⟩
theorem OnlyV.grown' {a w w' : World} {g : Nat} (h : OnlyV a w g) (hg : w.grownBy w' (some g)) : OnlyV a w' g := h.trans hg
theorem RowV.grownG {t : TypeId} {A B : World} {b g : Nat} {vs : List Value} (h : RowV t A b vs) (hg : A.grownBy B (some g)) (hn : b ≠ g) : RowV t B b vs := (hg.block b h.lt (fun e => hn (by injection e))).trans h
theorem BxE.grownG {A B : World} {b g : Nat} {v : Value} (h : BxE b v A) (hg : A.grownBy B (some g)) (hn : b ≠ g) : BxE b v B := h.block hg.size (hg.block b h.2.2 (fun e => hn (by injection e)))
set_option maxRecDepth 100000 in
set_option maxHeartbeats 4000000 in
theorem dbytes_any (w : World) (g : Nat) (hg1 : 1 < g) (key val : List (BitVec 8)) (calls : Int) (hc0 : 0 ≤ calls) (hc1 : calls ≤ 1000000) (h : DrbgR w g key val calls) (hGS : StartsG w) (hGR : RootsG w) (N : Nat) (hN1 : 1 ≤ N) (hN2 : N ≤ 65536) :
    Calls Tryd.prog 38 #[.pointer (some ⟨g, 0, none⟩), .int .i64 (N : Int)] w fun e w' => ∃ o, e = .returned (.slice (some ⟨o, 0, none⟩) N N) ∧ w.heap.size ≤ o ∧ RowV 5 w' o ((bytesL key val N).map W8) ∧ DrbgR w' g (bytesS key val N).1 (bytesS key val N).2 (calls + 1) ∧ OnlyV w w' g := by
  have hgl := h.row.lt
  obtain ⟨o, ho⟩ : ∃ o, w.heap.size = o := ⟨_, rfl⟩
  have kN1 : (1 : Int) ≤ N := by omega
  have kN2 : (N : Int) ≤ 65536 := by omega
  have HD := Lib.hid h
  have HG := Lib.hid (⟨hGS, hGR⟩ : StartsG w ∧ RootsG w)
  have HO := Lib.hid ho
  clear h hGS hGR
  refine (callsIn_wide (n := 9)).1 ?_
  refine callsIn_of_wp_marks Tryd.func38 rfl trivial ?_ rfl
  simp only [Tryd.ntmps38, List.size_toArray, List.length_cons, List.length_nil, Nat.reduceAdd, Nat.reduceSub, Array.replicate_succ, Array.replicate_zero, List.push_toArray, List.append_toArray, List.nil_append, List.cons_append]
  gi_wp2_with (refine wlv_make_in Tryd.elem8 rfl _ rfl _ N rfl rfl (by omega) ?_; intro W1 r1 b1 z1)
  rw [ho] at r1
  obtain ⟨W2, e2, hB2, b2, s2⟩ := newBox W1 22 (.slice (some ⟨o, 0, none⟩) N N)
  have hx6 : W1.heap.size = o + 1 := by omega
  rw [hx6] at b2
  have hv := dvalues_any W2 g
  have hs2 : W2.heap.size = o + 2 := by omega
  rw [hs2] at hv
  rw [e2]
  refine ⟨trivial, (callsIn_wide.2 hv).mono ?_⟩
  rintro e W3 ⟨rfl, hbx, hb3⟩
  have h02 : Below w.heap.size w W2 := b1.trans (hB2.mono b1.size)
  have h03 : Below w.heap.size w W3 := h02.trans (hb3.mono (by omega))
  have hrow3 : RowV 5 W3 o (List.replicate N (.int .u8 0)) := (r1.later hB2).below hb3 (by omega)
  have hbox3 : BxE (o + 1) (.slice (some ⟨o, 0, none⟩) N N) W3 := b2.later (by rw [hs2]; exact hb3)
  have hd3 := HD.out.later h03
  have hseq := values1_in 8 (by decide) W3 g (o + 2) hg1 (by omega) (by have := HG.out.2.1; omega) key val calls hd3 hbx (HG.out.1.later h03) (HG.out.2.later h03) N hN1
  have HSEQ := Lib.hid hseq
  have H03 := Lib.hid h03
  have HR3 := Lib.hid hrow3
  have HX3 := Lib.hid hbox3
  have HD3 := Lib.hid hd3
  have hsz3 : o + 3 ≤ W3.heap.size := by have := hbx.2.2; omega
  have HBX := Lib.hid hbx
  clear hseq h03 h02 hrow3 hbox3 hd3 hbx hb3 hv b2 hB2 b1 r1 z1 s2 e2 hx6 hs2 ho
  gi_wp2_with fail
  refine wpIn_rangeM rfl (by decide) (gf := 83) (lb := #[.pointer (some ⟨o + 2, 0, none⟩)]) rfl trivial (enters_of Tryd.func83 (by kernel_rfl) rfl)
    (by have := HO.out; omega : g < W3.heap.size) HSEQ.out (fun a b => a.trans b) (fun W l ob ob' hl _ _ _ => KpS.put (by intro q hq; simp only [List.mem_cons, List.not_mem_nil, or_false] at hq; have := HO.out; rcases hq with rfl | rfl | rfl | rfl <;> omega) _) (fun _ => rfl)
    (ByI w g o (o + 1) key val N) (fun c pre W => c = .exit 0 ∧ ByX w g o key val calls N pre W) ?hI ?hIg ?hIN ?hIx (fun pre => VaR.own _ _ _ _ _ pre) ?hI0 (fun A B hA hb => KpS.below hb (by intro q hq; simp only [List.mem_cons, List.not_mem_nil, or_false] at hq; have := HO.out; rcases hq with rfl | rfl | rfl | rfl <;> omega))
    (fun x W a' W' => a' = { tmps := #[.pointer (some ⟨g, 0, none⟩), .int .i64 (N : Int), undef, undef, .slice none 0 0, .slice (some ⟨o, 0, none⟩) N N, .pointer (some ⟨o + 1, 0, none⟩), .pointer (some ⟨W.heap.size, 0, none⟩), .pointer (some ⟨g, 0, none⟩), .bool false, .bool false, .int .i64 (N : Int), .bool (decide ((N : Int) < 1)), .bool (decide ((N : Int) < 1)), .bool (decide ((N : Int) < 1)), .int .i64 (N : Int), .bool (decide (65536 < (N : Int))), .bool (decide ((N : Int) < 1) || decide (65536 < (N : Int))), .int .i64 (N : Int), .slice (some ⟨o, 0, none⟩) N N, .slice (some ⟨o, 0, none⟩) N N, .pointer (some ⟨g, 0, none⟩), .func (.func 83) #[] #[.pointer (some ⟨o + 2, 0, none⟩)], .agg (x.map W8).toArray, undef, undef, undef, undef, undef, undef, undef, undef, undef, undef, undef, undef, undef, undef, undef, undef, undef, undef], defers := [] } ∧ RowV 81 W' W.heap.size (x.map W8)) ?assign ?hAx ?body ?done ?stop
  case hI =>
    rintro s W W' row ⟨h1, h2, h3, h4⟩ hg hr
    exact ⟨h1, h2.grown hg (fun r e => by have := (hr r e).1; have := HO.out; omega), h3.kept hg (fun r e => (hr r e).2), h4.kept hg (fun r e => (hr r e).2)⟩
  case hIg =>
    rintro s A B ⟨h1, h2, h3, h4⟩ hg
    have := HO.out
    exact ⟨h1, h2.grown' hg, h3.grownG hg (by omega), h4.grownG hg (by omega)⟩
  case hIN =>
    rintro s A ⟨h1, _⟩
    omega
  case hIx =>
    rintro c s W W' row ⟨rfl, h1, h2, h3, h4⟩ hg hr
    exact ⟨rfl, h1, h2.grown hg (fun r e => by have := (hr r e).1; have := HO.out; omega), h3.kept hg (fun r e => (hr r e).2), h4.kept hg (fun r e => (hr r e).2)⟩
  case hI0 =>
    refine ⟨by show 32 * 0 < N; omega, OnlyV.of_below H03.out g, ?_, by simpa using HX3.out⟩
    have h := HR3.out
    rw [show (Value.int .u8 0) = W8 0 from rfl, ← List.map_replicate] at h
    exact h
  case assign =>
    rintro l pre x W K hW ⟨hx, hd⟩ hK
    have hxl := hd.hv
    rw [← hx] at hxl
    obtain ⟨W1', e1', r1', b1', z1'⟩ := newV W 81 (List.replicate 32 (.int .u8 0)) #[.int .u8 0, .int .u8 0, .int .u8 0, .int .u8 0, .int .u8 0, .int .u8 0, .int .u8 0, .int .u8 0, .int .u8 0, .int .u8 0, .int .u8 0, .int .u8 0, .int .u8 0, .int .u8 0, .int .u8 0, .int .u8 0, .int .u8 0, .int .u8 0, .int .u8 0, .int .u8 0, .int .u8 0, .int .u8 0, .int .u8 0, .int .u8 0, .int .u8 0, .int .u8 0, .int .u8 0, .int .u8 0, .int .u8 0, .int .u8 0, .int .u8 0, .int .u8 0] rfl
    obtain ⟨bw, hbw⟩ : ∃ b, W.heap.size = b := ⟨_, rfl⟩
    rw [hbw] at r1'
    have hxm : (x.map W8).toArray.size = 32 := by simpa using hxl
    have hth : W1'.there bw 0 32 := fun j hj => ⟨by
      rw [Nat.zero_add, r1'.cell j, List.getElem?_replicate, if_pos hj]; rfl, r1'.frozen _⟩
    obtain ⟨W2', e2'⟩ : ∃ V, W1'.setCells bw 0 (x.map W8).toArray.toList = V := ⟨_, rfl⟩
    have hr2 : RowV 81 W2' bw (x.map W8) := by
      rw [← e2']
      have h2 := RowV.setCells (x.map W8) 0 _ _ r1'
      have h3 := setL_mid (x.map W8) [] (List.replicate 32 (.int .u8 0)) [] (by simp [hxl])
      simp only [List.length_nil, List.nil_append, List.append_nil] at h3
      rwa [h3] at h2
    have hb2 : Below W.heap.size W W2' := by
      rw [← e2']
      exact b1'.trans ((OnlyV.sets (g := bw) _ _ _ (OnlyV.refl _ _)).below (by omega) (by omega))
    rw [← hbw] at hr2
    have hKK := hK _ _ hb2 ⟨rfl, hr2⟩
    rw [hbw] at hKK
    have HKK := Lib.hid hKK
    clear hKK hK hx hd hr2 hb2
    gi_wp2_with (refine wpListIn_store_mid rfl 81 _ _ rfl bw 0 (x.map W8).toArray rfl rfl (by rw [hxm]; exact hth) (by rw [hxm]; exact Tryd.arr328) (all_oneCell_toArray (ones8 x)) ?_)
    exact HKK.out
  case hAx =>
    rintro x W a' W' o' ⟨h1, h2⟩ l ob _ hl ho hc
    exact ⟨h1, (World.putObj_heap_other (by omega)).trans h2⟩
  case body =>
    rintro l pre x W0 a' W hW0 ⟨rfl, hrv⟩ ⟨hI1, hI2, hI3, hI4⟩ ⟨hx, hd⟩
    obtain ⟨bw, hbw⟩ : ∃ b, W0.heap.size = b := ⟨_, rfl⟩
    rw [hbw] at hrv ⊢
    have hbo : o + 3 ≤ bw := by omega
    have hxl : x.length = 32 := by rw [hx]; exact hd.hv
    obtain ⟨j, hj⟩ : ∃ j, pre.length = j := ⟨_, rfl⟩
    rw [hj] at hI1 hI3 hI4 hd hx
    obtain ⟨p, hp⟩ : ∃ p, 32 * j = p := ⟨_, rfl⟩
    obtain ⟨r, hr⟩ : ∃ r, N - p = r := ⟨_, rfl⟩
    rw [hp] at hI1 hI3 hI4
    rw [hr] at hI3 hI4
    obtain ⟨m, hm⟩ : ∃ m, min r 32 = m := ⟨_, rfl⟩
    have q6 := hI4.1
    have f6 := hI4.2.1
    have hrow := hI3
    have hrvV := hrv
    have hseql : (seqL (fun i => vIter key val (i + 1)) j).length = p := by rw [seqL_length _ 32 (fun i => vIter_length _ _ (by have := HD.out.hv; exact this) _), hp]
    have hxm : (x.map W8).length = 32 := by rw [List.length_map, hxl]
    obtain ⟨xs, hxs⟩ : ∃ l, (x.map W8).take m = l := ⟨_, rfl⟩
    have hxsl : xs.length = m := by rw [← hxs, List.length_take, hxm]; omega
    have hcp : ∀ ty (q : Nat), (Builtin.copy_ #[22, 22] ty #[.slice (some ⟨o, p, none⟩) r r, .slice (some ⟨bw, 0, none⟩) 32 32]).run Tryd.prog (W.drewN q) = .ok (goInt xs.length) ((W.setCells o p xs).drewN q) := fun ty q => by
      rw [← setCells_drewN]
      obtain ⟨i0, hi, hz0, hz1, hz2⟩ := info_parts Tryd.elem8.info
      refine run_copy_cells (W.drewN q) _ _ ty 5 o p r r ⟨bw, 0, none⟩ 32 32 xs Tryd.underlying22 (by rw [hi]; simp [hz1]) (by rw [hxsl, ← hm]; exact Nat.min_comm _ _) (fun k v hv => ?_) (fun k hk => ?_) (fun k hk => hrow.frozen _) (fun v hv => ?_)
      · rw [Addr.add_lit, Nat.zero_add, World.cell?_drewN]
        refine hrvV.at_ ?_
        rw [← hxs, List.getElem?_take] at hv
        split at hv
        · exact hv
        · cases hv
      · rw [World.cell?_drewN, hrow.cell, List.getElem?_eq_getElem (by rw [List.length_map, List.length_append, hseql, List.length_replicate]; omega)]
        rfl
      · rw [← hxs] at hv
        exact ones8 x v (List.mem_of_mem_take hv)
    rw [hxsl] at hcp
    obtain ⟨V1, e1⟩ : ∃ U, W.setCells o p xs = U := ⟨_, rfl⟩
    rw [e1] at hcp
    have ho1 : OnlyV W V1 o := by rw [← e1]; exact OnlyV.sets _ _ _ (OnlyV.refl _ _)
    have hx61 := hI4.grownG ho1 (by omega)
    have hrow1 : RowV 5 V1 o ((seqL (fun i => vIter key val (i + 1)) j).map W8 ++ (xs ++ List.replicate (r - m) (W8 0))) := by
      have h2 := RowV.setCells xs p _ _ hrow
      rw [e1, List.map_append, List.map_replicate, show List.replicate r (W8 0) = List.replicate m (W8 0) ++ List.replicate (r - m) (W8 0) by rw [List.replicate_append_replicate]; congr 1; omega] at h2
      have h3 := setL_mid xs ((seqL (fun i => vIter key val (i + 1)) j).map W8) (List.replicate m (W8 0)) (List.replicate (r - m) (W8 0)) (by rw [List.length_replicate, hxsl])
      rw [List.length_map, hseql] at h3
      rw [h3] at h2
      exact h2
    have hd1 : DrbgR V1 g key (vIter key val (j + 1)) calls := ⟨hd.hk, hd.hv, hd.row.grownG ho1 (by have := HO.out; omega)⟩
    have q61 := hx61.1
    have f61 := hx61.2.1
    have HX61 := Lib.hid hx61
    have HROW1 := Lib.hid hrow1
    have HD1 := Lib.hid hd1
    have HO1 := Lib.hid ho1
    have HI2 := Lib.hid hI2
    have HXS := Lib.hid (⟨hxs, hxsl, hseql, hxm⟩ : (x.map W8).take m = xs ∧ xs.length = m ∧ (seqL (fun i => vIter key val (i + 1)) j).length = p ∧ (x.map W8).length = 32)
    have HXX := Lib.hid hx
    have HJ := Lib.hid hj
    have HP := Lib.hid hp
    have HR := Lib.hid hr
    have HM := Lib.hid hm
    have HBW := Lib.hid (show bw < W.heap.size from hrv.lt)
    clear hx61 hrow1 hd1 ho1 hI2 hI3 hI4 hrv hd hx hj hp hr hm hxs hxsl hseql hxm hrvV hrow hbw
    have kr : (r : Int) ≤ 65536 := by have := HR.out; omega
    have km0 : (0 : Int) ≤ m := by omega
    have kmr : (m : Int) ≤ r := by have := HM.out; omega
    obtain ⟨S', hS'⟩ : ∃ S', Value.slice (if r = m then some ⟨o, p, none⟩ else some ⟨o, p + m, none⟩) (r - m) (r - m) = S' := ⟨_, rfl⟩
    obtain ⟨V2, e2⟩ : ∃ U, V1.setCell ⟨o + 1, 0, none⟩ S' = U := ⟨_, rfl⟩
    have q62 : BxE (o + 1) S' V2 := by rw [← e2]; exact HX61.out.set _
    have HQ62 := Lib.hid q62
    have hmx : Tryd.prog.follows .mixedOrders = true := by kernel_rfl
    dsimp only
    gi_wp2_with fail
    refine wpIn_region_inv hmx ?hd
      (fun k => [.slice (some ⟨o, p, none⟩) r r, .slice (some ⟨o, p, none⟩) r r, .slice (some ⟨bw, 0, none⟩) 32 32, .int .i64 (m : Int), S'].getD k undef)
      (worD W V1 V2 3 5) ?hw0 ?hstep ?hend ?hac
    case hd => exact distinct_of (by kernel_rfl)
    case hw0 => exact ⟨1, by rw [worD_none (by kernel_rfl) (by kernel_rfl)]; rfl⟩
    case hac => exact acyclic_of (by kernel_rfl)
    case hstep =>
      intro L a' hs hdf hcl hold hnew i' hi' oi hoi q0 K hK
      obtain ⟨hnl, o2, ho2, hdep⟩ := mem_ready.1 hi'
      obtain rfl : oi = o2 := Option.some.inj (hoi.symm.trans ho2)
      have hlt : i' < 6 := (Array.getElem?_eq_some_iff.1 hoi).1
      have t6 : a'.tmps.getD 6 undef = .pointer (some ⟨o + 1, 0, none⟩) := hold 6 (free_of (by kernel_rfl))
      have t7 : a'.tmps.getD 7 undef = .pointer (some ⟨bw, 0, none⟩) := hold 7 (free_of (by kernel_rfl))
      clear hold
      obtain rfl | rfl | rfl | rfl | rfl | rfl : i' = 0 ∨ i' = 1 ∨ i' = 2 ∨ i' = 3 ∨ i' = 4 ∨ i' = 5 := by omega
      all_goals
        have hoi' := hoi
        simp only [List.getElem?_toArray, List.getElem?_cons_zero, List.getElem?_cons_succ, Option.some.injEq] at hoi'
        subst hoi'
      · have h5 : L.getD 5 false = false := by
          apply Classical.byContradiction
          intro h
          have h2 := hcl 4 _ rfl (hcl 5 _ rfl (by simpa using h) ⟨4, .data⟩ (by simp) rfl) ⟨0, .data⟩ (by simp) rfl
          rw [unlisted hnl] at h2
          cases h2
        have hw : (worD W V1 V2 3 5 L).cell? ⟨o + 1, 0, none⟩ = some (.slice (some ⟨o, p, none⟩) r r) := by
          unfold worD
          rw [h5]
          simp only [Bool.false_eq_true, if_false]
          split
          · exact q61
          · exact q6
        rw [worD_other L (by decide) (by decide)] at hK
        refine in_value hoi rfl (by intro c h; cases h) (fun _ _ => trivial) ?_ (hK q0)
        simp [execOp, Act.eval, t6, hw, go_sem]
      · have h3 : L.getD 3 false = false := by
          apply Classical.byContradiction
          intro h
          have h2 := hcl 3 _ rfl (by simpa using h) ⟨1, .data⟩ (by simp) rfl
          rw [unlisted hnl] at h2
          cases h2
        have h5 : L.getD 5 false = false := by
          apply Classical.byContradiction
          intro h
          have h2 := hcl 4 _ rfl (hcl 5 _ rfl (by simpa using h) ⟨4, .data⟩ (by simp) rfl) ⟨3, .data⟩ (by simp) rfl
          rw [h3] at h2
          cases h2
        rw [worD_other L (by decide) (by decide)] at hK
        rw [worD_none h3 h5] at hK ⊢
        refine in_value hoi rfl (by intro c h; cases h) (fun _ _ => trivial) ?_ (hK q0)
        simp [execOp, Act.eval, t6, q6, go_sem]
      · rw [worD_other L (by decide) (by decide)] at hK
        refine in_value hoi rfl (by intro c h; cases h) (fun _ _ => trivial) ?_ (hK q0)
        simp [execOp, Act.eval, t7, go_sem]
      · have h3 := unlisted hnl
        have h5 : L.getD 5 false = false := by
          apply Classical.byContradiction
          intro h
          have h2 := hcl 4 _ rfl (hcl 5 _ rfl (by simpa using h) ⟨4, .data⟩ (by simp) rfl) ⟨3, .data⟩ (by simp) rfl
          rw [h3] at h2
          cases h2
        have t25 : a'.tmps.getD 25 undef = .slice (some ⟨o, p, none⟩) r r := hnew 1 _ 25 rfl rfl (hdep ⟨1, .data⟩ (by simp) rfl) (by simp)
        have t26 : a'.tmps.getD 26 undef = .slice (some ⟨bw, 0, none⟩) 32 32 := hnew 2 _ 26 rfl rfl (hdep ⟨2, .data⟩ (by simp) rfl) (by simp)
        rw [worD_first (getD_set_self L (by rw [hs]; decide)) (by rw [getD_set_other L (by decide)]; exact h5)] at hK
        rw [worD_none h3 h5]
        refine in_value hoi rfl (by intro c h; cases h) (fun _ _ => trivial) ?_ (hK q0)
        simp [execOp, Act.eval, t25, t26, resolve, invoke, builtin, hcp, goInt, go_sem]
      · have h4 := unlisted hnl
        have h5 : L.getD 5 false = false := by
          apply Classical.byContradiction
          intro h
          have h2 := hcl 5 _ rfl (by simpa using h) ⟨4, .data⟩ (by simp) rfl
          rw [h4] at h2
          cases h2
        have t24 : a'.tmps.getD 24 undef = .slice (some ⟨o, p, none⟩) r r := hnew 0 _ 24 rfl rfl (hdep ⟨0, .data⟩ (by simp) rfl) (by simp)
        have t27 : a'.tmps.getD 27 undef = .int .i64 (m : Int) := hnew 3 _ 27 rfl rfl (hdep ⟨3, .data⟩ (by simp) rfl) (by simp)
        rw [worD_other L (by decide) (by decide)] at hK
        refine in_value hoi rfl (by intro c h; cases h) (fun _ _ => trivial) ?_ (hK q0)
        have hmrN : m ≤ r := by omega
        simp [execOp, Act.eval, t24, t27, go_sem, hmrN, ← hS']
      · have h5 := unlisted hnl
        have t28 : a'.tmps.getD 28 undef = S' := hnew 4 _ 28 rfl rfl (hdep ⟨4, .data⟩ (by simp) rfl) (by simp)
        have h3 : L.getD 3 false = true := hcl 4 _ rfl (hdep ⟨4, .data⟩ (by simp) rfl) ⟨3, .data⟩ (by simp) rfl
        rw [worD_both (getD_set_self L (by rw [hs]; decide))] at hK
        rw [worD_first h3 h5]
        refine in_skip hoi rfl (by intro c h; cases h) (fun _ _ => trivial) ?_ (hK q0)
        subst hS'
        simp [execOp, Act.eval, t6, t28, go_sem, stored, q61, f61]
        rw [← e2]
        rfl
    case hend =>
      intro L q hL
      rw [worD_both (hL 5 (by decide))]
      refine Eq.mpr (congrArg (fun T => Exit.then _ _ Exit.normal { tmps := T, defers := _ } (V2.drewN q)) (show wrote _ _ _ _ _ = #[.pointer (some ⟨g, 0, none⟩), .int .i64 (N : Int), undef, undef, .slice none 0 0, .slice (some ⟨o, 0, none⟩) N N, .pointer (some ⟨o + 1, 0, none⟩), .pointer (some ⟨bw, 0, none⟩), .pointer (some ⟨g, 0, none⟩), .bool false, .bool false, .int .i64 (N : Int), .bool (decide ((N : Int) < 1)), .bool (decide ((N : Int) < 1)), .bool (decide ((N : Int) < 1)), .int .i64 (N : Int), .bool (decide (65536 < (N : Int))), .bool (decide ((N : Int) < 1) || decide (65536 < (N : Int))), .int .i64 (N : Int), .slice (some ⟨o, 0, none⟩) N N, .slice (some ⟨o, 0, none⟩) N N, .pointer (some ⟨g, 0, none⟩), .func (.func 83) #[] #[.pointer (some ⟨o + 2, 0, none⟩)], .agg (x.map W8).toArray, .slice (some ⟨o, p, none⟩) r r, .slice (some ⟨o, p, none⟩) r r, .slice (some ⟨bw, 0, none⟩) 32 32, .int .i64 (m : Int), S', undef, undef, undef, undef, undef, undef, undef, undef, undef, undef, undef, undef, undef] by rfl)) ?_
      dsimp only
      have hoV : OnlyV W V2 o ∨ True := .inr trivial
      have hO1 := HO1.out
      have hw3 := HO.out
      have kf : KeepsFrom W3.heap.size W (V2.drewN q) := by
        rw [← e2]
        exact KeepsFrom.trans (⟨hO1.size, fun k ob hk hh _ => (hO1.block k (Array.getElem?_eq_some_iff.1 hh).1 (fun e => by injection e; omega)).trans hh⟩ : KeepsFrom W3.heap.size W V1) (((KeepsOthers.setCell V1 ⟨o + 1, 0, none⟩ S').from _).trans ⟨Nat.le_refl _, fun _ _ _ h _ => h⟩)
      have hkp : KpS [0, 1, g, o + 2] W (V2.drewN q) := by
        rw [← e2]
        refine ⟨by have := hO1.size; simpa [World.setCell] using this, fun k hk => ?_⟩
        have hko : k ≠ o ∧ k ≠ o + 1 ∧ k < W.heap.size := by
          simp only [List.mem_cons, List.not_mem_nil, or_false] at hk
          have := HI2.out.size
          have := HBW.out
          have := HG.out.2.1
          rcases hk with rfl | rfl | rfl | rfl <;> omega
        exact (Below.heap_setCell V1 ⟨o + 1, 0, none⟩ S' k (by show k ≠ o + 1; exact hko.2.1)).trans (hO1.block k hko.2.2 (fun e => by injection e; omega))
      have hX6 : BxE (o + 1) S' (V2.drewN q) := HQ62.out
      have hrw : RowV 5 (V2.drewN q) o ((seqL (fun i => vIter key val (i + 1)) j).map W8 ++ (xs ++ List.replicate (r - m) (W8 0))) := by
        have h := HROW1.out.far (p := ⟨o + 1, 0, none⟩) (by show o ≠ o + 1; omega) S'
        rw [e2] at h
        exact h
      have hdd : DrbgR (V2.drewN q) g key (vIter key val (j + 1)) calls := by
        have h := HD1.out
        refine ⟨h.hk, h.hv, ?_⟩
        have h2 := h.row.far (p := ⟨o + 1, 0, none⟩) (by show g ≠ o + 1; omega) S'
        rw [e2] at h2
        exact h2
      have hoo : OnlyV w (V2.drewN q) g := by
        have h := (HI2.out.new' hO1 (by omega)).new' ((OnlyV.refl V1 (o + 1)).set 0 S') (by omega)
        rw [e2] at h
        exact h.drewN q
      obtain ⟨U, eU⟩ : ∃ U, V2.drewN q = U := ⟨_, rfl⟩
      rw [eU] at kf hkp hX6 hrw hdd hoo ⊢
      have KF := Lib.hid kf
      have KP := Lib.hid hkp
      have RW := Lib.hid hrw
      have DD := Lib.hid hdd
      have OO := Lib.hid hoo
      have X6 := Lib.hid hX6
      have u6 := hX6.1
      clear kf hkp hrw hdd hoo hoV hO1 hw3 hX6 eU e2 q6 f6 q61 f61 hcp hL q62
      by_cases hfin : r ≤ 32
      · have hmr : m = r := by have := HM.out; omega
        have hSf : S' = .slice (some ⟨o, p, none⟩) 0 0 := by rw [← hS', if_pos hmr.symm, hmr, Nat.sub_self]
        have HSF := Lib.hid hSf
        rw [hSf] at u6
        have HMR := Lib.hid hmr
        clear hS' hSf hmr
        gi_wp2
        refine ⟨KF.out, rfl, ?_, OO.out, ?_, ?_⟩
        · rw [List.length_append, List.length_singleton, HJ.out]
          have := HP.out
          have := HR.out
          omega
        · have h := RW.out
          have hf : bytesL key val N = seqL (fun i => vIter key val (i + 1)) j ++ x.take m := by
            rw [bytesL, ← fillL_eq _ 32 (fun i => vIter_length _ _ (by have := HD.out.hv; exact this) _) (by decide) N (j + 1) (by have := HP.out; have := HR.out; omega), seqL, List.take_append, List.take_of_length_le (by rw [HXS.out.2.2.1]; have := HR.out; omega), HXS.out.2.2.1]
            rw [show N - p = m by have := HR.out; have := HMR.out; omega, ← HXX.out]
          rw [hf, List.map_append, List.map_take, HXS.out.1]
          rw [show r - m = 0 by have := HMR.out; omega] at h
          simpa using h
        · rw [List.length_append, List.length_singleton, HJ.out]
          exact DD.out
      · have hm32 : m = 32 := by have := HM.out; omega
        obtain ⟨r2, hr2⟩ : ∃ r2, r - 32 = r2 := ⟨_, rfl⟩
        have hSf : S' = .slice (some ⟨o, p + 32, none⟩) r2 r2 := by rw [← hS', hm32, if_neg (by omega), hr2]
        have HSF := Lib.hid hSf
        rw [hSf] at u6
        have HM2 := Lib.hid (⟨hm32, hr2, by omega⟩ : m = 32 ∧ r - 32 = r2 ∧ 0 < r2)
        have hr2I : ¬ (r2 : Int) = 0 := by omega
        clear hS' hSf hm32 hr2
        gi_wp2
        refine ⟨KF.out, KP.out, ?_, OO.out, ?_, ?_⟩
        · rw [List.length_append, List.length_singleton, HJ.out]
          have := HP.out
          have := HR.out
          omega
        · rw [List.length_append, List.length_singleton, HJ.out, seqL, List.map_append, List.map_append, List.map_replicate, ← HXX.out, List.append_assoc]
          have h := RW.out
          rw [← HXS.out.1, HM2.out.1, List.take_of_length_le (by rw [HXS.out.2.2.2]; exact Nat.le_refl _)] at h
          rw [show N - 32 * (j + 1) = r - 32 by have := HP.out; have := HR.out; omega]
          exact h
        · rw [List.length_append, List.length_singleton, HJ.out]
          have h := X6.out
          rw [HSF.out] at h
          rw [show 32 * (j + 1) = p + 32 by have := HP.out; omega, show N - (p + 32) = r2 by have := HP.out; have := HR.out; have := HM2.out; omega]
          exact h
  case done =>
    intro D xs W _ h
    exact h.elim
  case stop =>
    rintro D c pre W hD _ ⟨rfl, hl, hO, hrow, hdr⟩ hK
    have hsw := HO.out
    have hDl := (Array.getElem?_eq_some_iff.1 hK).1
    have hu := dupdate_any W g hg1 (key, vIter key val pre.length) calls hdr (HG.out.1.only hO hg1) (HG.out.2.only hO hg1) 0 none 0 0 [] (SlV.nil _ _ _ (by decide)) (fun _ => rfl) (Nat.zero_le _) (by decide)
    rw [show updL (key, vIter key val pre.length) [] = bytesS key val N by rw [bytesS, hl]] at hu
    obtain ⟨kv, hkv⟩ : ∃ kv, bytesS key val N = kv := ⟨_, rfl⟩
    rw [hkv] at hu
    have HU := Lib.hid hu
    have HOO := Lib.hid hO
    have HRW := Lib.hid hrow
    have HKV := Lib.hid hkv
    clear hu hO hrow hdr hl hkv
    gi_wp2_with fail
    refine ⟨trivial, (callsIn_wide.2 HU.out).mono ?_⟩
    rintro e W4 ⟨rfl, hd4, ho4⟩
    have c64 : W4.cell? ⟨g, 64, none⟩ = some (.int .i64 calls) := hd4.calls_
    have f64 := hd4.row.frozen 64
    obtain ⟨W5, e5⟩ : ∃ U, W4.setCell ⟨g, 64, none⟩ (.int .i64 (calls + 1)) = U := ⟨_, rfl⟩
    have hd5 : DrbgR W5 g kv.1 kv.2 (calls + 1) := by rw [← e5]; exact hd4.putCalls _
    have ho5 : OnlyV W W5 g := by rw [← e5]; exact ho4.set 64 _
    have hK5 : W5.heap[D]? = some (.deferred (some [])) := (ho5.block D hDl (fun e => by injection e; omega)).trans hK
    have hr5 : RowV 5 W5 o ((bytesL key val N).map W8) := HRW.out.only ho5 (by omega)
    have hO5 := HOO.out.trans ho5
    have HD5 := Lib.hid hd5
    have HR5 := Lib.hid hr5
    have HO5 := Lib.hid hO5
    have HD9 := Lib.hid (show o ≤ D ∧ D < W5.heap.size from ⟨by omega, (Array.getElem?_eq_some_iff.1 hK5).1⟩)
    clear hd4 ho4 hd5 ho5 hr5 hO5
    gi_wp2
    refine ⟨by simp, .inl ⟨_, _, rfl, run_takeDeferred hK5, ?_⟩⟩
    have hgr := grownBy_putObj' W5 D (.deferred none)
    have hnc : ∀ r, some D = some r → ∃ ob : Obj, W5.heap[r]? = some ob ∧ ob.isCells = false := fun r e => by cases e; exact ⟨_, hK5, rfl⟩
    refine ⟨.slice (some ⟨o, 0, none⟩) N N, by simp [results, Tryd.f38, go_sem], o, rfl, Nat.le_of_eq hsw, HR5.out.kept hgr hnc, ?_, HO5.out.grown hgr (fun r e => by cases e; have := HD9.out; omega)⟩
    rw [HKV.out]
    exact HD5.out.kept hgr hnc
end Go.Proofs.YtejhfmjegmccjaaDoor

/- drbg: Reseed, Left, All; no generator. -/
set_option linter.unusedVariables false
set_option linter.unusedSimpArgs false
namespace Go.Proofs.YtejhfmjegmccjaaDoor
open Go.RowKit Go.Shelf
attribute [local go_sem] Oper.semAt_some

theorem dreseed_nil (w : World) (v : Value) : Calls Tryd.prog 39 #[.pointer none, v] w fun e w' => e = .returned (.tuple #[]) ∧ w = w' := by
  go_enter Tryd.func39, Tryd.ntmps39
  go_wp2
  refine bodyPost_ret (results_none rfl _ _ _) rfl ?_
  exact ⟨rfl, rfl⟩
theorem dleft_nil (w : World) : Calls Tryd.prog 41 #[.pointer none] w fun e w' => e = .returned (.int .i64 0) ∧ w = w' := by
  go_enter Tryd.func41, Tryd.ntmps41
  go_wp2
  go_ret
  exact ⟨rfl, rfl⟩
theorem dleft_any (w : World) (g : Nat) (key val : List (BitVec 8)) (calls : Int) (h : DrbgR w g key val calls) : Calls Tryd.prog 41 #[.pointer (some ⟨g, 0, none⟩)] w fun e w' => e = .returned (.int .i64 calls) ∧ w = w' := by
  have hc := h.calls_
  clear h
  go_enter Tryd.func41, Tryd.ntmps41
  go_wp2
  go_ret
  exact ⟨rfl, rfl⟩
theorem dbytes_nil (w : World) (n : Int) : Calls Tryd.prog 38 #[.pointer none, .int .i64 n] w fun e w' => e = .returned (.slice none 0 0) ∧ w = w' := by
  go_enter Tryd.func38, Tryd.ntmps38
  go_wp2
  go_ret
  exact ⟨rfl, rfl⟩
theorem dbytes_no (w : World) (g : Nat) (n : Int) (h : n < 1 ∨ 65536 < n) : Calls Tryd.prog 38 #[.pointer (some ⟨g, 0, none⟩), .int .i64 n] w fun e w' => e = .returned (.slice none 0 0) ∧ w = w' := by
  by_cases h1 : n < 1
  · clear h
    go_enter Tryd.func38, Tryd.ntmps38
    go_wp2
    go_ret
    exact ⟨rfl, rfl⟩
  · have h2 : 65536 < n := by omega
    clear h
    go_enter Tryd.func38, Tryd.ntmps38
    go_wp2
    go_ret
    exact ⟨rfl, rfl⟩
theorem dall_any (w : World) (p : Option Addr) : Calls Tryd.prog 36 #[.pointer p] w fun e w' => e = .returned (.func (.func 63) #[] #[.pointer (some ⟨w.heap.size, 0, none⟩)]) ∧ BxE w.heap.size (.pointer p) w' ∧ Below w.heap.size w w' := by
  obtain ⟨W1, e1, hB1, b1, s1⟩ := newBox w 47 (.pointer p)
  have HB := Lib.hid hB1
  have H1 := Lib.hid b1
  clear hB1 b1 s1
  go_enter Tryd.func36, Tryd.ntmps36
  go_wp2
  go_ret
  exact ⟨rfl, H1.out, HB.out⟩
set_option maxRecDepth 100000 in
set_option maxHeartbeats 2000000 in
theorem dreseed_any (w : World) (g : Nat) (hg1 : 1 < g) (key val : List (BitVec 8)) (calls : Int) (h : DrbgR w g key val calls) (hGS : StartsG w) (hGR : RootsG w) (B : Nat) (A : Option Addr) (n c : Nat) (data : List (BitVec 8)) (hs : SlV w B A n c (data.map W8)) (hz : A = none → c = 0) (hB : B ≤ g) (hn : n + 1024 ≤ 17592186044416) :
    Calls Tryd.prog 39 #[.pointer (some ⟨g, 0, none⟩), .slice A n c] w fun e w' => e = .returned (.tuple #[]) ∧ DrbgR w' g (updL (key, val) data).1 (updL (key, val) data).2 0 ∧ OnlyV w w' g := by
  have hu := dupdate_any w g hg1 (key, val) calls h hGS hGR B A n c data hs hz hB hn
  obtain ⟨kv, hkv⟩ : ∃ kv, updL (key, val) data = kv := ⟨_, rfl⟩
  rw [hkv] at hu ⊢
  have HU := Lib.hid hu
  clear hu h hGS hGR hs hkv
  go_enter Tryd.func39, Tryd.ntmps39
  go_wp2_with fail
  refine HU.out.mono ?_
  rintro e W4 ⟨rfl, hd4, ho4⟩
  have c64 : W4.cell? ⟨g, 64, none⟩ = some (.int .i64 calls) := hd4.calls_
  have f64 := hd4.row.frozen 64
  have hd5 := hd4.putCalls 0
  have ho5 : OnlyV w (W4.setCell ⟨g, 64, none⟩ (.int .i64 0)) g := ho4.set 64 _
  have HD5 := Lib.hid hd5
  have HO5 := Lib.hid ho5
  clear hd4 ho4 hd5 ho5
  go_wp2
  refine bodyPost_end (results_none rfl _ _ _) rfl ?_
  exact ⟨rfl, HD5.out, HO5.out⟩
/-- no generator: nothing comes -/
theorem all1_nil (nn : Nat) (hn : 1 ≤ nn) (w : World) (bx : Nat) (hb : BxE bx (.pointer none) w) (Kp : World → World → Prop) :
    SeqP Fence.wide nn Tryd.prog 63 #[.pointer (some ⟨bx, 0, none⟩)] (fun x : BitVec 8 => #[W8 x]) (fun _ _ _ => True) Kp (fun xs => xs = []) (fun _ => False) 0 w := by
  intro l J Jx W hW hJ hJx hY h0
  have c1 := (hb.later hW).1
  clear hY hb
  refine callsIn_of_wp Tryd.func63 rfl trivial ?_ rfl
  simp only [Tryd.ntmps63, List.size_toArray, List.length_cons, List.length_nil, Nat.reduceAdd, Nat.reduceSub, Array.replicate_succ, Array.replicate_zero, List.push_toArray, List.append_toArray, List.nil_append, List.cons_append]
  gi_wp2
  refine bodyPost_ret (results_none rfl _ _ _) rfl ?_
  exact ⟨⟨_, rfl⟩, .inl ⟨[], rfl, h0⟩⟩
end Go.Proofs.YtejhfmjegmccjaaDoor

/- limb.Cmp. -/
namespace Go.Proofs.YtejhfmjegmccjaaDoor
open Go.RowKit Go.Shelf

set_option maxHeartbeats 400000 in
theorem cmpU_any (x y : Nat) (w : World) :
    Calls Tryd.prog 106 #[.int .u64 x, .int .u64 y] w fun e w' => e = .returned (.int .i64 (ncmp x y)) ∧ w = w' := by
  have hxx : ((x : Int) != x) = false := by simp
  have hyy : ((y : Int) != y) = false := by simp
  rcases Nat.lt_trichotomy x y with h | h | h
  · rw [ncmp_lt h]
    have h1 : (x : Int) < y := by omega
    go_enter Tryd.func106, Tryd.ntmps106
    go_wp2
    go_ret
    exact ⟨rfl, rfl⟩
  · subst h
    rw [ncmp_eq]
    go_enter Tryd.func106, Tryd.ntmps106
    go_wp2
    go_ret
    exact ⟨rfl, rfl⟩
  · rw [ncmp_gt h]
    have h1 : (y : Int) < x := by omega
    go_enter Tryd.func106, Tryd.ntmps106
    go_wp2
    go_ret
    exact ⟨rfl, rfl⟩

theorem cmpI_any (x y : Nat) (w : World) :
    Calls Tryd.prog 104 #[.int .i64 (x : Int), .int .i64 (y : Int)] w fun e w' => e = .returned (.int .i64 (ncmp x y)) ∧ w = w' := by
  refine (Tryd.cmp_Compare_int x y w).mono fun e w' ⟨he, hw⟩ => ⟨?_, hw.symm⟩
  rw [he]
  unfold Lib.compareInt ncmp
  congr 2
  repeat' split
  all_goals first | rfl | omega

attribute [local go_sem] Oper.semAt_some

theorem sl_trim_of {w w' : World} {B m n c : Nat} {A : Option Addr} {xs : List Nat} (h : Sl w B A n c xs) (h' : Sl w' B A m c (trimmed xs)) : Sl w B A m c (trimmed xs) := by
  have e : m = trimL xs n := by rw [h'.len, trimmed_length, h.len]
  subst e
  exact sl_trim h

theorem mem_down {n k i : Nat} {l : List (Ix n)} (h : l.map (·.1) = downL n k) (h1 : n ≤ i + k) (h2 : i < n) : ∃ x ∈ l, x.1 = i := by
  have hm : i ∈ l.map (·.1) := by
    rw [h]
    exact List.mem_map.2 ⟨n - 1 - i, List.mem_range.2 (by omega), by omega⟩
  obtain ⟨x, hx, e⟩ := List.mem_map.1 hm
  exact ⟨x, hx, e⟩

theorem cmp_at {B : Nat} {xs ys : List Nat} {m : Nat} (hd : Dg B xs) (hd2 : Dg B ys) (hl : xs.length = ys.length) (hm : m < xs.length) (hne : xs[m]?.getD 0 ≠ ys[m]?.getD 0) (he : ∀ i, m < i → i < xs.length → xs[i]? = ys[i]?) :
    ncmp (V B xs) (V B ys) = ncmp (xs[m]?.getD 0) (ys[m]?.getD 0) := by
  obtain ⟨x, hx⟩ := get_lt hm
  obtain ⟨y, hy⟩ := get_lt (zs := ys) (k := m) (by omega)
  have hdr : xs.drop (m + 1) = ys.drop (m + 1) := by
    apply List.ext_getElem?
    intro j
    rw [List.getElem?_drop, List.getElem?_drop]
    rcases Nat.lt_or_ge (m + 1 + j) xs.length with h | h
    · exact he _ (by omega) h
    · rw [List.getElem?_eq_none h, List.getElem?_eq_none (by omega)]
  rw [hx, hy] at hne ⊢
  simp only [Option.getD_some] at hne ⊢
  rcases Nat.lt_or_gt_of_ne hne with h | h
  · rw [ncmp_lt h, ncmp_lt (cmp_lt hd hl hx hy hdr h)]
  · rw [ncmp_gt h, ncmp_gt (cmp_lt hd2 hl.symm hy hx hdr.symm h)]

theorem ncmp_ne {a b : Nat} (h : a ≠ b) : (ncmp a b != 0) = true := by
  rcases Nat.lt_or_gt_of_ne h with h | h
  · rw [ncmp_lt h]; decide
  · rw [ncmp_gt h]; decide

set_option maxRecDepth 100000 in
set_option maxHeartbeats 2000000 in
theorem lcmp_any (w : World) (A1 : Option Addr) (n1 c1 : Nat) (xs : List Nat) (hs1 : Sl w w.heap.size A1 n1 c1 xs) (A2 : Option Addr) (n2 c2 : Nat) (ys : List Nat) (hs2 : Sl w w.heap.size A2 n2 c2 ys) (hd : Dg b64 xs) (hd2 : Dg b64 ys) :
    Calls Tryd.prog 88 #[.slice A1 n1 c1, .slice A2 n2 c2] w fun e w' => RetV w (.int .i64 (ncmp (V b64 xs) (V b64 ys))) e w' := by
  have hX := trimmed_nm hd
  have hY := trimmed_nm hd2
  have hs3 := sl_trim hs1
  have hs4 := sl_trim hs2
  refine (callsIn_wide (n := 9)).1 ?_
  refine callsIn_of_wp_marks Tryd.func88 rfl trivial ?_ rfl
  simp only [Tryd.ntmps88, List.size_toArray, List.length_cons, List.length_nil, Nat.reduceAdd, Nat.reduceSub, Array.replicate_succ, Array.replicate_zero, List.push_toArray, List.append_toArray, List.nil_append, List.cons_append]
  gi_wp2_with fail
  refine ⟨trivial, callsIn_wide.2 ((ltrim_sl _ w.heap.size A1 n1 c1 xs (hs1.below ((Below.refl _ _).alloc (Nat.le_refl _) _))).mono ?_)⟩
  rintro e w1 ⟨m1, rfl, h1, hm1, rfl⟩
  gi_wp2_with fail
  refine ⟨trivial, callsIn_wide.2 ((ltrim_sl _ w.heap.size A2 n2 c2 ys (hs2.below ((Below.refl _ _).alloc (Nat.le_refl _) _))).mono ?_)⟩
  rintro e w1 ⟨m2, rfl, h2, hm2, rfl⟩
  gi_wp2_with fail
  refine ⟨trivial, callsIn_wide.2 ((cmpI_any m1 m2 _).mono ?_)⟩
  rintro e w1 ⟨rfl, rfl⟩
  by_cases hne : m1 = m2
  · subst hne
    have e0 : ncmp m1 m1 = 0 := ncmp_eq m1
    rw [e0]
    gi_wp2_with fail
    refine ⟨trivial, (back_in Fence.wide _ trivial rfl _ _ _ _).mono ?_⟩
    rintro e w1 ⟨rfl, rfl⟩
    gi_wp2_with fail
    have HX := Lib.hid hX
    have HY := Lib.hid hY
    have HE := Lib.hid e0
    clear e0 hX hY
    have bR := Boxed.new w 3 (.int .i64 0)
    have bY := Boxed.new (w.alloc (.cells #[.int .i64 0] 3)) 57 (.slice A2 m1 c2)
    have bX := Boxed.new ((w.alloc (.cells #[.int .i64 0] 3)).alloc (.cells #[.slice A2 m1 c2] 57)) 57 (.slice A1 m1 c1)
    have bR2 := (bR.alloc (.cells #[.slice A2 m1 c2] 57)).alloc (.cells #[.slice A1 m1 c1] 57)
    have bY2 := bY.alloc (.cells #[.slice A1 m1 c1] 57)
    have hB0 : Below w.heap.size w (((w.alloc (.cells #[.int .i64 0] 3)).alloc (.cells #[.slice A2 m1 c2] 57)).alloc (.cells #[.slice A1 m1 c1] 57)) := (((Below.refl _ w).alloc (Nat.le_refl _) _).alloc (by simp) _).alloc (by simp; omega) _
    obtain ⟨W0, hW0⟩ : ∃ W0, (((w.alloc (.cells #[.int .i64 0] 3)).alloc (.cells #[.slice A2 m1 c2] 57)).alloc (.cells #[.slice A1 m1 c1] 57)) = W0 := ⟨_, rfl⟩
    have hsz : W0.heap.size = w.heap.size + 3 := by rw [← hW0]; simp
    rw [hW0] at bX bR2 bY2 hB0 ⊢
    simp only [World.size_alloc] at bX bR2 bY2
    have h1' : Sl W0 w.heap.size A1 m1 c1 (trimmed xs) := (sl_trim_of hs1 h1).below hB0
    have h2' : Sl w w.heap.size A2 m1 c2 (trimmed ys) := sl_trim_of hs2 h2
    have HSZ := Lib.hid hsz
    clear hsz hW0 bR bY h1 h2 hs1 hs2 hs3 hs4
    refine wpIn_rangeFunc_ownG rfl (by omega) (gf := 114) (lb := #[.pointer (some ⟨w.heap.size + 1 + 1, 0, none⟩)]) rfl trivial (enters_of Tryd.func114 (by kernel_rfl) rfl)
      (back_stops Fence.wide _ trivial rfl (by omega) (w.heap.size + 1 + 1) w.heap.size m1 c1 A1 (trimmed xs) W0 (by rw [HSZ.out]; omega) (by rw [HSZ.out]; omega) bX.cell h1') KpB.trans (KpB.put (by rw [HSZ.out]; omega) (by rw [HSZ.out]; omega)) (Below.refl _ _) (fun _ => rfl)
      (fun pre W => ((∀ i ∈ pre, (trimmed xs)[i.1]? = (trimmed ys)[i.1]?) ∧ W.cell? ⟨w.heap.size, 0, none⟩ = some (.int .i64 0) ∧ W.frozen? ⟨w.heap.size, 0, none⟩ = false ∧ W.cell? ⟨w.heap.size + 1, 0, none⟩ = some (.slice A2 m1 c2)) ∧ Below w.heap.size w W)
      (fun c pre W => (c = .ret ∧ ∃ ini last, pre = ini ++ [last] ∧ (∀ i ∈ ini, (trimmed xs)[i.1]? = (trimmed ys)[i.1]?) ∧ (trimmed xs)[last.1]?.getD 0 ≠ (trimmed ys)[last.1]?.getD 0 ∧ W.cell? ⟨w.heap.size, 0, none⟩ = some (.int .i64 (ncmp ((trimmed xs)[last.1]?.getD 0) ((trimmed ys)[last.1]?.getD 0)))) ∧ Below w.heap.size w W)
      (OwnFrom.and (Own.from (fun s A B row hs hg hr => ⟨hs.1, cell_kept hs.2.1 hg hr, (frozen_kept hs.2.1 hg hr).trans hs.2.2.1, cell_kept hs.2.2.2 hg hr⟩) _) (ownFrom_below (Nat.le_refl _) (by rw [HSZ.out]; omega)))
      (fun c => OwnFrom.and (Own.from (fun s A B row hs hg hr => by obtain ⟨hc, ini, last, e1, e2, e3, e4⟩ := hs; exact ⟨hc, ini, last, e1, e2, e3, cell_kept e4 hg hr⟩) _) (ownFrom_below (Nat.le_refl _) (by rw [HSZ.out]; omega)))
      ⟨⟨by simp, bR2.cell, bR2.frozen, bY2.cell⟩, hB0⟩
      (fun x => { tmps := #[.slice A1 n1 c1, .slice A2 n2 c2, undef, undef, .pointer (some ⟨w.heap.size, 0, none⟩), .slice A1 m1 c1, .pointer (some ⟨w.heap.size + 1, 0, none⟩), .int .i64 0, .int .i64 (x.1 : Int), .int .u64 (((trimmed xs)[x.1]?.getD 0 : Nat) : Int), undef, .slice A1 n1 c1, .slice A1 m1 c1, .slice A2 n2 c2, .slice A2 m1 c2, .slice A1 m1 c1, .int .i64 (m1 : Int), .slice A2 m1 c2, .int .i64 (m1 : Int), .int .i64 0, .int .i64 0, .bool false, undef, .slice A1 m1 c1, .func (.func 114) #[] #[.pointer (some ⟨w.heap.size + 1 + 1, 0, none⟩)], .int .i64 (x.1 : Int), .int .u64 (((trimmed xs)[x.1]?.getD 0 : Nat) : Int), undef, undef, undef, undef, undef, undef, undef, undef, undef], defers := [] }) ?assign ?body ?done ?stop
    case assign =>
      intro l x W K hK
      gi_wp2
      exact hK
    case body =>
      rintro l pre x W ⟨⟨hp, hcr, hfr, hcy⟩, hB⟩ _
      obtain ⟨i, hi⟩ := x
      obtain ⟨b, off, y, rfl, hb, hy, hc⟩ := (h2'.below hB).at_ hi
      obtain ⟨xv, hxv⟩ : ∃ xv, (trimmed xs)[i]? = some xv := get_lt (by rw [← h1'.len]; exact hi)
      have HI := Lib.hid hp
      have HXV := Lib.hid hxv
      have HYV := Lib.hid hy
      clear hp hy
      dsimp only
      rw [hxv]
      dsimp only [Option.getD_some]
      clear hxv
      have hii : (i : Int) < m1 := by omega
      by_cases hxy : xv = y
      · subst hxy
        have e1 := ncmp_eq xv
        have HE1 := Lib.hid e1
        clear e1
        gi_wp2_with (refine ⟨trivial, ?_⟩; gi_at_call 106; refine (CallsIn.inRound l (callsIn_wide.2 (cmpU_any xv xv W))).mono ?_; rw [HE1.out]; rintro e w' ⟨rfl, rfl⟩)
        exact ⟨KeepsFrom.refl _ _, KpB.refl _ _ _, ⟨fun j hj => (List.mem_append.1 hj).elim (HI.out j) (fun e => by simp at e; subst e; exact HXV.out.trans HYV.out.symm), hcr, hfr, hcy⟩, hB⟩
      · have hnz := ncmp_ne hxy
        obtain ⟨cv, hcv⟩ : ∃ cv, ncmp xv y = cv := ⟨_, rfl⟩
        rw [hcv] at hnz
        have HCV := Lib.hid hcv
        clear hcv
        gi_wp2_with (refine ⟨trivial, ?_⟩; gi_at_call 106; refine (CallsIn.inRound l (callsIn_wide.2 (cmpU_any xv y W))).mono ?_; rw [HCV.out]; rintro e w' ⟨rfl, rfl⟩)
        have hcs := World.cell?_setCell_same' W ⟨w.heap.size, 0, none⟩ (.int .i64 cv) (by rw [hcr]; rfl)
        exact ⟨(KeepsOthers.setCell _ _ _).from _, ⟨rfl, pre, ⟨i, hi⟩, rfl, HI.out, by rw [HXV.out, HYV.out]; exact hxy, by rw [HXV.out, HYV.out]; simp only [Option.getD_some]; rw [HCV.out]; exact hcs⟩, hB.setCell (p := ⟨w.heap.size, 0, none⟩) (Nat.le_refl _) _⟩
    case done =>
      rintro D ds W hD hds ⟨⟨hp, hcr, hfr, hcy⟩, hB⟩ hK
      have HDS := Lib.hid hds
      have HP := Lib.hid hp
      clear hds hp
      gi_wp2
      have hK' := (KeepsOthers.setCell W ⟨w.heap.size, 0, none⟩ (.int .i64 0)).same D _ hK rfl
      refine ⟨by simp, .inl ⟨_, _, rfl, run_takeDeferred hK', ?_⟩⟩
      have hc5 := cell_kept (World.cell?_setCell_same' W ⟨w.heap.size, 0, none⟩ (.int .i64 0) (by rw [hcr]; rfl)) (grownBy_putObj' _ D (.deferred none)) (fun r e => by cases e; exact ⟨_, hK', rfl⟩)
      have hxy : trimmed xs = trimmed ys := by
        apply List.ext_getElem?
        intro j
        rcases Nat.lt_or_ge j m1 with h | h
        · obtain ⟨x, hx, rfl⟩ := mem_down HDS.out (i := j) (by omega) h
          exact HP.out x hx
        · rw [List.getElem?_eq_none (by rw [← h1'.len]; exact h), List.getElem?_eq_none (by rw [← h2'.len]; exact h)]
      have hz : ncmp (V b64 xs) (V b64 ys) = 0 := by rw [← HX.out.2.2, ← HY.out.2.2, hxy, ncmp_eq]
      refine ⟨.int .i64 0, ?_, by rw [hz], (hB.setCell (p := ⟨w.heap.size, 0, none⟩) (Nat.le_refl _) _).trans (belowK_b (w := W0) (by rw [HSZ.out]; omega) _ D _ _ hD hK' rfl rfl)⟩
      simp [results, Tryd.f88, go_sem, hc5]
    case stop =>
      rintro D c pre W hD ⟨k, hk, hkp⟩ ⟨⟨rfl, ini, last, e1, e2, e3, hcr⟩, hB⟩ hK
      have HKP := Lib.hid hkp
      have HE1 := Lib.hid e1
      have HE2 := Lib.hid e2
      have HE3 := Lib.hid e3
      clear hkp e1 e2 e3
      obtain ⟨cv, hcv⟩ : ∃ cv, ncmp ((trimmed xs)[last.1]?.getD 0) ((trimmed ys)[last.1]?.getD 0) = cv := ⟨_, rfl⟩
      rw [hcv] at hcr
      have HCV := Lib.hid hcv
      clear hcv
      gi_wp2
      refine ⟨by simp, .inl ⟨_, _, rfl, run_takeDeferred hK, ?_⟩⟩
      have hc5 := cell_kept hcr (grownBy_putObj' _ D (.deferred none)) (fun r e => by cases e; exact ⟨_, hK, rfl⟩)
      have hfin : ncmp (V b64 xs) (V b64 ys) = cv := by
        have hkp := HKP.out
        rw [HE1.out] at hkp
        obtain ⟨k', rfl⟩ : ∃ k', k = k' + 1 := by
          cases k with
          | zero => simp [downL] at hkp
          | succ k' => exact ⟨k', rfl⟩
        rw [downL_succ, List.map_append] at hkp
        obtain ⟨hini, hlast⟩ := List.append_inj' hkp rfl
        have hl : last.1 = m1 - 1 - k' := by simpa using hlast
        rw [← HCV.out, ← HX.out.2.2, ← HY.out.2.2]
        refine cmp_at HX.out.1 HY.out.1 (by rw [← h1'.len, ← h2'.len]) (by rw [← h1'.len]; exact last.2) HE3.out (fun i hi1 hi2 => ?_)
        rw [← h1'.len] at hi2
        obtain ⟨x, hx, rfl⟩ := mem_down hini (i := i) (by omega) hi2
        exact HE2.out x hx
      refine ⟨.int .i64 cv, ?_, by rw [hfin], hB.trans (belowK_b (w := W0) (by rw [HSZ.out]; omega) _ D _ _ hD hK rfl rfl)⟩
      simp [results, Tryd.f88, go_sem, hc5]
  · have hl1 := h1.len
    have hl2 := h2.len
    have e0 : ncmp m1 m2 = ncmp (V b64 xs) (V b64 ys) := by
      rw [← hX.2.2, ← hY.2.2]
      rcases Nat.lt_or_gt_of_ne hne with h | h
      · rw [ncmp_lt h, ncmp_lt (lt_of_length hX.1 (by decide) hY.2.1 (by rw [← hl1, ← hl2]; exact h))]
      · rw [ncmp_gt h, ncmp_gt (lt_of_length hY.1 (by decide) hX.2.1 (by rw [← hl1, ← hl2]; exact h))]
    have hnz := ncmp_ne hne
    obtain ⟨cv, hcv⟩ : ∃ cv, ncmp m1 m2 = cv := ⟨_, rfl⟩
    rw [hcv] at hnz
    have HCV := Lib.hid hcv
    have HE := Lib.hid e0
    rw [hcv]
    clear hcv e0 hl1 hl2
    gi_wp2
    refine ⟨.int .i64 cv, ?_, by rw [← HE.out, HCV.out], ?_⟩
    · simp [results, Tryd.f88, go_sem]
    · exact ((Below.refl _ w).alloc (Nat.le_refl _) _).alloc (by simp) _
end Go.Proofs.YtejhfmjegmccjaaDoor

/- limb.Sub. -/
namespace Go.Proofs.YtejhfmjegmccjaaDoor
open Go.RowKit

theorem len_le_of {B : Nat} {a b : List Nat} {N M : Nat} (hB : 1 < B) (ha : Nm B a N) (hb : Nm B b M) (h : N ≤ M) : a.length ≤ b.length := by
  rcases Nat.lt_or_ge b.length a.length with hl | hl
  · have := lt_of_length hb.1 hB ha.2.1 hl
    rw [ha.2.2, hb.2.2] at this
    omega
  · exact hl

/-- a slice and true -/
def RetNB (B : Nat) (w : World) (k : Nat) (e : Ending) (w' : World) : Prop :=
  ∃ xs A n c, Nm B xs k ∧ e = .returned (.tuple #[.slice A n c, .bool true]) ∧ Sl w' w'.heap.size A n c xs ∧ Below w.heap.size w w'

end Go.Proofs.YtejhfmjegmccjaaDoor

/- (the laws for regions that draw their order lie in Reg2) -/

/- limb.Of, shortQuo. -/
namespace Go.Proofs.YtejhfmjegmccjaaDoor
open Go.RowKit Go.Shelf

theorem keeps_drewN {B : Nat} {W W' : World} (h : KeepsFrom B W W') (q : Nat) : KeepsFrom B W (W'.drewN q) := ⟨h.size, h.same⟩
theorem heap_new_row (w : World) (x : Nat) : Row (w.alloc (.cells #[.int .u64 (x : Int)] 60)) w.heap.size [x] := heap_alloc_new w _

theorem of_any (x : Nat) (hx : x < b64) (w : World) :
    Calls Tryd.prog 108 #[.int .u64 x] w fun e w' => RetN b64 w x e w' := by
  have hR := heap_new_row w x
  have hsl := hR.sl (by simp)
  have HX := Lib.hid hx
  clear hx
  go_enter Tryd.func108, Tryd.ntmps108
  go_wp2_with (go_at_call 85; refine (ltrim_sl _ _ _ _ _ [x] hsl).mono ?_; rintro e w1 ⟨m, rfl, h1, h2, rfl⟩)
  go_ret
  exact retN_trim h1 (fun y hy => by simp at hy; subst hy; exact HX.out) (by simp [V]) ((Below.refl _ _).alloc (Nat.le_refl _) _)

theorem Row.alloc {w : World} {g : Nat} {zs : List Nat} (h : Row w g zs) (o : Obj) : Row (w.alloc o) g zs := (Below.heap_alloc w o g h.lt).trans h
theorem row_kept {A B : World} {g : Nat} {zs : List Nat} {row : Option Nat} (h : Row A g zs) (hg : A.grownBy B row) (hr : ∀ r, row = some r → ∃ o, A.heap[r]? = some o ∧ o.isCells = false) : Row B g zs := by
  refine (hg.block g h.lt ?_).trans h
  intro e
  obtain ⟨o, ho, hc⟩ := hr g e.symm
  unfold Row at h
  rw [h] at ho
  cases ho
  cases hc

theorem of_exact (x : Nat) (w : World) :
    Calls Tryd.prog 108 #[.int .u64 x] w fun e w' => e = .returned (.slice (some ⟨w.heap.size, 0, none⟩) (trimL [x] 1) 1) ∧ w' = w.alloc (.cells #[.int .u64 (x : Int)] 60) := by
  have hR := heap_new_row w x
  have hsl := hR.sl (by simp)
  have ht := ltrim_any (w.alloc (.cells #[.int .u64 (x : Int)] 60)) _ _ _ _ [x] hsl
  obtain ⟨tl, htl⟩ : ∃ tl, trimL [x] 1 = tl := ⟨_, rfl⟩
  simp only [List.length_singleton] at ht
  rw [htl] at ht ⊢
  have HT := Lib.hid ht
  clear ht htl
  go_enter Tryd.func108, Tryd.ntmps108
  go_wp2_with (go_at_call 85; refine HT.out.mono ?_; rintro e w1 ⟨rfl, rfl⟩)
  go_ret
  exact ⟨rfl, rfl⟩

/-- short division, as it goes over the limbs -/
def sqStep (d : Nat) (xs : List Nat) (s : List Nat × Nat) (i : Nat) : List Nat × Nat :=
  (s.1.set i ((s.2 * b64 + xs[i]?.getD 0) / d), (s.2 * b64 + xs[i]?.getD 0) % d)
def sq (d : Nat) (xs : List Nat) (n : Nat) (l : List Nat) : List Nat × Nat := l.foldl (sqStep d xs) (List.replicate n 0, 0)
theorem sq_snoc (d : Nat) (xs : List Nat) (n : Nat) (l : List Nat) (i : Nat) : sq d xs n (l ++ [i]) = sqStep d xs (sq d xs n l) i := by simp [sq]

attribute [local go_sem] Oper.semAt_some

set_option maxRecDepth 100000 in
set_option maxHeartbeats 2000000 in
theorem shortQuo_any (w : World) (B : Nat) (hB : B = w.heap.size) (A : Option Addr) (n c : Nat) (xs : List Nat) (hs : Sl w B A n c xs) (hd : Dg b64 xs) (h1 : n ≤ 17592186044416) (d : Nat) (hd0 : 0 < d) (hdl : d < b64)
    (Ok : Nat → Prop) (hOk0 : Ok 0) (hOk : ∀ r x, Ok r → x < b64 → 1 < n → Ok ((r * b64 + x) % d))
    (hdiv : ∀ (r x : Nat) (W : World), Ok r → x < b64 → Calls Tryd.prog 107 #[.int .u64 r, .int .u64 x, .int .u64 d] W fun e W' => e = .returned (.tuple #[.int .u64 (((r * b64 + x) / d : Nat) : Int), .int .u64 (((r * b64 + x) % d : Nat) : Int)]) ∧ ∃ q, W' = W.drewN q) :
    Calls Tryd.prog 90 #[.slice A n c, .int .u64 d] w fun e w' =>
      ∃ A1 m1 c1 q A2 m2 c2 r, e = .returned (.tuple #[.slice A1 m1 c1, .slice A2 m2 c2]) ∧ Sl w' w'.heap.size A1 m1 c1 q ∧ Sl w' w'.heap.size A2 m2 c2 r ∧ Below w.heap.size w w' ∧
        Nm b64 q (V b64 (sq d xs n (downL n n)).1) ∧ Nm b64 r (sq d xs n (downL n n)).2 := by
  subst hB
  refine (callsIn_wide (n := 9)).1 ?_
  refine callsIn_of_wp_marks Tryd.func90 rfl trivial ?_ rfl
  simp only [Tryd.ntmps90, List.size_toArray, List.length_cons, List.length_nil, Nat.reduceAdd, Nat.reduceSub, Array.replicate_succ, Array.replicate_zero, List.push_toArray, List.append_toArray, List.nil_append, List.cons_append]
  have hlc := hs.cap
  have hmx := hs.max
  obtain ⟨Z, hZ⟩ : ∃ Z : Array Value, Z = (List.map U (List.replicate n 0)).toArray := ⟨_, rfl⟩
  have HZ := Lib.hid hZ
  clear hZ
  gi_wp2_with (gi_at_make; refine wl_make_in rfl _ _ Tryd.underlying57 rfl _ n rfl rfl (by omega) Z HZ.out ?_)
  refine ⟨trivial, (back_in Fence.wide _ trivial rfl _ _ _ _).mono ?_⟩
  rintro e w1 ⟨rfl, rfl⟩
  gi_wp2_with fail
  have b1 := Boxed.new w 60 (.int .u64 (d : Int))
  have b2 := Boxed.new (w.alloc (.cells #[.int .u64 (d : Int)] 60)) 57 (.slice (some ⟨w.heap.size + 1 + 1, 0, none⟩) n n)
  have r3 : Row (((w.alloc (.cells #[.int .u64 (d : Int)] 60)).alloc (.cells #[.slice (some ⟨w.heap.size + 1 + 1, 0, none⟩) n n] 57)).alloc (.cells Z 60)) (w.heap.size + 1 + 1) (List.replicate n 0) := by
    have h := heap_alloc_new ((w.alloc (.cells #[.int .u64 (d : Int)] 60)).alloc (.cells #[.slice (some ⟨w.heap.size + 1 + 1, 0, none⟩) n n] 57)) (.cells Z 60)
    simp only [World.size_alloc] at h
    unfold Row
    rw [h, HZ.out]
  have b4 := Boxed.new (((w.alloc (.cells #[.int .u64 (d : Int)] 60)).alloc (.cells #[.slice (some ⟨w.heap.size + 1 + 1, 0, none⟩) n n] 57)).alloc (.cells Z 60)) 60 (.int .u64 0)
  have b5 := Boxed.new ((((w.alloc (.cells #[.int .u64 (d : Int)] 60)).alloc (.cells #[.slice (some ⟨w.heap.size + 1 + 1, 0, none⟩) n n] 57)).alloc (.cells Z 60)).alloc (.cells #[.int .u64 0] 60)) 57 (.slice A n c)
  have b1' := (((b1.alloc (.cells #[.slice (some ⟨w.heap.size + 1 + 1, 0, none⟩) n n] 57)).alloc (.cells Z 60)).alloc (.cells #[.int .u64 0] 60)).alloc (.cells #[.slice A n c] 57)
  have b2' := ((b2.alloc (.cells Z 60)).alloc (.cells #[.int .u64 0] 60)).alloc (.cells #[.slice A n c] 57)
  have r3' := (r3.alloc (.cells #[.int .u64 0] 60)).alloc (.cells #[.slice A n c] 57)
  have b4' := b4.alloc (.cells #[.slice A n c] 57)
  have hB0 : Below w.heap.size w (((((w.alloc (.cells #[.int .u64 (d : Int)] 60)).alloc (.cells #[.slice (some ⟨w.heap.size + 1 + 1, 0, none⟩) n n] 57)).alloc (.cells Z 60)).alloc (.cells #[.int .u64 0] 60)).alloc (.cells #[.slice A n c] 57)) :=
    (((((Below.refl _ w).alloc (Nat.le_refl _) _).alloc (by simp) _).alloc (by simp; omega) _).alloc (by simp; omega) _).alloc (by simp; omega) _
  obtain ⟨W0, hW0⟩ : ∃ W0, (((((w.alloc (.cells #[.int .u64 (d : Int)] 60)).alloc (.cells #[.slice (some ⟨w.heap.size + 1 + 1, 0, none⟩) n n] 57)).alloc (.cells Z 60)).alloc (.cells #[.int .u64 0] 60)).alloc (.cells #[.slice A n c] 57)) = W0 := ⟨_, rfl⟩
  have hsz : W0.heap.size = w.heap.size + 5 := by rw [← hW0]; simp
  rw [hW0] at b1' b2' r3' b4' b5 hB0 ⊢
  simp only [World.size_alloc] at b1' b2' r3' b4' b5
  have HSZ := Lib.hid hsz
  clear hsz hW0 b1 b2 r3 b4
  have hsx := hs.below hB0
  refine wpIn_rangeFunc_ownG rfl (by omega) (gf := 114) (lb := #[.pointer (some ⟨w.heap.size + 1 + 1 + 1 + 1, 0, none⟩)]) rfl trivial (enters_of Tryd.func114 (by kernel_rfl) rfl)
    (back_stops Fence.wide _ trivial rfl (by omega) (w.heap.size + 1 + 1 + 1 + 1) w.heap.size n c A xs W0 (by rw [HSZ.out]; omega) (by rw [HSZ.out]; omega) b5.cell hsx) KpB.trans (KpB.put (by rw [HSZ.out]; omega) (by rw [HSZ.out]; omega)) (Below.refl _ _) (fun _ => rfl)
    (fun pre W => (∃ zs r, sq d xs n (pre.map (·.1)) = (zs, r) ∧ zs.length = n ∧ Dg b64 zs ∧ r < d ∧ (pre.length < n → Ok r) ∧ Row W (w.heap.size + 1 + 1) zs ∧ W.cell? ⟨w.heap.size, 0, none⟩ = some (.int .u64 (d : Int)) ∧ W.cell? ⟨w.heap.size + 1, 0, none⟩ = some (.slice (some ⟨w.heap.size + 1 + 1, 0, none⟩) n n) ∧ W.frozen? ⟨w.heap.size + 1, 0, none⟩ = false ∧
      W.cell? ⟨w.heap.size + 1 + 1 + 1, 0, none⟩ = some (.int .u64 (r : Int)) ∧ W.frozen? ⟨w.heap.size + 1 + 1 + 1, 0, none⟩ = false) ∧ Below w.heap.size w W)
    (fun _ _ _ => False)
    (OwnFrom.and (Own.from (fun s A B row hs hg hr => by obtain ⟨zs, r, e1, e2, e3, e4, e5, e6, e7, e8, e9, e10, e11⟩ := hs; exact ⟨zs, r, e1, e2, e3, e4, e5, row_kept e6 hg hr, cell_kept e7 hg hr, cell_kept e8 hg hr, (frozen_kept e8 hg hr).trans e9, cell_kept e10 hg hr, (frozen_kept e10 hg hr).trans e11⟩) _) (ownFrom_below (Nat.le_refl _) (by rw [HSZ.out]; omega)))
    (fun _ _ _ _ _ hs _ _ => hs)
    ⟨⟨_, 0, rfl, by simp, dg_zeros b64_pos _, hd0, fun _ => hOk0, r3', b1'.cell, b2'.cell, b2'.frozen, b4'.cell, b4'.frozen⟩, hB0⟩
    (fun x => { tmps := #[.slice A n c, .int .u64 (d : Int), undef, .pointer (some ⟨w.heap.size, 0, none⟩), .pointer (some ⟨w.heap.size + 1, 0, none⟩), .slice none 0 0, .pointer (some ⟨w.heap.size + 1 + 1 + 1, 0, none⟩), .int .i64 (x.1 : Int), .int .u64 ((xs[x.1]?.getD 0 : Nat) : Int), .slice A n c, .int .i64 (n : Int), .slice (some ⟨w.heap.size + 1 + 1, 0, none⟩) n n, .slice A n c, .func (.func 114) #[] #[.pointer (some ⟨w.heap.size + 1 + 1 + 1 + 1, 0, none⟩)], .int .i64 (x.1 : Int), .int .u64 ((xs[x.1]?.getD 0 : Nat) : Int), undef, undef, undef, undef, undef, undef, undef, undef, undef, undef, undef, undef, undef, undef], defers := [] }) ?assign ?body ?done ?stop
  case assign =>
    intro l x W K hK
    gi_wp2
    exact hK
  case body =>
    rintro l pre x W ⟨⟨zs, r, e1, e2, e3, e4, e5, e6, e7, e8, e9, e10, e11⟩, hB⟩ hpl
    obtain ⟨i, hi⟩ := x
    obtain ⟨xv, hxv⟩ : ∃ xv, xs[i]? = some xv := get_lt (by rw [← hs.len]; exact hi)
    have hxl := hd.get hxv
    have HE1 := Lib.hid e1
    have HE2 := Lib.hid e2
    have HXV := Lib.hid hxv
    dsimp only
    rw [hxv]
    dsimp only [Option.getD_some]
    clear hxv e1 e2
    have hii : (i : Int) < n := by omega
    obtain ⟨old, hold⟩ := get_lt (zs := zs) (k := i) (by rw [HE2.out]; exact hi)
    have hcz := e6.at_ hold
    have hfz := e6.frozen
    clear hold
    have hok := e5 hpl
    obtain ⟨qv, hqv⟩ : ∃ qv, qv = (r * b64 + xv) / d := ⟨_, rfl⟩
    obtain ⟨rv, hrv⟩ : ∃ rv, rv = (r * b64 + xv) % d := ⟨_, rfl⟩
    have hdv : ∀ W : World, Calls Tryd.prog 107 #[.int .u64 r, .int .u64 xv, .int .u64 d] W fun e W' => e = .returned (.tuple #[.int .u64 (qv : Int), .int .u64 (rv : Int)]) ∧ ∃ q, W' = W.drewN q := by
      intro W; rw [hqv, hrv]; exact hdiv r xv W hok hxl
    have HDV := Lib.hid hdv
    have HQV := Lib.hid hqv
    have HRV := Lib.hid hrv
    clear hdv hqv hrv
    have hmx : Tryd.prog.follows .mixedOrders = true := by kernel_rfl
    gi_wp2
    have hgi : w.heap.size + 1 + 1 ≠ w.heap.size := by omega
    refine wpIn_region_inv hmx ?hd
      (fun j => [.slice (some ⟨w.heap.size + 1 + 1, 0, none⟩) n n, .int .i64 (i : Int), .int .u64 (r : Int), .int .u64 (xv : Int), .int .u64 (d : Int), .tuple #[.int .u64 (qv : Int), .int .u64 (rv : Int)], .tuple #[.int .u64 (qv : Int), .int .u64 (rv : Int)], .int .u64 (qv : Int), .int .u64 (rv : Int), .pointer (some ⟨w.heap.size + 1 + 1, i, none⟩)].getD j undef)
      (wor2 W 10 11 ⟨w.heap.size + 1 + 1, i, none⟩ ⟨w.heap.size + 1 + 1 + 1, 0, none⟩ (.int .u64 (qv : Int)) (.int .u64 (rv : Int))) ?hw0 ?hstep ?hend ?hac
    case hd => exact distinct_of (by kernel_rfl)
    case hw0 => exact ⟨1, by rw [wor2_none (by kernel_rfl) (by kernel_rfl)]; rfl⟩
    case hac => exact acyclic_of (by kernel_rfl)
    case hstep =>
      intro L a' hs hdf hcl hold hnew i' hi' oi hoi q0 K hK
      obtain ⟨hnl, o2, ho2, hdep⟩ := mem_ready.1 hi'
      obtain rfl : oi = o2 := Option.some.inj (hoi.symm.trans ho2)
      have hlt : i' < 12 := (Array.getElem?_eq_some_iff.1 hoi).1
      have t3 : a'.tmps.getD 3 undef = .pointer (some ⟨w.heap.size, 0, none⟩) := hold 3 (free_of (by kernel_rfl))
      have t4 : a'.tmps.getD 4 undef = .pointer (some ⟨w.heap.size + 1, 0, none⟩) := hold 4 (free_of (by kernel_rfl))
      have t6 : a'.tmps.getD 6 undef = .pointer (some ⟨w.heap.size + 1 + 1 + 1, 0, none⟩) := hold 6 (free_of (by kernel_rfl))
      have t7 : a'.tmps.getD 7 undef = .int .i64 (i : Int) := hold 7 (free_of (by kernel_rfl))
      have t8 : a'.tmps.getD 8 undef = .int .u64 (xv : Int) := hold 8 (free_of (by kernel_rfl))
      clear hold
      have w1 := (wor2_cell (w := W) (i := 10) (j := 11) (p := ⟨w.heap.size + 1 + 1, i, none⟩) (q := ⟨w.heap.size + 1 + 1 + 1, 0, none⟩) (u := .int .u64 (qv : Int)) (v := .int .u64 (rv : Int)) L (a := ⟨w.heap.size + 1, 0, none⟩) (by simp) (by simp)).trans e8
      have w2 := (wor2_cell (w := W) (i := 10) (j := 11) (p := ⟨w.heap.size + 1 + 1, i, none⟩) (q := ⟨w.heap.size + 1 + 1 + 1, 0, none⟩) (u := .int .u64 (qv : Int)) (v := .int .u64 (rv : Int)) L (a := ⟨w.heap.size, 0, none⟩) (by simp) (by simp)).trans e7
      obtain rfl | rfl | rfl | rfl | rfl | rfl | rfl | rfl | rfl | rfl | rfl | rfl : i' = 0 ∨ i' = 1 ∨ i' = 2 ∨ i' = 3 ∨ i' = 4 ∨ i' = 5 ∨ i' = 6 ∨ i' = 7 ∨ i' = 8 ∨ i' = 9 ∨ i' = 10 ∨ i' = 11 := by omega
      all_goals
        have hoi' := hoi
        simp only [List.getElem?_toArray, List.getElem?_cons_zero, List.getElem?_cons_succ, Option.some.injEq] at hoi'
        subst hoi'
      · rw [wor2_other L (by decide) (by decide)] at hK
        refine in_value hoi rfl (by intro c h; cases h) (fun _ _ => trivial) ?_ (hK q0)
        simp [execOp, Act.eval, t4, w1, go_sem]
      · rw [wor2_other L (by decide) (by decide)] at hK
        refine in_value hoi rfl (by intro c h; cases h) (fun _ _ => trivial) ?_ (hK q0)
        simp [execOp, Act.eval, t7]
      · rw [wor2_other L (by decide) (by decide)] at hK
        have h11 : L.getD 11 false = false := by
          apply Classical.byContradiction
          intro h
          have h2 := hcl 11 _ rfl (by simpa using h) ⟨2, .phase⟩ (by simp) rfl
          rw [unlisted hnl] at h2
          cases h2
        have w3 : (wor2 W 10 11 ⟨w.heap.size + 1 + 1, i, none⟩ ⟨w.heap.size + 1 + 1 + 1, 0, none⟩ (.int .u64 (qv : Int)) (.int .u64 (rv : Int)) L).cell? ⟨w.heap.size + 1 + 1 + 1, 0, none⟩ = some (.int .u64 (r : Int)) := by
          unfold wor2
          rw [h11]
          simp only [Bool.false_eq_true, if_false]
          split
          · rw [World.cell?_setCell_other _ _ _ _ (by simp)]; exact e10
          · exact e10
        refine in_value hoi rfl (by intro c h; cases h) (fun _ _ => trivial) ?_ (hK q0)
        simp [execOp, Act.eval, t6, w3, go_sem]
      · rw [wor2_other L (by decide) (by decide)] at hK
        refine in_value hoi rfl (by intro c h; cases h) (fun _ _ => trivial) ?_ (hK q0)
        simp [execOp, Act.eval, t8]
      · rw [wor2_other L (by decide) (by decide)] at hK
        refine in_value hoi rfl (by intro c h; cases h) (fun _ _ => trivial) ?_ (hK q0)
        simp [execOp, Act.eval, t3, w2, go_sem]
      · rw [wor2_other L (by decide) (by decide)] at hK
        have t19 : a'.tmps.getD 19 undef = .int .u64 (r : Int) := hnew 2 _ 19 rfl rfl (hdep ⟨2, .data⟩ (by simp) rfl) (by simp)
        have t20 : a'.tmps.getD 20 undef = .int .u64 (xv : Int) := hnew 3 _ 20 rfl rfl (hdep ⟨3, .data⟩ (by simp) rfl) (by simp)
        have t21 : a'.tmps.getD 21 undef = .int .u64 (d : Int) := hnew 4 _ 21 rfl rfl (hdep ⟨4, .data⟩ (by simp) rfl) (by simp)
        refine in_call (f := 107) (args := #[.int .u64 (r : Int), .int .u64 (xv : Int), .int .u64 (d : Int)]) hoi rfl (by intro c h; cases h) rfl (fun _ _ => trivial) ?_ (CallsIn.inRound l (callsIn_wide.2 (HDV.out _))) (fun q => by rw [World.drewN_drewN]; exact hK _)
        simp [execOp, Act.eval, t19, t20, t21, resolve, invoke, Deferred.ofValue]
      · rw [wor2_other L (by decide) (by decide)] at hK
        have t22 : a'.tmps.getD 22 undef = .tuple #[.int .u64 (qv : Int), .int .u64 (rv : Int)] := hnew 5 _ 22 rfl rfl (hdep ⟨5, .data⟩ (by simp) rfl) (by simp)
        refine in_value hoi rfl (by intro c h; cases h) (fun _ _ => trivial) ?_ (hK q0)
        simp [execOp, Act.eval, t22]
      · rw [wor2_other L (by decide) (by decide)] at hK
        have t16 : a'.tmps.getD 16 undef = .tuple #[.int .u64 (qv : Int), .int .u64 (rv : Int)] := hnew 6 _ 16 rfl rfl (hdep ⟨6, .data⟩ (by simp) rfl) (by simp)
        refine in_value hoi rfl (by intro c h; cases h) (fun _ _ => trivial) ?_ (hK q0)
        simp [execOp, Act.eval, t16, go_sem]
      · rw [wor2_other L (by decide) (by decide)] at hK
        have t16 : a'.tmps.getD 16 undef = .tuple #[.int .u64 (qv : Int), .int .u64 (rv : Int)] := hnew 6 _ 16 rfl rfl (hdep ⟨6, .data⟩ (by simp) rfl) (by simp)
        refine in_value hoi rfl (by intro c h; cases h) (fun _ _ => trivial) ?_ (hK q0)
        simp [execOp, Act.eval, t16, go_sem]
      · rw [wor2_other L (by decide) (by decide)] at hK
        have t17 : a'.tmps.getD 17 undef = .slice (some ⟨w.heap.size + 1 + 1, 0, none⟩) n n := hnew 0 _ 17 rfl rfl (hdep ⟨0, .data⟩ (by simp) rfl) (by simp)
        have t18 : a'.tmps.getD 18 undef = .int .i64 (i : Int) := hnew 1 _ 18 rfl rfl (hdep ⟨1, .data⟩ (by simp) rfl) (by simp)
        refine in_value hoi rfl (by intro c h; cases h) (fun _ _ => trivial) ?_ (hK q0)
        simp [execOp, Act.eval, t17, t18, go_sem, hii]
      · have h10 := unlisted hnl
        have h11 : L.getD 11 false = false := by
          apply Classical.byContradiction
          intro h
          have h2 := hcl 11 _ rfl (by simpa using h) ⟨10, .chain⟩ (by simp) rfl
          rw [h10] at h2
          cases h2
        have t25 : a'.tmps.getD 25 undef = .pointer (some ⟨w.heap.size + 1 + 1, i, none⟩) := hnew 9 _ 25 rfl rfl (hdep ⟨9, .data⟩ (by simp) rfl) (by simp)
        have t23 : a'.tmps.getD 23 undef = .int .u64 (qv : Int) := hnew 7 _ 23 rfl rfl (hdep ⟨7, .data⟩ (by simp) rfl) (by simp)
        rw [wor2_first (getD_set_self L (by rw [hs]; decide)) (by rw [getD_set_other L (by decide)]; exact h11)] at hK
        rw [wor2_none h10 h11]
        have hcz' : W.cell? ⟨w.heap.size + 1 + 1, i, none⟩ = some (.int .u64 (old : Int)) := hcz
        have hfz' : W.frozen? ⟨w.heap.size + 1 + 1, i, none⟩ = false := hfz i
        refine in_skip hoi rfl (by intro c h; cases h) (fun _ _ => trivial) ?_ (hK q0)
        simp [execOp, Act.eval, t25, t23, go_sem, stored, hcz', hfz']
        rfl
      · have h11 := unlisted hnl
        have h10 : L.getD 10 false = true := (hdep ⟨10, .chain⟩ (by simp) rfl)
        have t24 : a'.tmps.getD 24 undef = .int .u64 (rv : Int) := hnew 8 _ 24 rfl rfl (hdep ⟨8, .data⟩ (by simp) rfl) (by simp)
        rw [wor2_both (getD_set_self L (by rw [hs]; decide))] at hK
        rw [wor2_first h10 h11]
        have hcr' : (W.setCell ⟨w.heap.size + 1 + 1, i, none⟩ (.int .u64 (qv : Int))).cell? ⟨w.heap.size + 1 + 1 + 1, 0, none⟩ = some (.int .u64 (r : Int)) := by
          rw [World.cell?_setCell_other _ _ _ _ (by simp)]; exact e10
        have hfr' : (W.setCell ⟨w.heap.size + 1 + 1, i, none⟩ (.int .u64 (qv : Int))).frozen? ⟨w.heap.size + 1 + 1 + 1, 0, none⟩ = false := by
          rw [World.frozen?_setCell]; exact e11
        refine in_skip hoi rfl (by intro c h; cases h) (fun _ _ => trivial) ?_ (hK q0)
        simp [execOp, Act.eval, t6, t24, go_sem, stored, hcr', hfr']
        rfl
    case hend =>
      intro L q hL
      rw [wor2_both (hL 11 (by decide))]
      generalize wrote _ _ _ _ _ = TT
      gi_wp2
      have hB2 : Below w.heap.size W ((W.setCell ⟨w.heap.size + 1 + 1, i, none⟩ (.int .u64 (qv : Int))).setCell ⟨w.heap.size + 1 + 1 + 1, 0, none⟩ (.int .u64 (rv : Int))) :=
        ((Below.refl _ W).setCell (p := ⟨w.heap.size + 1 + 1, i, none⟩) (by show _ ≤ w.heap.size + 1 + 1; omega) _).setCell (p := ⟨w.heap.size + 1 + 1 + 1, 0, none⟩) (by show _ ≤ w.heap.size + 1 + 1 + 1; omega) _
      have hqb : qv < b64 := by
        rw [HQV.out]
        apply Nat.div_lt_of_lt_mul
        have h1 : (r + 1) * b64 ≤ d * b64 := Nat.mul_le_mul_right _ e4
        rw [Nat.add_mul, Nat.one_mul] at h1
        omega
      refine ⟨keeps_drewN (((KeepsOthers.setCell W ⟨w.heap.size + 1 + 1, i, none⟩ (.int .u64 (qv : Int))).trans (KeepsOthers.setCell _ ⟨w.heap.size + 1 + 1 + 1, 0, none⟩ (.int .u64 (rv : Int)))).from _) _, ⟨below_drewN hB2 _, ?_⟩, ⟨zs.set i qv, rv, ?_, by simp [HE2.out], e3.set _ hqb, by rw [HRV.out]; exact Nat.mod_lt _ hd0, fun hl => by rw [HRV.out]; exact hOk r xv hok hxl (by simp at hl; omega), ?_, ?_, ?_, ?_, ?_, ?_⟩, hB.trans (below_drewN hB2 _)⟩
      · rw [World.heap_drewN, Below.heap_setCell _ _ _ _ (by show _ ≠ w.heap.size + 1 + 1 + 1; omega), Below.heap_setCell _ _ _ _ (by show _ ≠ w.heap.size + 1 + 1; omega)]
      · rw [List.map_append, List.map_singleton, sq_snoc, HE1.out]
        unfold sqStep
        simp only [HXV.out, Option.getD_some]
        rw [← HQV.out, ← HRV.out]
      · exact (Row.set (w := W) e6 i qv).far (p := ⟨w.heap.size + 1 + 1 + 1, 0, none⟩) (by show _ ≠ w.heap.size + 1 + 1 + 1; omega) _
      · rw [World.cell?_drewN, World.cell?_setCell_other _ _ _ _ (by simp), World.cell?_setCell_other _ _ _ _ (by simp)]; exact e7
      · rw [World.cell?_drewN, World.cell?_setCell_other _ _ _ _ (by simp), World.cell?_setCell_other _ _ _ _ (by simp)]; exact e8
      · rw [World.frozen?_drewN, World.frozen?_setCell, World.frozen?_setCell]; exact e9
      · rw [World.cell?_drewN]; exact World.cell?_setCell_same' _ _ _ (by rw [World.cell?_setCell_other _ _ _ _ (by simp)]; rw [e10]; rfl)
      · rw [World.frozen?_drewN, World.frozen?_setCell, World.frozen?_setCell]; exact e11
  case done =>
    rintro D ds W hD hds ⟨⟨zs, r, e1, e2, e3, e4, e5, e6, e7, e8, e9, e10, e11⟩, hB⟩ hK
    rw [hds] at e1
    have HE1 := Lib.hid e1
    have HE2 := Lib.hid e2
    have hrl : r < b64 := by omega
    clear e1 e2 hds
    have hmx : Tryd.prog.follows .mixedOrders = true := by kernel_rfl
    have hsl := e6.sl (by rw [HE2.out]; omega)
    rw [HE2.out] at hsl
    have hsl2 : Sl W.drew W.heap.size (some ⟨w.heap.size + 1 + 1, 0, none⟩) n n zs := hsl
    have hlt1 : w.heap.size + 1 < W.heap.size := by have := hB.size; have := e6.lt; omega
    gi_wp2
    have hDlt : D < W.heap.size := (Array.getElem?_eq_some_iff.1 hK).1
    have q2 : (W.alloc (.cells #[.int .u64 (r : Int)] 60)).cell? ⟨w.heap.size + 1, 0, none⟩ = some (.slice (some ⟨w.heap.size + 1 + 1, 0, none⟩) n n) := (World.cell?_alloc_lt _ _ _ hlt1).trans e8
    have q3 : (W.alloc (.cells #[.int .u64 (r : Int)] 60)).frozen? ⟨w.heap.size + 1, 0, none⟩ = false := ((Below.refl W.heap.size W).alloc (Nat.le_refl _) _).frozen (p := ⟨w.heap.size + 1, 0, none⟩) hlt1 |>.trans e9
    have hKF : ((W.drew.alloc (.cells #[.int .u64 (r : Int)] 60)).setCell ⟨w.heap.size + 1, 0, none⟩ (.slice (some ⟨w.heap.size + 1 + 1, 0, none⟩) (trimL zs n) n)).heap[D]? = some (.deferred (some [])) :=
      (KeepsOthers.setCell _ _ _).same D _ ((Below.heap_alloc W.drew _ D hDlt).trans hK) rfl
    have rowF := ((Row.alloc (w := W.drew) e6 (.cells #[.int .u64 (r : Int)] 60))).far (p := ⟨w.heap.size + 1, 0, none⟩) (by show w.heap.size + 1 + 1 ≠ w.heap.size + 1; omega) (.slice (some ⟨w.heap.size + 1 + 1, 0, none⟩) (trimL zs n) n)
    have rowR := (heap_new_row W.drew r).far (p := ⟨w.heap.size + 1, 0, none⟩) (by show W.heap.size ≠ w.heap.size + 1; omega) (.slice (some ⟨w.heap.size + 1 + 1, 0, none⟩) (trimL zs n) n)
    have cellF := World.cell?_setCell_same' (W.drew.alloc (.cells #[.int .u64 (r : Int)] 60)) ⟨w.heap.size + 1, 0, none⟩ (.slice (some ⟨w.heap.size + 1 + 1, 0, none⟩) (trimL zs n) n) (by rw [show (W.drew.alloc (.cells #[.int .u64 (r : Int)] 60)).cell? _ = _ from q2]; rfl)
    have belF : Below w.heap.size w ((W.drew.alloc (.cells #[.int .u64 (r : Int)] 60)).setCell ⟨w.heap.size + 1, 0, none⟩ (.slice (some ⟨w.heap.size + 1 + 1, 0, none⟩) (trimL zs n) n)) :=
      (hB.drew.alloc (by have := hB.size; exact this) _).setCell (p := ⟨w.heap.size + 1, 0, none⟩) (by show _ ≤ w.heap.size + 1; omega) _
    have FIN : ∀ {WF : World}, WF.heap[D]? = some (.deferred (some [])) → Row WF (w.heap.size + 1 + 1) zs → Row WF W.drew.heap.size [r] → Below w.heap.size w WF → ∃ A1 m1 c1 q A2 m2 c2 r', Ending.returned (.tuple #[.slice (some ⟨w.heap.size + 1 + 1, 0, none⟩) (trimL zs n) n, .slice (some ⟨W.drew.heap.size, 0, none⟩) (trimL [r] 1) 1]) = .returned (.tuple #[.slice A1 m1 c1, .slice A2 m2 c2]) ∧
        Sl (WF.putObj D (.deferred none)) (WF.putObj D (.deferred none)).heap.size A1 m1 c1 q ∧ Sl (WF.putObj D (.deferred none)) (WF.putObj D (.deferred none)).heap.size A2 m2 c2 r' ∧ Below w.heap.size w (WF.putObj D (.deferred none)) ∧
        Nm b64 q (V b64 (sq d xs n (downL n n)).1) ∧ Nm b64 r' (sq d xs n (downL n n)).2 := by
      intro WF k1 k2 k3 k4
      have g := grownBy_putObj' WF D (.deferred none)
      have gr : ∀ r', some D = some r' → ∃ o, WF.heap[r']? = some o ∧ o.isCells = false := fun r' e => by cases e; exact ⟨_, k1, rfl⟩
      have z1 := sl_trim ((row_kept k2 g gr).sl (by rw [HE2.out]; omega))
      have z2 := sl_trim ((row_kept k3 g gr).sl (by simp))
      rw [HE2.out] at z1
      refine ⟨_, _, _, _, _, _, _, _, rfl, z1, z2, k4.trans (belowK_b (w := W0) (by rw [HSZ.out]; omega) _ D _ _ hD k1 rfl rfl), ?_, ?_⟩
      · rw [HE1.out]; exact trimmed_nm e3
      · rw [HE1.out]
        have := trimmed_nm (B := b64) (xs := [r]) (fun y hy => by simp at hy; subst hy; exact hrl)
        simpa [V] using this
    refine wpIn_region_any hmx ?_
    show wpAnyIn _ _ _ _ _ _ 6 _ _ _
    refine any2 (i := 0) (j := 2) (by kernel_rfl) ?_ ?_
    · skip
      refine in_value (v := .slice (some ⟨w.heap.size + 1 + 1, 0, none⟩) n n) (w' := W.drew) rfl rfl (by intro c h; cases h) (fun _ _ => trivial) (by simp [execOp, Act.eval, go_sem, e8]) ?_
      refine any2 (i := 1) (j := 2) (by kernel_rfl) ?_ ?_
      · skip
        refine in_call_any (f := 85) (args := #[.slice (some ⟨w.heap.size + 1 + 1, 0, none⟩) n n]) rfl rfl (by intro c h; cases h) rfl (fun _ _ => trivial) (by simp [execOp, Act.eval, resolve, invoke, Deferred.ofValue, Act.put, go_sem]) (callsIn_wide.2 ((ltrim_any W.drew _ _ _ _ zs hsl2).mono ?_))
        rintro e w1 ⟨rfl, rfl⟩
        refine ⟨_, rfl, ?_⟩
        refine any1 (i := 2) (by kernel_rfl) ?_
        refine in_value (v := .int .u64 (r : Int)) (w' := W.drew) rfl rfl (by intro c h; cases h) (fun _ _ => trivial) (by simp [execOp, Act.eval, Act.put, go_sem, e10]) ?_
        refine any1 (i := 3) (by kernel_rfl) ?_
        refine in_call_any (f := 108) (args := #[.int .u64 (r : Int)]) rfl rfl (by intro c h; cases h) rfl (fun _ _ => trivial) (by simp [execOp, Act.eval, resolve, invoke, Deferred.ofValue, Act.put, go_sem]) (callsIn_wide.2 ((of_exact r W.drew).mono ?_))
        rintro e w2 ⟨rfl, rfl⟩
        refine ⟨_, rfl, ?_⟩
        refine any1 (i := 4) (by kernel_rfl) ?_
        refine in_skip (w' := (W.drew.alloc (.cells #[.int .u64 (r : Int)] 60)).setCell ⟨w.heap.size + 1, 0, none⟩ (.slice (some ⟨w.heap.size + 1 + 1, 0, none⟩) (trimL zs n) n)) rfl rfl (by intro c h; cases h) (fun _ _ => trivial) (by simp [execOp, Act.eval, Act.put, go_sem, stored, q2, q3]) ?_
        refine any1 (i := 5) (by kernel_rfl) ?_
        refine in_value (v := .slice (some ⟨W.drew.heap.size, 0, none⟩) (trimL [r] 1) 1) (w' := (W.drew.alloc (.cells #[.int .u64 (r : Int)] 60)).setCell ⟨w.heap.size + 1, 0, none⟩ (.slice (some ⟨w.heap.size + 1 + 1, 0, none⟩) (trimL zs n) n)) rfl rfl (by intro c h; cases h) (fun _ _ => trivial) (by simp [execOp, Act.eval, Act.put]) ?_
        refine any0 (by kernel_rfl) ?_
        generalize hWF : (W.drew.alloc (.cells #[.int .u64 (r : Int)] 60)).setCell ⟨w.heap.size + 1, 0, none⟩ (.slice (some ⟨w.heap.size + 1 + 1, 0, none⟩) (trimL zs n) n) = WF
        rw [hWF] at hKF rowF rowR cellF belF
        clear hWF
        gi_wp2
        refine ⟨by simp, .inl ⟨_, _, rfl, run_takeDeferred hKF, ?_⟩⟩
        refine ⟨.tuple #[.slice (some ⟨w.heap.size + 1 + 1, 0, none⟩) (trimL zs n) n, .slice (some ⟨W.drew.heap.size, 0, none⟩) (trimL [r] 1) 1], ?_, FIN hKF rowF rowR belF⟩
        have hc5 := cell_kept cellF (grownBy_putObj' _ D (.deferred none)) (fun r e => by cases e; exact ⟨_, hKF, rfl⟩)
        simp [results, Tryd.f90, go_sem, hc5]
      · skip
        refine in_value (v := .int .u64 (r : Int)) (w' := W.drew) rfl rfl (by intro c h; cases h) (fun _ _ => trivial) (by simp [execOp, Act.eval, Act.put, go_sem, e10]) ?_
        refine any1 (i := 1) (by kernel_rfl) ?_
        refine in_call_any (f := 85) (args := #[.slice (some ⟨w.heap.size + 1 + 1, 0, none⟩) n n]) rfl rfl (by intro c h; cases h) rfl (fun _ _ => trivial) (by simp [execOp, Act.eval, resolve, invoke, Deferred.ofValue, Act.put, go_sem]) (callsIn_wide.2 ((ltrim_any W.drew _ _ _ _ zs hsl2).mono ?_))
        rintro e w1 ⟨rfl, rfl⟩
        refine ⟨_, rfl, ?_⟩
        refine any1 (i := 3) (by kernel_rfl) ?_
        refine in_call_any (f := 108) (args := #[.int .u64 (r : Int)]) rfl rfl (by intro c h; cases h) rfl (fun _ _ => trivial) (by simp [execOp, Act.eval, resolve, invoke, Deferred.ofValue, Act.put, go_sem]) (callsIn_wide.2 ((of_exact r W.drew).mono ?_))
        rintro e w2 ⟨rfl, rfl⟩
        refine ⟨_, rfl, ?_⟩
        refine any1 (i := 4) (by kernel_rfl) ?_
        refine in_skip (w' := (W.drew.alloc (.cells #[.int .u64 (r : Int)] 60)).setCell ⟨w.heap.size + 1, 0, none⟩ (.slice (some ⟨w.heap.size + 1 + 1, 0, none⟩) (trimL zs n) n)) rfl rfl (by intro c h; cases h) (fun _ _ => trivial) (by simp [execOp, Act.eval, Act.put, go_sem, stored, q2, q3]) ?_
        refine any1 (i := 5) (by kernel_rfl) ?_
        refine in_value (v := .slice (some ⟨W.drew.heap.size, 0, none⟩) (trimL [r] 1) 1) (w' := (W.drew.alloc (.cells #[.int .u64 (r : Int)] 60)).setCell ⟨w.heap.size + 1, 0, none⟩ (.slice (some ⟨w.heap.size + 1 + 1, 0, none⟩) (trimL zs n) n)) rfl rfl (by intro c h; cases h) (fun _ _ => trivial) (by simp [execOp, Act.eval, Act.put]) ?_
        refine any0 (by kernel_rfl) ?_
        generalize hWF : (W.drew.alloc (.cells #[.int .u64 (r : Int)] 60)).setCell ⟨w.heap.size + 1, 0, none⟩ (.slice (some ⟨w.heap.size + 1 + 1, 0, none⟩) (trimL zs n) n) = WF
        rw [hWF] at hKF rowF rowR cellF belF
        clear hWF
        gi_wp2
        refine ⟨by simp, .inl ⟨_, _, rfl, run_takeDeferred hKF, ?_⟩⟩
        refine ⟨.tuple #[.slice (some ⟨w.heap.size + 1 + 1, 0, none⟩) (trimL zs n) n, .slice (some ⟨W.drew.heap.size, 0, none⟩) (trimL [r] 1) 1], ?_, FIN hKF rowF rowR belF⟩
        have hc5 := cell_kept cellF (grownBy_putObj' _ D (.deferred none)) (fun r e => by cases e; exact ⟨_, hKF, rfl⟩)
        simp [results, Tryd.f90, go_sem, hc5]
    · skip
      refine in_value (v := .int .u64 (r : Int)) (w' := W.drew) rfl rfl (by intro c h; cases h) (fun _ _ => trivial) (by simp [execOp, Act.eval, go_sem, e10]) ?_
      refine any1 (i := 0) (by kernel_rfl) ?_
      refine in_value (v := .slice (some ⟨w.heap.size + 1 + 1, 0, none⟩) n n) (w' := W.drew) rfl rfl (by intro c h; cases h) (fun _ _ => trivial) (by simp [execOp, Act.eval, Act.put, go_sem, e8]) ?_
      refine any1 (i := 1) (by kernel_rfl) ?_
      refine in_call_any (f := 85) (args := #[.slice (some ⟨w.heap.size + 1 + 1, 0, none⟩) n n]) rfl rfl (by intro c h; cases h) rfl (fun _ _ => trivial) (by simp [execOp, Act.eval, resolve, invoke, Deferred.ofValue, Act.put, go_sem]) (callsIn_wide.2 ((ltrim_any W.drew _ _ _ _ zs hsl2).mono ?_))
      rintro e w1 ⟨rfl, rfl⟩
      refine ⟨_, rfl, ?_⟩
      refine any1 (i := 3) (by kernel_rfl) ?_
      refine in_call_any (f := 108) (args := #[.int .u64 (r : Int)]) rfl rfl (by intro c h; cases h) rfl (fun _ _ => trivial) (by simp [execOp, Act.eval, resolve, invoke, Deferred.ofValue, Act.put, go_sem]) (callsIn_wide.2 ((of_exact r W.drew).mono ?_))
      rintro e w2 ⟨rfl, rfl⟩
      refine ⟨_, rfl, ?_⟩
      refine any1 (i := 4) (by kernel_rfl) ?_
      refine in_skip (w' := (W.drew.alloc (.cells #[.int .u64 (r : Int)] 60)).setCell ⟨w.heap.size + 1, 0, none⟩ (.slice (some ⟨w.heap.size + 1 + 1, 0, none⟩) (trimL zs n) n)) rfl rfl (by intro c h; cases h) (fun _ _ => trivial) (by simp [execOp, Act.eval, Act.put, go_sem, stored, q2, q3]) ?_
      refine any1 (i := 5) (by kernel_rfl) ?_
      refine in_value (v := .slice (some ⟨W.drew.heap.size, 0, none⟩) (trimL [r] 1) 1) (w' := (W.drew.alloc (.cells #[.int .u64 (r : Int)] 60)).setCell ⟨w.heap.size + 1, 0, none⟩ (.slice (some ⟨w.heap.size + 1 + 1, 0, none⟩) (trimL zs n) n)) rfl rfl (by intro c h; cases h) (fun _ _ => trivial) (by simp [execOp, Act.eval, Act.put]) ?_
      refine any0 (by kernel_rfl) ?_
      generalize hWF : (W.drew.alloc (.cells #[.int .u64 (r : Int)] 60)).setCell ⟨w.heap.size + 1, 0, none⟩ (.slice (some ⟨w.heap.size + 1 + 1, 0, none⟩) (trimL zs n) n) = WF
      rw [hWF] at hKF rowF rowR cellF belF
      clear hWF
      gi_wp2
      refine ⟨by simp, .inl ⟨_, _, rfl, run_takeDeferred hKF, ?_⟩⟩
      refine ⟨.tuple #[.slice (some ⟨w.heap.size + 1 + 1, 0, none⟩) (trimL zs n) n, .slice (some ⟨W.drew.heap.size, 0, none⟩) (trimL [r] 1) 1], ?_, FIN hKF rowF rowR belF⟩
      have hc5 := cell_kept cellF (grownBy_putObj' _ D (.deferred none)) (fun r e => by cases e; exact ⟨_, hKF, rfl⟩)
      simp [results, Tryd.f90, go_sem, hc5]
  case stop =>
    rintro D c pre W _ _ h _
    exact h.elim
end Go.Proofs.YtejhfmjegmccjaaDoor

/- math/bits.Div64 at 0; limb.Quo of one limb by one. -/
namespace Go.Proofs.YtejhfmjegmccjaaDoor
open Go.RowKit

set_option maxRecDepth 100000 in
set_option maxHeartbeats 800000 in
theorem div64_zero (x d : Nat) (hx : x < b64) (hd0 : 0 < d) (w : World) :
    Calls Tryd.prog 107 #[.int .u64 ((0 : Nat) : Int), .int .u64 x, .int .u64 d] w fun e w' => e = .returned (.tuple #[.int .u64 ((x / d : Nat) : Int), .int .u64 ((x % d : Nat) : Int)]) ∧ ∃ q, w' = w.drewN q := by
  have h1 : ((d : Int) == 0) = false := by simp; omega
  have h2 : ¬ (d : Int) ≤ ((0 : Nat) : Int) := by omega
  have h2' : ¬ (d : Int) ≤ 0 := by omega
  have h3 : (1 : Int) ≤ d := by omega
  go_enter Tryd.func107, Tryd.ntmps107
  go_wp2
  have h4 : (x : Int) < 18446744073709551616 := by have := lt64.1 hx; omega
  have h7 : (0 : Int) ≤ (x : Int) / d := Int.ediv_nonneg (by omega) (by omega)
  have h5 : (x : Int) / d < 18446744073709551616 := Int.lt_of_le_of_lt (Int.ediv_le_self _ (by omega)) h4
  go_quiet (fail)
  go_wp2
  go_ret2
  exact ⟨rfl, _, rfl⟩

/-- two slices and true -/
def RetQ (w : World) (N M : Nat) (e : Ending) (w' : World) : Prop :=
  ∃ q A1 n1 c1 r A2 n2 c2, e = .returned (.tuple #[.slice A1 n1 c1, .slice A2 n2 c2, .bool true]) ∧ Sl w' w'.heap.size A1 n1 c1 q ∧ Sl w' w'.heap.size A2 n2 c2 r ∧ Below w.heap.size w w' ∧ Nm b64 q N ∧ Nm b64 r M

theorem trimmed_self {B : Nat} {xs : List Nat} {n : Nat} (hB : 1 < B) (h : Nm B xs n) : trimmed xs = xs := nm_unique hB (h.2.2 ▸ trimmed_nm h.1) h

set_option maxRecDepth 100000 in
set_option maxHeartbeats 1600000 in
theorem quo_one (w : World) (A1 : Option Addr) (c1 : Nat) (x : Nat) (hs1 : Sl w w.heap.size A1 1 c1 [x]) (A2 : Option Addr) (c2 : Nat) (d : Nat) (hs2 : Sl w w.heap.size A2 1 c2 [d]) (hx : x < b64) (hd : d < b64) (hd0 : 0 < d) (hle : d ≤ x) :
    Calls Tryd.prog 68 #[.slice A1 1 c1, .slice A2 1 c2] w fun e w' => RetQ w (x / d) (x % d) e w' := by
  have nx : Nm b64 [x] x := ⟨fun y hy => by simp at hy; omega, fun y hy => by simp at hy; omega, by simp [V]⟩
  have nd : Nm b64 [d] d := ⟨fun y hy => by simp at hy; omega, fun y hy => by simp at hy; omega, by simp [V]⟩
  have t1 := trimmed_self (by decide) nx
  have t2 := trimmed_self (by decide) nd
  have hcm : ¬ ncmp (V b64 [x]) (V b64 [d]) < 0 := by
    rw [nx.2.2, nd.2.2]; unfold ncmp; rw [if_neg (by omega)]; split <;> omega
  obtain ⟨cv, hcv⟩ : ∃ cv, ncmp (V b64 [x]) (V b64 [d]) = cv := ⟨_, rfl⟩
  rw [hcv] at hcm
  have HCV := Lib.hid hcv
  have T1 := Lib.hid t1
  have T2 := Lib.hid t2
  have NX := Lib.hid nx
  have ND := Lib.hid nd
  clear hcv t1 t2 nx nd
  obtain ⟨b, off, y, rfl, hb, hy, hc⟩ := hs2.at_ (k := 0) (by decide)
  simp at hy
  subst hy
  go_enter Tryd.func68, Tryd.ntmps68
  go_wp2_with fail
  refine (ltrim_sl w _ _ _ _ [x] hs1).mono ?_; rintro e w1 ⟨m1, rfl, h3, h4, rfl⟩
  have hm1 : m1 = 1 := by rw [h3.len, T1.out]; rfl
  subst hm1
  rw [T1.out] at h3
  go_wp2_with fail
  refine (ltrim_sl w _ _ _ _ [d] hs2).mono ?_; rintro e w1 ⟨m2, rfl, h5, h6, rfl⟩
  have hm2 : m2 = 1 := by rw [h5.len, T2.out]; rfl
  subst hm2
  rw [T2.out] at h5
  go_wp2_with fail
  refine (lcmp_any w _ _ _ [x] h3 _ _ _ [d] h5 NX.out.1 ND.out.1).mono ?_; rw [HCV.out]; rintro e w1 ⟨rfl, hb1⟩
  have hc1 : w1.cell? ⟨b, off, none⟩ = some (.int .u64 (d : Int)) := (hb1.cell (p := ⟨b, off, none⟩) hb).trans (by simpa using hc)
  go_wp2_with fail
  refine (shortQuo_any w1 _ rfl _ _ _ [x] (h3.later hb1 (Nat.le_refl _)) NX.out.1 (by decide) d hd0 hd (fun r => r = 0) rfl (fun r x _ _ h => absurd h (by decide)) (fun r x W hr hx => by subst hr; simpa using div64_zero x d hx hd0 W)).mono ?_
  rintro e w2 ⟨A3, m3, c3, q, A4, m4, c4, r, rfl, k1, k2, k3, k4, k5⟩
  go_wp2
  go_ret3
  refine ⟨q, _, _, _, r, _, _, _, rfl, k1, k2, hb1.trans (k3.mono hb1.size), ?_, ?_⟩
  · simpa [sq, sqStep, downL, V, List.range_succ] using k4
  · simpa [sq, sqStep, downL, V, List.range_succ] using k5
end Go.Proofs.YtejhfmjegmccjaaDoor

/- limb.Bits. -/
namespace Go.Proofs.YtejhfmjegmccjaaDoor
open Go.RowKit

/-- k is the least with n < 2^k -/
def IsBits (n k : Nat) : Prop := n < 2 ^ k ∧ (k ≠ 0 → 2 ^ (k - 1) ≤ n)
theorem IsBits.unique {n k l : Nat} (h : IsBits n k) (h' : IsBits n l) : k = l := by
  rcases Nat.lt_trichotomy k l with hl | hl | hl
  · have h1 := h'.2 (by omega)
    have h2 : 2 ^ k ≤ 2 ^ (l - 1) := Nat.pow_le_pow_right (by decide) (by omega)
    have := h.1
    omega
  · exact hl
  · have h1 := h.2 (by omega)
    have h2 : 2 ^ l ≤ 2 ^ (k - 1) := Nat.pow_le_pow_right (by decide) (by omega)
    have := h'.1
    omega
theorem b64_pow (m : Nat) : b64 ^ m = 2 ^ (64 * m) := by
  rw [show b64 = 2 ^ 64 from rfl, ← Nat.pow_mul]
theorem bits_top {xs : List Nat} {m x N : Nat} (h : Nm b64 xs N) (hm : xs.length = m + 1) (hx : xs[m]? = some x) : IsBits N (m * 64 + Lib.bitLen x) ∧ Lib.bitLen x ≤ 64 := by
  have hxl := h.1.get hx
  have hx0 : x ≠ 0 := by
    refine h.2.1 x ?_
    rw [List.getLast?_eq_getElem?, hm]
    simpa using hx
  obtain ⟨c1, c2, c3⟩ := Lib.bitLenAux_bounds 64 x hxl hx0
  have hN : N = V b64 (xs.take m) + b64 ^ m * x := by
    rw [← h.2.2, ← V_take_succ hx, List.take_of_length_le (by omega)]
  have hlt := V_lt (xs.take m) (h.1.take m)
  rw [List.length_take, Nat.min_eq_left (by omega)] at hlt
  rw [b64_pow] at hN hlt
  have hle : Lib.bitLen x ≤ 64 := Lib.bitLen_le x 64 (Nat.le_refl _) hxl
  obtain ⟨k, hk⟩ : ∃ k, Lib.bitLen x = k := ⟨_, rfl⟩
  have hk' : Lib.bitLenAux 64 x = k := hk
  rw [hk'] at c1 c2 c3
  rw [hk] at hle ⊢
  refine ⟨⟨?_, fun _ => ?_⟩, hle⟩
  · rw [Nat.mul_comm m, Nat.pow_add]
    have := Nat.mul_le_mul_left (2 ^ (64 * m)) c3
    rw [Nat.mul_succ] at this
    omega
  · rw [show m * 64 + k - 1 = 64 * m + (k - 1) by omega, Nat.pow_add]
    have := Nat.mul_le_mul_left (2 ^ (64 * m)) c2
    omega

theorem ret_i64 {a b : Int} (h : a = b) : Ending.returned (.int .i64 a) = .returned (.int .i64 b) := by rw [h]

set_option maxRecDepth 100000 in
set_option maxHeartbeats 800000 in
theorem bits_any (w : World) (B : Nat) (A : Option Addr) (n c : Nat) (xs : List Nat) (hs : Sl w B A n c xs) (hd : Dg b64 xs) (hn : n ≤ 17592186044416) :
    Calls Tryd.prog 66 #[.slice A n c] w fun e w' => ∃ k : Nat, e = .returned (.int .i64 (k : Int)) ∧ IsBits (V b64 xs) k ∧ w = w' := by
  have hX := trimmed_nm hd
  have HX := Lib.hid hX
  clear hX
  go_enter Tryd.func66, Tryd.ntmps66
  go_wp2_with fail
  refine (ltrim_sl w B A n c xs hs).mono ?_; rintro e w1 ⟨m, rfl, h3, h4, rfl⟩
  by_cases h0 : m = 0
  · subst h0
    go_wp2
    go_ret
    refine ⟨0, rfl, ⟨?_, fun h => absurd rfl h⟩, rfl⟩
    have : trimmed xs = [] := List.eq_nil_of_length_eq_zero h3.len.symm
    rw [← HX.out.2.2, this]
    decide
  · obtain ⟨t, rfl⟩ : ∃ t, m = t + 1 := ⟨m - 1, by omega⟩
    obtain ⟨b, off, x, rfl, hb, hx, hc⟩ := h3.at_ (k := t) (by omega)
    have hbt := bits_top HX.out h3.len.symm hx
    have hxl := lt64.1 (HX.out.1.get hx)
    obtain ⟨k, hk⟩ : ∃ k, Lib.bitLen x = k := ⟨_, rfl⟩
    rw [hk] at hbt
    have hk64 := hbt.2
    have HBT := Lib.hid hbt
    have HK := Lib.hid hk
    have HXX := Lib.hid hx
    have HXL := Lib.hid hxl
    clear hbt hk hx hxl
    have hm0 : (((t + 1 : Nat) : Int) == 0) = false := by simp; omega
    go_wp2_with (go_at_call 86; refine (Tryd.bits_Len64 (x : Int) _ (by omega) (by have := HXL.out; omega)).mono ?_; rw [Int.toNat_natCast, HK.out]; rintro e w2 ⟨rfl, rfl⟩)
    go_ret
    exact ⟨t * 64 + k, ret_i64 (by omega), HBT.out.1, rfl⟩
end Go.Proofs.YtejhfmjegmccjaaDoor

/- Words for memory: slices of bytes that the call makes. -/
namespace Go.Proofs.YtejhfmjegmccjaaDoor
open Go.RowKit

abbrev U8 (x : Nat) : Value := .int .u8 (x : Int)
/-- block g is, whole, the bytes zs -/
def Row8 (w : World) (g : Nat) (zs : List Nat) : Prop := w.heap[g]? = some (.cells (zs.map U8).toArray 5 (0, 0))
theorem Row8.lt {w : World} {g : Nat} {zs : List Nat} (h : Row8 w g zs) : g < w.heap.size := (Array.getElem?_eq_some_iff.1 h).1
theorem Row8.at_ {w : World} {g : Nat} {zs : List Nat} (h : Row8 w g zs) {i x : Nat} (hx : zs[i]? = some x) : w.cell? ⟨g, i, none⟩ = some (.int .u8 (x : Int)) := by
  rw [cell_of_row w g i _ _ (0, 0) h]; simp [hx]
theorem Row8.frozen {w : World} {g : Nat} {zs : List Nat} (h : Row8 w g zs) (i : Nat) : w.frozen? ⟨g, i, none⟩ = false := by
  unfold Row8 at h
  simp [World.frozen?, h]
theorem Row8.set_ {w : World} {g : Nat} {zs : List Nat} (h : Row8 w g zs) {i x : Nat} {z : Int} (e : z = (x : Int)) : Row8 (w.setCell ⟨g, i, none⟩ (.int .u8 z)) g (zs.set i x) := by
  subst e
  unfold Row8 at h ⊢
  simp [World.setCell, Array.getElem?_modify, h, List.map_set]
theorem Row8.below {w w' : World} {g B : Nat} {zs : List Nat} (h : Row8 w g zs) (hb : Below B w w') (hg : g < B) : Row8 w' g zs := (hb.block g hg).trans h
theorem Row8.drewN {w : World} {g : Nat} {zs : List Nat} (h : Row8 w g zs) (n : Nat) : Row8 (w.drewN n) g zs := h

/-- the slice from A on reads the bytes bs -/
def Sl8 (w : World) (B : Nat) (A : Option Addr) (n c : Nat) (bs : List Nat) : Prop :=
  n = bs.length ∧ n ≤ c ∧ c ≤ 9223372036854775807 ∧ (∀ x ∈ bs, x < 256) ∧ (bs ≠ [] → ∃ b off, A = some ⟨b, off, none⟩ ∧ b < B ∧ ∀ (k x : Nat), bs[k]? = some x → w.cell? ⟨b, off + k, none⟩ = some (.int .u8 (x : Int)))
theorem Sl8.below {w w' : World} {B n c : Nat} {A : Option Addr} {bs : List Nat} (h : Sl8 w B A n c bs) (hb : Below B w w') : Sl8 w' B A n c bs :=
  ⟨h.1, h.2.1, h.2.2.1, h.2.2.2.1, fun hn => by
    obtain ⟨b, off, e, hlt, hc⟩ := h.2.2.2.2 hn
    exact ⟨b, off, e, hlt, fun k x hx => (hb.cell (p := ⟨b, off + k, none⟩) hlt).trans (hc k x hx)⟩⟩
theorem Sl8.more {w : World} {B B' n c : Nat} {A : Option Addr} {bs : List Nat} (h : Sl8 w B A n c bs) (hB : B ≤ B') : Sl8 w B' A n c bs :=
  ⟨h.1, h.2.1, h.2.2.1, h.2.2.2.1, fun hn => by
    obtain ⟨b, off, e, hlt, hc⟩ := h.2.2.2.2 hn
    exact ⟨b, off, e, by omega, hc⟩⟩
theorem Sl8.at_ {w : World} {B n c : Nat} {A : Option Addr} {bs : List Nat} (h : Sl8 w B A n c bs) {k : Nat} (hk : k < n) :
    ∃ b off x, A = some ⟨b, off, none⟩ ∧ b < B ∧ bs[k]? = some x ∧ x < 256 ∧ w.cell? ⟨b, off + k, none⟩ = some (.int .u8 (x : Int)) := by
  have hl := h.1
  obtain ⟨b, off, e, hlt, hc⟩ := h.2.2.2.2 (by intro e; subst e; simp at hl; omega)
  exact ⟨b, off, bs[k]'(by omega), e, hlt, List.getElem?_eq_getElem (by omega), h.2.2.2.1 _ (List.getElem_mem _), hc k _ (List.getElem?_eq_getElem (by omega))⟩
theorem Row8.sl {w : World} {g : Nat} {zs : List Nat} (h : Row8 w g zs) (hz : zs.length ≤ 9223372036854775807) (hb : ∀ x ∈ zs, x < 256) : Sl8 w w.heap.size (some ⟨g, 0, none⟩) zs.length zs.length zs :=
  ⟨rfl, Nat.le_refl _, hz, hb, fun _ => ⟨g, 0, rfl, h.lt, fun k x hx => by rw [Nat.zero_add]; exact h.at_ hx⟩⟩

theorem Tryd.infoB : (Tryd.prog.info? 5).map (fun i => (i.zero, i.size, i.bytes)) = some (some (.int .u8 0), 1, 1) := by kernel_rfl
theorem wl_make8 {w : World} {ops : Array Oper} {rest : List Oper} {o : Oper} {a : Act} {Q : Exit → Act → World → Prop} (hg : o.guard = none) (l : Operand) (t : TypeId) (ht : Tryd.prog.underlying t = some (.slice 5))
    (hop : o.op = Op.makeSlice t l l) (N : Int) (n : Nat) (hl : a.eval l = .int .i64 N) (hN : N = n) (hn : n ≤ 281474976710656)
    (h : ∀ w', Row8 w' w.heap.size (List.replicate n 0) → Below w.heap.size w w' → w'.heap.size = w.heap.size + 1 → wpList Tryd.prog ops Q rest (a.put o.dst (.slice (some ⟨w.heap.size, 0, none⟩) n n)) w') :
    wpList Tryd.prog ops Q (o :: rest) a w := by
  obtain ⟨i0, hi, hz0, hz1, hz2⟩ := info_parts Tryd.infoB
  subst hN
  refine wpList_plain hg fun K hK => ?_
  have hb : (i0.bytes : Int) * (n : Int) ≤ 281474976710656 := by rw [hz2]; omega
  have hr := run_make (P := Tryd.prog) w t 5 i0 (.int .u8 0) ht hi hz0 .i64 .i64 n n (by omega) (by omega) hb (by omega)
  simp only [Int.toNat_natCast] at hr
  unfold Oper.wp
  simp [execOp, hop, hl, hr, Result.andThen]
  refine hK _ _ (h _ ?_ ((Below.refl _ _).alloc (Nat.le_refl _) _) (by simp))
  unfold Row8
  rw [heap_alloc_new, hz1, Nat.mul_one]
  have e : madeCells (Value.int IntKind.u8 0).cells n = (List.map U8 (List.replicate n 0)).toArray := by
    apply Array.ext'
    rw [show (Value.int IntKind.u8 0).cells = #[Value.int IntKind.u8 0] from rfl, toList_madeCells_one]
    simp [U8]
  rw [e]

/-- the n digits of N in base 256, the most significant first -/
def be (n N : Nat) : List Nat := (List.range n).map fun i => N / 256 ^ (n - 1 - i) % 256
theorem be_length (n N : Nat) : (be n N).length = n := by simp [be]
theorem be_get {n N i : Nat} (h : i < n) : (be n N)[i]? = some (N / 256 ^ (n - 1 - i) % 256) := by simp [be, h]
theorem be_lt (n N : Nat) : ∀ x ∈ be n N, x < 256 := by
  intro x hx
  obtain ⟨i, _, rfl⟩ := List.mem_map.1 hx
  exact Nat.mod_lt _ (by decide)
end Go.Proofs.YtejhfmjegmccjaaDoor

/- limb.Bytes. -/
namespace Go.Proofs.YtejhfmjegmccjaaDoor
open Go.RowKit

set_option maxHeartbeats 400000 in
theorem place_any (i : Nat) (hi : i ≤ 1000000) (w : World) :
    Calls Tryd.prog 87 #[.int .i64 (i : Int)] w fun e w' => e = .returned (.tuple #[.int .i64 ((i / 8 : Nat) : Int), .int .i64 ((i % 8 * 8 : Nat) : Int)]) ∧ w = w' := by
  go_enter Tryd.func87, Tryd.ntmps87
  go_wp2
  go_ret2
  exact ⟨rfl, rfl⟩

theorem div_pow_digits {B : Nat} (hB : 0 < B) (xs : List Nat) (hd : Dg B xs) (L : Nat) : V B xs / B ^ L = xs[L]?.getD 0 + B * V B (xs.drop (L + 1)) := by
  rcases Nat.lt_or_ge L xs.length with h | h
  · obtain ⟨x, hx⟩ := get_lt h
    have hv := V_split (B := B) xs L
    rw [Nat.min_eq_left (by omega)] at hv
    have hl := V_lt (xs.take L) (hd.take L)
    rw [List.length_take, Nat.min_eq_left (by omega)] at hl
    rw [hv, Nat.add_comm, Nat.mul_comm, Nat.add_comm, Nat.add_mul_div_right _ _ (Nat.pow_pos hB), Nat.div_eq_of_lt hl, Nat.zero_add, List.drop_eq_getElem_cons h, V_cons, hx]
    have := (List.getElem?_eq_some_iff.1 hx).2
    simp [this]
  · have hl := V_lt xs hd
    have h2 : B ^ xs.length ≤ B ^ L := Nat.pow_le_pow_right hB h
    rw [Nat.div_eq_of_lt (by omega), List.getElem?_eq_none h, List.drop_of_length_le (by omega)]
    simp [V]

/-- a byte of a number, out of its limb -/
theorem byte_of {xs : List Nat} {N j x : Nat} (h : V b64 xs = N) (hd : Dg b64 xs) (hx : xs[j / 8]?.getD 0 = x) : N / 256 ^ j % 256 = x / 2 ^ (j % 8 * 8) % 256 := by
  have e1 : 256 ^ j = b64 ^ (j / 8) * 256 ^ (j % 8) := by
    rw [show b64 = 256 ^ 8 from rfl, ← Nat.pow_mul, ← Nat.pow_add]
    congr 1
    omega
  have e2 : 2 ^ (j % 8 * 8) = 256 ^ (j % 8) := by rw [show (256 : Nat) = 2 ^ 8 from rfl, ← Nat.pow_mul, Nat.mul_comm]
  have e3 : b64 = 256 ^ (j % 8) * (256 * 256 ^ (7 - j % 8)) := by
    rw [← Nat.pow_succ', ← Nat.pow_add, show j % 8 + (7 - j % 8 + 1) = 8 by omega]
    rfl
  rw [e1, e2, ← Nat.div_div_eq_div_mul, ← h, div_pow_digits b64_pos xs hd, hx]
  generalize V b64 (xs.drop (j / 8 + 1)) = T
  rw [e3, Nat.mul_assoc, Nat.mul_comm (256 ^ (j % 8)), Nat.add_mul_div_right _ _ (Nat.pow_pos (by decide)), Nat.mul_assoc, Nat.add_mul_mod_self_left]

end Go.Proofs.YtejhfmjegmccjaaDoor
