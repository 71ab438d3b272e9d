/- Parts of one proof, joined: Aw, QuietR, StillR, Ax, Kt, Bn, Aj, Bi. -/
import Derived.Test.YtabhdkjepbkooaaPileC6
import Derived.Test.YtabhdkjepbkooaaPileC7
import Derived.Test.YtabhdkjepbkooaaRows
import Derived.WalkKit
import Derived.Sort.QuietThIn
import Derived.Sort.QuietTacIn
import Derived.StillTail
import Derived.OwnWalkIn
import Derived.RangeFuncCalls
import Derived.StillTailTactics
import Derived.Test.YtabhdkjepbkooaaPileC1
import Derived.Laws.IdiomStrings
import Derived.Laws.BytesString
import Derived.Lib.SlBytesConst
import Derived.OpenShut
import Derived.Test.YtabhdkjepbkooaaPileC2

/- aescore: slices.Backward over the round keys. -/
set_option linter.unusedVariables false
set_option linter.unusedSimpArgs false
namespace Go.Proofs.Ytabhdkjepbkooaa
open Go.RowKit
attribute [local go_sem] Oper.semAt_some

set_option maxRecDepth 100000 in
set_option maxHeartbeats 1600000 in
theorem back_any (w : World) (gk C : Nat) : Calls Try.prog 28 #[.slice (some ⟨gk, 0, none⟩) C C] w fun e w' =>
    ∃ g1, e = .returned (.func (.func 43) #[] #[.pointer (some ⟨g1, 0, none⟩)]) ∧ w.heap.size ≤ g1 ∧ RowV 39 w' g1 [.slice (some ⟨gk, 0, none⟩) C C] ∧ Below w.heap.size w w' := by
  obtain ⟨W1, e1, r1, b1, z1⟩ := newV w 39 [.slice (some ⟨gk, 0, none⟩) C C] #[.slice (some ⟨gk, 0, none⟩) C C] rfl
  obtain ⟨g1, hg1⟩ : ∃ x, w.heap.size = x := ⟨_, rfl⟩
  rw [hg1] at r1 b1
  have HH := Lib.hid (And.intro r1 b1)
  have HG := Lib.hid hg1
  clear r1 b1 z1
  go_enter Try.func28, Try.ntmps28
  go_wp2
  go_ret
  refine ⟨g1, rfl, by rw [HG.out]; exact Nat.le_refl _, ?_, ?_⟩
  · exact HH.out.1
  · rw [HG.out]; exact HH.out.2
/-- what Backward hands out -/
structure BkX where
  i : Nat
  k : List (BitVec 8)
abbrev encB : BkX → Array Value := fun x => #[.int .i64 (x.i : Int), .agg (x.k.map W8).toArray]
def BkR (bs : List (BitVec 8)) (C : Nat) (pre : List BkX) (x : BkX) (_ : World) : Prop := x.i + pre.length + 1 = C ∧ x.k = keyAt bs x.i
set_option maxRecDepth 100000 in
set_option maxHeartbeats 4000000 in
theorem back1_in (nn : Nat) (hn : 1 ≤ nn) (w : World) (ex g1 gk C : Nat) (bs : List (BitVec 8)) (h1 : RowV 39 w g1 [.slice (some ⟨gk, 0, none⟩) C C]) (h2 : RowV 49 w gk (bs.map W8)) (hbl : bs.length = 16 * C) (hx1 : g1 ≠ ex) (hx2 : gk ≠ ex) (hC : C ≤ 15) :
    SeqP Fence.wide nn Try.prog 43 #[.pointer (some ⟨g1, 0, none⟩)] encB (BkR bs C) (KpE ex w.heap.size) (fun ys => ys.length = C) (fun _ => True) C w := by
  intro l J Jx W hW hJ hJx hY h0
  obtain ⟨top, htop⟩ : ∃ t, w.heap.size = t := ⟨_, rfl⟩
  have hl1 := h1.lt
  have hl2 := h2.lt
  rw [htop] at hW hY hl1 hl2
  have c1 : W.cell? ⟨g1, 0, none⟩ = some (.slice (some ⟨gk, 0, none⟩) C C) := (h1.below hW hl1).at_ rfl
  have h1W := h1.below hW hl1
  have h2W := h2.below hW hl2
  have HK0 := Lib.hid (show KpE ex top W W from KpE.refl _ _ _)
  have HY := Lib.hid hY
  have HBL := Lib.hid hbl
  have HR1 := Lib.hid h1W
  have HR2 := Lib.hid h2W
  have kC : (C : Int) ≤ 15 := by omega
  clear hY h1 h2 hW h1W h2W htop hbl
  refine callsIn_of_wp Try.func43 rfl trivial ?_ rfl
  simp only [Try.ntmps43, List.size_toArray, List.length_cons, List.length_nil, Nat.reduceAdd, Nat.reduceSub, Array.replicate_succ, Array.replicate_zero, List.push_toArray, List.append_toArray, List.nil_append, List.cons_append]
  gi_wp2
  clear c1
  gi_loopw [3] (fun i wr => ∃ (k : Nat) (pre : List BkX), k ≤ C ∧ i = .int .i64 ((k : Int) - 1) ∧ pre.length + k = C ∧ Hid (KpE ex top W wr) ∧ J pre wr) (fun i _ => (intOf i + 1).toNat)
  case atStart => exact ⟨C, [], Nat.le_refl _, by go_num, by simp, HK0, h0⟩
  case round =>
    obtain ⟨k, pre, hk, rfl, hpl, HK, hJs⟩ := hrel
    have HPL := Lib.hid hpl
    clear hpl
    by_cases hkC : k = 0
    · subst hkC
      gi_wp2
      go_end0
      exact ⟨⟨_, rfl⟩, .inl ⟨pre, by have := HPL.out; omega, hJs⟩⟩
    · obtain ⟨m, hm⟩ : ∃ m, k - 1 = m := ⟨_, rfl⟩
      have hmI : (k : Int) - 1 = (m : Int) := by omega
      have hki : (m : Int) < C := by omega
      rw [hmI]
      obtain ⟨p, hp⟩ : ∃ p, m * 16 = p := ⟨_, rfl⟩
      obtain ⟨ck, hck⟩ : ∃ l, keyAt bs m = l := ⟨_, rfl⟩
      have hckl : ck.length = 16 := by rw [← hck]; unfold keyAt; have := HBL.out; simp; omega
      have hrk := HR2.out.keptE HK.out hx2 hl2
      have c1 : wr.cell? ⟨g1, 0, none⟩ = some (.slice (some ⟨gk, 0, none⟩) C C) := (HR1.out.keptE HK.out hx1 hl1).at_ rfl
      have hrng : wr.rangeAt gk p (ck.map W8) := by
        have h := hrk.range p 16
        rw [← List.map_drop, ← List.map_take] at h
        rw [← hck]
        unfold keyAt
        rwa [Nat.mul_comm 16 m, hp]
      have hckm : (ck.map W8).length = 16 := by rw [List.length_map]; exact hckl
      have HX := Lib.hid (show BkR bs C pre ⟨m, ck⟩ wr from ⟨by have := HPL.out; show m + pre.length + 1 = C; omega, hck.symm⟩)
      obtain ⟨fn, tmps, assign, body, hy, hRd⟩ := HY.out pre ⟨m, ck⟩ wr hJs HX.out (by have := HPL.out; omega)
      dsimp only [encB] at hy
      have HP := Lib.hid hp
      have HM := Lib.hid hm
      clear hck hrk hm hmI
      gi_wp2_with (((with_reducible show wpListIn _ _ _ _ _ (⟨some 16, _, _, _, _, _⟩ :: _) _ _); refine wpListIn_load_mid rfl 49 _ rfl gk p rfl (ck.map W8) _ hrng Try.underlying49 rfl (Try.arr16.trans (by rw [hckm])) ?_))
      refine hRd.mono ?_
      rintro e W3 (⟨rfl, hJ3, hKp⟩ | ⟨rfl, hJx3⟩)
      · have HK3 := Lib.hid (HK.out.trans hKp)
        clear hKp
        gi_wp2
        go_roundw
        case rel => exact ⟨m, pre ++ [⟨m, ck⟩], by omega, rfl, by have := HPL.out; have := HM.out; simp; omega, HK3, hJ3⟩
        case measure => have := HM.out; show ((m : Int) - 1 + 1).toNat < ((m : Int) + 1).toNat; omega
      · gi_wp2
        refine bodyPost_ret (results_none rfl _ _ _) rfl ?_
        exact ⟨⟨_, rfl⟩, .inr ⟨_, trivial, hJx3⟩⟩
end Go.Proofs.Ytabhdkjepbkooaa

/- A region that draws its order and only reads, in the body of a range over a function (where the fence knows its round). -/
set_option linter.unusedVariables false
set_option linter.unusedSimpArgs false
namespace Go.Proofs.Ytabhdkjepbkooaa
open Go.RowKit

/-- no operation defers -/
def noDeferB (l : List Oper) : Bool := l.all fun o => match o.op with | .defer _ => false | _ => true
theorem noDeferB_spec {l : List Oper} (h : noDeferB l = true) {i : Nat} {o : Oper} (ho : l[i]? = some o) (c : _) : o.op ≠ .defer c := fun hc => by
  have := List.all_eq_true.1 h o (List.mem_of_getElem? ho)
  rw [hc] at this
  cases this
variable {F : Fence} {n : Nat} {P : Program} {md : Region.Mode} {C : World → Prop}

theorem wpIn_of_quietR {o : Oper} {a : Act} {K : Act → Prop} {K' : Act → World → Prop} {Q' : Exit → Act → World → Prop} {w : World} (hnd : ∀ c, o.op ≠ .defer c) (hw : C w) (h : ∀ a w', C w' → K a → K' a w')
    (ha : o.askedIn F P a C) (hh : o.quietIn F n P a C K) : o.wpIn F n P a w K' Q' := by
  obtain ⟨v, hv, hK⟩ := hh
  refine ⟨ha w hw, ?_⟩
  have h3 : Oper.quietUponIn F n P C w v ((execOp a.eval o).run P w) := hv w hw
  rw [Oper.semAt_eq _ _ _ hnd]
  generalize (execOp a.eval o).run P w = r at h3
  cases r with
  | halt x w' => exact h3.elim
  | ok x w' =>
    cases x with
    | value u => obtain ⟨rfl, rfl⟩ := h3; exact h _ _ hw hK
    | skip => obtain ⟨rfl, rfl⟩ := h3; exact h _ _ hw hK
    | enter f args =>
      obtain ⟨rfl, hd, hc⟩ := h3
      refine ⟨hd, hc.mono ?_⟩
      rintro e w'' ⟨rfl, hw''⟩
      exact h _ _ hw'' hK
    | _ => exact h3.elim
theorem wpOpIn_of_quietR {l : List Oper} (hnd : noDeferB l = true) {i : Nat} {a : Act} {K : Act → Prop} {K' : Act → World → Prop} {Q' : Exit → Act → World → Prop} {w : World} (hC : C w) (h : ∀ a w', C w' → K a → K' a w')
    (hh : qOpIn F n P l.toArray C i K a) : wpOpIn F n P l.toArray Q' i K' a w := by
  unfold qOpIn at hh
  unfold wpOpIn
  cases ho : l.toArray[i]? with
  | none => rw [ho] at hh; exact h _ _ hC hh
  | some o =>
    rw [ho] at hh
    obtain ⟨ha, hh⟩ := hh
    have hn : ∀ c, o.op ≠ .defer c := noDeferB_spec hnd (by simpa using ho)
    by_cases hw : Region.wanted o (yielded l.toArray a.tmps) = true
    · simp only [hw, if_true] at hh ⊢
      exact wpIn_of_quietR hn hC h ha hh
    · simp only [hw] at hh ⊢
      exact ⟨ha w hC, h _ _ hC hh⟩
theorem wpAnyIn_of_quietR {l : List Oper} (hnd : noDeferB l = true) {Q : Act → Prop} {Q' : Exit → Act → World → Prop} (hQ : ∀ a w, C w → Q a → Q' .normal a w) : ∀ (fuel : Nat) (listed : Array Bool) (a : Act) (w : World), C w →
    wpAnyQIn F n P md l.toArray C Q fuel listed a → wpAnyIn F n P md l.toArray Q' fuel listed a w
  | 0, _, _, _, hw, h => ⟨h.1, hQ _ _ hw h.2⟩
  | fuel + 1, _, _, _, hw, h => ⟨fun h0 => hQ _ _ hw (h.1 h0), fun i hi => wpOpIn_of_quietR hnd hw (fun a' w' hw' => wpAnyIn_of_quietR hnd hQ fuel _ a' w' hw') (h.2 i hi)⟩
theorem wpIn_region_quietR {id : Nat} {Q : Exit → Act → World → Prop} {a : Act} {w : World} {l : List Oper} (hm : P.follows .mixedOrders = true) (hB : Region.lexB .any l.toArray = true) (hnd : noDeferB l = true)
    (h : wpQuietIn F n P l.toArray (fun w' => ∃ n, w' = w.drewN n) (fun a' => ∀ w', (∃ n, w' = w.drewN n) → Q .normal a' w') l a) : (Code.region id l.toArray true).wpIn F n P Q a w := by
  simp only [Region.lexB, Bool.and_eq_true] at hB
  refine wpIn_region_any hm (wpAnyIn_of_quietR hnd (C := fun w' => ∃ n, w' = w.drewN n) (Q := fun a' => ∀ w', (∃ n, w' = w.drewN n) → Q .normal a' w') (fun _ w' hw' h => h w' hw') _ _ _ _ ⟨1, rfl⟩ ?_)
  have := wpAnyQIn_lex (F := F) (n := n) (P := P) (C := fun w' => ∃ n, w' = w.drewN n) (md := .any) hB.1 l 0 (Array.replicate l.toArray.size false) a (by simp) (by simpa using hB.2) h
  simpa using this
end Go.Proofs.Ytabhdkjepbkooaa

/- A region that draws its order, some reads ahead of a sequence, in the body of a range over a function. -/
set_option linter.unusedVariables false
set_option linter.unusedSimpArgs false
namespace Go.Proofs.Ytabhdkjepbkooaa
open Go.RowKit

variable {P : Program} {md : Region.Mode}
theorem wpIn_round_of_wp {o : Oper} {a : Act} {w : World} {K : Act → World → Prop} {Q : Exit → Act → World → Prop} {r n : Nat} (hnd : ∀ c, o.op ≠ .defer c) (h : o.wp P a w K Q) : o.wpIn (Fence.wide.inRound r) n P a w K Q := by
  refine ⟨fun _ _ => trivial, ?_⟩
  rw [Oper.semAt_plain _ _ _ hnd]
  unfold Oper.wp at h
  generalize (execOp a.eval o).run P w = x at h
  cases x with
  | halt x w' => cases x <;> first | exact h | exact h.elim
  | ok x w' =>
    cases x with
    | value u => exact h
    | skip => exact h
    | defer d => exact h
    | enter f args => exact ⟨fun h => (by cases h), (CallsIn.inRound r (callsIn_wide.2 h)).mono (fun e w' he => by cases e <;> exact he)⟩
    | row row args => exact ⟨fun h => (by cases h), fun c cs _ => let ⟨v, w', hr, s⟩ := h c cs; ⟨v, w', hr, stepsIn_wide.2 s⟩⟩
    | _ => exact h.elim
theorem wpAnyIn_round {l : List Oper} {Q : Exit → Act → World → Prop} {r n : Nat} (hnd : noDeferB l = true) (hlo : ¬ LetsOut Q) : ∀ (fuel : Nat) (L : Array Bool) (a : Act) (w : World), wpAny P md l.toArray Q fuel L a w → wpAnyIn (Fence.wide.inRound r) n P md l.toArray Q fuel L a w
  | 0, _, _, _, h => h
  | fuel + 1, L, a, w, h => ⟨h.1, fun i hi => by
    have h2 := h.2 i hi
    unfold wpOp at h2
    unfold wpOpIn
    cases ho : l.toArray[i]? with
    | none => rw [ho] at h2; exact wpAnyIn_round hnd hlo fuel _ a w h2
    | some o =>
      rw [ho] at h2
      have hn : ∀ c, o.op ≠ .defer c := noDeferB_spec hnd (by simpa using ho)
      by_cases hw : Region.wanted o (yielded l.toArray a.tmps) = true
      · simp only [hw, if_true] at h2 ⊢
        rcases h2 with h2 | h2
        · exact Oper.wpIn_mono (fun a w => wpAnyIn_round hnd hlo fuel _ a w) (wpIn_round_of_wp hn h2)
        · exact absurd h2.2 hlo
      · simp only [hw] at h2 ⊢
        exact ⟨fun _ _ => trivial, wpAnyIn_round hnd hlo fuel _ _ w h2⟩⟩
theorem wpIn_region_still_tailR {id r m : Nat} {Q : Exit → Act → World → Prop} {a : Act} {w : World} {l : List Oper} (n : Nat) (hm : P.follows .mixedOrders = true) (hB : Region.lexTailB .any l.toArray n = true) (hnd : noDeferB l = true) (hlo : ¬ LetsOut Q)
    (h : wpStill P l.toArray w.drew (fun a' => wpList P l.toArray Q (l.drop n) a' w.drew) (l.take n) a) : (Code.region id l.toArray true).wpIn (Fence.wide.inRound r) m P Q a w := by
  simp only [Region.lexTailB, Bool.and_eq_true, decide_eq_true_eq] at hB
  obtain ⟨⟨⟨⟨hsel, hn⟩, hs⟩, hc⟩, hlex⟩ := hB
  have hn' : n < l.length := by simpa using hn
  have htl : (l.take n).length = n := by simp; omega
  have hdl : (l.drop n).length = l.toArray.size - n := by simp
  have inv0 : HeadInv .any l.toArray n (Array.replicate l.toArray.size false) :=
    ⟨by simp, fun j oj _ hl => (by rw [getD_replicate_false] at hl; cases hl), fun t _ ht => getD_in (by simpa using ht) (getD_replicate_false _ _)⟩
  have H := wpAnyL_lex (md := .any) (g := l.toArray.size - n) hsel hs hc hn (l.take n) 0 _ a (fun j hj => by
    have hj' : j < n := by rw [htl] at hj; exact hj
    simp [hj']) (by simpa using htl) inv0 (by rw [htl]; exact hlex) h
  refine wpIn_region_any hm (wpAnyIn_round hnd hlo _ _ _ _ ?_)
  have := wpAny_of_head (Q' := Q) (g := l.toArray.size - n) (fun listed a' hL => by
    have := wpAny_of_seq (md := .any) (Q' := Q) (l.drop n) n listed a' w.drew (fun j => by simp [List.getElem?_drop]) (by rw [hdl]; exact hL.1) hL.2
    rwa [hdl] at this) _ _ _ H
  rw [htl, show n + (l.toArray.size - n) = l.toArray.size by omega] at this
  exact this
end Go.Proofs.Ytabhdkjepbkooaa

/- aescore: Decrypt. -/
set_option linter.unusedVariables false
set_option linter.unusedSimpArgs false
namespace Go.Proofs.Ytabhdkjepbkooaa
open Go.RowKit
attribute [local go_sem] Try.zeroValue47 Try.zeroCells47_size Try.zeroCells47_ne
attribute [local go_sem] Oper.semAt_some

theorem putB_inv (s : List (BitVec 8)) : putB invL s = putV s := rfl
theorem putV_length (s : List (BitVec 8)) : (putV s).length = 16 := st16_length _
theorem still_value {P : Program} {w : World} {ops : Array Oper} {rest : List Oper} {o : Oper} {a : Act} {Q : Act → Prop} (v : Value) (hw : Region.wanted o (yielded ops a.tmps) = true) (hr : (execOp a.eval o).run P w = .ok (.value v) w) (h : wpStill P ops w Q rest (a.put o.dst v)) : wpStill P ops w Q (o :: rest) a :=
  wpStill_step fun K hK => by
    rw [if_pos hw]
    unfold Oper.still
    rw [hr]
    exact ⟨rfl, hK _ h⟩
theorem still_load_mid {P : Program} {w : World} {ops : Array Oper} {rest : List Oper} {o : Oper} {a : Act} {Q : Act → Prop} (hw : Region.wanted o (yielded ops a.tmps) = true) (ty : TypeId) (x : Operand) (ho : o.op = .load ty x)
    (b off : Nat) (hx : a.eval x = .pointer (some ⟨b, off, none⟩)) (cs : List Value) (d : TypeDesc) (hc : w.rangeAt b off cs)
    (hu : P.underlying ty = some d) (hd : d.isRow = true) (hi : (P.info? ty).map (·.size) = some cs.length) (h : wpStill P ops w Q rest (a.put o.dst (.agg cs.toArray))) : wpStill P ops w Q (o :: rest) a :=
  still_value (.agg cs.toArray) hw (by unfold execOp; simp only [ho, hx, Instr.loadAt, Instr.sureAddr, Sem.run_bind, Sem.run_pure, Result.andThen_ok, run_loadVar_mid w b off ty cs d hc hu hd hi]) h
/-- how far Decrypt has come -/
def DecI (w0 : World) (g last C : Nat) (ks : List (List (BitVec 8))) (b : List (BitVec 8)) (pre : List BkX) (W : World) : Prop :=
  OnlyV w0 W g ∧ RowV 50 W g ((decL last (C - pre.length) (ks.drop (C - pre.length)) b).map W8)
theorem DecI.own (w0 : World) (g last C : Nat) (ks : List (List (BitVec 8))) (b : List (BitVec 8)) : OwnFrom w0.heap.size (DecI w0 g last C ks b) := fun s W W' row hs hg hr =>
  ⟨hs.1.grown hg (fun r e => (hr r e).1), hs.2.kept hg (fun r e => (hr r e).2)⟩
theorem BkR.own (bs : List (BitVec 8)) (C B : Nat) (pre : List BkX) : OwnFrom B (BkR bs C pre) := fun _ _ _ _ hs _ _ => hs
/-- the variable of a round: a block of its own that holds the key -/
def BkA (x : BkX) (W : World) (bw : Nat) (W' : World) : Prop := W.heap.size = bw ∧ RowV 49 W' bw (x.k.map W8)
set_option maxRecDepth 100000 in
set_option maxHeartbeats 8000000 in
theorem decrypt_any (w : World) (g : Nat) (key : List (BitVec 8)) (hR : CipherR w g key) (B : Nat) (A : Option Addr) (n c : Nat) (bs : List (BitVec 8)) (hs : SlV w B A n c (bs.map W8)) (hB : B ≤ w.heap.size) (hn : n = 16) : Calls Try.prog 11 #[.pointer (some ⟨g, 0, none⟩), .slice A n c] w fun e w' =>
    ∃ g', e = .returned (.slice (some ⟨g', 0, none⟩) 16 16) ∧ w.heap.size ≤ g' ∧ RowV 50 w' g' ((decA key bs).map W8) ∧ Below w.heap.size w w' := by
  have hbl : bs.length = 16 := by have := hs.len; simp at this; omega
  have htk := takes_any w g key hR A n c hn
  obtain ⟨gk, hrg, hrk⟩ := hR.rows
  obtain ⟨C, hC⟩ : ∃ C, cntL key.length = C := ⟨_, rfl⟩
  have hCb : 11 ≤ C ∧ C ≤ 15 := by rw [← hC]; unfold cntL; rcases hR.len with h | h | h <;> omega
  rw [hC] at hrg
  obtain ⟨b, off, v0, rfl, hlt, hv0, _⟩ := hs.at_ (k := 0) (by omega)
  have hrng : w.rangeAt b off (bs.map W8) := by
    obtain ⟨b', o', e, _, hc⟩ := hs.2.2.2 (by intro e; rw [e] at hv0; simp at hv0)
    injection e with e
    injection e with e1 e2
    subst e1 e2
    exact hc
  subst hn
  have hltw : b < w.heap.size := by omega
  clear hv0 hs hlt
  obtain ⟨z, hz⟩ : ∃ z, w.heap.size = z := ⟨_, rfl⟩
  have hgz : g < z := by rw [← hz]; exact hrg.lt
  have hkz : gk < z := by rw [← hz]; exact hrk.lt
  rw [hz] at hltw
  have hsb := sbox_any w
  rw [hz] at hsb
  have HTK := Lib.hid htk
  have HSB := Lib.hid hsb
  have HZ := Lib.hid hz
  have HRG := Lib.hid hrg
  have HRK := Lib.hid hrk
  have HRN := Lib.hid hrng
  have HC := Lib.hid hC
  have HBL := Lib.hid hbl
  have hlb : (invL.map W8).length = 256 := by kernel_rfl
  have k1 : (11 : Int) ≤ C := by omega
  have k2 : (C : Int) ≤ 15 := by omega
  obtain ⟨last, hlast⟩ : ∃ l, C - 1 = l := ⟨_, rfl⟩
  have hlI : (C : Int) - 1 = (last : Int) := by omega
  have HLA := Lib.hid hlast
  have hKL := hR.len
  clear htk hsb hz hrg hrk hrng hC hR hlast
  refine (callsIn_wide (n := 9)).1 ?_
  refine callsIn_of_wp_marks Try.func11 rfl trivial ?_ rfl
  simp only [Try.ntmps11, List.size_toArray, List.length_cons, List.length_nil, Nat.reduceAdd, Nat.reduceSub, Array.replicate_succ, Array.replicate_zero, List.push_toArray, List.append_toArray, List.nil_append, List.cons_append]
  gi_wp2_with fail
  refine ⟨trivial, (callsIn_wide.2 HTK.out).mono ?_⟩
  rintro e w' ⟨rfl, rfl⟩
  gi_wp2_with fail
  refine ⟨trivial, (callsIn_wide.2 HSB.out).mono ?_⟩
  rintro e V0 ⟨rfl, b0⟩
  gi_wp2_with fail
  refine ⟨trivial, (callsIn_wide.2 (inverse_any V0 boxL boxL_length)).mono ?_⟩
  rintro e V1 ⟨rfl, b1'⟩
  rw [invN_box]
  have b1 : Below z w V1 := b0.trans (b1'.mono (by have := b0.size; have := HZ.out; omega))
  clear b0 b1'
  obtain ⟨V2, e2, r2, b2, z2⟩ := new256 V1
  obtain ⟨g5, hg5⟩ : ∃ x, V1.heap.size = x := ⟨_, rfl⟩
  have hz5 : z ≤ g5 := by have := b1.size; have := HZ.out; omega
  rw [hg5] at r2 b2
  obtain ⟨V3, e3⟩ : ∃ V, V2.setCells g5 0 (invL.map W8) = V := ⟨_, rfl⟩
  have r3 : RowV 47 V3 g5 (invL.map W8) := by rw [← e3]; exact r2.setAll _ (by rw [hlb]; simp)
  have b3 : Below z w V3 := by rw [← e3]; exact below_setMany hz5 _ 0 w V2 (b1.trans (b2.mono hz5))
  have th2 := r2.thereAll (invL.map W8).toArray.size (by rw [List.size_toArray, hlb]; simp)
  obtain ⟨V4, e4, r4, b4, z4⟩ := newV V3 3 [.int .i64 0] #[.int .i64 0] rfl
  obtain ⟨g6, hg6⟩ : ∃ x, V3.heap.size = x := ⟨_, rfl⟩
  have h56 : g5 < g6 := by rw [← hg6]; exact r3.lt
  rw [hg6] at r4 b4
  have c6 := r4.at_ (i := 0) (v := .int .i64 0) rfl
  have f6 := r4.frozen 0
  obtain ⟨V5, e5⟩ : ∃ V, V4.setCell ⟨g6, 0, none⟩ (.int .i64 (last : Int)) = V := ⟨_, rfl⟩
  have r5 : RowV 3 V5 g6 [.int .i64 (last : Int)] := by rw [← e5]; exact r4.set 0 _
  have b35 : Below g6 V3 V5 := by rw [← e5]; exact below_setV b4 (Nat.le_refl _) 0 _
  obtain ⟨V6, e6, r6, b6, z6⟩ := newZ V5
  obtain ⟨g7, hg7⟩ : ∃ x, V5.heap.size = x := ⟨_, rfl⟩
  have h67 : g6 < g7 := by rw [← hg7]; exact r5.lt
  rw [hg7] at r6 b6
  have hbm : (bs.map W8).length = 16 := by rw [List.length_map]; exact HBL.out
  obtain ⟨V7, e7⟩ : ∃ V, V6.setCells g7 0 (bs.map W8) = V := ⟨_, rfl⟩
  have r7 : RowV 50 V7 g7 (bs.map W8) := by rw [← e7]; exact r6.setAll _ (by rw [hbm]; simp)
  have th6 := r6.thereAll (bs.map W8).toArray.size (by rw [List.size_toArray, hbm]; simp)
  have b57 : Below g7 V5 V7 := by rw [← e7]; exact below_setMany (Nat.le_refl _) _ 0 V5 V6 b6
  have b05 : Below z w V5 := b3.trans (b35.mono (by omega))
  have b07 : Below z w V7 := b05.trans (b57.mono (by omega))
  have cg : V3.cell? ⟨g, 0, none⟩ = some (.slice (some ⟨gk, 0, none⟩) C C) := (HRG.out.below b3 hgz).at_ rfl
  have hrng5 : V5.rangeAt b off (bs.map W8) := fun j v hv => (b05.cell (p := ⟨b, off + j, none⟩) hltw).trans (HRN.out j v hv)
  have hat : ∀ w, (Instr.arrayAt 50 (.slice (some ⟨b, off, none⟩) 16 c)).run Try.prog w = .ok (.pointer (some ⟨b, off, none⟩)) w := fun w => by
    simp [Instr.arrayAt, run_underlying Try.underlying50]
  have HR5 := Lib.hid ((r3.below b35 h56).below b57 (by omega))
  have HR6 := Lib.hid (r5.below b57 h67)
  have HR7 := Lib.hid r7
  have HB7 := Lib.hid b07
  have cg7 : V7.cell? ⟨g, 0, none⟩ = some (.slice (some ⟨gk, 0, none⟩) C C) := (HRG.out.below b07 hgz).at_ rfl
  have hky := back_any V7 gk C
  have HKY := Lib.hid hky
  have HWL := Lib.hid (show (wholeL key).length = 16 * C by rw [wholeL_length key hKL, HC.out])
  have HL := Lib.hid (And.intro hz5 (And.intro h56 h67))
  clear b1 b2 b3 b4 b35 b6 b57 b05 b07 r2 r3 r4 r5 r6 r7 z2 z4 z6 hky hz5
  gi_wp2_with (first | ((with_reducible show wpListIn _ _ _ _ _ (⟨some 24, _, _, _, _, _⟩ :: _) _ _); refine wpListIn_load_mid rfl 50 _ rfl b off rfl (bs.map W8) _ hrng5 Try.underlying50 rfl (Try.arrS.trans (by rw [hbm])) ?_) | ((with_reducible show wpListIn _ _ _ _ _ (⟨none, Op.store 47 _ _, _, _, _, _⟩ :: _) _ _); refine wpListIn_store_mid rfl 47 _ _ rfl g5 0 (invL.map W8).toArray rfl rfl th2 (Try.arr256.trans (by rw [List.size_toArray, hlb])) (all_oneCell_toArray (ones8 invL)) ?_; (try rw [List.toList_toArray]); rw [e3]) | ((with_reducible show wpListIn _ _ _ _ _ (⟨none, Op.store 50 _ _, _, _, _, _⟩ :: _) _ _); refine wpListIn_store_mid rfl 50 _ _ rfl g7 0 (bs.map W8).toArray rfl rfl th6 (Try.arrS.trans (by rw [List.size_toArray, hbm])) (all_oneCell_toArray (ones8 bs)) ?_; (try rw [List.toList_toArray]); rw [e7]))
  refine ⟨trivial, (callsIn_wide.2 HKY.out).mono ?_⟩
  rintro e V8 ⟨g1, rfl, hg1, hr1, hb8⟩
  have hg7l : g7 < V7.heap.size := HR7.out.lt
  have hkl8 : RowV 49 V8 gk ((wholeL key).map W8) := (HRK.out.below HB7.out hkz).later hb8
  have hl := HL.out
  have hseq := back1_in 8 (by decide) V8 g7 g1 gk C (wholeL key) hr1 hkl8 (by rw [wholeL_length key hKL, HC.out]) (by omega) (by omega) (by omega)
  have HSEQ := Lib.hid hseq
  have HR58 := Lib.hid (HR5.out.later hb8)
  have HR68 := Lib.hid (HR6.out.later hb8)
  have HR78 := Lib.hid (HR7.out.later hb8)
  have hz7 : z ≤ V7.heap.size := by have := HB7.out.size; have := HZ.out; omega
  have HB8 := Lib.hid (HB7.out.trans (hb8.mono hz7))
  have hg78 : g7 < V8.heap.size := HR78.out.lt
  have HKL := Lib.hid hKL
  clear hseq hb8 hkl8 hr1 hKL
  gi_wp2_with fail
  refine wpIn_rangeB rfl (by decide) (gf := 43) (lb := #[.pointer (some ⟨g1, 0, none⟩)]) rfl trivial (enters_of Try.func43 (by kernel_rfl) rfl)
    HSEQ.out (fun a b => a.trans b) (fun W l o o' hl ho _ _ => KpE.put hl ho) (fun _ => rfl)
    (DecI V8 g7 last C (keysL key) bs) (fun _ _ _ => False) (DecI.own _ _ _ _ _ _) (fun _ _ _ _ _ h _ _ => h.elim) (fun pre => BkR.own _ _ _ pre) ?hI0 (fun A B hA hb => KpE.below hb hA)
    ?ax BkA ?assign ?hBx ?body ?done ?stop
  case hI0 =>
    refine ⟨OnlyV.refl _ _, ?_⟩
    rw [List.length_nil, Nat.sub_zero, List.drop_of_length_le (by rw [keysL_length, HC.out]; exact Nat.le_refl _)]
    exact HR78.out
  case assign =>
    rintro l pre x W K hW ⟨hx, hd⟩ hK
    have hxl : x.k.length = 16 := by
      have h2 := HWL.out
      rw [hd]; unfold keyAt; simp; omega
    obtain ⟨W1', e1', r1', b1', z1'⟩ := new16 W
    obtain ⟨bw, hbw⟩ : ∃ b, W.heap.size = b := ⟨_, rfl⟩
    rw [hbw] at r1' b1'
    have hxm : (x.k.map W8).length = 16 := by rw [List.length_map]; exact hxl
    have hth := r1'.thereAll (x.k.map W8).toArray.size (by rw [List.size_toArray, hxm]; simp)
    obtain ⟨W2', e2'⟩ : ∃ V, W1'.setCells bw 0 (x.k.map W8) = V := ⟨_, rfl⟩
    have hr2 : RowV 49 W2' bw (x.k.map W8) := by rw [← e2']; exact r1'.setAll _ (by rw [hxm]; simp)
    have hb2 : Below bw W W2' := by rw [← e2']; exact below_setMany (Nat.le_refl _) _ 0 W W1' b1'
    have hK2 := hK _ W2' (by rw [hbw]; exact hb2) ⟨bw, rfl, hbw, hr2⟩
    clear r1' b1' z1' hd hx hK
    gi_wp2_with (first | ((with_reducible show wpListIn _ _ _ _ _ (⟨none, Op.store 49 _ _, _, _, _, _⟩ :: _) _ _); refine wpListIn_store_mid rfl 49 _ _ rfl bw 0 (x.k.map W8).toArray rfl rfl hth (Try.arr16.trans (by rw [List.size_toArray, hxm])) (all_oneCell_toArray (ones8 x.k)) ?_; (try rw [List.toList_toArray]); rw [e2']))
    exact hK2
  case hBx =>
    rintro x W bw W' o' ⟨h2, h3⟩ l o hl hlW ho hoc
    exact ⟨h2, (World.putObj_heap_other (by omega)).trans h3⟩
  case body =>
    rintro l pre ⟨xi, kb⟩ W0 bw W hz0 ⟨hbw, hrb⟩ ⟨hO, hS⟩ ⟨hxi, hxk⟩ hpl
    dsimp only at hxi hxk hrb
    obtain ⟨st, hst⟩ : ∃ l, decL last (C - pre.length) ((keysL key).drop (C - pre.length)) bs = l := ⟨_, rfl⟩
    rw [hst] at hS
    have hst16 : st.length = 16 := by rw [← hst]; exact decL_length _ _ _ _ HBL.out
    have hkb : (keysL key)[xi]? = some kb := by rw [hxk]; exact keysL_get key xi (by rw [HC.out]; omega)
    have hkbl : kb.length = 16 := by have h2 := HWL.out; rw [hxk]; unfold keyAt; simp; omega
    have hnew : decL last (C - (pre.length + 1)) ((keysL key).drop (C - (pre.length + 1))) bs = decR last xi kb st := by
      rw [show C - (pre.length + 1) = xi by omega, decL_drop _ _ _ _ _ hkb, ← hst, show C - pre.length = xi + 1 by omega]
    have HNEW := Lib.hid hnew
    have HRWW := Lib.hid hS
    have HOWW := Lib.hid hO
    have HOW := Lib.hid hO
    have hbg : bw ≠ g7 := by omega
    have hsk : SlV W W.heap.size (some ⟨bw, 0, none⟩) 16 16 (kb.map W8) := by have h := hrb.sl (by simp [hkbl]); rwa [List.length_map, hkbl] at h
    have HSK := Lib.hid hsk
    have HXI := Lib.hid hxi
    clear hst hS hO hkb hnew hxi hxk hsk hrb hbw hz0 hpl
    gi_wp2_with fail
    refine wpIn_region_still_tailR 2 (by kernel_rfl) (by kernel_rfl) (by kernel_rfl) (by rintro ⟨a, w, h⟩; exact h) ?_
    simp only [List.take_succ_cons, List.take_zero, List.drop_succ_cons, List.drop_zero]
    show wpStill _ _ (World.drew _) (fun a' => wpList _ _ _ _ a' (World.drew _)) _ _
    generalize hVd : World.drew _ = Vd
    have hrd : RowV 50 Vd g7 (st.map W8) := by rw [← hVd]; exact HRWW.out
    have hod : OnlyV W Vd g7 := by rw [← hVd]; exact (OnlyV.refl W g7).drewN 1
    have hsd : SlV Vd Vd.heap.size (some ⟨bw, 0, none⟩) 16 16 (kb.map W8) := by rw [← hVd]; exact HSK.out
    have hlm : (st.map W8).length = 16 := by rw [List.length_map]; exact hst16
    refine still_load_mid (by rfl) 50 _ rfl g7 0 rfl (st.map W8) _ hrd.range0 Try.underlying50 rfl (Try.arrS.trans (by rw [hlm])) ?_
    refine wpStill_step (fun K hK => ?_); go_simp; refine hK _ ?_; clear hK K
    refine wpStill_nil ?_
    go_wp2_with fail
    refine (add_any Vd st hst16 Vd.heap.size (some ⟨bw, 0, none⟩) 16 16 kb hsd (Nat.le_refl _) rfl).mono ?_
    rintro e U1 ⟨rfl, hbWa⟩
    obtain ⟨s1, hs1⟩ : ∃ l, addV st kb = l := ⟨_, rfl⟩
    have hs1l : s1.length = 16 := by rw [← hs1]; exact addV_length _ _
    rw [hs1]
    have HS1 := Lib.hid hs1
    have HRWVd := Lib.hid hrd
    have HOWVd := Lib.hid (show OnlyV V8 Vd g7 from HOW.out.trans hod)
    have HOOVd := Lib.hid hod
    clear hrd hod hsd hs1 hVd
    have lmVd : (st.map W8).length = 16 := by rw [List.length_map]; exact hst16
    have rgVd := HRWVd.out.range0
    have rbVd := (HR58.out.only HOWVd.out (show g5 ≠ g7 by omega)).range0
    have clVd : Vd.cell? ⟨g6, 0, none⟩ = some (.int .i64 (last : Int)) := (HR68.out.only HOWVd.out (show g6 ≠ g7 by omega)).at_ rfl
    have rUWa := HRWVd.out.later hbWa
    obtain ⟨Wa, eWa⟩ : ∃ V, U1.setCells g7 0 (s1.map W8) = V := ⟨_, rfl⟩
    have lm2Wa : (s1.map W8).length = 16 := by rw [List.length_map]; exact hs1l
    have thWa := rUWa.thereAll (s1.map W8).toArray.size (by rw [List.size_toArray, lm2Wa, lmVd])
    have HRWWa := Lib.hid (show RowV 50 Wa g7 (s1.map W8) by rw [← eWa]; exact rUWa.setAll _ (by rw [lm2Wa, lmVd]))
    have HOWWa := Lib.hid (show OnlyV V8 Wa g7 by rw [← eWa]; exact OnlyV.sets _ _ _ (HOWVd.out.trans (OnlyV.of_below hbWa g7)))
    have HOOWa := Lib.hid (show OnlyV W Wa g7 by rw [← eWa]; exact OnlyV.sets _ _ _ (HOOVd.out.trans (OnlyV.of_below hbWa g7)))
    clear rUWa hbWa rgVd rbVd clVd
    go_wp2_with (((with_reducible show wpList _ _ _ (⟨none, Op.store 50 _ _, _, _, _, _⟩ :: _) _ _); refine wpList_store_mid rfl 50 _ _ rfl g7 0 (s1.map W8).toArray rfl rfl thWa (Try.arrS.trans (by rw [List.size_toArray, lm2Wa])) (all_oneCell_toArray (ones8 s1)) ?_; (try rw [List.toList_toArray]); rw [eWa]))
    by_cases hp0 : xi = 0
    · have hp0I : ¬ (0 : Int) < (xi : Int) := by omega
      have HP0 := Lib.hid hp0
      clear hp0
      gi_wp2
      refine ⟨⟨HOOWa.out.size, fun k o hk hh _ => (HOOWa.out.block k (Array.getElem?_eq_some_iff.1 hh).1 (fun e => by injection e; omega)).trans hh⟩, KpE.only HOOWa.out HOW.out.size, HOWWa.out, ?_⟩
      rw [List.length_append, List.length_singleton, HNEW.out]
      have h := HRWWa.out
      rw [← HS1.out] at h
      unfold decR
      rw [if_neg (by have := HP0.out; omega)]
      exact h
    · have hp0I : (0 : Int) < (xi : Int) := by omega
      have HP0 := Lib.hid hp0
      clear hp0
      by_cases hpl2 : xi < last
      · have hplI : (xi : Int) < (last : Int) := by omega
        have lmWa : (s1.map W8).length = 16 := by rw [List.length_map]; exact hs1l
        have rgWa := HRWWa.out.range0
        have rbWa := (HR58.out.only HOWWa.out (show g5 ≠ g7 by omega)).range0
        have clWa : Wa.cell? ⟨g6, 0, none⟩ = some (.int .i64 (last : Int)) := (HR68.out.only HOWWa.out (show g6 ≠ g7 by omega)).at_ rfl
        gi_wp2_with (first | ((with_reducible show wpListIn _ _ _ _ _ (⟨some 42, _, _, _, _, _⟩ :: _) _ _); refine wpListIn_load_mid rfl 50 _ rfl g7 0 rfl (s1.map W8) _ rgWa Try.underlying50 rfl (Try.arrS.trans (by rw [lmWa])) ?_))
        refine ⟨trivial, (CallsIn.inRound l (callsIn_wide.2 (unmix_any Wa s1 hs1l))).mono ?_⟩
        rintro e U2 ⟨rfl, hbWb⟩
        obtain ⟨s2, hs2⟩ : ∃ l, mixS (mixS (mixS s1)) = l := ⟨_, rfl⟩
        have hs2l : s2.length = 16 := by rw [← hs2]; exact mixS_length _
        rw [hs2]
        have HS2 := Lib.hid hs2
        have rUWb := HRWWa.out.later hbWb
        obtain ⟨Wb, eWb⟩ : ∃ V, U2.setCells g7 0 (s2.map W8) = V := ⟨_, rfl⟩
        have lm2Wb : (s2.map W8).length = 16 := by rw [List.length_map]; exact hs2l
        have thWb := rUWb.thereAll (s2.map W8).toArray.size (by rw [List.size_toArray, lm2Wb, lmWa])
        have HRWWb := Lib.hid (show RowV 50 Wb g7 (s2.map W8) by rw [← eWb]; exact rUWb.setAll _ (by rw [lm2Wb, lmWa]))
        have HOWWb := Lib.hid (show OnlyV V8 Wb g7 by rw [← eWb]; exact OnlyV.sets _ _ _ (HOWWa.out.trans (OnlyV.of_below hbWb g7)))
        have HOOWb := Lib.hid (show OnlyV W Wb g7 by rw [← eWb]; exact OnlyV.sets _ _ _ (HOOWa.out.trans (OnlyV.of_below hbWb g7)))
        clear rUWb hbWb rgWa rbWa clWa
        clear hs2
        have lmWb : (s2.map W8).length = 16 := by rw [List.length_map]; exact hs2l
        have rgWb := HRWWb.out.range0
        have rbWb := (HR58.out.only HOWWb.out (show g5 ≠ g7 by omega)).range0
        have clWb : Wb.cell? ⟨g6, 0, none⟩ = some (.int .i64 (last : Int)) := (HR68.out.only HOWWb.out (show g6 ≠ g7 by omega)).at_ rfl
        gi_wp2_with (first | ((with_reducible show wpListIn _ _ _ _ _ (⟨none, Op.store 50 _ _, _, _, _, _⟩ :: _) _ _); refine wpListIn_store_mid rfl 50 _ _ rfl g7 0 (s2.map W8).toArray rfl rfl thWb (Try.arrS.trans (by rw [List.size_toArray, lm2Wb])) (all_oneCell_toArray (ones8 s2)) ?_; (try rw [List.toList_toArray]); rw [eWb]) | ((with_reducible show wpListIn _ _ _ _ _ (⟨some 46, _, _, _, _, _⟩ :: _) _ _); refine wpListIn_load_mid rfl 50 _ rfl g7 0 rfl (s2.map W8) _ rgWb Try.underlying50 rfl (Try.arrS.trans (by rw [lmWb])) ?_) | ((with_reducible show wpListIn _ _ _ _ _ (⟨some 47, _, _, _, _, _⟩ :: _) _ _); refine wpListIn_load_mid rfl 47 _ rfl g5 0 rfl (invL.map W8) _ rbWb Try.underlying47 rfl (Try.arr256.trans (by rw [hlb])) ?_))
        refine ⟨trivial, (CallsIn.inRound l (callsIn_wide.2 (putBack_any Wb s2 hs2l invL invL_length))).mono ?_⟩
        rintro e U3 ⟨rfl, hbWc⟩
        obtain ⟨s3, hs3⟩ : ∃ l, putV s2 = l := ⟨_, rfl⟩
        have hs3l : s3.length = 16 := by rw [← hs3]; exact putV_length _
        rw [putB_inv, hs3]
        have HS3 := Lib.hid hs3
        have rUWc := HRWWb.out.later hbWc
        obtain ⟨Wc, eWc⟩ : ∃ V, U3.setCells g7 0 (s3.map W8) = V := ⟨_, rfl⟩
        have lm2Wc : (s3.map W8).length = 16 := by rw [List.length_map]; exact hs3l
        have thWc := rUWc.thereAll (s3.map W8).toArray.size (by rw [List.size_toArray, lm2Wc, lmWb])
        have HRWWc := Lib.hid (show RowV 50 Wc g7 (s3.map W8) by rw [← eWc]; exact rUWc.setAll _ (by rw [lm2Wc, lmWb]))
        have HOWWc := Lib.hid (show OnlyV V8 Wc g7 by rw [← eWc]; exact OnlyV.sets _ _ _ (HOWWb.out.trans (OnlyV.of_below hbWc g7)))
        have HOOWc := Lib.hid (show OnlyV W Wc g7 by rw [← eWc]; exact OnlyV.sets _ _ _ (HOOWb.out.trans (OnlyV.of_below hbWc g7)))
        clear rUWc hbWc rgWb rbWb clWb
        clear hs3
        gi_wp2_with (first | ((with_reducible show wpListIn _ _ _ _ _ (⟨none, Op.store 50 _ _, _, _, _, _⟩ :: _) _ _); refine wpListIn_store_mid rfl 50 _ _ rfl g7 0 (s3.map W8).toArray rfl rfl thWc (Try.arrS.trans (by rw [List.size_toArray, lm2Wc])) (all_oneCell_toArray (ones8 s3)) ?_; (try rw [List.toList_toArray]); rw [eWc]))
        refine ⟨⟨HOOWc.out.size, fun k o hk hh _ => (HOOWc.out.block k (Array.getElem?_eq_some_iff.1 hh).1 (fun e => by injection e; omega)).trans hh⟩, KpE.only HOOWc.out HOW.out.size, HOWWc.out, ?_⟩
        rw [List.length_append, List.length_singleton, HNEW.out]
        have h := HRWWc.out
        rw [← HS3.out, ← HS2.out, ← HS1.out] at h
        unfold decR
        rw [if_pos (by have := HP0.out; omega), if_pos (by omega)]
        exact h
      · have hplI : ¬ (xi : Int) < (last : Int) := by omega
        have lmWa : (s1.map W8).length = 16 := by rw [List.length_map]; exact hs1l
        have rgWa := HRWWa.out.range0
        have rbWa := (HR58.out.only HOWWa.out (show g5 ≠ g7 by omega)).range0
        have clWa : Wa.cell? ⟨g6, 0, none⟩ = some (.int .i64 (last : Int)) := (HR68.out.only HOWWa.out (show g6 ≠ g7 by omega)).at_ rfl
        gi_wp2_with (first | ((with_reducible show wpListIn _ _ _ _ _ (⟨some 46, _, _, _, _, _⟩ :: _) _ _); refine wpListIn_load_mid rfl 50 _ rfl g7 0 rfl (s1.map W8) _ rgWa Try.underlying50 rfl (Try.arrS.trans (by rw [lmWa])) ?_) | ((with_reducible show wpListIn _ _ _ _ _ (⟨some 47, _, _, _, _, _⟩ :: _) _ _); refine wpListIn_load_mid rfl 47 _ rfl g5 0 rfl (invL.map W8) _ rbWa Try.underlying47 rfl (Try.arr256.trans (by rw [hlb])) ?_))
        refine ⟨trivial, (CallsIn.inRound l (callsIn_wide.2 (putBack_any Wa s1 hs1l invL invL_length))).mono ?_⟩
        rintro e U3 ⟨rfl, hbWc⟩
        obtain ⟨s3, hs3⟩ : ∃ l, putV s1 = l := ⟨_, rfl⟩
        have hs3l : s3.length = 16 := by rw [← hs3]; exact putV_length _
        rw [putB_inv, hs3]
        have HS3 := Lib.hid hs3
        have rUWc := HRWWa.out.later hbWc
        obtain ⟨Wc, eWc⟩ : ∃ V, U3.setCells g7 0 (s3.map W8) = V := ⟨_, rfl⟩
        have lm2Wc : (s3.map W8).length = 16 := by rw [List.length_map]; exact hs3l
        have thWc := rUWc.thereAll (s3.map W8).toArray.size (by rw [List.size_toArray, lm2Wc, lmWa])
        have HRWWc := Lib.hid (show RowV 50 Wc g7 (s3.map W8) by rw [← eWc]; exact rUWc.setAll _ (by rw [lm2Wc, lmWa]))
        have HOWWc := Lib.hid (show OnlyV V8 Wc g7 by rw [← eWc]; exact OnlyV.sets _ _ _ (HOWWa.out.trans (OnlyV.of_below hbWc g7)))
        have HOOWc := Lib.hid (show OnlyV W Wc g7 by rw [← eWc]; exact OnlyV.sets _ _ _ (HOOWa.out.trans (OnlyV.of_below hbWc g7)))
        clear rUWc hbWc rgWa rbWa clWa
        clear hs3
        gi_wp2_with (first | ((with_reducible show wpListIn _ _ _ _ _ (⟨none, Op.store 50 _ _, _, _, _, _⟩ :: _) _ _); refine wpListIn_store_mid rfl 50 _ _ rfl g7 0 (s3.map W8).toArray rfl rfl thWc (Try.arrS.trans (by rw [List.size_toArray, lm2Wc])) (all_oneCell_toArray (ones8 s3)) ?_; (try rw [List.toList_toArray]); rw [eWc]))
        refine ⟨⟨HOOWc.out.size, fun k o hk hh _ => (HOOWc.out.block k (Array.getElem?_eq_some_iff.1 hh).1 (fun e => by injection e; omega)).trans hh⟩, KpE.only HOOWc.out HOW.out.size, HOWWc.out, ?_⟩
        rw [List.length_append, List.length_singleton, HNEW.out]
        have h := HRWWc.out
        rw [← HS3.out, ← HS1.out] at h
        unfold decR
        rw [if_pos (by have := HP0.out; omega), if_neg (by omega)]
        exact h
  case done =>
    rintro D ys W hD hys ⟨hO, hS⟩ hK
    have he : decL last (C - ys.length) ((keysL key).drop (C - ys.length)) bs = decA key bs := by
      rw [hys, Nat.sub_self, List.drop_zero, ← HLA.out, ← HC.out]
      rfl
    rw [he] at hS
    have HS := Lib.hid hS
    have HO := Lib.hid hO
    have HD := Lib.hid hD
    clear he hS hO hys hD
    gi_wp2
    refine ⟨by simp, .inl ⟨_, _, rfl, run_takeDeferred hK, ?_⟩⟩
    have hgr := grownBy_putObj' W D (.deferred none)
    have hnc : ∀ r, some D = some r → ∃ o : Obj, W.heap[r]? = some o ∧ o.isCells = false := fun r e => by cases e; exact ⟨_, hK, rfl⟩
    refine ⟨.slice (some ⟨g7, 0, none⟩) 16 16, by simp [results, Try.f11, go_sem], g7, rfl, by rw [HZ.out]; omega, HS.out.kept hgr hnc, ?_⟩
    rw [HZ.out]
    have h8 := HB8.out.size
    rw [HZ.out] at h8
    have hzg : z ≤ g7 := by omega
    exact (HB8.out.trans (HO.out.below hzg h8)).grown hgr (by have := HO.out.size; omega) (fun r e => by cases e; have := HD.out; omega)
  case stop =>
    intro D c pre W _ _ h
    exact h.elim
end Go.Proofs.Ytabhdkjepbkooaa

/- Strings, constants, rows that came in, bytes in memory of a call's own (what the hash texts have, without hashes). -/
set_option linter.unusedVariables false
set_option linter.unusedSimpArgs false
namespace Go.Proofs.Ytabhdkjepbkooaa
open Go.RowKit

/-- the bytes of a constant -/
theorem constSl (w : World) (l : List (BitVec 8)) (hl : l.length ≤ 9223372036854775807) (a b : Nat) : SlV (w.alloc (.cells (l.map W8).toArray 5 (a, b))) (w.heap.size + 1) (some ⟨w.heap.size, 0, none⟩) l.length l.length (l.map W8) :=
  ⟨by rw [List.length_map], Nat.le_refl _, hl, fun _ => ⟨w.heap.size, 0, rfl, by omega, fun k v hv => by
    rw [Nat.zero_add, World.cell?_alloc_mark]
    simpa using hv⟩⟩
theorem newFrozen (w : World) (C : Array Value) (a b : Nat) : ∃ W, w.alloc (.cells C 5 (a, b)) = W ∧ Below w.heap.size w W ∧ W.heap.size = w.heap.size + 1 := ⟨_, rfl, (Below.refl _ w).alloc (Nat.le_refl _) _, by simp⟩
theorem convConst (w : World) (C : Array Value) (n c : Nat) : (convert 22 22 (.slice (some ⟨w.heap.size, 0, none⟩) n c)).run Try.prog (w.alloc (.cells C 5)) = .ok (.slice (some ⟨w.heap.size, 0, none⟩) n c) (w.alloc (.cells C 5 (C.size, C.size + 1))) := Lib.run_convert_bytes_const w 22 5 C n c Try.underlying22 Try.underlying5


def b8u (x : BitVec 8) : UInt8 := UInt8.ofBitVec x
theorem b8u_inj {x y : BitVec 8} (h : b8u x = b8u y) : x = y := by
  have := congrArg UInt8.toBitVec h
  simpa [b8u] using this
/-- the string of these bytes -/
def strB (bs : List (BitVec 8)) : ByteArray := ⟨(bs.map b8u).toArray⟩
def strV (bs : List (BitVec 8)) : Value := .string (strB bs)
theorem strB_toList (bs : List (BitVec 8)) : (strB bs).toList = bs.map b8u := by rw [strB, ByteArray.toList_mk]
theorem map_b8u_inj : ∀ (a b : List (BitVec 8)), (a.map b8u == b.map b8u) = decide (a = b)
  | [], [] => rfl
  | [], _ :: _ => rfl
  | _ :: _, [] => rfl
  | x :: a, y :: b => by
    simp only [List.map_cons, List.cons_beq_cons, map_b8u_inj a b]
    by_cases h : x = y
    · subst h; simp
    · have : (b8u x == b8u y) = false := by
        rw [beq_eq_false_iff_ne]
        exact fun e => h (b8u_inj e)
      simp [this, h]
theorem eql_str {P : Program} (w : World) (t : TypeId) (a b : List (BitVec 8)) : (binOp .eql t (strV a) (strV b)).run P w = .ok (.bool (decide (a = b))) w := by
  unfold strV
  rw [binOp_string_eql, strB_toList, strB_toList, map_b8u_inj]
  simp [Sem.run_pure]
theorem neq_str {P : Program} (w : World) (t : TypeId) (a b : List (BitVec 8)) : (binOp .neq t (strV a) (strV b)).run P w = .ok (.bool (!decide (a = b))) w := by
  unfold strV
  rw [binOp_string_neq, strB_toList, strB_toList, map_b8u_inj]
  simp [Sem.run_pure]
theorem eqGuard_str {P : Program} (w : World) (op : BinOp) (t : TypeId) (x y : Operand) (a b : List (BitVec 8)) : (eqGuard op t x y (strV a) (strV b)).run P w = .ok () w := by
  unfold strV
  cases op <;> simp [eqGuard, go_sem]
theorem eqGuard_strc {P : Program} (w : World) (op : BinOp) (t : TypeId) (x y : Operand) (a : List (BitVec 8)) (s : ByteArray) : (eqGuard op t x y (strV a) (.string s)).run P w = .ok () w := by
  unfold strV
  cases op <;> simp [eqGuard, go_sem]
/-- 'string(s)' -/
theorem conv_str {w : World} {B n c : Nat} {A : Option Addr} {bs : List (BitVec 8)} (h : SlV w B A n c (bs.map W8)) : (convert 22 9 (.slice A n c)).run Try.prog w = .ok (strV bs) w := by
  have hl : n = bs.length := by simpa using h.len
  cases A with
  | none =>
    have : bs = [] := by
      apply Classical.byContradiction
      intro hn
      obtain ⟨b, off, e, _⟩ := h.2.2.2 (by simpa using hn)
      cases e
    subst this
    subst hl
    rw [run_convert_bytes_string w _ _ 5 none _ c Try.underlying22 Try.underlying5 Try.underlying9]
    rfl
  | some ad =>
    have hb := run_convert_bytes_back (P := Try.prog) w 22 9 5 ad c (bs.map b8u) Try.underlying22 Try.underlying5 Try.underlying9 (fun j hj => by
      rw [List.length_map] at hj
      obtain ⟨b, off, e, _, hc⟩ := h.2.2.2 (by intro e; rw [List.map_eq_nil_iff] at e; subst e; simp at hj)
      injection e with e
      subst e
      rw [Addr.add_lit, hc j (W8 bs[j]) (by rw [List.getElem?_map, List.getElem?_eq_getElem hj]; rfl)]
      simp [W8, i8, b8u])
    rw [List.length_map, ← hl] at hb
    exact hb
/-- an operation that the region's walk is not to try ahead of its turn -/
def shutOp (o : Oper) : Oper := o
theorem shut_conv (d : Option Tmp) (s t : TypeId) (x : Operand) (e : _) (f : _) (g : _) (h : _) : (⟨d, .convert s t x, e, f, g, h⟩ : Oper) = shutOp ⟨d, .convert s t x, e, f, g, h⟩ := rfl


theorem short_any (w : World) (B : Nat) (A : Option Addr) (n c : Nat) (bs : List (BitVec 8)) (hs : SlV w B A n c (bs.map W8)) (m : Nat) (hm : m ≤ 1000000) :
    Calls Try.prog 7 #[.slice A n c, .int .i64 (m : Int)] w fun e w' => e = .returned (.slice A (min n m) c) ∧ w = w' := by
  have h1 := hs.cap
  have h2 := hs.max
  have hmI : (m : Int) ≤ 1000000 := by omega
  have hm0 : (0 : Int) ≤ m := by omega
  have hnI : (n : Int) ≤ 9223372036854775807 := by omega
  by_cases h : m < n
  · obtain ⟨b, off, v, rfl, _, _, _⟩ := hs.at_ (k := 0) (by omega)
    have hI : (m : Int) < n := by omega
    have hmc : (m : Int) ≤ c := by omega
    have hmn : min n m = m := by omega
    have HMN := Lib.hid hmn
    clear hs h hmn
    go_enter Try.func7, Try.ntmps7
    go_wp2
    go_ret
    rw [HMN.out]
    exact ⟨rfl, rfl⟩
  · have hI : (n : Int) ≤ m := by omega
    have hmn : min n m = n := by omega
    have HMN := Lib.hid hmn
    clear hs h hmn
    go_enter Try.func7, Try.ntmps7
    go_wp2
    go_ret
    rw [HMN.out]
    exact ⟨rfl, rfl⟩

/-- a byte off a number -/
def toB (z : Int) : BitVec 8 := BitVec.ofInt 8 z
theorem W8_toB {z : Int} (h : (Lit.int .u8 z).wf = true) : W8 (toB z) = .int .u8 z := by
  have hb := bounds_u8 h
  have : ((BitVec.ofInt 8 z).toNat : Int) = z := by
    rw [BitVec.toNat_ofInt]
    omega
  show Value.int .u8 ((BitVec.ofInt 8 z).toNat : Int) = _
  rw [this]
theorem slV_of_row {w : World} {a : Option Addr} {len cap : Nat} {zs : List Int}
    (h : (a = none ∧ len = 0 ∧ cap = 0 ∧ zs = []) ∨ ∃ x, a = some x ∧ len ≤ cap ∧ cap ≤ maxLen ∧ zs.length = cap ∧ (∀ i, i < zs.length → w.cell? (x.add i) = some (.int .u8 (zs.getD i 0))) ∧ ∀ n ∈ zs, (Lit.int .u8 n).wf = true) :
    ∃ bs : List (BitVec 8), SlV w w.heap.size a len cap (bs.map W8) ∧ (a = none → cap = 0) := by
  rcases h with ⟨rfl, rfl, rfl, rfl⟩ | ⟨x, rfl, hl, hm, hz, hc, hwf⟩
  · exact ⟨[], SlV.nil _ _ _ (by decide), fun _ => rfl⟩
  · refine ⟨(zs.take len).map toB, ⟨by simp; omega, hl, by simpa [maxLen] using hm, fun hne => ?_⟩, fun h => by cases h⟩
    have hlen : 0 < len := by
      rcases Nat.eq_zero_or_pos len with h | h
      · subst h; simp at hne
      · exact h
    obtain ⟨b, off, spot⟩ := x
    have h0 := hc 0 (by omega)
    have hsp : spot = none := by simpa [Addr.add] using World.cell?_spot h0
    subst hsp
    refine ⟨b, off, rfl, World.block_lt_of_cell? w _ (by simpa [Addr.add] using h0), fun k v hv => ?_⟩
    rw [List.map_map, List.getElem?_map, Option.map_eq_some_iff] at hv
    obtain ⟨z, hzk, rfl⟩ := hv
    rw [List.getElem?_take] at hzk
    split at hzk
    · rename_i hkl
      have h1 := hc k (by omega)
      rw [Addr.add_lit] at h1
      rw [h1, List.getD_eq_getElem?_getD, hzk]
      show some (Value.int .u8 z) = some (W8 (toB z))
      rw [W8_toB (hwf z (List.mem_of_getElem? hzk))]
    · cases hzk


/-- a whole block, as the caller's own -/
theorem row_own {t : TypeId} {w : World} {g base : Nat} {vs : List Value} (h : RowV t w g vs) (hb : base ≤ g) (hm : vs.length ≤ 17592186044416) : w.ownsRow base t 1 (.slice (some ⟨g, 0, none⟩) vs.length vs.length) vs.length vs :=
  ⟨by simp, .inr ⟨g, vs.length, vs.toArray, rfl, hb, h, Nat.le_refl _, Nat.le_trans hm (by decide), by simp, by simp⟩⟩
/-- bytes that a call hands back in memory of its own -/
def FreshV (w : World) (B : Nat) (v : Value) (l : List (BitVec 8)) : Prop := ∃ A c, v = .slice A l.length c ∧ SlV w w.heap.size A l.length c (l.map W8) ∧ (A = none → c = 0) ∧ ∀ a, A = some a → B ≤ a.block
theorem FreshV.of_own {w : World} {B n : Nat} {v : Value} {l : List (BitVec 8)} (h : w.ownsRow B 5 1 v n (l.map W8)) : FreshV w B v l := by
  obtain ⟨A, c, rfl, h1, h2, h3⟩ := SlV.of_own' h
  obtain rfl : n = l.length := by simpa using h1.len
  exact ⟨A, c, rfl, h1, h3, fun a e => h2 a.block a.off a.spot e⟩
theorem FreshV.take_ {w : World} {B n c : Nat} {A : Option Addr} {l l' : List (BitVec 8)} (h : SlV w w.heap.size A n c (l.map W8)) (hz : A = none → c = 0) (hB : ∀ a, A = some a → B ≤ a.block) (k : Nat) (hk : k ≤ n) (hl : l.take k = l') : FreshV w B (.slice A k c) l' := by
  have hn : n = l.length := by simpa using h.len
  have h2 := h.take (k := k) hk
  rw [← List.map_take, hl] at h2
  obtain rfl : k = l'.length := by rw [← hl, List.length_take]; omega
  exact ⟨A, c, rfl, h2, hz, hB⟩
theorem own_sum {w : World} {B n : Nat} {v : Value} {l : List (BitVec 8)} (h : w.ownsRow B 5 1 v n (l.map W8)) (m : List (BitVec 8)) (hm : m = l.take n) : FreshV w B v m := by
  have hl : n = l.length := by obtain ⟨A, c, _, h1, _⟩ := SlV.of_own' h; simpa using h1.len
  have : m = l := by rw [hm, List.take_of_length_le (by omega)]
  subst this
  exact FreshV.of_own h
theorem FreshV.sl {w : World} {B : Nat} {v : Value} {l : List (BitVec 8)} (h : FreshV w B v l) : ∃ A c, v = .slice A l.length c ∧ SlV w w.heap.size A l.length c (l.map W8) ∧ (A = none → c = 0) := by
  obtain ⟨A, c, e, h1, h2, _⟩ := h
  exact ⟨A, c, e, h1, h2⟩
theorem FreshV.mono_ {w : World} {B B' : Nat} {v : Value} {l : List (BitVec 8)} (h : FreshV w B v l) (hb : B' ≤ B) : FreshV w B' v l := by
  obtain ⟨A, c, e, h1, h2, h3⟩ := h
  exact ⟨A, c, e, h1, h2, fun a ha => Nat.le_trans hb (h3 a ha)⟩

theorem FreshV.conv {w w' : World} {c : Nat} {A : Option Addr} {l : List (BitVec 8)} (h : SlV w w.heap.size A l.length c (l.map W8)) (hb : Below w.heap.size w w') : (convert 22 9 (.slice A l.length c)).run Try.prog w' = .ok (strV l) w' := conv_str (h.below hb)

/-- an own slice with its whole block -/
theorem own_row {w : World} {base : Nat} {e : TypeId} {v : Value} {n : Nat} {xs : List Value} (h : w.ownsRow base e 1 v n xs) (hn : 0 < n) :
    ∃ g c vs, v = .slice (some ⟨g, 0, none⟩) n c ∧ base ≤ g ∧ n ≤ c ∧ c ≤ 9223372036854775807 ∧ vs.length = c ∧ vs.take n = xs ∧ RowV e w g vs := by
  rcases h.2 with ⟨_, h0⟩ | ⟨g, cap, cur, rfl, hbase, hh, hnc, hcm, hcs, ht⟩
  · omega
  · refine ⟨g, cap, cur.toList, rfl, hbase, hnc, by simpa [maxLen] using hcm, by simpa using hcs, by simpa using ht, ?_⟩
    unfold RowV
    rw [hh]
end Go.Proofs.Ytabhdkjepbkooaa

/- baileylaw5: begun. -/
set_option linter.unusedVariables false
set_option linter.unusedSimpArgs false
namespace Go.Proofs.Ytabhdkjepbkooaa
open Go.RowKit
attribute [local go_sem] Oper.semAt_some

def keyE : List (BitVec 8) := [0, 1, 2, 3, 4, 5, 6, 7, 8, 9, 10, 11, 12, 13, 14, 15]
def plainE : List (BitVec 8) := [0, 0x11, 0x22, 0x33, 0x44, 0x55, 0x66, 0x77, 0x88, 0x99, 0xaa, 0xbb, 0xcc, 0xdd, 0xee, 0xff]
def codeE : List (BitVec 8) := [0x69, 0xc4, 0xe0, 0xd8, 0x6a, 0x7b, 0x04, 0x30, 0xd8, 0xcd, 0xb7, 0x80, 0x70, 0xb4, 0xc5, 0x5a]
theorem codeE_is : encA keyE plainE = codeE := enc_example
theorem keys_notNil (g1 : Nat) (w : World) : (binOp .eql 31 (.func (.func 31) #[] #[.pointer (some ⟨g1, 0, none⟩)]) .nilFunc).run Try.prog w = .ok (.bool false) w := by kernel_rfl
/-- how far begun has counted -/
def BgI (w0 : World) (g : Nat) (pre : List KyX) (W : World) : Prop := OnlyV w0 W g ∧ BxE g (.int .i64 ((pre.length : Nat) : Int)) W
theorem BgI.own (w0 : World) (g : Nat) : OwnFrom w0.heap.size (BgI w0 g) := fun s W W' row hs hg hr =>
  ⟨hs.1.grown hg (fun r e => (hr r e).1), hs.2.kept hg (fun r e => (hr r e).2)⟩
set_option maxRecDepth 100000 in
set_option maxHeartbeats 4000000 in
theorem begun5_any (w : World) : Calls Try.prog 6 #[] w fun e w' => e = .returned (.bool true) ∧ Below w.heap.size w w' := by
  obtain ⟨z, hz⟩ : ∃ z, w.heap.size = z := ⟨_, rfl⟩
  obtain ⟨W1, e1, r1, b1, z1⟩ := newV w 5 (keyE.map W8) #[.int .u8 0, .int .u8 1, .int .u8 2, .int .u8 3, .int .u8 4, .int .u8 5, .int .u8 6, .int .u8 7, .int .u8 8, .int .u8 9, .int .u8 10, .int .u8 11, .int .u8 12, .int .u8 13, .int .u8 14, .int .u8 15] rfl
  rw [hz] at r1 b1
  have hkl : keyE.length = 16 := rfl
  have hs1 := r1.sl (by simp [hkl])
  rw [List.length_map, hkl] at hs1
  have hnw := new_any W1 W1.heap.size _ 16 16 keyE hs1 (by intro h; cases h) (Nat.le_refl _) (.inl rfl)
  have HNW := Lib.hid hnw
  have HZ := Lib.hid hz
  have HB1 := Lib.hid b1
  have HR1 := Lib.hid r1
  have hz1 : z ≤ W1.heap.size := by omega
  clear hnw hs1 b1 r1 z1
  refine (callsIn_wide (n := 9)).1 ?_
  refine callsIn_of_wp_marks Try.func6 rfl trivial ?_ rfl
  simp only [Try.ntmps6, List.size_toArray, List.length_cons, List.length_nil, Nat.reduceAdd, Nat.reduceSub, Array.replicate_succ, Array.replicate_zero, List.push_toArray, List.append_toArray, List.nil_append, List.cons_append]
  gi_wp2_with fail
  refine ⟨trivial, (callsIn_wide.2 HNW.out).mono ?_⟩
  rintro e w2 ⟨g, rfl, hg, hc2, hb2⟩
  have hB2 := HB1.out.trans (hb2.mono hz1)
  have hR2 := HR1.out.later hb2
  obtain ⟨W3, e3, b3, z3⟩ := newFrozen w2 #[.int .u8 0, .int .u8 17, .int .u8 34, .int .u8 51, .int .u8 68, .int .u8 85, .int .u8 102, .int .u8 119, .int .u8 136, .int .u8 153, .int .u8 170, .int .u8 187, .int .u8 204, .int .u8 221, .int .u8 238, .int .u8 255] 16 17
  have hs3 : SlV W3 (w2.heap.size + 1) (some ⟨w2.heap.size, 0, none⟩) 16 16 (plainE.map W8) := by rw [← e3]; exact constSl w2 plainE (by decide) 16 17
  have kc := fun (w : World) (C : Array Value) (n c : Nat) => convConst w C n c
  have hz2 : z ≤ w2.heap.size := by have := hb2.size; omega
  have hen := encrypt_any W3 g keyE (hc2.later b3) _ _ 16 16 plainE hs3 (by omega) rfl
  rw [codeE_is] at hen
  have HEN := Lib.hid hen
  have HC3 := Lib.hid (hc2.later b3)
  have HB3 := Lib.hid (hB2.trans (b3.mono hz2))
  have HR3 := Lib.hid (hR2.later b3)
  have hz3 : z ≤ W3.heap.size := by omega
  clear hen hc2 hB2 hR2 b3 hs3 hb2 z3 HNW HR1 HB1
  gi_wp2_with fail
  refine ⟨trivial, (callsIn_wide.2 HEN.out).mono ?_⟩
  rintro e w4 ⟨g4, rfl, hg4, hr4, hb4⟩
  have hc4 := HC3.out.later hb4
  obtain ⟨gk, hrg, hrk4⟩ := hc4.rows
  have HRK4 := Lib.hid hrk4
  have HRG4 := Lib.hid hrg
  have hky := keys_any w4 g gk _ hrg
  obtain ⟨C, hC⟩ : ∃ C, cntL keyE.length = C := ⟨_, rfl⟩
  have hC11 : C = 11 := by rw [← hC]; rfl
  rw [hC] at hky HRG4
  subst hC11
  have HKY := Lib.hid hky
  have HC4 := Lib.hid hc4
  have HB4 := Lib.hid (HB3.out.trans (hb4.mono hz3))
  have HR4 := Lib.hid (HR3.out.later hb4)
  have HO4 := Lib.hid hr4
  have hz4 : z ≤ w4.heap.size := by have := hb4.size; omega
  clear hky hc4 hb4 hr4 hrg hrk4 hC hg4 HEN kc e3
  gi_wp2_with fail
  refine ⟨trivial, (callsIn_wide.2 HKY.out).mono ?_⟩
  rintro e w5 ⟨g1, rfl, hg1, hr1, hb5⟩
  have hnf := keys_notNil g1
  have hz5 : z ≤ w5.heap.size := by have := hb5.size; omega
  obtain ⟨W6, e6, b6, x6, z6⟩ := newBox w5 3 (.int .i64 0)
  obtain ⟨x, hx⟩ : ∃ x, w5.heap.size = x := ⟨_, rfl⟩
  rw [hx] at x6
  have hzx : z ≤ x := by omega
  have q6 := x6.1
  have q6f := x6.2.1
  obtain ⟨W7, e7⟩ : ∃ V, W6.setCell ⟨x, 0, none⟩ (.int .i64 0) = V := ⟨_, rfl⟩
  have x7 : BxE x (.int .i64 0) W7 := by rw [← e7]; exact x6.set _
  have b57 : Below w5.heap.size w5 W7 := by rw [← e7]; exact below_box b6 (by omega) _
  have hrk7 := (HRK4.out.later hb5).later b57
  have hr17 := hr1.later b57
  have hl5 : ∀ q, q < w5.heap.size → q ≠ x := fun q hq => by omega
  have hgk5 : gk < w5.heap.size := (HRK4.out.later hb5).lt
  have hg15 : g1 < w5.heap.size := hr1.lt
  have hseq := keys1_in 8 (by decide) W7 x g1 gk 11 (wholeL keyE) hr17 hrk7 (by rw [wholeL_length keyE (.inl rfl)]; rfl) (hl5 _ hg15) (hl5 _ hgk5) (by decide)
  have HSEQ := Lib.hid hseq
  have HB7 := Lib.hid (HB4.out.trans ((hb5.mono hz4).trans (b57.mono hz5)))
  have HC7 := Lib.hid ((HC4.out.later hb5).later b57)
  have HR7 := Lib.hid ((HR4.out.later hb5).later b57)
  have HO7 := Lib.hid ((HO4.out.later hb5).later b57)
  have HX7 := Lib.hid x7
  have HRK7 := Lib.hid ((HRK4.out.later hb5).later b57)
  have HRG7 := Lib.hid ((HRG4.out.later hb5).later b57)
  have hgk5' : gk < w5.heap.size := hgk5
  have hx7 : x < W7.heap.size := x7.2.2
  have hg5 : g < w5.heap.size := (HC4.out.later hb5).lt
  have HLT := Lib.hid hl5
  have hgz5 : z < w5.heap.size ∧ g4 < w5.heap.size := ⟨(HR4.out.later hb5).lt, (HO4.out.later hb5).lt⟩
  clear hseq hrk7 hr17 hl5 b57 x7 hb5 hr1 b6 z6 x6 hg1 HKY hgk5 hg15
  gi_wp2_with fail
  refine wpIn_rangeP rfl (by decide) (gf := 31) (lb := #[.pointer (some ⟨g1, 0, none⟩)]) rfl trivial (enters_of Try.func31 (by kernel_rfl) rfl)
    HSEQ.out (fun a b => a.trans b) (fun W l o o' hl ho _ _ => KpE.put hl ho) (fun _ => rfl)
    (BgI W7 x) (fun _ _ _ => False) (BgI.own _ _) (fun _ _ _ _ _ h _ _ => h.elim) (fun pre => KyR.own _ _ _ pre) ?hI0 ?a1x ?assign ?body ?done ?stop
  case hI0 => exact ⟨OnlyV.refl _ _, HX7.out⟩
  case assign =>
    intro l x W K hK
    gi_wp2
    exact hK
  case body =>
    rintro l pre ⟨i, Ap, np, cp⟩ W ⟨hO, hX⟩ hky hpl
    obtain ⟨pl, hpll⟩ : ∃ x, pre.length = x := ⟨_, rfl⟩
    rw [hpll] at hX hpl
    have HPL := Lib.hid hpll
    have c5 := hX.1
    have f5 := hX.2.1
    have hpi : (pl : Int) < 11 := by omega
    have HOW := Lib.hid hO
    obtain ⟨Wa, eWa⟩ : ∃ V, W.setCell ⟨x, 0, none⟩ (.int .i64 ((pl : Int) + 1)) = V := ⟨_, rfl⟩
    have hXa : BxE x (.int .i64 ((pl : Int) + 1)) Wa := by rw [← eWa]; exact hX.set _
    have hOa : OnlyV W Wa x := by rw [← eWa]; exact (OnlyV.refl W x).set 0 _
    have HXA := Lib.hid hXa
    have HOA := Lib.hid hOa
    clear hX hO hXa hOa hky hpll
    gi_wp2
    refine ⟨⟨HOA.out.size, fun k o hk hh _ => (HOA.out.block k (Array.getElem?_eq_some_iff.1 hh).1 (fun e => by injection e; omega)).trans hh⟩, KpE.only HOA.out HOW.out.size, HOW.out.trans HOA.out, ?_⟩
    rw [List.length_append, List.length_singleton, HPL.out]
    exact HXA.out
  case done =>
    rintro D ys W hD hys ⟨hO, hX⟩ hK
    have hyl : ys.length = 11 := hys
    rw [hyl] at hX
    have hcc : W.cell? ⟨x, 0, none⟩ = some (.int .i64 11) := hX.1
    have hzW7 : z ≤ W7.heap.size := by omega
    have hB : Below z w W := HB7.out.trans (hO.below hzx hzW7)
    have hkW := HR7.out.only hO (show z ≠ x by omega)
    have hbW := HO7.out.only hO (show g4 ≠ x by omega)
    have hcW : CipherR W g keyE := ⟨.inl rfl, gk, HRG7.out.only hO (show g ≠ x by omega), HRK7.out.only hO (show gk ≠ x by omega)⟩
    have hks := hkW.sl (by simp [hkl])
    rw [List.length_map, hkl] at hks
    have hcl : codeE.length = 16 := rfl
    have hbs := hbW.sl (by rw [List.length_map, hcl]; decide)
    rw [List.length_map, hcl] at hbs
    have cv := conv_str hbs
    have e2 : ∀ w', (binOp .eql 9 (strV codeE) (.string { data := #[105, 196, 224, 216, 106, 123, 4, 48, 216, 205, 183, 128, 112, 180, 197, 90] })).run Try.prog w' = .ok (.bool true) w' := fun w' => eql_str w' _ codeE codeE
    have q2 := fun (w : World) (t : TypeId) (x y : Operand) (a : List (BitVec 8)) (s : ByteArray) => eqGuard_strc (P := Try.prog) w .eql t x y a s
    have htm := times_any W W.heap.size z 0 16 z 0 16 keyE keyE hks hks (Nat.le_refl _)
    have HTM := Lib.hid htm
    have HBW := Lib.hid hB
    have HKS := Lib.hid hks
    have HBS := Lib.hid hbs
    have HCW := Lib.hid hcW
    have HD := Lib.hid hD
    have hzW : z ≤ W.heap.size := by have := hB.size; have := HZ.out; omega
    clear hX hys hO hB hkW hbW hcW hks hbs htm hyl hD
    gi_wp2_with fail
    refine ⟨trivial, (callsIn_wide.2 HTM.out).mono ?_⟩
    rintro e W8' ⟨g8, rfl, _, _, hb8⟩
    have hgh := ghash_any W8' W.heap.size z 0 16 keyE (HKS.out.below hb8) none 0 0 0 0 (fun h => absurd h (by decide)) [] (SlV.nil _ _ _ (by decide)) (by decide) hb8.size
    have HGH := Lib.hid hgh
    have HB8 := Lib.hid hb8
    clear hgh hb8 HTM cv
    gi_wp2_with fail
    refine ⟨trivial, (callsIn_wide.2 HGH.out).mono ?_⟩
    rintro e W9' ⟨g9, rfl, _, _, hb9⟩
    have hb09 := HB8.out.trans (hb9.mono HB8.out.size)
    have hde := decrypt_any W9' g keyE (HCW.out.later hb09) W.heap.size _ 16 16 codeE (HBS.out.below hb09) hb09.size rfl
    have HDE := Lib.hid hde
    have HB9 := Lib.hid hb09
    clear hde hb9 hb09 HGH
    gi_wp2_with fail
    refine ⟨trivial, (callsIn_wide.2 HDE.out).mono ?_⟩
    rintro e W10' ⟨g10, rfl, _, _, hb10⟩
    have hb010 := HB9.out.trans (hb10.mono HB9.out.size)
    have hK10 : W10'.heap[D]? = some (.deferred (some [])) := (hb010.block D (Array.getElem?_eq_some_iff.1 hK).1).trans hK
    have hBB := HBW.out.trans (hb010.mono hzW)
    have HBB := Lib.hid hBB
    clear hb10 hb010 hBB HDE
    gi_wp2
    refine ⟨by simp, .inl ⟨_, _, rfl, run_takeDeferred hK10, ?_⟩⟩
    have hgr := grownBy_putObj' W10' D (.deferred none)
    refine ⟨.bool true, by simp [results, Try.f6, go_sem], rfl, ?_⟩
    rw [HZ.out]
    exact HBB.out.grown hgr (by have := HBB.out.size; have := HZ.out; omega) (fun r e => by cases e; have := HD.out; omega)
  case stop =>
    intro D c pre W _ _ h
    exact h.elim
end Go.Proofs.Ytabhdkjepbkooaa

/- AES by the field, numbers alone: the reference's boxes and columns are the program's. -/
set_option linter.unusedVariables false
set_option linter.unusedSimpArgs false
namespace Go.Proofs.Ytabhdkjepbkooaa

/-- the product in GF(2^8), as the reference reckons it: n rounds -/
def peasV : Nat → BitVec 8 → BitVec 8 → BitVec 8 → BitVec 8
  | 0, p, _, _ => p
  | n + 1, p, a, b => if b = 0 then p else peasV n (if b.getLsbD 0 then p ^^^ a else p) (dblV a) (b >>> 1)
def prodV (a b : BitVec 8) : BitVec 8 := peasV 8 0 a b
def invR : Nat → BitVec 8 → BitVec 8 → BitVec 8
  | 0, _, p => p
  | n + 1, a, p => invR n (prodV a a) (prodV p (prodV a a))
def subR : Nat → BitVec 8 → BitVec 8 → BitVec 8
  | 0, _, s => s
  | n + 1, x, s => subR n (x <<< 1 ||| x >>> 7) (s ^^^ x)
def subV (a : BitVec 8) : BitVec 8 := subR 5 (invR 7 a 1) 0x63
theorem subV_box : ∀ x : BitVec 8, subV x = boxAt boxL x := by decide +kernel
theorem prod_1 : ∀ x : BitVec 8, prodV x 1 = x := by decide +kernel
theorem prod_2 : ∀ x : BitVec 8, prodV x 2 = dblV x := by decide +kernel
theorem prod_3 : ∀ x : BitVec 8, prodV x 3 = dblV x ^^^ x := by decide +kernel
theorem prod_9 : ∀ x : BitVec 8, prodV x 9 = dblV (dblV (dblV x)) ^^^ x := by decide +kernel
theorem prod_11 : ∀ x : BitVec 8, prodV x 11 = dblV (dblV (dblV x)) ^^^ dblV x ^^^ x := by decide +kernel
theorem prod_13 : ∀ x : BitVec 8, prodV x 13 = dblV (dblV (dblV x)) ^^^ dblV (dblV x) ^^^ x := by decide +kernel
theorem prod_14 : ∀ x : BitVec 8, prodV x 14 = dblV (dblV (dblV x)) ^^^ dblV (dblV x) ^^^ dblV x := by decide +kernel
/-- the reference's mix: a row of four numbers -/
def xor4L (f : Nat → BitVec 8) : Nat → BitVec 8
  | 0 => 0
  | n + 1 => xor4L f n ^^^ f n
def rowV (s m : List (BitVec 8)) (i : Nat) : BitVec 8 := xor4L (fun k => prodV (s.getD (4 * (i / 4) + k) 0) (m.getD ((k + 4 - i % 4) % 4) 0)) 4
def mixR (s m : List (BitVec 8)) : List (BitVec 8) := st16 (rowV s m)
theorem mixR_enc (s : List (BitVec 8)) : mixR s [2, 3, 1, 1] = mixS s := by
  refine st16_congr fun i hi => ?_
  have hr : i % 4 = 0 ∨ i % 4 = 1 ∨ i % 4 = 2 ∨ i % 4 = 3 := by omega
  unfold rowV colV
  rcases hr with hr | hr | hr | hr <;> rw [hr] <;>
    simp only [xor4L, Nat.add_zero, Nat.zero_add, Nat.sub_zero, Nat.reduceAdd, Nat.reduceSub, Nat.reduceMod, List.getD_cons_zero, List.getD_cons_succ, mixV, Col.at_, Nat.reduceEqDiff, Nat.one_ne_zero, if_true, if_false, dblV_xor, prod_1, prod_2, prod_3] <;>
    generalize s.getD (4 * (i / 4)) 0 = v <;>
    generalize s.getD (4 * (i / 4) + 1) 0 = w <;>
    generalize s.getD (4 * (i / 4) + 2) 0 = x <;>
    generalize s.getD (4 * (i / 4) + 3) 0 = y <;>
    simp [BitVec.xor_assoc, BitVec.xor_comm, xleft, xself, BitVec.xor_self]
theorem mixV_three (v w x y : BitVec 8) : mixV (mixV (mixV ⟨v, w, x, y⟩)) =
    ⟨prodV v 14 ^^^ prodV w 11 ^^^ prodV x 13 ^^^ prodV y 9, prodV v 9 ^^^ prodV w 14 ^^^ prodV x 11 ^^^ prodV y 13, prodV v 13 ^^^ prodV w 9 ^^^ prodV x 14 ^^^ prodV y 11, prodV v 11 ^^^ prodV w 13 ^^^ prodV x 9 ^^^ prodV y 14⟩ := by
  rw [mixV_two]
  simp only [mixV, dblV_xor, Col.mk.injEq, prod_9, prod_11, prod_13, prod_14]
  generalize dblV (dblV (dblV v)) = v3
  generalize dblV (dblV (dblV w)) = w3
  generalize dblV (dblV (dblV x)) = x3
  generalize dblV (dblV (dblV y)) = y3
  generalize dblV (dblV v) = v2
  generalize dblV (dblV w) = w2
  generalize dblV (dblV x) = x2
  generalize dblV (dblV y) = y2
  generalize dblV v = v1
  generalize dblV w = w1
  generalize dblV x = x1
  generalize dblV y = y1
  refine ⟨?_, ?_, ?_, ?_⟩ <;> simp [BitVec.xor_assoc, BitVec.xor_comm, xleft, xself, BitVec.xor_self]
theorem mixR_dec (s : List (BitVec 8)) : mixR s [14, 11, 13, 9] = mixS (mixS (mixS s)) := by
  rw [mixS]
  refine st16_congr fun i hi => ?_
  rw [col_mix _ _ (by omega), col_mix _ _ (by omega)]
  have hr : i % 4 = 0 ∨ i % 4 = 1 ∨ i % 4 = 2 ∨ i % 4 = 3 := by omega
  unfold rowV colV
  rw [mixV_three]
  rcases hr with hr | hr | hr | hr <;> rw [hr] <;>
    simp only [xor4L, Nat.add_zero, Nat.zero_add, Nat.sub_zero, Nat.reduceAdd, Nat.reduceSub, Nat.reduceMod, List.getD_cons_zero, List.getD_cons_succ, Col.at_, Nat.reduceEqDiff, Nat.one_ne_zero, if_true, if_false] <;>
    generalize s.getD (4 * (i / 4)) 0 = v <;>
    generalize s.getD (4 * (i / 4) + 1) 0 = w <;>
    generalize s.getD (4 * (i / 4) + 2) 0 = x <;>
    generalize s.getD (4 * (i / 4) + 3) 0 = y <;>
    simp [BitVec.xor_assoc]
end Go.Proofs.Ytabhdkjepbkooaa

/- The reference's products in GF(2^8), inverses, the box's byte. -/
set_option linter.unusedVariables false
set_option linter.unusedSimpArgs false
namespace Go.Proofs.Ytabhdkjepbkooaa
open Go.RowKit

theorem peasV_stop (p a : BitVec 8) : ∀ n, peasV n p a 0 = p
  | 0 => rfl
  | n + 1 => by rw [peasV, if_pos rfl]
theorem peasV_go (p a b : BitVec 8) (n : Nat) (h : b ≠ 0) : peasV (n + 1) p a b = peasV n (if b.getLsbD 0 then p ^^^ a else p) (dblV a) (b >>> 1) := by rw [peasV, if_neg h]
theorem byte_two_lo : ∀ a : BitVec 8, i8 a < 128 → i8 a * 2 = i8 (dblV a) := by decide +kernel
theorem byte_two_hi : ∀ a : BitVec 8, 128 ≤ i8 a → bits .xor .u8 (i8 a * 2 % 256) 27 = i8 (dblV a) := by decide +kernel
theorem byte_pos : ∀ b : BitVec 8, b ≠ 0 → 0 < i8 b := by decide +kernel
theorem byte_halve : ∀ b : BitVec 8, i8 b / 2 = i8 (b >>> 1) := by decide +kernel
theorem byte_bit0 : ∀ x : BitVec 8, i8 x % 2 = if x.getLsbD 0 then 1 else 0 := by decide +kernel
theorem byte_zero : i8 0 = 0 := rfl
theorem halve_lt (b : BitVec 8) (h : b ≠ 0) : (b >>> 1).toNat < b.toNat := by
  have h0 : b.toNat ≠ 0 := fun e => h (BitVec.eq_of_toNat_eq (by simpa using e))
  rw [BitVec.toNat_ushiftRight, Nat.shiftRight_eq_div_pow]
  omega
set_option maxRecDepth 100000 in
set_option maxHeartbeats 1600000 in
theorem rtimes8_any (w : World) (a b : BitVec 8) : Calls Try.prog 21 #[W8 a, W8 b] w fun e w' => e = .returned (W8 (prodV a b)) ∧ w = w' := by
  obtain ⟨R, hR⟩ : ∃ R, prodV a b = R := ⟨_, rfl⟩
  have h0 : peasV 8 0 a b = R := hR
  have hb8 : b.toNat < 2 ^ 8 := b.isLt
  have H0 := Lib.hid h0
  rw [hR]
  clear hR h0
  go_enter Try.func21, Try.ntmps21
  go_wp2
  go_loopw [0, 1, 5] (fun av bv pv W => ∃ (n : Nat) (a' b' p' : BitVec 8), av = W8 a' ∧ bv = W8 b' ∧ pv = W8 p' ∧ b'.toNat < 2 ^ n ∧ Hid (peasV n p' a' b' = R) ∧ W = w) (fun _ bv _ _ => (intOf bv).toNat)
  case atStart => exact ⟨8, a, b, 0, rfl, rfl, rfl, hb8, H0, rfl⟩
  case round =>
    obtain ⟨n, a', b', p', rfl, rfl, rfl, hbn, HP, rfl⟩ := hrel
    by_cases hb0 : b' = 0
    · subst hb0
      have h1 := HP.out
      rw [peasV_stop] at h1
      subst h1
      have hz : i8 0 = 0 := rfl
      go_wp2
      go_ret
      exact ⟨rfl, rfl⟩
    · cases n with
      | zero => exact absurd (BitVec.eq_of_toNat_eq (by simp; omega)) hb0
      | succ n =>
        have h1 := HP.out
        rw [peasV_go _ _ _ _ hb0] at h1
        have hp := byte_pos b' hb0
        have hl := halve_lt b' hb0
        have hn2 : (b' >>> 1).toNat < 2 ^ n := by
          rw [BitVec.toNat_ushiftRight, Nat.shiftRight_eq_div_pow]
          omega
        have hh := byte_halve b'
        have hbit := byte_bit0 b'
        have ha := i8_lt a'
        have hbl := i8_lt b'
        have hx := b8_xor p' a'
        have HM := Lib.hid hl
        have HN := Lib.hid hn2
        clear hl hn2 hbn hb8
        by_cases hbt : b'.getLsbD 0 = true
        · rw [if_pos hbt] at h1 hbit
          have H1 := Lib.hid h1
          clear h1 hbt
          by_cases hhi : 128 ≤ i8 a'
          · have h2 := byte_two_hi a' hhi
            go_wp2
            go_roundw
            case rel => exact ⟨n, dblV a', b' >>> 1, p' ^^^ a', rfl, rfl, rfl, HN.out, H1, by first | rfl | trivial⟩
            case measure => simp only [intOf]; omega
          · have hlo : i8 a' < 128 := by omega
            have h2 := byte_two_lo a' hlo
            go_wp2
            go_roundw
            case rel => exact ⟨n, dblV a', b' >>> 1, p' ^^^ a', rfl, rfl, rfl, HN.out, H1, by first | rfl | trivial⟩
            case measure => simp only [intOf]; omega
        · rw [if_neg hbt] at h1 hbit
          have H1 := Lib.hid h1
          clear h1 hbt
          by_cases hhi : 128 ≤ i8 a'
          · have h2 := byte_two_hi a' hhi
            go_wp2
            go_roundw
            case rel => exact ⟨n, dblV a', b' >>> 1, p', rfl, rfl, rfl, HN.out, H1, by first | rfl | trivial⟩
            case measure => simp only [intOf]; omega
          · have hlo : i8 a' < 128 := by omega
            have h2 := byte_two_lo a' hlo
            go_wp2
            go_roundw
            case rel => exact ⟨n, dblV a', b' >>> 1, p', rfl, rfl, rfl, HN.out, H1, by first | rfl | trivial⟩
            case measure => simp only [intOf]; omega
end Go.Proofs.Ytabhdkjepbkooaa
