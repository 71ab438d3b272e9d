/- Parts of one proof, joined: RangeS, WCm, WCn, TreeR, WCp. -/
import Derived.Test.YtbejcollbkeedaaGreatPileM13
import Derived.Test.YtbejcollbkeedaaGreatPileM6
import Derived.Test.YtbejcollbkeedaaGreatPileM11
import Derived.Deep.LoopGhost
set_option linter.unusedVariables false
set_option linter.unusedSimpArgs false
set_option linter.unusedSectionVars false
set_option maxRecDepth 100000
set_option maxHeartbeats 8000000
open Go.Lib (hid)
namespace Go.Proofs.YtbejcollbkeedaaGreat
open Go.RowKit Go.Shelf
def SeqS {α : Type} (F : Fence) (n : Nat) (P : Program) (g : Nat) (lb : Array Value) (enc : α → Array Value) (R : List α → α → World → Prop) (Kp : World → World → Prop) (S Sp : List α → Prop) (N : Nat) (w : World) : Prop :=
 ∀ (l : Nat) (J Jx : List α → World → Prop) (W : World), Below w.heap.size w W → AbidesFrom W.heap.size J → AbidesFrom W.heap.size Jx → (∀ s A B g, W.heap.size ≤ g → NoU A g → J s A → A.grownBy B (some g) → J s B) → (∀ s A, J s A → s.length < N) →
  (∀ pre x V, J pre V → R pre x V → YieldAt F (n - 1) P l (enc x) V fun e V' => (e = .returned (.bool true) ∧ J (pre ++ [x]) V' ∧ Kp V V') ∨ (e = .returned (.bool false) ∧ Jx (pre ++ [x]) V')) →
  J [] W → CallsIn F n P g (#[.func (.yield l) #[] #[]] ++ lb) W fun e W' => (∃ v, e = .returned v) ∧ ((∃ xs, S xs ∧ J xs W') ∨ (∃ pre, Sp pre ∧ Jx pre W'))
variable {F : Fence} {n : Nat} {P : Program}
theorem wpIn_rangeS {α : Type} {g : Operand} {ps : Array Tmp} {assign body : Code} {Q : Exit → Act → World → Prop} {a : Act} {w : World}
  (hro : F.round = none) (h1 : 1 ≤ n) {gf : Nat} {lb : Array Value} (hg : a.eval g = .func (.func gf) #[] lb) (hFg : F.fn gf) (eg : ∀ args w, (callFunc gf args).run P w = .ok (.enter gf args) w)
  {enc : α → Array Value} {R : List α → α → World → Prop} {Kp : World → World → Prop} {S Sp : List α → Prop} {N : Nat} (hseq : SeqS F (n - 1) P gf lb enc R Kp S Sp N w)
  (hKt : ∀ {A B C : World}, Kp A B → Kp B C → Kp A C) (hKb : ∀ (W : World) (l : Nat) (o o' : Obj), w.heap.size ≤ l → W.heap[l]? = some o → o.isCells = false → o.isWalk = false → Kp W (W.putObj l o')) (hps : ∀ x, (enc x).size = ps.size)
  (I : List α → World → Prop) (Ix : Code → List α → World → Prop) (hI : OwnFrom w.heap.size I) (hIg : ∀ s A B g, w.heap.size ≤ g → NoU A g → I s A → A.grownBy B (some g) → I s B) (hIN : ∀ s A, I s A → s.length < N) (hIx : ∀ c, OwnFrom w.heap.size (Ix c)) (hR : ∀ pre, OwnFrom w.heap.size (R pre)) (h0 : I [] w) (hKB : ∀ A B, w.heap.size ≤ A.heap.size → Below A.heap.size A B → Kp A B) (Ax : α → World → Act → World → Prop)
  (hassign : ∀ (l : Nat) (pre : List α) (x : α) (W : World) (K : Act → World → Prop), w.heap.size ≤ W.heap.size → R pre x W → (∀ a' W', Below W.heap.size W W' → Ax x W a' W' → K a' W') →
   assign.wpIn (F.inRound l) (n - 1 - 1) P (Exit.then K (fun _ _ _ => False)) { tmps := (ps.zip (enc x)).foldl (fun t (p, v) => t.setIfInBounds p v) a.tmps, defers := [] } W)
  (hAx : ∀ x W a' W' o', Ax x W a' W' → ∀ l o, w.heap.size ≤ l → l < W.heap.size → W'.heap[l]? = some o → o.isCells = false → Ax x W a' (W'.putObj l o'))
  (hbody : ∀ (l : Nat) (pre : List α) (x : α) (W0 : World) (a' : Act) (W : World), w.heap.size ≤ W0.heap.size → Ax x W0 a' W → I pre W → R pre x W → body.wpIn (F.inRound l) (n - 1 - 1) P (ownPostG w.heap.size Kp I Ix (pre ++ [x]) W) a' W)
  (hdone : ∀ (D : Nat) (xs : List α) (W : World), w.heap.size ≤ D → S xs → I xs W → W.heap[D]? = some (.deferred (some [])) → Q .normal { a with defers := { target := .collected D, args := #[] } :: a.defers } W)
  (hstop : ∀ (D : Nat) (c : Code) (pre : List α) (W : World), w.heap.size ≤ D → Sp pre → Ix c pre W → W.heap[D]? = some (.deferred (some [])) → c.wpIn F n P Q { a with defers := { target := .collected D, args := #[] } :: a.defers } W) :
  (Code.rangeFunc g ps assign body).wpIn F n P Q a w := by
 refine wpIn_rangeFunc fun fn hfn => ?_
 rw [hro]
 obtain ⟨b, hb⟩ : ∃ b, w.heap.size = b := ⟨_, rfl⟩
 let lp : LoopState → Option Code → Loop := fun st pe => { state := st, pending := pe, fn, tmps := a.tmps, params := ps, assign, body, defers := b }
 let V := (w.alloc (.deferred (some []))).alloc (.loop (lp .ready none))
 have hV : TwoBl b (lp .ready none) V := by
  refine ⟨?_, ?_⟩
  ·have h := World.alloc_heap_new (w.alloc (.deferred (some []))) (.loop (lp .ready none))
   rwa [World.size_alloc, hb] at h
  ·rw [← hb]
   exact (Below.heap_alloc (w.alloc (.deferred (some []))) _ _ (by simp)).trans (World.alloc_heap_new w _)
 have hIV : I [] V := hI.alloc _ (hI.alloc _ h0)
 have hbel : Below w.heap.size w V := ((Below.refl _ w).alloc (Nat.le_refl _) _).alloc (by simp) _
 have hsz : w.heap.size ≤ V.heap.size := hbel.size
 have wide : ∀ {A : World} {row : Option Nat}, (∀ r, row = some r → V.heap.size ≤ r ∧ ∃ o : Obj, A.heap[r]? = some o ∧ o.isWalk = true) → ∀ r, row = some r → w.heap.size ≤ r ∧ ∃ o : Obj, A.heap[r]? = some o ∧ o.isCells = false := fun h r e => by
  obtain ⟨h1, o, ho, hw⟩ := h r e
  exact ⟨Nat.le_trans hsz h1, o, ho, Obj.not_cells_of_walk hw⟩
 have hent := run_enterLoop_outer (P := P) (w := w) fn a.tmps ps assign body
 rw [hb] at hent
 refine ⟨b + 1, [{ target := .collected b, args := #[] }], V, { target := .fn (.func gf) lb, args := #[.func (.yield (b + 1)) #[] #[]] }, V, gf, #[.func (.yield (b + 1)) #[] #[]] ++ lb, V, hent, ?_, ?_, ?_, fun _ => h1, ?_⟩
 ·simp only [resolve, hg]
  simp [go_sem]
 ·intro f' hf'
  simp [Target.leads] at hf'
  exact hf' ▸ hFg
 ·simp [invoke, go_sem, eg]
 have hcall := hseq (b + 1) (fun pre W => I pre W ∧ TwoBl b (lp .ready none) W) (fun pre W => ∃ c, Ix c pre W ∧ TwoBl b (lp .done (some c)) W) V hbel
  (fun s A B row hs hg' hr => ⟨hI s A B row hs.1 hg' (wide hr), hs.2.grown hg' fun k e => (hr k e).2⟩)
  (fun s A B row hs hg' hr => by
   obtain ⟨c, h1, h2⟩ := hs
   exact ⟨c, hIx c s A B row h1 hg' (wide hr), h2.grown hg' fun k e => (hr k e).2⟩)
  (fun s A B g hgW hno hs hg' => by
   have hv2 := (Array.getElem?_eq_some_iff.1 hV.lrec).1
   exact ⟨hIg s A B g (by omega) hno hs.1 hg', ⟨(hg'.block _ (Array.getElem?_eq_some_iff.1 hs.2.lrec).1 (by intro e; injection e; omega)).trans hs.2.lrec, (hg'.block _ (Array.getElem?_eq_some_iff.1 hs.2.dfr).1 (by intro e; injection e; omega)).trans hs.2.dfr⟩⟩)
  (fun s A hs => hIN s A hs.1)
  (by
   rintro pre x W0 ⟨hi0, ht0⟩ hx0
   have hbW : b + 1 < W0.heap.size := (Array.getElem?_eq_some_iff.1 ht0.lrec).1
   refine ⟨fn, _, assign, body, run_yield (P := P) (args := enc x) ht0.lrec (hps x), roundIn_of_wpIn hfn (hassign _ pre x W0 _ (by omega) hx0 fun a' W hbl hax => ?_)⟩
   have hgN : W0.grownBy W none := ⟨hbl.os, hbl.tape, hbl.output, hbl.size, fun i hi _ => hbl.block i hi⟩
   have ht := ht0.grown hgN (fun k e => by cases e)
   have hi := hI pre W0 W none hi0 hgN (fun r e => by cases e)
   have hx := hR pre x W0 W none hx0 hgN (fun r e => by cases e)
   have hk0 : Kp W0 W := hKB _ _ (by omega) hbl
   refine ⟨_, run_beginRound ht.lrec rfl, ?_⟩
   have hle : w.heap.size ≤ b + 1 := by omega
   have hbusy := ht.put { lp .ready none with state := .busy }
   have hkb : Kp W (W.putObj (b + 1) (.loop { lp .ready none with state := .busy })) := hKb _ _ _ _ hle ht.lrec rfl rfl
   refine wpIn_mono (hbody (b + 1) pre x W0 a' _ (by omega) (hAx _ _ _ _ _ hax _ _ hle hbW ht.lrec rfl) (hI.putObj _ hi hle ht.lrec rfl) ((hR pre).putObj _ hx hle ht.lrec rfl)) ?_
   have leave : ∀ (c : Code) (X : World), KeepsFrom w.heap.size (W.putObj (b + 1) (.loop { lp .ready none with state := .busy })) X → Ix c (pre ++ [x]) X →
     (Instr.endRound (b + 1) (some c)).run P X = .ok (.bool false) (X.putObj (b + 1) (.loop (lp .done (some c)))) ∧ ∃ c', Ix c' (pre ++ [x]) (X.putObj (b + 1) (.loop (lp .done (some c)))) ∧ TwoBl b (lp .done (some c')) (X.putObj (b + 1) (.loop (lp .done (some c)))) := fun c X hk hi3 => by
    have ht3 := hbusy.kept (hb ▸ hk)
    exact ⟨run_endRound (P := P) (some c) ht3.lrec, c, (hIx c).putObj _ hi3 hle ht3.lrec rfl, ht3.put _⟩
   rintro e a3 X hp
   cases e with
   | normal =>
    obtain ⟨hk, hkp, hi3⟩ := hp
    have ht3 := hbusy.kept (hb ▸ hk)
    exact ⟨_, _, run_endRound (P := P) none ht3.lrec, .inl ⟨rfl, ⟨hI.putObj _ hi3 hle ht3.lrec rfl, ht3.put _⟩, hKt (hKt (hKt hk0 hkb) hkp) (hKb _ _ _ _ hle ht3.lrec rfl rfl)⟩⟩
   | ret => exact ⟨_, _, (leave _ X hp.1 hp.2).1, .inr ⟨rfl, (leave _ X hp.1 hp.2).2⟩⟩
   | exit id => exact ⟨_, _, (leave _ X hp.1 hp.2).1, .inr ⟨rfl, (leave _ X hp.1 hp.2).2⟩⟩
   | goto t => exact ⟨_, _, (leave _ X hp.1 hp.2).1, .inr ⟨rfl, (leave _ X hp.1 hp.2).2⟩⟩
   | panic ch => exact hp.elim
   | outgrown => exact hp.elim) ⟨hIV, hV⟩
 refine hcall.mono ?_
 have hle : w.heap.size ≤ b + 1 := by omega
 rintro e X ⟨⟨v, rfl⟩, (⟨xs, hS, hi, ht⟩ | ⟨pre, hSp, c, hi, ht⟩)⟩
 ·exact ⟨none, _, run_endLoop (P := P) ht.lrec (by intro h; cases h), hdone b xs _ (by omega) hS (hI.putObj _ hi hle ht.lrec rfl) ((World.putObj_heap_other (by omega)).trans ht.dfr)⟩
 ·exact ⟨some c, _, run_endLoop (P := P) ht.lrec (by intro h; cases h), hstop b c pre _ (by omega) hSp ((hIx c).putObj _ hi hle ht.lrec rfl) ((World.putObj_heap_other (by omega)).trans ht.dfr)⟩
end Go.Proofs.YtbejcollbkeedaaGreat
namespace Go.Proofs.YtbejcollbkeedaaGreat
open Go.RowKit Go.Shelf Cw
attribute [local go_sem] Oper.semAt_some
def muN (D : Crv) (P : Option (Nat × Nat)) : Nat → Nat × Nat × Nat
 | 0 => rtN P
 | k + 1 => rcbN D.p D.b (muN D P k) (rtN P)
theorem muN_lt {c : Int} {D : Crv} (hc : crvOf c = some D) (P : Option (Nat × Nat)) : ∀ k, (muN D P k).2.2 < D.p
 | 0 => by
  obtain ⟨-, h8, -⟩ := crv_lims hc
  rcases P with _ | ⟨x, y⟩
  ·show 0 < D.p; omega
  ·show 1 < D.p; omega
 | k + 1 => by
  obtain ⟨-, h8, -, hbl, -⟩ := crv_lims hc
  exact (rcbN_lt (by omega) hbl _ _).2.2
def IsMu (D : Crv) (P : Option (Nat × Nat)) (k : Nat) (R : Option (Nat × Nat)) : Prop := Inp D.p R ∧ ∀ (_ : NeZero D.p) (C : Cv (Fin D.p) (zp D.p D.b)), lfp D.p R = C.mg (lfp D.p P) k
theorem muN_is {c : Int} {D : Crv} (hc : crvOf c = some D) {P : Option (Nat × Nat)} (has : hasN D.p D.b P) (k : Nat) {R : Option (Nat × Nat)} (h : PtR D.p (muN D P k) R) : IsMu D P (k + 1) R := by
 obtain ⟨-, h8, -, hbl, -⟩ := crv_lims hc
 have hst : ∀ (_ : NeZero D.p) (C : Cv (Fin D.p) (zp D.p D.b)), ∀ k, Stands (zt D.p (muN D P k)) (C.mg (lfp D.p P) (k + 1)) := by
  intro hne C k
  have hon := ((has_iff (by omega) hbl _).1 has).2
  induction k with
  | zero => exact rtN_stands C.one_ne P
  | succ k ih =>
   show Stands (zt D.p (rcbN D.p D.b (muN D P k) (rtN P))) (C.ad (C.mg (lfp D.p P) (k + 1)) (lfp D.p P))
   rw [zt_rcbN hbl]
   exact C.stands (C.mg_on hon (k + 1)) hon ih (rtN_stands C.one_ne P)
 obtain ⟨hne, ⟨C⟩⟩ := crv_cv hc
 exact ⟨(h.lf (hst hne C k) (muN_lt hc P k)).1, fun hne C => (h.lf (hst hne C k) (muN_lt hc P k)).2⟩
def KT (o : Obj) : Prop := (∃ a m, o = .cells a 79 m) ∨ ∃ a m, o = .cells a 73 m
def KpM (A B : World) : Prop := A.heap.size ≤ B.heap.size ∧ (∀ v k, Nu A v k → Nu B v k) ∧ ∀ (q : Nat) (o : Obj), A.heap[q]? = some o → KT o → B.heap[q]? = some o
theorem KpM.trans {A B C : World} (h : KpM A B) (h' : KpM B C) : KpM A C := ⟨Nat.le_trans h.1 h'.1, fun v k x => h'.2.1 v k (h.2.1 v k x), fun q o x hk => h'.2.2 q o (h.2.2 q o x hk) hk⟩
theorem KpM.below {A B : World} (h : Below A.heap.size A B) : KpM A B := ⟨h.size, fun v k x => x.later h, fun q o x _ => (h.block q (Array.getElem?_eq_some_iff.1 x).1).trans x⟩
theorem KpM.put {W : World} {l : Nat} {o : Obj} (h : W.heap[l]? = some o) (hc : o.isCells = false) (o' : Obj) : KpM W (W.putObj l o') :=
 ⟨by simp [World.putObj], fun v k x => x.kept (grownBy_putObj' W l o') (fun r e => by cases e; exact ⟨o, h, hc⟩), fun q o2 x hk => by
  have : q ≠ l := by
   rintro rfl
   rw [h] at x
   cases x
   rcases hk with ⟨a, m, rfl⟩ | ⟨a, m, rfl⟩ <;> cases hc
  exact (World.putObj_heap_other this).trans x⟩
theorem KpM.row {A B : World} {g : Nat} {t : TypeId} {vs : List Value} (hr : RowV t A g vs) (hno : NoU A g) (hg : A.grownBy B (some g)) (h1 : t ≠ 79) (h2 : t ≠ 73) : KpM A B :=
 ⟨hg.size, fun v k x => x.sb ⟨g, hno, hg⟩, fun q o x hk => by
  refine (hg.block q (Array.getElem?_eq_some_iff.1 x).1 fun e => ?_).trans x
  injection e with e
  subst e
  have hr' : A.heap[q]? = some (.cells vs.toArray t (0, 0)) := hr
  rw [hr'] at x
  cases x
  rcases hk with ⟨a, m, e⟩ | ⟨a, m, e⟩
  ·injection e with e1 e2 e3; exact h1 e2
  ·injection e with e1 e2 e3; exact h2 e2⟩
theorem RowV.kpR {A B : World} {g : Nat} {vs : List Value} (h : RowV 79 A g vs) (hk : KpM A B) : RowV 79 B g vs := hk.2.2 g _ h (.inl ⟨_, _, rfl⟩)
theorem RowV.kpD {A B : World} {g : Nat} {vs : List Value} (h : RowV 73 A g vs) (hk : KpM A B) : RowV 73 B g vs := hk.2.2 g _ h (.inr ⟨_, _, rfl⟩)
theorem Rt.kp {A B : World} {v : Value} {T : Nat × Nat × Nat} (h : Rt A v T) (hk : KpM A B) : Rt B v T := by
 obtain ⟨a, b, c, e, h1, h2, h3⟩ := h
 exact ⟨a, b, c, e, hk.2.1 _ _ h1, hk.2.1 _ _ h2, hk.2.1 _ _ h3⟩
theorem Dm.kp {A B : World} {v : Value} {D : Crv} (h : Dm A v D) (hk : KpM A B) : Dm B v D := by
 obtain ⟨a, b, c, d, f, e, h1, h2, h3, h4, h5⟩ := h
 exact ⟨a, b, c, d, f, e, hk.2.1 _ _ h1, hk.2.1 _ _ h2, hk.2.1 _ _ h3, hk.2.1 _ _ h4, hk.2.1 _ _ h5⟩
def MuR (D : Crv) (P : Option (Nat × Nat)) (pre : List Value) (x : Value) (W : World) : Prop := ∃ R, IsMu D P (pre.length + 1) R ∧ Pt W x R
theorem MuR.own (D : Crv) (P : Option (Nat × Nat)) (B : Nat) (pre : List Value) : OwnFrom B (MuR D P pre) := fun s W W' row hs hg hr => by
 obtain ⟨R, h1, h2⟩ := hs
 exact ⟨R, h1, h2.kept hg (fun r e => (hr r e).2)⟩
def MuI (D : Crv) (P : Option (Nat × Nat)) (g7 g5 : Nat) (os ds : List Value) (B N : Nat) (J : List Value → World → Prop) (fv : Value) (wr : World) (m : Nat) : Prop :=
 ∃ (pre : List Value) (g4 : Nat) (v0 v1 v2 : Value), pre.length + m = N ∧ fv = .pointer (some ⟨g4, 0, none⟩) ∧ B ≤ g4 ∧ g7 < B ∧ g5 < B ∧ RowV 79 wr g4 [v0, v1, v2] ∧ Rt wr (.agg #[v0, v1, v2]) (muN D P pre.length) ∧
  RowV 79 wr g7 os ∧ Rt wr (.agg os.toArray) (rtN P) ∧ RowV 73 wr g5 ds ∧ Dm wr (.agg ds.toArray) D ∧ J pre wr
theorem agg7 {vs : List Value} {a b c d e f g : Value} (h : Value.agg vs.toArray = .agg #[a, b, c, d, e, f, g]) : vs = [a, b, c, d, e, f, g] := by
 injection h with h
 have := congrArg Array.toList h
 simpa using this
end Go.Proofs.YtbejcollbkeedaaGreat
namespace Go.Proofs.YtbejcollbkeedaaGreat
open Go.RowKit Go.Shelf Cw
attribute [local go_sem] Oper.semAt_some
theorem mult2_in (nn : Nat) (hn : 1 ≤ nn) (w : World) (c : Int) (D : Crv) (hc : crvOf c = some D) (P : Option (Nat × Nat)) (has : hasN D.p D.b P) (g7 g5 : Nat) (a b d : Value) (dd : List Value)
  (h7 : RowV 79 w g7 [a, b, d]) (hr : Rt w (.agg #[a, b, d]) (rtN P)) (h5 : RowV 73 w g5 dd) (hd : Dm w (.agg dd.toArray) D) (N : Nat) (hN : 1 ≤ N) :
  SeqS Fence.wide nn Tryz.prog 67 #[.pointer (some ⟨g7, 0, none⟩), .pointer (some ⟨g5, 0, none⟩)] (fun v : Value => #[v]) (MuR D P) KpM (fun _ => False) (fun _ => True) N w := by
 intro l J Jx W hW hJ hJx hJg hJN hY h0
 have HLIM := hid (crv_lims hc)
 have HOK := hid (crv_ok hc)
 have HC := hid hc
 have HAS := hid has
 have h7W := h7.later hW
 have hrW := hr.later hW
 have h5W := h5.later hW
 have hdW := hd.later hW
 obtain ⟨vp, vb, vn, vx, vy, ed, k1, k2, k3, k4, k5⟩ := hdW
 obtain rfl := agg7 ed
 obtain ⟨Ap, np, cp, rfl⟩ := k1.sl
 obtain ⟨Ab, nb, cb, rfl⟩ := k2.sl
 obtain ⟨An, nn', cn, rfl⟩ := k3.sl
 obtain ⟨Ax, nx, cx, rfl⟩ := k4.sl
 obtain ⟨Ay, ny, cy, rfl⟩ := k5.sl
 have hdm : Dm W (.agg #[.int .i64 (D.size : Int), .slice Ap np cp, .slice Ab nb cb, .slice An nn' cn, .bool false, .slice Ax nx cx, .slice Ay ny cy]) D := ⟨_, _, _, _, _, rfl, k1, k2, k3, k4, k5⟩
 clear k1 k2 k3 k4 k5 ed
 obtain ⟨a', b', d', ea, r1, r2, r3⟩ := hrW
 cases ea
 obtain ⟨A0, n0, c0, rfl⟩ := r1.sl
 obtain ⟨B0, m0, e0, rfl⟩ := r2.sl
 obtain ⟨C0, p0, f0, rfl⟩ := r3.sl
 have hrt : Rt W (.agg #[.slice A0 n0 c0, .slice B0 m0 e0, .slice C0 p0 f0]) (rtN P) := ⟨_, _, _, rfl, r1, r2, r3⟩
 have HY := hid hY
 have HJN := hid hJN
 have HJG := hid hJg
 have HJ := hid hJ
 obtain ⟨BW, hBW⟩ : ∃ B, W.heap.size = B := ⟨_, rfl⟩
 have HBW := hid hBW
 have HG := hid (show g7 < BW ∧ g5 < BW by have := h7W.lt; have := h5W.lt; omega)
 -- the first block
 obtain ⟨W1, e1, s1, b1, z1⟩ := newS W 79 [.slice none 0 0, .slice none 0 0, .slice none 0 0] _ rfl
 have HS1 := hid (show RowV 79 W1 BW [.slice none 0 0, .slice none 0 0, .slice none 0 0] by rw [← hBW]; exact s1)
 have HB1 := hid b1
 have H7 := hid h7W
 have H5 := hid h5W
 have HR := hid hrt
 have HD := hid hdm
 have H0 := hid h0
 have q0 := H7.out.at_ (i := 0) rfl
 have q1 := H7.out.at_ (i := 1) rfl
 have q2 := H7.out.at_ (i := 2) rfl
 have hz2 := HG.out
 clear hY h7 h5 hr hd h7W h5W hrt hdm hJN hJg hJ r1 r2 r3 s1 b1 z1 h0 hW has hc hz2
 refine callsIn_of_wp Tryz.func67 rfl trivial ?_ rfl
 simp only [Tryz.ntmps67, List.size_toArray, List.length_cons, List.length_nil, Nat.reduceAdd, Nat.reduceSub, Array.replicate_succ, Array.replicate_zero, List.push_toArray, List.append_toArray, List.nil_append, List.cons_append]
 gi_wp2_with ((with_reducible show wpListIn _ _ _ _ _ (⟨none, _, _, _, _, _⟩ :: _) _ _); refine wlSI_store rfl 79 3 Tryz.sizeRt _ _ rfl BW [.slice A0 n0 c0, .slice B0 m0 e0, .slice C0 p0 f0] rfl rfl 79 _ HS1.out rfl rfl (ones3 rfl rfl rfl) ?_; intro w2 hr2 hg2 hz2)
 have hno : NoU W1 BW := NoU.of_row HS1.out (noU3 nofun nofun nofun)
 have hsb : Sb W1 w2 := ⟨BW, hno, hg2⟩
 have hJ1 : J [] W1 := HJ.out [] W W1 none H0.out ⟨HB1.out.os, HB1.out.tape, HB1.out.output, HB1.out.size, fun i hi _ => HB1.out.block i hi⟩ (fun r e => by cases e)
 have hJ2 : J [] w2 := HJG.out [] W1 w2 BW (by rw [HBW.out]; exact Nat.le_refl _) hno hJ1 hg2
 have hst : MuI D P g7 g5 [.slice A0 n0 c0, .slice B0 m0 e0, .slice C0 p0 f0] [.int .i64 (D.size : Int), .slice Ap np cp, .slice Ab nb cb, .slice An nn' cn, .bool false, .slice Ax nx cx, .slice Ay ny cy] BW N J (.pointer (some ⟨BW, 0, none⟩)) w2 N :=
  ⟨[], BW, _, _, _, by simp, rfl, Nat.le_refl _, HG.out.1, HG.out.2, hr2, (HR.out.later HB1.out).sb hsb, (H7.out.later HB1.out).grown hg2 (by have := HG.out; omega), (HR.out.later HB1.out).sb hsb, (H5.out.later HB1.out).grown hg2 (by have := HG.out; omega), (HD.out.later HB1.out).sb hsb, hJ2⟩
 have HST := hid hst
 clear hst hJ2 hJ1 hsb hno hr2 hg2 hz2 q0 q1 q2 H7 H5 HR HD HB1 HS1 e1 H0
 gi_loopw [4] (fun fv wr => ∃ m, MuI D P g7 g5 [.slice A0 n0 c0, .slice B0 m0 e0, .slice C0 p0 f0] [.int .i64 (D.size : Int), .slice Ap np cp, .slice Ab nb cb, .slice An nn' cn, .bool false, .slice Ax nx cx, .slice Ay ny cy] BW N J fv wr m) (fun fv wr => leastOf (MuI D P g7 g5 [.slice A0 n0 c0, .slice B0 m0 e0, .slice C0 p0 f0] [.int .i64 (D.size : Int), .slice Ap np cp, .slice Ab nb cb, .slice An nn' cn, .bool false, .slice Ax nx cx, .slice Ay ny cy] BW N J fv wr))
 case atStart => exact ⟨N, HST.out⟩
 case round =>
  obtain ⟨m, hm⟩ : ∃ m, m = leastOf (MuI D P g7 g5 [.slice A0 n0 c0, .slice B0 m0 e0, .slice C0 p0 f0] [.int .i64 (D.size : Int), .slice Ap np cp, .slice Ab nb cb, .slice An nn' cn, .bool false, .slice Ax nx cx, .slice Ay ny cy] BW N J u4 wr) := ⟨_, rfl⟩
  have hms := (leastOf_spec hrel).1
  rw [← hm] at hms
  have HMM := hid hm
  clear hrel hm
  obtain ⟨pre, g4, v0, v1, v2, hpl, rfl, hg4, hg7, hg5, hr4, ht4, hr7, hrt, hr5, hdm, hJp⟩ := hms
  obtain ⟨y0, y1, y2, ey, x0, x1, x2⟩ := ht4
  cases ey
  obtain ⟨Y0, yn0, yc0, rfl⟩ := x0.sl
  obtain ⟨Y1, yn1, yc1, rfl⟩ := x1.sl
  obtain ⟨Y2, yn2, yc2, rfl⟩ := x2.sl
  have HT4 := hid (show Rt wr (.agg #[.slice Y0 yn0 yc0, .slice Y1 yn1 yc1, .slice Y2 yn2 yc2]) (muN D P pre.length) from ⟨_, _, _, rfl, x0, x1, x2⟩)
  have HR4 := hid hr4
  have HR7 := hid hr7
  have HR5 := hid hr5
  have HRT := hid hrt
  have HDM := hid hdm
  have HJP := hid hJp
  have HPL := hid hpl
  have HGS := hid (And.intro hg4 (And.intro hg7 hg5))
  clear hpl hg4 hg7 hg5 hr4 x0 x1 x2 hr7 hrt hr5 hdm hJp
  have q0 := HR4.out.at_ (i := 0) rfl
  have q1 := HR4.out.at_ (i := 1) rfl
  have q2 := HR4.out.at_ (i := 2) rfl
  have f0' := HR5.out.at_ (i := 0) rfl
  have f1 := HR5.out.at_ (i := 1) rfl
  have f2 := HR5.out.at_ (i := 2) rfl
  have f3 := HR5.out.at_ (i := 3) rfl
  have f4 := HR5.out.at_ (i := 4) rfl
  have f5 := HR5.out.at_ (i := 5) rfl
  have f6 := HR5.out.at_ (i := 6) rfl
  gi_wp2_with fail
  refine ⟨trivial, (callsIn_wide.2 (cpt_any wr D (muN D P pre.length) _ _ HDM.out HT4.out (by have := HLIM.out.2.1; omega) (fun h => cop_lt HLIM.out.2.2.2.2.2.2.1 (muN_lt HC.out P _) h))).mono ?_⟩
  rintro e w1 ⟨vp1, R1, rfl, hpr, hpt, hb1⟩
  have hJ1 := HJ.out pre wr w1 none HJP.out ⟨hb1.os, hb1.tape, hb1.output, hb1.size, fun i hi _ => hb1.block i hi⟩ (fun r e => by cases e)
  have hlt := HJN.out pre w1 hJ1
  have hMU : MuR D P pre vp1 w1 := ⟨R1, muN_is HC.out HAS.out _ hpr, hpt⟩
  have HR41 := hid (HR4.out.later hb1)
  have HT41 := hid (HT4.out.later hb1)
  have HR71 := hid (HR7.out.later hb1)
  have HRT1 := hid (HRT.out.later hb1)
  have HR51 := hid (HR5.out.later hb1)
  have HDM1 := hid (HDM.out.later hb1)
  obtain ⟨fn, tmps, assign, body, hy, hRd⟩ := HY.out pre vp1 w1 hJ1 hMU
  clear q0 q1 q2 f0' f1 f2 f3 f4 f5 f6 hpr hpt hb1 HR4 HT4 HR7 HRT HR5 HDM HJP hJ1 hMU
  gi_wp2_with fail
  refine hRd.mono ?_
  rintro e W3 (⟨rfl, hJ3, hKp⟩ | ⟨rfl, hJx3⟩)
  ·have r7 := HR71.out.kpR hKp
   have r4 := HR41.out.kpR hKp
   have r5 := HR51.out.kpD hKp
   have HR43 := hid r4
   have HR73 := hid r7
   have HR53 := hid r5
   have HT43 := hid (HT41.out.kp hKp)
   have HRT3 := hid (HRT1.out.kp hKp)
   have HDM3 := hid (HDM1.out.kp hKp)
   have HJ3 := hid hJ3
   have q0 := HR43.out.at_ (i := 0) rfl
   have q1 := HR43.out.at_ (i := 1) rfl
   have q2 := HR43.out.at_ (i := 2) rfl
   have o0 := HR73.out.at_ (i := 0) rfl
   have o1 := HR73.out.at_ (i := 1) rfl
   have o2 := HR73.out.at_ (i := 2) rfl
   have f0' := HR53.out.at_ (i := 0) rfl
   have f1 := HR53.out.at_ (i := 1) rfl
   have f2 := HR53.out.at_ (i := 2) rfl
   have f3 := HR53.out.at_ (i := 3) rfl
   have f4 := HR53.out.at_ (i := 4) rfl
   have f5 := HR53.out.at_ (i := 5) rfl
   have f6 := HR53.out.at_ (i := 6) rfl
   clear r7 r4 r5 hKp hJ3 HR41 HR71 HR51 HT41 HRT1 HDM1 hy
   gi_wp2_with fail
   refine ⟨trivial, (callsIn_wide.2 (cadd_any W3 D (muN D P pre.length) (rtN P) _ _ _ HDM3.out HT43.out HRT3.out (by have := HLIM.out.2.1; omega) HOK.out.1.2.1 HOK.out.1.2.2)).mono ?_⟩
   rintro e w4 ⟨v4, rfl, hv4, hb4⟩
   obtain ⟨n0', n1, n2, rfl, z0, z1, z2⟩ := hv4
   obtain ⟨Z0, zn0, zc0, rfl⟩ := z0.sl
   obtain ⟨Z1, zn1, zc1, rfl⟩ := z1.sl
   obtain ⟨Z2, zn2, zc2, rfl⟩ := z2.sl
   have HT5 := hid (show Rt w4 (.agg #[.slice Z0 zn0 zc0, .slice Z1 zn1 zc1, .slice Z2 zn2 zc2]) (muN D P (pre.length + 1)) from ⟨_, _, _, rfl, z0, z1, z2⟩)
   have HR44 := hid (HR43.out.later hb4)
   have HR74 := hid (HR73.out.later hb4)
   have HR54 := hid (HR53.out.later hb4)
   have HRT4 := hid (HRT3.out.later hb4)
   have HDM4 := hid (HDM3.out.later hb4)
   have HJ4 := hid (HJ.out _ _ w4 none HJ3.out ⟨hb4.os, hb4.tape, hb4.output, hb4.size, fun i hi _ => hb4.block i hi⟩ (fun r e => by cases e))
   clear z0 z1 z2 hb4 q0 q1 q2 o0 o1 o2 f0' f1 f2 f3 f4 f5 f6 HR43 HR73 HR53 HT43 HRT3 HDM3 HJ3
   gi_wp2_with (first | ((with_reducible show wpListIn _ _ _ _ _ (⟨none, _, _, _, _, _⟩ :: _) _ _); refine wlSI_store rfl 79 3 Tryz.sizeRt _ _ rfl g4 [.slice Z0 zn0 zc0, .slice Z1 zn1 zc1, .slice Z2 zn2 zc2] rfl rfl 79 _ HR44.out rfl rfl (ones3 rfl rfl rfl) ?_; intro w5 hr5 hg5 hz5; have q0 := hr5.at_ (i := 0) rfl; have q1 := hr5.at_ (i := 1) rfl; have q2 := hr5.at_ (i := 2) rfl; obtain ⟨W6, e6, r6, b6, s6⟩ := newS w5 79 [.slice none 0 0, .slice none 0 0, .slice none 0 0] _ rfl; obtain ⟨g6, hg6⟩ : ∃ x, w5.heap.size = x := ⟨_, rfl⟩; rw [hg6] at r6) | ((with_reducible show wpListIn _ _ _ _ _ (⟨none, _, _, _, _, _⟩ :: _) _ _); refine wlSI_store rfl 79 3 Tryz.sizeRt _ _ rfl g6 [.slice Z0 zn0 zc0, .slice Z1 zn1 zc1, .slice Z2 zn2 zc2] rfl rfl 79 _ r6 rfl rfl (ones3 rfl rfl rfl) ?_; intro w7 hr7' hg7' hz7))
   have hno4 : NoU w4 g4 := NoU.of_row HR44.out (noU3 nofun nofun nofun)
   have hno6 : NoU W6 g6 := NoU.of_row r6 (noU3 nofun nofun nofun)
   have hsb4 : Sb w4 w5 := ⟨g4, hno4, hg5⟩
   have hsb6 : Sb W6 w7 := ⟨g6, hno6, hg7'⟩
   have hgl := HGS.out
   have l7 := HR74.out.lt
   have l5 := HR54.out.lt
   have hz := hg5.size
   have hJ5 := HJG.out _ w4 w5 g4 (by rw [HBW.out]; exact hgl.1) hno4 HJ4.out hg5
   have hJ6 := HJ.out _ _ W6 none hJ5 ⟨b6.os, b6.tape, b6.output, b6.size, fun i hi _ => b6.block i hi⟩ (fun r e => by cases e)
   have hJ7 := HJG.out _ W6 w7 g6 (by rw [HBW.out]; have := HR44.out.lt; omega) hno6 hJ6 hg7'
   have hnew : MuI D P g7 g5 [.slice A0 n0 c0, .slice B0 m0 e0, .slice C0 p0 f0] [.int .i64 (D.size : Int), .slice Ap np cp, .slice Ab nb cb, .slice An nn' cn, .bool false, .slice Ax nx cx, .slice Ay ny cy] BW N J (.pointer (some ⟨g6, 0, none⟩)) w7 (m - 1) :=
    ⟨pre ++ [vp1], g6, _, _, _, by rw [List.length_append, List.length_singleton]; have := HPL.out; omega, rfl, (by have := HR44.out.lt; omega), hgl.2.1, hgl.2.2, hr7', by rw [List.length_append, List.length_singleton]; exact ((HT5.out.sb hsb4).later b6).sb hsb6,
     (((HR74.out.grown hg5 (by omega)).later b6).grown hg7' (by omega)), ((HRT4.out.sb hsb4).later b6).sb hsb6, (((HR54.out.grown hg5 (by omega)).later b6).grown hg7' (by omega)), ((HDM4.out.sb hsb4).later b6).sb hsb6, hJ7⟩
   have HNEW := hid hnew
   have hm1 : m - 1 < m := by have := HPL.out; omega
   have HM1 := hid hm1
   clear hnew hm1 hno4 hno6 hsb4 hsb6 hgl l7 l5 hz hJ5 hJ6 hJ7 hr5 hg5 hz5 r6 b6 s6 hr7' hg7' hz7 q0 q1 q2 e6 hg6
   go_roundw
   case rel => (repeat apply Exists.intro); exact ⟨⟨_, HNEW.out⟩, rfl⟩
   case measure =>
    have h := Nat.lt_of_le_of_lt ((leastOf_spec ⟨_, HNEW.out⟩).2 _ HNEW.out) HM1.out
    rw [HMM.out] at h
    exact h
  ·gi_wp2
   refine bodyPost_end (results_none rfl _ _ _) rfl ?_
   exact ⟨⟨_, rfl⟩, .inr ⟨_, trivial, hJx3⟩⟩
end Go.Proofs.YtbejcollbkeedaaGreat
namespace Go.Proofs.YtbejcollbkeedaaGreat
open Go.RowKit Go.Shelf
theorem wpIn_region_numGS {F : Fence} {n : Nat} {P : Program} {id : Nat} {ops : Array Oper} {Q : Exit → Act → World → Prop} {a : Act} {w : World} (hF : F.depth = none) (hm : P.follows .mixedOrders = true)
  (L : List (Nat × Spc)) (Gs : List (Nat × Bool)) (hd : distinctB ops = true) (hdep : depsG ops (L.map (·.1)) = true) (hon : onlyB ops (L.map (·.1)) = true) (hord : orderedB ops = true) (hsz : (L.map (·.1)).all (fun t => decide (t < a.tmps.size)) = true)
  (hgs : guardsB ops Gs = true) (hgk : Gs.all (fun p => (L.map (·.1)).contains p.1) = true) (hGv : ∀ p ∈ Gs, ∀ v V, spcAt L p.1 v V → v = .bool p.2)
  (gr s : Nat) (hs0 : ∃ o, ops[s]? = some o ∧ o.dst = none) (hgr : gr < w.heap.size) (hno : NoU w gr) (tr : TypeId) (nr : Nat) (hshp : Shp tr nr w gr) (Ps : World → Prop) (hPs : ∀ V V', gr < V.heap.size → Below V.heap.size V V' → Ps V → Ps V')
  (hops : ∀ (i : Nat) (o : Oper) (a' : Act) (V : World), i ≠ s → w.grownBy V (some gr) → ops[i]? = some o → (∀ t, (L.map (·.1)).contains t = false → a'.eval (.tmp t) = a.eval (.tmp t)) → (∀ t, readsG o t = true → (L.map (·.1)).contains t = true → spcAt L t (a'.eval (.tmp t)) V) → OpOk F n P L a' V o)
  (hs : ∀ (o : Oper) (a' : Act) (V : World), w.grownBy V (some gr) → NoU V gr → Shp tr nr V gr → ops[s]? = some o → (∀ t, (L.map (·.1)).contains t = false → a'.eval (.tmp t) = a.eval (.tmp t)) → (∀ t, readsG o t = true → (L.map (·.1)).contains t = true → spcAt L t (a'.eval (.tmp t)) V) →
   (∀ c, o.op ≠ .defer c) ∧ (∀ f, o.about P V a'.eval = some f → F.fn f) ∧ o.dst = none ∧ ∃ V', (execOp a'.eval o).run P V = .ok .skip V' ∧ V.grownBy V' (some gr) ∧ NoU V' gr ∧ Shp tr nr V' gr ∧ Ps V')
  (hend : ∀ (vals : Nat → Value) V, w.grownBy V (some gr) → NoU V gr → (∀ (i t : Nat) (o : Oper), ops[i]? = some o → o.dst = some t → spcAt L t (vals i) V) → Ps V →
   Q .normal { tmps := wrote ops vals (Array.replicate ops.size true) a.tmps ops.size, defers := a.defers } V) : (Code.region id ops true).wpIn F n P Q a w := by
 have hgt : ∀ {A B C : World}, A.grownBy B (some gr) → B.grownBy C (some gr) → A.grownBy C (some gr) := fun h k =>
  ⟨k.os.trans h.os, k.tape.trans h.tape, k.output.trans h.output, Nat.le_trans h.size k.size, fun i hi hn => (k.block i (Nat.lt_of_lt_of_le hi h.size) hn).trans (h.block i hi hn)⟩
 have hbg : ∀ {A B : World}, Below A.heap.size A B → A.grownBy B (some gr) := fun h => ⟨h.os, h.tape, h.output, h.size, fun i hi _ => h.block i hi⟩
 refine wpIn_region_treeG hF hm (L.map (·.1)) Gs hd hdep hon hord hsz hgs hgk (fun V => w.grownBy V (some gr) ∧ NoU V gr ∧ Shp tr nr V gr) ⟨hbg (below_drewN (Below.refl _ w) 1), hno, hshp⟩
  (fun i V V' => if i = s then V.grownBy V' (some gr) else Below V.heap.size V V') (spcAt L) hGv ?_ (fun i V => i = s → Ps V) ?_ ?_ ?_
 ·intro i V V' hI _ hb t v h
  refine h.sb ?_
  change (if i = s then _ else _) at hb
  by_cases e : i = s
  ·rw [if_pos e] at hb
   exact ⟨gr, hI.2.1, hb⟩
  ·rw [if_neg e] at hb
   exact Sb.of_below hb
 ·intro i V V' hI _ hb j hj h e
  change (if i = s then _ else _) at hb
  rw [if_neg (fun e' => hj (by rw [e, e']))] at hb
  exact hPs V V' (Nat.lt_of_lt_of_le hgr hI.1.size) hb (h e)
 ·intro i o a' V hI ho hev hrd
  have hgV := Nat.lt_of_lt_of_le hgr hI.1.size
  have hkeep : ∀ V', Below V.heap.size V V' → w.grownBy V' (some gr) ∧ NoU V' gr ∧ Shp tr nr V' gr := fun V' hB => ⟨hgt hI.1 (hbg hB), fun off x hx => hI.2.1 off x (by rw [← hx]; exact (hB.cell (p := ⟨gr, off, none⟩) hgV).symm), by obtain ⟨vs, h1, h2⟩ := hI.2.2; exact ⟨vs, h1.later hB, h2⟩⟩
  by_cases e : i = s
  ·subst e
   obtain ⟨h1, h2, h3, V', hr, hB, hN, hsh, hP⟩ := hs o a' V hI.1 hI.2.1 hI.2.2 ho hev hrd
   exact ⟨h1, h2, .inl ⟨undef, V', .inr ⟨hr, rfl⟩, ⟨hgt hI.1 hB, hN, hsh⟩, (by show (if i = i then _ else _); rw [if_pos rfl]; exact hB), (fun t ht => absurd ht (by rw [h3]; simp)), fun _ _ => hP⟩⟩
  ·obtain ⟨h1, h2, h3, h4⟩ := hops i o a' V e hI.1 ho hev hrd
   refine ⟨h1, h2, ?_⟩
   rcases h4 with ⟨v, V', hr, hB, hP⟩ | ⟨f, args, hr, hc⟩
   ·exact .inl ⟨v, V', .inl hr, hkeep V' hB, (by show (if i = s then _ else _); rw [if_neg e]; exact hB), hP, fun h => absurd h h3⟩
   ·refine .inr ⟨f, args, hr, hc.mono ?_⟩
    rintro e' w' ⟨v, rfl, hB, hP⟩
    exact ⟨v, rfl, hkeep w' hB, (by show (if i = s then _ else _); rw [if_neg e]; exact hB), hP, fun h => absurd h h3⟩
 ·intro vals V hI hP hN
  obtain ⟨o, ho, hd'⟩ := hs0
  exact hend vals V hI.1 hI.2.1 hP (hN s o ho hd' rfl)
end Go.Proofs.YtbejcollbkeedaaGreat
namespace Go.Proofs.YtbejcollbkeedaaGreat
open Go.RowKit Go.Shelf Cw
attribute [local go_sem] Oper.semAt_some
theorem Nb.kept {A B : World} {v : Value} {k : Nat} (h : Nb A v k) {row : Option Nat} (hg : A.grownBy B row) (hr : ∀ r, row = some r → ∃ o : Obj, A.heap[r]? = some o ∧ o.isCells = false) : Nb B v k := by
 obtain ⟨xs, p, n, c, e, hs, hn, hl⟩ := h
 exact ⟨xs, p, n, c, e, (hs.kept hg hr).more hg.size, hn, hl⟩
theorem Cr.kept {A B : World} {v : Value} {D : Crv} (h : Cr A v D) {row : Option Nat} (hg : A.grownBy B row) (hr : ∀ r, row = some r → ∃ o : Obj, A.heap[r]? = some o ∧ o.isCells = false) : Cr B v D := by
 obtain ⟨vp, vb, vn, vx, vy, e, h1, h2, h3, h4, h5⟩ := h
 exact ⟨vp, vb, vn, vx, vy, e, h1.kept hg hr, h2.kept hg hr, h3.kept hg hr, h4.kept hg hr, h5.kept hg hr⟩
theorem Rp.kept {A B : World} {v : Value} {R : Option (Nat × Nat)} (h : Rp A v R) {row : Option Nat} (hg : A.grownBy B row) (hr : ∀ r, row = some r → ∃ o : Obj, A.heap[r]? = some o ∧ o.isCells = false) : Rp B v R := by
 rcases R with _ | ⟨x, y⟩
 ·obtain ⟨a, b, e, h1, h2⟩ := h
  exact ⟨a, b, e, h1.kept hg hr, h2.kept hg hr⟩
 ·obtain ⟨a, b, e, h1, h2⟩ := h
  exact ⟨a, b, e, h1.kept hg hr, h2.kept hg hr⟩
theorem eq_nilIt1 (w : World) : (binOp .eql 59 (.func (.func 66) #[] #[]) .nilFunc).run Tryz.prog w = .ok (.bool false) w := by kernel_rfl
theorem eq_nilIt2 (g g' : Nat) (w : World) : (binOp .eql 59 (.func (.func 67) #[] #[.pointer (some ⟨g, 0, none⟩), .pointer (some ⟨g', 0, none⟩)]) .nilFunc).run Tryz.prog w = .ok (.bool false) w := by kernel_rfl
theorem mult1_in (nn : Nat) (hn : 1 ≤ nn) (w : World) (enc : Value → Array Value) (R : List Value → Value → World → Prop) (Kp : World → World → Prop) (N : Nat) :
  SeqS Fence.wide nn Tryz.prog 66 #[] enc R Kp (fun xs => xs = []) (fun _ => False) N w := by
 intro l J Jx W hW hJ hJx hJg hJN hY h0
 refine callsIn_of_wp Tryz.func66 rfl trivial ?_ rfl
 simp only [Tryz.ntmps66, List.size_toArray, List.length_cons, List.length_nil, Nat.reduceAdd, Nat.reduceSub, Array.replicate_succ, Array.replicate_zero, List.push_toArray, List.append_toArray, List.nil_append, List.cons_append]
 gi_wp2
 refine bodyPost_end (results_none rfl _ _ _) rfl ?_
 exact ⟨⟨_, rfl⟩, .inl ⟨[], rfl, h0⟩⟩
def MtB (w : World) (N : Int) (g7 g8 gx gu : Nat) (xv uv : List Value) (W : World) : Prop :=
 Below w.heap.size w W ∧ RowV 3 W g7 [.int .i64 N] ∧ RowV 4 W g8 [.bool false] ∧ RowV 30 W gx xv ∧ RowV 33 W gu uv
theorem MtB.kept {w : World} {N : Int} {g7 g8 gx gu : Nat} {xv uv : List Value} {W W' : World} (h : MtB w N g7 g8 gx gu xv uv W) {row : Option Nat} (hg : W.grownBy W' row) (hr : ∀ r, row = some r → w.heap.size ≤ r ∧ ∃ o : Obj, W.heap[r]? = some o ∧ o.isCells = false) : MtB w N g7 g8 gx gu xv uv W' := by
 obtain ⟨h1, h2, h3, h4, h5⟩ := h
 have hc := fun r e => (hr r e).2
 exact ⟨h1.grown hg h1.size (fun r e => (hr r e).1), h2.kept hg hc, h3.kept hg hc, h4.kept hg hc, h5.kept hg hc⟩
theorem MtB.grown {w : World} {N : Int} {g7 g8 gx gu g : Nat} {xv uv : List Value} {W W' : World} (h : MtB w N g7 g8 gx gu xv uv W) (hg : W.grownBy W' (some g)) (hB : w.heap.size ≤ g) (h7 : g7 ≠ g) (h8 : g8 ≠ g) (hx : gx ≠ g) (hu : gu ≠ g) : MtB w N g7 g8 gx gu xv uv W' := by
 obtain ⟨h1, h2, h3, h4, h5⟩ := h
 exact ⟨below_grown h1 hg hB h1.size, h2.grown hg h7, h3.grown hg h8, h4.grown hg hx, h5.grown hg hu⟩
def MtI (w : World) (D : Crv) (P : Option (Nat × Nat)) (N : Int) (g7 g8 gx gu gk gs : Nat) (xv uv : List Value) (pre : List Value) (W : World) : Prop :=
 MtB w N g7 g8 gx gu xv uv W ∧ Cr W (.agg xv.toArray) D ∧ Rp W (.agg uv.toArray) P ∧ RowV 3 W gk [.int .i64 (pre.length : Int)] ∧ ∃ sv S, RowV 33 W gs sv ∧ Rp W (.agg sv.toArray) S ∧ IsMu D P pre.length S
theorem MtI.own {w : World} {D : Crv} {P : Option (Nat × Nat)} {N : Int} {g7 g8 gx gu gk gs : Nat} {xv uv : List Value} {B : Nat} (hB : w.heap.size ≤ B) : OwnFrom B (MtI w D P N g7 g8 gx gu gk gs xv uv) := by
 rintro s W W' row ⟨h1, h2, h3, h4, sv, S, h5, h6, h7⟩ hg hr
 have hc := fun r e => (hr r e).2
 exact ⟨h1.kept hg (fun r e => ⟨Nat.le_trans hB (hr r e).1, (hr r e).2⟩), h2.kept hg hc, h3.kept hg hc, h4.kept hg hc, sv, S, h5.kept hg hc, h6.kept hg hc, h7⟩
theorem MtI.grown {w : World} {D : Crv} {P : Option (Nat × Nat)} {N : Int} {g7 g8 gx gu gk gs g : Nat} {xv uv pre : List Value} {W W' : World} (h : MtI w D P N g7 g8 gx gu gk gs xv uv pre W) (hno : NoU W g) (hg : W.grownBy W' (some g)) (hB : w.heap.size ≤ g) (h7 : g7 ≠ g) (h8 : g8 ≠ g) (hx : gx ≠ g) (hu : gu ≠ g) (hk : gk ≠ g) (hs : gs ≠ g) : MtI w D P N g7 g8 gx gu gk gs xv uv pre W' := by
 obtain ⟨h1, h2, h3, h4, sv, S, h5, h6, h9⟩ := h
 have hsb : Sb W W' := ⟨g, hno, hg⟩
 exact ⟨h1.grown hg hB h7 h8 hx hu, h2.sb hsb, h3.sb hsb, h4.grown hg hk, sv, S, h5.grown hg hs, h6.sb hsb, h9⟩
theorem IsMu.zero (D : Crv) (P : Option (Nat × Nat)) : IsMu D P 0 none := ⟨trivial, fun _ _ => rfl⟩
theorem IsMu.has {c : Int} {D : Crv} (hc : crvOf c = some D) {P : Option (Nat × Nat)} (has : hasN D.p D.b P) {k : Nat} {S : Option (Nat × Nat)} (h : IsMu D P k S) : hasN D.p D.b S := by
 obtain ⟨-, h8, -, hbl, -⟩ := crv_lims hc
 obtain ⟨hne, ⟨C⟩⟩ := crv_cv hc
 have hon := ((has_iff (by omega) hbl _).1 has).2
 exact (has_iff (by omega) hbl _).2 ⟨h.1, by rw [h.2 hne C]; exact C.mg_on hon k⟩
theorem add_mu (w : World) (c : Int) (D : Crv) (hc : crvOf c = some D) (vc vs vu : Value) (hcr : Cr w vc D) (P S R : Option (Nat × Nat)) (has : hasN D.p D.b P) (hu : Rp w vu P) (hs : Rp w vs S) (k : Nat) (h1 : IsMu D P k S) (h2 : IsMu D P (k + 1) R) :
  Calls Tryz.prog 18 #[vc, vs, vu] w fun e w' => ∃ v, e = .returned v ∧ Rp w' v R ∧ Below w.heap.size w w' :=
 radd_is w c D hc vc vs vu hcr S P R hs hu (h1.has hc has) has h2.1 (fun hne C => by rw [h2.2 hne C, h1.2 hne C]; rfl)
theorem grown_set0 (w : World) (g i : Nat) (u : Value) : w.grownBy (w.setCell ⟨g, i, none⟩ u) (some g) := ⟨rfl, rfl, rfl, by simp [World.setCell], fun k _ hn => Below.heap_setCell _ _ _ _ (fun e => hn (by rw [e]))⟩
theorem grown_no {A B : World} (h : Below A.heap.size A B) : A.grownBy B none := ⟨h.os, h.tape, h.output, h.size, fun i hi _ => h.block i hi⟩
theorem act_name {C : Code} {F : Fence} {n : Nat} {P : Program} {Q : Exit → Act → World → Prop} {a : Act} {w : World} (h : ∀ a0, a0 = a → C.wpIn F n P Q a0 w) : C.wpIn F n P Q a w := h a rfl
end Go.Proofs.YtbejcollbkeedaaGreat
