/- Ranges over functions (what the hash texts have, without limb). -/
import Derived.Test.YtabhdkjepbkooaaMem
import Derived.RangeFuncNested
import Derived.RangeFuncBound
import Derived.RangeFuncCalls
import Derived.RangeFuncLeaves
import Derived.RangeFuncBox
import Derived.Shelf.Abstract
import Derived.Shelf.RegionOpen
import Derived.OwnWalkIn
import Derived.TacticsInMore
import Derived.LoopNIn
import Derived.LoopIn
set_option linter.unusedVariables false
set_option linter.unusedSimpArgs false
namespace Go.Proofs.Ytabhdkjepbkooaa
open Go.RowKit

section

/-- the iterator's word: ahead of a round R holds of what is handed out -/
def SeqR {α : Type} (F : Fence) (n : Nat) (P : Program) (g : Nat) (lb : Array Value) (enc : α → Array Value) (R : α → World → Prop) (Kp : World → World → Prop) (S Sp : List α → Prop) (N : Nat) (w : World) : Prop :=
  ∀ (l : Nat) (J Jx : List α → World → Prop) (W : World), Below w.heap.size w W → AbidesFrom W.heap.size J → AbidesFrom W.heap.size Jx →
    (∀ pre x V, J pre V → R x V → pre.length < N → YieldAt F (n - 1) P l (enc x) V fun e V' => (e = .returned (.bool true) ∧ J (pre ++ [x]) V' ∧ Kp V V') ∨ (e = .returned (.bool false) ∧ Jx (pre ++ [x]) V')) →
    J [] W → CallsIn F n P g (#[.func (.yield l) #[] #[]] ++ lb) W fun e W' => (∃ v, e = .returned v) ∧ ((∃ xs, S xs ∧ J xs W') ∨ (∃ pre, Sp pre ∧ Jx pre W'))

/-- the loop's own two blocks -/
structure TwoBl (b : Nat) (r : Loop) (W : World) : Prop where
  lrec : W.heap[b + 1]? = some (.loop r)
  dfr : W.heap[b]? = some (.deferred (some []))
theorem TwoBl.grown {b : Nat} {r : Loop} {W W' : World} {row : Option Nat} (h : TwoBl b r W) (hg : W.grownBy W' row) (hr : ∀ k, row = some k → ∃ o : Obj, W.heap[k]? = some o ∧ o.isWalk = true) : TwoBl b r W' := by
  have go : ∀ (k : Nat) (o : Obj), W.heap[k]? = some o → o.isWalk = false → W'.heap[k]? = some o := fun k o hk ho => by
    refine (hg.block k (Array.getElem?_eq_some_iff.1 hk).1 fun e => ?_).trans hk
    obtain ⟨o2, h2, hw⟩ := hr k e.symm
    rw [hk] at h2
    cases h2
    rw [ho] at hw
    cases hw
  exact ⟨go _ _ h.lrec rfl, go _ _ h.dfr rfl⟩
theorem TwoBl.put {b : Nat} {r : Loop} {W : World} (h : TwoBl b r W) (r' : Loop) : TwoBl b r' (W.putObj (b + 1) (.loop r')) :=
  ⟨World.putObj_heap_same (Array.getElem?_eq_some_iff.1 h.lrec).1, (World.putObj_heap_other (by omega)).trans h.dfr⟩
theorem TwoBl.kept {b : Nat} {r : Loop} {W W' : World} (h : TwoBl b r W) (hk : KeepsFrom b W W') : TwoBl b r W' :=
  ⟨hk.same _ _ (Nat.le_succ _) h.lrec rfl, hk.same _ _ (Nat.le_refl _) h.dfr rfl⟩

variable {F : Fence} {n : Nat} {P : Program}

theorem wpIn_rangeR {α : Type} {g : Operand} {ps : Array Tmp} {assign body : Code} {Q : Exit → Act → World → Prop} {a : Act} {w : World}
    (hro : F.round = none) (h1 : 1 ≤ n) {gf : Nat} {lb : Array Value} (hg : a.eval g = .func (.func gf) #[] lb) (hFg : F.fn gf) (eg : ∀ args w, (callFunc gf args).run P w = .ok (.enter gf args) w)
    {enc : α → Array Value} {R : α → World → Prop} {Kp : World → World → Prop} {S Sp : List α → Prop} {N : Nat} (hseq : SeqR F (n - 1) P gf lb enc R Kp S Sp N w)
    (hKt : ∀ {A B C : World}, Kp A B → Kp B C → Kp A C) (hKb : ∀ (W : World) (l : Nat) (o o' : Obj), w.heap.size ≤ l → W.heap[l]? = some o → o.isCells = false → o.isWalk = false → Kp W (W.putObj l o')) (hps : ∀ x, (enc x).size = ps.size)
    (I : List α → World → Prop) (Ix : Code → List α → World → Prop) (hI : OwnFrom w.heap.size I) (hIx : ∀ c, OwnFrom w.heap.size (Ix c)) (hR : OwnFrom w.heap.size R) (h0 : I [] w) (a₁ : α → Act)
    (hassign : ∀ (l : Nat) (x : α) (W : World) (K : Act → World → Prop), K (a₁ x) W →
      assign.wpIn (F.inRound l) (n - 1 - 1) P (Exit.then K (fun _ _ _ => False)) { tmps := (ps.zip (enc x)).foldl (fun t (p, v) => t.setIfInBounds p v) a.tmps, defers := [] } W)
    (hbody : ∀ (l : Nat) (pre : List α) (x : α) (W : World), I pre W → R x W → pre.length < N → body.wpIn (F.inRound l) (n - 1 - 1) P (ownPostG w.heap.size Kp I Ix (pre ++ [x]) W) (a₁ x) W)
    (hdone : ∀ (D : Nat) (xs : List α) (W : World), w.heap.size ≤ D → S xs → I xs W → W.heap[D]? = some (.deferred (some [])) → Q .normal { a with defers := { target := .collected D, args := #[] } :: a.defers } W)
    (hstop : ∀ (D : Nat) (c : Code) (pre : List α) (W : World), w.heap.size ≤ D → Sp pre → Ix c pre W → W.heap[D]? = some (.deferred (some [])) → c.wpIn F n P Q { a with defers := { target := .collected D, args := #[] } :: a.defers } W) :
    (Code.rangeFunc g ps assign body).wpIn F n P Q a w := by
  refine wpIn_rangeFunc fun fn hfn => ?_
  rw [hro]
  obtain ⟨b, hb⟩ : ∃ b, w.heap.size = b := ⟨_, rfl⟩
  let lp : LoopState → Option Code → Loop := fun st pe => { state := st, pending := pe, fn, tmps := a.tmps, params := ps, assign, body, defers := b }
  let V := (w.alloc (.deferred (some []))).alloc (.loop (lp .ready none))
  have hV : TwoBl b (lp .ready none) V := by
    refine ⟨?_, ?_⟩
    · have h := World.alloc_heap_new (w.alloc (.deferred (some []))) (.loop (lp .ready none))
      rwa [World.size_alloc, hb] at h
    · rw [← hb]
      exact (Below.heap_alloc (w.alloc (.deferred (some []))) _ _ (by simp)).trans (World.alloc_heap_new w _)
  have hIV : I [] V := hI.alloc _ (hI.alloc _ h0)
  have hbel : Below w.heap.size w V := ((Below.refl _ w).alloc (Nat.le_refl _) _).alloc (by simp) _
  have hsz : w.heap.size ≤ V.heap.size := hbel.size
  have wide : ∀ {A : World} {row : Option Nat}, (∀ r, row = some r → V.heap.size ≤ r ∧ ∃ o : Obj, A.heap[r]? = some o ∧ o.isWalk = true) → ∀ r, row = some r → w.heap.size ≤ r ∧ ∃ o : Obj, A.heap[r]? = some o ∧ o.isCells = false := fun h r e => by
    obtain ⟨h1, o, ho, hw⟩ := h r e
    exact ⟨Nat.le_trans hsz h1, o, ho, Obj.not_cells_of_walk hw⟩
  have hent := run_enterLoop_outer (P := P) (w := w) fn a.tmps ps assign body
  rw [hb] at hent
  refine ⟨b + 1, [{ target := .collected b, args := #[] }], V, { target := .fn (.func gf) lb, args := #[.func (.yield (b + 1)) #[] #[]] }, V, gf, #[.func (.yield (b + 1)) #[] #[]] ++ lb, V, hent, ?_, ?_, ?_, fun _ => h1, ?_⟩
  · simp only [resolve, hg]
    simp [go_sem]
  · intro f' hf'
    simp [Target.leads] at hf'
    exact hf' ▸ hFg
  · simp [invoke, go_sem, eg]
  have hcall := hseq (b + 1) (fun pre W => I pre W ∧ TwoBl b (lp .ready none) W) (fun pre W => ∃ c, Ix c pre W ∧ TwoBl b (lp .done (some c)) W) V hbel
    (fun s A B row hs hg' hr => ⟨hI s A B row hs.1 hg' (wide hr), hs.2.grown hg' fun k e => (hr k e).2⟩)
    (fun s A B row hs hg' hr => by
      obtain ⟨c, h1, h2⟩ := hs
      exact ⟨c, hIx c s A B row h1 hg' (wide hr), h2.grown hg' fun k e => (hr k e).2⟩)
    (by
      rintro pre x W ⟨hi, ht⟩ hx hlen
      refine ⟨fn, _, assign, body, run_yield (P := P) (args := enc x) ht.lrec (hps x), roundIn_of_wpIn hfn (hassign _ x W _ ⟨_, run_beginRound ht.lrec rfl, ?_⟩)⟩
      have hle : w.heap.size ≤ b + 1 := by omega
      have hbusy := ht.put { lp .ready none with state := .busy }
      have hkb : Kp W (W.putObj (b + 1) (.loop { lp .ready none with state := .busy })) := hKb _ _ _ _ hle ht.lrec rfl rfl
      refine wpIn_mono (hbody (b + 1) pre x _ (hI.putObj _ hi hle ht.lrec rfl) (hR.putObj _ hx hle ht.lrec rfl) hlen) ?_
      have leave : ∀ (c : Code) (X : World), KeepsFrom w.heap.size (W.putObj (b + 1) (.loop { lp .ready none with state := .busy })) X → Ix c (pre ++ [x]) X →
          (Instr.endRound (b + 1) (some c)).run P X = .ok (.bool false) (X.putObj (b + 1) (.loop (lp .done (some c)))) ∧ ∃ c', Ix c' (pre ++ [x]) (X.putObj (b + 1) (.loop (lp .done (some c)))) ∧ TwoBl b (lp .done (some c')) (X.putObj (b + 1) (.loop (lp .done (some c)))) := fun c X hk hi3 => by
        have ht3 := hbusy.kept (hb ▸ hk)
        exact ⟨run_endRound (P := P) (some c) ht3.lrec, c, (hIx c).putObj _ hi3 hle ht3.lrec rfl, ht3.put _⟩
      rintro e a3 X hp
      cases e with
      | normal =>
        obtain ⟨hk, hkp, hi3⟩ := hp
        have ht3 := hbusy.kept (hb ▸ hk)
        exact ⟨_, _, run_endRound (P := P) none ht3.lrec, .inl ⟨rfl, ⟨hI.putObj _ hi3 hle ht3.lrec rfl, ht3.put _⟩, hKt (hKt hkb hkp) (hKb _ _ _ _ hle ht3.lrec rfl rfl)⟩⟩
      | ret => exact ⟨_, _, (leave _ X hp.1 hp.2).1, .inr ⟨rfl, (leave _ X hp.1 hp.2).2⟩⟩
      | exit id => exact ⟨_, _, (leave _ X hp.1 hp.2).1, .inr ⟨rfl, (leave _ X hp.1 hp.2).2⟩⟩
      | goto t => exact ⟨_, _, (leave _ X hp.1 hp.2).1, .inr ⟨rfl, (leave _ X hp.1 hp.2).2⟩⟩
      | panic ch => exact hp.elim
      | outgrown => exact hp.elim) ⟨hIV, hV⟩
  refine hcall.mono ?_
  have hle : w.heap.size ≤ b + 1 := by omega
  rintro e X ⟨⟨v, rfl⟩, (⟨xs, hS, hi, ht⟩ | ⟨pre, hSp, c, hi, ht⟩)⟩
  · exact ⟨none, _, run_endLoop (P := P) ht.lrec (by intro h; cases h), hdone b xs _ (by omega) hS (hI.putObj _ hi hle ht.lrec rfl) ((World.putObj_heap_other (by omega)).trans ht.dfr)⟩
  · exact ⟨some c, _, run_endLoop (P := P) ht.lrec (by intro h; cases h), hstop b c pre _ (by omega) hSp ((hIx c).putObj _ hi hle ht.lrec rfl) ((World.putObj_heap_other (by omega)).trans ht.dfr)⟩
end
section

/-- the iterator's word: ahead of a round R holds of what is handed out, behind what came before -/
def SeqP {α : Type} (F : Fence) (n : Nat) (P : Program) (g : Nat) (lb : Array Value) (enc : α → Array Value) (R : List α → α → World → Prop) (Kp : World → World → Prop) (S Sp : List α → Prop) (N : Nat) (w : World) : Prop :=
  ∀ (l : Nat) (J Jx : List α → World → Prop) (W : World), Below w.heap.size w W → AbidesFrom W.heap.size J → AbidesFrom W.heap.size Jx →
    (∀ pre x V, J pre V → R pre x V → pre.length < N → YieldAt F (n - 1) P l (enc x) V fun e V' => (e = .returned (.bool true) ∧ J (pre ++ [x]) V' ∧ Kp V V') ∨ (e = .returned (.bool false) ∧ Jx (pre ++ [x]) V')) →
    J [] W → CallsIn F n P g (#[.func (.yield l) #[] #[]] ++ lb) W fun e W' => (∃ v, e = .returned v) ∧ ((∃ xs, S xs ∧ J xs W') ∨ (∃ pre, Sp pre ∧ Jx pre W'))

variable {F : Fence} {n : Nat} {P : Program}

theorem wpIn_rangeP {α : Type} {g : Operand} {ps : Array Tmp} {assign body : Code} {Q : Exit → Act → World → Prop} {a : Act} {w : World}
    (hro : F.round = none) (h1 : 1 ≤ n) {gf : Nat} {lb : Array Value} (hg : a.eval g = .func (.func gf) #[] lb) (hFg : F.fn gf) (eg : ∀ args w, (callFunc gf args).run P w = .ok (.enter gf args) w)
    {enc : α → Array Value} {R : List α → α → World → Prop} {Kp : World → World → Prop} {S Sp : List α → Prop} {N : Nat} (hseq : SeqP F (n - 1) P gf lb enc R Kp S Sp N w)
    (hKt : ∀ {A B C : World}, Kp A B → Kp B C → Kp A C) (hKb : ∀ (W : World) (l : Nat) (o o' : Obj), w.heap.size ≤ l → W.heap[l]? = some o → o.isCells = false → o.isWalk = false → Kp W (W.putObj l o')) (hps : ∀ x, (enc x).size = ps.size)
    (I : List α → World → Prop) (Ix : Code → List α → World → Prop) (hI : OwnFrom w.heap.size I) (hIx : ∀ c, OwnFrom w.heap.size (Ix c)) (hR : ∀ pre, OwnFrom w.heap.size (R pre)) (h0 : I [] w) (a₁ : α → Act)
    (hassign : ∀ (l : Nat) (x : α) (W : World) (K : Act → World → Prop), K (a₁ x) W →
      assign.wpIn (F.inRound l) (n - 1 - 1) P (Exit.then K (fun _ _ _ => False)) { tmps := (ps.zip (enc x)).foldl (fun t (p, v) => t.setIfInBounds p v) a.tmps, defers := [] } W)
    (hbody : ∀ (l : Nat) (pre : List α) (x : α) (W : World), I pre W → R pre x W → pre.length < N → body.wpIn (F.inRound l) (n - 1 - 1) P (ownPostG w.heap.size Kp I Ix (pre ++ [x]) W) (a₁ x) W)
    (hdone : ∀ (D : Nat) (xs : List α) (W : World), w.heap.size ≤ D → S xs → I xs W → W.heap[D]? = some (.deferred (some [])) → Q .normal { a with defers := { target := .collected D, args := #[] } :: a.defers } W)
    (hstop : ∀ (D : Nat) (c : Code) (pre : List α) (W : World), w.heap.size ≤ D → Sp pre → Ix c pre W → W.heap[D]? = some (.deferred (some [])) → c.wpIn F n P Q { a with defers := { target := .collected D, args := #[] } :: a.defers } W) :
    (Code.rangeFunc g ps assign body).wpIn F n P Q a w := by
  refine wpIn_rangeFunc fun fn hfn => ?_
  rw [hro]
  obtain ⟨b, hb⟩ : ∃ b, w.heap.size = b := ⟨_, rfl⟩
  let lp : LoopState → Option Code → Loop := fun st pe => { state := st, pending := pe, fn, tmps := a.tmps, params := ps, assign, body, defers := b }
  let V := (w.alloc (.deferred (some []))).alloc (.loop (lp .ready none))
  have hV : TwoBl b (lp .ready none) V := by
    refine ⟨?_, ?_⟩
    · have h := World.alloc_heap_new (w.alloc (.deferred (some []))) (.loop (lp .ready none))
      rwa [World.size_alloc, hb] at h
    · rw [← hb]
      exact (Below.heap_alloc (w.alloc (.deferred (some []))) _ _ (by simp)).trans (World.alloc_heap_new w _)
  have hIV : I [] V := hI.alloc _ (hI.alloc _ h0)
  have hbel : Below w.heap.size w V := ((Below.refl _ w).alloc (Nat.le_refl _) _).alloc (by simp) _
  have hsz : w.heap.size ≤ V.heap.size := hbel.size
  have wide : ∀ {A : World} {row : Option Nat}, (∀ r, row = some r → V.heap.size ≤ r ∧ ∃ o : Obj, A.heap[r]? = some o ∧ o.isWalk = true) → ∀ r, row = some r → w.heap.size ≤ r ∧ ∃ o : Obj, A.heap[r]? = some o ∧ o.isCells = false := fun h r e => by
    obtain ⟨h1, o, ho, hw⟩ := h r e
    exact ⟨Nat.le_trans hsz h1, o, ho, Obj.not_cells_of_walk hw⟩
  have hent := run_enterLoop_outer (P := P) (w := w) fn a.tmps ps assign body
  rw [hb] at hent
  refine ⟨b + 1, [{ target := .collected b, args := #[] }], V, { target := .fn (.func gf) lb, args := #[.func (.yield (b + 1)) #[] #[]] }, V, gf, #[.func (.yield (b + 1)) #[] #[]] ++ lb, V, hent, ?_, ?_, ?_, fun _ => h1, ?_⟩
  · simp only [resolve, hg]
    simp [go_sem]
  · intro f' hf'
    simp [Target.leads] at hf'
    exact hf' ▸ hFg
  · simp [invoke, go_sem, eg]
  have hcall := hseq (b + 1) (fun pre W => I pre W ∧ TwoBl b (lp .ready none) W) (fun pre W => ∃ c, Ix c pre W ∧ TwoBl b (lp .done (some c)) W) V hbel
    (fun s A B row hs hg' hr => ⟨hI s A B row hs.1 hg' (wide hr), hs.2.grown hg' fun k e => (hr k e).2⟩)
    (fun s A B row hs hg' hr => by
      obtain ⟨c, h1, h2⟩ := hs
      exact ⟨c, hIx c s A B row h1 hg' (wide hr), h2.grown hg' fun k e => (hr k e).2⟩)
    (by
      rintro pre x W ⟨hi, ht⟩ hx hlen
      refine ⟨fn, _, assign, body, run_yield (P := P) (args := enc x) ht.lrec (hps x), roundIn_of_wpIn hfn (hassign _ x W _ ⟨_, run_beginRound ht.lrec rfl, ?_⟩)⟩
      have hle : w.heap.size ≤ b + 1 := by omega
      have hbusy := ht.put { lp .ready none with state := .busy }
      have hkb : Kp W (W.putObj (b + 1) (.loop { lp .ready none with state := .busy })) := hKb _ _ _ _ hle ht.lrec rfl rfl
      refine wpIn_mono (hbody (b + 1) pre x _ (hI.putObj _ hi hle ht.lrec rfl) ((hR pre).putObj _ hx hle ht.lrec rfl) hlen) ?_
      have leave : ∀ (c : Code) (X : World), KeepsFrom w.heap.size (W.putObj (b + 1) (.loop { lp .ready none with state := .busy })) X → Ix c (pre ++ [x]) X →
          (Instr.endRound (b + 1) (some c)).run P X = .ok (.bool false) (X.putObj (b + 1) (.loop (lp .done (some c)))) ∧ ∃ c', Ix c' (pre ++ [x]) (X.putObj (b + 1) (.loop (lp .done (some c)))) ∧ TwoBl b (lp .done (some c')) (X.putObj (b + 1) (.loop (lp .done (some c)))) := fun c X hk hi3 => by
        have ht3 := hbusy.kept (hb ▸ hk)
        exact ⟨run_endRound (P := P) (some c) ht3.lrec, c, (hIx c).putObj _ hi3 hle ht3.lrec rfl, ht3.put _⟩
      rintro e a3 X hp
      cases e with
      | normal =>
        obtain ⟨hk, hkp, hi3⟩ := hp
        have ht3 := hbusy.kept (hb ▸ hk)
        exact ⟨_, _, run_endRound (P := P) none ht3.lrec, .inl ⟨rfl, ⟨hI.putObj _ hi3 hle ht3.lrec rfl, ht3.put _⟩, hKt (hKt hkb hkp) (hKb _ _ _ _ hle ht3.lrec rfl rfl)⟩⟩
      | ret => exact ⟨_, _, (leave _ X hp.1 hp.2).1, .inr ⟨rfl, (leave _ X hp.1 hp.2).2⟩⟩
      | exit id => exact ⟨_, _, (leave _ X hp.1 hp.2).1, .inr ⟨rfl, (leave _ X hp.1 hp.2).2⟩⟩
      | goto t => exact ⟨_, _, (leave _ X hp.1 hp.2).1, .inr ⟨rfl, (leave _ X hp.1 hp.2).2⟩⟩
      | panic ch => exact hp.elim
      | outgrown => exact hp.elim) ⟨hIV, hV⟩
  refine hcall.mono ?_
  have hle : w.heap.size ≤ b + 1 := by omega
  rintro e X ⟨⟨v, rfl⟩, (⟨xs, hS, hi, ht⟩ | ⟨pre, hSp, c, hi, ht⟩)⟩
  · exact ⟨none, _, run_endLoop (P := P) ht.lrec (by intro h; cases h), hdone b xs _ (by omega) hS (hI.putObj _ hi hle ht.lrec rfl) ((World.putObj_heap_other (by omega)).trans ht.dfr)⟩
  · exact ⟨some c, _, run_endLoop (P := P) ht.lrec (by intro h; cases h), hstop b c pre _ (by omega) hSp ((hIx c).putObj _ hi hle ht.lrec rfl) ((World.putObj_heap_other (by omega)).trans ht.dfr)⟩
end
end Go.Proofs.Ytabhdkjepbkooaa
