/- A region that draws its order, with makers of memory and calls among its first operations and a chain at its end. -/
import Derived.Test.YtabhdkjepbkooaaChn
set_option linter.unusedVariables false
set_option linter.unusedSimpArgs false
namespace Go.Proofs.Ytabhdkjepbkooaa
open Go.RowKit Go.Shelf

theorem wpIn_region_chainM {β : Type} {F : Fence} {n : Nat} {P : Program} {id : Nat} {ops : Array Oper} {Q : Exit → Act → World → Prop} {a : Act} {w : World} (hF : F.depth = none) (hm : P.follows .mixedOrders = true)
    (asg wrt : β → List (Nat × Value)) (keys wk : List Nat) (hkeys : ∀ b, (asg b).map (·.1) = keys) (hwk : ∀ b, (wrt b).map (·.1) = wk) (hd : distinctB ops = true) (hdep : depsW ops keys wk = true) (hon : onlyB ops keys = true) (hord : orderedB ops = true) (hsz : keys.all (fun t => decide (t < a.tmps.size)) = true)
    (s t : Nat) (hst : s + t = ops.size) (hch : chainW ops s = true) (hroot : rootB ops (ops.size - 1) = true) (R : Array Bool → Nat → β → World → Prop) (hR : ∀ L k b W q, R L k b W → R L k b (W.drewN q)) (b0 : β) (h0 : R (Array.replicate ops.size false) 0 b0 w)
    (hops : ∀ i o L k b W, i < s → k ≤ t → L.getD i false = false → L.size = ops.size → R L k b W → ops[i]? = some o → (∀ c, o.op ≠ .defer c) ∧ (∀ f, o.about P W (evP (asg b) a) = some f → F.fn f) ∧
      ((∃ W', (execOp (evP (asg b) a) o).run P W = .ok (.value (valP ops (asg b ++ wrt b) i)) W' ∧ R (L.setIfInBounds i true) k b W') ∨
        ∃ f args, (execOp (evP (asg b) a) o).run P W = .ok (.enter f args) W ∧ CallsIn F (n - 1) P f args W fun e w' => e = .returned (valP ops (asg b ++ wrt b) i) ∧ R (L.setIfInBounds i true) k b w'))
    (htail : ∀ L k b W o, k < t → L.size = ops.size → R L k b W → ops[s + k]? = some o → (∀ e ∈ o.after, Region.binds .any e = true → L.getD e.on false = true) → (∀ c, o.op ≠ .defer c) ∧ (∀ f, o.about P W (evP (asg b) a) = some f → F.fn f) ∧ ((∃ b' W', (∀ j, j < s + k → valP ops (asg b' ++ wrt b') j = valP ops (asg b ++ wrt b) j) ∧ R (L.setIfInBounds (s + k) true) (k + 1) b' W' ∧
      ((execOp (evP (asg b) a) o).run P W = .ok .skip W' ∧ valP ops (asg b' ++ wrt b') (s + k) = undef ∨ (execOp (evP (asg b) a) o).run P W = .ok (.value (valP ops (asg b' ++ wrt b') (s + k))) W')) ∨
      ∃ f args, (execOp (evP (asg b) a) o).run P W = .ok (.enter f args) W ∧ CallsIn F (n - 1) P f args W fun e W' => ∃ b', e = .returned (valP ops (asg b' ++ wrt b') (s + k)) ∧ (∀ j, j < s + k → valP ops (asg b' ++ wrt b') j = valP ops (asg b ++ wrt b) j) ∧ R (L.setIfInBounds (s + k) true) (k + 1) b' W'))
    (hend : ∀ b L W, (∀ i, i < ops.size → L.getD i false = true) → R L t b W → Q .normal { tmps := wrote ops (valP ops (asg b ++ wrt b)) (Array.replicate ops.size true) a.tmps ops.size, defers := a.defers } W) : (Code.region id ops true).wpIn F n P Q a w := by
  have hd' := distinct_of hd
  have hstepback : ∀ (L : Array Bool), (∀ (j : Nat) (oj : Oper), ops[j]? = some oj → L.getD j false = true → ∀ e ∈ oj.after, Region.binds .any e = true → L.getD e.on false = true) → ∀ j, s < j → j < ops.size → L.getD j false = true → L.getD (j - 1) false = true := by
    intro L hcl j h1 h2 hL
    have h3 := List.all_eq_true.1 hch j (List.mem_range.2 h2)
    have hoj : ops[j]? = some ops[j] := Array.getElem?_eq_getElem h2
    rw [hoj, Bool.or_eq_true, decide_eq_true_eq] at h3
    rcases h3 with h3 | h3
    · omega
    · obtain ⟨e, he, he2⟩ := Array.any_eq_true'.1 h3
      rw [Bool.and_eq_true, beq_iff_eq] at he2
      have := hcl j _ hoj hL e he he2.2
      rwa [he2.1] at this
  have hdown : ∀ (L : Array Bool), (∀ (j : Nat) (oj : Oper), ops[j]? = some oj → L.getD j false = true → ∀ e ∈ oj.after, Region.binds .any e = true → L.getD e.on false = true) → ∀ d i, s ≤ i → i + d < ops.size → L.getD (i + d) false = true → L.getD i false = true := by
    intro L hcl d
    induction d with
    | zero => intro i _ _ h; exact h
    | succ d ih =>
      intro i h1 h2 h
      refine ih i h1 (by omega) ?_
      have := hstepback L hcl (i + (d + 1)) (by omega) h2 h
      rwa [show i + (d + 1) - 1 = i + d by omega] at this
  have hclose : ∀ (L : Array Bool), (∀ (j : Nat) (oj : Oper), ops[j]? = some oj → L.getD j false = true → ∀ e ∈ oj.after, Region.binds .any e = true → L.getD e.on false = true) → ∀ s, s + 1 = ops.size → L.getD s false = true → ∀ k i, i + k = s → L.getD i false = true := by
    intro L hcl s hs hL k
    induction k using Nat.strongRecOn with
    | _ k ih =>
      intro i hik
      rcases Nat.eq_zero_or_pos k with h0 | h0
      · obtain rfl : i = s := by omega
        exact hL
      · simp only [rootB, List.all_eq_true, List.mem_range] at hroot
        have h1 := hroot i (by omega)
        rw [List.any_eq_true] at h1
        obtain ⟨j, hj, h2⟩ := h1
        rw [List.mem_range] at hj
        rw [Bool.and_eq_true, decide_eq_true_eq] at h2
        have hjl := ih (s - j) (by omega) j (by omega)
        cases ho : ops[j]? with
        | none => rw [ho] at h2; simp at h2
        | some o =>
          rw [ho] at h2
          obtain ⟨e, he, he2⟩ := Array.any_eq_true'.1 h2.2
          rw [Bool.and_eq_true, beq_iff_eq] at he2
          have := hcl j o ho hjl e he he2.2
          rwa [he2.1] at this
  have hnolast : ∀ (L : Array Bool), (∀ (j : Nat) (oj : Oper), ops[j]? = some oj → L.getD j false = true → ∀ e ∈ oj.after, Region.binds .any e = true → L.getD e.on false = true) → ∀ i, i < ops.size → L.getD i false = false → ∀ j, j + 1 = ops.size → L.getD j false = false := by
    intro L hcl i hi hf j hj
    apply Classical.byContradiction
    intro h
    have := hclose L hcl j hj (by simpa using h) (j - i) i (by omega)
    rw [hf] at this
    cases this
  refine wpIn_region_relH hm hd' (fun b => valP ops (asg b ++ wrt b)) (fun b L W => R L (cntW s L t) b W) b0 ?_ ?_ ?_ (acyclic_of hord)
  · have : cntW s (Array.replicate ops.size false) t = 0 := cntW_eq s _ 0 (.inl rfl) t (Nat.zero_le _) fun j _ _ => by
      rw [Array.getD_eq_getD_getElem?, Array.getElem?_replicate]; split <;> rfl
    simp only [this]
    exact hR _ 0 b0 w 1 h0
  · intro b L a' W hW hLs hdf hcl hold hnew i hi o ho K hK
    obtain ⟨h1, o2, ho2, hde⟩ := mem_ready.1 hi
    obtain rfl : o = o2 := Option.some.inj (ho.symm.trans ho2)
    have hnl := unlisted h1
    have his : i < ops.size := (Array.getElem?_eq_some_iff.1 ho).1
    obtain ⟨l, hu, hg, hev⟩ := ops_hold (asg := asg b) (a := a) (a' := a') (L := L) (wrt := wrt b) (by rw [hkeys, hwk]; exact hdep) (by rw [hkeys]; exact hon) (by rw [hkeys]; exact hsz) (hnolast L hcl i his hnl) hold hnew ho hde
    have hex := exec_congrW hu hev
    have hab : ∀ V : World, o.about P V a'.eval = o.about P V (evP (asg b) a) := fun V => about_congrW hu hev
    rcases Nat.lt_or_ge i s with his' | his'
    · have hkt : cntW s L t ≤ t := cntW_le s L t
      obtain ⟨hdef, hf, hrun⟩ := hops i o L _ b W his' hkt hnl hLs hW ho
      have hcw := cntW_other s L his' t
      rcases hrun with ⟨W', hrun, hW'⟩ | ⟨f, args, hrun, hcall⟩
      · refine in_value ho hg hdef (fun f hf' => hf f (by rw [← hab]; exact hf')) (by rw [hex]; exact hrun) ?_
        exact hK b W' (fun _ _ => rfl) (by rw [hcw]; exact hW')
      · refine in_call_any ho hg hdef hF (fun f hf' => hf f (by rw [← hab]; exact hf')) (by rw [hex]; exact hrun) (hcall.mono ?_)
        rintro e w' ⟨rfl, hW'⟩
        exact ⟨_, rfl, hK b _ (fun _ _ => rfl) (by rw [hcw]; exact hW')⟩
    · obtain ⟨k, rfl⟩ : ∃ k, i = s + k := ⟨i - s, by omega⟩
      have hlater : ∀ j, k ≤ j → j < t → L.getD (s + j) false = false := by
        intro j h2 h3
        apply Classical.byContradiction
        intro h
        have := hdown L hcl (j - k) (s + k) (by omega) (by omega) (by rw [show s + k + (j - k) = s + j by omega]; simpa using h)
        rw [hnl] at this
        cases this
      have hprev : k = 0 ∨ L.getD (s + (k - 1)) false = true := by
        rcases Nat.eq_zero_or_pos k with h2 | h2
        · exact .inl h2
        · refine .inr ?_
          have h3 := List.all_eq_true.1 hch (s + k) (List.mem_range.2 his)
          rw [ho, Bool.or_eq_true, decide_eq_true_eq] at h3
          rcases h3 with h3 | h3
          · omega
          · obtain ⟨e, he, he2⟩ := Array.any_eq_true'.1 h3
            rw [Bool.and_eq_true, beq_iff_eq] at he2
            have := hde e he he2.2
            rw [he2.1] at this
            rwa [show s + k - 1 = s + (k - 1) by omega] at this
      have hc1 : cntW s L t = k := cntW_eq s L k hprev t (by omega) hlater
      have hc2 : cntW s (L.setIfInBounds (s + k) true) t = k + 1 := cntW_eq s _ (k + 1) (.inr (getD_set_self L (by omega))) t (by omega) fun j h2 h3 => by
        rw [getD_set_other L (by omega)]; exact hlater j (by omega) h3
      have hW2 : R L k b W := by have := hW; simp only [hc1] at this; exact this
      obtain ⟨hdef, hf, hor⟩ := htail L k b W o (by omega) hLs hW2 ho hde
      have hvv : ∀ b', (∀ j, j < s + k → valP ops (asg b' ++ wrt b') j = valP ops (asg b ++ wrt b) j) → ∀ j, L.getD j false = true → valP ops (asg b' ++ wrt b') j = valP ops (asg b ++ wrt b) j := by
        intro b' hv j hj
        rcases Nat.lt_or_ge j (s + k) with h2 | h2
        · exact hv j h2
        · exfalso
          have hjl : j < L.size := by
            apply Classical.byContradiction
            intro h
            rw [Array.getD_eq_getD_getElem?, Array.getElem?_eq_none (by omega)] at hj
            cases hj
          have := hlater (j - s) (by omega) (by omega)
          rw [show s + (j - s) = j by omega, hj] at this
          cases this
      rcases hor with ⟨b', W', hv, hR', hrun⟩ | ⟨f, args, hrun, hcall⟩
      · have hk := hK b' W' (hvv b' hv) (by rw [hc2]; exact hR')
        rcases hrun with ⟨hrun, hvu⟩ | hrun
        · simp only [hvu] at hk
          exact in_skip ho hg hdef (fun f hf' => hf f (by rw [← hab]; exact hf')) (by rw [hex]; exact hrun) hk
        · exact in_value ho hg hdef (fun f hf' => hf f (by rw [← hab]; exact hf')) (by rw [hex]; exact hrun) hk
      · refine in_call_any ho hg hdef hF (fun f hf' => hf f (by rw [← hab]; exact hf')) (by rw [hex]; exact hrun) (hcall.mono ?_)
        rintro e W' ⟨b', rfl, hv, hR'⟩
        exact ⟨_, rfl, hK b' W' (hvv b' hv) (by rw [hc2]; exact hR')⟩
  · intro b L W hW hL
    have : cntW s L t = t := cntW_eq s L t (by rcases Nat.eq_zero_or_pos t with h | h; exact .inl h; exact .inr (hL _ (by omega))) t (Nat.le_refl _) fun j h1 h2 => absurd h2 (by omega)
    simp only [this] at hW
    exact hend b L W hL hW
end Go.Proofs.Ytabhdkjepbkooaa
