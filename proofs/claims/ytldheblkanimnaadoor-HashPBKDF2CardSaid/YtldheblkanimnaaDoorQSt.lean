/- hashes: PBKDF2, whole. -/
import Derived.Test.YtldheblkanimnaaDoorQSr
import Derived.Test.YtldheblkanimnaaDoorQHpn
import Derived.Test.YtldheblkanimnaaDoorPileB9
set_option linter.unusedVariables false
set_option linter.unusedSimpArgs false
namespace Go.Proofs.YtldheblkanimnaaDoor
open Go.RowKit Go.Shelf

theorem wpIn_region_chainC {β : Type} {F : Fence} {n : Nat} {P : Program} {id : Nat} {ops : Array Oper} {Q : Exit → Act → World → Prop} {a : Act} {w : World} (hF : F.depth = none) (hm : P.follows .mixedOrders = true)
    (asg wrt : β → List (Nat × Value)) (keys wk : List Nat) (hkeys : ∀ b, (asg b).map (·.1) = keys) (hwk : ∀ b, (wrt b).map (·.1) = wk) (hd : distinctB ops = true) (hdep : depsW ops keys wk = true) (hon : onlyB ops keys = true) (hord : orderedB ops = true) (hsz : keys.all (fun t => decide (t < a.tmps.size)) = true)
    (s t : Nat) (hst : s + t = ops.size) (hch : chainW ops s = true) (hroot : rootB ops (ops.size - 1) = true) (R : Nat → β → World → Prop) (hR : ∀ k b W q, R k b W → R k b (W.drewN q)) (b0 : β) (h0 : R 0 b0 w)
    (hops : ∀ i o k b W, i < s → k ≤ t → R k b W → ops[i]? = some o → PureAt F n P W (evP (asg b) a) o (valP ops (asg b ++ wrt b) i))
    (htail : ∀ k b W o, k < t → R k b W → ops[s + k]? = some o → (∀ c, o.op ≠ .defer c) ∧ (∀ f, o.about P W (evP (asg b) a) = some f → F.fn f) ∧ ((∃ b' W', (∀ j, j < s + k → valP ops (asg b' ++ wrt b') j = valP ops (asg b ++ wrt b) j) ∧ R (k + 1) b' W' ∧
      ((execOp (evP (asg b) a) o).run P W = .ok .skip W' ∧ valP ops (asg b' ++ wrt b') (s + k) = undef ∨ (execOp (evP (asg b) a) o).run P W = .ok (.value (valP ops (asg b' ++ wrt b') (s + k))) W')) ∨
      ∃ f args, (execOp (evP (asg b) a) o).run P W = .ok (.enter f args) W ∧ CallsIn F (n - 1) P f args W fun e W' => ∃ b', e = .returned (valP ops (asg b' ++ wrt b') (s + k)) ∧ (∀ j, j < s + k → valP ops (asg b' ++ wrt b') j = valP ops (asg b ++ wrt b) j) ∧ R (k + 1) b' W'))
    (hend : ∀ b W, R t b W → Q .normal { tmps := wrote ops (valP ops (asg b ++ wrt b)) (Array.replicate ops.size true) a.tmps ops.size, defers := a.defers } W) : (Code.region id ops true).wpIn F n P Q a w := by
  have hd' := distinct_of hd
  have hstepback : ∀ (L : Array Bool), (∀ (j : Nat) (oj : Oper), ops[j]? = some oj → L.getD j false = true → ∀ e ∈ oj.after, Region.binds .any e = true → L.getD e.on false = true) → ∀ j, s < j → j < ops.size → L.getD j false = true → L.getD (j - 1) false = true := by
    intro L hcl j h1 h2 hL
    have h3 := List.all_eq_true.1 hch j (List.mem_range.2 h2)
    have hoj : ops[j]? = some ops[j] := Array.getElem?_eq_getElem h2
    rw [hoj, Bool.or_eq_true, decide_eq_true_eq] at h3
    rcases h3 with h3 | h3
    · omega
    · obtain ⟨e, he, he2⟩ := Array.any_eq_true'.1 h3
      rw [Bool.and_eq_true, beq_iff_eq] at he2
      have := hcl j _ hoj hL e he he2.2
      rwa [he2.1] at this
  have hdown : ∀ (L : Array Bool), (∀ (j : Nat) (oj : Oper), ops[j]? = some oj → L.getD j false = true → ∀ e ∈ oj.after, Region.binds .any e = true → L.getD e.on false = true) → ∀ d i, s ≤ i → i + d < ops.size → L.getD (i + d) false = true → L.getD i false = true := by
    intro L hcl d
    induction d with
    | zero => intro i _ _ h; exact h
    | succ d ih =>
      intro i h1 h2 h
      refine ih i h1 (by omega) ?_
      have := hstepback L hcl (i + (d + 1)) (by omega) h2 h
      rwa [show i + (d + 1) - 1 = i + d by omega] at this
  have hclose : ∀ (L : Array Bool), (∀ (j : Nat) (oj : Oper), ops[j]? = some oj → L.getD j false = true → ∀ e ∈ oj.after, Region.binds .any e = true → L.getD e.on false = true) → ∀ s, s + 1 = ops.size → L.getD s false = true → ∀ k i, i + k = s → L.getD i false = true := by
    intro L hcl s hs hL k
    induction k using Nat.strongRecOn with
    | _ k ih =>
      intro i hik
      rcases Nat.eq_zero_or_pos k with h0 | h0
      · obtain rfl : i = s := by omega
        exact hL
      · simp only [rootB, List.all_eq_true, List.mem_range] at hroot
        have h1 := hroot i (by omega)
        rw [List.any_eq_true] at h1
        obtain ⟨j, hj, h2⟩ := h1
        rw [List.mem_range] at hj
        rw [Bool.and_eq_true, decide_eq_true_eq] at h2
        have hjl := ih (s - j) (by omega) j (by omega)
        cases ho : ops[j]? with
        | none => rw [ho] at h2; simp at h2
        | some o =>
          rw [ho] at h2
          obtain ⟨e, he, he2⟩ := Array.any_eq_true'.1 h2.2
          rw [Bool.and_eq_true, beq_iff_eq] at he2
          have := hcl j o ho hjl e he he2.2
          rwa [he2.1] at this
  have hnolast : ∀ (L : Array Bool), (∀ (j : Nat) (oj : Oper), ops[j]? = some oj → L.getD j false = true → ∀ e ∈ oj.after, Region.binds .any e = true → L.getD e.on false = true) → ∀ i, i < ops.size → L.getD i false = false → ∀ j, j + 1 = ops.size → L.getD j false = false := by
    intro L hcl i hi hf j hj
    apply Classical.byContradiction
    intro h
    have := hclose L hcl j hj (by simpa using h) (j - i) i (by omega)
    rw [hf] at this
    cases this
  refine wpIn_region_relH hm hd' (fun b => valP ops (asg b ++ wrt b)) (fun b L W => R (cntW s L t) b W) b0 ?_ ?_ ?_ (acyclic_of hord)
  · have : cntW s (Array.replicate ops.size false) t = 0 := cntW_eq s _ 0 (.inl rfl) t (Nat.zero_le _) fun j _ _ => by
      rw [Array.getD_eq_getD_getElem?, Array.getElem?_replicate]; split <;> rfl
    simp only [this]
    exact hR 0 b0 w 1 h0
  · intro b L a' W hW hLs hdf hcl hold hnew i hi o ho K hK
    obtain ⟨h1, o2, ho2, hde⟩ := mem_ready.1 hi
    obtain rfl : o = o2 := Option.some.inj (ho.symm.trans ho2)
    have hnl := unlisted h1
    have his : i < ops.size := (Array.getElem?_eq_some_iff.1 ho).1
    obtain ⟨l, hu, hg, hev⟩ := ops_hold (asg := asg b) (a := a) (a' := a') (L := L) (wrt := wrt b) (by rw [hkeys, hwk]; exact hdep) (by rw [hkeys]; exact hon) (by rw [hkeys]; exact hsz) (hnolast L hcl i his hnl) hold hnew ho hde
    have hex := exec_congrW hu hev
    have hab : ∀ V : World, o.about P V a'.eval = o.about P V (evP (asg b) a) := fun V => about_congrW hu hev
    rcases Nat.lt_or_ge i s with his' | his'
    · have hkt : cntW s L t ≤ t := cntW_le s L t
      obtain ⟨hdef, hf, hrun⟩ := hops i o _ b W his' hkt hW ho
      have hcw := cntW_other s L his' t
      rcases hrun with hrun | ⟨f, args, hrun, hcall⟩
      · refine in_value ho hg hdef (fun f hf' => hf f (by rw [← hab]; exact hf')) (by rw [hex]; exact hrun) ?_
        exact hK b W (fun _ _ => rfl) (by rw [hcw]; exact hW)
      · refine in_call_any ho hg hdef hF (fun f hf' => hf f (by rw [← hab]; exact hf')) (by rw [hex]; exact hrun) (hcall.mono ?_)
        rintro e w' ⟨rfl, q', rfl⟩
        exact ⟨_, rfl, hK b _ (fun _ _ => rfl) (by rw [hcw]; exact hR _ _ _ _ hW)⟩
    · obtain ⟨k, rfl⟩ : ∃ k, i = s + k := ⟨i - s, by omega⟩
      have hlater : ∀ j, k ≤ j → j < t → L.getD (s + j) false = false := by
        intro j h2 h3
        apply Classical.byContradiction
        intro h
        have := hdown L hcl (j - k) (s + k) (by omega) (by omega) (by rw [show s + k + (j - k) = s + j by omega]; simpa using h)
        rw [hnl] at this
        cases this
      have hprev : k = 0 ∨ L.getD (s + (k - 1)) false = true := by
        rcases Nat.eq_zero_or_pos k with h2 | h2
        · exact .inl h2
        · refine .inr ?_
          have h3 := List.all_eq_true.1 hch (s + k) (List.mem_range.2 his)
          rw [ho, Bool.or_eq_true, decide_eq_true_eq] at h3
          rcases h3 with h3 | h3
          · omega
          · obtain ⟨e, he, he2⟩ := Array.any_eq_true'.1 h3
            rw [Bool.and_eq_true, beq_iff_eq] at he2
            have := hde e he he2.2
            rw [he2.1] at this
            rwa [show s + k - 1 = s + (k - 1) by omega] at this
      have hc1 : cntW s L t = k := cntW_eq s L k hprev t (by omega) hlater
      have hc2 : cntW s (L.setIfInBounds (s + k) true) t = k + 1 := cntW_eq s _ (k + 1) (.inr (getD_set_self L (by omega))) t (by omega) fun j h2 h3 => by
        rw [getD_set_other L (by omega)]; exact hlater j (by omega) h3
      have hW2 : R k b W := by have := hW; simp only [hc1] at this; exact this
      obtain ⟨hdef, hf, hor⟩ := htail k b W o (by omega) hW2 ho
      have hvv : ∀ b', (∀ j, j < s + k → valP ops (asg b' ++ wrt b') j = valP ops (asg b ++ wrt b) j) → ∀ j, L.getD j false = true → valP ops (asg b' ++ wrt b') j = valP ops (asg b ++ wrt b) j := by
        intro b' hv j hj
        rcases Nat.lt_or_ge j (s + k) with h2 | h2
        · exact hv j h2
        · exfalso
          have hjl : j < L.size := by
            apply Classical.byContradiction
            intro h
            rw [Array.getD_eq_getD_getElem?, Array.getElem?_eq_none (by omega)] at hj
            cases hj
          have := hlater (j - s) (by omega) (by omega)
          rw [show s + (j - s) = j by omega, hj] at this
          cases this
      rcases hor with ⟨b', W', hv, hR', hrun⟩ | ⟨f, args, hrun, hcall⟩
      · have hk := hK b' W' (hvv b' hv) (by rw [hc2]; exact hR')
        rcases hrun with ⟨hrun, hvu⟩ | hrun
        · simp only [hvu] at hk
          exact in_skip ho hg hdef (fun f hf' => hf f (by rw [← hab]; exact hf')) (by rw [hex]; exact hrun) hk
        · exact in_value ho hg hdef (fun f hf' => hf f (by rw [← hab]; exact hf')) (by rw [hex]; exact hrun) hk
      · refine in_call_any ho hg hdef hF (fun f hf' => hf f (by rw [← hab]; exact hf')) (by rw [hex]; exact hrun) (hcall.mono ?_)
        rintro e W' ⟨b', rfl, hv, hR'⟩
        exact ⟨_, rfl, hK b' W' (hvv b' hv) (by rw [hc2]; exact hR')⟩
  · intro b L W hW hL
    have : cntW s L t = t := cntW_eq s L t (by rcases Nat.eq_zero_or_pos t with h | h; exact .inl h; exact .inr (hL _ (by omega))) t (Nat.le_refl _) fun j h1 h2 => absurd h2 (by omega)
    simp only [this] at hW
    exact hend b W hW
set_option maxRecDepth 100000 in
set_option maxHeartbeats 4000000 in
theorem pbkPart_any (w : World) (k : Int) (hk : KindOk k) (hGR : RootsG w) (B0 gi go : Nat) (key : List (BitVec 8)) (hv : KeyedV w B0 (.agg #[.pointer (some ⟨gi, 0, none⟩), .pointer (some ⟨go, 0, none⟩)]) k key) (R : Nat) (hR1 : 1 ≤ R) (hR2 : R ≤ 65536) (x1 x2 x3 : Nat) (B : Nat) (A : Option Addr) (n c : Nat) (salt : List (BitVec 8)) (hs : SlV w B A n c (salt.map W8)) (hz : A = none → c = 0) (hB : B ≤ w.heap.size) (hn : n + 2048 ≤ 17592186044416)
    (h1 : RowV 71 w x1 [.pointer (some ⟨gi, 0, none⟩), .pointer (some ⟨go, 0, none⟩)]) (h2 : BxE x2 (.int .i64 (R : Int)) w) (h3 : BxE x3 (.slice A n c) w) (i : Nat) (hi : i < 100000) :
    Calls Tryd.prog 50 #[.int .i64 (i : Int), .pointer (some ⟨x1, 0, none⟩), .pointer (some ⟨x2, 0, none⟩), .pointer (some ⟨x3, 0, none⟩)] w fun e w' => ∃ b cp, e = .returned (.slice (some ⟨b, 0, none⟩) (szN k) cp) ∧ SlV w' w'.heap.size (some ⟨b, 0, none⟩) (szN k) cp ((tL k key (salt ++ counterL (i + 1)) (R - 1)).map W8) ∧ Below w.heap.size w w' := by
  have hmx : Tryd.prog.follows .mixedOrders = true := by kernel_rfl
  obtain ⟨i1, hi1⟩ : ∃ m, i + 1 = m := ⟨_, rfl⟩
  rw [hi1]
  have ki : (i : Int) + 1 = (i1 : Int) := by omega
  have ki2 : (i1 : Int) ≤ 100000 := by omega
  have wi : IntKind.i64.wrap (i1 : Int) = (i1 : Int) := by rw [IntKind.wrap_i64]; omega
  have hls : n = salt.length := by simpa using hs.len
  obtain ⟨b0, hb0⟩ : ∃ b, w.heap.size = b := ⟨_, rfl⟩
  have hd0 : ∀ W, Below w.heap.size w W → W.cell? ⟨x1, 0, none⟩ = some (.pointer (some ⟨gi, 0, none⟩)) ∧ W.cell? ⟨x1, 1, none⟩ = some (.pointer (some ⟨go, 0, none⟩)) ∧ W.cell? ⟨x2, 0, none⟩ = some (.int .i64 (R : Int)) ∧ W.cell? ⟨x3, 0, none⟩ = some (.slice A n c) := fun W hW => ⟨(h1.later hW).at_ rfl, (h1.later hW).at_ rfl, (h2.later hW).1, (h3.later hW).1⟩
  have hrep : ∀ (W : World) (g2 : Nat), Below w.heap.size w W → RowV 5 W b0 ((counterL i1).map W8) → RowV 22 W g2 [.slice A n c, .slice (some ⟨b0, 0, none⟩) 4 4] → Calls Tryd.prog 51 #[.agg #[.pointer (some ⟨gi, 0, none⟩), .pointer (some ⟨go, 0, none⟩)], .int .i64 (R : Int), .slice (some ⟨g2, 0, none⟩) 2 2] W fun e w' => ∃ b cp, e = .returned (.slice (some ⟨b, 0, none⟩) (szN k) cp) ∧ SlV w' w'.heap.size (some ⟨b, 0, none⟩) (szN k) cp ((tL k key (salt ++ counterL i1) (R - 1)).map W8) ∧ Below w.heap.size w w' := fun W g2 hW hr hr2 => by
    have hwz := hW.size
    have h0 := hs.below (hW.mono hB)
    have lift : SlV W W.heap.size A n c (salt.map W8) := ⟨h0.1, h0.2.1, h0.2.2.1, fun hne => by obtain ⟨b', o', e, hb', hc'⟩ := h0.2.2.2 hne; exact ⟨b', o', e, by omega, hc'⟩⟩
    have h4 := hr.sl (by simp [counterL_length])
    rw [List.length_map, counterL_length] at h4
    have h := repeat_any W k hk (hGR.later hW) B0 _ key (hv.later hW) R hR1 hR2 W.heap.size (some ⟨g2, 0, none⟩) 2 2 [salt, counterL i1] (PartsV.two hr2 lift hz h4 (by intro h; cases h) hr2.lt) (Nat.le_refl _) (by decide) (by simp [counterL_length]; omega)
    rw [show [salt, counterL i1].flatten = salt ++ counterL i1 by simp] at h
    refine h.mono ?_
    rintro e w' ⟨b, cp, rfl, h1, h2⟩
    exact ⟨b, cp, rfl, h1, hW.trans (h2.mono hwz)⟩
  obtain ⟨D, hD⟩ : ∃ D : List (BitVec 8), tL k key (salt ++ counterL i1) (R - 1) = D := ⟨_, rfl⟩
  rw [hD]
  simp only [hD] at hrep
  have HD0 := Lib.hid hd0
  have HREP := Lib.hid hrep
  have HB0 := Lib.hid hb0
  clear hd0 hrep hs h1 h2 h3 hGR hz hv hi1 hD hls hb0
  go_enter Tryd.func50, Tryd.ntmps50
  go_wp2_with fail
  refine (wpIn_wide (n := 9)).1 (wpIn_region_chainC (β := Nat × Value) rfl hmx (fun b => [(6, .agg #[.pointer (some ⟨gi, 0, none⟩), .pointer (some ⟨go, 0, none⟩)]), (7, .int .i64 (R : Int)), (8, .slice A n c), (9, .int .i64 (i : Int)), (10, .int .i64 (i1 : Int)), (11, .slice (some ⟨b0, 0, none⟩) 4 4), (12, .slice (some ⟨b.1, 0, none⟩) 2 2), (13, b.2), (5, b.2)]) (fun _ => []) [6, 7, 8, 9, 10, 11, 12, 13, 5] [] (fun _ => rfl) (fun _ => rfl) (by kernel_rfl) (by kernel_rfl) (by kernel_rfl) (by kernel_rfl) (by first | rfl | simp) 5 4 rfl (by kernel_rfl) (by kernel_rfl)
    (fun k' b W => Below w.heap.size w W ∧ (k' = 0 → W.heap.size = b0) ∧ (k' = 1 ∨ k' = 2 → RowV 5 W b0 ((counterL i1).map W8)) ∧ (k' = 2 → RowV 22 W b.1 [.slice A n c, .slice (some ⟨b0, 0, none⟩) 4 4]) ∧ (3 ≤ k' → ∃ bb cp, b.2 = .slice (some ⟨bb, 0, none⟩) (szN k) cp ∧ SlV W W.heap.size (some ⟨bb, 0, none⟩) (szN k) cp (D.map W8))) ?hR (0, undef) ?h0 ?hops ?htail ?hend)
  case hR =>
    rintro k' b W q ⟨r1, r2, r3, r4, r5⟩
    exact ⟨below_drewN r1 q, r2, r3, r4, r5⟩
  case h0 => exact ⟨Below.refl _ _, fun _ => HB0.out, fun h => by omega, fun h => by omega, fun h => by omega⟩
  case hops =>
    intro i' o k' b W hi' hk' hR ho
    obtain ⟨d0, d1, d2, d3⟩ := HD0.out W hR.1
    clear hR hk'
    have hi2 : i' = 0 ∨ i' = 1 ∨ i' = 2 ∨ i' = 3 ∨ i' = 4 := by omega
    rcases hi2 with rfl | rfl | rfl | rfl | rfl
    all_goals
      have ho' := ho
      simp only [List.getElem?_toArray, List.getElem?_cons_zero, List.getElem?_cons_succ, Option.some.injEq] at ho'
      subst ho'
      refine ⟨(by intro c h; cases h), fun _ _ => trivial, .inl ?_⟩
    all_goals first | (simp [execOp, evP, valP, Act.eval, List.lookup_cons]; done) | (simp [execOp, evP, valP, Act.eval, List.lookup_cons, go_sem, d0, d1, d2, d3, ki, wi]; done) | skip
  case htail =>
    intro k' b W o hk' hR ho
    obtain ⟨r1, r2, r3, r4, r5⟩ := hR
    have hk2 : k' = 0 ∨ k' = 1 ∨ k' = 2 ∨ k' = 3 := by omega
    have ho' := ho
    rcases hk2 with rfl | rfl | rfl | rfl
    · simp only [Nat.add_zero, List.getElem?_toArray, List.getElem?_cons_zero, List.getElem?_cons_succ, Option.some.injEq] at ho'
      subst ho'
      refine ⟨(by intro c h; cases h), fun _ _ => trivial, .inr ⟨47, #[.int .i64 (i1 : Int)], ?_, (callsIn_wide.2 (counter_any W i1 (by omega))).mono ?_⟩⟩
      · simp [execOp, evP, valP, Act.eval, List.lookup_cons, go_sem]
      · rintro e W' ⟨rfl, hr, hb⟩
        rw [r2 rfl] at hr
        refine ⟨b, ?_, fun _ _ => rfl, r1.trans (hb.mono r1.size), fun h => by omega, fun _ => hr, fun h => by omega, fun h => by omega⟩
        rw [r2 rfl]
        rfl
    · simp only [Nat.reduceAdd, List.getElem?_toArray, List.getElem?_cons_zero, List.getElem?_cons_succ, Option.some.injEq] at ho'
      subst ho'
      have hal : Below w.heap.size w (W.alloc (.cells #[.slice A n c, .slice (some ⟨b0, 0, none⟩) 4 4] 22)) := r1.alloc r1.size _
      refine ⟨(by intro c h; cases h), fun _ _ => trivial, .inl ⟨(W.heap.size, b.2), W.alloc (.cells #[.slice A n c, .slice (some ⟨b0, 0, none⟩) 4 4] 22), ?_, ⟨hal, fun h => by omega, fun _ => (r3 (.inl rfl)).later ((Below.refl _ _).alloc (Nat.le_refl _) _), fun _ => RowV.new W 22 _, fun h => by omega⟩, .inr ?_⟩⟩
      · intro j hj
        have hj2 : j = 0 ∨ j = 1 ∨ j = 2 ∨ j = 3 ∨ j = 4 ∨ j = 5 := by omega
        rcases hj2 with rfl | rfl | rfl | rfl | rfl | rfl <;> rfl
      · simp [execOp, evP, valP, Act.eval, List.lookup_cons, go_sem]
    · simp only [Nat.reduceAdd, List.getElem?_toArray, List.getElem?_cons_zero, List.getElem?_cons_succ, Option.some.injEq] at ho'
      subst ho'
      refine ⟨(by intro c h; cases h), fun _ _ => trivial, .inr ⟨51, #[.agg #[.pointer (some ⟨gi, 0, none⟩), .pointer (some ⟨go, 0, none⟩)], .int .i64 (R : Int), .slice (some ⟨b.1, 0, none⟩) 2 2], ?_, (callsIn_wide.2 (HREP.out W b.1 r1 (r3 (.inr rfl)) (r4 rfl))).mono ?_⟩⟩
      · simp [execOp, evP, valP, Act.eval, List.lookup_cons, go_sem]
      · rintro e W' ⟨bb, cp, rfl, hsl, hb⟩
        refine ⟨(b.1, .slice (some ⟨bb, 0, none⟩) (szN k) cp), rfl, ?_, hb, fun h => by omega, fun h => by omega, fun h => by omega, fun _ => ⟨bb, cp, rfl, hsl⟩⟩
        intro j hj
        have hj2 : j = 0 ∨ j = 1 ∨ j = 2 ∨ j = 3 ∨ j = 4 ∨ j = 5 ∨ j = 6 := by omega
        rcases hj2 with rfl | rfl | rfl | rfl | rfl | rfl | rfl <;> rfl
    · simp only [Nat.reduceAdd, List.getElem?_toArray, List.getElem?_cons_zero, List.getElem?_cons_succ, Option.some.injEq] at ho'
      subst ho'
      refine ⟨(by intro c h; cases h), fun _ _ => trivial, .inl ⟨b, W, fun _ _ => rfl, ⟨r1, fun h => by omega, fun h => by omega, fun h => by omega, fun _ => r5 (by omega)⟩, .inr ?_⟩⟩
      simp [execOp, evP, valP, Act.eval, List.lookup_cons]
  case hend =>
    rintro ⟨g2, v⟩ W ⟨r1, r2, r3, r4, r5⟩
    obtain ⟨bb, cp, hv, hsl⟩ := r5 (by omega)
    simp only at hv
    subst hv
    simp [wrote, valP, Act.put, List.lookup_cons]
    have HSL := Lib.hid hsl
    have HBW := Lib.hid r1
    clear r1 r2 r3 r4 r5 hsl
    go_wp2
    go_ret
    exact ⟨bb, cp, rfl, HSL.out, HBW.out⟩
end Go.Proofs.YtldheblkanimnaaDoor
