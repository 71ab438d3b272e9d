/- A region that draws its order and whose operations, but for a last store, leave memory alone: one pass over the operations serves every order. -/
import Derived.Test.YtabhdkjepbkooaaReg2
set_option linter.unusedVariables false
set_option linter.unusedSimpArgs false
namespace Go.Proofs.Ytabhdkjepbkooaa
open Go.RowKit Go.Shelf

/-- the operands that an operation reads -/
def usesOp : Op → Option (List Operand)
  | .move x | .assign x => some [x]
  | .load _ x => some [x]
  | .store _ x y => some [x, y]
  | .binOp _ _ x y _ => some [x, y]
  | .unOp _ _ x => some [x]
  | .convert _ _ x => some [x]
  | .indexAddr _ x y | .index _ x y => some [x, y]
  | .extract x _ => some [x]
  | .slice _ x lo hi mx => some (x :: (lo.toList ++ (hi.toList ++ mx.toList)))
  | .fieldAddr _ x _ | .field _ x _ => some [x]
  | .build _ parts => some (parts.toList.map (·.2))
  | .call c => match c.callee with
    | .value f => some (f :: c.args.toList)
    | .builtin _ => some c.args.toList
    | .invoke _ _ => none
  | _ => none
theorem map_option_congr {α β : Type} {f g : α → β} (o : Option α) (h : ∀ x ∈ o.toList, f x = g x) : o.map f = o.map g := by
  cases o with
  | none => rfl
  | some x => simp [h x (by simp)]
theorem map_array_congr {α β : Type} {f g : α → β} (o : Array α) (h : ∀ x ∈ o.toList, f x = g x) : o.map f = o.map g := by
  apply Array.ext'
  simp only [Array.toList_map]
  exact List.map_congr_left h
theorem resolve_congr {ρ ρ' : Operand → Value} (c : Call) (t : TypeId) {l : List Operand} (h : usesOp (.call c) = some l) (ha : ∀ x ∈ l, ρ x = ρ' x) : resolve ρ c t = resolve ρ' c t := by
  unfold resolve
  simp only [usesOp] at h
  cases hc : c.callee with
  | builtin b =>
    rw [hc] at h
    cases h
    simp only [map_array_congr c.args ha]
  | value f =>
    rw [hc] at h
    cases h
    simp only [map_array_congr c.args (fun x hx => ha x (List.mem_cons_of_mem _ hx)), ha f (List.mem_cons_self ..)]
  | invoke r nm => rw [hc] at h; cases h
theorem exec_congr {ρ ρ' : Operand → Value} {o : Oper} {l : List Operand} (h : usesOp o.op = some l) (ha : ∀ x ∈ l, ρ x = ρ' x) : execOp ρ o = execOp ρ' o := by
  unfold execOp
  cases ho : o.op <;> rw [ho] at h <;> simp only [usesOp] at h <;> try cases h
  case call c =>
    simp only [resolve_congr c o.type h ha]
  case slice t x lo hi mx =>
    simp only [ha x (by simp), map_option_congr lo (fun y hy => ha y (by simp at hy ⊢; simp [hy])), map_option_congr hi (fun y hy => ha y (by simp at hy ⊢; simp [hy])), map_option_congr mx (fun y hy => ha y (by simp at hy ⊢; simp [hy]))]
  case build t parts =>
    have e : (parts.map fun (i, x) => (i, ρ x)) = (parts.map fun (i, x) => (i, ρ' x)) := map_array_congr parts (fun p hp => by
      have := ha p.2 (List.mem_map.2 ⟨p, hp, rfl⟩)
      simp [this])
    simp only [e]
  all_goals simp [ha]
theorem about_congr {P : Program} {w : World} {ρ ρ' : Operand → Value} {o : Oper} {l : List Operand} (h : usesOp o.op = some l) (ha : ∀ x ∈ l, ρ x = ρ' x) : o.about P w ρ = o.about P w ρ' := by
  unfold Oper.about
  cases ho : o.op <;> try rfl
  rename_i c
  rw [ho] at h
  simp only [resolve_congr c o.type h ha]

/-- a slot's value: what the region lays there, else what lay there -/
def evP (asg : List (Nat × Value)) (a : Act) : Operand → Value
  | .tmp t => match asg.lookup t with
    | some v => v
    | none => a.eval (.tmp t)
  | x => a.eval x
def valP (ops : Array Oper) (asg : List (Nat × Value)) (i : Nat) : Value :=
  match (ops[i]?).bind (·.dst) with
  | some t => (asg.lookup t).getD undef
  | none => undef
/-- closed checks: every operation's reads are known; whoever reads a slot comes behind whoever lays it; every slot laid is listed -/
def depsB (ops : Array Oper) (asg : List Nat) : Bool := (List.range ops.size).all fun i => match ops[i]? with
  | none => true
  | some o => o.guard.isNone && (match o.dst with | some t => asg.contains t | none => true) && match usesOp o.op with
    | none => false
    | some l => l.all fun x => match x with
      | .tmp t => (asg.contains t == false) || (List.range ops.size).all fun j => match (ops[j]?).bind (·.dst) with
        | some t' => t' != t || o.after.any fun e => e.on == j && Region.binds .any e
        | none => true
      | _ => true
/-- every slot listed is laid by one of the region -/
def onlyB (ops : Array Oper) (asg : List Nat) : Bool := asg.all fun t => (List.range ops.size).any fun j => match (ops[j]?).bind (·.dst) with
  | some t' => t' == t
  | none => false
/-- each but the last has one behind it -/
def rootB (ops : Array Oper) (s : Nat) : Bool := (List.range s).all fun i => (List.range (s + 1)).any fun j => decide (i < j) && match ops[j]? with
  | some o => o.after.any fun e => e.on == i && Region.binds .any e
  | none => false

/-- one operation, run where the others' slots hold what they will hold -/
def PureOk (F : Fence) (n : Nat) (P : Program) (W : World) (ρ : Operand → Value) (o : Oper) (v : Value) : Prop :=
  (∀ c, o.op ≠ .defer c) ∧ ∀ q, (∀ f, o.about P (W.drewN q) ρ = some f → F.fn f) ∧
    ((execOp ρ o).run P (W.drewN q) = .ok (.value v) (W.drewN q) ∨
      ∃ f args, (execOp ρ o).run P (W.drewN q) = .ok (.enter f args) (W.drewN q) ∧ CallsIn F (n - 1) P f args (W.drewN q) fun e w' => e = .returned v ∧ ∃ q', w' = (W.drewN q).drewN q')

theorem lookup_none_of {asg : List (Nat × Value)} {t : Nat} (h : (asg.map (·.1)).contains t = false) : asg.lookup t = none := by
  induction asg with
  | nil => rfl
  | cons p l ih =>
    simp only [List.map_cons, List.contains_cons, Bool.or_eq_false_iff] at h
    rw [List.lookup_cons, h.1]
    exact ih h.2
theorem lookup_some_of {asg : List (Nat × Value)} {t : Nat} (h : (asg.map (·.1)).contains t = true) : ∃ v, asg.lookup t = some v := by
  induction asg with
  | nil => simp at h
  | cons p l ih =>
    rw [List.lookup_cons]
    cases hp : t == p.1 with
    | true => exact ⟨p.2, rfl⟩
    | false =>
      simp only [List.map_cons, List.contains_cons, hp, Bool.false_or] at h
      exact ih h

theorem drewN_add (w : World) (a b : Nat) : (w.drewN a).drewN b = w.drewN (a + b) := by simp [World.drewN, Nat.add_assoc]
/-- every order lays the same -/
theorem wpIn_region_pure {F : Fence} {n : Nat} {P : Program} {id : Nat} {ops : Array Oper} {Q : Exit → Act → World → Prop} {a : Act} {w : World} (hF : F.depth = none) (hm : P.follows .mixedOrders = true)
    (asg : List (Nat × Value)) (hd : distinctB ops = true) (hdep : depsB ops (asg.map (·.1)) = true) (hon : onlyB ops (asg.map (·.1)) = true) (hord : orderedB ops = true) (hsz : (asg.map (·.1)).all (fun t => decide (t < a.tmps.size)) = true)
    (s : Nat) (W2 : World) (hs : s + 1 = ops.size) (hroot : rootB ops s = true)
    (hops : ∀ i o, i < s → ops[i]? = some o → PureOk F n P w (evP asg a) o (valP ops asg i))
    (hlast : ∀ o, ops[s]? = some o → (∀ c, o.op ≠ .defer c) ∧ ∀ q, (∀ f, o.about P (w.drewN q) (evP asg a) = some f → F.fn f) ∧ ((execOp (evP asg a) o).run P (w.drewN q) = .ok .skip (W2.drewN q) ∧ valP ops asg s = undef ∨ (execOp (evP asg a) o).run P (w.drewN q) = .ok (.value (valP ops asg s)) (W2.drewN q)))
    (hend : ∀ q, Q .normal { tmps := wrote ops (valP ops asg) (Array.replicate ops.size true) a.tmps ops.size, defers := a.defers } (W2.drewN q)) : (Code.region id ops true).wpIn F n P Q a w := by
  have hd' := distinct_of hd
  have hclose : ∀ (L : Array Bool), L.size = ops.size → (∀ (j : Nat) (oj : Oper), ops[j]? = some oj → L.getD j false = true → ∀ e ∈ oj.after, Region.binds .any e = true → L.getD e.on false = true) → L.getD s false = true → ∀ k i, i + k = s → L.getD i false = true := by
    intro L hsz hcl hL k
    induction k using Nat.strongRecOn with
    | _ k ih =>
      intro i hik
      rcases Nat.eq_zero_or_pos k with h0 | h0
      · obtain rfl : i = s := by omega
        exact hL
      · simp only [rootB, List.all_eq_true, List.mem_range] at hroot
        have h1 := hroot i (by omega)
        rw [List.any_eq_true] at h1
        obtain ⟨j, hj, h2⟩ := h1
        rw [List.mem_range] at hj
        rw [Bool.and_eq_true, decide_eq_true_eq] at h2
        have hjl := ih (s - j) (by omega) j (by omega)
        cases ho : ops[j]? with
        | none => rw [ho] at h2; simp at h2
        | some o =>
          rw [ho] at h2
          obtain ⟨e, he, he2⟩ := Array.any_eq_true'.1 h2.2
          rw [Bool.and_eq_true, beq_iff_eq] at he2
          have := hcl j o ho hjl e he he2.2
          rwa [he2.1] at this
  refine wpIn_region_inv hm hd' (valP ops asg) (fun L => if L.getD s false then W2 else w) ⟨1, ?_⟩ ?_ ?_ (acyclic_of hord)
  · have : (Array.replicate ops.size false).getD s false = false := by
      rw [Array.getD_eq_getD_getElem?, Array.getElem?_replicate]; split <;> rfl
    simp only [this, Bool.false_eq_true, if_false]
    rfl
  · intro L a' hLs hdf hcl hold hnew i hi o ho q0 K hK
    obtain ⟨h1, o2, ho2, hde⟩ := mem_ready.1 hi
    obtain rfl : o = o2 := Option.some.inj (ho.symm.trans ho2)
    have hnl := unlisted h1
    have his : i ≤ s := by have := (Array.getElem?_eq_some_iff.1 ho).1; omega
    have hLf : L.getD s false = false := by
      apply Classical.byContradiction
      intro h
      have := hclose L hLs hcl (by simpa using h) (s - i) i (by omega)
      rw [hnl] at this
      cases this
    simp only [hLf, Bool.false_eq_true, if_false]
    -- the operands hold what they will hold
    have hdi : ∃ l, usesOp o.op = some l ∧ o.guard = none ∧ ∀ x ∈ l, a'.eval x = evP asg a x := by
      simp only [depsB, List.all_eq_true, List.mem_range] at hdep
      have h2 := hdep i (by omega)
      rw [ho] at h2
      simp only [Bool.and_eq_true] at h2
      cases hu : usesOp o.op with
      | none => rw [hu] at h2; simp at h2
      | some l =>
        rw [hu] at h2
        refine ⟨l, rfl, by simpa using h2.1.1, fun x hx => ?_⟩
        have h3 := List.all_eq_true.1 h2.2 x hx
        cases x with
        | tmp t =>
          simp only [Bool.or_eq_true, beq_iff_eq] at h3
          rcases h3 with h3 | h3
          · have hno := lookup_none_of h3
            have e1 : evP asg a (.tmp t) = a.tmps.getD t undef := by simp [evP, hno, Act.eval]
            have e2 : a'.eval (.tmp t) = a'.tmps.getD t undef := by simp [Act.eval]
            rw [e1, e2]
            refine hold t fun j oj hj e => ?_
            have h4 := hdep j (by have := (Array.getElem?_eq_some_iff.1 hj).1; omega)
            rw [hj] at h4
            simp only [Bool.and_eq_true, e] at h4
            rw [h3] at h4
            exact absurd h4.1.2 (by simp)
          · cases hl : (asg.map (·.1)).contains t with
            | false =>
              have hno := lookup_none_of hl
              have e1 : evP asg a (.tmp t) = a.tmps.getD t undef := by simp [evP, hno, Act.eval]
              have e2 : a'.eval (.tmp t) = a'.tmps.getD t undef := by simp [Act.eval]
              rw [e1, e2]
              refine hold t fun j oj hj e => ?_
              have h4 := hdep j (by have := (Array.getElem?_eq_some_iff.1 hj).1; omega)
              rw [hj] at h4
              simp only [Bool.and_eq_true, e] at h4
              rw [hl] at h4
              exact absurd h4.1.2 (by simp)
            | true =>
              obtain ⟨v, hv⟩ := lookup_some_of hl
              have e1 : evP asg a (.tmp t) = v := by simp [evP, hv]
              have e2 : a'.eval (.tmp t) = a'.tmps.getD t undef := by simp [Act.eval]
              rw [e1, e2]
              -- who lays it
              have h5 := List.all_eq_true.1 hon t (by simpa using hl)
              rw [List.any_eq_true] at h5
              obtain ⟨j, hj, h6⟩ := h5
              rw [List.mem_range] at hj
              have hoj : ops[j]? = some ops[j] := Array.getElem?_eq_getElem hj
              rw [hoj] at h6
              simp only [Option.bind_some] at h6
              cases hdj : ops[j].dst with
              | none => rw [hdj] at h6; cases h6
              | some t' =>
                rw [hdj] at h6
                obtain rfl : t' = t := by simpa using h6
                have h7 := List.all_eq_true.1 h3 j (List.mem_range.2 hj)
                rw [hoj] at h7
                simp only [Option.bind_some, hdj, bne_self_eq_false, Bool.false_or] at h7
                obtain ⟨e, he, he2⟩ := Array.any_eq_true'.1 h7
                rw [Bool.and_eq_true, beq_iff_eq] at he2
                have hLj := hde e he he2.2
                rw [he2.1] at hLj
                have htl : t' < a.tmps.size := by
                  have := List.all_eq_true.1 hsz t' (by simpa using hl)
                  simpa using this
                have h8 := hnew j _ t' hoj hdj hLj htl
                rw [h8]
                simp [valP, hoj, hdj, hv]
        | _ => rfl
    obtain ⟨l, hu, hg, hev⟩ := hdi
    have hex := exec_congr hu hev
    have hab : ∀ W : World, o.about P W a'.eval = o.about P W (evP asg a) := fun W => about_congr hu hev
    rcases Nat.lt_or_ge i s with his' | his'
    · obtain ⟨hdef, hok⟩ := hops i o his' ho
      obtain ⟨hf, hrun⟩ := hok q0
      have hwor : (if (L.setIfInBounds i true).getD s false = true then W2 else w) = w := by
        rw [getD_set_other L (by omega : i ≠ s), hLf]; rfl
      rcases hrun with hrun | ⟨f, args, hrun, hcall⟩
      · refine in_value ho hg hdef (fun f hf' => hf f (by rw [← hab]; exact hf')) (by rw [hex]; exact hrun) ?_
        have := hK q0
        rw [hwor] at this
        exact this
      · refine in_call_any ho hg hdef hF (fun f hf' => hf f (by rw [← hab]; exact hf')) (by rw [hex]; exact hrun) (hcall.mono ?_)
        rintro e w' ⟨rfl, q', rfl⟩
        refine ⟨_, rfl, ?_⟩
        have := hK (q0 + q')
        rw [hwor] at this
        rw [drewN_add]
        exact this
    · obtain rfl : i = s := by omega
      obtain ⟨hdef, hok⟩ := hlast o ho
      obtain ⟨hf, hrun⟩ := hok q0
      have hwor : (if (L.setIfInBounds i true).getD i false = true then W2 else w) = W2 := by
        rw [getD_set_self L (by omega)]; rfl
      have hk := hK q0
      rw [hwor] at hk
      rcases hrun with ⟨hrun, hv⟩ | hrun
      · rw [hv] at hk
        exact in_skip ho hg hdef (fun f hf' => hf f (by rw [← hab]; exact hf')) (by rw [hex]; exact hrun) hk
      · exact in_value ho hg hdef (fun f hf' => hf f (by rw [← hab]; exact hf')) (by rw [hex]; exact hrun) hk
  · intro L q hL
    have : L.getD s false = true := hL s (by omega)
    rw [if_pos this]
    exact hend q
/-- .. where nothing is stored -/
theorem wpIn_region_pure0 {F : Fence} {n : Nat} {P : Program} {id : Nat} {ops : Array Oper} {Q : Exit → Act → World → Prop} {a : Act} {w : World} (hF : F.depth = none) (hm : P.follows .mixedOrders = true)
    (asg : List (Nat × Value)) (hd : distinctB ops = true) (hdep : depsB ops (asg.map (·.1)) = true) (hon : onlyB ops (asg.map (·.1)) = true) (hord : orderedB ops = true) (hsz : (asg.map (·.1)).all (fun t => decide (t < a.tmps.size)) = true)
    (hops : ∀ i o, i < ops.size → ops[i]? = some o → PureOk F n P w (evP asg a) o (valP ops asg i))
    (hend : ∀ q, Q .normal { tmps := wrote ops (valP ops asg) (Array.replicate ops.size true) a.tmps ops.size, defers := a.defers } (w.drewN q)) : (Code.region id ops true).wpIn F n P Q a w := by
  have hd' := distinct_of hd
  refine wpIn_region_inv hm hd' (valP ops asg) (fun _ => w) ⟨1, rfl⟩ ?_ ?_ (acyclic_of hord)
  · intro L a' hLs hdf hcl hold hnew i hi o ho q0 K hK
    obtain ⟨h1, o2, ho2, hde⟩ := mem_ready.1 hi
    obtain rfl : o = o2 := Option.some.inj (ho.symm.trans ho2)
    have hnl := unlisted h1
    have his : i < ops.size := (Array.getElem?_eq_some_iff.1 ho).1
    -- the operands hold what they will hold
    have hdi : ∃ l, usesOp o.op = some l ∧ o.guard = none ∧ ∀ x ∈ l, a'.eval x = evP asg a x := by
      simp only [depsB, List.all_eq_true, List.mem_range] at hdep
      have h2 := hdep i (by omega)
      rw [ho] at h2
      simp only [Bool.and_eq_true] at h2
      cases hu : usesOp o.op with
      | none => rw [hu] at h2; simp at h2
      | some l =>
        rw [hu] at h2
        refine ⟨l, rfl, by simpa using h2.1.1, fun x hx => ?_⟩
        have h3 := List.all_eq_true.1 h2.2 x hx
        cases x with
        | tmp t =>
          simp only [Bool.or_eq_true, beq_iff_eq] at h3
          rcases h3 with h3 | h3
          · have hno := lookup_none_of h3
            have e1 : evP asg a (.tmp t) = a.tmps.getD t undef := by simp [evP, hno, Act.eval]
            have e2 : a'.eval (.tmp t) = a'.tmps.getD t undef := by simp [Act.eval]
            rw [e1, e2]
            refine hold t fun j oj hj e => ?_
            have h4 := hdep j (by have := (Array.getElem?_eq_some_iff.1 hj).1; omega)
            rw [hj] at h4
            simp only [Bool.and_eq_true, e] at h4
            rw [h3] at h4
            exact absurd h4.1.2 (by simp)
          · cases hl : (asg.map (·.1)).contains t with
            | false =>
              have hno := lookup_none_of hl
              have e1 : evP asg a (.tmp t) = a.tmps.getD t undef := by simp [evP, hno, Act.eval]
              have e2 : a'.eval (.tmp t) = a'.tmps.getD t undef := by simp [Act.eval]
              rw [e1, e2]
              refine hold t fun j oj hj e => ?_
              have h4 := hdep j (by have := (Array.getElem?_eq_some_iff.1 hj).1; omega)
              rw [hj] at h4
              simp only [Bool.and_eq_true, e] at h4
              rw [hl] at h4
              exact absurd h4.1.2 (by simp)
            | true =>
              obtain ⟨v, hv⟩ := lookup_some_of hl
              have e1 : evP asg a (.tmp t) = v := by simp [evP, hv]
              have e2 : a'.eval (.tmp t) = a'.tmps.getD t undef := by simp [Act.eval]
              rw [e1, e2]
              -- who lays it
              have h5 := List.all_eq_true.1 hon t (by simpa using hl)
              rw [List.any_eq_true] at h5
              obtain ⟨j, hj, h6⟩ := h5
              rw [List.mem_range] at hj
              have hoj : ops[j]? = some ops[j] := Array.getElem?_eq_getElem hj
              rw [hoj] at h6
              simp only [Option.bind_some] at h6
              cases hdj : ops[j].dst with
              | none => rw [hdj] at h6; cases h6
              | some t' =>
                rw [hdj] at h6
                obtain rfl : t' = t := by simpa using h6
                have h7 := List.all_eq_true.1 h3 j (List.mem_range.2 hj)
                rw [hoj] at h7
                simp only [Option.bind_some, hdj, bne_self_eq_false, Bool.false_or] at h7
                obtain ⟨e, he, he2⟩ := Array.any_eq_true'.1 h7
                rw [Bool.and_eq_true, beq_iff_eq] at he2
                have hLj := hde e he he2.2
                rw [he2.1] at hLj
                have htl : t' < a.tmps.size := by
                  have := List.all_eq_true.1 hsz t' (by simpa using hl)
                  simpa using this
                have h8 := hnew j _ t' hoj hdj hLj htl
                rw [h8]
                simp [valP, hoj, hdj, hv]
        | _ => rfl
    obtain ⟨l, hu, hg, hev⟩ := hdi
    have hex := exec_congr hu hev
    have hab : ∀ W : World, o.about P W a'.eval = o.about P W (evP asg a) := fun W => about_congr hu hev
    obtain ⟨hdef, hok⟩ := hops i o his ho
    obtain ⟨hf, hrun⟩ := hok q0
    rcases hrun with hrun | ⟨f, args, hrun, hcall⟩
    · exact in_value ho hg hdef (fun f hf' => hf f (by rw [← hab]; exact hf')) (by rw [hex]; exact hrun) (hK q0)
    · refine in_call_any ho hg hdef hF (fun f hf' => hf f (by rw [← hab]; exact hf')) (by rw [hex]; exact hrun) (hcall.mono ?_)
      rintro e w' ⟨rfl, q', rfl⟩
      refine ⟨_, rfl, ?_⟩
      rw [drewN_add]
      exact hK (q0 + q')
  · intro L q hL
    exact hend q
end Go.Proofs.Ytabhdkjepbkooaa
