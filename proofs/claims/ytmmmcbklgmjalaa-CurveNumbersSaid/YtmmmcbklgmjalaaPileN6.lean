/- Parts of one proof, joined: Pure, Chn, Tree, CuA, CuB, TreeN, CuC, CuD, Bv, Ha. -/
import Derived.Test.YtmmmcbklgmjalaaPileN2
import Derived.Test.YtmmmcbklgmjalaaPileN5
import Derived.Laws.AppendOwnNone
import Derived.Laws.BitsAll

/- A region that draws its order and whose operations, but for a last store, leave memory alone: one pass over the operations serves every order. -/
set_option linter.unusedVariables false
set_option linter.unusedSimpArgs false
namespace Go.Proofs.Ytmmmcbklgmjalaa
open Go.RowKit Go.Shelf

/-- the operands that an operation reads -/
def usesOp : Op → Option (List Operand)
  | .move x | .assign x => some [x]
  | .load _ x => some [x]
  | .store _ x y => some [x, y]
  | .binOp _ _ x y _ => some [x, y]
  | .unOp _ _ x => some [x]
  | .convert _ _ x => some [x]
  | .indexAddr _ x y | .index _ x y => some [x, y]
  | .extract x _ => some [x]
  | .slice _ x lo hi mx => some (x :: (lo.toList ++ (hi.toList ++ mx.toList)))
  | .fieldAddr _ x _ | .field _ x _ => some [x]
  | .nilCheck x => some [x]
  | .alloc _ => some []
  | .build _ parts => some (parts.toList.map (·.2))
  | .call c => match c.callee with
    | .value f => some (f :: c.args.toList)
    | .builtin _ => some c.args.toList
    | .invoke _ _ => none
  | _ => none
theorem map_option_congr {α β : Type} {f g : α → β} (o : Option α) (h : ∀ x ∈ o.toList, f x = g x) : o.map f = o.map g := by
  cases o with
  | none => rfl
  | some x => simp [h x (by simp)]
theorem map_array_congr {α β : Type} {f g : α → β} (o : Array α) (h : ∀ x ∈ o.toList, f x = g x) : o.map f = o.map g := by
  apply Array.ext'
  simp only [Array.toList_map]
  exact List.map_congr_left h
theorem resolve_congr {ρ ρ' : Operand → Value} (c : Call) (t : TypeId) {l : List Operand} (h : usesOp (.call c) = some l) (ha : ∀ x ∈ l, ρ x = ρ' x) : resolve ρ c t = resolve ρ' c t := by
  unfold resolve
  simp only [usesOp] at h
  cases hc : c.callee with
  | builtin b =>
    rw [hc] at h
    cases h
    simp only [map_array_congr c.args ha]
  | value f =>
    rw [hc] at h
    cases h
    simp only [map_array_congr c.args (fun x hx => ha x (List.mem_cons_of_mem _ hx)), ha f (List.mem_cons_self ..)]
  | invoke r nm => rw [hc] at h; cases h
theorem exec_congr {ρ ρ' : Operand → Value} {o : Oper} {l : List Operand} (h : usesOp o.op = some l) (ha : ∀ x ∈ l, ρ x = ρ' x) : execOp ρ o = execOp ρ' o := by
  unfold execOp
  cases ho : o.op <;> rw [ho] at h <;> simp only [usesOp] at h <;> try cases h
  case call c =>
    simp only [resolve_congr c o.type h ha]
  case slice t x lo hi mx =>
    simp only [ha x (by simp), map_option_congr lo (fun y hy => ha y (by simp at hy ⊢; simp [hy])), map_option_congr hi (fun y hy => ha y (by simp at hy ⊢; simp [hy])), map_option_congr mx (fun y hy => ha y (by simp at hy ⊢; simp [hy]))]
  case build t parts =>
    have e : (parts.map fun (i, x) => (i, ρ x)) = (parts.map fun (i, x) => (i, ρ' x)) := map_array_congr parts (fun p hp => by
      have := ha p.2 (List.mem_map.2 ⟨p, hp, rfl⟩)
      simp [this])
    simp only [e]
  all_goals simp [ha]
theorem about_congr {P : Program} {w : World} {ρ ρ' : Operand → Value} {o : Oper} {l : List Operand} (h : usesOp o.op = some l) (ha : ∀ x ∈ l, ρ x = ρ' x) : o.about P w ρ = o.about P w ρ' := by
  unfold Oper.about
  cases ho : o.op <;> try rfl
  rename_i c
  rw [ho] at h
  simp only [resolve_congr c o.type h ha]

/-- a slot's value: what the region lays there, else what lay there -/
def evP (asg : List (Nat × Value)) (a : Act) : Operand → Value
  | .tmp t => match asg.lookup t with
    | some v => v
    | none => a.eval (.tmp t)
  | x => a.eval x
def valP (ops : Array Oper) (asg : List (Nat × Value)) (i : Nat) : Value :=
  match (ops[i]?).bind (·.dst) with
  | some t => (asg.lookup t).getD undef
  | none => undef
/-- closed checks: every operation's reads are known; whoever reads a slot comes behind whoever lays it; every slot laid is listed -/
def depsB (ops : Array Oper) (asg : List Nat) : Bool := (List.range ops.size).all fun i => match ops[i]? with
  | none => true
  | some o => o.guard.isNone && (match o.dst with | some t => asg.contains t | none => true) && match usesOp o.op with
    | none => false
    | some l => l.all fun x => match x with
      | .tmp t => (asg.contains t == false) || (List.range ops.size).all fun j => match (ops[j]?).bind (·.dst) with
        | some t' => t' != t || o.after.any fun e => e.on == j && Region.binds .any e
        | none => true
      | _ => true
/-- every slot listed is laid by one of the region -/
def onlyB (ops : Array Oper) (asg : List Nat) : Bool := asg.all fun t => (List.range ops.size).any fun j => match (ops[j]?).bind (·.dst) with
  | some t' => t' == t
  | none => false
/-- each but the last has one behind it -/
def rootB (ops : Array Oper) (s : Nat) : Bool := (List.range s).all fun i => (List.range (s + 1)).any fun j => decide (i < j) && match ops[j]? with
  | some o => o.after.any fun e => e.on == i && Region.binds .any e
  | none => false

/-- one operation, run where the others' slots hold what they will hold -/
def PureOk (F : Fence) (n : Nat) (P : Program) (W : World) (ρ : Operand → Value) (o : Oper) (v : Value) : Prop :=
  (∀ c, o.op ≠ .defer c) ∧ ∀ q, (∀ f, o.about P (W.drewN q) ρ = some f → F.fn f) ∧
    ((execOp ρ o).run P (W.drewN q) = .ok (.value v) (W.drewN q) ∨
      ∃ f args, (execOp ρ o).run P (W.drewN q) = .ok (.enter f args) (W.drewN q) ∧ CallsIn F (n - 1) P f args (W.drewN q) fun e w' => e = .returned v ∧ ∃ q', w' = (W.drewN q).drewN q')

theorem lookup_none_of {asg : List (Nat × Value)} {t : Nat} (h : (asg.map (·.1)).contains t = false) : asg.lookup t = none := by
  induction asg with
  | nil => rfl
  | cons p l ih =>
    simp only [List.map_cons, List.contains_cons, Bool.or_eq_false_iff] at h
    rw [List.lookup_cons, h.1]
    exact ih h.2
theorem lookup_some_of {asg : List (Nat × Value)} {t : Nat} (h : (asg.map (·.1)).contains t = true) : ∃ v, asg.lookup t = some v := by
  induction asg with
  | nil => simp at h
  | cons p l ih =>
    rw [List.lookup_cons]
    cases hp : t == p.1 with
    | true => exact ⟨p.2, rfl⟩
    | false =>
      simp only [List.map_cons, List.contains_cons, hp, Bool.false_or] at h
      exact ih h

theorem drewN_add (w : World) (a b : Nat) : (w.drewN a).drewN b = w.drewN (a + b) := by simp [World.drewN, Nat.add_assoc]
/-- every order lays the same -/
theorem wpIn_region_pure {F : Fence} {n : Nat} {P : Program} {id : Nat} {ops : Array Oper} {Q : Exit → Act → World → Prop} {a : Act} {w : World} (hF : F.depth = none) (hm : P.follows .mixedOrders = true)
    (asg : List (Nat × Value)) (hd : distinctB ops = true) (hdep : depsB ops (asg.map (·.1)) = true) (hon : onlyB ops (asg.map (·.1)) = true) (hord : orderedB ops = true) (hsz : (asg.map (·.1)).all (fun t => decide (t < a.tmps.size)) = true)
    (s : Nat) (W2 : World) (hs : s + 1 = ops.size) (hroot : rootB ops s = true)
    (hops : ∀ i o, i < s → ops[i]? = some o → PureOk F n P w (evP asg a) o (valP ops asg i))
    (hlast : ∀ o, ops[s]? = some o → (∀ c, o.op ≠ .defer c) ∧ ∀ q, (∀ f, o.about P (w.drewN q) (evP asg a) = some f → F.fn f) ∧ ((execOp (evP asg a) o).run P (w.drewN q) = .ok .skip (W2.drewN q) ∧ valP ops asg s = undef ∨ (execOp (evP asg a) o).run P (w.drewN q) = .ok (.value (valP ops asg s)) (W2.drewN q)))
    (hend : ∀ q, Q .normal { tmps := wrote ops (valP ops asg) (Array.replicate ops.size true) a.tmps ops.size, defers := a.defers } (W2.drewN q)) : (Code.region id ops true).wpIn F n P Q a w := by
  have hd' := distinct_of hd
  have hclose : ∀ (L : Array Bool), L.size = ops.size → (∀ (j : Nat) (oj : Oper), ops[j]? = some oj → L.getD j false = true → ∀ e ∈ oj.after, Region.binds .any e = true → L.getD e.on false = true) → L.getD s false = true → ∀ k i, i + k = s → L.getD i false = true := by
    intro L hsz hcl hL k
    induction k using Nat.strongRecOn with
    | _ k ih =>
      intro i hik
      rcases Nat.eq_zero_or_pos k with h0 | h0
      · obtain rfl : i = s := by omega
        exact hL
      · simp only [rootB, List.all_eq_true, List.mem_range] at hroot
        have h1 := hroot i (by omega)
        rw [List.any_eq_true] at h1
        obtain ⟨j, hj, h2⟩ := h1
        rw [List.mem_range] at hj
        rw [Bool.and_eq_true, decide_eq_true_eq] at h2
        have hjl := ih (s - j) (by omega) j (by omega)
        cases ho : ops[j]? with
        | none => rw [ho] at h2; simp at h2
        | some o =>
          rw [ho] at h2
          obtain ⟨e, he, he2⟩ := Array.any_eq_true'.1 h2.2
          rw [Bool.and_eq_true, beq_iff_eq] at he2
          have := hcl j o ho hjl e he he2.2
          rwa [he2.1] at this
  refine wpIn_region_inv hm hd' (valP ops asg) (fun L => if L.getD s false then W2 else w) ⟨1, ?_⟩ ?_ ?_ (acyclic_of hord)
  · have : (Array.replicate ops.size false).getD s false = false := by
      rw [Array.getD_eq_getD_getElem?, Array.getElem?_replicate]; split <;> rfl
    simp only [this, Bool.false_eq_true, if_false]
    rfl
  · intro L a' hLs hdf hcl hold hnew i hi o ho q0 K hK
    obtain ⟨h1, o2, ho2, hde⟩ := mem_ready.1 hi
    obtain rfl : o = o2 := Option.some.inj (ho.symm.trans ho2)
    have hnl := unlisted h1
    have his : i ≤ s := by have := (Array.getElem?_eq_some_iff.1 ho).1; omega
    have hLf : L.getD s false = false := by
      apply Classical.byContradiction
      intro h
      have := hclose L hLs hcl (by simpa using h) (s - i) i (by omega)
      rw [hnl] at this
      cases this
    simp only [hLf, Bool.false_eq_true, if_false]
    -- the operands hold what they will hold
    have hdi : ∃ l, usesOp o.op = some l ∧ o.guard = none ∧ ∀ x ∈ l, a'.eval x = evP asg a x := by
      simp only [depsB, List.all_eq_true, List.mem_range] at hdep
      have h2 := hdep i (by omega)
      rw [ho] at h2
      simp only [Bool.and_eq_true] at h2
      cases hu : usesOp o.op with
      | none => rw [hu] at h2; simp at h2
      | some l =>
        rw [hu] at h2
        refine ⟨l, rfl, by simpa using h2.1.1, fun x hx => ?_⟩
        have h3 := List.all_eq_true.1 h2.2 x hx
        cases x with
        | tmp t =>
          simp only [Bool.or_eq_true, beq_iff_eq] at h3
          rcases h3 with h3 | h3
          · have hno := lookup_none_of h3
            have e1 : evP asg a (.tmp t) = a.tmps.getD t undef := by simp [evP, hno, Act.eval]
            have e2 : a'.eval (.tmp t) = a'.tmps.getD t undef := by simp [Act.eval]
            rw [e1, e2]
            refine hold t fun j oj hj e => ?_
            have h4 := hdep j (by have := (Array.getElem?_eq_some_iff.1 hj).1; omega)
            rw [hj] at h4
            simp only [Bool.and_eq_true, e] at h4
            rw [h3] at h4
            exact absurd h4.1.2 (by simp)
          · cases hl : (asg.map (·.1)).contains t with
            | false =>
              have hno := lookup_none_of hl
              have e1 : evP asg a (.tmp t) = a.tmps.getD t undef := by simp [evP, hno, Act.eval]
              have e2 : a'.eval (.tmp t) = a'.tmps.getD t undef := by simp [Act.eval]
              rw [e1, e2]
              refine hold t fun j oj hj e => ?_
              have h4 := hdep j (by have := (Array.getElem?_eq_some_iff.1 hj).1; omega)
              rw [hj] at h4
              simp only [Bool.and_eq_true, e] at h4
              rw [hl] at h4
              exact absurd h4.1.2 (by simp)
            | true =>
              obtain ⟨v, hv⟩ := lookup_some_of hl
              have e1 : evP asg a (.tmp t) = v := by simp [evP, hv]
              have e2 : a'.eval (.tmp t) = a'.tmps.getD t undef := by simp [Act.eval]
              rw [e1, e2]
              -- who lays it
              have h5 := List.all_eq_true.1 hon t (by simpa using hl)
              rw [List.any_eq_true] at h5
              obtain ⟨j, hj, h6⟩ := h5
              rw [List.mem_range] at hj
              have hoj : ops[j]? = some ops[j] := Array.getElem?_eq_getElem hj
              rw [hoj] at h6
              simp only [Option.bind_some] at h6
              cases hdj : ops[j].dst with
              | none => rw [hdj] at h6; cases h6
              | some t' =>
                rw [hdj] at h6
                obtain rfl : t' = t := by simpa using h6
                have h7 := List.all_eq_true.1 h3 j (List.mem_range.2 hj)
                rw [hoj] at h7
                simp only [Option.bind_some, hdj, bne_self_eq_false, Bool.false_or] at h7
                obtain ⟨e, he, he2⟩ := Array.any_eq_true'.1 h7
                rw [Bool.and_eq_true, beq_iff_eq] at he2
                have hLj := hde e he he2.2
                rw [he2.1] at hLj
                have htl : t' < a.tmps.size := by
                  have := List.all_eq_true.1 hsz t' (by simpa using hl)
                  simpa using this
                have h8 := hnew j _ t' hoj hdj hLj htl
                rw [h8]
                simp [valP, hoj, hdj, hv]
        | _ => rfl
    obtain ⟨l, hu, hg, hev⟩ := hdi
    have hex := exec_congr hu hev
    have hab : ∀ W : World, o.about P W a'.eval = o.about P W (evP asg a) := fun W => about_congr hu hev
    rcases Nat.lt_or_ge i s with his' | his'
    · obtain ⟨hdef, hok⟩ := hops i o his' ho
      obtain ⟨hf, hrun⟩ := hok q0
      have hwor : (if (L.setIfInBounds i true).getD s false = true then W2 else w) = w := by
        rw [getD_set_other L (by omega : i ≠ s), hLf]; rfl
      rcases hrun with hrun | ⟨f, args, hrun, hcall⟩
      · refine in_value ho hg hdef (fun f hf' => hf f (by rw [← hab]; exact hf')) (by rw [hex]; exact hrun) ?_
        have := hK q0
        rw [hwor] at this
        exact this
      · refine in_call_any ho hg hdef hF (fun f hf' => hf f (by rw [← hab]; exact hf')) (by rw [hex]; exact hrun) (hcall.mono ?_)
        rintro e w' ⟨rfl, q', rfl⟩
        refine ⟨_, rfl, ?_⟩
        have := hK (q0 + q')
        rw [hwor] at this
        rw [drewN_add]
        exact this
    · obtain rfl : i = s := by omega
      obtain ⟨hdef, hok⟩ := hlast o ho
      obtain ⟨hf, hrun⟩ := hok q0
      have hwor : (if (L.setIfInBounds i true).getD i false = true then W2 else w) = W2 := by
        rw [getD_set_self L (by omega)]; rfl
      have hk := hK q0
      rw [hwor] at hk
      rcases hrun with ⟨hrun, hv⟩ | hrun
      · rw [hv] at hk
        exact in_skip ho hg hdef (fun f hf' => hf f (by rw [← hab]; exact hf')) (by rw [hex]; exact hrun) hk
      · exact in_value ho hg hdef (fun f hf' => hf f (by rw [← hab]; exact hf')) (by rw [hex]; exact hrun) hk
  · intro L q hL
    have : L.getD s false = true := hL s (by omega)
    rw [if_pos this]
    exact hend q
/-- .. where nothing is stored -/
theorem wpIn_region_pure0 {F : Fence} {n : Nat} {P : Program} {id : Nat} {ops : Array Oper} {Q : Exit → Act → World → Prop} {a : Act} {w : World} (hF : F.depth = none) (hm : P.follows .mixedOrders = true)
    (asg : List (Nat × Value)) (hd : distinctB ops = true) (hdep : depsB ops (asg.map (·.1)) = true) (hon : onlyB ops (asg.map (·.1)) = true) (hord : orderedB ops = true) (hsz : (asg.map (·.1)).all (fun t => decide (t < a.tmps.size)) = true)
    (hops : ∀ i o, i < ops.size → ops[i]? = some o → PureOk F n P w (evP asg a) o (valP ops asg i))
    (hend : ∀ q, Q .normal { tmps := wrote ops (valP ops asg) (Array.replicate ops.size true) a.tmps ops.size, defers := a.defers } (w.drewN q)) : (Code.region id ops true).wpIn F n P Q a w := by
  have hd' := distinct_of hd
  refine wpIn_region_inv hm hd' (valP ops asg) (fun _ => w) ⟨1, rfl⟩ ?_ ?_ (acyclic_of hord)
  · intro L a' hLs hdf hcl hold hnew i hi o ho q0 K hK
    obtain ⟨h1, o2, ho2, hde⟩ := mem_ready.1 hi
    obtain rfl : o = o2 := Option.some.inj (ho.symm.trans ho2)
    have hnl := unlisted h1
    have his : i < ops.size := (Array.getElem?_eq_some_iff.1 ho).1
    -- the operands hold what they will hold
    have hdi : ∃ l, usesOp o.op = some l ∧ o.guard = none ∧ ∀ x ∈ l, a'.eval x = evP asg a x := by
      simp only [depsB, List.all_eq_true, List.mem_range] at hdep
      have h2 := hdep i (by omega)
      rw [ho] at h2
      simp only [Bool.and_eq_true] at h2
      cases hu : usesOp o.op with
      | none => rw [hu] at h2; simp at h2
      | some l =>
        rw [hu] at h2
        refine ⟨l, rfl, by simpa using h2.1.1, fun x hx => ?_⟩
        have h3 := List.all_eq_true.1 h2.2 x hx
        cases x with
        | tmp t =>
          simp only [Bool.or_eq_true, beq_iff_eq] at h3
          rcases h3 with h3 | h3
          · have hno := lookup_none_of h3
            have e1 : evP asg a (.tmp t) = a.tmps.getD t undef := by simp [evP, hno, Act.eval]
            have e2 : a'.eval (.tmp t) = a'.tmps.getD t undef := by simp [Act.eval]
            rw [e1, e2]
            refine hold t fun j oj hj e => ?_
            have h4 := hdep j (by have := (Array.getElem?_eq_some_iff.1 hj).1; omega)
            rw [hj] at h4
            simp only [Bool.and_eq_true, e] at h4
            rw [h3] at h4
            exact absurd h4.1.2 (by simp)
          · cases hl : (asg.map (·.1)).contains t with
            | false =>
              have hno := lookup_none_of hl
              have e1 : evP asg a (.tmp t) = a.tmps.getD t undef := by simp [evP, hno, Act.eval]
              have e2 : a'.eval (.tmp t) = a'.tmps.getD t undef := by simp [Act.eval]
              rw [e1, e2]
              refine hold t fun j oj hj e => ?_
              have h4 := hdep j (by have := (Array.getElem?_eq_some_iff.1 hj).1; omega)
              rw [hj] at h4
              simp only [Bool.and_eq_true, e] at h4
              rw [hl] at h4
              exact absurd h4.1.2 (by simp)
            | true =>
              obtain ⟨v, hv⟩ := lookup_some_of hl
              have e1 : evP asg a (.tmp t) = v := by simp [evP, hv]
              have e2 : a'.eval (.tmp t) = a'.tmps.getD t undef := by simp [Act.eval]
              rw [e1, e2]
              -- who lays it
              have h5 := List.all_eq_true.1 hon t (by simpa using hl)
              rw [List.any_eq_true] at h5
              obtain ⟨j, hj, h6⟩ := h5
              rw [List.mem_range] at hj
              have hoj : ops[j]? = some ops[j] := Array.getElem?_eq_getElem hj
              rw [hoj] at h6
              simp only [Option.bind_some] at h6
              cases hdj : ops[j].dst with
              | none => rw [hdj] at h6; cases h6
              | some t' =>
                rw [hdj] at h6
                obtain rfl : t' = t := by simpa using h6
                have h7 := List.all_eq_true.1 h3 j (List.mem_range.2 hj)
                rw [hoj] at h7
                simp only [Option.bind_some, hdj, bne_self_eq_false, Bool.false_or] at h7
                obtain ⟨e, he, he2⟩ := Array.any_eq_true'.1 h7
                rw [Bool.and_eq_true, beq_iff_eq] at he2
                have hLj := hde e he he2.2
                rw [he2.1] at hLj
                have htl : t' < a.tmps.size := by
                  have := List.all_eq_true.1 hsz t' (by simpa using hl)
                  simpa using this
                have h8 := hnew j _ t' hoj hdj hLj htl
                rw [h8]
                simp [valP, hoj, hdj, hv]
        | _ => rfl
    obtain ⟨l, hu, hg, hev⟩ := hdi
    have hex := exec_congr hu hev
    have hab : ∀ W : World, o.about P W a'.eval = o.about P W (evP asg a) := fun W => about_congr hu hev
    obtain ⟨hdef, hok⟩ := hops i o his ho
    obtain ⟨hf, hrun⟩ := hok q0
    rcases hrun with hrun | ⟨f, args, hrun, hcall⟩
    · exact in_value ho hg hdef (fun f hf' => hf f (by rw [← hab]; exact hf')) (by rw [hex]; exact hrun) (hK q0)
    · refine in_call_any ho hg hdef hF (fun f hf' => hf f (by rw [← hab]; exact hf')) (by rw [hex]; exact hrun) (hcall.mono ?_)
      rintro e w' ⟨rfl, q', rfl⟩
      refine ⟨_, rfl, ?_⟩
      rw [drewN_add]
      exact hK (q0 + q')
  · intro L q hL
    exact hend q
end Go.Proofs.Ytmmmcbklgmjalaa

/- A region that draws its order and whose last operations, one behind the other, make or turn memory. -/
set_option linter.unusedVariables false
set_option linter.unusedSimpArgs false
namespace Go.Proofs.Ytmmmcbklgmjalaa
open Go.RowKit Go.Shelf

theorem wrote_congrH (ops : Array Oper) (v1 v2 : Nat → Value) (L : Array Bool) (t0 : Array Value) (h : ∀ j, L.getD j false = true → v1 j = v2 j) : ∀ k, wrote ops v1 L t0 k = wrote ops v2 L t0 k := by
  intro k
  induction k with
  | zero => rfl
  | succ k ih =>
    simp only [wrote]
    split
    · next hk => rw [ih, h k hk]
    · exact ih

theorem wrote_oldL (ops : Array Oper) (vals : Nat → Value) (L : Array Bool) (t0 : Array Value) (t : Tmp) (h : ∀ (i : Nat) (oi : Oper), ops[i]? = some oi → L.getD i false = true → oi.dst ≠ some t) : ∀ k, (wrote ops vals L t0 k).getD t undef = t0.getD t undef
  | 0 => rfl
  | k + 1 => by
    simp only [wrote]
    split
    · next hk =>
      rw [put_getD_ne, wrote_oldL ops vals L t0 t h k]
      intro e
      obtain ⟨o, ho, e'⟩ := Option.bind_eq_some_iff.1 e
      exact h k o ho hk e'
    · exact wrote_oldL ops vals L t0 t h k
/-- THE REGION: each operation, when its turn comes, yields a value; values and world meet a relation to what has been listed. -/
theorem wpIn_region_relH {β : Type} {F : Fence} {n : Nat} {P : Program} {id : Nat} {ops : Array Oper} {Q : Exit → Act → World → Prop} {a : Act} {w : World} (hm : P.follows .mixedOrders = true) (hd : Distinct ops)
    (vals : β → Nat → Value) (Wo : β → Array Bool → World → Prop) (b0 : β) (hw0 : Wo b0 (Array.replicate ops.size false) w.drew)
    (hstep : ∀ (b : β) (L : Array Bool) (a' : Act) (w' : World), Wo b L w' → L.size = ops.size → a'.defers = a.defers → (∀ (j : Nat) (oj : Oper), ops[j]? = some oj → L.getD j false = true → ∀ e ∈ oj.after, Region.binds .any e = true → L.getD e.on false = true) →
      (∀ t, (∀ (i : Nat) (oi : Oper), ops[i]? = some oi → L.getD i false = true → oi.dst ≠ some t) → a'.tmps.getD t undef = a.tmps.getD t undef) →
      (∀ (j : Nat) (oj : Oper) t, ops[j]? = some oj → oj.dst = some t → L.getD j false = true → t < a.tmps.size → a'.tmps.getD t undef = vals b j) →
      ∀ i ∈ Region.ready .any ops L, ∀ oi, ops[i]? = some oi → ∀ (K : Act → World → Prop), (∀ b' w'', (∀ j, L.getD j false = true → vals b' j = vals b j) → Wo b' (L.setIfInBounds i true) w'' → K (a'.put oi.dst (vals b' i)) w'') → wpOpIn F n P ops Q i K a' w')
    (hend : ∀ (b : β) (L : Array Bool) (w' : World), Wo b L w' → (∀ i, i < ops.size → L.getD i false = true) → Q .normal { tmps := wrote ops (vals b) (Array.replicate ops.size true) a.tmps ops.size, defers := a.defers } w')
    (hacyc : ∀ L : Array Bool, L.size = ops.size → Region.ready .any ops L = [] → ∀ i, i < ops.size → L.getD i false = true) : (Code.region id ops true).wpIn F n P Q a w := by
  refine wpIn_region_any hm ?_
  refine wpAnyIn_inv (fun L a' w' => (L.size = ops.size ∧ ∀ (j : Nat) (oj : Oper), ops[j]? = some oj → L.getD j false = true → ∀ e ∈ oj.after, Region.binds .any e = true → L.getD e.on false = true) ∧ ∃ b, a' = { tmps := wrote ops (vals b) L a.tmps ops.size, defers := a.defers } ∧ Wo b L w') ?_ ?_ (fun L a w h => h.1.1) _ _ _ _ ⟨⟨by simp, ?_⟩, b0, ?_, hw0⟩ ?_
  · rintro L a' w' ⟨⟨hs, hcl⟩, b, rfl, hW⟩ i hi
    obtain ⟨h1, o, ho, hdep⟩ := mem_ready.1 hi
    have hi' : i < L.size := by rw [hs]; exact (Array.getElem?_eq_some_iff.1 ho).1
    have hf : L.getD i false = false := by
      rw [Array.getD_eq_getD_getElem?, Array.getElem?_eq_getElem hi'] at h1 ⊢
      simpa using h1
    refine hstep b L { tmps := wrote ops (vals b) L a.tmps ops.size, defers := a.defers } _ hW hs rfl hcl (fun t ht => wrote_oldL ops (vals b) L a.tmps t ht _) (fun j oj t hj hjt hL ht => wrote_new ops (vals b) L a.tmps hd hj hjt hL ht _ (Array.getElem?_eq_some_iff.1 hj).1) i hi o ho _ fun b' w'' hv hw'' => ⟨⟨by simp [hs], ?_⟩, b', ?_, hw''⟩
    · have hmono : ∀ t, L.getD t false = true → (L.setIfInBounds i true).getD t false = true := by
        intro t ht
        by_cases e : t = i
        · subst e; simp [Array.getD_eq_getD_getElem?, hi']
        · simp only [Array.getD_eq_getD_getElem?] at ht ⊢
          rw [Array.getElem?_setIfInBounds_ne (fun h => e h.symm)]; exact ht
      intro j oj hj hLj e he hb
      by_cases hji : j = i
      · subst hji
        obtain rfl : o = oj := Option.some.inj (ho.symm.trans hj)
        exact hmono _ (hdep e he hb)
      · refine hmono _ (hcl j oj hj ?_ e he hb)
        simp only [Array.getD_eq_getD_getElem?] at hLj ⊢
        rw [Array.getElem?_setIfInBounds_ne (fun h => hji h.symm)] at hLj
        exact hLj
    rw [wrote_set ops (vals b') L a.tmps hd ho hi' hf, if_pos (by rw [← hs]; exact hi'), wrote_congrH ops (vals b') (vals b) L a.tmps hv]
    unfold Act.put
    cases o.dst <;> rfl
  · rintro L a' w' ⟨⟨hs, _⟩, b, rfl, hW⟩ hr
    have hall := hacyc L hs hr
    have e : L = Array.replicate ops.size true := by
      apply Array.ext
      · simp [hs]
      · intro i h1 h2
        have := hall i (by omega)
        rw [Array.getD_eq_getD_getElem?, Array.getElem?_eq_getElem h1] at this
        simpa using this
    have h := hend b L w' hW hall
    rw [e]
    exact h
  · intro j oj _ hLj
    exfalso
    rw [Array.getD_eq_getD_getElem?, Array.getElem?_replicate] at hLj
    split at hLj <;> simp at hLj
  · have : ∀ k, wrote ops (vals b0) (Array.replicate ops.size false) a.tmps k = a.tmps := by
      intro k
      induction k with
      | zero => rfl
      | succ k ih =>
        simp only [wrote]
        rw [if_neg (by rw [Array.getD_eq_getD_getElem?, Array.getElem?_replicate]; split <;> simp)]
        exact ih
    rw [this]
  · simp
/-- the operands that an operation reads: made slices too -/
def usesW : Op → Option (List Operand)
  | .buildSlice _ _ parts => some (parts.toList.map (·.2))
  | .makeSlice _ x y => some [x, y]
  | x => usesOp x
theorem exec_congrW {ρ ρ' : Operand → Value} {o : Oper} {l : List Operand} (h : usesW o.op = some l) (ha : ∀ x ∈ l, ρ x = ρ' x) : execOp ρ o = execOp ρ' o := by
  cases ho : o.op
  case buildSlice t n parts =>
    rw [ho] at h
    simp only [usesW] at h
    cases h
    unfold execOp
    have e : (parts.map fun (i, x) => (i, ρ x)) = (parts.map fun (i, x) => (i, ρ' x)) := map_array_congr parts (fun p hp => by
      have := ha p.2 (List.mem_map.2 ⟨p, hp, rfl⟩)
      simp [this])
    simp only [ho, e]
  case makeSlice t x y =>
    rw [ho] at h
    simp only [usesW] at h
    cases h
    unfold execOp
    simp [ho, ha x (by simp), ha y (by simp)]
  all_goals exact exec_congr (by rw [ho] at h; rw [ho]; simpa only [usesW] using h) ha
theorem about_congrW {P : Program} {w : World} {ρ ρ' : Operand → Value} {o : Oper} {l : List Operand} (h : usesW o.op = some l) (ha : ∀ x ∈ l, ρ x = ρ' x) : o.about P w ρ = o.about P w ρ' := by
  cases ho : o.op
  case buildSlice t n parts => unfold Oper.about; simp only [ho]
  case makeSlice t x y => unfold Oper.about; simp only [ho]
  all_goals exact about_congr (by rw [ho] at h; rw [ho]; simpa only [usesW] using h) ha
def depsW (ops : Array Oper) (asg wk : List Nat) : Bool := (List.range ops.size).all fun i => match ops[i]? with
  | none => true
  | some o => o.guard.isNone && (match o.dst with | some t => asg.contains t || wk.contains t | none => true) && match usesW o.op with
    | none => false
    | some l => l.all fun x => match x with
      | .tmp t => bif asg.contains t then (List.range ops.size).all fun j => match (ops[j]?).bind (·.dst) with
        | some t' => t' != t || o.after.any fun e => e.on == j && Region.binds .any e
        | none => true
        else (List.range ops.size).all fun j => match (ops[j]?).bind (·.dst) with
        | some t' => t' != t || decide (j + 1 = ops.size)
        | none => true
      | _ => true
/-- the operands of one whose turn it is hold what they will hold -/
theorem ops_hold {ops : Array Oper} {asg wrt : List (Nat × Value)} {a a' : Act} {L : Array Bool} (hdep : depsW ops (asg.map (·.1)) (wrt.map (·.1)) = true) (hon : onlyB ops (asg.map (·.1)) = true) (hsz : (asg.map (·.1)).all (fun t => decide (t < a.tmps.size)) = true)
    (hlast : ∀ j, j + 1 = ops.size → L.getD j false = false)
    (hold : ∀ t, (∀ (i : Nat) (oi : Oper), ops[i]? = some oi → L.getD i false = true → oi.dst ≠ some t) → a'.tmps.getD t undef = a.tmps.getD t undef)
    (hnew : ∀ (j : Nat) (oj : Oper) t, ops[j]? = some oj → oj.dst = some t → L.getD j false = true → t < a.tmps.size → a'.tmps.getD t undef = valP ops (asg ++ wrt) j)
    {i : Nat} {o : Oper} (ho : ops[i]? = some o) (hde : ∀ e ∈ o.after, Region.binds .any e = true → L.getD e.on false = true) : ∃ l, usesW o.op = some l ∧ o.guard = none ∧ ∀ x ∈ l, a'.eval x = evP asg a x := by
  have his : i < ops.size := (Array.getElem?_eq_some_iff.1 ho).1
  simp only [depsW, List.all_eq_true, List.mem_range] at hdep
  have h2 := hdep i his
  rw [ho] at h2
  simp only [Bool.and_eq_true] at h2
  cases hu : usesW o.op with
  | none => rw [hu] at h2; simp at h2
  | some l =>
    rw [hu] at h2
    refine ⟨l, rfl, by simpa using h2.1.1, fun x hx => ?_⟩
    have h3 := List.all_eq_true.1 h2.2 x hx
    cases x with
    | tmp t =>
      cases hl : (asg.map (·.1)).contains t with
      | false =>
        simp only [hl, cond_false] at h3
        have hno := lookup_none_of hl
        have e1 : evP asg a (.tmp t) = a.tmps.getD t undef := by simp [evP, hno, Act.eval]
        have e2 : a'.eval (.tmp t) = a'.tmps.getD t undef := by simp [Act.eval]
        rw [e1, e2]
        refine hold t fun j oj hj hLj e => ?_
        have h4 := List.all_eq_true.1 h3 j (List.mem_range.2 (Array.getElem?_eq_some_iff.1 hj).1)
        rw [hj] at h4
        simp only [Option.bind_some, e, bne_self_eq_false, Bool.false_or, decide_eq_true_eq] at h4
        rw [hlast j h4] at hLj
        cases hLj
      | true =>
        simp only [hl, cond_true] at h3
        obtain ⟨v, hv⟩ := lookup_some_of hl
        have e1 : evP asg a (.tmp t) = v := by simp [evP, hv]
        have e2 : a'.eval (.tmp t) = a'.tmps.getD t undef := by simp [Act.eval]
        rw [e1, e2]
        have h5 := List.all_eq_true.1 hon t (by simpa using hl)
        rw [List.any_eq_true] at h5
        obtain ⟨j, hj, h6⟩ := h5
        rw [List.mem_range] at hj
        have hoj : ops[j]? = some ops[j] := Array.getElem?_eq_getElem hj
        rw [hoj] at h6
        simp only [Option.bind_some] at h6
        cases hdj : ops[j].dst with
        | none => rw [hdj] at h6; cases h6
        | some t' =>
          rw [hdj] at h6
          obtain rfl : t' = t := by simpa using h6
          have h7 := List.all_eq_true.1 h3 j (List.mem_range.2 hj)
          rw [hoj] at h7
          simp only [Option.bind_some, hdj, bne_self_eq_false, Bool.false_or] at h7
          obtain ⟨e, he, he2⟩ := Array.any_eq_true'.1 h7
          rw [Bool.and_eq_true, beq_iff_eq] at he2
          have hLj := hde e he he2.2
          rw [he2.1] at hLj
          have htl : t' < a.tmps.size := by
            have := List.all_eq_true.1 hsz t' (by simpa using hl)
            simpa using this
          have h8 := hnew j _ t' hoj hdj hLj htl
          rw [h8]
          simp [valP, hoj, hdj, hv, List.lookup_append]
    | _ => rfl
/-- how many of the tail are done -/
def cntW (s : Nat) (L : Array Bool) : Nat → Nat
  | 0 => 0
  | t + 1 => if L.getD (s + t) false then t + 1 else cntW s L t
theorem cntW_le (s : Nat) (L : Array Bool) : ∀ t, cntW s L t ≤ t
  | 0 => Nat.le_refl _
  | t + 1 => by
    rw [cntW]
    split
    · exact Nat.le_refl _
    · exact Nat.le_trans (cntW_le s L t) (Nat.le_succ t)
theorem cntW_other (s : Nat) (L : Array Bool) {i : Nat} (h : i < s) : ∀ t, cntW s (L.setIfInBounds i true) t = cntW s L t
  | 0 => rfl
  | t + 1 => by rw [cntW, cntW, getD_set_other L (by omega), cntW_other s L h t]
theorem cntW_eq (s : Nat) (L : Array Bool) (k : Nat) (hk : k = 0 ∨ L.getD (s + (k - 1)) false = true) : ∀ t, k ≤ t → (∀ j, k ≤ j → j < t → L.getD (s + j) false = false) → cntW s L t = k
  | 0, h, _ => by rw [cntW]; omega
  | t + 1, h, hn => by
    rw [cntW]
    rcases Nat.lt_or_ge t k with h2 | h2
    · obtain rfl : k = t + 1 := by omega
      rcases hk with hk | hk
      · omega
      · rw [if_pos (by simpa using hk)]
    · rw [hn t h2 (by omega)]
      simp only [Bool.false_eq_true, if_false]
      exact cntW_eq s L k hk t h2 fun j h3 h4 => hn j h3 (by omega)
/-- each of the tail but the first waits for the one ahead -/
def chainW (ops : Array Oper) (s : Nat) : Bool := (List.range ops.size).all fun j => decide (j ≤ s) || match ops[j]? with
  | some o => o.after.any fun e => e.on == j - 1 && Region.binds .any e
  | none => true
/-- one of the region's pure operations, at one world -/
def PureAt (F : Fence) (n : Nat) (P : Program) (W : World) (ρ : Operand → Value) (o : Oper) (v : Value) : Prop :=
  (∀ c, o.op ≠ .defer c) ∧ (∀ f, o.about P W ρ = some f → F.fn f) ∧
    ((execOp ρ o).run P W = .ok (.value v) W ∨
      ∃ f args, (execOp ρ o).run P W = .ok (.enter f args) W ∧ CallsIn F (n - 1) P f args W fun e w' => e = .returned v ∧ ∃ q', w' = W.drewN q')
theorem wpIn_region_chain {β : Type} {F : Fence} {n : Nat} {P : Program} {id : Nat} {ops : Array Oper} {Q : Exit → Act → World → Prop} {a : Act} {w : World} (hF : F.depth = none) (hm : P.follows .mixedOrders = true)
    (asg wrt : β → List (Nat × Value)) (keys wk : List Nat) (hkeys : ∀ b, (asg b).map (·.1) = keys) (hwk : ∀ b, (wrt b).map (·.1) = wk) (hd : distinctB ops = true) (hdep : depsW ops keys wk = true) (hon : onlyB ops keys = true) (hord : orderedB ops = true) (hsz : keys.all (fun t => decide (t < a.tmps.size)) = true)
    (s t : Nat) (hst : s + t = ops.size) (hch : chainW ops s = true) (hroot : rootB ops (ops.size - 1) = true) (R : Nat → β → World → Prop) (hR : ∀ k b W q, R k b W → R k b (W.drewN q)) (b0 : β) (h0 : R 0 b0 w)
    (hops : ∀ i o k b W, i < s → k ≤ t → R k b W → ops[i]? = some o → PureAt F n P W (evP (asg b) a) o (valP ops (asg b ++ wrt b) i))
    (htail : ∀ k b W o, k < t → R k b W → ops[s + k]? = some o → (∀ c, o.op ≠ .defer c) ∧ (∀ f, o.about P W (evP (asg b) a) = some f → F.fn f) ∧ ∃ b' W', (∀ j, j < s + k → valP ops (asg b' ++ wrt b') j = valP ops (asg b ++ wrt b) j) ∧ R (k + 1) b' W' ∧
      ((execOp (evP (asg b) a) o).run P W = .ok .skip W' ∧ valP ops (asg b' ++ wrt b') (s + k) = undef ∨ (execOp (evP (asg b) a) o).run P W = .ok (.value (valP ops (asg b' ++ wrt b') (s + k))) W'))
    (hend : ∀ b W, R t b W → Q .normal { tmps := wrote ops (valP ops (asg b ++ wrt b)) (Array.replicate ops.size true) a.tmps ops.size, defers := a.defers } W) : (Code.region id ops true).wpIn F n P Q a w := by
  have hd' := distinct_of hd
  have hstepback : ∀ (L : Array Bool), (∀ (j : Nat) (oj : Oper), ops[j]? = some oj → L.getD j false = true → ∀ e ∈ oj.after, Region.binds .any e = true → L.getD e.on false = true) → ∀ j, s < j → j < ops.size → L.getD j false = true → L.getD (j - 1) false = true := by
    intro L hcl j h1 h2 hL
    have h3 := List.all_eq_true.1 hch j (List.mem_range.2 h2)
    have hoj : ops[j]? = some ops[j] := Array.getElem?_eq_getElem h2
    rw [hoj, Bool.or_eq_true, decide_eq_true_eq] at h3
    rcases h3 with h3 | h3
    · omega
    · obtain ⟨e, he, he2⟩ := Array.any_eq_true'.1 h3
      rw [Bool.and_eq_true, beq_iff_eq] at he2
      have := hcl j _ hoj hL e he he2.2
      rwa [he2.1] at this
  have hdown : ∀ (L : Array Bool), (∀ (j : Nat) (oj : Oper), ops[j]? = some oj → L.getD j false = true → ∀ e ∈ oj.after, Region.binds .any e = true → L.getD e.on false = true) → ∀ d i, s ≤ i → i + d < ops.size → L.getD (i + d) false = true → L.getD i false = true := by
    intro L hcl d
    induction d with
    | zero => intro i _ _ h; exact h
    | succ d ih =>
      intro i h1 h2 h
      refine ih i h1 (by omega) ?_
      have := hstepback L hcl (i + (d + 1)) (by omega) h2 h
      rwa [show i + (d + 1) - 1 = i + d by omega] at this
  have hclose : ∀ (L : Array Bool), (∀ (j : Nat) (oj : Oper), ops[j]? = some oj → L.getD j false = true → ∀ e ∈ oj.after, Region.binds .any e = true → L.getD e.on false = true) → ∀ s, s + 1 = ops.size → L.getD s false = true → ∀ k i, i + k = s → L.getD i false = true := by
    intro L hcl s hs hL k
    induction k using Nat.strongRecOn with
    | _ k ih =>
      intro i hik
      rcases Nat.eq_zero_or_pos k with h0 | h0
      · obtain rfl : i = s := by omega
        exact hL
      · simp only [rootB, List.all_eq_true, List.mem_range] at hroot
        have h1 := hroot i (by omega)
        rw [List.any_eq_true] at h1
        obtain ⟨j, hj, h2⟩ := h1
        rw [List.mem_range] at hj
        rw [Bool.and_eq_true, decide_eq_true_eq] at h2
        have hjl := ih (s - j) (by omega) j (by omega)
        cases ho : ops[j]? with
        | none => rw [ho] at h2; simp at h2
        | some o =>
          rw [ho] at h2
          obtain ⟨e, he, he2⟩ := Array.any_eq_true'.1 h2.2
          rw [Bool.and_eq_true, beq_iff_eq] at he2
          have := hcl j o ho hjl e he he2.2
          rwa [he2.1] at this
  have hnolast : ∀ (L : Array Bool), (∀ (j : Nat) (oj : Oper), ops[j]? = some oj → L.getD j false = true → ∀ e ∈ oj.after, Region.binds .any e = true → L.getD e.on false = true) → ∀ i, i < ops.size → L.getD i false = false → ∀ j, j + 1 = ops.size → L.getD j false = false := by
    intro L hcl i hi hf j hj
    apply Classical.byContradiction
    intro h
    have := hclose L hcl j hj (by simpa using h) (j - i) i (by omega)
    rw [hf] at this
    cases this
  refine wpIn_region_relH hm hd' (fun b => valP ops (asg b ++ wrt b)) (fun b L W => R (cntW s L t) b W) b0 ?_ ?_ ?_ (acyclic_of hord)
  · have : cntW s (Array.replicate ops.size false) t = 0 := cntW_eq s _ 0 (.inl rfl) t (Nat.zero_le _) fun j _ _ => by
      rw [Array.getD_eq_getD_getElem?, Array.getElem?_replicate]; split <;> rfl
    simp only [this]
    exact hR 0 b0 w 1 h0
  · intro b L a' W hW hLs hdf hcl hold hnew i hi o ho K hK
    obtain ⟨h1, o2, ho2, hde⟩ := mem_ready.1 hi
    obtain rfl : o = o2 := Option.some.inj (ho.symm.trans ho2)
    have hnl := unlisted h1
    have his : i < ops.size := (Array.getElem?_eq_some_iff.1 ho).1
    obtain ⟨l, hu, hg, hev⟩ := ops_hold (asg := asg b) (a := a) (a' := a') (L := L) (wrt := wrt b) (by rw [hkeys, hwk]; exact hdep) (by rw [hkeys]; exact hon) (by rw [hkeys]; exact hsz) (hnolast L hcl i his hnl) hold hnew ho hde
    have hex := exec_congrW hu hev
    have hab : ∀ V : World, o.about P V a'.eval = o.about P V (evP (asg b) a) := fun V => about_congrW hu hev
    rcases Nat.lt_or_ge i s with his' | his'
    · have hkt : cntW s L t ≤ t := cntW_le s L t
      obtain ⟨hdef, hf, hrun⟩ := hops i o _ b W his' hkt hW ho
      have hcw := cntW_other s L his' t
      rcases hrun with hrun | ⟨f, args, hrun, hcall⟩
      · refine in_value ho hg hdef (fun f hf' => hf f (by rw [← hab]; exact hf')) (by rw [hex]; exact hrun) ?_
        exact hK b W (fun _ _ => rfl) (by rw [hcw]; exact hW)
      · refine in_call_any ho hg hdef hF (fun f hf' => hf f (by rw [← hab]; exact hf')) (by rw [hex]; exact hrun) (hcall.mono ?_)
        rintro e w' ⟨rfl, q', rfl⟩
        exact ⟨_, rfl, hK b _ (fun _ _ => rfl) (by rw [hcw]; exact hR _ _ _ _ hW)⟩
    · obtain ⟨k, rfl⟩ : ∃ k, i = s + k := ⟨i - s, by omega⟩
      have hlater : ∀ j, k ≤ j → j < t → L.getD (s + j) false = false := by
        intro j h2 h3
        apply Classical.byContradiction
        intro h
        have := hdown L hcl (j - k) (s + k) (by omega) (by omega) (by rw [show s + k + (j - k) = s + j by omega]; simpa using h)
        rw [hnl] at this
        cases this
      have hprev : k = 0 ∨ L.getD (s + (k - 1)) false = true := by
        rcases Nat.eq_zero_or_pos k with h2 | h2
        · exact .inl h2
        · refine .inr ?_
          have h3 := List.all_eq_true.1 hch (s + k) (List.mem_range.2 his)
          rw [ho, Bool.or_eq_true, decide_eq_true_eq] at h3
          rcases h3 with h3 | h3
          · omega
          · obtain ⟨e, he, he2⟩ := Array.any_eq_true'.1 h3
            rw [Bool.and_eq_true, beq_iff_eq] at he2
            have := hde e he he2.2
            rw [he2.1] at this
            rwa [show s + k - 1 = s + (k - 1) by omega] at this
      have hc1 : cntW s L t = k := cntW_eq s L k hprev t (by omega) hlater
      have hc2 : cntW s (L.setIfInBounds (s + k) true) t = k + 1 := cntW_eq s _ (k + 1) (.inr (getD_set_self L (by omega))) t (by omega) fun j h2 h3 => by
        rw [getD_set_other L (by omega)]; exact hlater j (by omega) h3
      have hW2 : R k b W := by have := hW; simp only [hc1] at this; exact this
      obtain ⟨hdef, hf, b', W', hv, hR', hrun⟩ := htail k b W o (by omega) hW2 ho
      have hvv : ∀ j, L.getD j false = true → valP ops (asg b' ++ wrt b') j = valP ops (asg b ++ wrt b) j := by
        intro j hj
        rcases Nat.lt_or_ge j (s + k) with h2 | h2
        · exact hv j h2
        · exfalso
          have hjl : j < L.size := by
            apply Classical.byContradiction
            intro h
            rw [Array.getD_eq_getD_getElem?, Array.getElem?_eq_none (by omega)] at hj
            cases hj
          have := hlater (j - s) (by omega) (by omega)
          rw [show s + (j - s) = j by omega, hj] at this
          cases this
      have hk := hK b' W' hvv (by rw [hc2]; exact hR')
      rcases hrun with ⟨hrun, hvu⟩ | hrun
      · simp only [hvu] at hk
        exact in_skip ho hg hdef (fun f hf' => hf f (by rw [← hab]; exact hf')) (by rw [hex]; exact hrun) hk
      · exact in_value ho hg hdef (fun f hf' => hf f (by rw [← hab]; exact hf')) (by rw [hex]; exact hrun) hk
  · intro b L W hW hL
    have : cntW s L t = t := cntW_eq s L t (by rcases Nat.eq_zero_or_pos t with h | h; exact .inl h; exact .inr (hL _ (by omega))) t (Nat.le_refl _) fun j h1 h2 => absurd h2 (by omega)
    simp only [this] at hW
    exact hend b W hW
end Go.Proofs.Ytmmmcbklgmjalaa

/- A region that draws its order, whose operations read, make memory or call: what each lays meets a condition of its slot, whatever the order. -/
set_option linter.unusedVariables false
set_option linter.unusedSimpArgs false
namespace Go.Proofs.Ytmmmcbklgmjalaa
open Go.RowKit Go.Shelf

def readsB (o : Oper) (t : Nat) : Bool := match usesW o.op with
  | some l => l.any fun x => match x with | .tmp t' => t' == t | _ => false
  | none => false
/-- whoever's turn it is finds what it reads -/
theorem tree_reads {ops : Array Oper} {keys : List Nat} {a a' : Act} {L : Array Bool} {b : Nat → Value} (hdep : depsW ops keys [] = true) (hon : onlyB ops keys = true) (hsz : keys.all (fun t => decide (t < a.tmps.size)) = true)
    (hold : ∀ t, (∀ (i : Nat) (oi : Oper), ops[i]? = some oi → L.getD i false = true → oi.dst ≠ some t) → a'.tmps.getD t undef = a.tmps.getD t undef)
    (hnew : ∀ (j : Nat) (oj : Oper) t, ops[j]? = some oj → oj.dst = some t → L.getD j false = true → t < a.tmps.size → a'.tmps.getD t undef = b j)
    {i : Nat} {o : Oper} (ho : ops[i]? = some o) (hde : ∀ e ∈ o.after, Region.binds .any e = true → L.getD e.on false = true) :
    o.guard = none ∧ (∀ t, keys.contains t = false → a'.eval (.tmp t) = a.eval (.tmp t)) ∧
      ∀ t, readsB o t = true → keys.contains t = true → ∃ (j : Nat) (oj : Oper), ops[j]? = some oj ∧ oj.dst = some t ∧ L.getD j false = true ∧ a'.eval (.tmp t) = b j := by
  have his : i < ops.size := (Array.getElem?_eq_some_iff.1 ho).1
  simp only [depsW, List.all_eq_true, List.mem_range] at hdep
  have h2 := hdep i his
  rw [ho] at h2
  simp only [Bool.and_eq_true] at h2
  refine ⟨by simpa using h2.1.1, fun t hl => ?_, fun t hr hl => ?_⟩
  · have e1 : a.eval (.tmp t) = a.tmps.getD t undef := by simp [Act.eval]
    have e2 : a'.eval (.tmp t) = a'.tmps.getD t undef := by simp [Act.eval]
    rw [e1, e2]
    refine hold t fun j oj hj hLj e => ?_
    have h4 := hdep j (Array.getElem?_eq_some_iff.1 hj).1
    rw [hj] at h4
    simp only [Bool.and_eq_true, e] at h4
    have h5 := h4.1.2
    rw [hl] at h5
    simp at h5
  · unfold readsB at hr
    cases hu : usesW o.op with
    | none => rw [hu] at hr; cases hr
    | some l =>
      rw [hu] at hr h2
      obtain ⟨x, hx, hxe⟩ := List.any_eq_true.1 hr
      have h3 := List.all_eq_true.1 h2.2 x hx
      cases x with
      | tmp t' =>
        obtain rfl : t' = t := by simpa using hxe
        simp only [hl, cond_true] at h3
        have h5 := List.all_eq_true.1 hon t' (by simpa using hl)
        rw [List.any_eq_true] at h5
        obtain ⟨j, hj, h6⟩ := h5
        rw [List.mem_range] at hj
        have hoj : ops[j]? = some ops[j] := Array.getElem?_eq_getElem hj
        rw [hoj] at h6
        simp only [Option.bind_some] at h6
        cases hdj : ops[j].dst with
        | none => rw [hdj] at h6; cases h6
        | some t2 =>
          rw [hdj] at h6
          obtain rfl : t2 = t' := by simpa using h6
          have h7 := List.all_eq_true.1 h3 j (List.mem_range.2 hj)
          rw [hoj] at h7
          simp only [Option.bind_some, hdj, bne_self_eq_false, Bool.false_or] at h7
          obtain ⟨e, he, he2⟩ := Array.any_eq_true'.1 h7
          rw [Bool.and_eq_true, beq_iff_eq] at he2
          have hLj := hde e he he2.2
          rw [he2.1] at hLj
          have htl : t2 < a.tmps.size := by
            have := List.all_eq_true.1 hsz t2 (by simpa using hl)
            simpa using this
          refine ⟨j, _, hoj, hdj, hLj, ?_⟩
          rw [← hnew j _ t2 hoj hdj hLj htl]
          simp [Act.eval]
      | _ => cases hxe
def TreeOk (F : Fence) (n : Nat) (P : Program) (I : World → Prop) (St : World → World → Prop) (Pd : Nat → Value → World → Prop) (Pn : World → Prop) (a' : Act) (V : World) (o : Oper) : Prop :=
  (∀ c, o.op ≠ .defer c) ∧ (∀ f, o.about P V a'.eval = some f → F.fn f) ∧
    ((∃ v V', ((execOp a'.eval o).run P V = .ok (.value v) V' ∨ (execOp a'.eval o).run P V = .ok .skip V' ∧ v = undef) ∧ I V' ∧ St V V' ∧ (∀ t, o.dst = some t → Pd t v V') ∧ (o.dst = none → Pn V')) ∨
      ∃ f args, (execOp a'.eval o).run P V = .ok (.enter f args) V ∧ CallsIn F (n - 1) P f args V fun e w' => ∃ v, e = .returned v ∧ I w' ∧ St V w' ∧ (∀ t, o.dst = some t → Pd t v w') ∧ (o.dst = none → Pn w'))
theorem getD_set_ne (L : Array Bool) {i j : Nat} (h : i ≠ j) : (L.setIfInBounds i true).getD j false = L.getD j false := by
  simp only [Array.getD_eq_getD_getElem?]
  rw [Array.getElem?_setIfInBounds_ne h]
theorem getD_rep (n i : Nat) : (Array.replicate n false).getD i false = false := by
  rw [Array.getD_eq_getD_getElem?, Array.getElem?_replicate]; split <;> rfl
theorem wpIn_region_tree {F : Fence} {n : Nat} {P : Program} {id : Nat} {ops : Array Oper} {Q : Exit → Act → World → Prop} {a : Act} {w : World} (hF : F.depth = none) (hm : P.follows .mixedOrders = true)
    (keys : List Nat) (hd : distinctB ops = true) (hdep : depsW ops keys [] = true) (hon : onlyB ops keys = true) (hord : orderedB ops = true) (hsz : keys.all (fun t => decide (t < a.tmps.size)) = true)
    (I : World → Prop) (hI : I w.drew) (St : Nat → World → World → Prop) (Pd : Nat → Value → World → Prop) (hmono : ∀ i V V', I V → I V' → St i V V' → ∀ t v, Pd t v V → Pd t v V')
    (Pn : Nat → World → Prop) (hmonon : ∀ i V V', I V → I V' → St i V V' → ∀ j, j ≠ i → Pn j V → Pn j V')
    (hops : ∀ (i : Nat) (o : Oper) (a' : Act) (V : World), I V → ops[i]? = some o → (∀ t, keys.contains t = false → a'.eval (.tmp t) = a.eval (.tmp t)) → (∀ t, readsB o t = true → keys.contains t = true → Pd t (a'.eval (.tmp t)) V) → TreeOk F n P I (St i) Pd (Pn i) a' V o)
    (hend : ∀ (vals : Nat → Value) V, I V → (∀ (i t : Nat) (o : Oper), ops[i]? = some o → o.dst = some t → Pd t (vals i) V) → (∀ (i : Nat) (o : Oper), ops[i]? = some o → o.dst = none → Pn i V) →
      Q .normal { tmps := wrote ops vals (Array.replicate ops.size true) a.tmps ops.size, defers := a.defers } V) : (Code.region id ops true).wpIn F n P Q a w := by
  have hd' := distinct_of hd
  refine wpIn_region_relH hm hd' (fun b : Nat → Value => b) (fun b L V => I V ∧ (∀ (j t : Nat) (o : Oper), ops[j]? = some o → o.dst = some t → L.getD j false = true → Pd t (b j) V) ∧
    ∀ (j : Nat) (o : Oper), ops[j]? = some o → o.dst = none → L.getD j false = true → Pn j V) (fun _ => undef) ⟨hI, ?_, ?_⟩ ?_ ?_ (acyclic_of hord)
  · intro j t o _ _ hL
    rw [getD_rep] at hL
    cases hL
  · intro j o _ _ hL
    rw [getD_rep] at hL
    cases hL
  · rintro b L a' V ⟨hIV, hPV, hNV⟩ hLs hdf hcl hold hnew i hi o ho K hK
    obtain ⟨h1, o2, ho2, hde⟩ := mem_ready.1 hi
    obtain rfl : o = o2 := Option.some.inj (ho.symm.trans ho2)
    have hnl := unlisted h1
    obtain ⟨hg, hev, hrd⟩ := tree_reads hdep hon hsz hold hnew ho hde
    have hrd' : ∀ t, readsB o t = true → keys.contains t = true → Pd t (a'.eval (.tmp t)) V := by
      intro t h2 h3
      obtain ⟨j, oj, hj, hjd, hjL, e⟩ := hrd t h2 h3
      rw [e]
      exact hPV j t oj hj hjd hjL
    obtain ⟨hdef, hab, hrun⟩ := hops i o a' V hIV ho hev hrd'
    have hnext : ∀ v V', I V' → St i V V' → (∀ t, o.dst = some t → Pd t v V') → (o.dst = none → Pn i V') → K (a'.put o.dst v) V' := by
      intro v V' hI' hB hP hN
      have hk := hK (fun j => if j = i then v else b j) V' (fun j hj => by
        rw [if_neg]
        rintro rfl
        rw [hnl] at hj; cases hj) ⟨hI', fun j t oj hj hjd hjL => by
          by_cases hji : j = i
          · subst hji
            obtain rfl : o = oj := Option.some.inj (ho.symm.trans hj)
            simp only [if_true]
            exact hP t hjd
          · rw [getD_set_ne L (fun h => hji h.symm)] at hjL
            simp only [if_neg hji]
            exact hmono i V V' hIV hI' hB t _ (hPV j t oj hj hjd hjL), fun j oj hj hjd hjL => by
          by_cases hji : j = i
          · subst hji
            obtain rfl : o = oj := Option.some.inj (ho.symm.trans hj)
            exact hN hjd
          · rw [getD_set_ne L (fun h => hji h.symm)] at hjL
            exact hmonon i V V' hIV hI' hB j hji (hNV j oj hj hjd hjL)⟩
      simpa using hk
    rcases hrun with ⟨v, V', hrun, hI', hB, hP, hN⟩ | ⟨f, args, hrun, hcall⟩
    · rcases hrun with hrun | ⟨hrun, rfl⟩
      · exact in_value ho hg hdef hab hrun (hnext v V' hI' hB hP hN)
      · exact in_skip ho hg hdef hab hrun (hnext undef V' hI' hB hP hN)
    · refine in_call_any ho hg hdef hF hab hrun (hcall.mono ?_)
      rintro e w' ⟨v, rfl, hI', hB, hP, hN⟩
      exact ⟨v, rfl, hnext v w' hI' hB hP hN⟩
  · rintro b L V ⟨hIV, hPV, hNV⟩ hL
    exact hend b V hIV (fun i t o hi hid => hPV i t o hi hid (hL i (Array.getElem?_eq_some_iff.1 hi).1)) fun i o hi hid => hNV i o hi hid (hL i (Array.getElem?_eq_some_iff.1 hi).1)
end Go.Proofs.Ytmmmcbklgmjalaa

/- curve: the field's functions, in numbers. -/
namespace Go.Proofs.Ytmmmcbklgmjalaa
open Go.RowKit

/-- a number in normal form behind a value, of at most 64 limbs -/
def Nu (w : World) (v : Value) (k : Nat) : Prop := ∃ xs A n c, v = .slice A n c ∧ Sl w w.heap.size A n c xs ∧ Nm b64 xs k ∧ n ≤ 64
theorem Nu.gu {w : World} {v : Value} {k : Nat} (h : Nu w v k) : NumR w 64 k v := by
  obtain ⟨xs, A, n, c, rfl, hs, hn, hl⟩ := h
  exact ⟨xs, A, n, c, rfl, hs, hn.1, hn.2.2, hl⟩
theorem Nu.later {w w' : World} {v : Value} {k : Nat} (h : Nu w v k) (hb : Below w.heap.size w w') : Nu w' v k := by
  obtain ⟨xs, A, n, c, rfl, hs, hn, hl⟩ := h
  exact ⟨xs, A, n, c, rfl, hs.later hb (Nat.le_refl _), hn, hl⟩
theorem Nu.of {w : World} {n c k : Nat} {A : Option Addr} {xs : List Nat} (hs : Sl w w.heap.size A n c xs) (hn : Nm b64 xs k) (hk : k < b64 ^ 64) : Nu w (.slice A n c) k :=
  ⟨xs, A, n, c, rfl, hs, hn, by rw [hs.len]; exact hn.length_le (by decide) hk⟩
theorem Nu.nil (w : World) : Nu w (.slice none 0 0) 0 :=
  ⟨[], none, 0, 0, rfl, Sl.nil _ _ _ (by omega), ⟨fun x hx => (by cases hx), fun x hx => (by cases hx), rfl⟩, by omega⟩
/-- a call returns a number -/
def RetU (w : World) (k : Nat) (e : Ending) (w' : World) : Prop := ∃ v, e = .returned v ∧ Nu w' v k ∧ Below w.heap.size w w'
/-- a call returns a number and true -/
def RetUB (w : World) (k : Nat) (e : Ending) (w' : World) : Prop := ∃ v, e = .returned (.tuple #[v, .bool true]) ∧ Nu w' v k ∧ Below w.heap.size w w'

theorem NumR.lt {w : World} {K p : Nat} {v : Value} (h : NumR w K p v) : p < b64 ^ K := by
  obtain ⟨xs, A, n, c, rfl, hs, hd, hv, hl⟩ := h
  have h1 := V_lt xs hd
  rw [hv, ← hs.len] at h1
  exact Nat.lt_of_lt_of_le h1 (Nat.pow_le_pow_right (by decide) hl)
theorem ladd_u (w : World) (a b : Value) (x y : Nat) (ha : NumR w 64 x a) (hb : NumR w 64 y b) (hl : x + y < b64 ^ 64) :
    Calls Try.prog 65 #[a, b] w fun e w' => RetU w (x + y) e w' := by
  obtain ⟨xs, A, n, c, rfl, hs, hd, rfl, hn⟩ := ha
  obtain ⟨ys, A2, n2, c2, rfl, hs2, hd2, rfl, hn2⟩ := hb
  refine (ladd_any w _ (Nat.le_refl _) _ _ _ _ hs _ _ _ _ hs2 hd hd2 (by omega) (by omega)).mono ?_
  rintro e w' ⟨zs, hz, A3, n3, c3, rfl, hs3, hB⟩
  exact ⟨_, rfl, Nu.of hs3 hz hl, hB⟩
theorem lsub_u (w : World) (a b : Value) (x y : Nat) (ha : NumR w 64 x a) (hb : NumR w 64 y b) (hle : y ≤ x) :
    Calls Try.prog 64 #[a, b] w fun e w' => RetUB w (x - y) e w' := by
  have hl := ha.lt
  obtain ⟨xs, A, n, c, rfl, hs, hd, rfl, hn⟩ := ha
  obtain ⟨ys, A2, n2, c2, rfl, hs2, hd2, rfl, hn2⟩ := hb
  refine (lsub_yes w _ _ _ _ hs _ _ _ _ hs2 hd hd2 (by omega) hle).mono ?_
  rintro e w' ⟨zs, A3, n3, c3, hz, rfl, hs3, hB⟩
  exact ⟨_, rfl, Nu.of hs3 hz (by omega), hB⟩
theorem lsub_u_no (w : World) (a b : Value) (x y : Nat) (ha : NumR w 64 x a) (hb : NumR w 64 y b) (hlt : x < y) :
    Calls Try.prog 64 #[a, b] w fun e w' => e = .returned (.tuple #[.slice none 0 0, .bool false]) ∧ Below w.heap.size w w' := by
  obtain ⟨xs, A, n, c, rfl, hs, hd, rfl, hn⟩ := ha
  obtain ⟨ys, A2, n2, c2, rfl, hs2, hd2, rfl, hn2⟩ := hb
  exact lsub_no w _ _ _ _ hs _ _ _ _ hs2 hd hd2 hlt
theorem lcmp_u (w : World) (a b : Value) (x y K K2 : Nat) (ha : NumR w K x a) (hb : NumR w K2 y b) :
    Calls Try.prog 59 #[a, b] w fun e w' => RetV w (.int .i64 (ncmp x y)) e w' := by
  obtain ⟨xs, A, n, c, rfl, hs, hd, rfl, hn⟩ := ha
  obtain ⟨ys, A2, n2, c2, rfl, hs2, hd2, rfl, hn2⟩ := hb
  exact lcmp_any w _ _ _ _ hs _ _ _ _ hs2 hd hd2
theorem of_u (x : Nat) (hx : x < b64) (w : World) : Calls Try.prog 47 #[.int .u64 x] w fun e w' => RetU w x e w' := by
  refine (of_any x hx w).mono ?_
  rintro e w' ⟨zs, hz, A3, n3, c3, rfl, hs3, hB⟩
  exact ⟨_, rfl, Nu.of hs3 hz (Nat.lt_of_lt_of_le hx (by decide +kernel)), hB⟩
theorem norm_u (w : World) (a : Value) (x : Nat) (ha : NumR w 64 x a) : Calls Try.prog 48 #[a] w fun e w' => RetU w x e w' := by
  have hl := ha.lt
  obtain ⟨xs, A, n, c, rfl, hs, hd, rfl, hn⟩ := ha
  refine (norm_any w _ _ _ _ _ hs hd (by omega)).mono ?_
  rintro e w' ⟨zs, hz, A3, n3, c3, rfl, hs3, hB⟩
  exact ⟨_, rfl, Nu.of hs3 hz hl, hB⟩
theorem b64_64 : b64 ^ 64 = 2 ^ 4096 := by decide +kernel
theorem not_lg {x : Nat} (h : x < b64 ^ 64) : ¬ Lg 4096 x := by
  unfold Lg
  rw [b64_64] at h
  omega
theorem mmul_u (w : World) (a b m : Value) (x y p : Nat) (ha : NumR w 64 x a) (hb : NumR w 64 y b) (hm : NumR w 64 p m) (hp : 0 < p) :
    Calls Try.prog 63 #[a, b, m] w fun e w' => RetUB w (x * y % p) e w' := by
  have hl := ha.lt
  have hl2 := hb.lt
  have hl3 := hm.lt
  obtain ⟨xs, A, n, c, rfl, hs, hd, rfl, hn⟩ := ha
  obtain ⟨ys, A2, n2, c2, rfl, hs2, hd2, rfl, hn2⟩ := hb
  obtain ⟨zs, A3, n3, c3, rfl, hs3, hd3, rfl, hn3⟩ := hm
  refine (mmul_any w _ _ _ _ hs _ _ _ _ hs2 _ _ _ _ hs3 hd hd2 hd3 (by omega) (by omega) (by omega) _ _ _ rfl rfl rfl).mono ?_
  rintro e w' ⟨b, A4, n4, c4, r, rfl, hb, -, hr, hs4, hB⟩
  have : b = true := hb.2 ⟨not_lg hl, not_lg hl2, not_lg hl3, by omega⟩
  subst this
  exact ⟨_, rfl, Nu.of hs4 (hr rfl) (Nat.lt_trans (Nat.mod_lt _ hp) hl3), hB⟩
theorem mod_u (w : World) (a m : Value) (x p : Nat) (ha : NumR w 64 x a) (hm : NumR w 64 p m) (hp : 0 < p) :
    Calls Try.prog 29 #[a, m] w fun e w' => RetUB w (x % p) e w' := by
  have hl := ha.lt
  have hl3 := hm.lt
  obtain ⟨xs, A, n, c, rfl, hs, hd, rfl, hn⟩ := ha
  obtain ⟨zs, A3, n3, c3, rfl, hs3, hd3, rfl, hn3⟩ := hm
  refine (mod_any w _ _ _ _ hs _ _ _ _ hs3 hd hd3 (by omega) (by omega) _ _ rfl rfl).mono ?_
  rintro e w' ⟨b, A4, n4, c4, r, rfl, hb, -, hr, hs4, hB⟩
  have : b = true := hb.2 ⟨not_lg hl, not_lg hl3, by omega⟩
  subst this
  exact ⟨_, rfl, Nu.of hs4 (hr rfl) (Nat.lt_trans (Nat.mod_lt _ hp) hl3), hB⟩
theorem minv_u (w : World) (a m : Value) (x p : Nat) (ha : NumR w 64 x a) (hm : NumR w 64 p m) (hp : 1 < p) (hg : Nat.gcd p x = 1) :
    Calls Try.prog 66 #[a, m] w fun e w' => ∃ R, R < p ∧ x * R % p = 1 ∧ RetUB w R e w' := by
  have hl := ha.lt
  have hl3 := hm.lt
  obtain ⟨xs, A, n, c, rfl, hs, hd, rfl, hn⟩ := ha
  obtain ⟨zs, A3, n3, c3, rfl, hs3, hd3, rfl, hn3⟩ := hm
  refine (inverse_any w _ _ _ _ hs _ _ _ _ hs3 hd hd3 64 (by omega) (by omega) (by omega) _ _ rfl rfl).mono ?_
  rintro e w' ⟨b, A4, n4, c4, r, rfl, hb, -, hr, hs4, hB⟩
  have : b = true := hb.2 ⟨not_lg hl, not_lg hl3, hp, hg⟩
  subst this
  obtain ⟨R, hR, hlt, he⟩ := hr rfl
  exact ⟨R, hlt, he, _, rfl, Nu.of hs4 hR (Nat.lt_trans hlt hl3), hB⟩

/-- the field's sum and difference as the program makes them -/
def sumN (p a b : Nat) : Nat := if p ≤ a + b then a + b - p else a + b
def difN (p a b : Nat) : Nat := if b ≤ a then a - b else a + p - b
theorem sumN_lt {p a b : Nat} (ha : a < p) (hb : b < p) : sumN p a b < p := by unfold sumN; split <;> omega
theorem difN_lt {p a b : Nat} (ha : a < p) (hb : b < p) : difN p a b < p := by unfold difN; split <;> omega
end Go.Proofs.Ytmmmcbklgmjalaa

/- curve: a field's sum, difference, product, inverse. -/
namespace Go.Proofs.Ytmmmcbklgmjalaa
open Go.RowKit

/-- a field's value -/
abbrev Fd (m : Value) : Value := .agg #[m]
theorem fd_new (w : World) (m : Value) : Below w.heap.size w (w.alloc (.cells #[m] 92)) ∧ (w.alloc (.cells #[m] 92)).cell? ⟨w.heap.size, 0, none⟩ = some m ∧ (w.alloc (.cells #[m] 92)).heap.size = w.heap.size + 1 :=
  ⟨(Below.refl _ w).alloc (Nat.le_refl _) _, cell_new w _ _ rfl, by simp⟩

set_option maxRecDepth 100000 in
set_option maxHeartbeats 1600000 in
theorem fsum_any (w : World) (m a b : Value) (p x y : Nat) (hm : NumR w 64 p m) (ha : NumR w 64 x a) (hb : NumR w 64 y b) (hl : x + y < b64 ^ 64) :
    Calls Try.prog 55 #[Fd m, a, b] w fun e w' => RetU w (sumN p x y) e w' := by
  obtain ⟨hba, hc0, hsz⟩ := fd_new w m
  have had := ladd_u (w.alloc (.cells #[m] 92)) a b x y (ha.later hba) (hb.later hba) hl
  have HAD := Lib.hid had
  have HM := Lib.hid (hm.later hba)
  have HL := Lib.hid hl
  clear had hm ha hb hl
  go_enter Try.func55, Try.ntmps55
  go_wp2_with fail
  refine HAD.out.mono ?_
  rintro e w1 ⟨s, rfl, hs, hB⟩
  have hc1 : w1.cell? ⟨w.heap.size, 0, none⟩ = some m := (hB.cell (by rw [hsz]; exact Nat.lt_succ_self _)).trans hc0
  have HS := Lib.hid hs
  have hb1 := hba.trans (hB.mono hba.size)
  have hm1 := HM.out.later hB
  by_cases h : p ≤ x + y
  · have HV := Lib.hid (show sumN p x y = x + y - p from if_pos h)
    have HSU := Lib.hid (lsub_u w1 s m (x + y) p hs.gu hm1 h)
    clear hs hm1 hc0 hsz h hB
    go_wp2_with fail
    refine HSU.out.mono ?_
    rintro e w2 ⟨v, rfl, hv, hB2⟩
    have HVV := Lib.hid hv
    clear hv
    go_wp2
    go_ret
    rw [HV.out]
    exact ⟨_, rfl, HVV.out, hb1.trans (hB2.mono hb1.size)⟩
  · have HV := Lib.hid (show sumN p x y = x + y from if_neg h)
    have HSU := Lib.hid (lsub_u_no w1 s m (x + y) p hs.gu hm1 (by omega))
    clear hs hm1 hc0 hsz h hB
    go_wp2_with fail
    refine HSU.out.mono ?_
    rintro e w2 ⟨rfl, hB2⟩
    go_wp2
    go_ret
    rw [HV.out]
    exact ⟨_, rfl, HS.out.later hB2, hb1.trans (hB2.mono hb1.size)⟩

set_option maxRecDepth 100000 in
set_option maxHeartbeats 1600000 in
theorem fdif_any (w : World) (m a b : Value) (p x y : Nat) (hm : NumR w 64 p m) (ha : NumR w 64 x a) (hb : NumR w 64 y b) (hl : x + p < b64 ^ 64) (hy : y ≤ x + p) :
    Calls Try.prog 54 #[Fd m, a, b] w fun e w' => RetU w (difN p x y) e w' := by
  obtain ⟨hba, hc0, hsz⟩ := fd_new w m
  by_cases h : y ≤ x
  · have HV := Lib.hid (show difN p x y = x - y from if_pos h)
    have HSU := Lib.hid (lsub_u (w.alloc (.cells #[m] 92)) a b x y (ha.later hba) (hb.later hba) h)
    clear hm ha hb hl hc0 hsz h hy
    go_enter Try.func54, Try.ntmps54
    go_wp2_with fail
    refine HSU.out.mono ?_
    rintro e w1 ⟨v, rfl, hv, hB⟩
    have HVV := Lib.hid hv
    clear hv
    go_wp2
    go_ret
    rw [HV.out]
    exact ⟨_, rfl, HVV.out, hba.trans (hB.mono hba.size)⟩
  · have HV := Lib.hid (show difN p x y = x + p - y from if_neg h)
    have HSU := Lib.hid (lsub_u_no (w.alloc (.cells #[m] 92)) a b x y (ha.later hba) (hb.later hba) (by omega))
    have HA := Lib.hid (ha.later hba)
    have HB := Lib.hid (hb.later hba)
    have HM := Lib.hid (hm.later hba)
    have HL := Lib.hid hl
    have HY := Lib.hid hy
    clear hm ha hb hl h hy
    go_enter Try.func54, Try.ntmps54
    go_wp2_with fail
    refine HSU.out.mono ?_
    rintro e w1 ⟨rfl, hB⟩
    have hc1 : w1.cell? ⟨w.heap.size, 0, none⟩ = some m := (hB.cell (by rw [hsz]; exact Nat.lt_succ_self _)).trans hc0
    have HAD := Lib.hid (ladd_u w1 a m x p (HA.out.later hB) (HM.out.later hB) HL.out)
    have hb1 := hba.trans (hB.mono hba.size)
    have HB1 := Lib.hid (HB.out.later hB)
    clear hB hc0 hsz
    go_wp2_with fail
    refine HAD.out.mono ?_
    rintro e w2 ⟨s, rfl, hs, hB2⟩
    have HS2 := Lib.hid (lsub_u w2 s b (x + p) y hs.gu (HB1.out.later hB2) HY.out)
    have hb2 := hb1.trans (hB2.mono hb1.size)
    clear hs hB2
    go_wp2_with fail
    refine HS2.out.mono ?_
    rintro e w3 ⟨v, rfl, hv, hB3⟩
    have HVV := Lib.hid hv
    clear hv
    go_wp2
    go_ret
    rw [HV.out]
    exact ⟨_, rfl, HVV.out, hb2.trans (hB3.mono hb2.size)⟩

set_option maxRecDepth 100000 in
set_option maxHeartbeats 1600000 in
theorem fprod_any (w : World) (m a b : Value) (p x y : Nat) (hm : NumR w 64 p m) (ha : NumR w 64 x a) (hb : NumR w 64 y b) (hp : 0 < p) :
    Calls Try.prog 51 #[Fd m, a, b] w fun e w' => RetU w (x * y % p) e w' := by
  obtain ⟨hba, hc0, hsz⟩ := fd_new w m
  have HMU := Lib.hid (mmul_u (w.alloc (.cells #[m] 92)) a b m x y p (ha.later hba) (hb.later hba) (hm.later hba) hp)
  clear hm ha hb hp hsz
  go_enter Try.func51, Try.ntmps51
  go_wp2_with fail
  refine HMU.out.mono ?_
  rintro e w1 ⟨v, rfl, hv, hB⟩
  have HVV := Lib.hid hv
  clear hv
  go_wp2
  go_ret
  exact ⟨_, rfl, HVV.out, hba.trans (hB.mono hba.size)⟩

set_option maxRecDepth 100000 in
set_option maxHeartbeats 1600000 in
theorem finv_any (w : World) (m a : Value) (p x : Nat) (hm : NumR w 64 p m) (ha : NumR w 64 x a) (hp : 1 < p) (hg : Nat.gcd p x = 1) :
    Calls Try.prog 56 #[Fd m, a] w fun e w' => ∃ R, R < p ∧ x * R % p = 1 ∧ RetU w R e w' := by
  obtain ⟨hba, hc0, hsz⟩ := fd_new w m
  have HMU := Lib.hid (minv_u (w.alloc (.cells #[m] 92)) a m x p (ha.later hba) (hm.later hba) hp hg)
  clear hm ha hp hsz hg
  go_enter Try.func56, Try.ntmps56
  go_wp2_with fail
  refine HMU.out.mono ?_
  rintro e w1 ⟨R, hR1, hR2, v, rfl, hv, hB⟩
  have HVV := Lib.hid hv
  have HR1 := Lib.hid hR1
  have HR2 := Lib.hid hR2
  clear hv hR1 hR2
  go_wp2
  go_ret
  exact ⟨R, HR1.out, HR2.out, _, rfl, HVV.out, hba.trans (hB.mono hba.size)⟩
end Go.Proofs.Ytmmmcbklgmjalaa

/- Regions that draw their order, over numbers: what each slot holds is a condition that growth keeps. -/
set_option linter.unusedVariables false
set_option linter.unusedVariables false
set_option linter.unusedSimpArgs false
namespace Go.Proofs.Ytmmmcbklgmjalaa
open Go.RowKit

/-- block g holds no word -/
def NoU (V : World) (g : Nat) : Prop := ∀ off (x : Int), V.cell? ⟨g, off, none⟩ ≠ some (.int .u64 x)
/-- nothing but a block without words has turned -/
def Sb (V V' : World) : Prop := ∃ g, NoU V g ∧ V.grownBy V' (some g)
theorem NoU.new (V : World) {g : Nat} (h : V.heap.size ≤ g) : NoU V g := by
  intro off x hx
  have : V.heap[g]? = none := Array.getElem?_eq_none h
  simp [World.cell?, this] at hx
theorem Sb.of_below {V V' : World} (h : Below V.heap.size V V') : Sb V V' := ⟨V.heap.size, NoU.new V (Nat.le_refl _), ⟨h.os, h.tape, h.output, h.size, fun i hi _ => h.block i hi⟩⟩
theorem cell_grown {V V' : World} {g : Nat} (h : V.grownBy V' (some g)) {p : Addr} (hp : p.block < V.heap.size) (hne : p.block ≠ g) : V'.cell? p = V.cell? p := by
  unfold World.cell?
  rw [h.block p.block hp (fun e => hne (by injection e))]
theorem Sl.sb {V V' : World} {A : Option Addr} {n c : Nat} {xs : List Nat} (h : Sl V V.heap.size A n c xs) (hb : Sb V V') : Sl V' V'.heap.size A n c xs := by
  obtain ⟨g, hg, hgr⟩ := hb
  refine ⟨h.1, h.2.1, h.2.2.1, fun hn => ?_⟩
  obtain ⟨b, off, e, hlt, hc⟩ := h.rd hn
  refine ⟨b, off, e, Nat.lt_of_lt_of_le hlt hgr.size, fun k x hx => ?_⟩
  have h1 := hc k x hx
  rw [cell_grown hgr (by exact hlt) (fun e' => hg (off + k) x (by subst e'; exact h1))]
  exact h1
theorem Nu.sb {w w' : World} {v : Value} {k : Nat} (h : Nu w v k) (hb : Sb w w') : Nu w' v k := by
  obtain ⟨xs, A, n, c, rfl, hs, hn, hl⟩ := h
  exact ⟨xs, A, n, c, rfl, hs.sb hb, hn, hl⟩
theorem NumR.sb {w w' : World} {K p : Nat} {v : Value} (h : NumR w K p v) (hb : Sb w w') : NumR w' K p v := by
  obtain ⟨xs, A, n, c, e, hs, h2, h3, h4⟩ := h
  exact ⟨xs, A, n, c, e, hs.sb hb, h2, h3, h4⟩
/-- a condition on a value that growth keeps -/
structure Spc where
  P : Value → World → Prop
  sb : ∀ v V V', Sb V V' → P v V → P v V'
def Spc.val (c : Value) : Spc := ⟨fun v _ => v = c, fun _ _ _ _ h => h⟩
def Spc.num (k : Nat) : Spc := ⟨fun v V => Nu V v k, fun _ _ _ hb h => h.sb hb⟩
def Spc.numR (k : Nat) : Spc := ⟨fun v V => NumR V 64 k v, fun _ _ _ hb h => h.sb hb⟩
def Spc.any : Spc := ⟨fun _ _ => True, fun _ _ _ _ h => h⟩
def spcAt (L : List (Nat × Spc)) (t : Nat) (v : Value) (V : World) : Prop := match L.lookup t with
  | some s => s.P v V
  | none => True
theorem spcAt.sb {L : List (Nat × Spc)} {t : Nat} {v : Value} {V V' : World} (hb : Sb V V') (h : spcAt L t v V) : spcAt L t v V' := by
  unfold spcAt at h ⊢
  cases hl : L.lookup t with
  | none => trivial
  | some s =>
    rw [hl] at h
    exact s.sb v V V' hb h
/-- what one operation does: it yields a value, or calls -/
def OpOk (F : Fence) (n : Nat) (P : Program) (L : List (Nat × Spc)) (a' : Act) (V : World) (o : Oper) : Prop :=
  (∀ c, o.op ≠ .defer c) ∧ (∀ f, o.about P V a'.eval = some f → F.fn f) ∧ o.dst ≠ none ∧
    ((∃ v V', (execOp a'.eval o).run P V = .ok (.value v) V' ∧ Below V.heap.size V V' ∧ ∀ t, o.dst = some t → spcAt L t v V') ∨
      ∃ f args, (execOp a'.eval o).run P V = .ok (.enter f args) V ∧ CallsIn F (n - 1) P f args V fun e w' => ∃ v, e = .returned v ∧ Below V.heap.size V w' ∧ ∀ t, o.dst = some t → spcAt L t v w')
/-- a region without a store -/
theorem wpIn_region_num0 {F : Fence} {n : Nat} {P : Program} {id : Nat} {ops : Array Oper} {Q : Exit → Act → World → Prop} {a : Act} {w : World} (hF : F.depth = none) (hm : P.follows .mixedOrders = true)
    (L : List (Nat × Spc)) (hd : distinctB ops = true) (hdep : depsW ops (L.map (·.1)) [] = true) (hon : onlyB ops (L.map (·.1)) = true) (hord : orderedB ops = true) (hsz : (L.map (·.1)).all (fun t => decide (t < a.tmps.size)) = true)
    (hops : ∀ (i : Nat) (o : Oper) (a' : Act) (V : World), Below w.heap.size w V → ops[i]? = some o → (∀ t, (L.map (·.1)).contains t = false → a'.eval (.tmp t) = a.eval (.tmp t)) → (∀ t, readsB o t = true → (L.map (·.1)).contains t = true → spcAt L t (a'.eval (.tmp t)) V) → OpOk F n P L a' V o)
    (hend : ∀ (vals : Nat → Value) V, Below w.heap.size w V → (∀ (i t : Nat) (o : Oper), ops[i]? = some o → o.dst = some t → spcAt L t (vals i) V) →
      Q .normal { tmps := wrote ops vals (Array.replicate ops.size true) a.tmps ops.size, defers := a.defers } V) : (Code.region id ops true).wpIn F n P Q a w := by
  refine wpIn_region_tree hF hm (L.map (·.1)) hd hdep hon hord hsz (fun V => Below w.heap.size w V) (below_drewN (Below.refl _ w) 1) (fun _ V V' => Below V.heap.size V V') (spcAt L) (fun _ V V' _ _ hb t v h => h.sb (Sb.of_below hb)) (fun _ _ => True) (fun _ _ _ _ _ _ _ _ _ => trivial) ?_ ?_
  · intro i o a' V hI ho hev hrd
    obtain ⟨h1, h2, h3, h4⟩ := hops i o a' V hI ho hev hrd
    refine ⟨h1, h2, ?_⟩
    rcases h4 with ⟨v, V', hr, hB, hP⟩ | ⟨f, args, hr, hc⟩
    · exact .inl ⟨v, V', .inl hr, hI.trans (hB.mono hI.size), hB, hP, fun h => absurd h h3⟩
    · refine .inr ⟨f, args, hr, hc.mono ?_⟩
      rintro e w' ⟨v, rfl, hB, hP⟩
      exact ⟨v, rfl, hI.trans (hB.mono hI.size), hB, hP, fun h => absurd h h3⟩
  · intro vals V hI hP _
    exact hend vals V hI hP
/-- a block is a row of a type and a length -/
def Shp (t : TypeId) (n : Nat) (V : World) (g : Nat) : Prop := ∃ vs, RowV t V g vs ∧ vs.length = n
/-- a region with one store, its operation s, into the block gr -/
theorem wpIn_region_num1 {F : Fence} {n : Nat} {P : Program} {id : Nat} {ops : Array Oper} {Q : Exit → Act → World → Prop} {a : Act} {w : World} (hF : F.depth = none) (hm : P.follows .mixedOrders = true)
    (L : List (Nat × Spc)) (hd : distinctB ops = true) (hdep : depsW ops (L.map (·.1)) [] = true) (hon : onlyB ops (L.map (·.1)) = true) (hord : orderedB ops = true) (hsz : (L.map (·.1)).all (fun t => decide (t < a.tmps.size)) = true)
    (gr s : Nat) (hs0 : ∃ o, ops[s]? = some o ∧ o.dst = none) (hgr : gr < w.heap.size) (hno : NoU w gr) (tr : TypeId) (nr : Nat) (hshp : Shp tr nr w gr) (Ps : World → Prop) (hPs : ∀ V V', gr < V.heap.size → Below V.heap.size V V' → Ps V → Ps V')
    (hops : ∀ (i : Nat) (o : Oper) (a' : Act) (V : World), i ≠ s → w.grownBy V (some gr) → ops[i]? = some o → (∀ t, (L.map (·.1)).contains t = false → a'.eval (.tmp t) = a.eval (.tmp t)) → (∀ t, readsB o t = true → (L.map (·.1)).contains t = true → spcAt L t (a'.eval (.tmp t)) V) → OpOk F n P L a' V o)
    (hs : ∀ (o : Oper) (a' : Act) (V : World), w.grownBy V (some gr) → NoU V gr → Shp tr nr V gr → ops[s]? = some o → (∀ t, (L.map (·.1)).contains t = false → a'.eval (.tmp t) = a.eval (.tmp t)) → (∀ t, readsB o t = true → (L.map (·.1)).contains t = true → spcAt L t (a'.eval (.tmp t)) V) →
      (∀ c, o.op ≠ .defer c) ∧ (∀ f, o.about P V a'.eval = some f → F.fn f) ∧ o.dst = none ∧ ∃ V', (execOp a'.eval o).run P V = .ok .skip V' ∧ V.grownBy V' (some gr) ∧ NoU V' gr ∧ Shp tr nr V' gr ∧ Ps V')
    (hend : ∀ (vals : Nat → Value) V, w.grownBy V (some gr) → NoU V gr → (∀ (i t : Nat) (o : Oper), ops[i]? = some o → o.dst = some t → spcAt L t (vals i) V) → Ps V →
      Q .normal { tmps := wrote ops vals (Array.replicate ops.size true) a.tmps ops.size, defers := a.defers } V) : (Code.region id ops true).wpIn F n P Q a w := by
  have hgt : ∀ {A B C : World}, A.grownBy B (some gr) → B.grownBy C (some gr) → A.grownBy C (some gr) := fun h k =>
    ⟨k.os.trans h.os, k.tape.trans h.tape, k.output.trans h.output, Nat.le_trans h.size k.size, fun i hi hn => (k.block i (Nat.lt_of_lt_of_le hi h.size) hn).trans (h.block i hi hn)⟩
  have hbg : ∀ {A B : World}, Below A.heap.size A B → A.grownBy B (some gr) := fun h => ⟨h.os, h.tape, h.output, h.size, fun i hi _ => h.block i hi⟩
  refine wpIn_region_tree hF hm (L.map (·.1)) hd hdep hon hord hsz (fun V => w.grownBy V (some gr) ∧ NoU V gr ∧ Shp tr nr V gr) ⟨hbg (below_drewN (Below.refl _ w) 1), hno, hshp⟩
    (fun i V V' => if i = s then V.grownBy V' (some gr) else Below V.heap.size V V') (spcAt L) ?_ (fun i V => i = s → Ps V) ?_ ?_ ?_
  · intro i V V' hI _ hb t v h
    refine h.sb ?_
    change (if i = s then _ else _) at hb
    by_cases e : i = s
    · rw [if_pos e] at hb
      exact ⟨gr, hI.2.1, hb⟩
    · rw [if_neg e] at hb
      exact Sb.of_below hb
  · intro i V V' hI _ hb j hj h e
    change (if i = s then _ else _) at hb
    rw [if_neg (fun e' => hj (by rw [e, e']))] at hb
    exact hPs V V' (Nat.lt_of_lt_of_le hgr hI.1.size) hb (h e)
  · intro i o a' V hI ho hev hrd
    have hgV := Nat.lt_of_lt_of_le hgr hI.1.size
    have hkeep : ∀ V', Below V.heap.size V V' → w.grownBy V' (some gr) ∧ NoU V' gr ∧ Shp tr nr V' gr := fun V' hB => ⟨hgt hI.1 (hbg hB), fun off x hx => hI.2.1 off x (by rw [← hx]; exact (hB.cell (p := ⟨gr, off, none⟩) hgV).symm), by obtain ⟨vs, h1, h2⟩ := hI.2.2; exact ⟨vs, h1.later hB, h2⟩⟩
    by_cases e : i = s
    · subst e
      obtain ⟨h1, h2, h3, V', hr, hB, hN, hsh, hP⟩ := hs o a' V hI.1 hI.2.1 hI.2.2 ho hev hrd
      exact ⟨h1, h2, .inl ⟨undef, V', .inr ⟨hr, rfl⟩, ⟨hgt hI.1 hB, hN, hsh⟩, (by show (if i = i then _ else _); rw [if_pos rfl]; exact hB), (fun t ht => absurd ht (by rw [h3]; simp)), fun _ _ => hP⟩⟩
    · obtain ⟨h1, h2, h3, h4⟩ := hops i o a' V e hI.1 ho hev hrd
      refine ⟨h1, h2, ?_⟩
      rcases h4 with ⟨v, V', hr, hB, hP⟩ | ⟨f, args, hr, hc⟩
      · exact .inl ⟨v, V', .inl hr, hkeep V' hB, (by show (if i = s then _ else _); rw [if_neg e]; exact hB), hP, fun h => absurd h h3⟩
      · refine .inr ⟨f, args, hr, hc.mono ?_⟩
        rintro e' w' ⟨v, rfl, hB, hP⟩
        exact ⟨v, rfl, hkeep w' hB, (by show (if i = s then _ else _); rw [if_neg e]; exact hB), hP, fun h => absurd h h3⟩
  · intro vals V hI hP hN
    obtain ⟨o, ho, hd'⟩ := hs0
    exact hend vals V hI.1 hI.2.1 hP (hN s o ho hd' rfl)
end Go.Proofs.Ytmmmcbklgmjalaa

/- curve: a field's triple and cross. -/
set_option linter.unusedVariables false
set_option linter.unusedSimpArgs false
namespace Go.Proofs.Ytmmmcbklgmjalaa
open Go.RowKit

set_option maxRecDepth 100000 in
set_option maxHeartbeats 1600000 in
theorem ftrip_any (w : World) (m a : Value) (p x : Nat) (hm : NumR w 64 p m) (ha : NumR w 64 x a) (hx : x < p) (hp : p + p < b64 ^ 64) :
    Calls Try.prog 53 #[Fd m, a] w fun e w' => RetU w (sumN p (sumN p x x) x) e w' := by
  obtain ⟨hba, hc0, hsz⟩ := fd_new w m
  have hmx : Try.prog.follows .mixedOrders = true := by kernel_rfl
  have HA := Lib.hid (ha.later hba)
  have HM := Lib.hid (hm.later hba)
  have HX := Lib.hid hx
  have HP := Lib.hid hp
  have HBA := Lib.hid hba
  have HC0 := Lib.hid hc0
  have HSZ := Lib.hid hsz
  clear hm ha hx hp hba hc0 hsz
  go_enter Try.func53, Try.ntmps53
  go_wp2_with fail
  refine (wpIn_wide (n := 9)).1 (wpIn_region_num0 rfl hmx [(5, .val (Fd m)), (6, .val (Fd m)), (7, .val (a)), (8, .val (a)), (9, .num (sumN p x x)), (10, .val (a)), (11, .num (sumN p (sumN p x x) x)), (4, .num (sumN p (sumN p x x) x))] (by kernel_rfl) (by kernel_rfl) (by kernel_rfl) (by kernel_rfl) (by rfl) ?hops ?hend)
  case hops =>
    intro i o a' V hB ho hev hrd
    have his : i < 8 := by have := (Array.getElem?_eq_some_iff.1 ho).1; simpa using this
    have hMV := HM.out.later hB
    have hAV := HA.out.later hB
    have hcV : V.cell? ⟨w.heap.size, 0, none⟩ = some m := (hB.cell (by rw [HSZ.out]; exact Nat.lt_succ_self _)).trans HC0.out
    have hcase : i = 0 ∨ i = 1 ∨ i = 2 ∨ i = 3 ∨ i = 4 ∨ i = 5 ∨ i = 6 ∨ i = 7 := by omega
    rcases hcase with rfl | rfl | rfl | rfl | rfl | rfl | rfl | rfl
    · simp at ho
      subst ho
      have r2 := hev 2 (by rfl)
      simp [Act.eval] at r2
      refine ⟨(by intro c h; cases h), fun _ _ => trivial, (by simp), .inl ⟨Fd m, V, ?_, Below.refl _ _, fun t ht => by obtain rfl : 5 = t := Option.some.inj ht; rfl⟩⟩
      simp [execOp, Act.eval, go_sem, r2, hcV]
    · simp at ho
      subst ho
      have r2 := hev 2 (by rfl)
      simp [Act.eval] at r2
      refine ⟨(by intro c h; cases h), fun _ _ => trivial, (by simp), .inl ⟨Fd m, V, ?_, Below.refl _ _, fun t ht => by obtain rfl : 6 = t := Option.some.inj ht; rfl⟩⟩
      simp [execOp, Act.eval, go_sem, r2, hcV]
    · simp at ho
      subst ho
      have r1 := hev 1 (by rfl)
      simp [Act.eval] at r1
      refine ⟨(by intro c h; cases h), fun _ _ => trivial, (by simp), .inl ⟨a, V, ?_, Below.refl _ _, fun t ht => by obtain rfl : 7 = t := Option.some.inj ht; rfl⟩⟩
      simp [execOp, Act.eval, go_sem, r1, hcV]
    · simp at ho
      subst ho
      have r1 := hev 1 (by rfl)
      simp [Act.eval] at r1
      refine ⟨(by intro c h; cases h), fun _ _ => trivial, (by simp), .inl ⟨a, V, ?_, Below.refl _ _, fun t ht => by obtain rfl : 8 = t := Option.some.inj ht; rfl⟩⟩
      simp [execOp, Act.eval, go_sem, r1, hcV]
    · simp at ho
      subst ho
      have r6 : a'.eval (.tmp 6) = Fd m := hrd 6 (by rfl) (by rfl)
      simp [Act.eval] at r6
      have r7 : a'.eval (.tmp 7) = a := hrd 7 (by rfl) (by rfl)
      simp [Act.eval] at r7
      have r8 : a'.eval (.tmp 8) = a := hrd 8 (by rfl) (by rfl)
      simp [Act.eval] at r8
      refine ⟨(by intro c h; cases h), fun _ _ => trivial, (by simp), .inr ⟨55, #[Fd m, a, a], ?_, (callsIn_wide.2 (fsum_any V m a a p x x hMV hAV hAV (by have := HX.out; have := HP.out; omega))).mono ?_⟩⟩
      · simp [execOp, Act.eval, r6, r7, r8, resolve, invoke, Deferred.ofValue]
      · rintro e w' ⟨v, rfl, hv, hB2⟩
        exact ⟨_, rfl, hB2, fun t ht => by obtain rfl : 9 = t := Option.some.inj ht; exact hv⟩
    · simp at ho
      subst ho
      have r1 := hev 1 (by rfl)
      simp [Act.eval] at r1
      refine ⟨(by intro c h; cases h), fun _ _ => trivial, (by simp), .inl ⟨a, V, ?_, Below.refl _ _, fun t ht => by obtain rfl : 10 = t := Option.some.inj ht; rfl⟩⟩
      simp [execOp, Act.eval, go_sem, r1, hcV]
    · simp at ho
      subst ho
      have r5 : a'.eval (.tmp 5) = Fd m := hrd 5 (by rfl) (by rfl)
      simp [Act.eval] at r5
      have r9 : Nu V (a'.eval (.tmp 9)) (sumN p x x) := hrd 9 (by rfl) (by rfl)
      have r10 : a'.eval (.tmp 10) = a := hrd 10 (by rfl) (by rfl)
      simp [Act.eval] at r10
      refine ⟨(by intro c h; cases h), fun _ _ => trivial, (by simp), .inr ⟨55, #[Fd m, a'.eval (.tmp 9), a], ?_, (callsIn_wide.2 (fsum_any V m _ a p (sumN p x x) x hMV r9.gu hAV (by have := HX.out; have := HP.out; have := sumN_lt HX.out HX.out; omega))).mono ?_⟩⟩
      · simp [execOp, Act.eval, r5, r10, resolve, invoke, Deferred.ofValue]
      · rintro e w' ⟨v, rfl, hv, hB2⟩
        exact ⟨_, rfl, hB2, fun t ht => by obtain rfl : 11 = t := Option.some.inj ht; exact hv⟩
    · simp at ho
      subst ho
      have r11 : Nu V (a'.eval (.tmp 11)) (sumN p (sumN p x x) x) := hrd 11 (by rfl) (by rfl)
      refine ⟨(by intro c h; cases h), fun _ _ => trivial, (by simp), .inl ⟨a'.eval (.tmp 11), V, ?_, Below.refl _ _, fun t ht => by obtain rfl : 4 = t := Option.some.inj ht; exact r11⟩⟩
      simp [execOp]
  case hend =>
    intro vals V hB hP
    have p4 : Nu V (vals 7) (sumN p (sumN p x x) x) := hP 7 4 _ rfl rfl
    have HP4 := Lib.hid p4
    clear p4 hP
    simp [wrote, Act.put]
    go_wp2
    go_ret
    exact ⟨_, rfl, HP4.out, HBA.out.trans (hB.mono HBA.out.size)⟩

set_option maxRecDepth 100000 in
set_option maxHeartbeats 1600000 in
theorem fcross_any (w : World) (m a1 a2 a3 a4 : Value) (p x1 x2 x3 x4 : Nat) (hm : NumR w 64 p m) (h1 : NumR w 64 x1 a1) (h2 : NumR w 64 x2 a2) (h3 : NumR w 64 x3 a3) (h4 : NumR w 64 x4 a4) (hp : 0 < p ∧ p + p < b64 ^ 64) :
    Calls Try.prog 52 #[Fd m, a1, a2, a3, a4] w fun e w' => RetU w (sumN p (x1 * x4 % p) (x2 * x3 % p)) e w' := by
  obtain ⟨hba, hc0, hsz⟩ := fd_new w m
  have hmx : Try.prog.follows .mixedOrders = true := by kernel_rfl
  have HA1 := Lib.hid (h1.later hba)
  have HA2 := Lib.hid (h2.later hba)
  have HA3 := Lib.hid (h3.later hba)
  have HA4 := Lib.hid (h4.later hba)
  have HM := Lib.hid (hm.later hba)
  have HP := Lib.hid hp
  have HBA := Lib.hid hba
  have HC0 := Lib.hid hc0
  have HSZ := Lib.hid hsz
  clear hm h1 h2 h3 h4 hp hba hc0 hsz
  go_enter Try.func52, Try.ntmps52
  go_wp2_with fail
  refine (wpIn_wide (n := 9)).1 (wpIn_region_num0 rfl hmx [(11, .val (Fd m)), (12, .val (Fd m)), (13, .val (a1)), (14, .val (a4)), (15, .num (x1 * x4 % p)), (16, .val (Fd m)), (17, .val (a2)), (18, .val (a3)), (19, .num (x2 * x3 % p)), (20, .num (sumN p (x1 * x4 % p) (x2 * x3 % p))), (10, .num (sumN p (x1 * x4 % p) (x2 * x3 % p)))] (by kernel_rfl) (by kernel_rfl) (by kernel_rfl) (by kernel_rfl) (by rfl) ?hops ?hend)
  case hops =>
    intro i o a' V hB ho hev hrd
    have his : i < 11 := by have := (Array.getElem?_eq_some_iff.1 ho).1; simpa using this
    have hMV := HM.out.later hB
    have h1V := HA1.out.later hB
    have h2V := HA2.out.later hB
    have h3V := HA3.out.later hB
    have h4V := HA4.out.later hB
    have hcV : V.cell? ⟨w.heap.size, 0, none⟩ = some m := (hB.cell (by rw [HSZ.out]; exact Nat.lt_succ_self _)).trans HC0.out
    have hcase : i = 0 ∨ i = 1 ∨ i = 2 ∨ i = 3 ∨ i = 4 ∨ i = 5 ∨ i = 6 ∨ i = 7 ∨ i = 8 ∨ i = 9 ∨ i = 10 := by omega
    rcases hcase with rfl | rfl | rfl | rfl | rfl | rfl | rfl | rfl | rfl | rfl | rfl
    · simp at ho
      subst ho
      have r5 := hev 5 (by rfl)
      simp [Act.eval] at r5
      refine ⟨(by intro c h; cases h), fun _ _ => trivial, (by simp), .inl ⟨Fd m, V, ?_, Below.refl _ _, fun t ht => by obtain rfl : 11 = t := Option.some.inj ht; rfl⟩⟩
      simp [execOp, Act.eval, go_sem, r5, hcV]
    · simp at ho
      subst ho
      have r5 := hev 5 (by rfl)
      simp [Act.eval] at r5
      refine ⟨(by intro c h; cases h), fun _ _ => trivial, (by simp), .inl ⟨Fd m, V, ?_, Below.refl _ _, fun t ht => by obtain rfl : 12 = t := Option.some.inj ht; rfl⟩⟩
      simp [execOp, Act.eval, go_sem, r5, hcV]
    · simp at ho
      subst ho
      have r1 := hev 1 (by rfl)
      simp [Act.eval] at r1
      refine ⟨(by intro c h; cases h), fun _ _ => trivial, (by simp), .inl ⟨a1, V, ?_, Below.refl _ _, fun t ht => by obtain rfl : 13 = t := Option.some.inj ht; rfl⟩⟩
      simp [execOp, Act.eval, go_sem, r1, hcV]
    · simp at ho
      subst ho
      have r4 := hev 4 (by rfl)
      simp [Act.eval] at r4
      refine ⟨(by intro c h; cases h), fun _ _ => trivial, (by simp), .inl ⟨a4, V, ?_, Below.refl _ _, fun t ht => by obtain rfl : 14 = t := Option.some.inj ht; rfl⟩⟩
      simp [execOp, Act.eval, go_sem, r4, hcV]
    · simp at ho
      subst ho
      have r12 : a'.eval (.tmp 12) = Fd m := hrd 12 (by rfl) (by rfl)
      simp [Act.eval] at r12
      have r13 : a'.eval (.tmp 13) = a1 := hrd 13 (by rfl) (by rfl)
      simp [Act.eval] at r13
      have r14 : a'.eval (.tmp 14) = a4 := hrd 14 (by rfl) (by rfl)
      simp [Act.eval] at r14
      refine ⟨(by intro c h; cases h), fun _ _ => trivial, (by simp), .inr ⟨51, #[Fd m, a1, a4], ?_, (callsIn_wide.2 (fprod_any V m a1 a4 p x1 x4 hMV h1V h4V (by have := HP.out.1; omega))).mono ?_⟩⟩
      · simp [execOp, Act.eval, r12, r13, r14, resolve, invoke, Deferred.ofValue]
      · rintro e w' ⟨v, rfl, hv, hB2⟩
        exact ⟨_, rfl, hB2, fun t ht => by obtain rfl : 15 = t := Option.some.inj ht; exact hv⟩
    · simp at ho
      subst ho
      have r5 := hev 5 (by rfl)
      simp [Act.eval] at r5
      refine ⟨(by intro c h; cases h), fun _ _ => trivial, (by simp), .inl ⟨Fd m, V, ?_, Below.refl _ _, fun t ht => by obtain rfl : 16 = t := Option.some.inj ht; rfl⟩⟩
      simp [execOp, Act.eval, go_sem, r5, hcV]
    · simp at ho
      subst ho
      have r2 := hev 2 (by rfl)
      simp [Act.eval] at r2
      refine ⟨(by intro c h; cases h), fun _ _ => trivial, (by simp), .inl ⟨a2, V, ?_, Below.refl _ _, fun t ht => by obtain rfl : 17 = t := Option.some.inj ht; rfl⟩⟩
      simp [execOp, Act.eval, go_sem, r2, hcV]
    · simp at ho
      subst ho
      have r3 := hev 3 (by rfl)
      simp [Act.eval] at r3
      refine ⟨(by intro c h; cases h), fun _ _ => trivial, (by simp), .inl ⟨a3, V, ?_, Below.refl _ _, fun t ht => by obtain rfl : 18 = t := Option.some.inj ht; rfl⟩⟩
      simp [execOp, Act.eval, go_sem, r3, hcV]
    · simp at ho
      subst ho
      have r16 : a'.eval (.tmp 16) = Fd m := hrd 16 (by rfl) (by rfl)
      simp [Act.eval] at r16
      have r17 : a'.eval (.tmp 17) = a2 := hrd 17 (by rfl) (by rfl)
      simp [Act.eval] at r17
      have r18 : a'.eval (.tmp 18) = a3 := hrd 18 (by rfl) (by rfl)
      simp [Act.eval] at r18
      refine ⟨(by intro c h; cases h), fun _ _ => trivial, (by simp), .inr ⟨51, #[Fd m, a2, a3], ?_, (callsIn_wide.2 (fprod_any V m a2 a3 p x2 x3 hMV h2V h3V (by have := HP.out.1; omega))).mono ?_⟩⟩
      · simp [execOp, Act.eval, r16, r17, r18, resolve, invoke, Deferred.ofValue]
      · rintro e w' ⟨v, rfl, hv, hB2⟩
        exact ⟨_, rfl, hB2, fun t ht => by obtain rfl : 19 = t := Option.some.inj ht; exact hv⟩
    · simp at ho
      subst ho
      have r11 : a'.eval (.tmp 11) = Fd m := hrd 11 (by rfl) (by rfl)
      simp [Act.eval] at r11
      have r15 : Nu V (a'.eval (.tmp 15)) (x1 * x4 % p) := hrd 15 (by rfl) (by rfl)
      have r19 : Nu V (a'.eval (.tmp 19)) (x2 * x3 % p) := hrd 19 (by rfl) (by rfl)
      refine ⟨(by intro c h; cases h), fun _ _ => trivial, (by simp), .inr ⟨55, #[Fd m, a'.eval (.tmp 15), a'.eval (.tmp 19)], ?_, (callsIn_wide.2 (fsum_any V m _ _ p _ _ hMV r15.gu r19.gu (by have := HP.out; have := Nat.mod_lt (x1 * x4) HP.out.1; have := Nat.mod_lt (x2 * x3) HP.out.1; omega))).mono ?_⟩⟩
      · simp [execOp, Act.eval, r11, resolve, invoke, Deferred.ofValue]
      · rintro e w' ⟨v, rfl, hv, hB2⟩
        exact ⟨_, rfl, hB2, fun t ht => by obtain rfl : 20 = t := Option.some.inj ht; exact hv⟩
    · simp at ho
      subst ho
      have r20 : Nu V (a'.eval (.tmp 20)) (sumN p (x1 * x4 % p) (x2 * x3 % p)) := hrd 20 (by rfl) (by rfl)
      refine ⟨(by intro c h; cases h), fun _ _ => trivial, (by simp), .inl ⟨a'.eval (.tmp 20), V, ?_, Below.refl _ _, fun t ht => by obtain rfl : 10 = t := Option.some.inj ht; exact r20⟩⟩
      simp [execOp]
  case hend =>
    intro vals V hB hP
    have p4 : Nu V (vals 10) (sumN p (x1 * x4 % p) (x2 * x3 % p)) := hP 10 10 _ rfl rfl
    have HP4 := Lib.hid p4
    clear p4 hP
    simp [wrote, Act.put]
    go_wp2
    go_ret
    exact ⟨_, rfl, HP4.out, HBA.out.trans (hB.mono HBA.out.size)⟩

end Go.Proofs.Ytmmmcbklgmjalaa

/- slices.Clone and slices.Reverse of numbers; curve's number. -/
set_option linter.unusedVariables false
set_option linter.unusedSimpArgs false
namespace Go.Proofs.Ytmmmcbklgmjalaa
open Go.RowKit

theorem Try.elemU : Elem Try.prog 23 49 (.int .u64 0) 8 := ⟨Try.underlying23, by kernel_rfl, rfl, rfl, by decide⟩
theorem onesU (xs : List Nat) : ∀ v ∈ xs.map U, v.oneCell' = true := by
  intro v hv
  obtain ⟨x, _, rfl⟩ := List.mem_map.1 hv
  rfl
theorem own_emptyU (w : World) (e : TypeId) : (w.alloc (.cells #[] e (0, 0))).ownsRow w.heap.size e 1 (.slice (some ⟨w.heap.size, 0, none⟩) 0 0) 0 [] :=
  ⟨rfl, .inr ⟨w.heap.size, 0, #[], rfl, Nat.le_refl _, heap_alloc_new w _, Nat.le_refl _, by decide, rfl, rfl⟩⟩
set_option maxRecDepth 100000 in
set_option maxHeartbeats 1000000 in
theorem cloneU_any (w : World) (B : Nat) (p : Addr) (n c : Nat) (xs : List Nat) (hs : SlV w B (some p) n c (xs.map U)) (hB : B ≤ w.heap.size) (hn : n ≤ 17592186044416) :
    Calls Try.prog 70 #[.slice (some p) n c] w fun e w' => ∃ v, e = .returned v ∧ w'.ownsRow w.heap.size 49 1 v n (xs.map U) ∧ Below w.heap.size w w' := by
  obtain ⟨W1, e1, r1, b1, z1⟩ : ∃ W, w.alloc (.cells #[] 49) = W ∧ RowV 49 W w.heap.size [] ∧ Below w.heap.size w W ∧ W.heap.size = w.heap.size + 1 :=
    ⟨_, rfl, RowV.new w _ [], (Below.refl _ w).alloc (Nat.le_refl _) _, by simp⟩
  have ho := own_emptyU w 49
  rw [e1] at ho
  have hs1 := hs.below (b1.mono hB)
  obtain ⟨g, hg⟩ : ∃ g, w.heap.size = g := ⟨_, rfl⟩
  rw [hg] at ho b1 hB
  have hgz : g ≤ W1.heap.size := by omega
  have HG := Lib.hid hg
  have HB := Lib.hid b1
  clear hs r1 b1
  have q22 : ∀ (w : World) (a : Option Addr) (n c n' c' : Nat), (binOp .eql 23 (.slice a n c) (.slice none n' c')).run Try.prog w = .ok (.bool a.isNone) w := fun w a n c n' c' => Lib.run_eql_slice_nil w _ _ a n c n' c' Try.underlying23
  go_enter Try.func70, Try.ntmps70
  go_wp2_with (at_builtin; refine wlv_append Try.elemU rfl _ _ rfl g _ 0 [] rfl ho (some p) n c (xs.map U) rfl (by intro h; cases h) B hs1 (onesU xs) (by omega) hgz ?_; intro v' w2 hown hgr)
  go_ret
  refine ⟨v', rfl, ?_, by rw [HG.out]; exact HB.out.grown hgr hgz (fun k hk => by injection hk with hk; first | omega | exact Nat.le_of_eq hk | exact Nat.le_of_eq hk.symm)⟩
  rw [HG.out]
  simpa using hown

/-- the row behind k exchanges -/
def rvk (n : Nat) (xs : List Nat) : Nat → List Nat
  | 0 => xs
  | k + 1 => ((rvk n xs k).set k ((rvk n xs k).getD (n - 1 - k) 0)).set (n - 1 - k) ((rvk n xs k).getD k 0)
theorem rvk_length (n : Nat) (xs : List Nat) : ∀ k, (rvk n xs k).length = xs.length
  | 0 => rfl
  | k + 1 => by simp [rvk, rvk_length n xs k]
theorem row_at {w : World} {g : Nat} {zs : List Nat} {rest : List Value} (h : RowV 49 w g (zs.map U ++ rest)) {i x : Nat} (hx : zs[i]? = some x) : w.cell? ⟨g, i, none⟩ = some (.int .u64 (x : Int)) := by
  refine h.at_ ?_
  rw [List.getElem?_append_left (by have := (List.getElem?_eq_some_iff.1 hx).1; simpa using this), List.getElem?_map, hx]
  rfl
theorem row_set {w : World} {g : Nat} {zs : List Nat} {rest : List Value} (h : RowV 49 w g (zs.map U ++ rest)) {i : Nat} (hi : i < zs.length) (x : Nat) : RowV 49 (w.setCell ⟨g, i, none⟩ (.int .u64 (x : Int))) g ((zs.set i x).map U ++ rest) := by
  have h2 := h.set i (U x)
  rw [List.set_append_left _ _ (by simpa using hi), ← List.map_set] at h2
  exact h2
theorem grown_set {a w : World} {g : Nat} (h : a.grownBy w (some g)) (i : Nat) (u : Value) : a.grownBy (w.setCell ⟨g, i, none⟩ u) (some g) :=
  ⟨h.os, h.tape, h.output, by simpa [World.setCell] using h.size, fun k hk hn => (Below.heap_setCell _ _ _ _ (fun e => hn (by rw [e]))).trans (h.block k hk hn)⟩
theorem grown_draw {a w : World} {g : Nat} (h : a.grownBy w (some g)) : a.grownBy w.drew (some g) := ⟨h.os, h.tape, h.output, h.size, h.block⟩
set_option maxRecDepth 100000 in
set_option maxHeartbeats 1000000 in
theorem revU_any (w : World) (g n c : Nat) (xs : List Nat) (rest : List Value) (hr : RowV 49 w g (xs.map U ++ rest)) (hn : n = xs.length) (hn1 : n ≤ 1000000) :
    Calls Try.prog 71 #[.slice (some ⟨g, 0, none⟩) n c] w fun e w' => e = .returned (.tuple #[]) ∧ RowV 49 w' g ((rvk n xs (n / 2)).map U ++ rest) ∧ w.grownBy w' (some g) := by
  have HN := Lib.hid hn
  clear hn
  go_enter Try.func71, Try.ntmps71
  go_wp2
  go_loopw [2, 3] (fun s2 s3 wr => ∃ k, k ≤ n / 2 ∧ s2 = .int .i64 (k : Nat) ∧ s3 = .int .i64 ((n : Int) - 1 - k) ∧ RowV 49 wr g ((rvk n xs k).map U ++ rest) ∧ w.grownBy wr (some g)) (fun s2 _ _ => n - (intOf s2).toNat)
  case atStart => exact ⟨0, Nat.zero_le _, rfl, by simp, hr, World.grownBy.refl w _⟩
  case round =>
    obtain ⟨k, hk, rfl, rfl, hrow, hgr⟩ := hrel
    by_cases hlt : (k : Int) < (n : Int) - 1 - k
    · obtain ⟨j, hj⟩ : ∃ j, n - 1 - k = j := ⟨_, rfl⟩
      have e1 : (n : Int) - 1 - k = (j : Int) := by omega
      rw [e1] at hlt ⊢
      have hjn : (j : Int) < n := by omega
      have hkn : (k : Int) < n := by omega
      obtain ⟨zs, hzs⟩ : ∃ zs, rvk n xs k = zs := ⟨_, rfl⟩
      have hzl : zs.length = xs.length := by rw [← hzs, rvk_length]
      have hstep : rvk n xs (k + 1) = (zs.set k (zs.getD j 0)).set j (zs.getD k 0) := by rw [rvk, hzs, hj]
      rw [hzs] at hrow
      have hjz : j < zs.length := by have := HN.out; omega
      have hkz : k < zs.length := by have := HN.out; omega
      have hcj := row_at hrow (i := j) (x := zs.getD j 0) (by rw [List.getD_eq_getElem?_getD, List.getElem?_eq_getElem hjz]; rfl)
      have hck := row_at hrow (i := k) (x := zs.getD k 0) (by rw [List.getD_eq_getElem?_getD, List.getElem?_eq_getElem hkz]; rfl)
      have hf := hrow.frozen
      have hset := row_set (row_set hrow hkz (zs.getD j 0)) (i := j) (by simpa using hjz) (zs.getD k 0)
      obtain ⟨a, ha⟩ : ∃ a, zs.getD j 0 = a := ⟨_, rfl⟩
      obtain ⟨b, hb⟩ : ∃ b, zs.getD k 0 = b := ⟨_, rfl⟩
      rw [ha] at hcj hstep hset
      rw [hb] at hck hstep hset
      rw [← hstep] at hset
      have HK := Lib.hid hk
      have HJ := Lib.hid hj
      have HSET := Lib.hid hset
      have hk2 : (k : Int) + 1 ≤ 9223372036854775807 := by omega
      clear hstep hj hk hzs hzl ha hb hjz hkz e1 hset
      go_wp2
      go_region
      go_wp2
      go_roundw
      case rel =>
        refine ⟨k + 1, by have := HK.out; have := HJ.out; omega, by go_num, ?_, HSET.out, grown_draw (grown_set (grown_set hgr _ _) _ _)⟩
        have := HJ.out
        congr 1
        omega
      case measure => simp [intOf]; omega
    · have hkk : k = n / 2 := by omega
      subst hkk
      go_wp2
      go_end0
      exact ⟨rfl, hrow, hgr⟩
theorem rvk4 (a b c d : Nat) : rvk 4 [a, b, c, d] 2 = [d, c, b, a] := rfl
theorem rvk6 (a b c d e f : Nat) : rvk 6 [a, b, c, d, e, f] 3 = [f, e, d, c, b, a] := rfl
/-- the number whose limbs are told, the highest first -/
theorem numb_any (w : World) (B : Nat) (hB : B ≤ w.heap.size) (p : Addr) (n c : Nat) (xs : List Nat) (hs : SlV w B (some p) n c (xs.map U)) (hn : n = xs.length) (hn0 : 0 < n) (hn1 : n ≤ 60) :
    Calls Try.prog 60 #[.slice (some p) n c] w fun e w' => ∃ A c', e = .returned (.slice A n c') ∧ Sl w' w'.heap.size A n c' (rvk n xs (n / 2)) ∧ Below w.heap.size w w' := by
  have HC := Lib.hid (cloneU_any w B p n c xs hs hB (by omega))
  have HN := Lib.hid hn
  clear hs hn
  go_enter Try.func60, Try.ntmps60
  go_wp2_with fail
  refine HC.out.mono ?_
  rintro e w1 ⟨v, rfl, hown, hb⟩
  rcases hown with ⟨hl, ⟨rfl, h0⟩ | ⟨g, cap, cur, rfl, hg, hrow, hc1, hc2, hc3, hcs⟩⟩
  · omega
  have hr : RowV 49 w1 g (xs.map U ++ cur.toList.drop n) := by
    unfold RowV
    rw [hrow, ← hcs, Nat.mul_one, List.take_append_drop]
  have HR := Lib.hid (revU_any w1 g n cap xs (cur.toList.drop n) hr HN.out (by omega))
  have HB := Lib.hid hb
  have HG := Lib.hid hg
  have HC2 := Lib.hid (show n ≤ cap ∧ cap ≤ 9223372036854775807 from ⟨hc1, by simpa [maxLen] using hc2⟩)
  clear hl hrow hc1 hc2 hc3 hcs hr hb hg
  go_wp2_with fail
  refine HR.out.mono ?_
  rintro e w2 ⟨rfl, hrow2, hgr⟩
  have HR2 := Lib.hid hrow2
  have HGR := Lib.hid hgr
  clear hrow2 hgr
  go_wp2
  go_ret
  have hlen : (rvk n xs (n / 2)).length = n := by rw [rvk_length, ← HN.out]
  refine ⟨_, _, rfl, ⟨hlen.symm, HC2.out.1, HC2.out.2, fun _ => ⟨g, 0, rfl, HR2.out.lt, fun k x hx => ?_⟩⟩, ?_⟩
  · rw [Nat.zero_add]
    exact row_at HR2.out hx
  · have h1 := HB.out
    have h2 := HGR.out
    have h3 := HG.out
    exact ⟨h2.os.trans h1.os, h2.tape.trans h1.tape, h2.output.trans h1.output, Nat.le_trans h1.size h2.size, fun i hi => (h2.block i (Nat.lt_of_lt_of_le hi h1.size) (fun e => by injection e with e; omega)).trans (h1.block i hi)⟩
end Go.Proofs.Ytmmmcbklgmjalaa

/- Unsigned numbers as bit vectors. -/
set_option linter.unusedVariables false
namespace Go.Proofs.Ytmmmcbklgmjalaa
open Go.RowKit

/-- the numbers, in words that simp leaves alone -/
def i8 (x : BitVec 8) : Int := (x.toNat : Int)
def i32 (x : BitVec 32) : Int := (x.toNat : Int)
def i64 (x : BitVec 64) : Int := (x.toNat : Int)
abbrev W8 (x : BitVec 8) : Value := .int .u8 (i8 x)
abbrev W32 (x : BitVec 32) : Value := .int .u32 (i32 x)
abbrev W64 (x : BitVec 64) : Value := .int .u64 (i64 x)

theorem b32_and (x y : BitVec 32) : bits .and .u32 (i32 x) (i32 y) = i32 (x &&& y) := by
  unfold i32; rw [u32_and_nat _ _ x.isLt y.isLt, BitVec.toNat_and]
theorem b32_or (x y : BitVec 32) : bits .or .u32 (i32 x) (i32 y) = i32 (x ||| y) := by
  unfold i32; rw [u32_or_nat _ _ x.isLt y.isLt, BitVec.toNat_or]
theorem b32_xor (x y : BitVec 32) : bits .xor .u32 (i32 x) (i32 y) = i32 (x ^^^ y) := by
  unfold i32; rw [u32_xor_nat _ _ x.isLt y.isLt, BitVec.toNat_xor]
theorem b32_not (x : BitVec 32) : bits .xor .u32 IntKind.u32.max (i32 x) = i32 (~~~x) := by
  have h : IntKind.u32.max = i32 (BitVec.allOnes 32) := by decide
  rw [h, b32_xor, BitVec.allOnes_xor]
theorem b32_add' (x y : BitVec 32) : (i32 x + i32 y) % 4294967296 = i32 (x + y) := by
  unfold i32; rw [BitVec.toNat_add]; omega
theorem b32_add (x y : BitVec 32) : IntKind.u32.wrap (i32 x + i32 y) = i32 (x + y) := by rw [IntKind.wrap_u32', b32_add']
theorem b32_shl' (x : BitVec 32) (s : Nat) : i32 x * 2 ^ s % 4294967296 = i32 (x <<< s) := by
  unfold i32; rw [BitVec.toNat_shiftLeft, Nat.shiftLeft_eq]; simp
theorem b32_shl (x : BitVec 32) (s : Nat) : IntKind.u32.wrap (i32 x * 2 ^ s) = i32 (x <<< s) := by rw [IntKind.wrap_u32', b32_shl']
theorem b32_shr (x : BitVec 32) (s : Nat) : i32 x / 2 ^ s = i32 (x >>> s) := by
  unfold i32; rw [BitVec.toNat_ushiftRight, Nat.shiftRight_eq_div_pow]; simp
theorem b64_and (x y : BitVec 64) : bits .and .u64 (i64 x) (i64 y) = i64 (x &&& y) := by
  unfold i64; rw [u64_and_nat _ _ x.isLt y.isLt, BitVec.toNat_and]
theorem b64_or (x y : BitVec 64) : bits .or .u64 (i64 x) (i64 y) = i64 (x ||| y) := by
  unfold i64; rw [u64_or_nat _ _ x.isLt y.isLt, BitVec.toNat_or]
theorem b64_xor (x y : BitVec 64) : bits .xor .u64 (i64 x) (i64 y) = i64 (x ^^^ y) := by
  unfold i64; rw [u64_xor_nat _ _ x.isLt y.isLt, BitVec.toNat_xor]
theorem b64_not (x : BitVec 64) : bits .xor .u64 IntKind.u64.max (i64 x) = i64 (~~~x) := by
  have h : IntKind.u64.max = i64 (BitVec.allOnes 64) := by decide
  rw [h, b64_xor, BitVec.allOnes_xor]
theorem b64_add (x y : BitVec 64) : IntKind.u64.wrap (i64 x + i64 y) = i64 (x + y) := by
  unfold i64; rw [IntKind.wrap_u64, BitVec.toNat_add]; omega
theorem b64_shl (x : BitVec 64) (s : Nat) : IntKind.u64.wrap (i64 x * 2 ^ s) = i64 (x <<< s) := by
  unfold i64; rw [IntKind.wrap_u64, BitVec.toNat_shiftLeft, Nat.shiftLeft_eq]; simp
theorem b64_shr (x : BitVec 64) (s : Nat) : i64 x / 2 ^ s = i64 (x >>> s) := by
  unfold i64; rw [BitVec.toNat_ushiftRight, Nat.shiftRight_eq_div_pow]; simp
theorem b8_xor (x y : BitVec 8) : bits .xor .u8 (i8 x) (i8 y) = i8 (x ^^^ y) := by
  unfold i8; rw [u8_xor_nat _ _ x.isLt y.isLt, BitVec.toNat_xor]
/-- conversions -/
theorem c8_32 (x : BitVec 8) : IntKind.u32.wrap (i8 x) = i32 (x.setWidth 32) := by
  unfold i8 i32; rw [IntKind.wrap_u32', BitVec.toNat_setWidth]; simp
theorem c8_32' (x : BitVec 8) : i8 x % 4294967296 = i32 (x.setWidth 32) := by rw [← c8_32, IntKind.wrap_u32']
theorem c8_32'' (x : BitVec 8) : i8 x = i32 (x.setWidth 32) := by
  unfold i8 i32; rw [BitVec.toNat_setWidth]; have := x.isLt; omega
theorem c8_64 (x : BitVec 8) : IntKind.u64.wrap (i8 x) = i64 (x.setWidth 64) := by
  unfold i8 i64; rw [IntKind.wrap_u64, BitVec.toNat_setWidth]; simp
theorem c8_64'' (x : BitVec 8) : i8 x = i64 (x.setWidth 64) := by
  unfold i8 i64; rw [BitVec.toNat_setWidth]; have := x.isLt; omega
theorem c64_32 (x : BitVec 64) : IntKind.u32.wrap (i64 x) = i32 (x.setWidth 32) := by
  unfold i32 i64; rw [IntKind.wrap_u32', BitVec.toNat_setWidth]; simp
theorem c64_32' (x : BitVec 64) : i64 x % 4294967296 = i32 (x.setWidth 32) := by rw [← c64_32, IntKind.wrap_u32']
theorem c32_64 (x : BitVec 32) : IntKind.u64.wrap (i32 x) = i64 (x.setWidth 64) := by
  unfold i32 i64; rw [IntKind.wrap_u64, BitVec.toNat_setWidth]; simp
theorem c32_64'' (x : BitVec 32) : i32 x = i64 (x.setWidth 64) := by
  unfold i32 i64; rw [BitVec.toNat_setWidth]; have := x.isLt; omega
theorem c64_8 (x : BitVec 64) : IntKind.u8.wrap (i64 x) = i8 (x.setWidth 8) := by
  unfold i8 i64; rw [IntKind.wrap_u8', BitVec.toNat_setWidth]; simp
theorem c64_8' (x : BitVec 64) : i64 x % 256 = i8 (x.setWidth 8) := by rw [← c64_8, IntKind.wrap_u8']
theorem c32_8' (x : BitVec 32) : i32 x % 256 = i8 (x.setWidth 8) := by
  unfold i8 i32; rw [BitVec.toNat_setWidth]; simp
theorem i8_lt (x : BitVec 8) : 0 ≤ i8 x ∧ i8 x < 256 := by unfold i8; have := x.isLt; omega
theorem i32_lt (x : BitVec 32) : 0 ≤ i32 x ∧ i32 x < 4294967296 := by unfold i32; have := x.isLt; omega
theorem i64_lt (x : BitVec 64) : 0 ≤ i64 x ∧ i64 x < 18446744073709551616 := by unfold i64; have := x.isLt; omega

/-- turned to the left -/
def rl32 (s : Nat) (x : BitVec 32) : BitVec 32 := x <<< s ||| x >>> (32 - s)
def rl64 (s : Nat) (x : BitVec 64) : BitVec 64 := x <<< s ||| x >>> (64 - s)
end Go.Proofs.Ytmmmcbklgmjalaa

/- hashes: words in arrays. -/
set_option linter.unusedVariables false
set_option linter.unusedSimpArgs false
namespace Go.Proofs.Ytmmmcbklgmjalaa
open Go.RowKit

section
variable {P : Program} {w : World} {ops : Array Oper} {rest : List Oper} {o : Oper} {a : Act} {Q : Exit → Act → World → Prop}
/-- a whole array is read -/
theorem wlv_load (hgd : o.guard = none) (ty n e : Nat) (hu : P.underlying ty = some (.array n e)) (hi : (P.info? ty).map (·.size) = some n) (x : Operand) (ho : o.op = .load ty x) (g : Nat) (hx : a.eval x = .pointer (some ⟨g, 0, none⟩)) (t : TypeId) (vs : List Value) (hr : RowV t w g vs) (hl : vs.length = n)
    (h : wpList P ops Q rest (a.put o.dst (.agg vs.toArray)) w) : wpList P ops Q (o :: rest) a w :=
  wpList_load_row hgd ty x ho g hx t vs.toArray (0, 0) _ hr hu rfl (by rw [hi, ← hl]; simp) h
/-- a whole array is written -/
theorem wlv_store (hgd : o.guard = none) (ty n : Nat) (hi : (P.info? ty).map (·.size) = some n) (x y : Operand) (ho : o.op = .store ty x y) (g : Nat) (vs' : List Value) (hx : a.eval x = .pointer (some ⟨g, 0, none⟩)) (hy : a.eval y = .agg vs'.toArray) (t : TypeId) (vs : List Value) (hr : RowV t w g vs) (hl : vs.length = n) (hl' : vs'.length = n) (h1 : Ones vs')
    (h : ∀ w', RowV t w' g vs' → (∀ B W, Below B W w → B ≤ g → Below B W w') → w'.heap.size = w.heap.size → wpList P ops Q rest (a.put o.dst undef) w') : wpList P ops Q (o :: rest) a w := by
  refine wpList_store_row hgd ty x y ho g vs'.toArray hx hy t vs.toArray hr (by rw [hi, ← hl']; simp) (by simp; omega) (by simp; exact fun v hv => h1 v hv) ?_
  refine h _ ?_ ?_ ?_
  · have := setRow_heap w g _ vs'.toArray t _ hr
    exact this
  · intro B W hb hB
    exact below_setRow hb hB _
  · simp [World.setRow]
theorem results_rowV {fn : Func} {p : Tmp} {ty n e : Nat} (h : fn.results = #[.cell p ty]) (tmps : Array Value) (g : Nat) (t : TypeId) (vs : List Value) (hp : tmps.getD p undef = .pointer (some ⟨g, 0, none⟩)) (hr : RowV t w g vs)
    (hu : P.underlying ty = some (.array n e)) (hi : (P.info? ty).map (·.size) = some n) (hl : vs.length = n) : (results fn tmps).run P w = .ok (.agg vs.toArray) w :=
  results_cell_row h tmps w g t vs.toArray (0, 0) _ hp hr hu rfl (by rw [hi, ← hl]; simp)
/-- 'a[i]', a an array by value -/
theorem run_indexV (ty n e : Nat) (hu : P.underlying ty = some (.array n e)) (he : (P.info? e).map (·.size) = some 1) (hp : ∀ cs i, (part e cs i).run P w = (match cs[i]? with | some v => .ok v w | none => (part e cs i).run P w)) (vs : List Value) (hl : vs.length = n) (k : Nat) (v : Value) (hk : vs[k]? = some v) :
    (Instr.index ty (.agg vs.toArray) (.int .i64 (k : Int))).run P w = .ok v w := by
  have hkn : k < n := by rw [← hl]; exact (List.getElem?_eq_some_iff.1 hk).1
  have h0 : (0 : Int) ≤ k := by omega
  have h1 : ¬ n ≤ k := by omega
  cases hq : P.info? e with
  | none => simp [hq] at he
  | some i =>
    have hs : i.size = 1 := by simpa [hq] using he
    have := hp vs.toArray k
    simp [hk] at this
    simp [Instr.index, run_underlying hu, asIntOf, h0, h1, sizeOf, typeInfo, hq, hs, this]
end
theorem ones32 (xs : List (BitVec 32)) : Ones (xs.map W32) := fun v hv => by obtain ⟨_, _, rfl⟩ := List.mem_map.1 hv; rfl
theorem ones64 (xs : List (BitVec 64)) : Ones (xs.map W64) := fun v hv => by obtain ⟨_, _, rfl⟩ := List.mem_map.1 hv; rfl
theorem ones8 (xs : List (BitVec 8)) : Ones (xs.map W8) := fun v hv => by obtain ⟨_, _, rfl⟩ := List.mem_map.1 hv; rfl

theorem fill_set {α : Type} (ys : List α) (z : α) (k : Nat) (y : α) (hy : ys[k]? = some y) : (ys.take k ++ List.replicate (ys.length - k) z).set k y = ys.take (k + 1) ++ List.replicate (ys.length - (k + 1)) z := by
  have hk : k < ys.length := (List.getElem?_eq_some_iff.1 hy).1
  have h1 : (ys.take k).length = k := by rw [List.length_take]; omega
  rw [List.set_append_right _ _ (by omega), h1, Nat.sub_self, show ys.length - k = (ys.length - (k + 1)) + 1 by omega, List.replicate_succ, List.set_cons_zero, List.take_add_one, hy]
  simp
theorem fill_get {α : Type} (ys : List α) (z : α) (k : Nat) (h : k < ys.length) : (ys.take k ++ List.replicate (ys.length - k) z)[k]? = some z := by
  have h1 : (ys.take k).length = k := by rw [List.length_take]; omega
  rw [List.getElem?_append_right (by omega), h1, Nat.sub_self, List.getElem?_replicate, if_pos (by omega)]
theorem fill_zero {α : Type} (ys : List α) (z : α) : ys.take 0 ++ List.replicate (ys.length - 0) z = List.replicate ys.length z := by simp
theorem fill_all {α : Type} (ys : List α) (z : α) (k : Nat) (h : k = ys.length) : ys.take k ++ List.replicate (ys.length - k) z = ys := by subst h; simp
/-- a new row -/
theorem newV (w : World) (t : TypeId) (vs : List Value) (arr : Array Value) (he : vs.toArray = arr) : ∃ W, w.alloc (.cells arr t) = W ∧ RowV t W w.heap.size vs ∧ Below w.heap.size w W ∧ W.heap.size = w.heap.size + 1 := by
  subst he
  exact ⟨_, rfl, RowV.new w t vs, (Below.refl _ w).alloc (Nat.le_refl _) _, by simp⟩
theorem below_setV {B : Nat} {a w : World} (h : Below B a w) {g : Nat} (hg : B ≤ g) (i : Nat) (v : Value) : Below B a (w.setCell ⟨g, i, none⟩ v) := h.setCell (p := ⟨g, i, none⟩) hg v

def lowL (xs : List (BitVec 64)) : List (BitVec 32) := xs.map (fun x => x.setWidth 32)

end Go.Proofs.Ytmmmcbklgmjalaa
