/- Regions that draw their order, by an invariant. -/
import Derived.Test.YtabhdkjepbkooaaMem
import Derived.OrdersIn
import Derived.OwnWalkIn
import Derived.RangeFuncNested
import Derived.RangeFuncCalls
import Derived.RangeFuncLeaves
import Derived.RangeFuncBox
import Derived.Shelf.Abstract
import Derived.RegionIn
import Derived.TacticsInMore
import Derived.Deep.RegionHeld3
set_option linter.unusedVariables false
set_option linter.unusedSimpArgs false
namespace Go.Proofs.Ytabhdkjepbkooaa
open Go.RowKit Go.Shelf

theorem wpAnyIn_inv {F : Fence} {n : Nat} {P : Program} {ops : Array Oper} {Q : Exit → Act → World → Prop} {md : Region.Mode} (Inv : Array Bool → Act → World → Prop)
    (hstep : ∀ L a w, Inv L a w → ∀ i ∈ Region.ready md ops L, wpOpIn F n P ops Q i (fun a' w' => Inv (L.setIfInBounds i true) a' w') a w)
    (hend : ∀ L a w, Inv L a w → Region.ready md ops L = [] → Q .normal a w) (hfuel : ∀ L a w, Inv L a w → L.size = ops.size) :
    ∀ (fuel : Nat) (L : Array Bool) (a : Act) (w : World), Inv L a w → (L.toList.count false ≤ fuel) → wpAnyIn F n P md ops Q fuel L a w := by
  intro fuel
  induction fuel with
  | zero =>
    intro L a w h hc
    have hr : Region.ready md ops L = [] := by
      rw [List.eq_nil_iff_forall_not_mem]
      intro i hi
      obtain ⟨h1, o, ho, _⟩ := mem_ready.1 hi
      have hi' : i < L.size := by rw [hfuel L a w h]; exact (Array.getElem?_eq_some_iff.1 ho).1
      have : false ∈ L.toList := by
        rw [Array.getD_eq_getD_getElem?, Array.getElem?_eq_getElem hi'] at h1
        simp at h1
        rw [← h1]
        exact Array.getElem_mem_toList ..
      have := List.count_pos_iff.2 this
      omega
    exact ⟨hr, hend L a w h hr⟩
  | succ fuel ih =>
    intro L a w h hc
    refine ⟨hend L a w h, fun i hi => wpOpIn_mono (fun a' w' h' => ih _ _ _ h' ?_) (hstep L a w h i hi)⟩
    obtain ⟨h1, o, ho, _⟩ := mem_ready.1 hi
    have hi' : i < L.size := by rw [hfuel L a w h]; exact (Array.getElem?_eq_some_iff.1 ho).1
    have hf : L[i] = false := by
      rw [Array.getD_eq_getD_getElem?, Array.getElem?_eq_getElem hi'] at h1
      simpa using h1
    have e : (L.setIfInBounds i true).toList = L.toList.set i true := by simp
    rw [e, List.count_set (by simpa using hi')]
    have hct : List.count false L.toList = L.count false := Array.count_toList
    simp [hf]
    omega

/-- where the operations listed have written -/
def wrote (ops : Array Oper) (vals : Nat → Value) (L : Array Bool) (t0 : Array Value) : Nat → Array Value
  | 0 => t0
  | k + 1 => if L.getD k false then ({ tmps := wrote ops vals L t0 k, defers := [] } : Act).put ((ops[k]?).bind (·.dst)) (vals k) |>.tmps else wrote ops vals L t0 k

def Distinct (ops : Array Oper) : Prop := ∀ (i j : Nat) (oi oj : Oper) (d : Tmp), ops[i]? = some oi → ops[j]? = some oj → oi.dst = some d → oj.dst = some d → i = j

theorem wrote_set (ops : Array Oper) (vals : Nat → Value) (L : Array Bool) (t0 : Array Value) (hd : Distinct ops) {i : Nat} {oi : Oper} (hoi : ops[i]? = some oi) (hL : i < L.size) (hf : L.getD i false = false) :
    ∀ k, wrote ops vals (L.setIfInBounds i true) t0 k = if i < k then (({ tmps := wrote ops vals L t0 k, defers := [] } : Act).put oi.dst (vals i)).tmps else wrote ops vals L t0 k := by
  intro k
  induction k with
  | zero => simp [wrote]
  | succ k ih =>
    simp only [wrote]
    by_cases hk : k = i
    · subst hk
      have : (L.setIfInBounds k true).getD k false = true := by simp [Array.getD_eq_getD_getElem?, hL]
      rw [if_pos this, if_pos (show k < k + 1 from Nat.lt_succ_self k), ih, if_neg (Nat.lt_irrefl k), hf, hoi]
      simp
    · have e : (L.setIfInBounds i true).getD k false = L.getD k false := by
        simp only [Array.getD_eq_getD_getElem?]
        rw [Array.getElem?_setIfInBounds_ne (by omega)]
      rw [e, ih]
      by_cases hik : i < k
      · rw [if_pos hik, if_pos (show i < k + 1 by omega)]
        by_cases hLk : L.getD k false = true
        · simp only [hLk, if_true]
          cases hok : ops[k]? with
          | none => rfl
          | some ok =>
            simp only [Option.bind_some]
            unfold Act.put
            cases hdk : ok.dst with
            | none => rfl
            | some dk =>
              cases hdi : oi.dst with
              | none => rfl
              | some di =>
                have hne : di ≠ dk := fun e => hk (hd k i ok oi dk hok hoi hdk (by rw [hdi, e]))
                simp only
                exact Array.setIfInBounds_comm _ _ hne
        · have hLk' : L.getD k false = false := by simpa using hLk
          simp only [hLk', Bool.false_eq_true, if_false]
      · rw [if_neg hik, if_neg (show ¬ i < k + 1 by omega)]

theorem put_getD_ne (a : Act) (dst : Option Tmp) (v : Value) (t : Tmp) (h : dst ≠ some t) : (a.put dst v).tmps.getD t undef = a.tmps.getD t undef := by
  unfold Act.put
  cases dst with
  | none => rfl
  | some d =>
    have : d ≠ t := fun e => h (by rw [e])
    simp only [Array.getD_eq_getD_getElem?]
    rw [Array.getElem?_setIfInBounds_ne this]
theorem wrote_size (ops : Array Oper) (vals : Nat → Value) (L : Array Bool) (t0 : Array Value) : ∀ k, (wrote ops vals L t0 k).size = t0.size := by
  intro k
  induction k with
  | zero => rfl
  | succ k ih =>
    simp only [wrote]
    split
    · unfold Act.put
      cases (ops[k]?).bind (·.dst) <;> simp [ih]
    · exact ih
/-- a slot that no operation writes -/
theorem wrote_old (ops : Array Oper) (vals : Nat → Value) (L : Array Bool) (t0 : Array Value) (t : Tmp) (h : ∀ (i : Nat) (oi : Oper), ops[i]? = some oi → oi.dst ≠ some t) : ∀ k, (wrote ops vals L t0 k).getD t undef = t0.getD t undef := by
  intro k
  induction k with
  | zero => rfl
  | succ k ih =>
    simp only [wrote]
    split
    · rw [put_getD_ne, ih]
      intro e
      obtain ⟨o, ho, e'⟩ := Option.bind_eq_some_iff.1 e
      exact h k o ho e'
    · exact ih
/-- a slot that an operation listed has written -/
theorem wrote_new (ops : Array Oper) (vals : Nat → Value) (L : Array Bool) (t0 : Array Value) (hd : Distinct ops) {j : Nat} {oj : Oper} {t : Tmp} (hj : ops[j]? = some oj) (hjt : oj.dst = some t) (hL : L.getD j false = true) (ht : t < t0.size) :
    ∀ k, j < k → (wrote ops vals L t0 k).getD t undef = vals j := by
  intro k
  induction k with
  | zero => intro h; omega
  | succ k ih =>
    intro h
    simp only [wrote]
    by_cases hk : k = j
    · subst hk
      rw [if_pos hL, hj]
      simp only [Option.bind_some, hjt, Act.put]
      have := wrote_size ops vals L t0 k
      simp [Array.getD_eq_getD_getElem?, this, ht]
    · by_cases hLk : L.getD k false = true
      · rw [if_pos hLk, put_getD_ne, ih (by omega)]
        intro e
        obtain ⟨o, ho, e'⟩ := Option.bind_eq_some_iff.1 e
        exact hk (hd k j o oj t ho hj e' hjt)
      · rw [if_neg hLk]
        exact ih (by omega)

/-- THE REGION: each operation, when its turn comes, yields its one value; the world goes by what has been listed. -/
theorem wpIn_region_inv {F : Fence} {n : Nat} {P : Program} {id : Nat} {ops : Array Oper} {Q : Exit → Act → World → Prop} {a : Act} {w : World} (hm : P.follows .mixedOrders = true) (hd : Distinct ops)
    (vals : Nat → Value) (wor : Array Bool → World) (hw0 : ∃ q, { w with drawn := w.drawn + 1 } = (wor (Array.replicate ops.size false)).drewN q)
    (hstep : ∀ (L : Array Bool) (a' : Act), L.size = ops.size → a'.defers = a.defers → (∀ (j : Nat) (oj : Oper), ops[j]? = some oj → L.getD j false = true → ∀ e ∈ oj.after, Region.binds .any e = true → L.getD e.on false = true) →
      (∀ t, (∀ (i : Nat) (oi : Oper), ops[i]? = some oi → oi.dst ≠ some t) → a'.tmps.getD t undef = a.tmps.getD t undef) →
      (∀ (j : Nat) (oj : Oper) t, ops[j]? = some oj → oj.dst = some t → L.getD j false = true → t < a.tmps.size → a'.tmps.getD t undef = vals j) →
      ∀ i ∈ Region.ready .any ops L, ∀ oi, ops[i]? = some oi → ∀ (q0 : Nat) (K : Act → World → Prop), (∀ q, K (a'.put oi.dst (vals i)) ((wor (L.setIfInBounds i true)).drewN q)) → wpOpIn F n P ops Q i K a' ((wor L).drewN q0))
    (hend : ∀ (L : Array Bool) (q : Nat), (∀ i, i < ops.size → L.getD i false = true) → Q .normal { tmps := wrote ops vals (Array.replicate ops.size true) a.tmps ops.size, defers := a.defers } ((wor L).drewN q))
    (hacyc : ∀ L : Array Bool, L.size = ops.size → Region.ready .any ops L = [] → ∀ i, i < ops.size → L.getD i false = true) : (Code.region id ops true).wpIn F n P Q a w := by
  refine wpIn_region_any hm ?_
  obtain ⟨q0, hq0⟩ := hw0
  rw [hq0]
  refine wpAnyIn_inv (fun L a' w' => (L.size = ops.size ∧ ∀ (j : Nat) (oj : Oper), ops[j]? = some oj → L.getD j false = true → ∀ e ∈ oj.after, Region.binds .any e = true → L.getD e.on false = true) ∧ a' = { tmps := wrote ops vals L a.tmps ops.size, defers := a.defers } ∧ ∃ q, w' = (wor L).drewN q) ?_ ?_ (fun L a w h => h.1.1) _ _ _ _ ⟨⟨by simp, ?_⟩, ?_, ⟨_, rfl⟩⟩ ?_
  · rintro L a' w' ⟨⟨hs, hcl⟩, rfl, q, rfl⟩ i hi
    obtain ⟨h1, o, ho, hdep⟩ := mem_ready.1 hi
    have hi' : i < L.size := by rw [hs]; exact (Array.getElem?_eq_some_iff.1 ho).1
    have hf : L.getD i false = false := by
      rw [Array.getD_eq_getD_getElem?, Array.getElem?_eq_getElem hi'] at h1 ⊢
      simpa using h1
    refine hstep L { tmps := wrote ops vals L a.tmps ops.size, defers := a.defers } hs rfl hcl (fun t ht => wrote_old ops vals L a.tmps t ht _) (fun j oj t hj hjt hL ht => wrote_new ops vals L a.tmps hd hj hjt hL ht _ (Array.getElem?_eq_some_iff.1 hj).1) i hi o ho _ _ fun q' => ⟨⟨by simp [hs], ?_⟩, ?_, ⟨q', rfl⟩⟩
    · have hmono : ∀ t, L.getD t false = true → (L.setIfInBounds i true).getD t false = true := by
        intro t ht
        by_cases e : t = i
        · subst e; simp [Array.getD_eq_getD_getElem?, hi']
        · simp only [Array.getD_eq_getD_getElem?] at ht ⊢
          rw [Array.getElem?_setIfInBounds_ne (fun h => e h.symm)]; exact ht
      intro j oj hj hLj e he hb
      by_cases hji : j = i
      · subst hji
        obtain rfl : o = oj := Option.some.inj (ho.symm.trans hj)
        exact hmono _ (hdep e he hb)
      · refine hmono _ (hcl j oj hj ?_ e he hb)
        simp only [Array.getD_eq_getD_getElem?] at hLj ⊢
        rw [Array.getElem?_setIfInBounds_ne (fun h => hji h.symm)] at hLj
        exact hLj
    rw [wrote_set ops vals L a.tmps hd ho hi' hf, if_pos (by rw [← hs]; exact hi')]
    unfold Act.put
    cases o.dst <;> rfl
  · rintro L a' w' ⟨⟨hs, _⟩, rfl, q, rfl⟩ hr
    have hall := hacyc L hs hr
    have e : L = Array.replicate ops.size true := by
      apply Array.ext
      · simp [hs]
      · intro i h1 h2
        have := hall i (by omega)
        rw [Array.getD_eq_getD_getElem?, Array.getElem?_eq_getElem h1] at this
        simpa using this
    have h := hend L q hall
    rw [e] at h ⊢
    exact h
  · intro j oj _ hLj
    exfalso
    rw [Array.getD_eq_getD_getElem?, Array.getElem?_replicate] at hLj
    split at hLj <;> simp at hLj
  · have : ∀ k, wrote ops vals (Array.replicate ops.size false) a.tmps k = a.tmps := by
      intro k
      induction k with
      | zero => rfl
      | succ k ih =>
        simp only [wrote]
        rw [if_neg (by rw [Array.getD_eq_getD_getElem?, Array.getElem?_replicate]; split <;> simp)]
        exact ih
    rw [this]
  · simp

theorem in_value {F : Fence} {n : Nat} {P : Program} {ops : Array Oper} {Q : Exit → Act → World → Prop} {i : Nat} {o : Oper} {K : Act → World → Prop} {a : Act} {w w' : World} {v : Value} (ho : ops[i]? = some o) (hg : o.guard = none) (hdf : ∀ c, o.op ≠ .defer c)
    (hab : ∀ f, o.about P w a.eval = some f → F.fn f) (hrun : (execOp a.eval o).run P w = .ok (.value v) w') (h : K (a.put o.dst v) w') : wpOpIn F n P ops Q i K a w := by
  unfold wpOpIn
  simp only [ho, Region.wanted, hg, if_true]
  refine ⟨hab, ?_⟩
  rw [Oper.semAt_plain F _ _ hdf, hrun]
  exact h
theorem in_skip {F : Fence} {n : Nat} {P : Program} {ops : Array Oper} {Q : Exit → Act → World → Prop} {i : Nat} {o : Oper} {K : Act → World → Prop} {a : Act} {w w' : World} (ho : ops[i]? = some o) (hg : o.guard = none) (hdf : ∀ c, o.op ≠ .defer c)
    (hab : ∀ f, o.about P w a.eval = some f → F.fn f) (hrun : (execOp a.eval o).run P w = .ok .skip w') (h : K (a.put o.dst undef) w') : wpOpIn F n P ops Q i K a w := by
  unfold wpOpIn
  simp only [ho, Region.wanted, hg, if_true]
  refine ⟨hab, ?_⟩
  rw [Oper.semAt_plain F _ _ hdf, hrun]
  exact h
theorem in_call {F : Fence} {n : Nat} {P : Program} {ops : Array Oper} {Q : Exit → Act → World → Prop} {i : Nat} {o : Oper} {K : Act → World → Prop} {a : Act} {w : World} {v : Value} {f : FuncId} {args : Array Value} (ho : ops[i]? = some o) (hg : o.guard = none) (hdf : ∀ c, o.op ≠ .defer c) (hF : F.depth = none)
    (hab : ∀ f, o.about P w a.eval = some f → F.fn f) (hrun : (execOp a.eval o).run P w = .ok (.enter f args) w) (hc : CallsIn F (n - 1) P f args w fun e w' => e = .returned v ∧ ∃ q, w' = w.drewN q) (h : ∀ q, K (a.put o.dst v) (w.drewN q)) : wpOpIn F n P ops Q i K a w := by
  unfold wpOpIn
  simp only [ho, Region.wanted, hg, if_true]
  refine ⟨hab, ?_⟩
  rw [Oper.semAt_plain F _ _ hdf, hrun]
  refine ⟨(fun h => by (rw [hF] at h; cases h)), hc.mono ?_⟩
  rintro e w' ⟨rfl, q, rfl⟩
  exact h q

def distinctB (ops : Array Oper) : Bool := (List.range ops.size).all fun i => (List.range ops.size).all fun j => i == j || match (ops[i]?).bind (·.dst), (ops[j]?).bind (·.dst) with | some a, some b => a != b | _, _ => true
theorem distinct_of {ops : Array Oper} (h : distinctB ops = true) : Distinct ops := by
  intro i j oi oj d hi hj hdi hdj
  simp only [distinctB, List.all_eq_true, List.mem_range] at h
  have := h i (Array.getElem?_eq_some_iff.1 hi).1 j (Array.getElem?_eq_some_iff.1 hj).1
  simp only [hi, hj, Option.bind_some, hdi, hdj, bne_self_eq_false, Bool.or_false, beq_iff_eq] at this
  exact this
def freeB (ops : Array Oper) (t : Tmp) : Bool := ops.all fun o => o.dst != some t
theorem free_of {ops : Array Oper} {t : Tmp} (h : freeB ops t = true) : ∀ (i : Nat) (oi : Oper), ops[i]? = some oi → oi.dst ≠ some t := by
  intro i oi hi e
  have h' := Array.all_eq_true.1 h i (Array.getElem?_eq_some_iff.1 hi).1
  rw [(Array.getElem?_eq_some_iff.1 hi).2, e] at h'
  simp at h'
def orderedB (ops : Array Oper) : Bool := (List.range ops.size).all fun i => match ops[i]? with | some o => o.after.all fun e => !Region.binds .any e || decide (e.on < i) | none => true
theorem acyclic_of {ops : Array Oper} (h : orderedB ops = true) (L : Array Bool) (hs : L.size = ops.size) (hr : Region.ready .any ops L = []) : ∀ i, i < ops.size → L.getD i false = true := by
  intro i
  induction i using Nat.strongRecOn with
  | _ i ih =>
    intro hi
    apply Classical.byContradiction
    intro hne
    have hf : L.getD i false = false := by simpa using hne
    have : i ∈ Region.ready .any ops L := by
      refine mem_ready.2 ⟨?_, ops[i], Array.getElem?_eq_getElem hi, fun e he hb => ?_⟩
      · have hi' : i < L.size := by omega
        rw [Array.getD_eq_getD_getElem?, Array.getElem?_eq_getElem hi'] at hf ⊢
        simpa using hf
      · simp only [orderedB, List.all_eq_true, List.mem_range] at h
        have h1 := h i hi
        rw [Array.getElem?_eq_getElem hi] at h1
        simp only [Array.all_eq_true'] at h1
        have h2 := h1 e he
        simp only [hb, Bool.not_true, Bool.false_or, decide_eq_true_eq] at h2
        exact ih e.on h2 (by omega)
    rw [hr] at this
    cases this

theorem getD_set_other (L : Array Bool) {i j : Nat} (h : i ≠ j) : (L.setIfInBounds i true).getD j false = L.getD j false := by
  simp only [Array.getD_eq_getD_getElem?]
  rw [Array.getElem?_setIfInBounds_ne h]
theorem getD_set_self (L : Array Bool) {i : Nat} (h : i < L.size) : (L.setIfInBounds i true).getD i false = true := by
  simp [Array.getD_eq_getD_getElem?, h]
theorem unlisted {L : Array Bool} {i : Nat} (h : L.getD i true = false) : L.getD i false = false := by
  rcases Nat.lt_or_ge i L.size with h' | h'
  · rw [Array.getD_eq_getD_getElem?, Array.getElem?_eq_getElem h'] at h ⊢
    simpa using h
  · rw [Array.getD_eq_getD_getElem?, Array.getElem?_eq_none h']; rfl
/-- two stores, one behind the other, among the operations: places i and j -/
def wor2 (w : World) (i j : Nat) (p q : Addr) (u v : Value) (L : Array Bool) : World :=
  if L.getD j false then (w.setCell p u).setCell q v else if L.getD i false then w.setCell p u else w
theorem wor2_other {w : World} {i j : Nat} {p q : Addr} {u v : Value} (L : Array Bool) {k : Nat} (h1 : k ≠ i) (h2 : k ≠ j) : wor2 w i j p q u v (L.setIfInBounds k true) = wor2 w i j p q u v L := by
  unfold wor2
  rw [getD_set_other L h1, getD_set_other L h2]
theorem wor2_none {w : World} {i j : Nat} {p q : Addr} {u v : Value} {L : Array Bool} (h1 : L.getD i false = false) (h2 : L.getD j false = false) : wor2 w i j p q u v L = w := by
  unfold wor2; rw [h1, h2]; rfl
theorem wor2_first {w : World} {i j : Nat} {p q : Addr} {u v : Value} {L : Array Bool} (h1 : L.getD i false = true) (h2 : L.getD j false = false) : wor2 w i j p q u v L = w.setCell p u := by
  unfold wor2; rw [h1, h2]; rfl
theorem wor2_both {w : World} {i j : Nat} {p q : Addr} {u v : Value} {L : Array Bool} (h2 : L.getD j false = true) : wor2 w i j p q u v L = (w.setCell p u).setCell q v := by
  unfold wor2; rw [h2]; rfl
theorem wor2_cell {w : World} {i j : Nat} {p q : Addr} {u v : Value} (L : Array Bool) {a : Addr} (h1 : p ≠ a) (h2 : q ≠ a) : (wor2 w i j p q u v L).cell? a = w.cell? a := by
  unfold wor2
  split
  · rw [World.cell?_setCell_other _ _ _ _ h2, World.cell?_setCell_other _ _ _ _ h1]
  · split
    · rw [World.cell?_setCell_other _ _ _ _ h1]
    · rfl

theorem in_call_any {F : Fence} {n : Nat} {P : Program} {ops : Array Oper} {Q : Exit → Act → World → Prop} {i : Nat} {o : Oper} {K : Act → World → Prop} {a : Act} {w : World} {f : FuncId} {args : Array Value} (ho : ops[i]? = some o) (hg : o.guard = none) (hdf : ∀ c, o.op ≠ .defer c) (hF : F.depth = none)
    (hab : ∀ f, o.about P w a.eval = some f → F.fn f) (hrun : (execOp a.eval o).run P w = .ok (.enter f args) w) (hc : CallsIn F (n - 1) P f args w fun e w' => ∃ v, e = .returned v ∧ K (a.put o.dst v) w') : wpOpIn F n P ops Q i K a w := by
  unfold wpOpIn
  simp only [ho, Region.wanted, hg, if_true]
  refine ⟨hab, ?_⟩
  rw [Oper.semAt_plain F _ _ hdf, hrun]
  refine ⟨(fun h => by (rw [hF] at h; cases h)), hc.mono ?_⟩
  rintro e w' ⟨v, rfl, h⟩
  exact h
section
variable {F : Fence} {n : Nat} {P : Program} {md : Region.Mode} {ops : Array Oper} {Q : Exit → Act → World → Prop} {fuel : Nat} {L : Array Bool} {a : Act} {w : World}
theorem any0 (hr : Region.ready md ops L = []) (h : Q .normal a w) : wpAnyIn F n P md ops Q 0 L a w := ⟨hr, h⟩
theorem any1 {i : Nat} (hr : Region.ready md ops L = [i]) (h : wpOpIn F n P ops Q i (wpAnyIn F n P md ops Q fuel (L.setIfInBounds i true)) a w) : wpAnyIn F n P md ops Q (fuel + 1) L a w :=
  ⟨(fun e => by (rw [hr] at e; cases e)), fun j hj => by (rw [hr] at hj; simp at hj; subst hj; exact h)⟩
theorem any2 {i j : Nat} (hr : Region.ready md ops L = [i, j]) (hi : wpOpIn F n P ops Q i (wpAnyIn F n P md ops Q fuel (L.setIfInBounds i true)) a w) (hj : wpOpIn F n P ops Q j (wpAnyIn F n P md ops Q fuel (L.setIfInBounds j true)) a w) : wpAnyIn F n P md ops Q (fuel + 1) L a w :=
  ⟨(fun e => by (rw [hr] at e; cases e)), fun k hk => by
    rw [hr] at hk
    simp at hk
    rcases hk with rfl | rfl
    · exact hi
    · exact hj⟩
end
end Go.Proofs.Ytabhdkjepbkooaa
