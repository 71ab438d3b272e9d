/- Parts of one proof, joined: Bf, Chn, Tc, Bg, Ks. -/
import Derived.Test.YtabhdkjepbkooaaPileC6
import Derived.Test.YtabhdkjepbkooaaPileC2
import Derived.Test.YtabhdkjepbkooaaPileC5

/- slices.Chunk of bytes: its iterator. -/
set_option linter.unusedVariables false
set_option linter.unusedSimpArgs false
namespace Go.Proofs.Ytabhdkjepbkooaa
open Go.RowKit
attribute [local go_sem] Oper.semAt_some

set_option maxRecDepth 100000 in
set_option maxHeartbeats 4000000 in
theorem chunk1_in (nn : Nat) (hn : 1 ≤ nn) (w : World) (ex g1 g2 b off n c k : Nat) (A : Option Addr) (hA : 0 < n → A = some ⟨b, off, none⟩) (bs : List (BitVec 8)) (hbl : bs.length = n) (h1 : RowV 22 w g1 [.slice A n c]) (h2 : RowV 3 w g2 [.int .i64 (k : Int)]) (hk : 1 ≤ k) (hk9 : k ≤ 65536) (hnc : n ≤ c) (hcm : c ≤ 9223372036854775807) (hn9 : n ≤ 17592186044416) (hx1 : g1 ≠ ex) (hx2 : g2 ≠ ex) :
    SeqP Fence.wide nn Try.prog 46 #[.pointer (some ⟨g1, 0, none⟩), .pointer (some ⟨g2, 0, none⟩)] encCk (CkR bs k b off) (KpE ex w.heap.size) (fun ys => n ≤ k * ys.length) (fun _ => True) n w := by
  intro l J Jx W hW hJ hJx hY h0
  obtain ⟨top, htop⟩ : ∃ t, w.heap.size = t := ⟨_, rfl⟩
  have hl1 := h1.lt
  have hl2 := h2.lt
  rw [htop] at hW hY hl1 hl2
  have h1W := h1.below hW hl1
  have h2W := h2.below hW hl2
  have HK0 := Lib.hid (show KpE ex top W W from KpE.refl _ _ _)
  have HY := Lib.hid hY
  have HBL := Lib.hid hbl
  have HR1 := Lib.hid h1W
  have HR2 := Lib.hid h2W
  have kk1 : (1 : Int) ≤ k := by omega
  have kk2 : (k : Int) ≤ 65536 := by omega
  have kn1 : (n : Int) ≤ 17592186044416 := by omega
  have knc : (n : Int) ≤ c := by omega
  clear hY h1 h2 hW h1W h2W htop hbl
  refine callsIn_of_wp Try.func46 rfl trivial ?_ rfl
  simp only [Try.ntmps46, List.size_toArray, List.length_cons, List.length_nil, Nat.reduceAdd, Nat.reduceSub, Array.replicate_succ, Array.replicate_zero, List.push_toArray, List.append_toArray, List.nil_append, List.cons_append]
  gi_wp2
  gi_loopw [4] (fun i wr => ∃ (p : Nat) (pre : List CkX), i = .int .i64 (p : Int) ∧ k * pre.length = p ∧ p < n + k ∧ Hid (KpE ex top W wr) ∧ J pre wr) (fun i _ => n + k - (intOf i).toNat)
  case atStart => exact ⟨0, [], rfl, by simp, by omega, HK0, h0⟩
  case round =>
    obtain ⟨p, pre, rfl, hpp, hpn, HK, hJs⟩ := hrel
    have HPP := Lib.hid hpp
    clear hpp
    have hpI : (p : Int) < 17592186109952 := by omega
    have c1 : wr.cell? ⟨g1, 0, none⟩ = some (.slice A n c) := (HR1.out.keptE HK.out hx1 hl1).at_ rfl
    have c2 : wr.cell? ⟨g2, 0, none⟩ = some (.int .i64 (k : Int)) := (HR2.out.keptE HK.out hx2 hl2).at_ rfl
    by_cases hpe : n ≤ p
    · have hpe2 : ¬ (p : Int) < n := by omega
      gi_wp2
      go_end0
      exact ⟨⟨_, rfl⟩, .inl ⟨pre, by rw [HPP.out]; exact hpe, hJs⟩⟩
    · obtain rfl := hA (by omega)
      have hki : (p : Int) < n := by omega
      obtain ⟨m, hm⟩ : ∃ m, min k (n - p) = m := ⟨_, rfl⟩
      have hmI : min (k : Int) ((n - p : Nat) : Int) = (m : Int) := by omega
      have hmI2 : min (k : Int) ((n : Int) - (p : Int)) = (m : Int) := by omega
      have hm1 : 1 ≤ m ∧ m ≤ k ∧ p + m ≤ n := by omega
      gi_wp2_with fail
      refine wpIn_wide.2 ?_
      go_quiet (fail)
      have hmE : (if n - p < k then ((n - p : Nat) : Int) else (k : Int)) = (m : Int) := by
        by_cases h : n - p < k
        · rw [if_pos h]; omega
        · rw [if_neg h]; omega
      rw [hmE]
      generalize hWd : World.drewN wr _ = wd
      have c1d : wd.cell? ⟨g1, 0, none⟩ = some (.slice (some ⟨b, off, none⟩) n c) := by rw [← hWd]; exact c1
      have c2d : wd.cell? ⟨g2, 0, none⟩ = some (.int .i64 (k : Int)) := by rw [← hWd]; exact c2
      have hbwd : Below wr.heap.size wr wd := by rw [← hWd]; exact below_drewN (Below.refl _ _) _
      have hJ1 := hJ pre wr wd none hJs (grownNo hbwd) (fun r e => by cases e)
      have HX := Lib.hid (show CkR bs k b off pre ⟨pre.length, some ⟨b, off + p, none⟩, m, m⟩ wd from ⟨rfl, by rw [HPP.out, HBL.out]; omega, by rw [HPP.out], by rw [HPP.out, HBL.out]; exact hm.symm, rfl⟩)
      have hpl : pre.length < n := by
        have h2 := HPP.out
        have h3 : 1 * pre.length ≤ k * pre.length := Nat.mul_le_mul_right _ hk
        omega
      obtain ⟨fn, tmps, assign, body, hy, hRd⟩ := HY.out pre ⟨pre.length, some ⟨b, off + p, none⟩, m, m⟩ wd hJ1 HX.out hpl
      dsimp only [encCk] at hy
      have HK1 := Lib.hid (show KpE ex top W wd by rw [← hWd]; exact HK.out.trans ⟨Nat.le_refl _, fun _ _ _ => rfl⟩)
      have ipm : (p : Int) + (m : Int) ≤ n := by omega
      have ipc : (p : Int) + (m : Int) ≤ c := by omega
      have im1 : (1 : Int) ≤ m := by omega
      have HM := Lib.hid (And.intro hm hm1)
      clear hm hm1 hmE hmI hmI2 hbwd hJ1 hWd c1 c2 hpl
      gi_wp2
      refine hRd.mono ?_
      rintro e W3 (⟨rfl, hJ3, hKp⟩ | ⟨rfl, hJx3⟩)
      · have HK3 := Lib.hid (HK1.out.trans hKp)
        have c2e : W3.cell? ⟨g2, 0, none⟩ = some (.int .i64 (k : Int)) := (HR2.out.keptE HK3.out hx2 hl2).at_ rfl
        clear hKp c1d c2d
        gi_wp2
        go_roundw
        case rel => exact ⟨p + k, pre ++ [⟨pre.length, some ⟨b, off + p, none⟩, m, m⟩], by go_num, by rw [List.length_append, List.length_singleton, Nat.mul_add, HPP.out, Nat.mul_one], by omega, HK3, hJ3⟩
        case measure => simp [intOf]; omega
      · gi_wp2
        refine bodyPost_ret (results_none rfl _ _ _) rfl ?_
        exact ⟨⟨_, rfl⟩, .inr ⟨_, trivial, hJx3⟩⟩
end Go.Proofs.Ytabhdkjepbkooaa

/- A region that draws its order and whose last operations, one behind the other, make or turn memory. -/
set_option linter.unusedVariables false
set_option linter.unusedSimpArgs false
namespace Go.Proofs.Ytabhdkjepbkooaa
open Go.RowKit Go.Shelf

theorem wrote_congrH (ops : Array Oper) (v1 v2 : Nat → Value) (L : Array Bool) (t0 : Array Value) (h : ∀ j, L.getD j false = true → v1 j = v2 j) : ∀ k, wrote ops v1 L t0 k = wrote ops v2 L t0 k := by
  intro k
  induction k with
  | zero => rfl
  | succ k ih =>
    simp only [wrote]
    split
    · next hk => rw [ih, h k hk]
    · exact ih

theorem wrote_oldL (ops : Array Oper) (vals : Nat → Value) (L : Array Bool) (t0 : Array Value) (t : Tmp) (h : ∀ (i : Nat) (oi : Oper), ops[i]? = some oi → L.getD i false = true → oi.dst ≠ some t) : ∀ k, (wrote ops vals L t0 k).getD t undef = t0.getD t undef
  | 0 => rfl
  | k + 1 => by
    simp only [wrote]
    split
    · next hk =>
      rw [put_getD_ne, wrote_oldL ops vals L t0 t h k]
      intro e
      obtain ⟨o, ho, e'⟩ := Option.bind_eq_some_iff.1 e
      exact h k o ho hk e'
    · exact wrote_oldL ops vals L t0 t h k
/-- THE REGION: each operation, when its turn comes, yields a value; values and world meet a relation to what has been listed. -/
theorem wpIn_region_relH {β : Type} {F : Fence} {n : Nat} {P : Program} {id : Nat} {ops : Array Oper} {Q : Exit → Act → World → Prop} {a : Act} {w : World} (hm : P.follows .mixedOrders = true) (hd : Distinct ops)
    (vals : β → Nat → Value) (Wo : β → Array Bool → World → Prop) (b0 : β) (hw0 : Wo b0 (Array.replicate ops.size false) w.drew)
    (hstep : ∀ (b : β) (L : Array Bool) (a' : Act) (w' : World), Wo b L w' → L.size = ops.size → a'.defers = a.defers → (∀ (j : Nat) (oj : Oper), ops[j]? = some oj → L.getD j false = true → ∀ e ∈ oj.after, Region.binds .any e = true → L.getD e.on false = true) →
      (∀ t, (∀ (i : Nat) (oi : Oper), ops[i]? = some oi → L.getD i false = true → oi.dst ≠ some t) → a'.tmps.getD t undef = a.tmps.getD t undef) →
      (∀ (j : Nat) (oj : Oper) t, ops[j]? = some oj → oj.dst = some t → L.getD j false = true → t < a.tmps.size → a'.tmps.getD t undef = vals b j) →
      ∀ i ∈ Region.ready .any ops L, ∀ oi, ops[i]? = some oi → ∀ (K : Act → World → Prop), (∀ b' w'', (∀ j, L.getD j false = true → vals b' j = vals b j) → Wo b' (L.setIfInBounds i true) w'' → K (a'.put oi.dst (vals b' i)) w'') → wpOpIn F n P ops Q i K a' w')
    (hend : ∀ (b : β) (L : Array Bool) (w' : World), Wo b L w' → (∀ i, i < ops.size → L.getD i false = true) → Q .normal { tmps := wrote ops (vals b) (Array.replicate ops.size true) a.tmps ops.size, defers := a.defers } w')
    (hacyc : ∀ L : Array Bool, L.size = ops.size → Region.ready .any ops L = [] → ∀ i, i < ops.size → L.getD i false = true) : (Code.region id ops true).wpIn F n P Q a w := by
  refine wpIn_region_any hm ?_
  refine wpAnyIn_inv (fun L a' w' => (L.size = ops.size ∧ ∀ (j : Nat) (oj : Oper), ops[j]? = some oj → L.getD j false = true → ∀ e ∈ oj.after, Region.binds .any e = true → L.getD e.on false = true) ∧ ∃ b, a' = { tmps := wrote ops (vals b) L a.tmps ops.size, defers := a.defers } ∧ Wo b L w') ?_ ?_ (fun L a w h => h.1.1) _ _ _ _ ⟨⟨by simp, ?_⟩, b0, ?_, hw0⟩ ?_
  · rintro L a' w' ⟨⟨hs, hcl⟩, b, rfl, hW⟩ i hi
    obtain ⟨h1, o, ho, hdep⟩ := mem_ready.1 hi
    have hi' : i < L.size := by rw [hs]; exact (Array.getElem?_eq_some_iff.1 ho).1
    have hf : L.getD i false = false := by
      rw [Array.getD_eq_getD_getElem?, Array.getElem?_eq_getElem hi'] at h1 ⊢
      simpa using h1
    refine hstep b L { tmps := wrote ops (vals b) L a.tmps ops.size, defers := a.defers } _ hW hs rfl hcl (fun t ht => wrote_oldL ops (vals b) L a.tmps t ht _) (fun j oj t hj hjt hL ht => wrote_new ops (vals b) L a.tmps hd hj hjt hL ht _ (Array.getElem?_eq_some_iff.1 hj).1) i hi o ho _ fun b' w'' hv hw'' => ⟨⟨by simp [hs], ?_⟩, b', ?_, hw''⟩
    · have hmono : ∀ t, L.getD t false = true → (L.setIfInBounds i true).getD t false = true := by
        intro t ht
        by_cases e : t = i
        · subst e; simp [Array.getD_eq_getD_getElem?, hi']
        · simp only [Array.getD_eq_getD_getElem?] at ht ⊢
          rw [Array.getElem?_setIfInBounds_ne (fun h => e h.symm)]; exact ht
      intro j oj hj hLj e he hb
      by_cases hji : j = i
      · subst hji
        obtain rfl : o = oj := Option.some.inj (ho.symm.trans hj)
        exact hmono _ (hdep e he hb)
      · refine hmono _ (hcl j oj hj ?_ e he hb)
        simp only [Array.getD_eq_getD_getElem?] at hLj ⊢
        rw [Array.getElem?_setIfInBounds_ne (fun h => hji h.symm)] at hLj
        exact hLj
    rw [wrote_set ops (vals b') L a.tmps hd ho hi' hf, if_pos (by rw [← hs]; exact hi'), wrote_congrH ops (vals b') (vals b) L a.tmps hv]
    unfold Act.put
    cases o.dst <;> rfl
  · rintro L a' w' ⟨⟨hs, _⟩, b, rfl, hW⟩ hr
    have hall := hacyc L hs hr
    have e : L = Array.replicate ops.size true := by
      apply Array.ext
      · simp [hs]
      · intro i h1 h2
        have := hall i (by omega)
        rw [Array.getD_eq_getD_getElem?, Array.getElem?_eq_getElem h1] at this
        simpa using this
    have h := hend b L w' hW hall
    rw [e]
    exact h
  · intro j oj _ hLj
    exfalso
    rw [Array.getD_eq_getD_getElem?, Array.getElem?_replicate] at hLj
    split at hLj <;> simp at hLj
  · have : ∀ k, wrote ops (vals b0) (Array.replicate ops.size false) a.tmps k = a.tmps := by
      intro k
      induction k with
      | zero => rfl
      | succ k ih =>
        simp only [wrote]
        rw [if_neg (by rw [Array.getD_eq_getD_getElem?, Array.getElem?_replicate]; split <;> simp)]
        exact ih
    rw [this]
  · simp
/-- the operands that an operation reads: made slices too -/
def usesW : Op → Option (List Operand)
  | .buildSlice _ _ parts => some (parts.toList.map (·.2))
  | .makeSlice _ x y => some [x, y]
  | x => usesOp x
theorem exec_congrW {ρ ρ' : Operand → Value} {o : Oper} {l : List Operand} (h : usesW o.op = some l) (ha : ∀ x ∈ l, ρ x = ρ' x) : execOp ρ o = execOp ρ' o := by
  cases ho : o.op
  case buildSlice t n parts =>
    rw [ho] at h
    simp only [usesW] at h
    cases h
    unfold execOp
    have e : (parts.map fun (i, x) => (i, ρ x)) = (parts.map fun (i, x) => (i, ρ' x)) := map_array_congr parts (fun p hp => by
      have := ha p.2 (List.mem_map.2 ⟨p, hp, rfl⟩)
      simp [this])
    simp only [ho, e]
  case makeSlice t x y =>
    rw [ho] at h
    simp only [usesW] at h
    cases h
    unfold execOp
    simp [ho, ha x (by simp), ha y (by simp)]
  all_goals exact exec_congr (by rw [ho] at h; rw [ho]; simpa only [usesW] using h) ha
theorem about_congrW {P : Program} {w : World} {ρ ρ' : Operand → Value} {o : Oper} {l : List Operand} (h : usesW o.op = some l) (ha : ∀ x ∈ l, ρ x = ρ' x) : o.about P w ρ = o.about P w ρ' := by
  cases ho : o.op
  case buildSlice t n parts => unfold Oper.about; simp only [ho]
  case makeSlice t x y => unfold Oper.about; simp only [ho]
  all_goals exact about_congr (by rw [ho] at h; rw [ho]; simpa only [usesW] using h) ha
def depsW (ops : Array Oper) (asg wk : List Nat) : Bool := (List.range ops.size).all fun i => match ops[i]? with
  | none => true
  | some o => o.guard.isNone && (match o.dst with | some t => asg.contains t || wk.contains t | none => true) && match usesW o.op with
    | none => false
    | some l => l.all fun x => match x with
      | .tmp t => bif asg.contains t then (List.range ops.size).all fun j => match (ops[j]?).bind (·.dst) with
        | some t' => t' != t || o.after.any fun e => e.on == j && Region.binds .any e
        | none => true
        else (List.range ops.size).all fun j => match (ops[j]?).bind (·.dst) with
        | some t' => t' != t || decide (j + 1 = ops.size)
        | none => true
      | _ => true
/-- the operands of one whose turn it is hold what they will hold -/
theorem ops_hold {ops : Array Oper} {asg wrt : List (Nat × Value)} {a a' : Act} {L : Array Bool} (hdep : depsW ops (asg.map (·.1)) (wrt.map (·.1)) = true) (hon : onlyB ops (asg.map (·.1)) = true) (hsz : (asg.map (·.1)).all (fun t => decide (t < a.tmps.size)) = true)
    (hlast : ∀ j, j + 1 = ops.size → L.getD j false = false)
    (hold : ∀ t, (∀ (i : Nat) (oi : Oper), ops[i]? = some oi → L.getD i false = true → oi.dst ≠ some t) → a'.tmps.getD t undef = a.tmps.getD t undef)
    (hnew : ∀ (j : Nat) (oj : Oper) t, ops[j]? = some oj → oj.dst = some t → L.getD j false = true → t < a.tmps.size → a'.tmps.getD t undef = valP ops (asg ++ wrt) j)
    {i : Nat} {o : Oper} (ho : ops[i]? = some o) (hde : ∀ e ∈ o.after, Region.binds .any e = true → L.getD e.on false = true) : ∃ l, usesW o.op = some l ∧ o.guard = none ∧ ∀ x ∈ l, a'.eval x = evP asg a x := by
  have his : i < ops.size := (Array.getElem?_eq_some_iff.1 ho).1
  simp only [depsW, List.all_eq_true, List.mem_range] at hdep
  have h2 := hdep i his
  rw [ho] at h2
  simp only [Bool.and_eq_true] at h2
  cases hu : usesW o.op with
  | none => rw [hu] at h2; simp at h2
  | some l =>
    rw [hu] at h2
    refine ⟨l, rfl, by simpa using h2.1.1, fun x hx => ?_⟩
    have h3 := List.all_eq_true.1 h2.2 x hx
    cases x with
    | tmp t =>
      cases hl : (asg.map (·.1)).contains t with
      | false =>
        simp only [hl, cond_false] at h3
        have hno := lookup_none_of hl
        have e1 : evP asg a (.tmp t) = a.tmps.getD t undef := by simp [evP, hno, Act.eval]
        have e2 : a'.eval (.tmp t) = a'.tmps.getD t undef := by simp [Act.eval]
        rw [e1, e2]
        refine hold t fun j oj hj hLj e => ?_
        have h4 := List.all_eq_true.1 h3 j (List.mem_range.2 (Array.getElem?_eq_some_iff.1 hj).1)
        rw [hj] at h4
        simp only [Option.bind_some, e, bne_self_eq_false, Bool.false_or, decide_eq_true_eq] at h4
        rw [hlast j h4] at hLj
        cases hLj
      | true =>
        simp only [hl, cond_true] at h3
        obtain ⟨v, hv⟩ := lookup_some_of hl
        have e1 : evP asg a (.tmp t) = v := by simp [evP, hv]
        have e2 : a'.eval (.tmp t) = a'.tmps.getD t undef := by simp [Act.eval]
        rw [e1, e2]
        have h5 := List.all_eq_true.1 hon t (by simpa using hl)
        rw [List.any_eq_true] at h5
        obtain ⟨j, hj, h6⟩ := h5
        rw [List.mem_range] at hj
        have hoj : ops[j]? = some ops[j] := Array.getElem?_eq_getElem hj
        rw [hoj] at h6
        simp only [Option.bind_some] at h6
        cases hdj : ops[j].dst with
        | none => rw [hdj] at h6; cases h6
        | some t' =>
          rw [hdj] at h6
          obtain rfl : t' = t := by simpa using h6
          have h7 := List.all_eq_true.1 h3 j (List.mem_range.2 hj)
          rw [hoj] at h7
          simp only [Option.bind_some, hdj, bne_self_eq_false, Bool.false_or] at h7
          obtain ⟨e, he, he2⟩ := Array.any_eq_true'.1 h7
          rw [Bool.and_eq_true, beq_iff_eq] at he2
          have hLj := hde e he he2.2
          rw [he2.1] at hLj
          have htl : t' < a.tmps.size := by
            have := List.all_eq_true.1 hsz t' (by simpa using hl)
            simpa using this
          have h8 := hnew j _ t' hoj hdj hLj htl
          rw [h8]
          simp [valP, hoj, hdj, hv, List.lookup_append]
    | _ => rfl
/-- how many of the tail are done -/
def cntW (s : Nat) (L : Array Bool) : Nat → Nat
  | 0 => 0
  | t + 1 => if L.getD (s + t) false then t + 1 else cntW s L t
theorem cntW_le (s : Nat) (L : Array Bool) : ∀ t, cntW s L t ≤ t
  | 0 => Nat.le_refl _
  | t + 1 => by
    rw [cntW]
    split
    · exact Nat.le_refl _
    · exact Nat.le_trans (cntW_le s L t) (Nat.le_succ t)
theorem cntW_other (s : Nat) (L : Array Bool) {i : Nat} (h : i < s) : ∀ t, cntW s (L.setIfInBounds i true) t = cntW s L t
  | 0 => rfl
  | t + 1 => by rw [cntW, cntW, getD_set_other L (by omega), cntW_other s L h t]
theorem cntW_eq (s : Nat) (L : Array Bool) (k : Nat) (hk : k = 0 ∨ L.getD (s + (k - 1)) false = true) : ∀ t, k ≤ t → (∀ j, k ≤ j → j < t → L.getD (s + j) false = false) → cntW s L t = k
  | 0, h, _ => by rw [cntW]; omega
  | t + 1, h, hn => by
    rw [cntW]
    rcases Nat.lt_or_ge t k with h2 | h2
    · obtain rfl : k = t + 1 := by omega
      rcases hk with hk | hk
      · omega
      · rw [if_pos (by simpa using hk)]
    · rw [hn t h2 (by omega)]
      simp only [Bool.false_eq_true, if_false]
      exact cntW_eq s L k hk t h2 fun j h3 h4 => hn j h3 (by omega)
/-- each of the tail but the first waits for the one ahead -/
def chainW (ops : Array Oper) (s : Nat) : Bool := (List.range ops.size).all fun j => decide (j ≤ s) || match ops[j]? with
  | some o => o.after.any fun e => e.on == j - 1 && Region.binds .any e
  | none => true
/-- one of the region's pure operations, at one world -/
def PureAt (F : Fence) (n : Nat) (P : Program) (W : World) (ρ : Operand → Value) (o : Oper) (v : Value) : Prop :=
  (∀ c, o.op ≠ .defer c) ∧ (∀ f, o.about P W ρ = some f → F.fn f) ∧
    ((execOp ρ o).run P W = .ok (.value v) W ∨
      ∃ f args, (execOp ρ o).run P W = .ok (.enter f args) W ∧ CallsIn F (n - 1) P f args W fun e w' => e = .returned v ∧ ∃ q', w' = W.drewN q')
theorem wpIn_region_chain {β : Type} {F : Fence} {n : Nat} {P : Program} {id : Nat} {ops : Array Oper} {Q : Exit → Act → World → Prop} {a : Act} {w : World} (hF : F.depth = none) (hm : P.follows .mixedOrders = true)
    (asg wrt : β → List (Nat × Value)) (keys wk : List Nat) (hkeys : ∀ b, (asg b).map (·.1) = keys) (hwk : ∀ b, (wrt b).map (·.1) = wk) (hd : distinctB ops = true) (hdep : depsW ops keys wk = true) (hon : onlyB ops keys = true) (hord : orderedB ops = true) (hsz : keys.all (fun t => decide (t < a.tmps.size)) = true)
    (s t : Nat) (hst : s + t = ops.size) (hch : chainW ops s = true) (hroot : rootB ops (ops.size - 1) = true) (R : Nat → β → World → Prop) (hR : ∀ k b W q, R k b W → R k b (W.drewN q)) (b0 : β) (h0 : R 0 b0 w)
    (hops : ∀ i o k b W, i < s → k ≤ t → R k b W → ops[i]? = some o → PureAt F n P W (evP (asg b) a) o (valP ops (asg b ++ wrt b) i))
    (htail : ∀ k b W o, k < t → R k b W → ops[s + k]? = some o → (∀ c, o.op ≠ .defer c) ∧ (∀ f, o.about P W (evP (asg b) a) = some f → F.fn f) ∧ ∃ b' W', (∀ j, j < s + k → valP ops (asg b' ++ wrt b') j = valP ops (asg b ++ wrt b) j) ∧ R (k + 1) b' W' ∧
      ((execOp (evP (asg b) a) o).run P W = .ok .skip W' ∧ valP ops (asg b' ++ wrt b') (s + k) = undef ∨ (execOp (evP (asg b) a) o).run P W = .ok (.value (valP ops (asg b' ++ wrt b') (s + k))) W'))
    (hend : ∀ b W, R t b W → Q .normal { tmps := wrote ops (valP ops (asg b ++ wrt b)) (Array.replicate ops.size true) a.tmps ops.size, defers := a.defers } W) : (Code.region id ops true).wpIn F n P Q a w := by
  have hd' := distinct_of hd
  have hstepback : ∀ (L : Array Bool), (∀ (j : Nat) (oj : Oper), ops[j]? = some oj → L.getD j false = true → ∀ e ∈ oj.after, Region.binds .any e = true → L.getD e.on false = true) → ∀ j, s < j → j < ops.size → L.getD j false = true → L.getD (j - 1) false = true := by
    intro L hcl j h1 h2 hL
    have h3 := List.all_eq_true.1 hch j (List.mem_range.2 h2)
    have hoj : ops[j]? = some ops[j] := Array.getElem?_eq_getElem h2
    rw [hoj, Bool.or_eq_true, decide_eq_true_eq] at h3
    rcases h3 with h3 | h3
    · omega
    · obtain ⟨e, he, he2⟩ := Array.any_eq_true'.1 h3
      rw [Bool.and_eq_true, beq_iff_eq] at he2
      have := hcl j _ hoj hL e he he2.2
      rwa [he2.1] at this
  have hdown : ∀ (L : Array Bool), (∀ (j : Nat) (oj : Oper), ops[j]? = some oj → L.getD j false = true → ∀ e ∈ oj.after, Region.binds .any e = true → L.getD e.on false = true) → ∀ d i, s ≤ i → i + d < ops.size → L.getD (i + d) false = true → L.getD i false = true := by
    intro L hcl d
    induction d with
    | zero => intro i _ _ h; exact h
    | succ d ih =>
      intro i h1 h2 h
      refine ih i h1 (by omega) ?_
      have := hstepback L hcl (i + (d + 1)) (by omega) h2 h
      rwa [show i + (d + 1) - 1 = i + d by omega] at this
  have hclose : ∀ (L : Array Bool), (∀ (j : Nat) (oj : Oper), ops[j]? = some oj → L.getD j false = true → ∀ e ∈ oj.after, Region.binds .any e = true → L.getD e.on false = true) → ∀ s, s + 1 = ops.size → L.getD s false = true → ∀ k i, i + k = s → L.getD i false = true := by
    intro L hcl s hs hL k
    induction k using Nat.strongRecOn with
    | _ k ih =>
      intro i hik
      rcases Nat.eq_zero_or_pos k with h0 | h0
      · obtain rfl : i = s := by omega
        exact hL
      · simp only [rootB, List.all_eq_true, List.mem_range] at hroot
        have h1 := hroot i (by omega)
        rw [List.any_eq_true] at h1
        obtain ⟨j, hj, h2⟩ := h1
        rw [List.mem_range] at hj
        rw [Bool.and_eq_true, decide_eq_true_eq] at h2
        have hjl := ih (s - j) (by omega) j (by omega)
        cases ho : ops[j]? with
        | none => rw [ho] at h2; simp at h2
        | some o =>
          rw [ho] at h2
          obtain ⟨e, he, he2⟩ := Array.any_eq_true'.1 h2.2
          rw [Bool.and_eq_true, beq_iff_eq] at he2
          have := hcl j o ho hjl e he he2.2
          rwa [he2.1] at this
  have hnolast : ∀ (L : Array Bool), (∀ (j : Nat) (oj : Oper), ops[j]? = some oj → L.getD j false = true → ∀ e ∈ oj.after, Region.binds .any e = true → L.getD e.on false = true) → ∀ i, i < ops.size → L.getD i false = false → ∀ j, j + 1 = ops.size → L.getD j false = false := by
    intro L hcl i hi hf j hj
    apply Classical.byContradiction
    intro h
    have := hclose L hcl j hj (by simpa using h) (j - i) i (by omega)
    rw [hf] at this
    cases this
  refine wpIn_region_relH hm hd' (fun b => valP ops (asg b ++ wrt b)) (fun b L W => R (cntW s L t) b W) b0 ?_ ?_ ?_ (acyclic_of hord)
  · have : cntW s (Array.replicate ops.size false) t = 0 := cntW_eq s _ 0 (.inl rfl) t (Nat.zero_le _) fun j _ _ => by
      rw [Array.getD_eq_getD_getElem?, Array.getElem?_replicate]; split <;> rfl
    simp only [this]
    exact hR 0 b0 w 1 h0
  · intro b L a' W hW hLs hdf hcl hold hnew i hi o ho K hK
    obtain ⟨h1, o2, ho2, hde⟩ := mem_ready.1 hi
    obtain rfl : o = o2 := Option.some.inj (ho.symm.trans ho2)
    have hnl := unlisted h1
    have his : i < ops.size := (Array.getElem?_eq_some_iff.1 ho).1
    obtain ⟨l, hu, hg, hev⟩ := ops_hold (asg := asg b) (a := a) (a' := a') (L := L) (wrt := wrt b) (by rw [hkeys, hwk]; exact hdep) (by rw [hkeys]; exact hon) (by rw [hkeys]; exact hsz) (hnolast L hcl i his hnl) hold hnew ho hde
    have hex := exec_congrW hu hev
    have hab : ∀ V : World, o.about P V a'.eval = o.about P V (evP (asg b) a) := fun V => about_congrW hu hev
    rcases Nat.lt_or_ge i s with his' | his'
    · have hkt : cntW s L t ≤ t := cntW_le s L t
      obtain ⟨hdef, hf, hrun⟩ := hops i o _ b W his' hkt hW ho
      have hcw := cntW_other s L his' t
      rcases hrun with hrun | ⟨f, args, hrun, hcall⟩
      · refine in_value ho hg hdef (fun f hf' => hf f (by rw [← hab]; exact hf')) (by rw [hex]; exact hrun) ?_
        exact hK b W (fun _ _ => rfl) (by rw [hcw]; exact hW)
      · refine in_call_any ho hg hdef hF (fun f hf' => hf f (by rw [← hab]; exact hf')) (by rw [hex]; exact hrun) (hcall.mono ?_)
        rintro e w' ⟨rfl, q', rfl⟩
        exact ⟨_, rfl, hK b _ (fun _ _ => rfl) (by rw [hcw]; exact hR _ _ _ _ hW)⟩
    · obtain ⟨k, rfl⟩ : ∃ k, i = s + k := ⟨i - s, by omega⟩
      have hlater : ∀ j, k ≤ j → j < t → L.getD (s + j) false = false := by
        intro j h2 h3
        apply Classical.byContradiction
        intro h
        have := hdown L hcl (j - k) (s + k) (by omega) (by omega) (by rw [show s + k + (j - k) = s + j by omega]; simpa using h)
        rw [hnl] at this
        cases this
      have hprev : k = 0 ∨ L.getD (s + (k - 1)) false = true := by
        rcases Nat.eq_zero_or_pos k with h2 | h2
        · exact .inl h2
        · refine .inr ?_
          have h3 := List.all_eq_true.1 hch (s + k) (List.mem_range.2 his)
          rw [ho, Bool.or_eq_true, decide_eq_true_eq] at h3
          rcases h3 with h3 | h3
          · omega
          · obtain ⟨e, he, he2⟩ := Array.any_eq_true'.1 h3
            rw [Bool.and_eq_true, beq_iff_eq] at he2
            have := hde e he he2.2
            rw [he2.1] at this
            rwa [show s + k - 1 = s + (k - 1) by omega] at this
      have hc1 : cntW s L t = k := cntW_eq s L k hprev t (by omega) hlater
      have hc2 : cntW s (L.setIfInBounds (s + k) true) t = k + 1 := cntW_eq s _ (k + 1) (.inr (getD_set_self L (by omega))) t (by omega) fun j h2 h3 => by
        rw [getD_set_other L (by omega)]; exact hlater j (by omega) h3
      have hW2 : R k b W := by have := hW; simp only [hc1] at this; exact this
      obtain ⟨hdef, hf, b', W', hv, hR', hrun⟩ := htail k b W o (by omega) hW2 ho
      have hvv : ∀ j, L.getD j false = true → valP ops (asg b' ++ wrt b') j = valP ops (asg b ++ wrt b) j := by
        intro j hj
        rcases Nat.lt_or_ge j (s + k) with h2 | h2
        · exact hv j h2
        · exfalso
          have hjl : j < L.size := by
            apply Classical.byContradiction
            intro h
            rw [Array.getD_eq_getD_getElem?, Array.getElem?_eq_none (by omega)] at hj
            cases hj
          have := hlater (j - s) (by omega) (by omega)
          rw [show s + (j - s) = j by omega, hj] at this
          cases this
      have hk := hK b' W' hvv (by rw [hc2]; exact hR')
      rcases hrun with ⟨hrun, hvu⟩ | hrun
      · simp only [hvu] at hk
        exact in_skip ho hg hdef (fun f hf' => hf f (by rw [← hab]; exact hf')) (by rw [hex]; exact hrun) hk
      · exact in_value ho hg hdef (fun f hf' => hf f (by rw [← hab]; exact hf')) (by rw [hex]; exact hrun) hk
  · intro b L W hW hL
    have : cntW s L t = t := cntW_eq s L t (by rcases Nat.eq_zero_or_pos t with h | h; exact .inl h; exact .inr (hL _ (by omega))) t (Nat.le_refl _) fun j h1 h2 => absurd h2 (by omega)
    simp only [this] at hW
    exact hend b W hW
end Go.Proofs.Ytabhdkjepbkooaa

/- A region that draws its order, with makers of memory and calls among its first operations and a chain at its end. -/
set_option linter.unusedVariables false
set_option linter.unusedSimpArgs false
namespace Go.Proofs.Ytabhdkjepbkooaa
open Go.RowKit Go.Shelf

theorem wpIn_region_chainM {β : Type} {F : Fence} {n : Nat} {P : Program} {id : Nat} {ops : Array Oper} {Q : Exit → Act → World → Prop} {a : Act} {w : World} (hF : F.depth = none) (hm : P.follows .mixedOrders = true)
    (asg wrt : β → List (Nat × Value)) (keys wk : List Nat) (hkeys : ∀ b, (asg b).map (·.1) = keys) (hwk : ∀ b, (wrt b).map (·.1) = wk) (hd : distinctB ops = true) (hdep : depsW ops keys wk = true) (hon : onlyB ops keys = true) (hord : orderedB ops = true) (hsz : keys.all (fun t => decide (t < a.tmps.size)) = true)
    (s t : Nat) (hst : s + t = ops.size) (hch : chainW ops s = true) (hroot : rootB ops (ops.size - 1) = true) (R : Array Bool → Nat → β → World → Prop) (hR : ∀ L k b W q, R L k b W → R L k b (W.drewN q)) (b0 : β) (h0 : R (Array.replicate ops.size false) 0 b0 w)
    (hops : ∀ i o L k b W, i < s → k ≤ t → L.getD i false = false → L.size = ops.size → R L k b W → ops[i]? = some o → (∀ c, o.op ≠ .defer c) ∧ (∀ f, o.about P W (evP (asg b) a) = some f → F.fn f) ∧
      ((∃ W', (execOp (evP (asg b) a) o).run P W = .ok (.value (valP ops (asg b ++ wrt b) i)) W' ∧ R (L.setIfInBounds i true) k b W') ∨
        ∃ f args, (execOp (evP (asg b) a) o).run P W = .ok (.enter f args) W ∧ CallsIn F (n - 1) P f args W fun e w' => e = .returned (valP ops (asg b ++ wrt b) i) ∧ R (L.setIfInBounds i true) k b w'))
    (htail : ∀ L k b W o, k < t → L.size = ops.size → R L k b W → ops[s + k]? = some o → (∀ e ∈ o.after, Region.binds .any e = true → L.getD e.on false = true) → (∀ c, o.op ≠ .defer c) ∧ (∀ f, o.about P W (evP (asg b) a) = some f → F.fn f) ∧ ((∃ b' W', (∀ j, j < s + k → valP ops (asg b' ++ wrt b') j = valP ops (asg b ++ wrt b) j) ∧ R (L.setIfInBounds (s + k) true) (k + 1) b' W' ∧
      ((execOp (evP (asg b) a) o).run P W = .ok .skip W' ∧ valP ops (asg b' ++ wrt b') (s + k) = undef ∨ (execOp (evP (asg b) a) o).run P W = .ok (.value (valP ops (asg b' ++ wrt b') (s + k))) W')) ∨
      ∃ f args, (execOp (evP (asg b) a) o).run P W = .ok (.enter f args) W ∧ CallsIn F (n - 1) P f args W fun e W' => ∃ b', e = .returned (valP ops (asg b' ++ wrt b') (s + k)) ∧ (∀ j, j < s + k → valP ops (asg b' ++ wrt b') j = valP ops (asg b ++ wrt b) j) ∧ R (L.setIfInBounds (s + k) true) (k + 1) b' W'))
    (hend : ∀ b L W, (∀ i, i < ops.size → L.getD i false = true) → R L t b W → Q .normal { tmps := wrote ops (valP ops (asg b ++ wrt b)) (Array.replicate ops.size true) a.tmps ops.size, defers := a.defers } W) : (Code.region id ops true).wpIn F n P Q a w := by
  have hd' := distinct_of hd
  have hstepback : ∀ (L : Array Bool), (∀ (j : Nat) (oj : Oper), ops[j]? = some oj → L.getD j false = true → ∀ e ∈ oj.after, Region.binds .any e = true → L.getD e.on false = true) → ∀ j, s < j → j < ops.size → L.getD j false = true → L.getD (j - 1) false = true := by
    intro L hcl j h1 h2 hL
    have h3 := List.all_eq_true.1 hch j (List.mem_range.2 h2)
    have hoj : ops[j]? = some ops[j] := Array.getElem?_eq_getElem h2
    rw [hoj, Bool.or_eq_true, decide_eq_true_eq] at h3
    rcases h3 with h3 | h3
    · omega
    · obtain ⟨e, he, he2⟩ := Array.any_eq_true'.1 h3
      rw [Bool.and_eq_true, beq_iff_eq] at he2
      have := hcl j _ hoj hL e he he2.2
      rwa [he2.1] at this
  have hdown : ∀ (L : Array Bool), (∀ (j : Nat) (oj : Oper), ops[j]? = some oj → L.getD j false = true → ∀ e ∈ oj.after, Region.binds .any e = true → L.getD e.on false = true) → ∀ d i, s ≤ i → i + d < ops.size → L.getD (i + d) false = true → L.getD i false = true := by
    intro L hcl d
    induction d with
    | zero => intro i _ _ h; exact h
    | succ d ih =>
      intro i h1 h2 h
      refine ih i h1 (by omega) ?_
      have := hstepback L hcl (i + (d + 1)) (by omega) h2 h
      rwa [show i + (d + 1) - 1 = i + d by omega] at this
  have hclose : ∀ (L : Array Bool), (∀ (j : Nat) (oj : Oper), ops[j]? = some oj → L.getD j false = true → ∀ e ∈ oj.after, Region.binds .any e = true → L.getD e.on false = true) → ∀ s, s + 1 = ops.size → L.getD s false = true → ∀ k i, i + k = s → L.getD i false = true := by
    intro L hcl s hs hL k
    induction k using Nat.strongRecOn with
    | _ k ih =>
      intro i hik
      rcases Nat.eq_zero_or_pos k with h0 | h0
      · obtain rfl : i = s := by omega
        exact hL
      · simp only [rootB, List.all_eq_true, List.mem_range] at hroot
        have h1 := hroot i (by omega)
        rw [List.any_eq_true] at h1
        obtain ⟨j, hj, h2⟩ := h1
        rw [List.mem_range] at hj
        rw [Bool.and_eq_true, decide_eq_true_eq] at h2
        have hjl := ih (s - j) (by omega) j (by omega)
        cases ho : ops[j]? with
        | none => rw [ho] at h2; simp at h2
        | some o =>
          rw [ho] at h2
          obtain ⟨e, he, he2⟩ := Array.any_eq_true'.1 h2.2
          rw [Bool.and_eq_true, beq_iff_eq] at he2
          have := hcl j o ho hjl e he he2.2
          rwa [he2.1] at this
  have hnolast : ∀ (L : Array Bool), (∀ (j : Nat) (oj : Oper), ops[j]? = some oj → L.getD j false = true → ∀ e ∈ oj.after, Region.binds .any e = true → L.getD e.on false = true) → ∀ i, i < ops.size → L.getD i false = false → ∀ j, j + 1 = ops.size → L.getD j false = false := by
    intro L hcl i hi hf j hj
    apply Classical.byContradiction
    intro h
    have := hclose L hcl j hj (by simpa using h) (j - i) i (by omega)
    rw [hf] at this
    cases this
  refine wpIn_region_relH hm hd' (fun b => valP ops (asg b ++ wrt b)) (fun b L W => R L (cntW s L t) b W) b0 ?_ ?_ ?_ (acyclic_of hord)
  · have : cntW s (Array.replicate ops.size false) t = 0 := cntW_eq s _ 0 (.inl rfl) t (Nat.zero_le _) fun j _ _ => by
      rw [Array.getD_eq_getD_getElem?, Array.getElem?_replicate]; split <;> rfl
    simp only [this]
    exact hR _ 0 b0 w 1 h0
  · intro b L a' W hW hLs hdf hcl hold hnew i hi o ho K hK
    obtain ⟨h1, o2, ho2, hde⟩ := mem_ready.1 hi
    obtain rfl : o = o2 := Option.some.inj (ho.symm.trans ho2)
    have hnl := unlisted h1
    have his : i < ops.size := (Array.getElem?_eq_some_iff.1 ho).1
    obtain ⟨l, hu, hg, hev⟩ := ops_hold (asg := asg b) (a := a) (a' := a') (L := L) (wrt := wrt b) (by rw [hkeys, hwk]; exact hdep) (by rw [hkeys]; exact hon) (by rw [hkeys]; exact hsz) (hnolast L hcl i his hnl) hold hnew ho hde
    have hex := exec_congrW hu hev
    have hab : ∀ V : World, o.about P V a'.eval = o.about P V (evP (asg b) a) := fun V => about_congrW hu hev
    rcases Nat.lt_or_ge i s with his' | his'
    · have hkt : cntW s L t ≤ t := cntW_le s L t
      obtain ⟨hdef, hf, hrun⟩ := hops i o L _ b W his' hkt hnl hLs hW ho
      have hcw := cntW_other s L his' t
      rcases hrun with ⟨W', hrun, hW'⟩ | ⟨f, args, hrun, hcall⟩
      · refine in_value ho hg hdef (fun f hf' => hf f (by rw [← hab]; exact hf')) (by rw [hex]; exact hrun) ?_
        exact hK b W' (fun _ _ => rfl) (by rw [hcw]; exact hW')
      · refine in_call_any ho hg hdef hF (fun f hf' => hf f (by rw [← hab]; exact hf')) (by rw [hex]; exact hrun) (hcall.mono ?_)
        rintro e w' ⟨rfl, hW'⟩
        exact ⟨_, rfl, hK b _ (fun _ _ => rfl) (by rw [hcw]; exact hW')⟩
    · obtain ⟨k, rfl⟩ : ∃ k, i = s + k := ⟨i - s, by omega⟩
      have hlater : ∀ j, k ≤ j → j < t → L.getD (s + j) false = false := by
        intro j h2 h3
        apply Classical.byContradiction
        intro h
        have := hdown L hcl (j - k) (s + k) (by omega) (by omega) (by rw [show s + k + (j - k) = s + j by omega]; simpa using h)
        rw [hnl] at this
        cases this
      have hprev : k = 0 ∨ L.getD (s + (k - 1)) false = true := by
        rcases Nat.eq_zero_or_pos k with h2 | h2
        · exact .inl h2
        · refine .inr ?_
          have h3 := List.all_eq_true.1 hch (s + k) (List.mem_range.2 his)
          rw [ho, Bool.or_eq_true, decide_eq_true_eq] at h3
          rcases h3 with h3 | h3
          · omega
          · obtain ⟨e, he, he2⟩ := Array.any_eq_true'.1 h3
            rw [Bool.and_eq_true, beq_iff_eq] at he2
            have := hde e he he2.2
            rw [he2.1] at this
            rwa [show s + k - 1 = s + (k - 1) by omega] at this
      have hc1 : cntW s L t = k := cntW_eq s L k hprev t (by omega) hlater
      have hc2 : cntW s (L.setIfInBounds (s + k) true) t = k + 1 := cntW_eq s _ (k + 1) (.inr (getD_set_self L (by omega))) t (by omega) fun j h2 h3 => by
        rw [getD_set_other L (by omega)]; exact hlater j (by omega) h3
      have hW2 : R L k b W := by have := hW; simp only [hc1] at this; exact this
      obtain ⟨hdef, hf, hor⟩ := htail L k b W o (by omega) hLs hW2 ho hde
      have hvv : ∀ b', (∀ j, j < s + k → valP ops (asg b' ++ wrt b') j = valP ops (asg b ++ wrt b) j) → ∀ j, L.getD j false = true → valP ops (asg b' ++ wrt b') j = valP ops (asg b ++ wrt b) j := by
        intro b' hv j hj
        rcases Nat.lt_or_ge j (s + k) with h2 | h2
        · exact hv j h2
        · exfalso
          have hjl : j < L.size := by
            apply Classical.byContradiction
            intro h
            rw [Array.getD_eq_getD_getElem?, Array.getElem?_eq_none (by omega)] at hj
            cases hj
          have := hlater (j - s) (by omega) (by omega)
          rw [show s + (j - s) = j by omega, hj] at this
          cases this
      rcases hor with ⟨b', W', hv, hR', hrun⟩ | ⟨f, args, hrun, hcall⟩
      · have hk := hK b' W' (hvv b' hv) (by rw [hc2]; exact hR')
        rcases hrun with ⟨hrun, hvu⟩ | hrun
        · simp only [hvu] at hk
          exact in_skip ho hg hdef (fun f hf' => hf f (by rw [← hab]; exact hf')) (by rw [hex]; exact hrun) hk
        · exact in_value ho hg hdef (fun f hf' => hf f (by rw [← hab]; exact hf')) (by rw [hex]; exact hrun) hk
      · refine in_call_any ho hg hdef hF (fun f hf' => hf f (by rw [← hab]; exact hf')) (by rw [hex]; exact hrun) (hcall.mono ?_)
        rintro e W' ⟨b', rfl, hv, hR'⟩
        exact ⟨_, rfl, hK b' W' (hvv b' hv) (by rw [hc2]; exact hR')⟩
  · intro b L W hW hL
    have : cntW s L t = t := cntW_eq s L t (by rcases Nat.eq_zero_or_pos t with h | h; exact .inl h; exact .inr (hL _ (by omega))) t (Nat.le_refl _) fun j h1 h2 => absurd h2 (by omega)
    simp only [this] at hW
    exact hend b L W hL hW
end Go.Proofs.Ytabhdkjepbkooaa

/- aescore: GHASH. -/
set_option linter.unusedVariables false
set_option linter.unusedSimpArgs false
namespace Go.Proofs.Ytabhdkjepbkooaa
open Go.RowKit
attribute [local go_sem] Oper.semAt_some

theorem exec_load_mid {P : Program} {w : World} {ρ : Operand → Value} {o : Oper} (ty : TypeId) (x : Operand) (ho : o.op = .load ty x) (b off : Nat) (hx : ρ x = .pointer (some ⟨b, off, none⟩)) (cs : List Value) (d : TypeDesc) (hc : w.rangeAt b off cs)
    (hu : P.underlying ty = some d) (hd : d.isRow = true) (hi : (P.info? ty).map (·.size) = some cs.length) : (execOp ρ o).run P w = .ok (.value (.agg cs.toArray)) w := by
  unfold execOp
  simp only [ho, hx, Instr.loadAt, Instr.sureAddr, Sem.run_bind, Sem.run_pure, Result.andThen_ok, run_loadVar_mid w b off ty cs d hc hu hd hi]
theorem exec_store_mid {P : Program} {w : World} {ρ : Operand → Value} {o : Oper} (ty : TypeId) (x y : Operand) (ho : o.op = .store ty x y) (b off : Nat) (cells : Array Value) (hx : ρ x = .pointer (some ⟨b, off, none⟩)) (hy : ρ y = .agg cells)
    (ht : w.there b off cells.size) (hi : (P.info? ty).map (·.size) = some cells.size) (h1 : cells.all (·.oneCell') = true) : (execOp ρ o).run P w = .ok .skip (w.setCells b off cells.toList) := by
  unfold execOp
  simp only [ho, hx, hy, Instr.storeAt, Instr.sureAddr, Sem.run_bind, Sem.run_pure, Result.andThen_ok, run_storeVar_mid w b off ty cells ht hi h1]
/-- the hash of the first j pieces -/
def ghN (K : BitVec 128) (bs : List (BitVec 8)) : Nat → BitVec 128
  | 0 => 0
  | j + 1 => timesV (ghN K bs j ^^^ elV (pieceK bs 16 j)) K
def ghA (K : BitVec 128) (bs : List (BitVec 8)) : BitVec 128 := ghN K bs ((bs.length + 15) / 16)
/-- the halves of an element -/
def hiV (v : BitVec 128) : BitVec 64 := (v >>> 64).setWidth 64
def loV (v : BitVec 128) : BitVec 64 := v.setWidth 64
theorem hi_app (a b : BitVec 64) : hiV (a ++ b) = a := by
  apply BitVec.eq_of_getLsbD_eq
  intro i hi
  unfold hiV
  rw [BitVec.getLsbD_setWidth, BitVec.getLsbD_ushiftRight, BitVec.getLsbD_append, if_neg (by omega)]
  simp [hi]
theorem lo_app (a b : BitVec 64) : loV (a ++ b) = b := by
  apply BitVec.eq_of_getLsbD_eq
  intro i hi
  unfold loV
  rw [BitVec.getLsbD_setWidth, BitVec.getLsbD_append, if_pos hi]
  simp [hi]
theorem app_halves (v : BitVec 128) : hiV v ++ loV v = v := by
  apply BitVec.eq_of_getLsbD_eq
  intro i hi
  rw [BitVec.getLsbD_append]
  unfold hiV loV
  by_cases h : i < 64
  · rw [if_pos h, BitVec.getLsbD_setWidth]; simp [h]
  · rw [if_neg h, BitVec.getLsbD_setWidth, BitVec.getLsbD_ushiftRight, show 64 + (i - 64) = i by omega]
    simp; omega
theorem etimes_det (w : World) (eh el fh0 fl0 : BitVec 64) : Calls Try.prog 36 #[EV eh el, EV fh0 fl0] w fun e w' => e = .returned (EV (hiV (timesV (eh ++ el) (fh0 ++ fl0))) (loV (timesV (eh ++ el) (fh0 ++ fl0)))) ∧ Below w.heap.size w w' := by
  refine (etimes_any w eh el fh0 fl0).mono ?_
  rintro e w' ⟨zh, zl, rfl, hz, hb⟩
  rw [← hz, hi_app, lo_app]
  exact ⟨rfl, hb⟩
/-- how far GHASH has come -/
def GhI (w0 : World) (g : Nat) (K : BitVec 128) (bs : List (BitVec 8)) (pre : List CkX) (W : World) : Prop :=
  OnlyV w0 W g ∧ (pre.length = 0 ∨ 16 * (pre.length - 1) < bs.length) ∧ RowV 61 W g [W64 (hiV (ghN K bs pre.length)), W64 (loV (ghN K bs pre.length))]
theorem GhI.own (w0 : World) (g : Nat) (K : BitVec 128) (bs : List (BitVec 8)) : OwnFrom w0.heap.size (GhI w0 g K bs) := fun s W W' row hs hg hr =>
  ⟨hs.1.grown hg (fun r e => (hr r e).1), hs.2.1, hs.2.2.kept hg (fun r e => (hr r e).2)⟩
set_option maxRecDepth 100000 in
set_option maxHeartbeats 8000000 in
theorem ghash_any (w : World) (B b1 o1 c1 : Nat) (h : List (BitVec 8)) (hh : SlV w B (some ⟨b1, o1, none⟩) 16 c1 (h.map W8)) (A : Option Addr) (b off n c : Nat) (hA : 0 < n → A = some ⟨b, off, none⟩) (bs : List (BitVec 8)) (hs : SlV w B A n c (bs.map W8)) (hn9 : n ≤ 1000000) (hB : B ≤ w.heap.size) :
    Calls Try.prog 16 #[.slice (some ⟨b1, o1, none⟩) 16 c1, .slice A n c] w fun e w' => ∃ g, e = .returned (.slice (some ⟨g, 0, none⟩) 16 16) ∧ w.heap.size ≤ g ∧ RowV 5 w' g ((byV (ghA (elV h) bs)).map W8) ∧ Below w.heap.size w w' := by
  have hhl : h.length = 16 := by have := hh.len; simp at this; omega
  have hbl : bs.length = n := by have := hs.len; simpa using this.symm
  have hcap := hs.cap
  have hcm := hs.max
  obtain ⟨z, hz⟩ : ∃ z, w.heap.size = z := ⟨_, rfl⟩
  have hte := toElement_any w B b1 o1 16 c1 h hh hB (by decide) (by decide)
  rw [hz] at hte hB
  have HTE := Lib.hid hte
  have HZ := Lib.hid hz
  have HS := Lib.hid hs
  have HBL := Lib.hid hbl
  have HHL := Lib.hid hhl
  clear hte hz hs hh hbl hhl
  obtain ⟨kh, hkh⟩ : ∃ x, hiE h = x := ⟨_, rfl⟩
  obtain ⟨kl, hkl⟩ : ∃ x, loE h = x := ⟨_, rfl⟩
  rw [hkh, hkl] at HTE
  have HKE := Lib.hid (show @Eq (BitVec 128) (kh ++ kl) (elV h) by rw [elV_halves h (by have := HHL.out; omega), hkh, hkl])
  clear hkh hkl
  refine (callsIn_wide (n := 9)).1 ?_
  refine callsIn_of_wp_marks Try.func16 rfl trivial ?_ rfl
  simp only [Try.ntmps16, List.size_toArray, List.length_cons, List.length_nil, Nat.reduceAdd, Nat.reduceSub, Array.replicate_succ, Array.replicate_zero, List.push_toArray, List.append_toArray, List.nil_append, List.cons_append]
  gi_wp2_with fail
  refine ⟨trivial, (callsIn_wide.2 HTE.out).mono ?_⟩
  rintro e V1 ⟨rfl, b1'⟩
  obtain ⟨V2, e2, r2, b2, z2⟩ := newE0 V1
  obtain ⟨g5, hg5⟩ : ∃ x, V1.heap.size = x := ⟨_, rfl⟩
  have hz5 : z ≤ g5 := by have := b1'.size; have := HZ.out; omega
  rw [hg5] at r2 b2
  obtain ⟨V3, e3⟩ : ∃ V, V2.setCells g5 0 [W64 kh, W64 kl] = V := ⟨_, rfl⟩
  have r3 : RowV 61 V3 g5 [W64 kh, W64 kl] := by rw [← e3]; exact r2.setAll _ rfl
  have b3 : Below z w V3 := by rw [← e3]; exact below_setMany hz5 _ 0 w V2 (b1'.trans (b2.mono hz5))
  have th2 := r2.thereAll 2 rfl
  obtain ⟨V4, e4, r4, b4, z4⟩ := newE0 V3
  obtain ⟨g6, hg6⟩ : ∃ x, V3.heap.size = x := ⟨_, rfl⟩
  have h56 : g5 < g6 := by rw [← hg6]; exact r3.lt
  rw [hg6] at r4 b4
  have b04 : Below z w V4 := b3.trans (b4.mono (by omega))
  have HR5 := Lib.hid (r3.below b4 h56)
  have HR6 := Lib.hid r4
  have HB4 := Lib.hid b04
  have hck := chunk_any V4 (.slice A n c) 16 (by decide) A n c rfl
  have HCK := Lib.hid hck
  have HL := Lib.hid (And.intro hz5 h56)
  clear b1' b2 b3 b4 b04 r2 r3 r4 z2 z4 hck hz5
  gi_wp2_with ((with_reducible show wpListIn _ _ _ _ _ (⟨none, _, _, _, _, _⟩ :: _) _ _); refine wpListIn_store_mid rfl 61 _ _ rfl g5 0 [W64 kh, W64 kl].toArray rfl rfl th2 Try.sizeE (all_oneCell_toArray (onesE kh kl)) ?_; (try rw [List.toList_toArray]); rw [e3])
  refine ⟨trivial, (callsIn_wide.2 HCK.out).mono ?_⟩
  rintro e V8 ⟨g1, g2, rfl, hg1, hg2, hr1, hr2, hb8⟩
  have hl := HL.out
  have hg64 : g6 < V4.heap.size := HR6.out.lt
  have hseq := chunk1_in 8 (by decide) V8 g6 g1 g2 b off n c 16 A hA bs HBL.out hr1 hr2 (by decide) (by decide) hcap hcm (by omega) (by omega) (by omega)
  have HSEQ := Lib.hid hseq
  have HR58 := Lib.hid (HR5.out.later hb8)
  have HR68 := Lib.hid (HR6.out.later hb8)
  have hz4 : z ≤ V4.heap.size := by have := HB4.out.size; have := HZ.out; omega
  have HB8 := Lib.hid (HB4.out.trans (hb8.mono hz4))
  have hg68 : g6 < V8.heap.size := HR68.out.lt
  clear hseq hb8 hr1 hr2
  gi_wp2_with fail
  refine wpIn_rangeP rfl (by decide) (gf := 46) (lb := #[.pointer (some ⟨g1, 0, none⟩), .pointer (some ⟨g2, 0, none⟩)]) rfl trivial (enters_of Try.func46 (by kernel_rfl) rfl)
    HSEQ.out (fun a b => a.trans b) (fun W l o o' hl ho _ _ => KpE.put hl ho) (fun _ => rfl)
    (GhI V8 g6 (elV h) bs) (fun _ _ _ => False) (GhI.own _ _ _ _) (fun _ _ _ _ _ h _ _ => h.elim) (fun pre => CkR.own _ _ _ _ _ pre) ?hI0 ?a1x ?assign ?body ?done ?stop
  case hI0 =>
    refine ⟨OnlyV.refl _ _, .inl rfl, ?_⟩
    rw [List.length_nil, ghN, show hiV 0 = 0 by decide, show loV 0 = 0 by decide]
    exact HR68.out
  case assign =>
    intro l x W K hK
    gi_wp2
    exact hK
  case body =>
    rintro l pre ⟨xi, Ap, np, cp⟩ W ⟨hO, _, hS⟩ ⟨hxi, hxl, hxA, hxn, hxc⟩ hpl
    dsimp only at hxi hxl hxA hxn hxc
    obtain ⟨p, hp⟩ : ∃ p, 16 * pre.length = p := ⟨_, rfl⟩
    rw [hp] at hxl hxA hxn
    have hn0 : 0 < n := by have := HBL.out; omega
    obtain rfl := hA hn0
    subst hxA
    have hxc2 := hxc.symm
    subst hxc2
    clear hxc
    have hbl2 := HBL.out
    have hnp : 0 < np ∧ np ≤ 16 ∧ p + np ≤ n := by omega
    have hpc : ((bs.map W8).drop p).take np = (pieceK bs 16 pre.length).map W8 := by
      unfold pieceK
      rw [hp, List.map_take, List.map_drop]
      by_cases h16 : 16 ≤ bs.length - p
      · rw [show np = 16 by omega]
      · rw [List.take_of_length_le (by simp; omega), List.take_of_length_le (by simp; omega)]
    obtain ⟨pc, hpce⟩ : ∃ l, pieceK bs 16 pre.length = l := ⟨_, rfl⟩
    rw [hpce] at hpc
    have hsw : SlV w B (some ⟨b, off + p, none⟩) np np (pc.map W8) := by
      have h1 := (HS.out.drop (k := p) (by omega)).take (k := np) (by omega)
      rw [hpc] at h1
      exact ⟨h1.1, Nat.le_refl _, by omega, h1.2.2.2⟩
    have hs8 := hsw.below (HB8.out.mono hB)
    have hsW : SlV W W.heap.size (some ⟨b, off + p, none⟩) np np (pc.map W8) := by
      have h1 : SlV V8 V8.heap.size (some ⟨b, off + p, none⟩) np np (pc.map W8) := hs8.more (by have := HB8.out.size; have := HZ.out; omega)
      refine h1.kept_only hO fun b' off' s' e => ?_
      obtain ⟨b2, o2, _, e2, hlt, _⟩ := hs8.at_ (k := 0) (by omega)
      injection e with e
      injection e2 with e2
      rw [e] at e2
      injection e2 with e3
      omega
    obtain ⟨Y, hY⟩ : ∃ Y, ghN (elV h) bs pre.length = Y := ⟨_, rfl⟩
    rw [hY] at hS
    have hpcl : pc.length ≤ 16 := by rw [← hpce]; unfold pieceK; simp; omega
    have hnew : ghN (elV h) bs (pre.length + 1) = timesV (Y ^^^ elV pc) (elV h) := by rw [ghN, hY, hpce]
    obtain ⟨N, hN⟩ : ∃ N, timesV (Y ^^^ elV pc) (elV h) = N := ⟨_, rfl⟩
    have hte := fun V (hb : Below W.heap.size W V) => toElement_any V W.heap.size b (off + p) np np pc (hsW.below hb) hb.size hnp.1 hnp.2.1
    obtain ⟨eh, heh⟩ : ∃ x, hiE pc = x := ⟨_, rfl⟩
    obtain ⟨el, hel⟩ : ∃ x, loE pc = x := ⟨_, rfl⟩
    rw [heh, hel] at hte
    obtain ⟨yh, hyh⟩ : ∃ x, hiV Y = x := ⟨_, rfl⟩
    obtain ⟨yl, hyl⟩ : ∃ x, loV Y = x := ⟨_, rfl⟩
    rw [hyh, hyl] at hS
    have hprod : timesV ((yh ^^^ eh) ++ (yl ^^^ el)) (kh ++ kl) = N := by
      rw [app_xor, ← hyh, ← hyl, app_halves, ← heh, ← hel, ← elV_halves pc hpcl, HKE.out, hN]
    have htm := fun V => etimes_det V (yh ^^^ eh) (yl ^^^ el) kh kl
    rw [hprod] at htm
    obtain ⟨nh, hnh⟩ : ∃ x, hiV N = x := ⟨_, rfl⟩
    obtain ⟨nl, hnl⟩ : ∃ x, loV N = x := ⟨_, rfl⟩
    rw [hnh, hnl] at htm
    have HTEp := Lib.hid hte
    have HTM := Lib.hid htm
    have HNEW := Lib.hid (show ghN (elV h) bs (pre.length + 1) = N from hnew.trans hN)
    have HNN := Lib.hid (And.intro hnh hnl)
    have HOW := Lib.hid hO
    have HS6 := Lib.hid hS
    have HS5 := Lib.hid (HR58.out.only hO (show g5 ≠ g6 by omega))
    have HXL := Lib.hid (show 16 * pre.length < bs.length by omega)
    clear hte htm hnew hprod hN hnh hnl heh hel hyh hyl hY hsW hs8 hsw hpc hpce hpcl hO hS hp hxl hxi hxn hpl hbl2 hn0
    gi_wp2_with fail
    refine wpIn_region_chainM (β := Unit) rfl (by kernel_rfl) (fun _ => [(16, EV yh yl), (17, .slice (some ⟨b, off + p, none⟩) np np), (18, EV eh el), (19, EV (yh ^^^ eh) (yl ^^^ el)), (20, EV kh kl), (21, EV nh nl)]) (fun _ => []) [16, 17, 18, 19, 20, 21] [] (fun _ => rfl) (fun _ => rfl) (by kernel_rfl) (by kernel_rfl) (by kernel_rfl) (by kernel_rfl) (by first | rfl | simp) 6 1 rfl (by kernel_rfl) (by kernel_rfl)
      (fun L k _ V => (k = 0 → Below W.heap.size W V) ∧ (k = 1 → (∀ i, i < 6 → L.getD i false = true) ∧ OnlyV W V g6 ∧ RowV 61 V g6 [W64 nh, W64 nl])) ?hR () ?h0 ?hops ?htail ?hend
    case hR =>
      rintro L k u V q ⟨q1, q2⟩
      exact ⟨fun e => below_drewN (q1 e) q, fun e => ⟨(q2 e).1, (q2 e).2.1.drewN q, (q2 e).2.2⟩⟩
    case h0 => exact ⟨fun _ => Below.refl _ _, fun e => by omega⟩
    case hops =>
      rintro i o L k u V his hk hLi hLs ⟨q1, q2⟩ ho
      have hk0 : k = 0 := by
        have hk1 : k = 0 ∨ k = 1 := by omega
        rcases hk1 with h1 | h1
        · exact h1
        · have := (q2 h1).1 i his
          rw [hLi] at this
          cases this
      have hV := q1 hk0
      have hr6 := HS6.out.later hV
      have hr5 := HS5.out.later hV
      have hR' : ∀ V', Below W.heap.size W V' → ∀ L' : Array Bool, (k = 0 → Below W.heap.size W V') ∧ (k = 1 → (∀ i, i < 6 → L'.getD i false = true) ∧ OnlyV W V' g6 ∧ RowV 61 V' g6 [W64 nh, W64 nl]) := fun V' hb L' => ⟨fun _ => hb, fun e => by omega⟩
      clear q1 q2
      have hi2 : i = 0 ∨ i = 1 ∨ i = 2 ∨ i = 3 ∨ i = 4 ∨ i = 5 := by omega
      rcases hi2 with rfl | rfl | rfl | rfl | rfl | rfl
      all_goals
        have ho' := ho
        simp only [List.getElem?_toArray, List.getElem?_cons_zero, List.getElem?_cons_succ, Option.some.injEq] at ho'
        subst ho'
        refine ⟨(by intro c h; cases h), fun _ _ => trivial, ?_⟩
      · exact .inl ⟨V, exec_load_mid 61 _ rfl g6 0 rfl [W64 yh, W64 yl] _ hr6.range0 Try.underlying61 rfl Try.sizeE, hR' V hV _⟩
      · exact .inl ⟨V, by simp [execOp, evP, valP, Act.eval, List.lookup_cons], hR' V hV _⟩
      · refine .inr ⟨35, #[.slice (some ⟨b, off + p, none⟩) np np], ?_, (CallsIn.inRound l (callsIn_wide.2 (HTEp.out V hV))).mono ?_⟩
        · simp [execOp, evP, valP, Act.eval, List.lookup_cons, go_sem]
        · rintro e V' ⟨rfl, hb⟩
          exact ⟨rfl, hR' V' (hV.trans (hb.mono hV.size)) _⟩
      · refine .inr ⟨39, #[EV yh yl, EV eh el], ?_, (CallsIn.inRound l (callsIn_wide.2 (plus_any V yh yl eh el))).mono ?_⟩
        · simp [execOp, evP, valP, Act.eval, List.lookup_cons, go_sem]
        · rintro e V' ⟨rfl, hb⟩
          exact ⟨rfl, hR' V' (hV.trans (hb.mono hV.size)) _⟩
      · exact .inl ⟨V, exec_load_mid 61 _ rfl g5 0 rfl [W64 kh, W64 kl] _ hr5.range0 Try.underlying61 rfl Try.sizeE, hR' V hV _⟩
      · refine .inr ⟨36, #[EV (yh ^^^ eh) (yl ^^^ el), EV kh kl], ?_, (CallsIn.inRound l (callsIn_wide.2 (HTM.out V))).mono ?_⟩
        · simp [execOp, evP, valP, Act.eval, List.lookup_cons, go_sem]
        · rintro e V' ⟨rfl, hb⟩
          exact ⟨rfl, hR' V' (hV.trans (hb.mono hV.size)) _⟩
    case htail =>
      rintro L k u V o hk hLs ⟨q1, q2⟩ ho haf
      obtain rfl : k = 0 := by omega
      have hV := q1 rfl
      have hr6 := HS6.out.later hV
      have hth := hr6.thereAll 2 rfl
      have ho' := ho
      simp only [Nat.add_zero, List.getElem?_toArray, List.getElem?_cons_zero, List.getElem?_cons_succ, Option.some.injEq] at ho'
      subst ho'
      refine ⟨(by intro c h; cases h), fun _ _ => trivial, .inl ⟨(), V.setCells g6 0 [W64 nh, W64 nl], fun _ _ => rfl, ⟨fun e => by omega, fun _ => ⟨?_, ?_, ?_⟩⟩, .inl ⟨?_, rfl⟩⟩⟩
      · intro i hi
        rw [show 6 + 0 = 6 from rfl, getD_set_other _ (show (6 : Nat) ≠ i by omega)]
        have hi2 : i = 0 ∨ i = 1 ∨ i = 2 ∨ i = 3 ∨ i = 4 ∨ i = 5 := by omega
        rcases hi2 with rfl | rfl | rfl | rfl | rfl | rfl
        · exact haf ⟨0, .phase⟩ (by simp) rfl
        · exact haf ⟨1, .phase⟩ (by simp) rfl
        · exact haf ⟨2, .phase⟩ (by simp) rfl
        · exact haf ⟨3, .phase⟩ (by simp) rfl
        · exact haf ⟨4, .phase⟩ (by simp) rfl
        · exact haf ⟨5, .phase⟩ (by simp) rfl
      · exact OnlyV.sets _ _ _ (OnlyV.of_below hV g6)
      · exact hr6.setAll _ rfl
      · exact exec_store_mid 61 _ _ rfl g6 0 [W64 nh, W64 nl].toArray rfl rfl hth Try.sizeE (all_oneCell_toArray (onesE nh nl))
    case hend =>
      rintro u L V hL ⟨_, q2⟩
      obtain ⟨_, q3, q4⟩ := q2 rfl
      refine ⟨⟨q3.size, fun k o hk hh _ => (q3.block k (Array.getElem?_eq_some_iff.1 hh).1 (fun e => by injection e; omega)).trans hh⟩, KpE.only q3 HOW.out.size, HOW.out.trans q3, .inr ?_, ?_⟩
      · rw [List.length_append, List.length_singleton, Nat.add_sub_cancel]; exact HXL.out
      · rw [List.length_append, List.length_singleton, HNEW.out, HNN.out.1, HNN.out.2]; exact q4
  case done =>
    rintro D ys W hD hys ⟨hO, hlast, hS⟩ hK
    have hyl : ys.length = (bs.length + 15) / 16 := by have h2 := HBL.out; omega
    rw [hyl] at hS
    have he : ghN (elV h) bs ((bs.length + 15) / 16) = ghA (elV h) bs := rfl
    rw [he] at hS
    have HS6 := Lib.hid hS
    have HO := Lib.hid hO
    have HD := Lib.hid hD
    have hrs := hS.range0
    have heb := ebytes_any W (hiV (ghA (elV h) bs)) (loV (ghA (elV h) bs))
    rw [app_halves] at heb
    obtain ⟨gh, hgh⟩ : ∃ x, hiV (ghA (elV h) bs) = x := ⟨_, rfl⟩
    obtain ⟨gl, hgl⟩ : ∃ x, loV (ghA (elV h) bs) = x := ⟨_, rfl⟩
    rw [hgh, hgl] at heb hrs
    have HEB := Lib.hid heb
    clear he hS hO hys hD hlast hyl heb hgh hgl
    gi_wp2_with ((with_reducible show wpListIn _ _ _ _ _ (⟨some 22, _, _, _, _, _⟩ :: _) _ _); refine wpListIn_load_mid rfl 61 _ rfl g6 0 rfl [W64 gh, W64 gl] _ hrs Try.underlying61 rfl Try.sizeE ?_)
    refine ⟨trivial, (callsIn_wide.2 HEB.out).mono ?_⟩
    rintro e W2 ⟨g, rfl, hg, hr, hb⟩
    have HR := Lib.hid hr
    have HB2 := Lib.hid hb
    have HGG := Lib.hid hg
    have hK2 : W2.heap[D]? = some (.deferred (some [])) := (hb.block D (Array.getElem?_eq_some_iff.1 hK).1).trans hK
    clear hr hb hg hrs hK
    gi_wp2
    refine ⟨by simp, .inl ⟨_, _, rfl, run_takeDeferred hK2, ?_⟩⟩
    have hgr := grownBy_putObj' W2 D (.deferred none)
    have hnc : ∀ r, some D = some r → ∃ o : Obj, W2.heap[r]? = some o ∧ o.isCells = false := fun r e => by cases e; exact ⟨_, hK2, rfl⟩
    have h8 := HB8.out.size
    rw [HZ.out] at h8
    have h9 := HO.out.size
    have h10 := HGG.out
    refine ⟨.slice (some ⟨g, 0, none⟩) 16 16, by simp [results, Try.f16, go_sem], g, rfl, by rw [HZ.out]; omega, HR.out.kept hgr hnc, ?_⟩
    rw [HZ.out]
    have hzg : z ≤ g6 := by omega
    exact ((HB8.out.trans (HO.out.below hzg h8)).trans (HB2.out.mono (by omega))).grown hgr (by have := HB2.out.size; omega) (fun r e => by cases e; have := HD.out; omega)
  case stop =>
    intro D c pre W _ _ h
    exact h.elim
end Go.Proofs.Ytabhdkjepbkooaa

/- The range law for an iterator whose values' variables make memory of their own. -/
set_option linter.unusedVariables false
set_option linter.unusedSimpArgs false
namespace Go.Proofs.Ytabhdkjepbkooaa
open Go.RowKit

variable {F : Fence} {n : Nat} {P : Program}

theorem wpIn_rangeA {α : Type} {g : Operand} {ps : Array Tmp} {assign body : Code} {Q : Exit → Act → World → Prop} {a : Act} {w : World}
    (hro : F.round = none) (h1 : 1 ≤ n) {gf : Nat} {lb : Array Value} (hg : a.eval g = .func (.func gf) #[] lb) (hFg : F.fn gf) (eg : ∀ args w, (callFunc gf args).run P w = .ok (.enter gf args) w)
    {enc : α → Array Value} {R : List α → α → World → Prop} {Kp : World → World → Prop} {S Sp : List α → Prop} {N : Nat} (hseq : SeqP F (n - 1) P gf lb enc R Kp S Sp N w)
    (hKt : ∀ {A B C : World}, Kp A B → Kp B C → Kp A C) (hKb : ∀ (W : World) (l : Nat) (o o' : Obj), w.heap.size ≤ l → W.heap[l]? = some o → o.isCells = false → o.isWalk = false → Kp W (W.putObj l o')) (hps : ∀ x, (enc x).size = ps.size)
    (I : List α → World → Prop) (Ix : Code → List α → World → Prop) (hI : OwnFrom w.heap.size I) (hIx : ∀ c, OwnFrom w.heap.size (Ix c)) (hR : ∀ pre, OwnFrom w.heap.size (R pre)) (h0 : I [] w) (hKB : ∀ A B, w.heap.size ≤ A.heap.size → Below A.heap.size A B → Kp A B) (Ax : α → World → Act → World → Prop)
    (hassign : ∀ (l : Nat) (pre : List α) (x : α) (W : World) (K : Act → World → Prop), w.heap.size ≤ W.heap.size → R pre x W → (∀ a' W', Below W.heap.size W W' → Ax x W a' W' → K a' W') →
      assign.wpIn (F.inRound l) (n - 1 - 1) P (Exit.then K (fun _ _ _ => False)) { tmps := (ps.zip (enc x)).foldl (fun t (p, v) => t.setIfInBounds p v) a.tmps, defers := [] } W)
    (hAx : ∀ x W a' W' o', Ax x W a' W' → ∀ l o, w.heap.size ≤ l → l < W.heap.size → W'.heap[l]? = some o → o.isCells = false → Ax x W a' (W'.putObj l o'))
    (hbody : ∀ (l : Nat) (pre : List α) (x : α) (W0 : World) (a' : Act) (W : World), w.heap.size ≤ W0.heap.size → Ax x W0 a' W → I pre W → R pre x W → pre.length < N → body.wpIn (F.inRound l) (n - 1 - 1) P (ownPostG w.heap.size Kp I Ix (pre ++ [x]) W) a' W)
    (hdone : ∀ (D : Nat) (xs : List α) (W : World), w.heap.size ≤ D → S xs → I xs W → W.heap[D]? = some (.deferred (some [])) → Q .normal { a with defers := { target := .collected D, args := #[] } :: a.defers } W)
    (hstop : ∀ (D : Nat) (c : Code) (pre : List α) (W : World), w.heap.size ≤ D → Sp pre → Ix c pre W → W.heap[D]? = some (.deferred (some [])) → c.wpIn F n P Q { a with defers := { target := .collected D, args := #[] } :: a.defers } W) :
    (Code.rangeFunc g ps assign body).wpIn F n P Q a w := by
  refine wpIn_rangeFunc fun fn hfn => ?_
  rw [hro]
  obtain ⟨b, hb⟩ : ∃ b, w.heap.size = b := ⟨_, rfl⟩
  let lp : LoopState → Option Code → Loop := fun st pe => { state := st, pending := pe, fn, tmps := a.tmps, params := ps, assign, body, defers := b }
  let V := (w.alloc (.deferred (some []))).alloc (.loop (lp .ready none))
  have hV : TwoBl b (lp .ready none) V := by
    refine ⟨?_, ?_⟩
    · have h := World.alloc_heap_new (w.alloc (.deferred (some []))) (.loop (lp .ready none))
      rwa [World.size_alloc, hb] at h
    · rw [← hb]
      exact (Below.heap_alloc (w.alloc (.deferred (some []))) _ _ (by simp)).trans (World.alloc_heap_new w _)
  have hIV : I [] V := hI.alloc _ (hI.alloc _ h0)
  have hbel : Below w.heap.size w V := ((Below.refl _ w).alloc (Nat.le_refl _) _).alloc (by simp) _
  have hsz : w.heap.size ≤ V.heap.size := hbel.size
  have wide : ∀ {A : World} {row : Option Nat}, (∀ r, row = some r → V.heap.size ≤ r ∧ ∃ o : Obj, A.heap[r]? = some o ∧ o.isWalk = true) → ∀ r, row = some r → w.heap.size ≤ r ∧ ∃ o : Obj, A.heap[r]? = some o ∧ o.isCells = false := fun h r e => by
    obtain ⟨h1, o, ho, hw⟩ := h r e
    exact ⟨Nat.le_trans hsz h1, o, ho, Obj.not_cells_of_walk hw⟩
  have hent := run_enterLoop_outer (P := P) (w := w) fn a.tmps ps assign body
  rw [hb] at hent
  refine ⟨b + 1, [{ target := .collected b, args := #[] }], V, { target := .fn (.func gf) lb, args := #[.func (.yield (b + 1)) #[] #[]] }, V, gf, #[.func (.yield (b + 1)) #[] #[]] ++ lb, V, hent, ?_, ?_, ?_, fun _ => h1, ?_⟩
  · simp only [resolve, hg]
    simp [go_sem]
  · intro f' hf'
    simp [Target.leads] at hf'
    exact hf' ▸ hFg
  · simp [invoke, go_sem, eg]
  have hcall := hseq (b + 1) (fun pre W => I pre W ∧ TwoBl b (lp .ready none) W) (fun pre W => ∃ c, Ix c pre W ∧ TwoBl b (lp .done (some c)) W) V hbel
    (fun s A B row hs hg' hr => ⟨hI s A B row hs.1 hg' (wide hr), hs.2.grown hg' fun k e => (hr k e).2⟩)
    (fun s A B row hs hg' hr => by
      obtain ⟨c, h1, h2⟩ := hs
      exact ⟨c, hIx c s A B row h1 hg' (wide hr), h2.grown hg' fun k e => (hr k e).2⟩)
    (by
      rintro pre x W0 ⟨hi0, ht0⟩ hx0 hlen
      have hbW : b + 1 < W0.heap.size := (Array.getElem?_eq_some_iff.1 ht0.lrec).1
      refine ⟨fn, _, assign, body, run_yield (P := P) (args := enc x) ht0.lrec (hps x), roundIn_of_wpIn hfn (hassign _ pre x W0 _ (by omega) hx0 fun a' W hbl hax => ?_)⟩
      have hgN : W0.grownBy W none := ⟨hbl.os, hbl.tape, hbl.output, hbl.size, fun i hi _ => hbl.block i hi⟩
      have ht := ht0.grown hgN (fun k e => by cases e)
      have hi := hI pre W0 W none hi0 hgN (fun r e => by cases e)
      have hx := hR pre x W0 W none hx0 hgN (fun r e => by cases e)
      have hk0 : Kp W0 W := hKB _ _ (by omega) hbl
      refine ⟨_, run_beginRound ht.lrec rfl, ?_⟩
      have hle : w.heap.size ≤ b + 1 := by omega
      have hbusy := ht.put { lp .ready none with state := .busy }
      have hkb : Kp W (W.putObj (b + 1) (.loop { lp .ready none with state := .busy })) := hKb _ _ _ _ hle ht.lrec rfl rfl
      refine wpIn_mono (hbody (b + 1) pre x W0 a' _ (by omega) (hAx _ _ _ _ _ hax _ _ hle hbW ht.lrec rfl) (hI.putObj _ hi hle ht.lrec rfl) ((hR pre).putObj _ hx hle ht.lrec rfl) hlen) ?_
      have leave : ∀ (c : Code) (X : World), KeepsFrom w.heap.size (W.putObj (b + 1) (.loop { lp .ready none with state := .busy })) X → Ix c (pre ++ [x]) X →
          (Instr.endRound (b + 1) (some c)).run P X = .ok (.bool false) (X.putObj (b + 1) (.loop (lp .done (some c)))) ∧ ∃ c', Ix c' (pre ++ [x]) (X.putObj (b + 1) (.loop (lp .done (some c)))) ∧ TwoBl b (lp .done (some c')) (X.putObj (b + 1) (.loop (lp .done (some c)))) := fun c X hk hi3 => by
        have ht3 := hbusy.kept (hb ▸ hk)
        exact ⟨run_endRound (P := P) (some c) ht3.lrec, c, (hIx c).putObj _ hi3 hle ht3.lrec rfl, ht3.put _⟩
      rintro e a3 X hp
      cases e with
      | normal =>
        obtain ⟨hk, hkp, hi3⟩ := hp
        have ht3 := hbusy.kept (hb ▸ hk)
        exact ⟨_, _, run_endRound (P := P) none ht3.lrec, .inl ⟨rfl, ⟨hI.putObj _ hi3 hle ht3.lrec rfl, ht3.put _⟩, hKt (hKt (hKt hk0 hkb) hkp) (hKb _ _ _ _ hle ht3.lrec rfl rfl)⟩⟩
      | ret => exact ⟨_, _, (leave _ X hp.1 hp.2).1, .inr ⟨rfl, (leave _ X hp.1 hp.2).2⟩⟩
      | exit id => exact ⟨_, _, (leave _ X hp.1 hp.2).1, .inr ⟨rfl, (leave _ X hp.1 hp.2).2⟩⟩
      | goto t => exact ⟨_, _, (leave _ X hp.1 hp.2).1, .inr ⟨rfl, (leave _ X hp.1 hp.2).2⟩⟩
      | panic ch => exact hp.elim
      | outgrown => exact hp.elim) ⟨hIV, hV⟩
  refine hcall.mono ?_
  have hle : w.heap.size ≤ b + 1 := by omega
  rintro e X ⟨⟨v, rfl⟩, (⟨xs, hS, hi, ht⟩ | ⟨pre, hSp, c, hi, ht⟩)⟩
  · exact ⟨none, _, run_endLoop (P := P) ht.lrec (by intro h; cases h), hdone b xs _ (by omega) hS (hI.putObj _ hi hle ht.lrec rfl) ((World.putObj_heap_other (by omega)).trans ht.dfr)⟩
  · exact ⟨some c, _, run_endLoop (P := P) ht.lrec (by intro h; cases h), hstop b c pre _ (by omega) hSp ((hIx c).putObj _ hi hle ht.lrec rfl) ((World.putObj_heap_other (by omega)).trans ht.dfr)⟩
/-- the same, the act behind the assign a function of the value and of one block -/
theorem wpIn_rangeB {α : Type} {g : Operand} {ps : Array Tmp} {assign body : Code} {Q : Exit → Act → World → Prop} {a : Act} {w : World}
    (hro : F.round = none) (h1 : 1 ≤ n) {gf : Nat} {lb : Array Value} (hg : a.eval g = .func (.func gf) #[] lb) (hFg : F.fn gf) (eg : ∀ args w, (callFunc gf args).run P w = .ok (.enter gf args) w)
    {enc : α → Array Value} {R : List α → α → World → Prop} {Kp : World → World → Prop} {S Sp : List α → Prop} {N : Nat} (hseq : SeqP F (n - 1) P gf lb enc R Kp S Sp N w)
    (hKt : ∀ {A B C : World}, Kp A B → Kp B C → Kp A C) (hKb : ∀ (W : World) (l : Nat) (o o' : Obj), w.heap.size ≤ l → W.heap[l]? = some o → o.isCells = false → o.isWalk = false → Kp W (W.putObj l o')) (hps : ∀ x, (enc x).size = ps.size)
    (I : List α → World → Prop) (Ix : Code → List α → World → Prop) (hI : OwnFrom w.heap.size I) (hIx : ∀ c, OwnFrom w.heap.size (Ix c)) (hR : ∀ pre, OwnFrom w.heap.size (R pre)) (h0 : I [] w) (hKB : ∀ A B, w.heap.size ≤ A.heap.size → Below A.heap.size A B → Kp A B) (ax : α → Nat → Act) (Bx : α → World → Nat → World → Prop)
    (hassign : ∀ (l : Nat) (pre : List α) (x : α) (W : World) (K : Act → World → Prop), w.heap.size ≤ W.heap.size → R pre x W → (∀ a' W', Below W.heap.size W W' → (∃ bw, a' = ax x bw ∧ Bx x W bw W') → K a' W') →
      assign.wpIn (F.inRound l) (n - 1 - 1) P (Exit.then K (fun _ _ _ => False)) { tmps := (ps.zip (enc x)).foldl (fun t (p, v) => t.setIfInBounds p v) a.tmps, defers := [] } W)
    (hBx : ∀ x W bw W' o', Bx x W bw W' → ∀ l o, w.heap.size ≤ l → l < W.heap.size → W'.heap[l]? = some o → o.isCells = false → Bx x W bw (W'.putObj l o'))
    (hbody : ∀ (l : Nat) (pre : List α) (x : α) (W0 : World) (bw : Nat) (W : World), w.heap.size ≤ W0.heap.size → Bx x W0 bw W → I pre W → R pre x W → pre.length < N → body.wpIn (F.inRound l) (n - 1 - 1) P (ownPostG w.heap.size Kp I Ix (pre ++ [x]) W) (ax x bw) W)
    (hdone : ∀ (D : Nat) (xs : List α) (W : World), w.heap.size ≤ D → S xs → I xs W → W.heap[D]? = some (.deferred (some [])) → Q .normal { a with defers := { target := .collected D, args := #[] } :: a.defers } W)
    (hstop : ∀ (D : Nat) (c : Code) (pre : List α) (W : World), w.heap.size ≤ D → Sp pre → Ix c pre W → W.heap[D]? = some (.deferred (some [])) → c.wpIn F n P Q { a with defers := { target := .collected D, args := #[] } :: a.defers } W) :
    (Code.rangeFunc g ps assign body).wpIn F n P Q a w :=
  wpIn_rangeA hro h1 hg hFg eg hseq hKt hKb hps I Ix hI hIx hR h0 hKB (fun x W a' W' => ∃ bw, a' = ax x bw ∧ Bx x W bw W') hassign
    (fun x W a' W' o' h l o h1 h2 h3 h4 => h.imp fun bw hb => ⟨hb.1, hBx x W bw W' o' hb.2 l o h1 h2 h3 h4⟩)
    (fun l pre x W0 a' W h h' hi hr hl => by
      obtain ⟨bw, rfl, hb⟩ := h'
      exact hbody l pre x W0 bw W h hb hi hr hl) hdone hstop
end Go.Proofs.Ytabhdkjepbkooaa
