/- Parts of one proof, joined: TreeG, WCNu. -/
import Derived.Test.YtmmmcbklgmjalaaPileN6
import Derived.Test.YtmmmcbklgmjalaaPileN11

/- A region that draws its order and whose guards all say yes: what each operation lays meets a condition of its slot. -/
set_option linter.unusedVariables false
set_option linter.unusedSimpArgs false
namespace Go.Proofs.Ytmmmcbklgmjalaa
open Go.RowKit Go.Shelf

/-- what an operation reads; a pick too -/
def usesG : Op → Option (List Operand)
  | .pick x y z => some [x, y, z]
  | op => usesW op
def readsG (o : Oper) (t : Nat) : Bool := match usesG o.op with
  | some l => l.any fun x => match x with | .tmp t' => t' == t | _ => false
  | none => false
def depsG (ops : Array Oper) (asg : List Nat) : Bool := (List.range ops.size).all fun i => match ops[i]? with
  | none => true
  | some o => (match o.dst with | some t => asg.contains t | none => true) && match usesG o.op with
    | none => false
    | some l => l.all fun x => match x with
      | .tmp t => bif asg.contains t then (List.range ops.size).all fun j => match (ops[j]?).bind (·.dst) with
        | some t' => t' != t || o.after.any fun e => e.on == j && Region.binds .any e
        | none => true
        else true
      | _ => true
theorem tree_readsG {ops : Array Oper} {keys : List Nat} {a a' : Act} {L : Array Bool} {b : Nat → Value} (hdep : depsG ops keys = true) (hon : onlyB ops keys = true) (hsz : keys.all (fun t => decide (t < a.tmps.size)) = true)
    (hold : ∀ t, (∀ (i : Nat) (oi : Oper), ops[i]? = some oi → L.getD i false = true → oi.dst ≠ some t) → a'.tmps.getD t undef = a.tmps.getD t undef)
    (hnew : ∀ (j : Nat) (oj : Oper) t, ops[j]? = some oj → oj.dst = some t → L.getD j false = true → t < a.tmps.size → a'.tmps.getD t undef = b j)
    {i : Nat} {o : Oper} (ho : ops[i]? = some o) (hde : ∀ e ∈ o.after, Region.binds .any e = true → L.getD e.on false = true) :
    (∀ t, keys.contains t = false → a'.eval (.tmp t) = a.eval (.tmp t)) ∧
      ∀ t, readsG o t = true → keys.contains t = true → ∃ (j : Nat) (oj : Oper), ops[j]? = some oj ∧ oj.dst = some t ∧ L.getD j false = true ∧ a'.eval (.tmp t) = b j := by
  have his : i < ops.size := (Array.getElem?_eq_some_iff.1 ho).1
  simp only [depsG, List.all_eq_true, List.mem_range] at hdep
  have h2 := hdep i his
  rw [ho] at h2
  simp only [Bool.and_eq_true] at h2
  refine ⟨fun t hl => ?_, fun t hr hl => ?_⟩
  · have e1 : a.eval (.tmp t) = a.tmps.getD t undef := by simp [Act.eval]
    have e2 : a'.eval (.tmp t) = a'.tmps.getD t undef := by simp [Act.eval]
    rw [e1, e2]
    refine hold t fun j oj hj hLj e => ?_
    have h4 := hdep j (Array.getElem?_eq_some_iff.1 hj).1
    rw [hj] at h4
    simp only [Bool.and_eq_true, e] at h4
    have h5 := h4.1
    rw [hl] at h5
    simp at h5
  · unfold readsG at hr
    cases hu : usesG o.op with
    | none => rw [hu] at hr; cases hr
    | some l =>
      rw [hu] at hr h2
      obtain ⟨x, hx, hxe⟩ := List.any_eq_true.1 hr
      have h3 := List.all_eq_true.1 h2.2 x hx
      cases x with
      | tmp t' =>
        obtain rfl : t' = t := by simpa using hxe
        simp only [hl, cond_true] at h3
        have h5 := List.all_eq_true.1 hon t' (by simpa using hl)
        rw [List.any_eq_true] at h5
        obtain ⟨j, hj, h6⟩ := h5
        rw [List.mem_range] at hj
        have hoj : ops[j]? = some ops[j] := Array.getElem?_eq_getElem hj
        rw [hoj] at h6
        simp only [Option.bind_some] at h6
        cases hdj : ops[j].dst with
        | none => rw [hdj] at h6; cases h6
        | some t2 =>
          rw [hdj] at h6
          obtain rfl : t2 = t' := by simpa using h6
          have h7 := List.all_eq_true.1 h3 j (List.mem_range.2 hj)
          rw [hoj] at h7
          simp only [Option.bind_some, hdj, bne_self_eq_false, Bool.false_or] at h7
          obtain ⟨e, he, he2⟩ := Array.any_eq_true'.1 h7
          rw [Bool.and_eq_true, beq_iff_eq] at he2
          have hLj := hde e he he2.2
          rw [he2.1] at hLj
          have htl : t2 < a.tmps.size := by
            have := List.all_eq_true.1 hsz t2 (by simpa using hl)
            simpa using this
          refine ⟨j, _, hoj, hdj, hLj, ?_⟩
          rw [← hnew j _ t2 hoj hdj hLj htl]
          simp [Act.eval]
      | _ => cases hxe
def guardsB (ops : Array Oper) (Gs : List (Nat × Bool)) : Bool := (List.range ops.size).all fun i => match ops[i]? with
  | none => true
  | some o => match o.guard with
    | none => true
    | some (j, b) => (o.after.any fun e => e.on == j && Region.binds .any e) && match (ops[j]?).bind (·.dst) with
      | some t => Gs.any fun p => p.1 == t && p.2 == b
      | none => false
theorem wanted_of {ops : Array Oper} {o : Oper} {tm : Array Value} (h : ∀ j b, o.guard = some (j, b) → yielded ops tm j = some b) : Region.wanted o (yielded ops tm) = true := by
  unfold Region.wanted
  cases hg : o.guard with
  | none => rfl
  | some p =>
    obtain ⟨j, b⟩ := p
    simp [h j b hg]
theorem in_valueG {F : Fence} {n : Nat} {P : Program} {ops : Array Oper} {Q : Exit → Act → World → Prop} {i : Nat} {o : Oper} {K : Act → World → Prop} {a : Act} {w w' : World} {v : Value} (ho : ops[i]? = some o) (hg : Region.wanted o (yielded ops a.tmps) = true) (hdf : ∀ c, o.op ≠ .defer c)
    (hab : ∀ f, o.about P w a.eval = some f → F.fn f) (hrun : (execOp a.eval o).run P w = .ok (.value v) w') (h : K (a.put o.dst v) w') : wpOpIn F n P ops Q i K a w := by
  unfold wpOpIn
  simp only [ho, hg, if_true]
  refine ⟨hab, ?_⟩
  rw [Oper.semAt_plain F _ _ hdf, hrun]
  exact h
theorem in_skipG {F : Fence} {n : Nat} {P : Program} {ops : Array Oper} {Q : Exit → Act → World → Prop} {i : Nat} {o : Oper} {K : Act → World → Prop} {a : Act} {w w' : World} (ho : ops[i]? = some o) (hg : Region.wanted o (yielded ops a.tmps) = true) (hdf : ∀ c, o.op ≠ .defer c)
    (hab : ∀ f, o.about P w a.eval = some f → F.fn f) (hrun : (execOp a.eval o).run P w = .ok .skip w') (h : K (a.put o.dst undef) w') : wpOpIn F n P ops Q i K a w := by
  unfold wpOpIn
  simp only [ho, hg, if_true]
  refine ⟨hab, ?_⟩
  rw [Oper.semAt_plain F _ _ hdf, hrun]
  exact h
theorem in_callG {F : Fence} {n : Nat} {P : Program} {ops : Array Oper} {Q : Exit → Act → World → Prop} {i : Nat} {o : Oper} {K : Act → World → Prop} {a : Act} {w : World} {f : FuncId} {args : Array Value} (ho : ops[i]? = some o) (hg : Region.wanted o (yielded ops a.tmps) = true) (hdf : ∀ c, o.op ≠ .defer c) (hF : F.depth = none)
    (hab : ∀ f, o.about P w a.eval = some f → F.fn f) (hrun : (execOp a.eval o).run P w = .ok (.enter f args) w) (hc : CallsIn F (n - 1) P f args w fun e w' => ∃ v, e = .returned v ∧ K (a.put o.dst v) w') : wpOpIn F n P ops Q i K a w := by
  unfold wpOpIn
  simp only [ho, hg, if_true]
  refine ⟨hab, ?_⟩
  rw [Oper.semAt_plain F _ _ hdf, hrun]
  refine ⟨(fun h => by (rw [hF] at h; cases h)), hc.mono ?_⟩
  rintro e w' ⟨v, rfl, h⟩
  exact h
theorem wpIn_region_treeG {F : Fence} {n : Nat} {P : Program} {id : Nat} {ops : Array Oper} {Q : Exit → Act → World → Prop} {a : Act} {w : World} (hF : F.depth = none) (hm : P.follows .mixedOrders = true)
    (keys : List Nat) (Gs : List (Nat × Bool)) (hd : distinctB ops = true) (hdep : depsG ops keys = true) (hon : onlyB ops keys = true) (hord : orderedB ops = true) (hsz : keys.all (fun t => decide (t < a.tmps.size)) = true)
    (hgs : guardsB ops Gs = true) (hgk : Gs.all (fun p => keys.contains p.1) = true)
    (I : World → Prop) (hI : I w.drew) (St : Nat → World → World → Prop) (Pd : Nat → Value → World → Prop) (hGv : ∀ p ∈ Gs, ∀ v V, Pd p.1 v V → v = .bool p.2) (hmono : ∀ i V V', I V → I V' → St i V V' → ∀ t v, Pd t v V → Pd t v V')
    (Pn : Nat → World → Prop) (hmonon : ∀ i V V', I V → I V' → St i V V' → ∀ j, j ≠ i → Pn j V → Pn j V')
    (hops : ∀ (i : Nat) (o : Oper) (a' : Act) (V : World), I V → ops[i]? = some o → (∀ t, keys.contains t = false → a'.eval (.tmp t) = a.eval (.tmp t)) → (∀ t, readsG o t = true → keys.contains t = true → Pd t (a'.eval (.tmp t)) V) → TreeOk F n P I (St i) Pd (Pn i) a' V o)
    (hend : ∀ (vals : Nat → Value) V, I V → (∀ (i t : Nat) (o : Oper), ops[i]? = some o → o.dst = some t → Pd t (vals i) V) → (∀ (i : Nat) (o : Oper), ops[i]? = some o → o.dst = none → Pn i V) →
      Q .normal { tmps := wrote ops vals (Array.replicate ops.size true) a.tmps ops.size, defers := a.defers } V) : (Code.region id ops true).wpIn F n P Q a w := by
  have hd' := distinct_of hd
  refine wpIn_region_relH hm hd' (fun b : Nat → Value => b) (fun b L V => I V ∧ (∀ (j t : Nat) (o : Oper), ops[j]? = some o → o.dst = some t → L.getD j false = true → Pd t (b j) V) ∧
    ∀ (j : Nat) (o : Oper), ops[j]? = some o → o.dst = none → L.getD j false = true → Pn j V) (fun _ => undef) ⟨hI, ?_, ?_⟩ ?_ ?_ (acyclic_of hord)
  · intro j t o _ _ hL
    rw [getD_rep] at hL
    cases hL
  · intro j o _ _ hL
    rw [getD_rep] at hL
    cases hL
  · rintro b L a' V ⟨hIV, hPV, hNV⟩ hLs hdf hcl hold hnew i hi o ho K hK
    obtain ⟨h1, o2, ho2, hde⟩ := mem_ready.1 hi
    obtain rfl : o = o2 := Option.some.inj (ho.symm.trans ho2)
    have hnl := unlisted h1
    obtain ⟨hev, hrd⟩ := tree_readsG hdep hon hsz hold hnew ho hde
    have hrd' : ∀ t, readsG o t = true → keys.contains t = true → Pd t (a'.eval (.tmp t)) V := by
      intro t h2 h3
      obtain ⟨j, oj, hj, hjd, hjL, e⟩ := hrd t h2 h3
      rw [e]
      exact hPV j t oj hj hjd hjL
    have hw : Region.wanted o (yielded ops a'.tmps) = true := by
      refine wanted_of fun j bv hgd => ?_
      simp only [guardsB, List.all_eq_true, List.mem_range] at hgs
      have h2 := hgs i (Array.getElem?_eq_some_iff.1 ho).1
      rw [ho] at h2
      simp only [hgd, Bool.and_eq_true] at h2
      obtain ⟨e, he, he2⟩ := Array.any_eq_true'.1 h2.1
      rw [Bool.and_eq_true, beq_iff_eq] at he2
      have hLj := hde e he he2.2
      rw [he2.1] at hLj
      have h3 := h2.2
      cases hj : ops[j]? with
      | none => rw [hj] at h3; cases h3
      | some oj =>
        rw [hj] at h3
        simp only [Option.bind_some] at h3
        cases hjd : oj.dst with
        | none => rw [hjd] at h3; cases h3
        | some t =>
          rw [hjd] at h3
          obtain ⟨p, hp, hp2⟩ := List.any_eq_true.1 h3
          rw [Bool.and_eq_true, beq_iff_eq, beq_iff_eq] at hp2
          have h4 := hPV j t oj hj hjd hLj
          have h5 := hGv p hp (b j) V (by rw [hp2.1]; exact h4)
          have htl : t < a.tmps.size := by
            have h6 := List.all_eq_true.1 hgk p hp
            have h7 := List.all_eq_true.1 hsz p.1 (by simpa using h6)
            rw [hp2.1] at h7
            simpa using h7
          have h8 := hnew j oj t hj hjd hLj htl
          rw [h5, hp2.2, Array.getD_eq_getD_getElem?] at h8
          unfold yielded
          rw [hj]
          simp only [Option.bind_some, hjd]
          cases h9 : a'.tmps[t]? with
          | none => rw [h9] at h8; cases h8
          | some x =>
            rw [h9] at h8
            simp only [Option.getD_some] at h8
            rw [h8]
    obtain ⟨hdef, hab, hrun⟩ := hops i o a' V hIV ho hev hrd'
    have hnext : ∀ v V', I V' → St i V V' → (∀ t, o.dst = some t → Pd t v V') → (o.dst = none → Pn i V') → K (a'.put o.dst v) V' := by
      intro v V' hI' hB hP hN
      have hk := hK (fun j => if j = i then v else b j) V' (fun j hj => by
        rw [if_neg]
        rintro rfl
        rw [hnl] at hj; cases hj) ⟨hI', fun j t oj hj hjd hjL => by
          by_cases hji : j = i
          · subst hji
            obtain rfl : o = oj := Option.some.inj (ho.symm.trans hj)
            simp only [if_true]
            exact hP t hjd
          · rw [getD_set_ne L (fun h => hji h.symm)] at hjL
            simp only [if_neg hji]
            exact hmono i V V' hIV hI' hB t _ (hPV j t oj hj hjd hjL), fun j oj hj hjd hjL => by
          by_cases hji : j = i
          · subst hji
            obtain rfl : o = oj := Option.some.inj (ho.symm.trans hj)
            exact hN hjd
          · rw [getD_set_ne L (fun h => hji h.symm)] at hjL
            exact hmonon i V V' hIV hI' hB j hji (hNV j oj hj hjd hjL)⟩
      simpa using hk
    rcases hrun with ⟨v, V', hrun, hI', hB, hP, hN⟩ | ⟨f, args, hrun, hcall⟩
    · rcases hrun with hrun | ⟨hrun, rfl⟩
      · exact in_valueG ho hw hdef hab hrun (hnext v V' hI' hB hP hN)
      · exact in_skipG ho hw hdef hab hrun (hnext undef V' hI' hB hP hN)
    · refine in_callG ho hw hdef hF hab hrun (hcall.mono ?_)
      rintro e w' ⟨v, rfl, hI', hB, hP, hN⟩
      exact ⟨v, rfl, hnext v w' hI' hB hP hN⟩
  · rintro b L V ⟨hIV, hPV, hNV⟩ hL
    exact hend b V hIV (fun i t o hi hid => hPV i t o hi hid (hL i (Array.getElem?_eq_some_iff.1 hi).1)) fun i o hi hid => hNV i o hi hid (hL i (Array.getElem?_eq_some_iff.1 hi).1)
/-- a region without a store, whose guards all say yes -/
theorem wpIn_region_numG {F : Fence} {n : Nat} {P : Program} {id : Nat} {ops : Array Oper} {Q : Exit → Act → World → Prop} {a : Act} {w : World} (hF : F.depth = none) (hm : P.follows .mixedOrders = true)
    (L : List (Nat × Spc)) (Gs : List (Nat × Bool)) (hd : distinctB ops = true) (hdep : depsG ops (L.map (·.1)) = true) (hon : onlyB ops (L.map (·.1)) = true) (hord : orderedB ops = true) (hsz : (L.map (·.1)).all (fun t => decide (t < a.tmps.size)) = true)
    (hgs : guardsB ops Gs = true) (hgk : Gs.all (fun p => (L.map (·.1)).contains p.1) = true) (hGv : ∀ p ∈ Gs, ∀ v V, spcAt L p.1 v V → v = .bool p.2)
    (hops : ∀ (i : Nat) (o : Oper) (a' : Act) (V : World), Below w.heap.size w V → ops[i]? = some o → (∀ t, (L.map (·.1)).contains t = false → a'.eval (.tmp t) = a.eval (.tmp t)) → (∀ t, readsG o t = true → (L.map (·.1)).contains t = true → spcAt L t (a'.eval (.tmp t)) V) → OpOk F n P L a' V o)
    (hend : ∀ (vals : Nat → Value) V, Below w.heap.size w V → (∀ (i t : Nat) (o : Oper), ops[i]? = some o → o.dst = some t → spcAt L t (vals i) V) →
      Q .normal { tmps := wrote ops vals (Array.replicate ops.size true) a.tmps ops.size, defers := a.defers } V) : (Code.region id ops true).wpIn F n P Q a w := by
  refine wpIn_region_treeG hF hm (L.map (·.1)) Gs hd hdep hon hord hsz hgs hgk (fun V => Below w.heap.size w V) (below_drewN (Below.refl _ w) 1) (fun _ V V' => Below V.heap.size V V') (spcAt L) hGv (fun _ V V' _ _ hb t v h => h.sb (Sb.of_below hb)) (fun _ _ => True) (fun _ _ _ _ _ _ _ _ _ => trivial) ?_ ?_
  · intro i o a' V hI ho hev hrd
    obtain ⟨h1, h2, h3, h4⟩ := hops i o a' V hI ho hev hrd
    refine ⟨h1, h2, ?_⟩
    rcases h4 with ⟨v, V', hr, hB, hP⟩ | ⟨f, args, hr, hc⟩
    · exact .inl ⟨v, V', .inl hr, hI.trans (hB.mono hI.size), hB, hP, fun h => absurd h h3⟩
    · refine .inr ⟨f, args, hr, hc.mono ?_⟩
      rintro e w' ⟨v, rfl, hB, hP⟩
      exact ⟨v, rfl, hI.trans (hB.mono hI.size), hB, hP, fun h => absurd h h3⟩
  · intro vals V hI hP _
    exact hend vals V hI hP
end Go.Proofs.Ytmmmcbklgmjalaa

/- CurveNumbers, walked. -/
set_option linter.unusedVariables false
set_option linter.unusedSimpArgs false
namespace Go.Proofs.Ytmmmcbklgmjalaa
open Go.RowKit

set_option maxRecDepth 100000 in
set_option maxHeartbeats 4000000 in
theorem numbers_yes (w : World) (c : Int) (D : Crv) (hc : crvOf c = some D) (hz : ¬ ((D.size : Int) = 0)) : Calls Try.prog 3 #[.int .i64 c] w fun e w' => RetV w (.bool true) e w' := by
  have HC := Lib.hid hc
  have HBG := Lib.hid (begun9_any w)
  have hmx : Try.prog.follows .mixedOrders = true := by kernel_rfl
  have HZ := Lib.hid hz
  clear hc hz
  go_enter Try.func3, Try.ntmps3
  go_wp2_with fail
  refine HBG.out.mono ?_
  rintro e w1 ⟨rfl, hb1⟩
  have HB1 := Lib.hid hb1
  have HOF := Lib.hid (rOf9_yes w1 c D HC.out)
  clear hb1 HBG
  go_wp2_with fail
  refine HOF.out.mono ?_
  rintro e w2 ⟨v, rfl, hcr, hb2⟩
  obtain ⟨vp, vn, vb, vx, vy, rfl, k1, k2, k3, k4, k5⟩ := hcr
  obtain ⟨Ap, np, cp, rfl⟩ := k1.sl
  obtain ⟨An, nn, cn, rfl⟩ := k2.sl
  obtain ⟨Ab, nb, cb, rfl⟩ := k3.sl
  obtain ⟨Ax, nx, cx, rfl⟩ := k4.sl
  obtain ⟨Ay, ny, cy, rfl⟩ := k5.sl
  have HCR := Lib.hid (show Cr w2 _ D from ⟨_, _, _, _, _, rfl, k1, k2, k3, k4, k5⟩)
  have HK1 := Lib.hid k1
  have HK2 := Lib.hid k2
  clear k1 k2 k3 k4 k5
  obtain ⟨W3, e3, r3, b3, s3⟩ := newS w2 26 [.slice none 0 0, .slice none 0 0, .slice none 0 0, .slice none 0 0, .slice none 0 0, .int .i64 0] _ rfl
  obtain ⟨g4, hg4⟩ : ∃ x, w2.heap.size = x := ⟨_, rfl⟩
  rw [hg4] at r3
  have HL3 := Lib.hid (show w.heap.size ≤ g4 by have := HB1.out.size; have := hb2.size; omega)
  have hb12 := HB1.out.trans (hb2.mono HB1.out.size)
  have HB3 := Lib.hid (hb12.trans (b3.mono hb12.size))
  have HN3 := Lib.hid (NoU.of_row r3 (noU6 (by intro x h; cases h) (by intro x h; cases h) (by intro x h; cases h) (by intro x h; cases h) (by intro x h; cases h)))
  have HCR3 := Lib.hid (HCR.out.later b3)
  have HK13 := Lib.hid (HK1.out.later b3)
  have HK23 := Lib.hid (HK2.out.later b3)
  clear HCR HK1 HK2
  clear hb2 hb12 b3 s3 HOF HB1
  go_wp2_with ((with_reducible show wpList _ _ _ (⟨none, _, _, _, _, _⟩ :: _) _ _); refine wlS_store rfl 26 6 Try.sizeCr _ _ rfl g4 [.slice Ap np cp, .slice An nn cn, .slice Ab nb cb, .slice Ax nx cx, .slice Ay ny cy, .int .i64 (D.size : Int)] rfl rfl 26 _ r3 rfl rfl (ones6 rfl rfl rfl rfl rfl rfl) ?_; intro w4 hr4 hg4' hz4; have d0 := hr4.at_ (i := 0) rfl; have d1 := hr4.at_ (i := 1) rfl; have d2 := hr4.at_ (i := 2) rfl; have d3 := hr4.at_ (i := 3) rfl; have d4 := hr4.at_ (i := 4) rfl; have d5 := hr4.at_ (i := 5) rfl)
  have HB4 := Lib.hid (below_grown HB3.out hg4' HL3.out HB3.out.size)
  have HR4 := Lib.hid hr4
  have hcr4 := HCR3.out.sb ⟨g4, HN3.out, hg4'⟩
  have HCR4 := Lib.hid hcr4
  have HK14 := Lib.hid (HK13.out.sb ⟨g4, HN3.out, hg4'⟩)
  have HK24 := Lib.hid (HK23.out.sb ⟨g4, HN3.out, hg4'⟩)
  have HBA := Lib.hid (rBase9_any w4 _ D hcr4)
  clear hcr4 HCR3 HK13 HK23 HCR4
  clear hr4 hg4' hz4 HB3 HN3 HL3 r3 e3 hg4
  refine HBA.out.mono ?_
  rintro e w5 ⟨v, rfl, hrp, hb5⟩
  obtain ⟨ex, ey, rfl, hex, hey⟩ := hrp
  obtain ⟨Ex, mx, dx, rfl⟩ := hex.sl
  obtain ⟨Ey, my, dy, rfl⟩ := hey.sl
  have HRP := Lib.hid (show Rp w5 _ (some (D.gx, D.gy)) from ⟨_, _, rfl, hex, hey⟩)
  clear hex hey
  obtain ⟨W6, e6, r6, b6, s6⟩ := newS w5 29 [.bool false, .slice none 0 0, .slice none 0 0] _ rfl
  obtain ⟨g5, hg5⟩ : ∃ x, w5.heap.size = x := ⟨_, rfl⟩
  rw [hg5] at r6
  have hb45 := HB4.out.trans (hb5.mono HB4.out.size)
  have HB6 := Lib.hid (hb45.trans (b6.mono hb45.size))
  have hr45 := HR4.out.later hb5
  have HL6 := Lib.hid (show w.heap.size ≤ g5 ∧ g4 ≠ g5 by have := hb45.size; have := hr45.lt; omega)
  have HR46 := Lib.hid (hr45.later b6)
  have HN6 := Lib.hid (NoU.of_row r6 (noU3 (by intro x h; cases h) (by intro x h; cases h) (by intro x h; cases h)))
  have HK16 := Lib.hid ((HK14.out.later hb5).later b6)
  have HK26 := Lib.hid ((HK24.out.later hb5).later b6)
  have HRP6 := Lib.hid (HRP.out.later b6)
  clear HK14 HK24 HRP
  clear d0 d1 d2 d3 d4 d5 hb45 hr45 hb5 b6 s6 HBA HB4 HR4
  have hz := HZ.out
  go_wp2_with ((with_reducible show wpList _ _ _ (⟨none, _, _, _, _, _⟩ :: _) _ _); refine wlS_store rfl 29 3 Try.sizeRp _ _ rfl g5 [.bool false, .slice Ex mx dx, .slice Ey my dy] rfl rfl 29 _ r6 rfl rfl (ones3 rfl rfl rfl) ?_; intro w7 hr7 hg7 hz7; have d5 := (HR46.out.grown hg7 HL6.out.2).at_ (i := 5) rfl)
  have HB7 := Lib.hid (below_grown HB6.out hg7 HL6.out.1 HB6.out.size)
  have HR5 := Lib.hid hr7
  have hr47 := HR46.out.grown hg7 HL6.out.2
  have HR47 := Lib.hid hr47
  have hsb : Sb W6 w7 := ⟨g5, HN6.out, hg7⟩
  have HK17 := Lib.hid (HK16.out.sb hsb)
  have HK27 := Lib.hid (HK26.out.sb hsb)
  have HRP7 := Lib.hid (HRP6.out.sb hsb)
  clear hsb hr47 hr7 hg7 hz7 HB6 HN6 HL6 r6 e6 hg5 HK16 HK26 HRP6 HR46 d5
  refine (wpIn_wide (n := 9)).1 (wpIn_region_numG rfl hmx [(15, .val (.bool true)), (16, .val (.bool true)), (17, .val (.int .i64 c)), (18, .num (D.p)), (19, .val (.pointer (some ⟨g4, 0, none⟩))), (20, .val (.slice Ap np cp)), (21, .val (.bool true)), (22, .val (.bool true)), (23, .val (.bool true)), (24, .val (.int .i64 c)), (25, .num (D.n)), (26, .val (.pointer (some ⟨g4, 1, none⟩))), (27, .val (.slice An nn cn)), (28, .val (.bool true)), (29, .val (.bool true)), (30, .val (.bool true)), (31, .val (.int .i64 c)), (32, .pt (some (D.gx, D.gy))), (33, .val (.agg #[.bool false, .slice Ex mx dx, .slice Ey my dy])), (34, .val (.bool true)), (35, .val (.bool true)), (36, .val (.bool true)), (37, .val (.int .i64 c)), (38, .val (.int .i64 (D.size : Int))), (39, .val (.pointer (some ⟨g4, 5, none⟩))), (40, .val (.int .i64 (D.size : Int))), (41, .val (.bool true)), (42, .val (.bool true)), (2, .val (.bool true))] [(16, true), (23, true), (30, true), (36, true)] (by kernel_rfl) (by kernel_rfl) (by kernel_rfl) (by kernel_rfl) (by rfl) (by kernel_rfl) (by rfl) ?hgv ?hops ?hend)
  case hgv =>
    intro p hp v V h
    simp only [List.mem_cons, List.not_mem_nil, or_false] at hp
    rcases hp with rfl | rfl | rfl | rfl <;> exact h
  case hops =>
    intro i o a' V hB ho hev hrd
    have his : i < 29 := by have := (Array.getElem?_eq_some_iff.1 ho).1; simpa using this
    have hx4 := HR47.out.later hB
    have p0 := hx4.at_ (i := 0) rfl
    have p1 := hx4.at_ (i := 1) rfl
    have p5 := hx4.at_ (i := 5) rfl
    have hy5 := HR5.out.later hB
    have hk1 := HK17.out.later hB
    have hk2 := HK27.out.later hB
    have hrp := HRP7.out.later hB
    have hcase : i = 0 ∨ i = 1 ∨ i = 2 ∨ i = 3 ∨ i = 4 ∨ i = 5 ∨ i = 6 ∨ i = 7 ∨ i = 8 ∨ i = 9 ∨ i = 10 ∨ i = 11 ∨ i = 12 ∨ i = 13 ∨ i = 14 ∨ i = 15 ∨ i = 16 ∨ i = 17 ∨ i = 18 ∨ i = 19 ∨ i = 20 ∨ i = 21 ∨ i = 22 ∨ i = 23 ∨ i = 24 ∨ i = 25 ∨ i = 26 ∨ i = 27 ∨ i = 28 := by omega
    rcases hcase with rfl | rfl | rfl | rfl | rfl | rfl | rfl | rfl | rfl | rfl | rfl | rfl | rfl | rfl | rfl | rfl | rfl | rfl | rfl | rfl | rfl | rfl | rfl | rfl | rfl | rfl | rfl | rfl | rfl
    · simp at ho
      subst ho
      have r3 := hev 3 (by rfl)
      simp [Act.eval] at r3
      refine ⟨(by intro c h; cases h), fun _ _ => trivial, (by simp), .inl ⟨.bool true, V, ?_, Below.refl _ _, fun t ht => by obtain rfl : 15 = t := Option.some.inj ht; rfl⟩⟩
      simp [execOp, Act.eval, go_sem, r3, p0, p1, p5]
    · simp at ho
      subst ho
      have r15 : a'.eval (.tmp 15) = .bool true := hrd 15 (by rfl) (by rfl)
      simp [Act.eval] at r15
      refine ⟨(by intro c h; cases h), fun _ _ => trivial, (by simp), .inl ⟨.bool true, V, ?_, Below.refl _ _, fun t ht => by obtain rfl : 16 = t := Option.some.inj ht; rfl⟩⟩
      simp [execOp, Act.eval, go_sem, r15, p0, p1, p5]
    · simp at ho
      subst ho
      have r0 := hev 0 (by rfl)
      simp [Act.eval] at r0
      refine ⟨(by intro c h; cases h), fun _ _ => trivial, (by simp), .inl ⟨.int .i64 c, V, ?_, Below.refl _ _, fun t ht => by obtain rfl : 17 = t := Option.some.inj ht; rfl⟩⟩
      simp [execOp, Act.eval, go_sem, r0, p0, p1, p5]
    · simp at ho
      subst ho
      have r17 : a'.eval (.tmp 17) = .int .i64 c := hrd 17 (by rfl) (by rfl)
      simp [Act.eval] at r17
      refine ⟨(by intro c h; cases h), fun _ _ => trivial, (by simp), .inr ⟨9, #[.int .i64 c], ?_, (callsIn_wide.2 (cPrime_yes V c D HC.out)).mono ?_⟩⟩
      · simp [execOp, Act.eval, r17, resolve, invoke, Deferred.ofValue]
      · rintro e w' ⟨v, rfl, hv, hB2⟩
        exact ⟨_, rfl, hB2, fun t ht => by obtain rfl : 18 = t := Option.some.inj ht; exact hv⟩
    · simp at ho
      subst ho
      have r4 := hev 4 (by rfl)
      simp [Act.eval] at r4
      refine ⟨(by intro c h; cases h), fun _ _ => trivial, (by simp), .inl ⟨.pointer (some ⟨g4, 0, none⟩), V, ?_, Below.refl _ _, fun t ht => by obtain rfl : 19 = t := Option.some.inj ht; rfl⟩⟩
      simp [execOp, Act.eval, go_sem, r4, p0, p1, p5]
    · simp at ho
      subst ho
      have r19 : a'.eval (.tmp 19) = .pointer (some ⟨g4, 0, none⟩) := hrd 19 (by rfl) (by rfl)
      simp [Act.eval] at r19
      refine ⟨(by intro c h; cases h), fun _ _ => trivial, (by simp), .inl ⟨.slice Ap np cp, V, ?_, Below.refl _ _, fun t ht => by obtain rfl : 20 = t := Option.some.inj ht; rfl⟩⟩
      simp [execOp, Act.eval, go_sem, r19, p0, p1, p5]
    · simp at ho
      subst ho
      have r18 : Nu V (a'.eval (.tmp 18)) (D.p) := hrd 18 (by rfl) (by rfl)
      have r20 : a'.eval (.tmp 20) = .slice Ap np cp := hrd 20 (by rfl) (by rfl)
      simp [Act.eval] at r20
      refine ⟨(by intro c h; cases h), fun _ _ => trivial, (by simp), .inr ⟨8, #[a'.eval (.tmp 18), .slice Ap np cp], ?_, (callsIn_wide.2 (is_u V _ _ _ r18 hk1)).mono ?_⟩⟩
      · simp [execOp, Act.eval, r20, resolve, invoke, Deferred.ofValue]
      · rintro e w' ⟨rfl, hB2⟩
        have hv : Value.bool true = Value.bool true := rfl
        exact ⟨_, rfl, hB2, fun t ht => by obtain rfl : 21 = t := Option.some.inj ht; exact hv⟩
    · simp at ho
      subst ho
      have r16 : a'.eval (.tmp 16) = .bool true := hrd 16 (by rfl) (by rfl)
      simp [Act.eval] at r16
      have r21 : a'.eval (.tmp 21) = .bool true := hrd 21 (by rfl) (by rfl)
      simp [Act.eval] at r21
      refine ⟨(by intro c h; cases h), fun _ _ => trivial, (by simp), .inl ⟨.bool true, V, ?_, Below.refl _ _, fun t ht => by obtain rfl : 22 = t := Option.some.inj ht; rfl⟩⟩
      simp [execOp, Act.eval, go_sem, r16, r21, p0, p1, p5]
    · simp at ho
      subst ho
      have r22 : a'.eval (.tmp 22) = .bool true := hrd 22 (by rfl) (by rfl)
      simp [Act.eval] at r22
      refine ⟨(by intro c h; cases h), fun _ _ => trivial, (by simp), .inl ⟨.bool true, V, ?_, Below.refl _ _, fun t ht => by obtain rfl : 23 = t := Option.some.inj ht; rfl⟩⟩
      simp [execOp, Act.eval, go_sem, r22, p0, p1, p5]
    · simp at ho
      subst ho
      have r0 := hev 0 (by rfl)
      simp [Act.eval] at r0
      refine ⟨(by intro c h; cases h), fun _ _ => trivial, (by simp), .inl ⟨.int .i64 c, V, ?_, Below.refl _ _, fun t ht => by obtain rfl : 24 = t := Option.some.inj ht; rfl⟩⟩
      simp [execOp, Act.eval, go_sem, r0, p0, p1, p5]
    · simp at ho
      subst ho
      have r24 : a'.eval (.tmp 24) = .int .i64 c := hrd 24 (by rfl) (by rfl)
      simp [Act.eval] at r24
      refine ⟨(by intro c h; cases h), fun _ _ => trivial, (by simp), .inr ⟨10, #[.int .i64 c], ?_, (callsIn_wide.2 (cOrder_yes V c D HC.out)).mono ?_⟩⟩
      · simp [execOp, Act.eval, r24, resolve, invoke, Deferred.ofValue]
      · rintro e w' ⟨v, rfl, hv, hB2⟩
        exact ⟨_, rfl, hB2, fun t ht => by obtain rfl : 25 = t := Option.some.inj ht; exact hv⟩
    · simp at ho
      subst ho
      have r4 := hev 4 (by rfl)
      simp [Act.eval] at r4
      refine ⟨(by intro c h; cases h), fun _ _ => trivial, (by simp), .inl ⟨.pointer (some ⟨g4, 1, none⟩), V, ?_, Below.refl _ _, fun t ht => by obtain rfl : 26 = t := Option.some.inj ht; rfl⟩⟩
      simp [execOp, Act.eval, go_sem, r4, p0, p1, p5]
    · simp at ho
      subst ho
      have r26 : a'.eval (.tmp 26) = .pointer (some ⟨g4, 1, none⟩) := hrd 26 (by rfl) (by rfl)
      simp [Act.eval] at r26
      refine ⟨(by intro c h; cases h), fun _ _ => trivial, (by simp), .inl ⟨.slice An nn cn, V, ?_, Below.refl _ _, fun t ht => by obtain rfl : 27 = t := Option.some.inj ht; rfl⟩⟩
      simp [execOp, Act.eval, go_sem, r26, p0, p1, p5]
    · simp at ho
      subst ho
      have r25 : Nu V (a'.eval (.tmp 25)) (D.n) := hrd 25 (by rfl) (by rfl)
      have r27 : a'.eval (.tmp 27) = .slice An nn cn := hrd 27 (by rfl) (by rfl)
      simp [Act.eval] at r27
      refine ⟨(by intro c h; cases h), fun _ _ => trivial, (by simp), .inr ⟨8, #[a'.eval (.tmp 25), .slice An nn cn], ?_, (callsIn_wide.2 (is_u V _ _ _ r25 hk2)).mono ?_⟩⟩
      · simp [execOp, Act.eval, r27, resolve, invoke, Deferred.ofValue]
      · rintro e w' ⟨rfl, hB2⟩
        have hv : Value.bool true = Value.bool true := rfl
        exact ⟨_, rfl, hB2, fun t ht => by obtain rfl : 28 = t := Option.some.inj ht; exact hv⟩
    · simp at ho
      subst ho
      have r23 : a'.eval (.tmp 23) = .bool true := hrd 23 (by rfl) (by rfl)
      simp [Act.eval] at r23
      have r28 : a'.eval (.tmp 28) = .bool true := hrd 28 (by rfl) (by rfl)
      simp [Act.eval] at r28
      refine ⟨(by intro c h; cases h), fun _ _ => trivial, (by simp), .inl ⟨.bool true, V, ?_, Below.refl _ _, fun t ht => by obtain rfl : 29 = t := Option.some.inj ht; rfl⟩⟩
      simp [execOp, Act.eval, go_sem, r23, r28, p0, p1, p5]
    · simp at ho
      subst ho
      have r29 : a'.eval (.tmp 29) = .bool true := hrd 29 (by rfl) (by rfl)
      simp [Act.eval] at r29
      refine ⟨(by intro c h; cases h), fun _ _ => trivial, (by simp), .inl ⟨.bool true, V, ?_, Below.refl _ _, fun t ht => by obtain rfl : 30 = t := Option.some.inj ht; rfl⟩⟩
      simp [execOp, Act.eval, go_sem, r29, p0, p1, p5]
    · simp at ho
      subst ho
      have r0 := hev 0 (by rfl)
      simp [Act.eval] at r0
      refine ⟨(by intro c h; cases h), fun _ _ => trivial, (by simp), .inl ⟨.int .i64 c, V, ?_, Below.refl _ _, fun t ht => by obtain rfl : 31 = t := Option.some.inj ht; rfl⟩⟩
      simp [execOp, Act.eval, go_sem, r0, p0, p1, p5]
    · simp at ho
      subst ho
      have r31 : a'.eval (.tmp 31) = .int .i64 c := hrd 31 (by rfl) (by rfl)
      simp [Act.eval] at r31
      refine ⟨(by intro c h; cases h), fun _ _ => trivial, (by simp), .inr ⟨12, #[.int .i64 c], ?_, (callsIn_wide.2 (cBase_yes V c D HC.out)).mono ?_⟩⟩
      · simp [execOp, Act.eval, r31, resolve, invoke, Deferred.ofValue]
      · rintro e w' ⟨v, rfl, hv, hB2⟩
        exact ⟨_, rfl, hB2, fun t ht => by obtain rfl : 32 = t := Option.some.inj ht; exact hv⟩
    · simp at ho
      subst ho
      have r5 := hev 5 (by rfl)
      simp [Act.eval] at r5
      try simp [Act.put] at r5
      refine ⟨(by intro c h; cases h), fun _ _ => trivial, (by simp), .inl ⟨.agg #[.bool false, .slice Ex mx dx, .slice Ey my dy], V, exec_load 29 3 _ Try.underlying29 rfl Try.sizeRp _ rfl g5 [.bool false, .slice Ex mx dx, .slice Ey my dy] (by simpa [Act.eval] using r5) 29 hy5 rfl, Below.refl _ _, fun t ht => by obtain rfl : 33 = t := Option.some.inj ht; rfl⟩⟩
    · simp at ho
      subst ho
      have r32 : Pt V (a'.eval (.tmp 32)) (some (D.gx, D.gy)) := hrd 32 (by rfl) (by rfl)
      have r33 : a'.eval (.tmp 33) = .agg #[.bool false, .slice Ex mx dx, .slice Ey my dy] := hrd 33 (by rfl) (by rfl)
      simp [Act.eval] at r33
      refine ⟨(by intro c h; cases h), fun _ _ => trivial, (by simp), .inr ⟨11, #[a'.eval (.tmp 32), .agg #[.bool false, .slice Ex mx dx, .slice Ey my dy]], ?_, (callsIn_wide.2 (is9_any V _ _ _ r32 hrp)).mono ?_⟩⟩
      · simp [execOp, Act.eval, r33, resolve, invoke, Deferred.ofValue]
      · rintro e w' ⟨rfl, hB2⟩
        have hv : Value.bool true = Value.bool true := rfl
        exact ⟨_, rfl, hB2, fun t ht => by obtain rfl : 34 = t := Option.some.inj ht; exact hv⟩
    · simp at ho
      subst ho
      have r30 : a'.eval (.tmp 30) = .bool true := hrd 30 (by rfl) (by rfl)
      simp [Act.eval] at r30
      have r34 : a'.eval (.tmp 34) = .bool true := hrd 34 (by rfl) (by rfl)
      simp [Act.eval] at r34
      refine ⟨(by intro c h; cases h), fun _ _ => trivial, (by simp), .inl ⟨.bool true, V, ?_, Below.refl _ _, fun t ht => by obtain rfl : 35 = t := Option.some.inj ht; rfl⟩⟩
      simp [execOp, Act.eval, go_sem, r30, r34, p0, p1, p5]
    · simp at ho
      subst ho
      have r35 : a'.eval (.tmp 35) = .bool true := hrd 35 (by rfl) (by rfl)
      simp [Act.eval] at r35
      refine ⟨(by intro c h; cases h), fun _ _ => trivial, (by simp), .inl ⟨.bool true, V, ?_, Below.refl _ _, fun t ht => by obtain rfl : 36 = t := Option.some.inj ht; rfl⟩⟩
      simp [execOp, Act.eval, go_sem, r35, p0, p1, p5]
    · simp at ho
      subst ho
      have r0 := hev 0 (by rfl)
      simp [Act.eval] at r0
      refine ⟨(by intro c h; cases h), fun _ _ => trivial, (by simp), .inl ⟨.int .i64 c, V, ?_, Below.refl _ _, fun t ht => by obtain rfl : 37 = t := Option.some.inj ht; rfl⟩⟩
      simp [execOp, Act.eval, go_sem, r0, p0, p1, p5]
    · simp at ho
      subst ho
      have r37 : a'.eval (.tmp 37) = .int .i64 c := hrd 37 (by rfl) (by rfl)
      simp [Act.eval] at r37
      refine ⟨(by intro c h; cases h), fun _ _ => trivial, (by simp), .inr ⟨13, #[.int .i64 c], ?_, (callsIn_wide.2 (cSize_yes V c D HC.out)).mono ?_⟩⟩
      · simp [execOp, Act.eval, r37, resolve, invoke, Deferred.ofValue]
      · rintro e w' ⟨rfl, hB2⟩
        have hv : Value.int .i64 (D.size : Int) = Value.int .i64 (D.size : Int) := rfl
        exact ⟨_, rfl, hB2, fun t ht => by obtain rfl : 38 = t := Option.some.inj ht; exact hv⟩
    · simp at ho
      subst ho
      have r4 := hev 4 (by rfl)
      simp [Act.eval] at r4
      refine ⟨(by intro c h; cases h), fun _ _ => trivial, (by simp), .inl ⟨.pointer (some ⟨g4, 5, none⟩), V, ?_, Below.refl _ _, fun t ht => by obtain rfl : 39 = t := Option.some.inj ht; rfl⟩⟩
      simp [execOp, Act.eval, go_sem, r4, p0, p1, p5]
    · simp at ho
      subst ho
      have r39 : a'.eval (.tmp 39) = .pointer (some ⟨g4, 5, none⟩) := hrd 39 (by rfl) (by rfl)
      simp [Act.eval] at r39
      refine ⟨(by intro c h; cases h), fun _ _ => trivial, (by simp), .inl ⟨.int .i64 (D.size : Int), V, ?_, Below.refl _ _, fun t ht => by obtain rfl : 40 = t := Option.some.inj ht; rfl⟩⟩
      simp [execOp, Act.eval, go_sem, r39, p0, p1, p5]
    · simp at ho
      subst ho
      have r38 : a'.eval (.tmp 38) = .int .i64 (D.size : Int) := hrd 38 (by rfl) (by rfl)
      simp [Act.eval] at r38
      have r40 : a'.eval (.tmp 40) = .int .i64 (D.size : Int) := hrd 40 (by rfl) (by rfl)
      simp [Act.eval] at r40
      refine ⟨(by intro c h; cases h), fun _ _ => trivial, (by simp), .inl ⟨.bool true, V, ?_, Below.refl _ _, fun t ht => by obtain rfl : 41 = t := Option.some.inj ht; rfl⟩⟩
      simp [execOp, Act.eval, go_sem, r38, r40, p0, p1, p5]
    · simp at ho
      subst ho
      have r36 : a'.eval (.tmp 36) = .bool true := hrd 36 (by rfl) (by rfl)
      simp [Act.eval] at r36
      have r41 : a'.eval (.tmp 41) = .bool true := hrd 41 (by rfl) (by rfl)
      simp [Act.eval] at r41
      refine ⟨(by intro c h; cases h), fun _ _ => trivial, (by simp), .inl ⟨.bool true, V, ?_, Below.refl _ _, fun t ht => by obtain rfl : 42 = t := Option.some.inj ht; rfl⟩⟩
      simp [execOp, Act.eval, go_sem, r36, r41, p0, p1, p5]
    · simp at ho
      subst ho
      have r42 : a'.eval (.tmp 42) = .bool true := hrd 42 (by rfl) (by rfl)
      simp [Act.eval] at r42
      refine ⟨(by intro c h; cases h), fun _ _ => trivial, (by simp), .inl ⟨.bool true, V, ?_, Below.refl _ _, fun t ht => by obtain rfl : 2 = t := Option.some.inj ht; rfl⟩⟩
      simp [execOp, Act.eval, go_sem, r42, p0, p1, p5]
  case hend =>
    intro vals V hB hP
    have hz : vals 28 = .bool true := hP 28 2 _ rfl rfl
    have HBE := Lib.hid (HB7.out.trans (hB.mono HB7.out.size))
    clear hP hB
    simp [wrote, Act.put]
    go_wp2
    go_ret
    exact ⟨by simp [hz], HBE.out⟩

set_option maxRecDepth 100000 in
set_option maxHeartbeats 4000000 in
theorem numbers_no (w : World) (c : Int) (hc : crvOf c = none) : Calls Try.prog 3 #[.int .i64 c] w fun e w' => RetV w (.bool true) e w' := by
  have HC := Lib.hid hc
  have HBG := Lib.hid (begun9_any w)
  have hmx : Try.prog.follows .mixedOrders = true := by kernel_rfl
  clear hc
  go_enter Try.func3, Try.ntmps3
  go_wp2_with fail
  refine HBG.out.mono ?_
  rintro e w1 ⟨rfl, hb1⟩
  have HB1 := Lib.hid hb1
  have HOF := Lib.hid (rOf9_no w1 c HC.out)
  clear hb1 HBG
  go_wp2_with fail
  refine HOF.out.mono ?_
  rintro e w2 ⟨rfl, hb2⟩
  obtain ⟨W3, e3, r3, b3, s3⟩ := newS w2 26 [.slice none 0 0, .slice none 0 0, .slice none 0 0, .slice none 0 0, .slice none 0 0, .int .i64 0] _ rfl
  obtain ⟨g4, hg4⟩ : ∃ x, w2.heap.size = x := ⟨_, rfl⟩
  rw [hg4] at r3
  have HL3 := Lib.hid (show w.heap.size ≤ g4 by have := HB1.out.size; have := hb2.size; omega)
  have hb12 := HB1.out.trans (hb2.mono HB1.out.size)
  have HB3 := Lib.hid (hb12.trans (b3.mono hb12.size))
  have HN3 := Lib.hid (NoU.of_row r3 (noU6 (by intro x h; cases h) (by intro x h; cases h) (by intro x h; cases h) (by intro x h; cases h) (by intro x h; cases h)))
  clear hb2 hb12 b3 s3 HOF HB1
  go_wp2_with ((with_reducible show wpList _ _ _ (⟨none, _, _, _, _, _⟩ :: _) _ _); refine wlS_store rfl 26 6 Try.sizeCr _ _ rfl g4 [.slice none 0 0, .slice none 0 0, .slice none 0 0, .slice none 0 0, .slice none 0 0, .int .i64 0] rfl rfl 26 _ r3 rfl rfl (ones6 rfl rfl rfl rfl rfl rfl) ?_; intro w4 hr4 hg4' hz4; have d0 := hr4.at_ (i := 0) rfl; have d1 := hr4.at_ (i := 1) rfl; have d2 := hr4.at_ (i := 2) rfl; have d3 := hr4.at_ (i := 3) rfl; have d4 := hr4.at_ (i := 4) rfl; have d5 := hr4.at_ (i := 5) rfl)
  have HB4 := Lib.hid (below_grown HB3.out hg4' HL3.out HB3.out.size)
  have HR4 := Lib.hid hr4
  have HBA := Lib.hid (rBase9_raw w4 none none none none none 0 0 0 0 0 0 0 0 0 0 0)
  clear hr4 hg4' hz4 HB3 HN3 HL3 r3 e3 hg4
  refine HBA.out.mono ?_
  rintro e w5 ⟨rfl, hb5⟩
  obtain ⟨W6, e6, r6, b6, s6⟩ := newS w5 29 [.bool false, .slice none 0 0, .slice none 0 0] _ rfl
  obtain ⟨g5, hg5⟩ : ∃ x, w5.heap.size = x := ⟨_, rfl⟩
  rw [hg5] at r6
  have hb45 := HB4.out.trans (hb5.mono HB4.out.size)
  have HB6 := Lib.hid (hb45.trans (b6.mono hb45.size))
  have hr45 := HR4.out.later hb5
  have HL6 := Lib.hid (show w.heap.size ≤ g5 ∧ g4 ≠ g5 by have := hb45.size; have := hr45.lt; omega)
  have HR46 := Lib.hid (hr45.later b6)
  have HN6 := Lib.hid (NoU.of_row r6 (noU3 (by intro x h; cases h) (by intro x h; cases h) (by intro x h; cases h)))
  clear d0 d1 d2 d3 d4 d5 hb45 hr45 hb5 b6 s6 HBA HB4 HR4
  go_wp2_with (first | ((with_reducible show wpList _ _ _ (⟨none, _, _, _, _, _⟩ :: _) _ _); refine wlS_store rfl 29 3 Try.sizeRp _ _ rfl g5 [.bool false, .slice none 0 0, .slice none 0 0] rfl rfl 29 _ r6 rfl rfl (ones3 rfl rfl rfl) ?_; intro w6' hr6' hg6' hz6'; have d5 := (HR46.out.grown hg6' HL6.out.2).at_ (i := 5) rfl) | ((with_reducible show wpList _ _ _ (⟨none, _, _, _, _, _⟩ :: _) _ _); refine wlS_store rfl 29 3 Try.sizeRp _ _ rfl g5 [.bool true, .slice none 0 0, .slice none 0 0] rfl rfl 29 _ hr6' rfl rfl (ones3 rfl rfl rfl) ?_; intro w7 hr7 hg7 hz7))
  have hb6' := below_grown HB6.out hg6' HL6.out.1 HB6.out.size
  have HB7 := Lib.hid (below_grown hb6' hg7 HL6.out.1 hb6'.size)
  have HR5 := Lib.hid hr7
  have HR47 := Lib.hid ((HR46.out.grown hg6' HL6.out.2).grown hg7 HL6.out.2)
  clear hb6' hg6' hz6' HB6 HN6 r6 e6 hg5 HR46 hr7 hg7 hz7 HL6 hr6' d5
  refine (wpIn_wide (n := 9)).1 (wpIn_region_numG rfl hmx [(15, .val (.bool true)), (16, .val (.bool true)), (17, .val (.int .i64 c)), (18, .num (0)), (19, .val (.pointer (some ⟨g4, 0, none⟩))), (20, .val (.slice none 0 0)), (21, .val (.bool true)), (22, .val (.bool true)), (23, .val (.bool true)), (24, .val (.int .i64 c)), (25, .num (0)), (26, .val (.pointer (some ⟨g4, 1, none⟩))), (27, .val (.slice none 0 0)), (28, .val (.bool true)), (29, .val (.bool true)), (30, .val (.bool true)), (31, .val (.int .i64 c)), (32, .pt (none)), (33, .val (.agg #[.bool true, .slice none 0 0, .slice none 0 0])), (34, .val (.bool true)), (35, .val (.bool true)), (36, .val (.bool true)), (37, .val (.int .i64 c)), (38, .val (.int .i64 0)), (39, .val (.pointer (some ⟨g4, 5, none⟩))), (40, .val (.int .i64 0)), (41, .val (.bool true)), (42, .val (.bool true)), (2, .val (.bool true))] [(16, true), (23, true), (30, true), (36, true)] (by kernel_rfl) (by kernel_rfl) (by kernel_rfl) (by kernel_rfl) (by rfl) (by kernel_rfl) (by rfl) ?hgv ?hops ?hend)
  case hgv =>
    intro p hp v V h
    simp only [List.mem_cons, List.not_mem_nil, or_false] at hp
    rcases hp with rfl | rfl | rfl | rfl <;> exact h
  case hops =>
    intro i o a' V hB ho hev hrd
    have his : i < 29 := by have := (Array.getElem?_eq_some_iff.1 ho).1; simpa using this
    have hx4 := HR47.out.later hB
    have p0 := hx4.at_ (i := 0) rfl
    have p1 := hx4.at_ (i := 1) rfl
    have p5 := hx4.at_ (i := 5) rfl
    have hy5 := HR5.out.later hB
    have hk1 := Nb.nil V
    have hk2 := Nb.nil V
    have hrp : Rp V (.agg #[.bool true, .slice none 0 0, .slice none 0 0]) none := ⟨_, _, rfl, Nb.nil V, Nb.nil V⟩
    have hcase : i = 0 ∨ i = 1 ∨ i = 2 ∨ i = 3 ∨ i = 4 ∨ i = 5 ∨ i = 6 ∨ i = 7 ∨ i = 8 ∨ i = 9 ∨ i = 10 ∨ i = 11 ∨ i = 12 ∨ i = 13 ∨ i = 14 ∨ i = 15 ∨ i = 16 ∨ i = 17 ∨ i = 18 ∨ i = 19 ∨ i = 20 ∨ i = 21 ∨ i = 22 ∨ i = 23 ∨ i = 24 ∨ i = 25 ∨ i = 26 ∨ i = 27 ∨ i = 28 := by omega
    rcases hcase with rfl | rfl | rfl | rfl | rfl | rfl | rfl | rfl | rfl | rfl | rfl | rfl | rfl | rfl | rfl | rfl | rfl | rfl | rfl | rfl | rfl | rfl | rfl | rfl | rfl | rfl | rfl | rfl | rfl
    · simp at ho
      subst ho
      have r3 := hev 3 (by rfl)
      simp [Act.eval] at r3
      refine ⟨(by intro c h; cases h), fun _ _ => trivial, (by simp), .inl ⟨.bool true, V, ?_, Below.refl _ _, fun t ht => by obtain rfl : 15 = t := Option.some.inj ht; rfl⟩⟩
      simp [execOp, Act.eval, go_sem, r3, p0, p1, p5]
    · simp at ho
      subst ho
      have r15 : a'.eval (.tmp 15) = .bool true := hrd 15 (by rfl) (by rfl)
      simp [Act.eval] at r15
      refine ⟨(by intro c h; cases h), fun _ _ => trivial, (by simp), .inl ⟨.bool true, V, ?_, Below.refl _ _, fun t ht => by obtain rfl : 16 = t := Option.some.inj ht; rfl⟩⟩
      simp [execOp, Act.eval, go_sem, r15, p0, p1, p5]
    · simp at ho
      subst ho
      have r0 := hev 0 (by rfl)
      simp [Act.eval] at r0
      refine ⟨(by intro c h; cases h), fun _ _ => trivial, (by simp), .inl ⟨.int .i64 c, V, ?_, Below.refl _ _, fun t ht => by obtain rfl : 17 = t := Option.some.inj ht; rfl⟩⟩
      simp [execOp, Act.eval, go_sem, r0, p0, p1, p5]
    · simp at ho
      subst ho
      have r17 : a'.eval (.tmp 17) = .int .i64 c := hrd 17 (by rfl) (by rfl)
      simp [Act.eval] at r17
      refine ⟨(by intro c h; cases h), fun _ _ => trivial, (by simp), .inr ⟨9, #[.int .i64 c], ?_, (callsIn_wide.2 (cPrime_no V c HC.out)).mono ?_⟩⟩
      · simp [execOp, Act.eval, r17, resolve, invoke, Deferred.ofValue]
      · rintro e w' ⟨v, rfl, hv, hB2⟩
        exact ⟨_, rfl, hB2, fun t ht => by obtain rfl : 18 = t := Option.some.inj ht; exact hv⟩
    · simp at ho
      subst ho
      have r4 := hev 4 (by rfl)
      simp [Act.eval] at r4
      refine ⟨(by intro c h; cases h), fun _ _ => trivial, (by simp), .inl ⟨.pointer (some ⟨g4, 0, none⟩), V, ?_, Below.refl _ _, fun t ht => by obtain rfl : 19 = t := Option.some.inj ht; rfl⟩⟩
      simp [execOp, Act.eval, go_sem, r4, p0, p1, p5]
    · simp at ho
      subst ho
      have r19 : a'.eval (.tmp 19) = .pointer (some ⟨g4, 0, none⟩) := hrd 19 (by rfl) (by rfl)
      simp [Act.eval] at r19
      refine ⟨(by intro c h; cases h), fun _ _ => trivial, (by simp), .inl ⟨.slice none 0 0, V, ?_, Below.refl _ _, fun t ht => by obtain rfl : 20 = t := Option.some.inj ht; rfl⟩⟩
      simp [execOp, Act.eval, go_sem, r19, p0, p1, p5]
    · simp at ho
      subst ho
      have r18 : Nu V (a'.eval (.tmp 18)) (0) := hrd 18 (by rfl) (by rfl)
      have r20 : a'.eval (.tmp 20) = .slice none 0 0 := hrd 20 (by rfl) (by rfl)
      simp [Act.eval] at r20
      refine ⟨(by intro c h; cases h), fun _ _ => trivial, (by simp), .inr ⟨8, #[a'.eval (.tmp 18), .slice none 0 0], ?_, (callsIn_wide.2 (is_u V _ _ _ r18 hk1)).mono ?_⟩⟩
      · simp [execOp, Act.eval, r20, resolve, invoke, Deferred.ofValue]
      · rintro e w' ⟨rfl, hB2⟩
        have hv : Value.bool true = Value.bool true := rfl
        exact ⟨_, rfl, hB2, fun t ht => by obtain rfl : 21 = t := Option.some.inj ht; exact hv⟩
    · simp at ho
      subst ho
      have r16 : a'.eval (.tmp 16) = .bool true := hrd 16 (by rfl) (by rfl)
      simp [Act.eval] at r16
      have r21 : a'.eval (.tmp 21) = .bool true := hrd 21 (by rfl) (by rfl)
      simp [Act.eval] at r21
      refine ⟨(by intro c h; cases h), fun _ _ => trivial, (by simp), .inl ⟨.bool true, V, ?_, Below.refl _ _, fun t ht => by obtain rfl : 22 = t := Option.some.inj ht; rfl⟩⟩
      simp [execOp, Act.eval, go_sem, r16, r21, p0, p1, p5]
    · simp at ho
      subst ho
      have r22 : a'.eval (.tmp 22) = .bool true := hrd 22 (by rfl) (by rfl)
      simp [Act.eval] at r22
      refine ⟨(by intro c h; cases h), fun _ _ => trivial, (by simp), .inl ⟨.bool true, V, ?_, Below.refl _ _, fun t ht => by obtain rfl : 23 = t := Option.some.inj ht; rfl⟩⟩
      simp [execOp, Act.eval, go_sem, r22, p0, p1, p5]
    · simp at ho
      subst ho
      have r0 := hev 0 (by rfl)
      simp [Act.eval] at r0
      refine ⟨(by intro c h; cases h), fun _ _ => trivial, (by simp), .inl ⟨.int .i64 c, V, ?_, Below.refl _ _, fun t ht => by obtain rfl : 24 = t := Option.some.inj ht; rfl⟩⟩
      simp [execOp, Act.eval, go_sem, r0, p0, p1, p5]
    · simp at ho
      subst ho
      have r24 : a'.eval (.tmp 24) = .int .i64 c := hrd 24 (by rfl) (by rfl)
      simp [Act.eval] at r24
      refine ⟨(by intro c h; cases h), fun _ _ => trivial, (by simp), .inr ⟨10, #[.int .i64 c], ?_, (callsIn_wide.2 (cOrder_no V c HC.out)).mono ?_⟩⟩
      · simp [execOp, Act.eval, r24, resolve, invoke, Deferred.ofValue]
      · rintro e w' ⟨v, rfl, hv, hB2⟩
        exact ⟨_, rfl, hB2, fun t ht => by obtain rfl : 25 = t := Option.some.inj ht; exact hv⟩
    · simp at ho
      subst ho
      have r4 := hev 4 (by rfl)
      simp [Act.eval] at r4
      refine ⟨(by intro c h; cases h), fun _ _ => trivial, (by simp), .inl ⟨.pointer (some ⟨g4, 1, none⟩), V, ?_, Below.refl _ _, fun t ht => by obtain rfl : 26 = t := Option.some.inj ht; rfl⟩⟩
      simp [execOp, Act.eval, go_sem, r4, p0, p1, p5]
    · simp at ho
      subst ho
      have r26 : a'.eval (.tmp 26) = .pointer (some ⟨g4, 1, none⟩) := hrd 26 (by rfl) (by rfl)
      simp [Act.eval] at r26
      refine ⟨(by intro c h; cases h), fun _ _ => trivial, (by simp), .inl ⟨.slice none 0 0, V, ?_, Below.refl _ _, fun t ht => by obtain rfl : 27 = t := Option.some.inj ht; rfl⟩⟩
      simp [execOp, Act.eval, go_sem, r26, p0, p1, p5]
    · simp at ho
      subst ho
      have r25 : Nu V (a'.eval (.tmp 25)) (0) := hrd 25 (by rfl) (by rfl)
      have r27 : a'.eval (.tmp 27) = .slice none 0 0 := hrd 27 (by rfl) (by rfl)
      simp [Act.eval] at r27
      refine ⟨(by intro c h; cases h), fun _ _ => trivial, (by simp), .inr ⟨8, #[a'.eval (.tmp 25), .slice none 0 0], ?_, (callsIn_wide.2 (is_u V _ _ _ r25 hk2)).mono ?_⟩⟩
      · simp [execOp, Act.eval, r27, resolve, invoke, Deferred.ofValue]
      · rintro e w' ⟨rfl, hB2⟩
        have hv : Value.bool true = Value.bool true := rfl
        exact ⟨_, rfl, hB2, fun t ht => by obtain rfl : 28 = t := Option.some.inj ht; exact hv⟩
    · simp at ho
      subst ho
      have r23 : a'.eval (.tmp 23) = .bool true := hrd 23 (by rfl) (by rfl)
      simp [Act.eval] at r23
      have r28 : a'.eval (.tmp 28) = .bool true := hrd 28 (by rfl) (by rfl)
      simp [Act.eval] at r28
      refine ⟨(by intro c h; cases h), fun _ _ => trivial, (by simp), .inl ⟨.bool true, V, ?_, Below.refl _ _, fun t ht => by obtain rfl : 29 = t := Option.some.inj ht; rfl⟩⟩
      simp [execOp, Act.eval, go_sem, r23, r28, p0, p1, p5]
    · simp at ho
      subst ho
      have r29 : a'.eval (.tmp 29) = .bool true := hrd 29 (by rfl) (by rfl)
      simp [Act.eval] at r29
      refine ⟨(by intro c h; cases h), fun _ _ => trivial, (by simp), .inl ⟨.bool true, V, ?_, Below.refl _ _, fun t ht => by obtain rfl : 30 = t := Option.some.inj ht; rfl⟩⟩
      simp [execOp, Act.eval, go_sem, r29, p0, p1, p5]
    · simp at ho
      subst ho
      have r0 := hev 0 (by rfl)
      simp [Act.eval] at r0
      refine ⟨(by intro c h; cases h), fun _ _ => trivial, (by simp), .inl ⟨.int .i64 c, V, ?_, Below.refl _ _, fun t ht => by obtain rfl : 31 = t := Option.some.inj ht; rfl⟩⟩
      simp [execOp, Act.eval, go_sem, r0, p0, p1, p5]
    · simp at ho
      subst ho
      have r31 : a'.eval (.tmp 31) = .int .i64 c := hrd 31 (by rfl) (by rfl)
      simp [Act.eval] at r31
      refine ⟨(by intro c h; cases h), fun _ _ => trivial, (by simp), .inr ⟨12, #[.int .i64 c], ?_, (callsIn_wide.2 (cBase_no V c HC.out)).mono ?_⟩⟩
      · simp [execOp, Act.eval, r31, resolve, invoke, Deferred.ofValue]
      · rintro e w' ⟨rfl, hB2⟩
        have hv : Pt w' inf0 none := ⟨_, _, rfl, Nu.nil _, Nu.nil _⟩
        exact ⟨_, rfl, hB2, fun t ht => by obtain rfl : 32 = t := Option.some.inj ht; exact hv⟩
    · simp at ho
      subst ho
      have r5 := hev 5 (by rfl)
      simp [Act.eval] at r5
      try simp [Act.put] at r5
      refine ⟨(by intro c h; cases h), fun _ _ => trivial, (by simp), .inl ⟨.agg #[.bool true, .slice none 0 0, .slice none 0 0], V, exec_load 29 3 _ Try.underlying29 rfl Try.sizeRp _ rfl g5 [.bool true, .slice none 0 0, .slice none 0 0] (by simpa [Act.eval] using r5) 29 hy5 rfl, Below.refl _ _, fun t ht => by obtain rfl : 33 = t := Option.some.inj ht; rfl⟩⟩
    · simp at ho
      subst ho
      have r32 : Pt V (a'.eval (.tmp 32)) (none) := hrd 32 (by rfl) (by rfl)
      have r33 : a'.eval (.tmp 33) = .agg #[.bool true, .slice none 0 0, .slice none 0 0] := hrd 33 (by rfl) (by rfl)
      simp [Act.eval] at r33
      refine ⟨(by intro c h; cases h), fun _ _ => trivial, (by simp), .inr ⟨11, #[a'.eval (.tmp 32), .agg #[.bool true, .slice none 0 0, .slice none 0 0]], ?_, (callsIn_wide.2 (is9_any V _ _ _ r32 hrp)).mono ?_⟩⟩
      · simp [execOp, Act.eval, r33, resolve, invoke, Deferred.ofValue]
      · rintro e w' ⟨rfl, hB2⟩
        have hv : Value.bool true = Value.bool true := rfl
        exact ⟨_, rfl, hB2, fun t ht => by obtain rfl : 34 = t := Option.some.inj ht; exact hv⟩
    · simp at ho
      subst ho
      have r30 : a'.eval (.tmp 30) = .bool true := hrd 30 (by rfl) (by rfl)
      simp [Act.eval] at r30
      have r34 : a'.eval (.tmp 34) = .bool true := hrd 34 (by rfl) (by rfl)
      simp [Act.eval] at r34
      refine ⟨(by intro c h; cases h), fun _ _ => trivial, (by simp), .inl ⟨.bool true, V, ?_, Below.refl _ _, fun t ht => by obtain rfl : 35 = t := Option.some.inj ht; rfl⟩⟩
      simp [execOp, Act.eval, go_sem, r30, r34, p0, p1, p5]
    · simp at ho
      subst ho
      have r35 : a'.eval (.tmp 35) = .bool true := hrd 35 (by rfl) (by rfl)
      simp [Act.eval] at r35
      refine ⟨(by intro c h; cases h), fun _ _ => trivial, (by simp), .inl ⟨.bool true, V, ?_, Below.refl _ _, fun t ht => by obtain rfl : 36 = t := Option.some.inj ht; rfl⟩⟩
      simp [execOp, Act.eval, go_sem, r35, p0, p1, p5]
    · simp at ho
      subst ho
      have r0 := hev 0 (by rfl)
      simp [Act.eval] at r0
      refine ⟨(by intro c h; cases h), fun _ _ => trivial, (by simp), .inl ⟨.int .i64 c, V, ?_, Below.refl _ _, fun t ht => by obtain rfl : 37 = t := Option.some.inj ht; rfl⟩⟩
      simp [execOp, Act.eval, go_sem, r0, p0, p1, p5]
    · simp at ho
      subst ho
      have r37 : a'.eval (.tmp 37) = .int .i64 c := hrd 37 (by rfl) (by rfl)
      simp [Act.eval] at r37
      refine ⟨(by intro c h; cases h), fun _ _ => trivial, (by simp), .inr ⟨13, #[.int .i64 c], ?_, (callsIn_wide.2 (cSize_no V c HC.out)).mono ?_⟩⟩
      · simp [execOp, Act.eval, r37, resolve, invoke, Deferred.ofValue]
      · rintro e w' ⟨rfl, hB2⟩
        have hv : Value.int .i64 0 = Value.int .i64 0 := rfl
        exact ⟨_, rfl, hB2, fun t ht => by obtain rfl : 38 = t := Option.some.inj ht; exact hv⟩
    · simp at ho
      subst ho
      have r4 := hev 4 (by rfl)
      simp [Act.eval] at r4
      refine ⟨(by intro c h; cases h), fun _ _ => trivial, (by simp), .inl ⟨.pointer (some ⟨g4, 5, none⟩), V, ?_, Below.refl _ _, fun t ht => by obtain rfl : 39 = t := Option.some.inj ht; rfl⟩⟩
      simp [execOp, Act.eval, go_sem, r4, p0, p1, p5]
    · simp at ho
      subst ho
      have r39 : a'.eval (.tmp 39) = .pointer (some ⟨g4, 5, none⟩) := hrd 39 (by rfl) (by rfl)
      simp [Act.eval] at r39
      refine ⟨(by intro c h; cases h), fun _ _ => trivial, (by simp), .inl ⟨.int .i64 0, V, ?_, Below.refl _ _, fun t ht => by obtain rfl : 40 = t := Option.some.inj ht; rfl⟩⟩
      simp [execOp, Act.eval, go_sem, r39, p0, p1, p5]
    · simp at ho
      subst ho
      have r38 : a'.eval (.tmp 38) = .int .i64 0 := hrd 38 (by rfl) (by rfl)
      simp [Act.eval] at r38
      have r40 : a'.eval (.tmp 40) = .int .i64 0 := hrd 40 (by rfl) (by rfl)
      simp [Act.eval] at r40
      refine ⟨(by intro c h; cases h), fun _ _ => trivial, (by simp), .inl ⟨.bool true, V, ?_, Below.refl _ _, fun t ht => by obtain rfl : 41 = t := Option.some.inj ht; rfl⟩⟩
      simp [execOp, Act.eval, go_sem, r38, r40, p0, p1, p5]
    · simp at ho
      subst ho
      have r36 : a'.eval (.tmp 36) = .bool true := hrd 36 (by rfl) (by rfl)
      simp [Act.eval] at r36
      have r41 : a'.eval (.tmp 41) = .bool true := hrd 41 (by rfl) (by rfl)
      simp [Act.eval] at r41
      refine ⟨(by intro c h; cases h), fun _ _ => trivial, (by simp), .inl ⟨.bool true, V, ?_, Below.refl _ _, fun t ht => by obtain rfl : 42 = t := Option.some.inj ht; rfl⟩⟩
      simp [execOp, Act.eval, go_sem, r36, r41, p0, p1, p5]
    · simp at ho
      subst ho
      have r42 : a'.eval (.tmp 42) = .bool true := hrd 42 (by rfl) (by rfl)
      simp [Act.eval] at r42
      refine ⟨(by intro c h; cases h), fun _ _ => trivial, (by simp), .inl ⟨.bool true, V, ?_, Below.refl _ _, fun t ht => by obtain rfl : 2 = t := Option.some.inj ht; rfl⟩⟩
      simp [execOp, Act.eval, go_sem, r42, p0, p1, p5]
  case hend =>
    intro vals V hB hP
    have hz : vals 28 = .bool true := hP 28 2 _ rfl rfl
    have HBE := Lib.hid (HB7.out.trans (hB.mono HB7.out.size))
    clear hP hB
    simp [wrote, Act.put]
    go_wp2
    go_ret
    exact ⟨by simp [hz], HBE.out⟩

theorem crv_size {c : Int} {D : Crv} (h : crvOf c = some D) : ¬ ((D.size : Int) = 0) := by
  unfold crvOf at h
  split at h
  · obtain rfl := Option.some.inj h
    decide
  · split at h
    · obtain rfl := Option.some.inj h
      decide
    · cases h
theorem numbers_walk (w : World) (c : Int) : Calls Try.prog 3 #[.int .i64 c] w fun e w' => RetV w (.bool true) e w' := by
  rcases h : crvOf c with _ | D
  · exact numbers_no w c h
  · exact numbers_yes w c D h (crv_size h)
end Go.Proofs.Ytmmmcbklgmjalaa
