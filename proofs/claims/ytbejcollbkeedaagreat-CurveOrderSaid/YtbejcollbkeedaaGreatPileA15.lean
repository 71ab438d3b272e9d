/- Parts of one proof, joined: TreeS, WCy. -/
import Derived.Test.YtbejcollbkeedaaGreatPileA14
import Derived.Test.YtbejcollbkeedaaGreatPileA12
import Derived.Test.YtbejcollbkeedaaGreatPileA7
set_option linter.unusedVariables false
set_option linter.unusedSimpArgs false
set_option linter.unusedSectionVars false
set_option maxRecDepth 100000
set_option maxHeartbeats 8000000
open Go.Lib (hid)
namespace Go.Proofs.YtbejcollbkeedaaGreat
open Go.RowKit
structure AL where
 ia : Nat
 st : Nat
 ic : Nat
 a : Nat
 c : Nat
 T : TypeId
 n : Nat
 z : List Value
def AlRow (A : AL) (v u : Value) (B : Nat) (V : World) : Prop := ∃ g vs, v = .pointer (some ⟨g, 0, none⟩) ∧ B ≤ g ∧ RowV A.T V g vs ∧ u = .agg vs.toArray
structure AlOk (P : Program) (ops : Array Oper) (L : List (Nat × Spc)) (A : AL) : Prop where
 al : ∃ o, ops[A.ia]? = some o ∧ o.dst = some A.a ∧ o.op = .alloc A.T
 st : ∃ o, ops[A.st]? = some o ∧ o.dst = none ∧ o.op = .store A.T (.tmp A.a) (.tmp A.c)
 ct : ∃ o, ops[A.ic]? = some o ∧ o.dst = some A.c
 ne : A.ia ≠ A.st ∧ A.ic ≠ A.st ∧ A.ic ≠ A.ia
 sz : (P.info? A.T).map (·.size) = some A.n
 zl : A.z.length = A.n
 nu : ∀ v ∈ A.z, ∀ x, v ≠ .int .u64 x
 run : ∀ (ev : Operand → Value) (o : Oper) V, o.op = .alloc A.T → (execOp ev o).run P V = .ok (.value (.pointer (some ⟨V.heap.size, 0, none⟩))) (V.alloc (.cells A.z.toArray A.T))
 any : ∀ v V, spcAt L A.a v V
 form : ∀ v V, spcAt L A.c v V → ∃ vs : List Value, v = .agg vs.toArray ∧ vs.length = A.n ∧ Ones vs
theorem wpIn_region_numS {F : Fence} {n : Nat} {P : Program} {id : Nat} {ops : Array Oper} {Q : Exit → Act → World → Prop} {a : Act} {w : World} (hF : F.depth = none) (hm : P.follows .mixedOrders = true) (hfn : ∀ f, F.fn f)
  (L : List (Nat × Spc)) (hd : distinctB ops = true) (hdep : depsW ops (L.map (·.1)) [] = true) (hon : onlyB ops (L.map (·.1)) = true) (hord : orderedB ops = true) (hsz : (L.map (·.1)).all (fun t => decide (t < a.tmps.size)) = true)
  (As : List AL) (hAs : ∀ A ∈ As, AlOk P ops L A ∧ (L.map (·.1)).contains A.a = true ∧ (L.map (·.1)).contains A.c = true) (hpw : ∀ A ∈ As, ∀ A' ∈ As, (A.ia = A'.ia → A = A') ∧ (A.st = A'.st → A = A') ∧ A.ia ≠ A'.st ∧ A.ic ≠ A'.ia)
  (hops : ∀ (i : Nat) (o : Oper) (a' : Act) (V : World), (∀ A ∈ As, i ≠ A.ia ∧ i ≠ A.st) → Below w.heap.size w V → ops[i]? = some o → (∀ t, (L.map (·.1)).contains t = false → a'.eval (.tmp t) = a.eval (.tmp t)) → (∀ t, readsB o t = true → (L.map (·.1)).contains t = true → spcAt L t (a'.eval (.tmp t)) V) → OpOk F n P L a' V o)
  (hend : ∀ (vals : Nat → Value) V, Below w.heap.size w V → (∀ (i t : Nat) (o : Oper), ops[i]? = some o → o.dst = some t → spcAt L t (vals i) V) → (∀ A ∈ As, AlRow A (vals A.ia) (vals A.ic) w.heap.size V) → (∀ A ∈ As, ∀ A' ∈ As, A.ia ≠ A'.ia → vals A.ia ≠ vals A'.ia) →
   Q .normal { tmps := wrote ops vals (Array.replicate ops.size true) a.tmps ops.size, defers := a.defers } V) : (Code.region id ops true).wpIn F n P Q a w := by
 have hd' := distinct_of hd
 refine wpIn_region_relH hm hd' (fun b : Nat → Value => b) (fun b X V => Below w.heap.size w V ∧ (∀ (j t : Nat) (o : Oper), ops[j]? = some o → o.dst = some t → X.getD j false = true → spcAt L t (b j) V) ∧
  (∀ A ∈ As, X.getD A.st false = true → X.getD A.ia false = true ∧ X.getD A.ic false = true) ∧
  (∀ A ∈ As, X.getD A.ia false = true → ∃ g, b A.ia = .pointer (some ⟨g, 0, none⟩) ∧ w.heap.size ≤ g ∧ (X.getD A.st false = false → RowV A.T V g A.z) ∧ (X.getD A.st false = true → ∃ vs : List Value, RowV A.T V g vs ∧ b A.ic = .agg vs.toArray)) ∧
  (∀ A ∈ As, ∀ A' ∈ As, A.ia ≠ A'.ia → X.getD A.ia false = true → X.getD A'.ia false = true → b A.ia ≠ b A'.ia)) (fun _ => undef) ⟨below_drewN (Below.refl _ w) 1, ?_, ?_, ?_, ?_⟩ ?_ ?_ (acyclic_of hord)
 ·intro j t o _ _ hL
  rw [getD_rep] at hL
  cases hL
 ·intro A _ hL
  rw [getD_rep] at hL
  cases hL
 ·intro A _ hL
  rw [getD_rep] at hL
  cases hL
 ·intro A _ A' _ _ hL
  rw [getD_rep] at hL
  cases hL
 ·rintro b X a' V ⟨hIV, hPV, hSV, hAV, hDV⟩ hLs hdf hcl hold hnew i hi o ho K hK
  obtain ⟨h1, o2, ho2, hde⟩ := mem_ready.1 hi
  obtain rfl : o = o2 := Option.some.inj (ho.symm.trans ho2)
  have hnl := unlisted h1
  obtain ⟨hg, hev, hrd⟩ := tree_reads hdep hon hsz hold hnew ho hde
  have hrd' : ∀ t, readsB o t = true → (L.map (·.1)).contains t = true → spcAt L t (a'.eval (.tmp t)) V := by
   intro t h2 h3
   obtain ⟨j, oj, hj, hjd, hjL, e⟩ := hrd t h2 h3
   rw [e]
   exact hPV j t oj hj hjd hjL
  have hrow : ∀ A ∈ As, ∀ g, b A.ia = .pointer (some ⟨g, 0, none⟩) → X.getD A.ia false = true → g < V.heap.size := by
   intro A hA g hg hx
   obtain ⟨g', e', -, k1, k2⟩ := hAV A hA hx
   rw [hg] at e'
   cases e'
   cases hs : X.getD A.st false with
   | false => exact (k1 hs).lt
   | true => obtain ⟨vs, k3, -⟩ := k2 hs; exact k3.lt
  by_cases hial : ∃ A ∈ As, i = A.ia
  ·obtain ⟨A, hA, rfl⟩ := hial
   obtain ⟨hok, hka, hkc⟩ := hAs A hA
   obtain ⟨o1, e1, e2, e3⟩ := hok.al
   obtain rfl : o = o1 := Option.some.inj (ho.symm.trans e1)
   have hrun := hok.run a'.eval o V e3
   have hBV : Below V.heap.size V (V.alloc (.cells A.z.toArray A.T)) := (Below.refl _ V).alloc (Nat.le_refl _) _
   have hk := hK (fun j => if j = A.ia then .pointer (some ⟨V.heap.size, 0, none⟩) else b j) (V.alloc (.cells A.z.toArray A.T)) (fun j hj => by
    rw [if_neg]
    rintro rfl
    rw [hnl] at hj; cases hj) ⟨hIV.trans (hBV.mono hIV.size), fun j t oj hj hjd hjL => by
     by_cases hji : j = A.ia
     ·subst hji
      obtain rfl : o = oj := Option.some.inj (ho.symm.trans hj)
      obtain rfl : A.a = t := Option.some.inj (e2.symm.trans hjd)
      exact hok.any _ _
     ·rw [getD_set_ne X (fun h => hji h.symm)] at hjL
      simp only [if_neg hji]
      exact (hPV j t oj hj hjd hjL).sb (Sb.of_below hBV), fun A' hA' hx => by
     rw [getD_set_ne X (hpw A hA A' hA').2.2.1] at hx
     obtain ⟨k1, k2⟩ := hSV A' hA' hx
     have n1 : A.ia ≠ A'.ia := by
      intro h
      rw [← h, hnl] at k1
      cases k1
     have n2 : A.ia ≠ A'.ic := by
      intro h
      rw [← h, hnl] at k2
      cases k2
     rw [getD_set_ne X n1, getD_set_ne X n2]
     exact ⟨k1, k2⟩, fun A' hA' hx => by
     by_cases he : A'.ia = A.ia
     ·obtain rfl := (hpw A' hA' A hA).1 he
      have hns : X.getD A'.st false = false := by
       cases hs : X.getD A'.st false with
       | false => rfl
       | true =>
        have := (hSV A' hA' hs).1
        rw [hnl] at this
        cases this
      refine ⟨V.heap.size, by simp, hIV.size, fun _ => RowV.new V A'.T A'.z, fun h => ?_⟩
      rw [getD_set_ne X hok.ne.1, hns] at h
      cases h
     ·rw [getD_set_ne X (fun h => he h.symm)] at hx
      obtain ⟨g, k1, k2, k3, k4⟩ := hAV A' hA' hx
      refine ⟨g, by simp only [if_neg he]; exact k1, k2, fun h => ?_, fun h => ?_⟩
      ·rw [getD_set_ne X (hpw A hA A' hA').2.2.1] at h
       exact (k3 h).later hBV
      ·rw [getD_set_ne X (hpw A hA A' hA').2.2.1] at h
       obtain ⟨vs, k5, k6⟩ := k4 h
       refine ⟨vs, k5.later hBV, ?_⟩
       rw [if_neg (hpw A' hA' A hA).2.2.2]
       exact k6, fun A1 hA1 A2 hA2 hne hx1 hx2 => by
     by_cases he1 : A1.ia = A.ia
     ·have he2 : ¬ A2.ia = A.ia := fun h => hne (he1.trans h.symm)
      rw [getD_set_ne X (fun h => he2 h.symm)] at hx2
      simp only [if_pos he1, if_neg he2]
      intro h
      obtain ⟨g, k1, -⟩ := hAV A2 hA2 hx2
      rw [k1] at h
      cases h
      exact absurd (hrow A2 hA2 _ k1 hx2) (Nat.lt_irrefl _)
     ·rw [getD_set_ne X (fun h => he1 h.symm)] at hx1
      by_cases he2 : A2.ia = A.ia
      ·simp only [if_neg he1, if_pos he2]
       intro h
       have hlt := hrow A1 hA1 _ h hx1
       exact absurd hlt (Nat.lt_irrefl _)
      ·rw [getD_set_ne X (fun h => he2 h.symm)] at hx2
       simp only [if_neg he1, if_neg he2]
       exact hDV A1 hA1 A2 hA2 hne hx1 hx2⟩
   simp only [if_true] at hk
   exact in_value ho hg (by intro c h; rw [e3] at h; cases h) (fun f _ => hfn f) hrun hk
  by_cases hist : ∃ A ∈ As, i = A.st
  ·obtain ⟨A, hA, rfl⟩ := hist
   obtain ⟨hok, hka, hkc⟩ := hAs A hA
   obtain ⟨o1, e1, e2, e3⟩ := hok.st
   obtain rfl : o = o1 := Option.some.inj (ho.symm.trans e1)
   have hra : readsB o A.a = true := by unfold readsB; rw [e3]; simp [usesW, usesOp]
   have hrc : readsB o A.c = true := by unfold readsB; rw [e3]; simp [usesW, usesOp]
   obtain ⟨ja, oja, hja, hjad, hjaL, ea⟩ := hrd A.a hra hka
   obtain ⟨jc, ojc, hjc, hjcd, hjcL, ec⟩ := hrd A.c hrc hkc
   obtain ⟨oa, q1, q2, q3⟩ := hok.al
   obtain ⟨oc, q4, q5⟩ := hok.ct
   obtain rfl : ja = A.ia := hd' ja A.ia oja oa A.a hja q1 hjad q2
   obtain rfl : jc = A.ic := hd' jc A.ic ojc oc A.c hjc q4 hjcd q5
   obtain ⟨g, k1, k2, k3, k4⟩ := hAV A hA hjaL
   have hrz := k3 hnl
   obtain ⟨vs, hvs, hvl, hvo⟩ := hok.form _ V (hPV A.ic A.c ojc hjc hjcd hjcL)
   obtain ⟨V', hrun, hr', hg'⟩ := exec_store (P := P) (w := V) (o := o) (a := a') A.T A.n hok.sz (.tmp A.a) (.tmp A.c) e3 g vs (by rw [ea, k1]) (by rw [ec, hvs]) A.T A.z hrz hok.zl hvl hvo
   have hsb : Sb V V' := ⟨g, NoU.of_row hrz hok.nu, hg'⟩
   have hk := hK (fun j => if j = A.st then undef else b j) V' (fun j hj => by
    rw [if_neg]
    rintro rfl
    rw [hnl] at hj; cases hj) ⟨below_grown hIV hg' k2 hIV.size, fun j t oj hj hjd hjL => by
     by_cases hji : j = A.st
     ·subst hji
      obtain rfl : o = oj := Option.some.inj (ho.symm.trans hj)
      rw [e2] at hjd
      cases hjd
     ·rw [getD_set_ne X (fun h => hji h.symm)] at hjL
      simp only [if_neg hji]
      exact (hPV j t oj hj hjd hjL).sb hsb, fun A' hA' hx => by
     have n1 : A.st ≠ A'.ia := fun h => (hpw A' hA' A hA).2.2.1 h.symm
     rw [getD_set_ne X n1]
     by_cases he : A'.st = A.st
     ·obtain rfl := (hpw A' hA' A hA).2.1 he
      rw [getD_set_ne X (fun h => hok.ne.2.1 h.symm)]
      exact ⟨hjaL, hjcL⟩
     ·rw [getD_set_ne X (fun h => he h.symm)] at hx
      obtain ⟨k5, k6⟩ := hSV A' hA' hx
      refine ⟨k5, ?_⟩
      by_cases h : A.st = A'.ic
      ·rw [← h, hnl] at k6
       cases k6
      ·rw [getD_set_ne X h]
       exact k6, fun A' hA' hx => by
     have n1 : A.st ≠ A'.ia := fun h => (hpw A' hA' A hA).2.2.1 h.symm
     rw [getD_set_ne X n1] at hx
     by_cases he : A'.st = A.st
     ·obtain rfl := (hpw A' hA' A hA).2.1 he
      refine ⟨g, by simp only [if_neg (Ne.symm n1)]; exact k1, k2, fun h => ?_, fun _ => ⟨vs, hr', ?_⟩⟩
      ·rw [show (X.setIfInBounds A'.st true).getD A'.st false = true by
        have hlt : A'.st < X.size := by rw [hLs]; exact (Array.getElem?_eq_some_iff.1 e1).1
        simp [Array.getD_eq_getD_getElem?, hlt]] at h
       cases h
      ·rw [if_neg hok.ne.2.1]
       exact hvs
     ·obtain ⟨g', k5, k6, k7, k8⟩ := hAV A' hA' hx
      have hgn : g' ≠ g := by
       rintro rfl
       have hia : A.ia ≠ A'.ia := fun h => he (by rw [(hpw A hA A' hA').1 h])
       exact hDV A hA A' hA' hia hjaL hx (k1.trans k5.symm)
      refine ⟨g', by simp only [if_neg (Ne.symm n1)]; exact k5, k6, fun h => ?_, fun h => ?_⟩
      ·rw [getD_set_ne X (fun h => he h.symm)] at h
       exact (k7 h).grown hg' hgn
      ·rw [getD_set_ne X (fun h => he h.symm)] at h
       obtain ⟨vs', k9, k10⟩ := k8 h
       refine ⟨vs', k9.grown hg' hgn, ?_⟩
       have := (hSV A' hA' h).2
       rw [if_neg (fun h2 => by rw [h2, hnl] at this; cases this)]
       exact k10, fun A1 hA1 A2 hA2 hne hx1 hx2 => by
     have n1 : A.st ≠ A1.ia := fun h => (hpw A1 hA1 A hA).2.2.1 h.symm
     have n2 : A.st ≠ A2.ia := fun h => (hpw A2 hA2 A hA).2.2.1 h.symm
     rw [getD_set_ne X n1] at hx1
     rw [getD_set_ne X n2] at hx2
     simp only [if_neg (Ne.symm n1), if_neg (Ne.symm n2)]
     exact hDV A1 hA1 A2 hA2 hne hx1 hx2⟩
   simp only [if_true] at hk
   exact in_skip ho hg (by intro c h; rw [e3] at h; cases h) (fun f _ => hfn f) hrun hk
  have hno : ∀ A ∈ As, i ≠ A.ia ∧ i ≠ A.st := fun A hA => ⟨fun h => hial ⟨A, hA, h⟩, fun h => hist ⟨A, hA, h⟩⟩
  obtain ⟨hdef, hab, hds, hrun⟩ := hops i o a' V hno hIV ho hev hrd'
  have hnext : ∀ v V', Below V.heap.size V V' → (∀ t, o.dst = some t → spcAt L t v V') → K (a'.put o.dst v) V' := by
   intro v V' hB hP
   have hk := hK (fun j => if j = i then v else b j) V' (fun j hj => by
    rw [if_neg]
    rintro rfl
    rw [hnl] at hj; cases hj) ⟨hIV.trans (hB.mono hIV.size), fun j t oj hj hjd hjL => by
     by_cases hji : j = i
     ·subst hji
      obtain rfl : o = oj := Option.some.inj (ho.symm.trans hj)
      simp only [if_true]
      exact hP t hjd
     ·rw [getD_set_ne X (fun h => hji h.symm)] at hjL
      simp only [if_neg hji]
      exact (hPV j t oj hj hjd hjL).sb (Sb.of_below hB), fun A' hA' hx => by
     rw [getD_set_ne X (hno A' hA').2] at hx
     obtain ⟨k1, k2⟩ := hSV A' hA' hx
     rw [getD_set_ne X (hno A' hA').1]
     refine ⟨k1, ?_⟩
     by_cases h : i = A'.ic
     ·rw [← h, hnl] at k2
      cases k2
     ·rw [getD_set_ne X h]
      exact k2, fun A' hA' hx => by
     rw [getD_set_ne X (hno A' hA').1] at hx
     obtain ⟨g', k5, k6, k7, k8⟩ := hAV A' hA' hx
     refine ⟨g', by simp only [if_neg (Ne.symm (hno A' hA').1)]; exact k5, k6, fun h => ?_, fun h => ?_⟩
     ·rw [getD_set_ne X (hno A' hA').2] at h
      exact (k7 h).later hB
     ·rw [getD_set_ne X (hno A' hA').2] at h
      obtain ⟨vs', k9, k10⟩ := k8 h
      refine ⟨vs', k9.later hB, ?_⟩
      have := (hSV A' hA' h).2
      rw [if_neg (fun h2 => by rw [h2, hnl] at this; cases this)]
      exact k10, fun A1 hA1 A2 hA2 hne hx1 hx2 => by
     rw [getD_set_ne X (hno A1 hA1).1] at hx1
     rw [getD_set_ne X (hno A2 hA2).1] at hx2
     simp only [if_neg (Ne.symm (hno A1 hA1).1), if_neg (Ne.symm (hno A2 hA2).1)]
     exact hDV A1 hA1 A2 hA2 hne hx1 hx2⟩
   simpa using hk
  rcases hrun with ⟨v, V', hrun, hB, hP⟩ | ⟨f, args, hrun, hcall⟩
  ·exact in_value ho hg hdef hab hrun (hnext v V' hB hP)
  ·refine in_call_any ho hg hdef hF hab hrun (hcall.mono ?_)
   rintro e w' ⟨v, rfl, hB, hP⟩
   exact ⟨v, rfl, hnext v w' hB hP⟩
 ·rintro b X V ⟨hIV, hPV, hSV, hAV, hDV⟩ hX
  refine hend b V hIV (fun i t o hi hid => hPV i t o hi hid (hX i (Array.getElem?_eq_some_iff.1 hi).1)) (fun A hA => ?_) fun A hA A' hA' hne => ?_
  ·obtain ⟨o1, e1, -⟩ := (hAs A hA).1.al
   obtain ⟨o2, e2, -⟩ := (hAs A hA).1.st
   obtain ⟨g, k1, k2, k3, k4⟩ := hAV A hA (hX _ (Array.getElem?_eq_some_iff.1 e1).1)
   obtain ⟨vs, k5, k6⟩ := k4 (hX _ (Array.getElem?_eq_some_iff.1 e2).1)
   exact ⟨g, vs, k1, k2, k5, k6⟩
  ·obtain ⟨o1, e1, -⟩ := (hAs A hA).1.al
   obtain ⟨o2, e2, -⟩ := (hAs A' hA').1.al
   exact hDV A hA A' hA' hne (hX _ (Array.getElem?_eq_some_iff.1 e1).1) (hX _ (Array.getElem?_eq_some_iff.1 e2).1)
theorem Pg.form {w : World} {v : Value} {P : Option (Nat × Nat)} (h : Pg w v P) : ∃ t b d, v = .agg #[.bool t, b, d] ∧ b.oneCell' = true ∧ d.oneCell' = true := by
 rcases P with _ | ⟨x, y⟩
 ·obtain ⟨a, b, rfl, h1, h2⟩ := h
  exact ⟨_, _, _, rfl, h1, h2⟩
 ·obtain ⟨a, b, rfl, ⟨xs, A, n, c, rfl, _⟩, ys, A', n', c', rfl, _⟩ := h
  exact ⟨_, _, _, rfl, rfl, rfl⟩
theorem Spc.rp_form {P : Option (Nat × Nat)} (v : Value) (V : World) (h : (Spc.rp P).P v V) : ∃ vs : List Value, v = .agg vs.toArray ∧ vs.length = 3 ∧ Ones vs := by
 obtain ⟨t, A, n, c, A', n', c', rfl⟩ := Rp.three h
 exact ⟨[.bool t, .slice A n c, .slice A' n' c'], rfl, rfl, ones3 rfl rfl rfl⟩
theorem Spc.r3_form {S1 S2 : Spc} (v : Value) (V : World) (h : (Spc.r3 S1 S2).P v V) : ∃ vs : List Value, v = .agg vs.toArray ∧ vs.length = 3 ∧ Ones vs := by
 obtain ⟨a, b, rfl, ⟨-, A, n, c, rfl⟩, -, A', n', c', rfl⟩ := h
 exact ⟨[.bool false, .slice A n c, .slice A' n' c'], rfl, rfl, ones3 rfl rfl rfl⟩
theorem agg3 {vs : List Value} {a b d : Value} (h : Value.agg vs.toArray = .agg #[a, b, d]) : vs = [a, b, d] := by
 injection h with h
 have := congrArg Array.toList h
 simpa using this
end Go.Proofs.YtbejcollbkeedaaGreat
