/- Parts of one proof, joined: Tree, CuA, CuB, TreeN, CuC, CuD, Bv, Ha, CvA, CvB, CvC, CvD, CvE, NextM, CvN, CvP, CvK, CvZ, CuS. -/
import Derived.Test.YtbejcollbkeedaaGreatPileM5
import Derived.Test.YtbejcollbkeedaaGreatPileM2
import Derived.Laws.AppendOwnNone
import Derived.Laws.BitsAll
import Derived.Laws.ResultCell
set_option linter.unusedVariables false
set_option linter.unusedSimpArgs false
set_option linter.unusedSectionVars false
set_option maxRecDepth 100000
set_option maxHeartbeats 8000000
open Go.Lib (hid)
namespace Go.Proofs.YtbejcollbkeedaaGreat
open Go.RowKit Go.Shelf
def readsB (o : Oper) (t : Nat) : Bool := match usesW o.op with
 | some l => l.any fun x => match x with | .tmp t' => t' == t | _ => false
 | none => false
theorem tree_reads {ops : Array Oper} {keys : List Nat} {a a' : Act} {L : Array Bool} {b : Nat → Value} (hdep : depsW ops keys [] = true) (hon : onlyB ops keys = true) (hsz : keys.all (fun t => decide (t < a.tmps.size)) = true)
  (hold : ∀ t, (∀ (i : Nat) (oi : Oper), ops[i]? = some oi → L.getD i false = true → oi.dst ≠ some t) → a'.tmps.getD t undef = a.tmps.getD t undef)
  (hnew : ∀ (j : Nat) (oj : Oper) t, ops[j]? = some oj → oj.dst = some t → L.getD j false = true → t < a.tmps.size → a'.tmps.getD t undef = b j)
  {i : Nat} {o : Oper} (ho : ops[i]? = some o) (hde : ∀ e ∈ o.after, Region.binds .any e = true → L.getD e.on false = true) :
  o.guard = none ∧ (∀ t, keys.contains t = false → a'.eval (.tmp t) = a.eval (.tmp t)) ∧
   ∀ t, readsB o t = true → keys.contains t = true → ∃ (j : Nat) (oj : Oper), ops[j]? = some oj ∧ oj.dst = some t ∧ L.getD j false = true ∧ a'.eval (.tmp t) = b j := by
 have his : i < ops.size := (Array.getElem?_eq_some_iff.1 ho).1
 simp only [depsW, List.all_eq_true, List.mem_range] at hdep
 have h2 := hdep i his
 rw [ho] at h2
 simp only [Bool.and_eq_true] at h2
 refine ⟨by simpa using h2.1.1, fun t hl => ?_, fun t hr hl => ?_⟩
 ·have e1 : a.eval (.tmp t) = a.tmps.getD t undef := by simp [Act.eval]
  have e2 : a'.eval (.tmp t) = a'.tmps.getD t undef := by simp [Act.eval]
  rw [e1, e2]
  refine hold t fun j oj hj hLj e => ?_
  have h4 := hdep j (Array.getElem?_eq_some_iff.1 hj).1
  rw [hj] at h4
  simp only [Bool.and_eq_true, e] at h4
  have h5 := h4.1.2
  rw [hl] at h5
  simp at h5
 ·unfold readsB at hr
  cases hu : usesW o.op with
  | none => rw [hu] at hr; cases hr
  | some l =>
   rw [hu] at hr h2
   obtain ⟨x, hx, hxe⟩ := List.any_eq_true.1 hr
   have h3 := List.all_eq_true.1 h2.2 x hx
   cases x with
   | tmp t' =>
    obtain rfl : t' = t := by simpa using hxe
    simp only [hl, cond_true] at h3
    have h5 := List.all_eq_true.1 hon t' (by simpa using hl)
    rw [List.any_eq_true] at h5
    obtain ⟨j, hj, h6⟩ := h5
    rw [List.mem_range] at hj
    have hoj : ops[j]? = some ops[j] := Array.getElem?_eq_getElem hj
    rw [hoj] at h6
    simp only [Option.bind_some] at h6
    cases hdj : ops[j].dst with
    | none => rw [hdj] at h6; cases h6
    | some t2 =>
     rw [hdj] at h6
     obtain rfl : t2 = t' := by simpa using h6
     have h7 := List.all_eq_true.1 h3 j (List.mem_range.2 hj)
     rw [hoj] at h7
     simp only [Option.bind_some, hdj, bne_self_eq_false, Bool.false_or] at h7
     obtain ⟨e, he, he2⟩ := Array.any_eq_true'.1 h7
     rw [Bool.and_eq_true, beq_iff_eq] at he2
     have hLj := hde e he he2.2
     rw [he2.1] at hLj
     have htl : t2 < a.tmps.size := by
      have := List.all_eq_true.1 hsz t2 (by simpa using hl)
      simpa using this
     refine ⟨j, _, hoj, hdj, hLj, ?_⟩
     rw [← hnew j _ t2 hoj hdj hLj htl]
     simp [Act.eval]
   | _ => cases hxe
def TreeOk (F : Fence) (n : Nat) (P : Program) (I : World → Prop) (St : World → World → Prop) (Pd : Nat → Value → World → Prop) (Pn : World → Prop) (a' : Act) (V : World) (o : Oper) : Prop :=
 (∀ c, o.op ≠ .defer c) ∧ (∀ f, o.about P V a'.eval = some f → F.fn f) ∧
  ((∃ v V', ((execOp a'.eval o).run P V = .ok (.value v) V' ∨ (execOp a'.eval o).run P V = .ok .skip V' ∧ v = undef) ∧ I V' ∧ St V V' ∧ (∀ t, o.dst = some t → Pd t v V') ∧ (o.dst = none → Pn V')) ∨
   ∃ f args, (execOp a'.eval o).run P V = .ok (.enter f args) V ∧ CallsIn F (n - 1) P f args V fun e w' => ∃ v, e = .returned v ∧ I w' ∧ St V w' ∧ (∀ t, o.dst = some t → Pd t v w') ∧ (o.dst = none → Pn w'))
theorem getD_set_ne (L : Array Bool) {i j : Nat} (h : i ≠ j) : (L.setIfInBounds i true).getD j false = L.getD j false := by
 simp only [Array.getD_eq_getD_getElem?]
 rw [Array.getElem?_setIfInBounds_ne h]
theorem getD_rep (n i : Nat) : (Array.replicate n false).getD i false = false := by
 rw [Array.getD_eq_getD_getElem?, Array.getElem?_replicate]; split <;> rfl
theorem wpIn_region_tree {F : Fence} {n : Nat} {P : Program} {id : Nat} {ops : Array Oper} {Q : Exit → Act → World → Prop} {a : Act} {w : World} (hF : F.depth = none) (hm : P.follows .mixedOrders = true)
  (keys : List Nat) (hd : distinctB ops = true) (hdep : depsW ops keys [] = true) (hon : onlyB ops keys = true) (hord : orderedB ops = true) (hsz : keys.all (fun t => decide (t < a.tmps.size)) = true)
  (I : World → Prop) (hI : I w.drew) (St : Nat → World → World → Prop) (Pd : Nat → Value → World → Prop) (hmono : ∀ i V V', I V → I V' → St i V V' → ∀ t v, Pd t v V → Pd t v V')
  (Pn : Nat → World → Prop) (hmonon : ∀ i V V', I V → I V' → St i V V' → ∀ j, j ≠ i → Pn j V → Pn j V')
  (hops : ∀ (i : Nat) (o : Oper) (a' : Act) (V : World), I V → ops[i]? = some o → (∀ t, keys.contains t = false → a'.eval (.tmp t) = a.eval (.tmp t)) → (∀ t, readsB o t = true → keys.contains t = true → Pd t (a'.eval (.tmp t)) V) → TreeOk F n P I (St i) Pd (Pn i) a' V o)
  (hend : ∀ (vals : Nat → Value) V, I V → (∀ (i t : Nat) (o : Oper), ops[i]? = some o → o.dst = some t → Pd t (vals i) V) → (∀ (i : Nat) (o : Oper), ops[i]? = some o → o.dst = none → Pn i V) →
   Q .normal { tmps := wrote ops vals (Array.replicate ops.size true) a.tmps ops.size, defers := a.defers } V) : (Code.region id ops true).wpIn F n P Q a w := by
 have hd' := distinct_of hd
 refine wpIn_region_relH hm hd' (fun b : Nat → Value => b) (fun b L V => I V ∧ (∀ (j t : Nat) (o : Oper), ops[j]? = some o → o.dst = some t → L.getD j false = true → Pd t (b j) V) ∧
  ∀ (j : Nat) (o : Oper), ops[j]? = some o → o.dst = none → L.getD j false = true → Pn j V) (fun _ => undef) ⟨hI, ?_, ?_⟩ ?_ ?_ (acyclic_of hord)
 ·intro j t o _ _ hL
  rw [getD_rep] at hL
  cases hL
 ·intro j o _ _ hL
  rw [getD_rep] at hL
  cases hL
 ·rintro b L a' V ⟨hIV, hPV, hNV⟩ hLs hdf hcl hold hnew i hi o ho K hK
  obtain ⟨h1, o2, ho2, hde⟩ := mem_ready.1 hi
  obtain rfl : o = o2 := Option.some.inj (ho.symm.trans ho2)
  have hnl := unlisted h1
  obtain ⟨hg, hev, hrd⟩ := tree_reads hdep hon hsz hold hnew ho hde
  have hrd' : ∀ t, readsB o t = true → keys.contains t = true → Pd t (a'.eval (.tmp t)) V := by
   intro t h2 h3
   obtain ⟨j, oj, hj, hjd, hjL, e⟩ := hrd t h2 h3
   rw [e]
   exact hPV j t oj hj hjd hjL
  obtain ⟨hdef, hab, hrun⟩ := hops i o a' V hIV ho hev hrd'
  have hnext : ∀ v V', I V' → St i V V' → (∀ t, o.dst = some t → Pd t v V') → (o.dst = none → Pn i V') → K (a'.put o.dst v) V' := by
   intro v V' hI' hB hP hN
   have hk := hK (fun j => if j = i then v else b j) V' (fun j hj => by
    rw [if_neg]
    rintro rfl
    rw [hnl] at hj; cases hj) ⟨hI', fun j t oj hj hjd hjL => by
     by_cases hji : j = i
     ·subst hji
      obtain rfl : o = oj := Option.some.inj (ho.symm.trans hj)
      simp only [if_true]
      exact hP t hjd
     ·rw [getD_set_ne L (fun h => hji h.symm)] at hjL
      simp only [if_neg hji]
      exact hmono i V V' hIV hI' hB t _ (hPV j t oj hj hjd hjL), fun j oj hj hjd hjL => by
     by_cases hji : j = i
     ·subst hji
      obtain rfl : o = oj := Option.some.inj (ho.symm.trans hj)
      exact hN hjd
     ·rw [getD_set_ne L (fun h => hji h.symm)] at hjL
      exact hmonon i V V' hIV hI' hB j hji (hNV j oj hj hjd hjL)⟩
   simpa using hk
  rcases hrun with ⟨v, V', hrun, hI', hB, hP, hN⟩ | ⟨f, args, hrun, hcall⟩
  ·rcases hrun with hrun | ⟨hrun, rfl⟩
   ·exact in_value ho hg hdef hab hrun (hnext v V' hI' hB hP hN)
   ·exact in_skip ho hg hdef hab hrun (hnext undef V' hI' hB hP hN)
  ·refine in_call_any ho hg hdef hF hab hrun (hcall.mono ?_)
   rintro e w' ⟨v, rfl, hI', hB, hP, hN⟩
   exact ⟨v, rfl, hnext v w' hI' hB hP hN⟩
 ·rintro b L V ⟨hIV, hPV, hNV⟩ hL
  exact hend b V hIV (fun i t o hi hid => hPV i t o hi hid (hL i (Array.getElem?_eq_some_iff.1 hi).1)) fun i o hi hid => hNV i o hi hid (hL i (Array.getElem?_eq_some_iff.1 hi).1)
end Go.Proofs.YtbejcollbkeedaaGreat
namespace Go.Proofs.YtbejcollbkeedaaGreat
open Go.RowKit
def Nu (w : World) (v : Value) (k : Nat) : Prop := ∃ xs A n c, v = .slice A n c ∧ Sl w w.heap.size A n c xs ∧ Nm b64 xs k ∧ n ≤ 64
theorem Nu.gu {w : World} {v : Value} {k : Nat} (h : Nu w v k) : NumR w 64 k v := by
 obtain ⟨xs, A, n, c, rfl, hs, hn, hl⟩ := h
 exact ⟨xs, A, n, c, rfl, hs, hn.1, hn.2.2, hl⟩
theorem Nu.later {w w' : World} {v : Value} {k : Nat} (h : Nu w v k) (hb : Below w.heap.size w w') : Nu w' v k := by
 obtain ⟨xs, A, n, c, rfl, hs, hn, hl⟩ := h
 exact ⟨xs, A, n, c, rfl, hs.later hb (Nat.le_refl _), hn, hl⟩
theorem Nu.of {w : World} {n c k : Nat} {A : Option Addr} {xs : List Nat} (hs : Sl w w.heap.size A n c xs) (hn : Nm b64 xs k) (hk : k < b64 ^ 64) : Nu w (.slice A n c) k :=
 ⟨xs, A, n, c, rfl, hs, hn, by rw [hs.len]; exact hn.length_le (by decide) hk⟩
theorem Nu.nil (w : World) : Nu w (.slice none 0 0) 0 :=
 ⟨[], none, 0, 0, rfl, Sl.nil _ _ _ (by omega), ⟨fun x hx => (by cases hx), fun x hx => (by cases hx), rfl⟩, by omega⟩
def RetU (w : World) (k : Nat) (e : Ending) (w' : World) : Prop := ∃ v, e = .returned v ∧ Nu w' v k ∧ Below w.heap.size w w'
def RetUB (w : World) (k : Nat) (e : Ending) (w' : World) : Prop := ∃ v, e = .returned (.tuple #[v, .bool true]) ∧ Nu w' v k ∧ Below w.heap.size w w'
theorem NumR.lt {w : World} {K p : Nat} {v : Value} (h : NumR w K p v) : p < b64 ^ K := by
 obtain ⟨xs, A, n, c, rfl, hs, hd, hv, hl⟩ := h
 have h1 := V_lt xs hd
 rw [hv, ← hs.len] at h1
 exact Nat.lt_of_lt_of_le h1 (Nat.pow_le_pow_right (by decide) hl)
theorem ladd_u (w : World) (a b : Value) (x y : Nat) (ha : NumR w 64 x a) (hb : NumR w 64 y b) (hl : x + y < b64 ^ 64) :
  Calls Tryz.prog 76 #[a, b] w fun e w' => RetU w (x + y) e w' := by
 obtain ⟨xs, A, n, c, rfl, hs, hd, rfl, hn⟩ := ha
 obtain ⟨ys, A2, n2, c2, rfl, hs2, hd2, rfl, hn2⟩ := hb
 refine (ladd_any w _ (Nat.le_refl _) _ _ _ _ hs _ _ _ _ hs2 hd hd2 (by omega) (by omega)).mono ?_
 rintro e w' ⟨zs, hz, A3, n3, c3, rfl, hs3, hB⟩
 exact ⟨_, rfl, Nu.of hs3 hz hl, hB⟩
theorem lsub_u (w : World) (a b : Value) (x y : Nat) (ha : NumR w 64 x a) (hb : NumR w 64 y b) (hle : y ≤ x) :
  Calls Tryz.prog 75 #[a, b] w fun e w' => RetUB w (x - y) e w' := by
 have hl := ha.lt
 obtain ⟨xs, A, n, c, rfl, hs, hd, rfl, hn⟩ := ha
 obtain ⟨ys, A2, n2, c2, rfl, hs2, hd2, rfl, hn2⟩ := hb
 refine (lsub_yes w _ _ _ _ hs _ _ _ _ hs2 hd hd2 (by omega) hle).mono ?_
 rintro e w' ⟨zs, A3, n3, c3, hz, rfl, hs3, hB⟩
 exact ⟨_, rfl, Nu.of hs3 hz (by omega), hB⟩
theorem lsub_u_no (w : World) (a b : Value) (x y : Nat) (ha : NumR w 64 x a) (hb : NumR w 64 y b) (hlt : x < y) :
  Calls Tryz.prog 75 #[a, b] w fun e w' => e = .returned (.tuple #[.slice none 0 0, .bool false]) ∧ Below w.heap.size w w' := by
 obtain ⟨xs, A, n, c, rfl, hs, hd, rfl, hn⟩ := ha
 obtain ⟨ys, A2, n2, c2, rfl, hs2, hd2, rfl, hn2⟩ := hb
 exact lsub_no w _ _ _ _ hs _ _ _ _ hs2 hd hd2 hlt
theorem lcmp_u (w : World) (a b : Value) (x y K K2 : Nat) (ha : NumR w K x a) (hb : NumR w K2 y b) :
  Calls Tryz.prog 79 #[a, b] w fun e w' => RetV w (.int .i64 (ncmp x y)) e w' := by
 obtain ⟨xs, A, n, c, rfl, hs, hd, rfl, hn⟩ := ha
 obtain ⟨ys, A2, n2, c2, rfl, hs2, hd2, rfl, hn2⟩ := hb
 exact lcmp_any w _ _ _ _ hs _ _ _ _ hs2 hd hd2
theorem of_u (x : Nat) (hx : x < b64) (w : World) : Calls Tryz.prog 73 #[.int .u64 x] w fun e w' => RetU w x e w' := by
 refine (of_any x hx w).mono ?_
 rintro e w' ⟨zs, hz, A3, n3, c3, rfl, hs3, hB⟩
 exact ⟨_, rfl, Nu.of hs3 hz (Nat.lt_of_lt_of_le hx (by decide +kernel)), hB⟩
theorem norm_u (w : World) (a : Value) (x : Nat) (ha : NumR w 64 x a) : Calls Tryz.prog 43 #[a] w fun e w' => RetU w x e w' := by
 have hl := ha.lt
 obtain ⟨xs, A, n, c, rfl, hs, hd, rfl, hn⟩ := ha
 refine (norm_any w _ _ _ _ _ hs hd (by omega)).mono ?_
 rintro e w' ⟨zs, hz, A3, n3, c3, rfl, hs3, hB⟩
 exact ⟨_, rfl, Nu.of hs3 hz hl, hB⟩
theorem b64_64 : b64 ^ 64 = 2 ^ 4096 := by decide +kernel
theorem not_lg {x : Nat} (h : x < b64 ^ 64) : ¬ Lg 4096 x := by
 unfold Lg
 rw [b64_64] at h
 omega
theorem mmul_u (w : World) (a b m : Value) (x y p : Nat) (ha : NumR w 64 x a) (hb : NumR w 64 y b) (hm : NumR w 64 p m) (hp : 0 < p) :
  Calls Tryz.prog 91 #[a, b, m] w fun e w' => RetUB w (x * y % p) e w' := by
 have hl := ha.lt
 have hl2 := hb.lt
 have hl3 := hm.lt
 obtain ⟨xs, A, n, c, rfl, hs, hd, rfl, hn⟩ := ha
 obtain ⟨ys, A2, n2, c2, rfl, hs2, hd2, rfl, hn2⟩ := hb
 obtain ⟨zs, A3, n3, c3, rfl, hs3, hd3, rfl, hn3⟩ := hm
 refine (mmul_any w _ _ _ _ hs _ _ _ _ hs2 _ _ _ _ hs3 hd hd2 hd3 (by omega) (by omega) (by omega) _ _ _ rfl rfl rfl).mono ?_
 rintro e w' ⟨b, A4, n4, c4, r, rfl, hb, -, hr, hs4, hB⟩
 have : b = true := hb.2 ⟨not_lg hl, not_lg hl2, not_lg hl3, by omega⟩
 subst this
 exact ⟨_, rfl, Nu.of hs4 (hr rfl) (Nat.lt_trans (Nat.mod_lt _ hp) hl3), hB⟩
theorem mod_u (w : World) (a m : Value) (x p : Nat) (ha : NumR w 64 x a) (hm : NumR w 64 p m) (hp : 0 < p) :
  Calls Tryz.prog 54 #[a, m] w fun e w' => RetUB w (x % p) e w' := by
 have hl := ha.lt
 have hl3 := hm.lt
 obtain ⟨xs, A, n, c, rfl, hs, hd, rfl, hn⟩ := ha
 obtain ⟨zs, A3, n3, c3, rfl, hs3, hd3, rfl, hn3⟩ := hm
 refine (mod_any w _ _ _ _ hs _ _ _ _ hs3 hd hd3 (by omega) (by omega) _ _ rfl rfl).mono ?_
 rintro e w' ⟨b, A4, n4, c4, r, rfl, hb, -, hr, hs4, hB⟩
 have : b = true := hb.2 ⟨not_lg hl, not_lg hl3, by omega⟩
 subst this
 exact ⟨_, rfl, Nu.of hs4 (hr rfl) (Nat.lt_trans (Nat.mod_lt _ hp) hl3), hB⟩
theorem minv_u (w : World) (a m : Value) (x p : Nat) (ha : NumR w 64 x a) (hm : NumR w 64 p m) (hp : 1 < p) (hg : Nat.gcd p x = 1) :
  Calls Tryz.prog 90 #[a, m] w fun e w' => ∃ R, R < p ∧ x * R % p = 1 ∧ RetUB w R e w' := by
 have hl := ha.lt
 have hl3 := hm.lt
 obtain ⟨xs, A, n, c, rfl, hs, hd, rfl, hn⟩ := ha
 obtain ⟨zs, A3, n3, c3, rfl, hs3, hd3, rfl, hn3⟩ := hm
 refine (inverse_any w _ _ _ _ hs _ _ _ _ hs3 hd hd3 64 (by omega) (by omega) (by omega) _ _ rfl rfl).mono ?_
 rintro e w' ⟨b, A4, n4, c4, r, rfl, hb, -, hr, hs4, hB⟩
 have : b = true := hb.2 ⟨not_lg hl, not_lg hl3, hp, hg⟩
 subst this
 obtain ⟨R, hR, hlt, he⟩ := hr rfl
 exact ⟨R, hlt, he, _, rfl, Nu.of hs4 hR (Nat.lt_trans hlt hl3), hB⟩
def sumN (p a b : Nat) : Nat := if p ≤ a + b then a + b - p else a + b
def difN (p a b : Nat) : Nat := if b ≤ a then a - b else a + p - b
theorem sumN_lt {p a b : Nat} (ha : a < p) (hb : b < p) : sumN p a b < p := by unfold sumN; split <;> omega
theorem difN_lt {p a b : Nat} (ha : a < p) (hb : b < p) : difN p a b < p := by unfold difN; split <;> omega
abbrev Fd (m : Value) : Value := .agg #[m]
theorem fd_new (w : World) (m : Value) : Below w.heap.size w (w.alloc (.cells #[m] 84)) ∧ (w.alloc (.cells #[m] 84)).cell? ⟨w.heap.size, 0, none⟩ = some m ∧ (w.alloc (.cells #[m] 84)).heap.size = w.heap.size + 1 :=
 ⟨(Below.refl _ w).alloc (Nat.le_refl _) _, cell_new w _ _ rfl, by simp⟩
theorem fsum_any (w : World) (m a b : Value) (p x y : Nat) (hm : NumR w 64 p m) (ha : NumR w 64 x a) (hb : NumR w 64 y b) (hl : x + y < b64 ^ 64) :
  Calls Tryz.prog 72 #[Fd m, a, b] w fun e w' => RetU w (sumN p x y) e w' := by
 obtain ⟨hba, hc0, hsz⟩ := fd_new w m
 have had := ladd_u (w.alloc (.cells #[m] 84)) a b x y (ha.later hba) (hb.later hba) hl
 have HAD := hid had
 have HM := hid (hm.later hba)
 have HL := hid hl
 clear had hm ha hb hl
 go_enter Tryz.func72, Tryz.ntmps72
 go_wp2_with fail
 refine HAD.out.mono ?_
 rintro e w1 ⟨s, rfl, hs, hB⟩
 have hc1 : w1.cell? ⟨w.heap.size, 0, none⟩ = some m := (hB.cell (by rw [hsz]; exact Nat.lt_succ_self _)).trans hc0
 have HS := hid hs
 have hb1 := hba.trans (hB.mono hba.size)
 have hm1 := HM.out.later hB
 by_cases h : p ≤ x + y
 ·have HV := hid (show sumN p x y = x + y - p from if_pos h)
  have HSU := hid (lsub_u w1 s m (x + y) p hs.gu hm1 h)
  clear hs hm1 hc0 hsz h hB
  go_wp2_with fail
  refine HSU.out.mono ?_
  rintro e w2 ⟨v, rfl, hv, hB2⟩
  have HVV := hid hv
  clear hv
  go_wp2
  go_ret
  rw [HV.out]
  exact ⟨_, rfl, HVV.out, hb1.trans (hB2.mono hb1.size)⟩
 ·have HV := hid (show sumN p x y = x + y from if_neg h)
  have HSU := hid (lsub_u_no w1 s m (x + y) p hs.gu hm1 (by omega))
  clear hs hm1 hc0 hsz h hB
  go_wp2_with fail
  refine HSU.out.mono ?_
  rintro e w2 ⟨rfl, hB2⟩
  go_wp2
  go_ret
  rw [HV.out]
  exact ⟨_, rfl, HS.out.later hB2, hb1.trans (hB2.mono hb1.size)⟩
theorem fdif_any (w : World) (m a b : Value) (p x y : Nat) (hm : NumR w 64 p m) (ha : NumR w 64 x a) (hb : NumR w 64 y b) (hl : x + p < b64 ^ 64) (hy : y ≤ x + p) :
  Calls Tryz.prog 44 #[Fd m, a, b] w fun e w' => RetU w (difN p x y) e w' := by
 obtain ⟨hba, hc0, hsz⟩ := fd_new w m
 by_cases h : y ≤ x
 ·have HV := hid (show difN p x y = x - y from if_pos h)
  have HSU := hid (lsub_u (w.alloc (.cells #[m] 84)) a b x y (ha.later hba) (hb.later hba) h)
  clear hm ha hb hl hc0 hsz h hy
  go_enter Tryz.func44, Tryz.ntmps44
  go_wp2_with fail
  refine HSU.out.mono ?_
  rintro e w1 ⟨v, rfl, hv, hB⟩
  have HVV := hid hv
  clear hv
  go_wp2
  go_ret
  rw [HV.out]
  exact ⟨_, rfl, HVV.out, hba.trans (hB.mono hba.size)⟩
 ·have HV := hid (show difN p x y = x + p - y from if_neg h)
  have HSU := hid (lsub_u_no (w.alloc (.cells #[m] 84)) a b x y (ha.later hba) (hb.later hba) (by omega))
  have HA := hid (ha.later hba)
  have HB := hid (hb.later hba)
  have HM := hid (hm.later hba)
  have HL := hid hl
  have HY := hid hy
  clear hm ha hb hl h hy
  go_enter Tryz.func44, Tryz.ntmps44
  go_wp2_with fail
  refine HSU.out.mono ?_
  rintro e w1 ⟨rfl, hB⟩
  have hc1 : w1.cell? ⟨w.heap.size, 0, none⟩ = some m := (hB.cell (by rw [hsz]; exact Nat.lt_succ_self _)).trans hc0
  have HAD := hid (ladd_u w1 a m x p (HA.out.later hB) (HM.out.later hB) HL.out)
  have hb1 := hba.trans (hB.mono hba.size)
  have HB1 := hid (HB.out.later hB)
  clear hB hc0 hsz
  go_wp2_with fail
  refine HAD.out.mono ?_
  rintro e w2 ⟨s, rfl, hs, hB2⟩
  have HS2 := hid (lsub_u w2 s b (x + p) y hs.gu (HB1.out.later hB2) HY.out)
  have hb2 := hb1.trans (hB2.mono hb1.size)
  clear hs hB2
  go_wp2_with fail
  refine HS2.out.mono ?_
  rintro e w3 ⟨v, rfl, hv, hB3⟩
  have HVV := hid hv
  clear hv
  go_wp2
  go_ret
  rw [HV.out]
  exact ⟨_, rfl, HVV.out, hb2.trans (hB3.mono hb2.size)⟩
theorem fprod_any (w : World) (m a b : Value) (p x y : Nat) (hm : NumR w 64 p m) (ha : NumR w 64 x a) (hb : NumR w 64 y b) (hp : 0 < p) :
  Calls Tryz.prog 69 #[Fd m, a, b] w fun e w' => RetU w (x * y % p) e w' := by
 obtain ⟨hba, hc0, hsz⟩ := fd_new w m
 have HMU := hid (mmul_u (w.alloc (.cells #[m] 84)) a b m x y p (ha.later hba) (hb.later hba) (hm.later hba) hp)
 clear hm ha hb hp hsz
 go_enter Tryz.func69, Tryz.ntmps69
 go_wp2_with fail
 refine HMU.out.mono ?_
 rintro e w1 ⟨v, rfl, hv, hB⟩
 have HVV := hid hv
 clear hv
 go_wp2
 go_ret
 exact ⟨_, rfl, HVV.out, hba.trans (hB.mono hba.size)⟩
theorem finv_any (w : World) (m a : Value) (p x : Nat) (hm : NumR w 64 p m) (ha : NumR w 64 x a) (hp : 1 < p) (hg : Nat.gcd p x = 1) :
  Calls Tryz.prog 68 #[Fd m, a] w fun e w' => ∃ R, R < p ∧ x * R % p = 1 ∧ RetU w R e w' := by
 obtain ⟨hba, hc0, hsz⟩ := fd_new w m
 have HMU := hid (minv_u (w.alloc (.cells #[m] 84)) a m x p (ha.later hba) (hm.later hba) hp hg)
 clear hm ha hp hsz hg
 go_enter Tryz.func68, Tryz.ntmps68
 go_wp2_with fail
 refine HMU.out.mono ?_
 rintro e w1 ⟨R, hR1, hR2, v, rfl, hv, hB⟩
 have HVV := hid hv
 have HR1 := hid hR1
 have HR2 := hid hR2
 clear hv hR1 hR2
 go_wp2
 go_ret
 exact ⟨R, HR1.out, HR2.out, _, rfl, HVV.out, hba.trans (hB.mono hba.size)⟩
def NoU (V : World) (g : Nat) : Prop := ∀ off (x : Int), V.cell? ⟨g, off, none⟩ ≠ some (.int .u64 x)
def Sb (V V' : World) : Prop := ∃ g, NoU V g ∧ V.grownBy V' (some g)
theorem NoU.new (V : World) {g : Nat} (h : V.heap.size ≤ g) : NoU V g := by
 intro off x hx
 have : V.heap[g]? = none := Array.getElem?_eq_none h
 simp [World.cell?, this] at hx
theorem Sb.of_below {V V' : World} (h : Below V.heap.size V V') : Sb V V' := ⟨V.heap.size, NoU.new V (Nat.le_refl _), ⟨h.os, h.tape, h.output, h.size, fun i hi _ => h.block i hi⟩⟩
theorem cell_grown {V V' : World} {g : Nat} (h : V.grownBy V' (some g)) {p : Addr} (hp : p.block < V.heap.size) (hne : p.block ≠ g) : V'.cell? p = V.cell? p := by
 unfold World.cell?
 rw [h.block p.block hp (fun e => hne (by injection e))]
theorem Sl.sb {V V' : World} {A : Option Addr} {n c : Nat} {xs : List Nat} (h : Sl V V.heap.size A n c xs) (hb : Sb V V') : Sl V' V'.heap.size A n c xs := by
 obtain ⟨g, hg, hgr⟩ := hb
 refine ⟨h.1, h.2.1, h.2.2.1, fun hn => ?_⟩
 obtain ⟨b, off, e, hlt, hc⟩ := h.rd hn
 refine ⟨b, off, e, Nat.lt_of_lt_of_le hlt hgr.size, fun k x hx => ?_⟩
 have h1 := hc k x hx
 rw [cell_grown hgr (by exact hlt) (fun e' => hg (off + k) x (by subst e'; exact h1))]
 exact h1
theorem Nu.sb {w w' : World} {v : Value} {k : Nat} (h : Nu w v k) (hb : Sb w w') : Nu w' v k := by
 obtain ⟨xs, A, n, c, rfl, hs, hn, hl⟩ := h
 exact ⟨xs, A, n, c, rfl, hs.sb hb, hn, hl⟩
theorem NumR.sb {w w' : World} {K p : Nat} {v : Value} (h : NumR w K p v) (hb : Sb w w') : NumR w' K p v := by
 obtain ⟨xs, A, n, c, e, hs, h2, h3, h4⟩ := h
 exact ⟨xs, A, n, c, e, hs.sb hb, h2, h3, h4⟩
structure Spc where
 P : Value → World → Prop
 sb : ∀ v V V', Sb V V' → P v V → P v V'
def Spc.val (c : Value) : Spc := ⟨fun v _ => v = c, fun _ _ _ _ h => h⟩
def Spc.num (k : Nat) : Spc := ⟨fun v V => Nu V v k, fun _ _ _ hb h => h.sb hb⟩
def Spc.any : Spc := ⟨fun _ _ => True, fun _ _ _ _ h => h⟩
def spcAt (L : List (Nat × Spc)) (t : Nat) (v : Value) (V : World) : Prop := match L.lookup t with
 | some s => s.P v V
 | none => True
theorem spcAt.sb {L : List (Nat × Spc)} {t : Nat} {v : Value} {V V' : World} (hb : Sb V V') (h : spcAt L t v V) : spcAt L t v V' := by
 unfold spcAt at h ⊢
 cases hl : L.lookup t with
 | none => trivial
 | some s =>
  rw [hl] at h
  exact s.sb v V V' hb h
def OpOk (F : Fence) (n : Nat) (P : Program) (L : List (Nat × Spc)) (a' : Act) (V : World) (o : Oper) : Prop :=
 (∀ c, o.op ≠ .defer c) ∧ (∀ f, o.about P V a'.eval = some f → F.fn f) ∧ o.dst ≠ none ∧
  ((∃ v V', (execOp a'.eval o).run P V = .ok (.value v) V' ∧ Below V.heap.size V V' ∧ ∀ t, o.dst = some t → spcAt L t v V') ∨
   ∃ f args, (execOp a'.eval o).run P V = .ok (.enter f args) V ∧ CallsIn F (n - 1) P f args V fun e w' => ∃ v, e = .returned v ∧ Below V.heap.size V w' ∧ ∀ t, o.dst = some t → spcAt L t v w')
theorem wpIn_region_num0 {F : Fence} {n : Nat} {P : Program} {id : Nat} {ops : Array Oper} {Q : Exit → Act → World → Prop} {a : Act} {w : World} (hF : F.depth = none) (hm : P.follows .mixedOrders = true)
  (L : List (Nat × Spc)) (hd : distinctB ops = true) (hdep : depsW ops (L.map (·.1)) [] = true) (hon : onlyB ops (L.map (·.1)) = true) (hord : orderedB ops = true) (hsz : (L.map (·.1)).all (fun t => decide (t < a.tmps.size)) = true)
  (hops : ∀ (i : Nat) (o : Oper) (a' : Act) (V : World), Below w.heap.size w V → ops[i]? = some o → (∀ t, (L.map (·.1)).contains t = false → a'.eval (.tmp t) = a.eval (.tmp t)) → (∀ t, readsB o t = true → (L.map (·.1)).contains t = true → spcAt L t (a'.eval (.tmp t)) V) → OpOk F n P L a' V o)
  (hend : ∀ (vals : Nat → Value) V, Below w.heap.size w V → (∀ (i t : Nat) (o : Oper), ops[i]? = some o → o.dst = some t → spcAt L t (vals i) V) →
   Q .normal { tmps := wrote ops vals (Array.replicate ops.size true) a.tmps ops.size, defers := a.defers } V) : (Code.region id ops true).wpIn F n P Q a w := by
 refine wpIn_region_tree hF hm (L.map (·.1)) hd hdep hon hord hsz (fun V => Below w.heap.size w V) (below_drewN (Below.refl _ w) 1) (fun _ V V' => Below V.heap.size V V') (spcAt L) (fun _ V V' _ _ hb t v h => h.sb (Sb.of_below hb)) (fun _ _ => True) (fun _ _ _ _ _ _ _ _ _ => trivial) ?_ ?_
 ·intro i o a' V hI ho hev hrd
  obtain ⟨h1, h2, h3, h4⟩ := hops i o a' V hI ho hev hrd
  refine ⟨h1, h2, ?_⟩
  rcases h4 with ⟨v, V', hr, hB, hP⟩ | ⟨f, args, hr, hc⟩
  ·exact .inl ⟨v, V', .inl hr, hI.trans (hB.mono hI.size), hB, hP, fun h => absurd h h3⟩
  ·refine .inr ⟨f, args, hr, hc.mono ?_⟩
   rintro e w' ⟨v, rfl, hB, hP⟩
   exact ⟨v, rfl, hI.trans (hB.mono hI.size), hB, hP, fun h => absurd h h3⟩
 ·intro vals V hI hP _
  exact hend vals V hI hP
def Shp (t : TypeId) (n : Nat) (V : World) (g : Nat) : Prop := ∃ vs, RowV t V g vs ∧ vs.length = n
theorem wpIn_region_num1 {F : Fence} {n : Nat} {P : Program} {id : Nat} {ops : Array Oper} {Q : Exit → Act → World → Prop} {a : Act} {w : World} (hF : F.depth = none) (hm : P.follows .mixedOrders = true)
  (L : List (Nat × Spc)) (hd : distinctB ops = true) (hdep : depsW ops (L.map (·.1)) [] = true) (hon : onlyB ops (L.map (·.1)) = true) (hord : orderedB ops = true) (hsz : (L.map (·.1)).all (fun t => decide (t < a.tmps.size)) = true)
  (gr s : Nat) (hs0 : ∃ o, ops[s]? = some o ∧ o.dst = none) (hgr : gr < w.heap.size) (hno : NoU w gr) (tr : TypeId) (nr : Nat) (hshp : Shp tr nr w gr) (Ps : World → Prop) (hPs : ∀ V V', gr < V.heap.size → Below V.heap.size V V' → Ps V → Ps V')
  (hops : ∀ (i : Nat) (o : Oper) (a' : Act) (V : World), i ≠ s → w.grownBy V (some gr) → ops[i]? = some o → (∀ t, (L.map (·.1)).contains t = false → a'.eval (.tmp t) = a.eval (.tmp t)) → (∀ t, readsB o t = true → (L.map (·.1)).contains t = true → spcAt L t (a'.eval (.tmp t)) V) → OpOk F n P L a' V o)
  (hs : ∀ (o : Oper) (a' : Act) (V : World), w.grownBy V (some gr) → NoU V gr → Shp tr nr V gr → ops[s]? = some o → (∀ t, (L.map (·.1)).contains t = false → a'.eval (.tmp t) = a.eval (.tmp t)) → (∀ t, readsB o t = true → (L.map (·.1)).contains t = true → spcAt L t (a'.eval (.tmp t)) V) →
   (∀ c, o.op ≠ .defer c) ∧ (∀ f, o.about P V a'.eval = some f → F.fn f) ∧ o.dst = none ∧ ∃ V', (execOp a'.eval o).run P V = .ok .skip V' ∧ V.grownBy V' (some gr) ∧ NoU V' gr ∧ Shp tr nr V' gr ∧ Ps V')
  (hend : ∀ (vals : Nat → Value) V, w.grownBy V (some gr) → NoU V gr → (∀ (i t : Nat) (o : Oper), ops[i]? = some o → o.dst = some t → spcAt L t (vals i) V) → Ps V →
   Q .normal { tmps := wrote ops vals (Array.replicate ops.size true) a.tmps ops.size, defers := a.defers } V) : (Code.region id ops true).wpIn F n P Q a w := by
 have hgt : ∀ {A B C : World}, A.grownBy B (some gr) → B.grownBy C (some gr) → A.grownBy C (some gr) := fun h k =>
  ⟨k.os.trans h.os, k.tape.trans h.tape, k.output.trans h.output, Nat.le_trans h.size k.size, fun i hi hn => (k.block i (Nat.lt_of_lt_of_le hi h.size) hn).trans (h.block i hi hn)⟩
 have hbg : ∀ {A B : World}, Below A.heap.size A B → A.grownBy B (some gr) := fun h => ⟨h.os, h.tape, h.output, h.size, fun i hi _ => h.block i hi⟩
 refine wpIn_region_tree hF hm (L.map (·.1)) hd hdep hon hord hsz (fun V => w.grownBy V (some gr) ∧ NoU V gr ∧ Shp tr nr V gr) ⟨hbg (below_drewN (Below.refl _ w) 1), hno, hshp⟩
  (fun i V V' => if i = s then V.grownBy V' (some gr) else Below V.heap.size V V') (spcAt L) ?_ (fun i V => i = s → Ps V) ?_ ?_ ?_
 ·intro i V V' hI _ hb t v h
  refine h.sb ?_
  change (if i = s then _ else _) at hb
  by_cases e : i = s
  ·rw [if_pos e] at hb
   exact ⟨gr, hI.2.1, hb⟩
  ·rw [if_neg e] at hb
   exact Sb.of_below hb
 ·intro i V V' hI _ hb j hj h e
  change (if i = s then _ else _) at hb
  rw [if_neg (fun e' => hj (by rw [e, e']))] at hb
  exact hPs V V' (Nat.lt_of_lt_of_le hgr hI.1.size) hb (h e)
 ·intro i o a' V hI ho hev hrd
  have hgV := Nat.lt_of_lt_of_le hgr hI.1.size
  have hkeep : ∀ V', Below V.heap.size V V' → w.grownBy V' (some gr) ∧ NoU V' gr ∧ Shp tr nr V' gr := fun V' hB => ⟨hgt hI.1 (hbg hB), fun off x hx => hI.2.1 off x (by rw [← hx]; exact (hB.cell (p := ⟨gr, off, none⟩) hgV).symm), by obtain ⟨vs, h1, h2⟩ := hI.2.2; exact ⟨vs, h1.later hB, h2⟩⟩
  by_cases e : i = s
  ·subst e
   obtain ⟨h1, h2, h3, V', hr, hB, hN, hsh, hP⟩ := hs o a' V hI.1 hI.2.1 hI.2.2 ho hev hrd
   exact ⟨h1, h2, .inl ⟨undef, V', .inr ⟨hr, rfl⟩, ⟨hgt hI.1 hB, hN, hsh⟩, (by show (if i = i then _ else _); rw [if_pos rfl]; exact hB), (fun t ht => absurd ht (by rw [h3]; simp)), fun _ _ => hP⟩⟩
  ·obtain ⟨h1, h2, h3, h4⟩ := hops i o a' V e hI.1 ho hev hrd
   refine ⟨h1, h2, ?_⟩
   rcases h4 with ⟨v, V', hr, hB, hP⟩ | ⟨f, args, hr, hc⟩
   ·exact .inl ⟨v, V', .inl hr, hkeep V' hB, (by show (if i = s then _ else _); rw [if_neg e]; exact hB), hP, fun h => absurd h h3⟩
   ·refine .inr ⟨f, args, hr, hc.mono ?_⟩
    rintro e' w' ⟨v, rfl, hB, hP⟩
    exact ⟨v, rfl, hkeep w' hB, (by show (if i = s then _ else _); rw [if_neg e]; exact hB), hP, fun h => absurd h h3⟩
 ·intro vals V hI hP hN
  obtain ⟨o, ho, hd'⟩ := hs0
  exact hend vals V hI.1 hI.2.1 hP (hN s o ho hd' rfl)
theorem ftrip_any (w : World) (m a : Value) (p x : Nat) (hm : NumR w 64 p m) (ha : NumR w 64 x a) (hx : x < p) (hp : p + p < b64 ^ 64) :
  Calls Tryz.prog 71 #[Fd m, a] w fun e w' => RetU w (sumN p (sumN p x x) x) e w' := by
 obtain ⟨hba, hc0, hsz⟩ := fd_new w m
 have hmx : Tryz.prog.follows .mixedOrders = true := by kernel_rfl
 have HA := hid (ha.later hba)
 have HM := hid (hm.later hba)
 have HX := hid hx
 have HP := hid hp
 have HBA := hid hba
 have HC0 := hid hc0
 have HSZ := hid hsz
 clear hm ha hx hp hba hc0 hsz
 go_enter Tryz.func71, Tryz.ntmps71
 go_wp2_with fail
 refine (wpIn_wide (n := 9)).1 (wpIn_region_num0 rfl hmx [(5, .val (Fd m)), (6, .val (Fd m)), (7, .val (a)), (8, .val (a)), (9, .num (sumN p x x)), (10, .val (a)), (11, .num (sumN p (sumN p x x) x)), (4, .num (sumN p (sumN p x x) x))] (by kernel_rfl) (by kernel_rfl) (by kernel_rfl) (by kernel_rfl) (by rfl) ?hops ?hend)
 case hops =>
  intro i o a' V hB ho hev hrd
  have his : i < 8 := by have := (Array.getElem?_eq_some_iff.1 ho).1; simpa using this
  have hMV := HM.out.later hB
  have hAV := HA.out.later hB
  have hcV : V.cell? ⟨w.heap.size, 0, none⟩ = some m := (hB.cell (by rw [HSZ.out]; exact Nat.lt_succ_self _)).trans HC0.out
  have hcase : i = 0 ∨ i = 1 ∨ i = 2 ∨ i = 3 ∨ i = 4 ∨ i = 5 ∨ i = 6 ∨ i = 7 := by omega
  rcases hcase with rfl | rfl | rfl | rfl | rfl | rfl | rfl | rfl
  ·simp at ho
   subst ho
   have r2 := hev 2 rfl
   simp [Act.eval] at r2
   refine ⟨nofun, fun _ _ => trivial, nofun, .inl ⟨Fd m, V, ?_, Below.refl _ _, fun t ht => by cases ht; rfl⟩⟩
   simp [execOp, Act.eval, go_sem, r2, hcV]
  ·simp at ho
   subst ho
   have r2 := hev 2 rfl
   simp [Act.eval] at r2
   refine ⟨nofun, fun _ _ => trivial, nofun, .inl ⟨Fd m, V, ?_, Below.refl _ _, fun t ht => by cases ht; rfl⟩⟩
   simp [execOp, Act.eval, go_sem, r2, hcV]
  ·simp at ho
   subst ho
   have r1 := hev 1 rfl
   simp [Act.eval] at r1
   refine ⟨nofun, fun _ _ => trivial, nofun, .inl ⟨a, V, ?_, Below.refl _ _, fun t ht => by cases ht; rfl⟩⟩
   simp [execOp, Act.eval, go_sem, r1, hcV]
  ·simp at ho
   subst ho
   have r1 := hev 1 rfl
   simp [Act.eval] at r1
   refine ⟨nofun, fun _ _ => trivial, nofun, .inl ⟨a, V, ?_, Below.refl _ _, fun t ht => by cases ht; rfl⟩⟩
   simp [execOp, Act.eval, go_sem, r1, hcV]
  ·simp at ho
   subst ho
   have r6 : a'.eval (.tmp 6) = Fd m := hrd 6 rfl rfl
   simp [Act.eval] at r6
   have r7 : a'.eval (.tmp 7) = a := hrd 7 rfl rfl
   simp [Act.eval] at r7
   have r8 : a'.eval (.tmp 8) = a := hrd 8 rfl rfl
   simp [Act.eval] at r8
   refine ⟨nofun, fun _ _ => trivial, nofun, .inr ⟨72, #[Fd m, a, a], ?_, (callsIn_wide.2 (fsum_any V m a a p x x hMV hAV hAV (by have := HX.out; have := HP.out; omega))).mono ?_⟩⟩
   ·simp [execOp, Act.eval, r6, r7, r8, resolve, invoke, Deferred.ofValue]
   ·rintro e w' ⟨v, rfl, hv, hB2⟩
    exact ⟨_, rfl, hB2, fun t ht => by cases ht; exact hv⟩
  ·simp at ho
   subst ho
   have r1 := hev 1 rfl
   simp [Act.eval] at r1
   refine ⟨nofun, fun _ _ => trivial, nofun, .inl ⟨a, V, ?_, Below.refl _ _, fun t ht => by cases ht; rfl⟩⟩
   simp [execOp, Act.eval, go_sem, r1, hcV]
  ·simp at ho
   subst ho
   have r5 : a'.eval (.tmp 5) = Fd m := hrd 5 rfl rfl
   simp [Act.eval] at r5
   have r9 : Nu V (a'.eval (.tmp 9)) (sumN p x x) := hrd 9 rfl rfl
   have r10 : a'.eval (.tmp 10) = a := hrd 10 rfl rfl
   simp [Act.eval] at r10
   refine ⟨nofun, fun _ _ => trivial, nofun, .inr ⟨72, #[Fd m, a'.eval (.tmp 9), a], ?_, (callsIn_wide.2 (fsum_any V m _ a p (sumN p x x) x hMV r9.gu hAV (by have := HX.out; have := HP.out; have := sumN_lt HX.out HX.out; omega))).mono ?_⟩⟩
   ·simp [execOp, Act.eval, r5, r10, resolve, invoke, Deferred.ofValue]
   ·rintro e w' ⟨v, rfl, hv, hB2⟩
    exact ⟨_, rfl, hB2, fun t ht => by cases ht; exact hv⟩
  ·simp at ho
   subst ho
   have r11 : Nu V (a'.eval (.tmp 11)) (sumN p (sumN p x x) x) := hrd 11 rfl rfl
   refine ⟨nofun, fun _ _ => trivial, nofun, .inl ⟨a'.eval (.tmp 11), V, ?_, Below.refl _ _, fun t ht => by cases ht; exact r11⟩⟩
   simp [execOp]
 case hend =>
  intro vals V hB hP
  have p4 : Nu V (vals 7) (sumN p (sumN p x x) x) := hP 7 4 _ rfl rfl
  have HP4 := hid p4
  clear p4 hP
  simp [wrote, Act.put]
  go_wp2
  go_ret
  exact ⟨_, rfl, HP4.out, HBA.out.trans (hB.mono HBA.out.size)⟩
theorem fcross_any (w : World) (m a1 a2 a3 a4 : Value) (p x1 x2 x3 x4 : Nat) (hm : NumR w 64 p m) (h1 : NumR w 64 x1 a1) (h2 : NumR w 64 x2 a2) (h3 : NumR w 64 x3 a3) (h4 : NumR w 64 x4 a4) (hp : 0 < p ∧ p + p < b64 ^ 64) :
  Calls Tryz.prog 70 #[Fd m, a1, a2, a3, a4] w fun e w' => RetU w (sumN p (x1 * x4 % p) (x2 * x3 % p)) e w' := by
 obtain ⟨hba, hc0, hsz⟩ := fd_new w m
 have hmx : Tryz.prog.follows .mixedOrders = true := by kernel_rfl
 have HA1 := hid (h1.later hba)
 have HA2 := hid (h2.later hba)
 have HA3 := hid (h3.later hba)
 have HA4 := hid (h4.later hba)
 have HM := hid (hm.later hba)
 have HP := hid hp
 have HBA := hid hba
 have HC0 := hid hc0
 have HSZ := hid hsz
 clear hm h1 h2 h3 h4 hp hba hc0 hsz
 go_enter Tryz.func70, Tryz.ntmps70
 go_wp2_with fail
 refine (wpIn_wide (n := 9)).1 (wpIn_region_num0 rfl hmx [(11, .val (Fd m)), (12, .val (Fd m)), (13, .val (a1)), (14, .val (a4)), (15, .num (x1 * x4 % p)), (16, .val (Fd m)), (17, .val (a2)), (18, .val (a3)), (19, .num (x2 * x3 % p)), (20, .num (sumN p (x1 * x4 % p) (x2 * x3 % p))), (10, .num (sumN p (x1 * x4 % p) (x2 * x3 % p)))] (by kernel_rfl) (by kernel_rfl) (by kernel_rfl) (by kernel_rfl) (by rfl) ?hops ?hend)
 case hops =>
  intro i o a' V hB ho hev hrd
  have his : i < 11 := by have := (Array.getElem?_eq_some_iff.1 ho).1; simpa using this
  have hMV := HM.out.later hB
  have h1V := HA1.out.later hB
  have h2V := HA2.out.later hB
  have h3V := HA3.out.later hB
  have h4V := HA4.out.later hB
  have hcV : V.cell? ⟨w.heap.size, 0, none⟩ = some m := (hB.cell (by rw [HSZ.out]; exact Nat.lt_succ_self _)).trans HC0.out
  have hcase : i = 0 ∨ i = 1 ∨ i = 2 ∨ i = 3 ∨ i = 4 ∨ i = 5 ∨ i = 6 ∨ i = 7 ∨ i = 8 ∨ i = 9 ∨ i = 10 := by omega
  rcases hcase with rfl | rfl | rfl | rfl | rfl | rfl | rfl | rfl | rfl | rfl | rfl
  ·simp at ho
   subst ho
   have r5 := hev 5 rfl
   simp [Act.eval] at r5
   refine ⟨nofun, fun _ _ => trivial, nofun, .inl ⟨Fd m, V, ?_, Below.refl _ _, fun t ht => by cases ht; rfl⟩⟩
   simp [execOp, Act.eval, go_sem, r5, hcV]
  ·simp at ho
   subst ho
   have r5 := hev 5 rfl
   simp [Act.eval] at r5
   refine ⟨nofun, fun _ _ => trivial, nofun, .inl ⟨Fd m, V, ?_, Below.refl _ _, fun t ht => by cases ht; rfl⟩⟩
   simp [execOp, Act.eval, go_sem, r5, hcV]
  ·simp at ho
   subst ho
   have r1 := hev 1 rfl
   simp [Act.eval] at r1
   refine ⟨nofun, fun _ _ => trivial, nofun, .inl ⟨a1, V, ?_, Below.refl _ _, fun t ht => by cases ht; rfl⟩⟩
   simp [execOp, Act.eval, go_sem, r1, hcV]
  ·simp at ho
   subst ho
   have r4 := hev 4 rfl
   simp [Act.eval] at r4
   refine ⟨nofun, fun _ _ => trivial, nofun, .inl ⟨a4, V, ?_, Below.refl _ _, fun t ht => by cases ht; rfl⟩⟩
   simp [execOp, Act.eval, go_sem, r4, hcV]
  ·simp at ho
   subst ho
   have r12 : a'.eval (.tmp 12) = Fd m := hrd 12 rfl rfl
   simp [Act.eval] at r12
   have r13 : a'.eval (.tmp 13) = a1 := hrd 13 rfl rfl
   simp [Act.eval] at r13
   have r14 : a'.eval (.tmp 14) = a4 := hrd 14 rfl rfl
   simp [Act.eval] at r14
   refine ⟨nofun, fun _ _ => trivial, nofun, .inr ⟨69, #[Fd m, a1, a4], ?_, (callsIn_wide.2 (fprod_any V m a1 a4 p x1 x4 hMV h1V h4V (by have := HP.out.1; omega))).mono ?_⟩⟩
   ·simp [execOp, Act.eval, r12, r13, r14, resolve, invoke, Deferred.ofValue]
   ·rintro e w' ⟨v, rfl, hv, hB2⟩
    exact ⟨_, rfl, hB2, fun t ht => by cases ht; exact hv⟩
  ·simp at ho
   subst ho
   have r5 := hev 5 rfl
   simp [Act.eval] at r5
   refine ⟨nofun, fun _ _ => trivial, nofun, .inl ⟨Fd m, V, ?_, Below.refl _ _, fun t ht => by cases ht; rfl⟩⟩
   simp [execOp, Act.eval, go_sem, r5, hcV]
  ·simp at ho
   subst ho
   have r2 := hev 2 rfl
   simp [Act.eval] at r2
   refine ⟨nofun, fun _ _ => trivial, nofun, .inl ⟨a2, V, ?_, Below.refl _ _, fun t ht => by cases ht; rfl⟩⟩
   simp [execOp, Act.eval, go_sem, r2, hcV]
  ·simp at ho
   subst ho
   have r3 := hev 3 rfl
   simp [Act.eval] at r3
   refine ⟨nofun, fun _ _ => trivial, nofun, .inl ⟨a3, V, ?_, Below.refl _ _, fun t ht => by cases ht; rfl⟩⟩
   simp [execOp, Act.eval, go_sem, r3, hcV]
  ·simp at ho
   subst ho
   have r16 : a'.eval (.tmp 16) = Fd m := hrd 16 rfl rfl
   simp [Act.eval] at r16
   have r17 : a'.eval (.tmp 17) = a2 := hrd 17 rfl rfl
   simp [Act.eval] at r17
   have r18 : a'.eval (.tmp 18) = a3 := hrd 18 rfl rfl
   simp [Act.eval] at r18
   refine ⟨nofun, fun _ _ => trivial, nofun, .inr ⟨69, #[Fd m, a2, a3], ?_, (callsIn_wide.2 (fprod_any V m a2 a3 p x2 x3 hMV h2V h3V (by have := HP.out.1; omega))).mono ?_⟩⟩
   ·simp [execOp, Act.eval, r16, r17, r18, resolve, invoke, Deferred.ofValue]
   ·rintro e w' ⟨v, rfl, hv, hB2⟩
    exact ⟨_, rfl, hB2, fun t ht => by cases ht; exact hv⟩
  ·simp at ho
   subst ho
   have r11 : a'.eval (.tmp 11) = Fd m := hrd 11 rfl rfl
   simp [Act.eval] at r11
   have r15 : Nu V (a'.eval (.tmp 15)) (x1 * x4 % p) := hrd 15 rfl rfl
   have r19 : Nu V (a'.eval (.tmp 19)) (x2 * x3 % p) := hrd 19 rfl rfl
   refine ⟨nofun, fun _ _ => trivial, nofun, .inr ⟨72, #[Fd m, a'.eval (.tmp 15), a'.eval (.tmp 19)], ?_, (callsIn_wide.2 (fsum_any V m _ _ p _ _ hMV r15.gu r19.gu (by have := HP.out; have := Nat.mod_lt (x1 * x4) HP.out.1; have := Nat.mod_lt (x2 * x3) HP.out.1; omega))).mono ?_⟩⟩
   ·simp [execOp, Act.eval, r11, resolve, invoke, Deferred.ofValue]
   ·rintro e w' ⟨v, rfl, hv, hB2⟩
    exact ⟨_, rfl, hB2, fun t ht => by cases ht; exact hv⟩
  ·simp at ho
   subst ho
   have r20 : Nu V (a'.eval (.tmp 20)) (sumN p (x1 * x4 % p) (x2 * x3 % p)) := hrd 20 rfl rfl
   refine ⟨nofun, fun _ _ => trivial, nofun, .inl ⟨a'.eval (.tmp 20), V, ?_, Below.refl _ _, fun t ht => by cases ht; exact r20⟩⟩
   simp [execOp]
 case hend =>
  intro vals V hB hP
  have p4 : Nu V (vals 10) (sumN p (x1 * x4 % p) (x2 * x3 % p)) := hP 10 10 _ rfl rfl
  have HP4 := hid p4
  clear p4 hP
  simp [wrote, Act.put]
  go_wp2
  go_ret
  exact ⟨_, rfl, HP4.out, HBA.out.trans (hB.mono HBA.out.size)⟩
theorem Tryz.elemU : Elem Tryz.prog 22 63 (.int .u64 0) 8 := ⟨Tryz.underlying22, by kernel_rfl, rfl, rfl, by decide⟩
theorem onesU (xs : List Nat) : ∀ v ∈ xs.map U, v.oneCell' = true := by
 intro v hv
 obtain ⟨x, _, rfl⟩ := List.mem_map.1 hv
 rfl
theorem own_emptyU (w : World) (e : TypeId) : (w.alloc (.cells #[] e (0, 0))).ownsRow w.heap.size e 1 (.slice (some ⟨w.heap.size, 0, none⟩) 0 0) 0 [] :=
 ⟨rfl, .inr ⟨w.heap.size, 0, #[], rfl, Nat.le_refl _, heap_alloc_new w _, Nat.le_refl _, by decide, rfl, rfl⟩⟩
theorem cloneU_any (w : World) (B : Nat) (p : Addr) (n c : Nat) (xs : List Nat) (hs : SlV w B (some p) n c (xs.map U)) (hB : B ≤ w.heap.size) (hn : n ≤ 17592186044416) :
  Calls Tryz.prog 106 #[.slice (some p) n c] w fun e w' => ∃ v, e = .returned v ∧ w'.ownsRow w.heap.size 63 1 v n (xs.map U) ∧ Below w.heap.size w w' := by
 obtain ⟨W1, e1, r1, b1, z1⟩ : ∃ W, w.alloc (.cells #[] 63) = W ∧ RowV 63 W w.heap.size [] ∧ Below w.heap.size w W ∧ W.heap.size = w.heap.size + 1 :=
  ⟨_, rfl, RowV.new w _ [], (Below.refl _ w).alloc (Nat.le_refl _) _, by simp⟩
 have ho := own_emptyU w 63
 rw [e1] at ho
 have hs1 := hs.below (b1.mono hB)
 obtain ⟨g, hg⟩ : ∃ g, w.heap.size = g := ⟨_, rfl⟩
 rw [hg] at ho b1 hB
 have hgz : g ≤ W1.heap.size := by omega
 have HG := hid hg
 have HB := hid b1
 clear hs r1 b1
 have q22 : ∀ (w : World) (a : Option Addr) (n c n' c' : Nat), (binOp .eql 22 (.slice a n c) (.slice none n' c')).run Tryz.prog w = .ok (.bool a.isNone) w := fun w a n c n' c' => Lib.run_eql_slice_nil w _ _ a n c n' c' Tryz.underlying22
 go_enter Tryz.func106, Tryz.ntmps106
 go_wp2_with (at_builtin; refine wlv_append Tryz.elemU rfl _ _ rfl g _ 0 [] rfl ho (some p) n c (xs.map U) rfl (by intro h; cases h) B hs1 (onesU xs) (by omega) hgz ?_; intro v' w2 hown hgr)
 go_ret
 refine ⟨v', rfl, ?_, by rw [HG.out]; exact HB.out.grown hgr hgz (fun k hk => by injection hk with hk; first | omega | exact Nat.le_of_eq hk | exact Nat.le_of_eq hk.symm)⟩
 rw [HG.out]
 simpa using hown
def rvk (n : Nat) (xs : List Nat) : Nat → List Nat
 | 0 => xs
 | k + 1 => ((rvk n xs k).set k ((rvk n xs k).getD (n - 1 - k) 0)).set (n - 1 - k) ((rvk n xs k).getD k 0)
theorem rvk_length (n : Nat) (xs : List Nat) : ∀ k, (rvk n xs k).length = xs.length
 | 0 => rfl
 | k + 1 => by simp [rvk, rvk_length n xs k]
theorem row_at {w : World} {g : Nat} {zs : List Nat} {rest : List Value} (h : RowV 63 w g (zs.map U ++ rest)) {i x : Nat} (hx : zs[i]? = some x) : w.cell? ⟨g, i, none⟩ = some (.int .u64 (x : Int)) := by
 refine h.at_ ?_
 rw [List.getElem?_append_left (by have := (List.getElem?_eq_some_iff.1 hx).1; simpa using this), List.getElem?_map, hx]
 rfl
theorem row_set {w : World} {g : Nat} {zs : List Nat} {rest : List Value} (h : RowV 63 w g (zs.map U ++ rest)) {i : Nat} (hi : i < zs.length) (x : Nat) : RowV 63 (w.setCell ⟨g, i, none⟩ (.int .u64 (x : Int))) g ((zs.set i x).map U ++ rest) := by
 have h2 := h.set i (U x)
 rw [List.set_append_left _ _ (by simpa using hi), ← List.map_set] at h2
 exact h2
theorem grown_set {a w : World} {g : Nat} (h : a.grownBy w (some g)) (i : Nat) (u : Value) : a.grownBy (w.setCell ⟨g, i, none⟩ u) (some g) :=
 ⟨h.os, h.tape, h.output, by simpa [World.setCell] using h.size, fun k hk hn => (Below.heap_setCell _ _ _ _ (fun e => hn (by rw [e]))).trans (h.block k hk hn)⟩
theorem grown_draw {a w : World} {g : Nat} (h : a.grownBy w (some g)) : a.grownBy w.drew (some g) := ⟨h.os, h.tape, h.output, h.size, h.block⟩
theorem revU_any (w : World) (g n c : Nat) (xs : List Nat) (rest : List Value) (hr : RowV 63 w g (xs.map U ++ rest)) (hn : n = xs.length) (hn1 : n ≤ 1000000) :
  Calls Tryz.prog 107 #[.slice (some ⟨g, 0, none⟩) n c] w fun e w' => e = .returned (.tuple #[]) ∧ RowV 63 w' g ((rvk n xs (n / 2)).map U ++ rest) ∧ w.grownBy w' (some g) := by
 have HN := hid hn
 clear hn
 go_enter Tryz.func107, Tryz.ntmps107
 go_wp2
 go_loopw [2, 3] (fun s2 s3 wr => ∃ k, k ≤ n / 2 ∧ s2 = .int .i64 (k : Nat) ∧ s3 = .int .i64 ((n : Int) - 1 - k) ∧ RowV 63 wr g ((rvk n xs k).map U ++ rest) ∧ w.grownBy wr (some g)) (fun s2 _ _ => n - (intOf s2).toNat)
 case atStart => exact ⟨0, Nat.zero_le _, rfl, by simp, hr, World.grownBy.refl w _⟩
 case round =>
  obtain ⟨k, hk, rfl, rfl, hrow, hgr⟩ := hrel
  by_cases hlt : (k : Int) < (n : Int) - 1 - k
  ·obtain ⟨j, hj⟩ : ∃ j, n - 1 - k = j := ⟨_, rfl⟩
   have e1 : (n : Int) - 1 - k = (j : Int) := by omega
   rw [e1] at hlt ⊢
   have hjn : (j : Int) < n := by omega
   have hkn : (k : Int) < n := by omega
   obtain ⟨zs, hzs⟩ : ∃ zs, rvk n xs k = zs := ⟨_, rfl⟩
   have hzl : zs.length = xs.length := by rw [← hzs, rvk_length]
   have hstep : rvk n xs (k + 1) = (zs.set k (zs.getD j 0)).set j (zs.getD k 0) := by rw [rvk, hzs, hj]
   rw [hzs] at hrow
   have hjz : j < zs.length := by have := HN.out; omega
   have hkz : k < zs.length := by have := HN.out; omega
   have hcj := row_at hrow (i := j) (x := zs.getD j 0) (by rw [List.getD_eq_getElem?_getD, List.getElem?_eq_getElem hjz]; rfl)
   have hck := row_at hrow (i := k) (x := zs.getD k 0) (by rw [List.getD_eq_getElem?_getD, List.getElem?_eq_getElem hkz]; rfl)
   have hf := hrow.frozen
   have hset := row_set (row_set hrow hkz (zs.getD j 0)) (i := j) (by simpa using hjz) (zs.getD k 0)
   obtain ⟨a, ha⟩ : ∃ a, zs.getD j 0 = a := ⟨_, rfl⟩
   obtain ⟨b, hb⟩ : ∃ b, zs.getD k 0 = b := ⟨_, rfl⟩
   rw [ha] at hcj hstep hset
   rw [hb] at hck hstep hset
   rw [← hstep] at hset
   have HK := hid hk
   have HJ := hid hj
   have HSET := hid hset
   have hk2 : (k : Int) + 1 ≤ 9223372036854775807 := by omega
   clear hstep hj hk hzs hzl ha hb hjz hkz e1 hset
   go_wp2
   go_region
   go_wp2
   go_roundw
   case rel =>
    refine ⟨k + 1, by have := HK.out; have := HJ.out; omega, by go_num, ?_, HSET.out, grown_draw (grown_set (grown_set hgr _ _) _ _)⟩
    have := HJ.out
    congr 1
    omega
   case measure => simp [intOf]; omega
  ·have hkk : k = n / 2 := by omega
   subst hkk
   go_wp2
   go_end0
   exact ⟨rfl, hrow, hgr⟩
theorem numb_any (w : World) (B : Nat) (hB : B ≤ w.heap.size) (p : Addr) (n c : Nat) (xs : List Nat) (hs : SlV w B (some p) n c (xs.map U)) (hn : n = xs.length) (hn0 : 0 < n) (hn1 : n ≤ 60) :
  Calls Tryz.prog 94 #[.slice (some p) n c] w fun e w' => ∃ A c', e = .returned (.slice A n c') ∧ Sl w' w'.heap.size A n c' (rvk n xs (n / 2)) ∧ Below w.heap.size w w' := by
 have HC := hid (cloneU_any w B p n c xs hs hB (by omega))
 have HN := hid hn
 clear hs hn
 go_enter Tryz.func94, Tryz.ntmps94
 go_wp2_with fail
 refine HC.out.mono ?_
 rintro e w1 ⟨v, rfl, hown, hb⟩
 rcases hown with ⟨hl, ⟨rfl, h0⟩ | ⟨g, cap, cur, rfl, hg, hrow, hc1, hc2, hc3, hcs⟩⟩
 ·omega
 have hr : RowV 63 w1 g (xs.map U ++ cur.toList.drop n) := by
  unfold RowV
  rw [hrow, ← hcs, Nat.mul_one, List.take_append_drop]
 have HR := hid (revU_any w1 g n cap xs (cur.toList.drop n) hr HN.out (by omega))
 have HB := hid hb
 have HG := hid hg
 have HC2 := hid (show n ≤ cap ∧ cap ≤ 9223372036854775807 from ⟨hc1, by simpa [maxLen] using hc2⟩)
 clear hl hrow hc1 hc2 hc3 hcs hr hb hg
 go_wp2_with fail
 refine HR.out.mono ?_
 rintro e w2 ⟨rfl, hrow2, hgr⟩
 have HR2 := hid hrow2
 have HGR := hid hgr
 clear hrow2 hgr
 go_wp2
 go_ret
 have hlen : (rvk n xs (n / 2)).length = n := by rw [rvk_length, ← HN.out]
 refine ⟨_, _, rfl, ⟨hlen.symm, HC2.out.1, HC2.out.2, fun _ => ⟨g, 0, rfl, HR2.out.lt, fun k x hx => ?_⟩⟩, ?_⟩
 ·rw [Nat.zero_add]
  exact row_at HR2.out hx
 ·have h1 := HB.out
  have h2 := HGR.out
  have h3 := HG.out
  exact ⟨h2.os.trans h1.os, h2.tape.trans h1.tape, h2.output.trans h1.output, Nat.le_trans h1.size h2.size, fun i hi => (h2.block i (Nat.lt_of_lt_of_le hi h1.size) (fun e => by injection e with e; omega)).trans (h1.block i hi)⟩
def i8 (x : BitVec 8) : Int := (x.toNat : Int)
abbrev W8 (x : BitVec 8) : Value := .int .u8 (i8 x)
end Go.Proofs.YtbejcollbkeedaaGreat
namespace Go.Proofs.YtbejcollbkeedaaGreat
open Go.RowKit
section
variable {P : Program} {w : World} {ops : Array Oper} {rest : List Oper} {o : Oper} {a : Act} {Q : Exit → Act → World → Prop}
end
theorem ones8 (xs : List (BitVec 8)) : Ones (xs.map W8) := fun v hv => by obtain ⟨_, _, rfl⟩ := List.mem_map.1 hv; rfl
theorem newV (w : World) (t : TypeId) (vs : List Value) (arr : Array Value) (he : vs.toArray = arr) : ∃ W, w.alloc (.cells arr t) = W ∧ RowV t W w.heap.size vs ∧ Below w.heap.size w W ∧ W.heap.size = w.heap.size + 1 := by
 subst he
 exact ⟨_, rfl, RowV.new w t vs, (Below.refl _ w).alloc (Nat.le_refl _) _, by simp⟩
end Go.Proofs.YtbejcollbkeedaaGreat
namespace Go.Proofs.YtbejcollbkeedaaGreat.Cw
open Lean.Grind
def rcb {K : Type} [CommRing K] (b : K) (P Q : K × K × K) : K × K × K :=
 let xx := P.1 * Q.1
 let yy := P.2.1 * Q.2.1
 let zz := P.2.2 * Q.2.2
 let xy := P.1 * Q.2.1 + P.2.1 * Q.1
 let xz := P.1 * Q.2.2 + P.2.2 * Q.1
 let yz := P.2.1 * Q.2.2 + P.2.2 * Q.2.1
 let d1 := xz - b * zz
 let s := d1 + d1 + d1
 let d2 := xx - zz
 let t := d2 + d2 + d2
 let d3 := b * xz - xx - (zz + zz + zz)
 let u := d3 + d3 + d3
 (xy * (yy + s) - yz * u, t * u + (yy - s) * (yy + s), yz * (yy - s) + xy * t)
section
variable {K : Type} [CommRing K]
theorem rcb_scale (b : K) (k l x1 y1 z1 x2 y2 z2 : K) :
  rcb b (k * x1, k * y1, k * z1) (l * x2, l * y2, l * z2) =
   (k * k * (l * l) * (rcb b (x1, y1, z1) (x2, y2, z2)).1, k * k * (l * l) * (rcb b (x1, y1, z1) (x2, y2, z2)).2.1, k * k * (l * l) * (rcb b (x1, y1, z1) (x2, y2, z2)).2.2) := by
 simp only [rcb, Prod.mk.injEq]
 refine ⟨?_, ?_, ?_⟩ <;> grind
theorem rcb_left (b : K) (y x2 y2 z2 : K) : rcb b (0, y, 0) (x2, y2, z2) = (y * y * y2 * x2, y * y * y2 * y2, y * y * y2 * z2) := by
 simp only [rcb, Prod.mk.injEq]
 refine ⟨?_, ?_, ?_⟩ <;> grind
theorem rcb_right (b : K) (y x1 y1 z1 : K) : rcb b (x1, y1, z1) (0, y, 0) = (y * y * y1 * x1, y * y * y1 * y1, y * y * y1 * z1) := by
 simp only [rcb, Prod.mk.injEq]
 refine ⟨?_, ?_, ?_⟩ <;> grind
theorem chord_x {b x1 y1 x2 y2 : K} (h1 : y1 * y1 = x1 * x1 * x1 - 3 * x1 + b) (h2 : y2 * y2 = x2 * x2 * x2 - 3 * x2 + b) :
  (rcb b (x1, y1, 1) (x2, y2, 1)).1 * ((x2 - x1) * (x2 - x1)) = (rcb b (x1, y1, 1) (x2, y2, 1)).2.2 * ((y2 - y1) * (y2 - y1) - (x1 + x2) * ((x2 - x1) * (x2 - x1))) := by
 simp only [rcb]
 grind
theorem chord_y {b x1 y1 x2 y2 : K} (h1 : y1 * y1 = x1 * x1 * x1 - 3 * x1 + b) (h2 : y2 * y2 = x2 * x2 * x2 - 3 * x2 + b) :
  (rcb b (x1, y1, 1) (x2, y2, 1)).2.1 * ((x2 - x1) * (x2 - x1) * (x2 - x1)) = (rcb b (x1, y1, 1) (x2, y2, 1)).2.2 *
   ((y2 - y1) * (x1 * ((x2 - x1) * (x2 - x1)) - ((y2 - y1) * (y2 - y1) - (x1 + x2) * ((x2 - x1) * (x2 - x1)))) - y1 * ((x2 - x1) * (x2 - x1) * (x2 - x1))) := by
 simp only [rcb]
 grind
def ny (x1 y1 x2 y2 : K) : K :=
 (y2 - y1) * (x1 * ((x2 - x1) * (x2 - x1)) - ((y2 - y1) * (y2 - y1) - (x1 + x2) * ((x2 - x1) * (x2 - x1)))) - y1 * ((x2 - x1) * (x2 - x1) * (x2 - x1))
def nx (x1 y1 x2 y2 : K) : K := (y2 - y1) * (y2 - y1) - (x1 + x2) * ((x2 - x1) * (x2 - x1))
theorem chord_z {b x1 y1 x2 y2 : K} (h1 : y1 * y1 = x1 * x1 * x1 - 3 * x1 + b) (h2 : y2 * y2 = x2 * x2 * x2 - 3 * x2 + b) :
  (rcb b (x1, y1, 1) (x2, y2, 1)).2.2 = ny x1 y1 x2 (-y2) := by
 simp only [rcb, ny]
 grind
theorem chord_on {b x1 y1 x2 y2 : K} (h1 : y1 * y1 = x1 * x1 * x1 - 3 * x1 + b) (h2 : y2 * y2 = x2 * x2 * x2 - 3 * x2 + b) :
  ny x1 y1 x2 y2 * ny x1 y1 x2 y2 = nx x1 y1 x2 y2 * nx x1 y1 x2 y2 * nx x1 y1 x2 y2 - 3 * nx x1 y1 x2 y2 * ((x2 - x1) * (x2 - x1) * ((x2 - x1) * (x2 - x1)))
   + b * ((x2 - x1) * (x2 - x1) * (x2 - x1) * ((x2 - x1) * (x2 - x1) * (x2 - x1))) := by
 simp only [nx, ny]
 grind
def mx (x y : K) : K := (3 * (x * x) - 3) * (3 * (x * x) - 3) - 8 * x * (y * y)
def my (x y : K) : K := (3 * (x * x) - 3) * (4 * x * (y * y) - mx x y) - 8 * (y * y) * (y * y)
theorem double_is {b x y : K} (h : y * y = x * x * x - 3 * x + b) : rcb b (x, y, 1) (x, y, 1) = (2 * y * mx x y, my x y, 8 * (y * y * y)) := by
 simp only [rcb, mx, my, Prod.mk.injEq]
 refine ⟨?_, ?_, ?_⟩ <;> grind
theorem double_on {b x y : K} (h : y * y = x * x * x - 3 * x + b) :
  my x y * my x y = mx x y * mx x y * mx x y - 3 * mx x y * (16 * (y * y) * (y * y)) + b * (64 * (y * y) * (y * y) * (y * y)) := by
 simp only [mx, my]
 grind
theorem opposite {b x y : K} (h : y * y = x * x * x - 3 * x + b) : rcb b (x, y, 1) (x, -y, 1) = (0, my x y, 0) := by
 simp only [rcb, mx, my, Prod.mk.injEq]
 refine ⟨?_, ?_, ?_⟩ <;> grind
end
end Go.Proofs.YtbejcollbkeedaaGreat.Cw
namespace Go.Proofs.YtbejcollbkeedaaGreat.Cw
open Lean.Grind
structure Cv (K : Type) [CommRing K] (b : K) where
 dom : ∀ x y : K, x * y = 0 → x = 0 ∨ y = 0
 iv : K → K
 inv : ∀ x : K, x ≠ 0 → x * iv x = 1
 two : (2 : K) ≠ 0
 noroot : ∀ x : K, x * x * x - 3 * x + b ≠ 0
section
variable {K : Type} [CommRing K] {b : K} (C : Cv K b)
include C
theorem Cv.mul_ne {x y : K} (hx : x ≠ 0) (hy : y ≠ 0) : x * y ≠ 0 := by
 intro h
 rcases C.dom _ _ h with h | h
 ·exact hx h
 ·exact hy h
theorem Cv.cancel {x y z : K} (hz : z ≠ 0) (h : x * z = y * z) : x = y := by
 rcases C.dom (x - y) z (by grind) with h | h
 ·grind
 ·exact absurd h hz
theorem Cv.one_ne : (1 : K) ≠ 0 := by
 intro h
 exact C.two (by grind)
theorem Cv.y_ne {x y : K} (h : y * y = x * x * x - 3 * x + b) : y ≠ 0 := by
 rintro rfl
 exact C.noroot x (by grind)
omit C
theorem slope {d n i l : K} (hi : d * i = 1) (hL : n * i = l) : l * d = n := by grind
theorem chord_e1 {x1 y1 x2 y2 l : K} (hl : l * (x2 - x1) = y2 - y1) : (l * l - x1 - x2) * ((x2 - x1) * (x2 - x1)) = nx x1 y1 x2 y2 := by
 simp only [nx, ← hl]; grind
theorem chord_e2 {x1 y1 x2 y2 l : K} (hl : l * (x2 - x1) = y2 - y1) : (l * (x1 - (l * l - x1 - x2)) - y1) * ((x2 - x1) * (x2 - x1) * (x2 - x1)) = ny x1 y1 x2 y2 := by
 simp only [ny, ← hl]; grind
theorem tang_e1 {x y l : K} (hl : l * (2 * y) = 3 * (x * x) - 3) : (l * l - x - x) * (2 * y * (2 * y)) = mx x y := by
 simp only [mx, ← hl]; grind
theorem tang_e2 {x y l : K} (hl : l * (2 * y) = 3 * (x * x) - 3) : (l * (x - (l * l - x - x)) - y) * (2 * y * (2 * y) * (2 * y)) = my x y := by
 simp only [my, mx, ← hl]; grind
theorem chord_e3 {X Y d b : K} (e : Y * (d * d * d) * (Y * (d * d * d)) = X * (d * d) * (X * (d * d)) * (X * (d * d)) - 3 * (X * (d * d)) * (d * d * (d * d)) + b * (d * d * d * (d * d * d))) :
  Y * Y * (d * d * d * (d * d * d)) = (X * X * X - 3 * X + b) * (d * d * d * (d * d * d)) := by grind
theorem tang_e3 {X Y y b : K} (e : Y * (2 * y * (2 * y) * (2 * y)) * (Y * (2 * y * (2 * y) * (2 * y))) = X * (2 * y * (2 * y)) * (X * (2 * y * (2 * y))) * (X * (2 * y * (2 * y))) - 3 * (X * (2 * y * (2 * y))) * (16 * (y * y) * (y * y)) + b * (64 * (y * y) * (y * y) * (y * y))) :
  Y * Y * (2 * y * (2 * y) * (2 * y) * (2 * y * (2 * y) * (2 * y))) = (X * X * X - 3 * X + b) * (2 * y * (2 * y) * (2 * y) * (2 * y * (2 * y) * (2 * y))) := by grind
def onC (b : K) : Option (K × K) → Prop
 | none => True
 | some (x, y) => y * y = x * x * x - 3 * x + b
def Stands (T : K × K × K) : Option (K × K) → Prop
 | none => T.1 = 0 ∧ T.2.1 ≠ 0 ∧ T.2.2 = 0
 | some (x, y) => T.2.2 ≠ 0 ∧ T.1 = T.2.2 * x ∧ T.2.1 = T.2.2 * y
open Classical in
noncomputable def Cv.ad (C : Cv K b) : Option (K × K) → Option (K × K) → Option (K × K)
 | none, q => q
 | p, none => p
 | some (x1, y1), some (x2, y2) =>
  if x1 = x2 then
   if y1 = y2 then
    let l := (3 * (x1 * x1) - 3) * C.iv (2 * y1)
    some (l * l - x1 - x1, l * (x1 - (l * l - x1 - x1)) - y1)
   else none
  else
   let l := (y2 - y1) * C.iv (x2 - x1)
   some (l * l - x1 - x2, l * (x1 - (l * l - x1 - x2)) - y1)
def ng : Option (K × K) → Option (K × K)
 | none => none
 | some (x, y) => some (x, -y)
include C
theorem Cv.opp_of {x y y' : K} (h1 : y * y = x * x * x - 3 * x + b) (h2 : y' * y' = x * x * x - 3 * x + b) : y' = y ∨ y' = -y := by
 rcases C.dom (y' - y) (y' + y) (by grind) with h | h
 ·exact .inl (by grind)
 ·exact .inr (by grind)
theorem Cv.chord {x1 y1 x2 y2 : K} (h1 : y1 * y1 = x1 * x1 * x1 - 3 * x1 + b) (h2 : y2 * y2 = x2 * x2 * x2 - 3 * x2 + b) (hx : x1 ≠ x2) :
  ∃ x3 y3, C.ad (some (x1, y1)) (some (x2, y2)) = some (x3, y3) ∧ y3 * y3 = x3 * x3 * x3 - 3 * x3 + b ∧
   x3 * ((x2 - x1) * (x2 - x1)) = nx x1 y1 x2 y2 ∧ y3 * ((x2 - x1) * (x2 - x1) * (x2 - x1)) = ny x1 y1 x2 y2 := by
 have hd : x2 - x1 ≠ 0 := fun h => hx (by grind)
 have hi := C.inv _ hd
 have e := chord_on h1 h2
 simp only [ad, if_neg hx]
 refine ⟨_, _, rfl, ?_, chord_e1 (slope hi rfl), chord_e2 (slope hi rfl)⟩
 refine C.cancel (z := (x2 - x1) * (x2 - x1) * (x2 - x1) * ((x2 - x1) * (x2 - x1) * (x2 - x1))) (C.mul_ne (C.mul_ne (C.mul_ne hd hd) hd) (C.mul_ne (C.mul_ne hd hd) hd)) ?_
 rw [← chord_e1 (slope hi rfl), ← chord_e2 (slope hi rfl)] at e
 exact chord_e3 e
theorem Cv.tangent {x y : K} (h : y * y = x * x * x - 3 * x + b) :
  ∃ x3 y3, C.ad (some (x, y)) (some (x, y)) = some (x3, y3) ∧ y3 * y3 = x3 * x3 * x3 - 3 * x3 + b ∧
   x3 * (2 * y * (2 * y)) = mx x y ∧ y3 * (2 * y * (2 * y) * (2 * y)) = my x y := by
 have hd : 2 * y ≠ 0 := C.mul_ne C.two (C.y_ne h)
 have hi := C.inv _ hd
 have e := double_on h
 simp only [ad, if_true]
 refine ⟨_, _, rfl, ?_, tang_e1 (slope hi rfl), tang_e2 (slope hi rfl)⟩
 refine C.cancel (z := 2 * y * (2 * y) * (2 * y) * (2 * y * (2 * y) * (2 * y))) (C.mul_ne (C.mul_ne (C.mul_ne hd hd) hd) (C.mul_ne (C.mul_ne hd hd) hd)) ?_
 rw [← tang_e1 (slope hi rfl), ← tang_e2 (slope hi rfl)] at e
 exact tang_e3 e
theorem Cv.ad_on {P Q : Option (K × K)} (hP : onC b P) (hQ : onC b Q) : onC b (C.ad P Q) := by
 rcases P with _ | ⟨x1, y1⟩
 ·exact hQ
 rcases Q with _ | ⟨x2, y2⟩
 ·exact hP
 simp only [onC] at hP hQ
 by_cases hx : x1 = x2
 ·subst hx
  by_cases hy : y1 = y2
  ·subst hy
   obtain ⟨x3, y3, e, h, -⟩ := C.tangent hP
   rw [e]; exact h
  ·simp only [ad, if_true, if_neg hy]; trivial
 ·obtain ⟨x3, y3, e, h, -⟩ := C.chord hP hQ hx
  rw [e]; exact h
theorem Cv.one_stands {P Q : Option (K × K)} (hP : onC b P) (hQ : onC b Q) {S T : K × K × K} (hS : S = match P with | none => (0, 1, 0) | some (x, y) => (x, y, 1))
  (hT : T = match Q with | none => (0, 1, 0) | some (x, y) => (x, y, 1)) : Stands (rcb b S T) (C.ad P Q) := by
 rcases P with _ | ⟨x1, y1⟩
 ·subst hS
  simp only
  rcases Q with _ | ⟨x2, y2⟩
  ·subst hT
   rw [rcb_left]
   simp only [ad, Stands]
   refine ⟨by grind, ?_, by grind⟩
   have := C.one_ne
   grind
  ·subst hT
   rw [rcb_left]
   simp only [ad, Stands, onC] at hQ ⊢
   have := C.y_ne hQ
   refine ⟨by grind, by grind, by grind⟩
 rcases Q with _ | ⟨x2, y2⟩
 ·subst hS hT
  rw [rcb_right]
  simp only [ad, Stands, onC] at hP ⊢
  have := C.y_ne hP
  refine ⟨by grind, by grind, by grind⟩
 subst hS hT
 simp only [onC] at hP hQ
 by_cases hx : x1 = x2
 ·subst hx
  rcases C.opp_of hP hQ with hy | hy
  ·subst hy
   obtain ⟨x3, y3, e, h, e1, e2⟩ := C.tangent hP
   rw [e, double_is hP]
   have h3 := C.y_ne hP
   have h2 := C.two
   refine ⟨?_, ?_, ?_⟩
   ·have h8 : (8 : K) * (y2 * y2 * y2) = 2 * y2 * (2 * y2) * (2 * y2) := by grind
    rw [h8]
    exact C.mul_ne (C.mul_ne (C.mul_ne h2 h3) (C.mul_ne h2 h3)) (C.mul_ne h2 h3)
   ·simp only; rw [← e1]; grind
   ·simp only; rw [← e2]; grind
  ·subst hy
   have hne : y1 ≠ -y1 := by
    intro h
    have : 2 * y1 = 0 := by grind
    exact C.mul_ne C.two (C.y_ne hP) this
   obtain ⟨x3, y3, e, h, e1, e2⟩ := C.tangent hP
   rw [opposite hP]
   simp only [ad, if_true, if_neg hne, Stands]
   refine ⟨trivial, ?_, trivial⟩
   rw [← e2]
   have h3 := C.mul_ne C.two (C.y_ne hP)
   exact C.mul_ne (C.y_ne h) (C.mul_ne (C.mul_ne h3 h3) h3)
 ·obtain ⟨x3, y3, e, h, e1, e2⟩ := C.chord hP hQ hx
  have hQ' : -y2 * -y2 = x2 * x2 * x2 - 3 * x2 + b := by grind
  obtain ⟨x4, y4, -, h4, -, e4⟩ := C.chord hP hQ' hx
  have hd : x2 - x1 ≠ 0 := fun h => hx (by grind)
  rw [e]
  have f1 := chord_x hP hQ
  have f2 := chord_y hP hQ
  have f3 := chord_z hP hQ
  have hz : (rcb b (x1, y1, 1) (x2, y2, 1)).2.2 ≠ 0 := by
   rw [f3, ← e4]
   exact C.mul_ne (C.y_ne h4) (C.mul_ne (C.mul_ne hd hd) hd)
  refine ⟨hz, ?_, ?_⟩
  ·refine C.cancel (C.mul_ne hd hd) ?_
   rw [f1, show (y2 - y1) * (y2 - y1) - (x1 + x2) * ((x2 - x1) * (x2 - x1)) = nx x1 y1 x2 y2 from rfl, ← e1]
   grind
  ·refine C.cancel (C.mul_ne (C.mul_ne hd hd) hd) ?_
   rw [f2]
   change _ * ny x1 y1 x2 y2 = _
   rw [← e2]
   grind
omit C in
theorem Stands.scale {P : Option (K × K)} {k : K} {x y z : K} (h : Stands (x, y, z) P) (hm : ∀ a : K, a ≠ 0 → k * a ≠ 0) : Stands (k * x, k * y, k * z) P := by
 rcases P with _ | ⟨u, v⟩
 ·obtain ⟨h1, h2, h3⟩ := h
  simp only at h1 h2 h3
  exact ⟨by simp only; grind, hm _ h2, by simp only; grind⟩
 ·obtain ⟨h1, h2, h3⟩ := h
  simp only at h1 h2 h3
  exact ⟨hm _ h1, by simp only; grind, by simp only; grind⟩
omit C in
def lift3 : Option (K × K) → K × K × K
 | none => (0, 1, 0)
 | some (x, y) => (x, y, 1)
omit C in
theorem Stands.lift {P : Option (K × K)} {S : K × K × K} (h : Stands S P) : ∃ k, k ≠ 0 ∧ S = (k * (lift3 P).1, k * (lift3 P).2.1, k * (lift3 P).2.2) := by
 obtain ⟨a, b, c⟩ := S
 rcases P with _ | ⟨x, y⟩
 ·obtain ⟨h1, h2, h3⟩ := h
  simp only at h1 h2 h3
  exact ⟨b, h2, by simp only [lift3, Prod.mk.injEq]; exact ⟨by grind, by grind, by grind⟩⟩
 ·obtain ⟨h1, h2, h3⟩ := h
  simp only at h1 h2 h3
  exact ⟨c, h1, by simp only [lift3, Prod.mk.injEq]; exact ⟨by grind, by grind, by grind⟩⟩
theorem Cv.stands {P Q : Option (K × K)} (hP : onC b P) (hQ : onC b Q) {S T : K × K × K} (hS : Stands S P) (hT : Stands T Q) : Stands (rcb b S T) (C.ad P Q) := by
 obtain ⟨k, hk, rfl⟩ := hS.lift
 obtain ⟨l, hl, rfl⟩ := hT.lift
 have h : Stands (rcb b (lift3 P) (lift3 Q)) (C.ad P Q) := C.one_stands hP hQ (by rcases P with _ | ⟨x, y⟩ <;> rfl) (by rcases Q with _ | ⟨x, y⟩ <;> rfl)
 rw [rcb_scale]
 exact Stands.scale h fun a ha => C.mul_ne (C.mul_ne (C.mul_ne hk hk) (C.mul_ne hl hl)) ha
theorem Cv.ad_zero (P : Option (K × K)) : C.ad P none = P := by
 rcases P with _ | ⟨x, y⟩ <;> rfl
theorem Cv.zero_ad (P : Option (K × K)) : C.ad none P = P := rfl
omit C
noncomputable def Cv.mg (C : Cv K b) (G : Option (K × K)) : Nat → Option (K × K)
 | 0 => none
 | k + 1 => C.ad (C.mg G k) G
include C
theorem Cv.mg_on {G : Option (K × K)} (hG : onC b G) : ∀ k, onC b (C.mg G k)
 | 0 => trivial
 | k + 1 => C.ad_on (Cv.mg_on hG k) hG
end
end Go.Proofs.YtbejcollbkeedaaGreat.Cw
namespace Go.Proofs.YtbejcollbkeedaaGreat.Cw
open Lean.Grind
structure Ops (C : Type) where
 zero : C
 one : C
 add : C → C → C
 neg : C → C
 mul : C → C → C
structure Ev {C : Type} (O : Ops C) (K : Type) [CommRing K] where
 ev : C → K
 zero : ev O.zero = 0
 one : ev O.one = 1
 add : ∀ x y, ev (O.add x y) = ev x + ev y
 neg : ∀ x, ev (O.neg x) = -ev x
 mul : ∀ x y, ev (O.mul x y) = ev x * ev y
def padd {C : Type} (O : Ops C) : List C → List C → List C
 | [], q => q
 | a :: p, [] => a :: p
 | a :: p, b :: q => O.add a b :: padd O p q
def psmul {C : Type} (O : Ops C) (c : C) : List C → List C
 | [] => []
 | a :: p => O.mul c a :: psmul O c p
def pneg {C : Type} (O : Ops C) : List C → List C
 | [] => []
 | a :: p => O.neg a :: pneg O p
def pmul {C : Type} (O : Ops C) : List C → List C → List C
 | [], _ => []
 | a :: p, q => padd O (psmul O a q) (O.zero :: pmul O p q)
def polyO {C : Type} (O : Ops C) : Ops (List C) where
 zero := []
 one := [O.one]
 add := padd O
 neg := pneg O
 mul := pmul O
def quadO {C : Type} (O : Ops C) (f : C) : Ops (C × C) where
 zero := (O.zero, O.zero)
 one := (O.one, O.zero)
 add x y := (O.add x.1 y.1, O.add x.2 y.2)
 neg x := (O.neg x.1, O.neg x.2)
 mul x y := (O.add (O.mul x.1 y.1) (O.mul f (O.mul x.2 y.2)), O.add (O.mul x.1 y.2) (O.mul x.2 y.1))
section
variable {K : Type} [CommRing K] {C : Type} {O : Ops C}
def pev (E : Ev O K) (x : K) : List C → K
 | [] => 0
 | a :: p => E.ev a + x * pev E x p
theorem pev_add (E : Ev O K) (x : K) : ∀ p q, pev E x (padd O p q) = pev E x p + pev E x q
 | [], q => by simp only [padd, pev]; grind
 | a :: p, [] => by simp only [padd, pev]; grind
 | a :: p, b :: q => by simp only [padd, pev, pev_add E x p q, E.add]; grind
theorem pev_smul (E : Ev O K) (x : K) (c : C) : ∀ p, pev E x (psmul O c p) = E.ev c * pev E x p
 | [] => by simp only [psmul, pev]; grind
 | a :: p => by simp only [psmul, pev, pev_smul E x c p, E.mul]; grind
theorem pev_neg (E : Ev O K) (x : K) : ∀ p, pev E x (pneg O p) = -pev E x p
 | [] => by simp only [pneg, pev]; grind
 | a :: p => by simp only [pneg, pev, pev_neg E x p, E.neg]; grind
theorem pev_mul (E : Ev O K) (x : K) : ∀ p q, pev E x (pmul O p q) = pev E x p * pev E x q
 | [], q => by simp only [pmul, pev]; grind
 | a :: p, q => by simp only [pmul, pev, pev_add, pev_smul, pev_mul E x p q, E.zero]; grind
def polyE (E : Ev O K) (x : K) : Ev (polyO O) K where
 ev := pev E x
 zero := rfl
 one := by simp only [polyO, pev, E.one]; grind
 add := pev_add E x
 neg := pev_neg E x
 mul := pev_mul E x
end
structure Nm {C : Type} (O : Ops C) where
 f : C → Nat
 zero : f O.zero = 0
 one : f O.one ≤ 1
 add : ∀ x y, f (O.add x y) ≤ f x + f y
 neg : ∀ x, f (O.neg x) = f x
 mul : ∀ x y, f (O.mul x y) ≤ f x * f y
section
variable {C : Type} {O : Ops C}
def nl (N : Nm O) : List C → Nat
 | [] => 0
 | a :: p => N.f a + nl N p
theorem nl_add (N : Nm O) : ∀ p q, nl N (padd O p q) ≤ nl N p + nl N q
 | [], q => by simp only [padd, nl]; omega
 | a :: p, [] => by simp only [padd, nl]; omega
 | a :: p, b :: q => by
  have h1 := nl_add N p q
  have h2 := N.add a b
  simp only [padd, nl]; omega
theorem nl_smul (N : Nm O) (c : C) : ∀ p, nl N (psmul O c p) ≤ N.f c * nl N p
 | [] => by simp only [psmul, nl]; omega
 | a :: p => by
  have h1 := nl_smul N c p
  have h2 := N.mul c a
  simp only [psmul, nl, Nat.mul_add]; omega
theorem nl_neg (N : Nm O) : ∀ p, nl N (pneg O p) = nl N p
 | [] => rfl
 | a :: p => by simp only [pneg, nl, nl_neg N p, N.neg]
theorem nl_mul (N : Nm O) : ∀ p q, nl N (pmul O p q) ≤ nl N p * nl N q
 | [], q => by simp only [pmul, nl]; omega
 | a :: p, q => by
  have h1 := nl_add N (psmul O a q) (O.zero :: pmul O p q)
  have h2 := nl_smul N a q
  have h3 := nl_mul N p q
  have h4 : nl N (O.zero :: pmul O p q) = nl N (pmul O p q) := by simp only [nl, N.zero]; omega
  simp only [pmul]
  rw [show nl N (a :: p) = N.f a + nl N p from rfl, Nat.add_mul]
  omega
def Nm.list (N : Nm O) : Nm (polyO O) where
 f := nl N
 zero := rfl
 one := by have := N.one; simp only [polyO, nl]; omega
 add := nl_add N
 neg := nl_neg N
 mul := nl_mul N
def Ev.nm (E : Ev O Int) : Nm O where
 f x := (E.ev x).natAbs
 zero := by rw [E.zero]; rfl
 one := by rw [E.one]; decide
 add x y := by rw [E.add]; exact Int.natAbs_add_le _ _
 neg x := by rw [E.neg]; exact Int.natAbs_neg _
 mul x y := by rw [E.mul, Int.natAbs_mul]; exact Nat.le_refl _
end
structure Rl {C D : Type} (O : Ops C) (P : Ops D) where
 r : C → D → Prop
 zero : r O.zero P.zero
 one : r O.one P.one
 add : ∀ x y u v, r x u → r y v → r (O.add x y) (P.add u v)
 neg : ∀ x u, r x u → r (O.neg x) (P.neg u)
 mul : ∀ x y u v, r x u → r y v → r (O.mul x y) (P.mul u v)
end Go.Proofs.YtbejcollbkeedaaGreat.Cw
namespace Go.Proofs.YtbejcollbkeedaaGreat.Cw
open Lean.Grind
def intO : Ops Int where
 zero := 0
 one := 1
 add x y := x + y
 neg x := -x
 mul x y := x * y
def intE : Ev intO Int where
 ev x := x
 zero := rfl
 one := rfl
 add _ _ := rfl
 neg _ := rfl
 mul _ _ := rfl
def intK (K : Type) [CommRing K] : Ev intO K where
 ev x := (Ring.intCast (α := K)).intCast x
 zero := by simp only [intO]; exact Ring.intCast_zero
 one := by simp only [intO]; exact Ring.intCast_one
 add x y := by simp only [intO]; exact Ring.intCast_add x y
 neg x := by simp only [intO]; exact Ring.intCast_neg x
 mul x y := by simp only [intO]; exact Ring.intCast_mul x y
abbrev Q1 := List Int
abbrev Q2 := List Q1
abbrev Q3 := List Q2
abbrev Q4 := List Q3
def q1 : Ops Q1 := polyO intO
def q2 : Ops Q2 := polyO q1
def q3 : Ops Q3 := polyO q2
def q4 : Ops Q4 := polyO q3
section
variable (W0 W1 W2 W3 : Nat)
def e1 : Ev q1 Int := polyE intE (W0 : Int)
def e2 : Ev q2 Int := polyE (e1 W0) (W1 : Int)
def e3 : Ev q3 Int := polyE (e2 W0 W1) (W2 : Int)
def e4 : Ev q4 Int := polyE (e3 W0 W1 W2) (W3 : Int)
def m1 : Nm q4 := intE.nm.list.list.list.list
def m2 : Nm q4 := (e1 W0).nm.list.list.list
def m3 : Nm q4 := (e2 W0 W1).nm.list.list
def m4 : Nm q4 := (e3 W0 W1 W2).nm.list
structure Tv where
 v : Int
 n1 : Nat
 n2 : Nat
 n3 : Nat
 n4 : Nat
def tO : Ops Tv where
 zero := ⟨0, 0, 0, 0, 0⟩
 one := ⟨1, 1, 1, 1, 1⟩
 add x y := ⟨x.v + y.v, x.n1 + y.n1, x.n2 + y.n2, x.n3 + y.n3, x.n4 + y.n4⟩
 neg x := ⟨-x.v, x.n1, x.n2, x.n3, x.n4⟩
 mul x y := ⟨x.v * y.v, x.n1 * y.n1, x.n2 * y.n2, x.n3 * y.n3, x.n4 * y.n4⟩
def tR : Rl q4 tO where
 r p t := (e4 W0 W1 W2 W3).ev p = t.v ∧ m1.f p ≤ t.n1 ∧ (m2 W0).f p ≤ t.n2 ∧ (m3 W0 W1).f p ≤ t.n3 ∧ (m4 W0 W1 W2).f p ≤ t.n4
 zero := ⟨(e4 W0 W1 W2 W3).zero, by rw [m1.zero]; exact Nat.zero_le _, by rw [(m2 W0).zero]; exact Nat.zero_le _, by rw [(m3 W0 W1).zero]; exact Nat.zero_le _, by rw [(m4 W0 W1 W2).zero]; exact Nat.zero_le _⟩
 one := ⟨(e4 W0 W1 W2 W3).one, m1.one, (m2 W0).one, (m3 W0 W1).one, (m4 W0 W1 W2).one⟩
 add x y u v h1 h2 := by
  obtain ⟨a1, a2, a3, a4, a5⟩ := h1
  obtain ⟨b1, b2, b3, b4, b5⟩ := h2
  refine ⟨?_, Nat.le_trans (m1.add _ _) (Nat.add_le_add a2 b2), Nat.le_trans ((m2 W0).add _ _) (Nat.add_le_add a3 b3), Nat.le_trans ((m3 W0 W1).add _ _) (Nat.add_le_add a4 b4), Nat.le_trans ((m4 W0 W1 W2).add _ _) (Nat.add_le_add a5 b5)⟩
  rw [(e4 W0 W1 W2 W3).add, a1, b1]; rfl
 neg x u h1 := by
  obtain ⟨a1, a2, a3, a4, a5⟩ := h1
  refine ⟨?_, by rw [m1.neg]; exact a2, by rw [(m2 W0).neg]; exact a3, by rw [(m3 W0 W1).neg]; exact a4, by rw [(m4 W0 W1 W2).neg]; exact a5⟩
  rw [(e4 W0 W1 W2 W3).neg, a1]; rfl
 mul x y u v h1 h2 := by
  obtain ⟨a1, a2, a3, a4, a5⟩ := h1
  obtain ⟨b1, b2, b3, b4, b5⟩ := h2
  refine ⟨?_, Nat.le_trans (m1.mul _ _) (Nat.mul_le_mul a2 b2), Nat.le_trans ((m2 W0).mul _ _) (Nat.mul_le_mul a3 b3), Nat.le_trans ((m3 W0 W1).mul _ _) (Nat.mul_le_mul a4 b4), Nat.le_trans ((m4 W0 W1 W2).mul _ _) (Nat.mul_le_mul a5 b5)⟩
  rw [(e4 W0 W1 W2 W3).mul, a1, b1]; rfl
def tz (t : Tv) : Bool := t.v == 0 && decide (2 * t.n1 < W0) && decide (2 * t.n2 < W1) && decide (2 * t.n3 < W2) && decide (2 * t.n4 < W3)
variable {K : Type} [CommRing K] (k0 k1 k2 k3 : K)
def f4 : Ev q4 K := polyE (polyE (polyE (polyE (intK K) k0) k1) k2) k3
end
end Go.Proofs.YtbejcollbkeedaaGreat.Cw
namespace Go.Proofs.YtbejcollbkeedaaGreat.Cw
open Lean.Grind
section
variable (W0 W1 W2 W3 : Nat)
def pb : Q4 := [[[[0, 1]]]]
def tb : Tv := ⟨W0, 1, W0, W0, W0⟩
theorem rb : (tR W0 W1 W2 W3).r pb (tb W0) := by
 refine ⟨?_, ?_, ?_, ?_, ?_⟩ <;> simp [pb, tb, e4, e3, e2, e1, polyE, pev, intE, m1, m2, m3, m4, Nm.list, nl, Ev.nm]
end
def cubO {C : Type} (O : Ops C) (b x : C) : C := O.add (O.add (O.mul (O.mul x x) x) (O.neg (O.add (O.add x x) x))) b
section
variable {C : Type} (O : Ops C) (b x1 x2 x3 : C)
abbrev C8 (C : Type) : Type := ((C × C) × (C × C)) × ((C × C) × (C × C))
def up1 (c : C) : C × C := (c, O.zero)
def up2 (c : C) : (C × C) × (C × C) := ((c, O.zero), (O.zero, O.zero))
def w1 : Ops (C × C) := quadO O (cubO O b x1)
def w2 : Ops ((C × C) × (C × C)) := quadO (w1 O b x1) (up1 O (cubO O b x2))
def w3 : Ops (C8 C) := quadO (w2 O b x1 x2) (up2 O (cubO O b x3))
end
section
variable {C D : Type} {O : Ops C} {P : Ops D} (R : Rl O P) {b x1 x2 x3 : C} {b' x1' x2' x3' : D}
 (hb : R.r b b') (h1 : R.r x1 x1') (h2 : R.r x2 x2') (h3 : R.r x3 x3')
end
def V2 : Nat := 2 ^ 3962
end Go.Proofs.YtbejcollbkeedaaGreat.Cw
namespace Go.Proofs.YtbejcollbkeedaaGreat
def ch : Nat → Nat → Nat
 | _, 0 => 1
 | 0, _ + 1 => 0
 | n + 1, k + 1 => ch n k + ch n (k + 1)
theorem ch_over : ∀ n k, n < k → ch n k = 0
 | 0, 0, h => by omega
 | 0, k + 1, _ => rfl
 | n + 1, 0, h => by omega
 | n + 1, k + 1, h => by rw [ch, ch_over n k (by omega), ch_over n (k + 1) (by omega)]
theorem ch_zero (n : Nat) : ch n 0 = 1 := by cases n <;> rfl
theorem ch_self : ∀ n, ch n n = 1
 | 0 => rfl
 | n + 1 => by rw [ch, ch_self n, ch_over n (n + 1) (by omega)]
theorem ch_mul : ∀ n k, (k + 1) * ch (n + 1) (k + 1) = (n + 1) * ch n k
 | 0, 0 => rfl
 | 0, k + 1 => by rw [ch_over (0 + 1) (k + 1 + 1) (by omega), ch_over 0 (k + 1) (by omega)]; rfl
 | n + 1, 0 => by
   have h := ch_mul n 0
   rw [ch_zero] at h ⊢
   rw [ch, ch_zero]
   grind
 | n + 1, k + 1 => by
   have h1 := ch_mul n k
   have h2 := ch_mul n (k + 1)
   have e1 : ch (n + 2) (k + 2) = ch (n + 1) (k + 1) + ch (n + 1) (k + 2) := rfl
   have e2 : ch (n + 1) (k + 1) = ch n k + ch n (k + 1) := rfl
   rw [e1]
   generalize ch (n + 1) (k + 2) = X at *
   rw [e2] at h1 ⊢
   generalize ch n k = A at *
   generalize ch n (k + 1) = B at *
   grind
def bs (a n : Nat) : Nat → Nat
 | 0 => 0
 | k + 1 => bs a n k + ch n k * a ^ k
theorem bs_succ (a n : Nat) : ∀ k, bs a (n + 1) (k + 1) = a * bs a n k + bs a n (k + 1)
 | 0 => by simp [bs, ch_zero]
 | k + 1 => by
   have h := bs_succ a n k
   have e : ch (n + 1) (k + 1) = ch n k + ch n (k + 1) := rfl
   rw [bs, h, e, bs, bs, bs, Nat.pow_succ]
   grind
theorem bs_over (a n : Nat) : bs a n (n + 2) = bs a n (n + 1) := by
 rw [bs, ch_over n (n + 1) (by omega), Nat.zero_mul, Nat.add_zero]
theorem binomial (a : Nat) : ∀ n, (a + 1) ^ n = bs a n (n + 1)
 | 0 => by simp [bs, ch]
 | n + 1 => by
   have h := binomial a n
   rw [bs_succ, bs_over, ← h, Nat.pow_succ]
   grind
def IsP (p : Nat) : Prop := 1 < p ∧ ∀ d, d ∣ p → d = 1 ∨ d = p
theorem IsP.cop {p n : Nat} (h : IsP p) (hn : ¬ p ∣ n) : Nat.Coprime p n := by
 rcases h.2 _ (Nat.gcd_dvd_left p n) with h1 | h1
 ·exact h1
 ·exact absurd (h1 ▸ Nat.gcd_dvd_right p n) hn
theorem IsP.ch {p : Nat} (h : IsP p) {k : Nat} (h0 : 0 < k) (hk : k < p) : p ∣ ch p k := by
 obtain ⟨j, rfl⟩ : ∃ j, k = j + 1 := ⟨k - 1, by omega⟩
 obtain ⟨q, rfl⟩ : ∃ q, p = q + 1 := ⟨p - 1, by omega⟩
 have h1 : (q + 1) ∣ (j + 1) * Go.Proofs.YtbejcollbkeedaaGreat.ch (q + 1) (j + 1) := ⟨_, ch_mul q j⟩
 refine (h.cop fun hd => ?_).dvd_of_dvd_mul_left h1
 have := Nat.le_of_dvd (by omega) hd
 omega
theorem bs_mod {a p : Nat} (h : IsP p) : ∀ k, 0 < k → k ≤ p → bs a p k % p = 1 % p
 | 0, h0, _ => by omega
 | 1, _, _ => by simp [bs, ch_zero]
 | k + 2, _, hk => by
   have h1 := bs_mod (a := a) h (k + 1) (by omega) (by omega)
   have h2 := h.ch (k := k + 1) (by omega) (by omega)
   rw [bs, Nat.add_mod, h1, Nat.mod_eq_zero_of_dvd (Nat.dvd_mul_right_of_dvd h2 _)]
   simp
theorem fermat {p : Nat} (h : IsP p) : ∀ a, a ^ p % p = a % p
 | 0 => by rw [Nat.zero_pow (by have := h.1; omega)]
 | a + 1 => by
   have h1 := fermat h a
   rw [binomial, bs, ch_self, Nat.one_mul, Nat.add_mod, bs_mod h p (by have := h.1; omega) (Nat.le_refl _), h1, ← Nat.add_mod, Nat.add_comm]
theorem fermat1 {p a : Nat} (h : IsP p) (ha : ¬ p ∣ a) : a ^ (p - 1) % p = 1 := by
 have h1 := fermat h a
 have hp := h.1
 obtain ⟨q, rfl⟩ : ∃ q, p = q + 1 := ⟨p - 1, by omega⟩
 rw [Nat.add_sub_cancel]
 have hpos : 0 < a := by
  rcases Nat.eq_zero_or_pos a with h0 | h0
  ·subst h0; exact absurd (Nat.dvd_zero _) ha
  ·exact h0
 have h3 : (q + 1) ∣ a * (a ^ q - 1) := by
  have e : a * (a ^ q - 1) = a ^ (q + 1) - a := by rw [Nat.mul_sub, Nat.pow_succ, Nat.mul_one, Nat.mul_comm]
  rw [e]
  exact Nat.dvd_of_mod_eq_zero (Nat.sub_mod_eq_zero_of_mod_eq h1)
 have h4 := (h.cop ha).dvd_of_dvd_mul_left h3
 obtain ⟨c, hc⟩ := h4
 have h5 : a ^ q = 1 + (q + 1) * c := by have := Nat.pow_pos (n := q) hpos; omega
 rw [h5, Nat.add_mul_mod_self_left, Nat.mod_eq_of_lt hp]
theorem has_prime : ∀ n, 1 < n → ∃ p, IsP p ∧ p ∣ n := by
 intro n
 induction n using Nat.strongRecOn with
 | _ n ih =>
  intro hn
  by_cases h : ∀ d, d ∣ n → d = 1 ∨ d = n
  ·exact ⟨n, ⟨hn, h⟩, Nat.dvd_refl _⟩
  ·obtain ⟨d, hd⟩ := Classical.not_forall.1 h
   obtain ⟨h1, h2⟩ := Classical.not_imp.1 hd
   have hle := Nat.le_of_dvd (by omega) h1
   have hpos := Nat.pos_of_dvd_of_pos h1 (by omega)
   obtain ⟨p, hp, hpd⟩ := ih d (by omega) (by omega)
   exact ⟨p, hp, Nat.dvd_trans hpd h1⟩
def pw (a m : Nat) : Nat → Nat → Nat
 | 0, _ => 1 % m
 | f + 1, e => if e % 2 = 1 then (pw a m f (e / 2)) ^ 2 % m * a % m else (pw a m f (e / 2)) ^ 2 % m
theorem pw_eq (a m : Nat) : ∀ f e, e < 2 ^ f → pw a m f e = a ^ e % m
 | 0, e, h => by
   obtain rfl : e = 0 := by simp at h; exact h
   rfl
 | f + 1, e, h => by
   have ih := pw_eq a m f (e / 2) (by rw [Nat.pow_succ] at h; omega)
   rw [pw, ih, ← Nat.pow_mod, ← Nat.pow_mul]
   split
   ·next h1 =>
    rw [Nat.mul_mod, Nat.mod_mod, ← Nat.mul_mod, ← Nat.pow_succ, show (e / 2 * 2).succ = e by omega]
   ·next h1 =>
    rw [show e / 2 * 2 = e by omega]
end Go.Proofs.YtbejcollbkeedaaGreat
namespace Go.Proofs.YtbejcollbkeedaaGreat.Cw
theorem pow_gcd_one {b p : Nat} (hp : 1 < p) : ∀ m n, b ^ m % p = 1 → b ^ n % p = 1 → b ^ (Nat.gcd m n) % p = 1 := by
 intro m n
 induction m, n using Nat.gcd.induction with
 | H0 n =>
  intro _ h
  rw [Nat.gcd_zero_left]; exact h
 | H1 m n hm ih =>
  intro h1 h2
  rw [Nat.gcd_rec]
  refine ih ?_ h1
  rw [← Nat.div_add_mod n m, Nat.pow_add, Nat.pow_mul, Nat.mul_mod, Nat.pow_mod (b ^ m), h1, Nat.one_pow, Nat.mod_eq_of_lt hp, Nat.one_mul, Nat.mod_mod] at h2
  exact h2
theorem pock_dvd {N q a p : Nat} (hq : IsP q) (hqN : q ∣ N - 1) (h1 : a ^ (N - 1) % N = 1) (h2 : Nat.gcd (a ^ ((N - 1) / q) % N + (N - 1)) N = 1) (hN : 1 < N) (hp : IsP p) (hd : p ∣ N) : q ∣ p - 1 := by
 apply Classical.byContradiction
 intro hno
 have hp1 := hp.1
 have hpow : ∀ e, a ^ e % N % p = a ^ e % p := by
  intro e
  obtain ⟨c, rfl⟩ := hd
  exact Nat.mod_mul_right_mod _ _ _
 have e1 : a ^ (N - 1) % p = 1 := by rw [← hpow, h1, Nat.mod_eq_of_lt hp1]
 have hnd : ¬ p ∣ a := by
  intro h
  have h0 : a ^ (N - 1) % p = 0 := by
   rw [Nat.pow_mod, Nat.mod_eq_zero_of_dvd h, Nat.zero_pow (by omega), Nat.zero_mod]
  omega
 have hf := fermat1 hp hnd
 have hb : (a ^ ((N - 1) / q)) ^ q % p = 1 := by rw [← Nat.pow_mul, Nat.div_mul_cancel hqN]; exact e1
 have hb2 : (a ^ ((N - 1) / q)) ^ (p - 1) % p = 1 := by
  rw [← Nat.pow_mul, Nat.mul_comm, Nat.pow_mul, Nat.pow_mod, hf, Nat.one_pow, Nat.mod_eq_of_lt hp1]
 have hg := pow_gcd_one hp1 q (p - 1) hb hb2
 rw [hq.cop hno, Nat.pow_one] at hg
 have hpd : p ∣ a ^ ((N - 1) / q) % N + (N - 1) := by
  apply Nat.dvd_of_mod_eq_zero
  rw [Nat.add_mod, hpow, hg]
  obtain ⟨c, hc⟩ := hd
  have hc0 : c ≠ 0 := by
   intro h
   subst h
   omega
  obtain ⟨d, rfl⟩ : ∃ d, c = d + 1 := ⟨c - 1, by omega⟩
  rw [hc, show p * (d + 1) - 1 = p - 1 + p * d by rw [Nat.mul_succ]; omega, Nat.add_mul_mod_self_left, Nat.mod_eq_of_lt (show p - 1 < p by omega), show 1 + (p - 1) = p by omega, Nat.mod_self]
 have := Nat.dvd_gcd hpd hd
 rw [h2] at this
 have := Nat.le_of_dvd (by omega) this
 omega
theorem prime_of_great {N F : Nat} (hN : 1 < N) (hF : N ≤ F * F) (h : ∀ p, IsP p → p ∣ N → F ∣ p - 1) : IsP N := by
 obtain ⟨p, hp, hd⟩ := has_prime N hN
 have hp1 := hp.1
 have h1 := Nat.le_of_dvd (by omega) (h p hp hd)
 obtain ⟨c, hc⟩ := hd
 by_cases hc1 : c = 1
 ·rw [hc, hc1, Nat.mul_one]; exact hp
 have hc0 : 0 < c := by
  rcases Nat.eq_zero_or_pos c with h | h
  ·subst h; omega
  ·exact h
 obtain ⟨r, hr, hrd⟩ := has_prime c (by omega)
 have h2 := Nat.le_of_dvd (by have := hr.1; omega) (h r hr (Nat.dvd_trans hrd ⟨p, by rw [hc, Nat.mul_comm]⟩))
 have h3 := Nat.le_of_dvd hc0 hrd
 have h4 : (F + 1) * (F + 1) ≤ p * c := Nat.mul_le_mul (by omega) (by have := hr.1; omega)
 rw [Nat.add_mul, Nat.mul_add] at h4
 omega
def pock (N q a L : Nat) : Bool :=
 decide (1 < N) && decide (N < 2 ^ L) && decide ((N - 1) % q = 0) && decide (pw a N L (N - 1) = 1) && decide (Nat.gcd (pw a N L ((N - 1) / q) + (N - 1)) N = 1)
theorem pock_said {N q a L : Nat} (hq : IsP q) (h : pock N q a L = true) : 1 < N ∧ ∀ p, IsP p → p ∣ N → q ∣ p - 1 := by
 simp only [pock, Bool.and_eq_true, decide_eq_true_eq] at h
 obtain ⟨⟨⟨⟨h0, hL⟩, h1⟩, h2⟩, h3⟩ := h
 rw [pw_eq a N L _ (by omega)] at h2
 rw [pw_eq a N L _ (by have := Nat.div_le_self (N - 1) q; omega)] at h3
 exact ⟨h0, fun p hp hd => pock_dvd hq (Nat.dvd_of_mod_eq_zero h1) h2 h3 h0 hp hd⟩
theorem pock_one {N q a L : Nat} (hq : IsP q) (h : pock N q a L = true) (hF : N ≤ q * q) : IsP N :=
 prime_of_great (pock_said hq h).1 hF (pock_said hq h).2
theorem pock_two {N q r a c L : Nat} (hq : IsP q) (hr : IsP r) (h : pock N q a L = true) (h' : pock N r c L = true) (hne : q ≠ r) (hF : N ≤ q * r * (q * r)) : IsP N :=
 prime_of_great (pock_said hq h).1 hF fun p hp hd =>
  Nat.Coprime.mul_dvd_of_dvd_of_dvd (hq.cop fun hh => by
   rcases hr.2 q hh with h | h
   ·have := hq.1; omega
   ·exact hne h) ((pock_said hq h).2 p hp hd) ((pock_said hr h').2 p hp hd)
def trial (n : Nat) : Nat → Bool
 | 0 => true
 | 1 => true
 | d + 2 => (n % (d + 2) != 0) && trial n (d + 1)
theorem trial_said {n : Nat} : ∀ k, trial n k = true → ∀ d, 1 < d → d ≤ k → ¬ d ∣ n
 | 0, _, d, h1, h2 => by omega
 | 1, _, d, h1, h2 => by omega
 | k + 2, h, d, h1, h2 => by
  simp only [trial, Bool.and_eq_true, bne_iff_ne] at h
  by_cases e : d = k + 2
  ·subst e
   intro hd
   exact h.1 (Nat.mod_eq_zero_of_dvd hd)
  ·exact trial_said (k + 1) h.2 d h1 (by omega)
theorem small_prime {n k : Nat} (hn : 1 < n) (h : trial n k = true) (hk : n < (k + 1) * (k + 1)) : IsP n := by
 refine ⟨hn, fun d hd => ?_⟩
 apply Classical.byContradiction
 intro hno
 have hd0 : 0 < d := Nat.pos_of_dvd_of_pos hd (by omega)
 obtain ⟨c, hc⟩ := hd
 have hc0 : 0 < c := by
  rcases Nat.eq_zero_or_pos c with h | h
  ·subst h; omega
  ·exact h
 by_cases h1 : d ≤ k
 ·exact trial_said k h d (by omega) h1 ⟨c, hc⟩
 by_cases h2 : c ≤ k
 ·refine trial_said k h c ?_ h2 ⟨d, by rw [hc, Nat.mul_comm]⟩
  apply Classical.byContradiction
  intro h3
  obtain rfl : c = 1 := by omega
  exact hno (.inr (by omega))
 have := Nat.mul_le_mul (show k + 1 ≤ d by omega) (show k + 1 ≤ c by omega)
 omega
end Go.Proofs.YtbejcollbkeedaaGreat.Cw
namespace Go.Proofs.YtbejcollbkeedaaGreat.Cw
theorem pr5 : IsP 3677 := small_prime (k := 60) (by decide) (by decide +kernel) (by decide)
theorem pr6 : IsP 197 := small_prime (k := 14) (by decide) (by decide +kernel) (by decide)
theorem pr4 : IsP 66417393611 := pock_two (q := 3677) (r := 197) (a := 2) (c := 2) (L := 36) pr5 pr6 (by decide +kernel) (by decide +kernel) (by decide) (by decide +kernel)
theorem pr3 : IsP 11290956913871 := pock_one (q := 66417393611) (a := 2) (L := 44) pr4 (by decide +kernel) (by decide +kernel)
theorem pr9 : IsP 3769 := small_prime (k := 61) (by decide) (by decide +kernel) (by decide)
theorem pr10 : IsP 107 := small_prime (k := 10) (by decide) (by decide +kernel) (by decide)
theorem pr8 : IsP 204061199 := pock_two (q := 3769) (r := 107) (a := 2) (c := 2) (L := 28) pr9 pr10 (by decide +kernel) (by decide +kernel) (by decide) (by decide +kernel)
theorem pr7 : IsP 34282281433 := pock_one (q := 204061199) (a := 2) (L := 35) pr8 (by decide +kernel) (by decide +kernel)
theorem pr2 : IsP 774023187263532362759620327192479577272145303 := pock_two (q := 11290956913871) (r := 34282281433) (a := 2) (c := 2) (L := 150) pr3 pr7 (by decide +kernel) (by decide +kernel) (by decide) (by decide +kernel)
theorem pr1 : IsP 835945042244614951780389953367877943453916927241 := pock_one (q := 774023187263532362759620327192479577272145303) (a := 2) (L := 160) pr2 (by decide +kernel) (by decide +kernel)
theorem pr0 : IsP 115792089210356248762697446949407573530086143415290314195533631308867097853951 := pock_one (q := 835945042244614951780389953367877943453916927241) (a := 2) (L := 256) pr1 (by decide +kernel) (by decide +kernel)
theorem prime_p256 : IsP 0xffffffff00000001000000000000000000000000ffffffffffffffffffffffff := pr0
theorem pr21 : IsP 363557 := small_prime (k := 602) (by decide) (by decide +kernel) (by decide)
theorem pr20 : IsP 532247449 := pock_one (q := 363557) (a := 2) (L := 29) pr21 (by decide +kernel) (by decide +kernel)
theorem pr19 : IsP 44925942675193 := pock_one (q := 532247449) (a := 2) (L := 46) pr20 (by decide +kernel) (by decide +kernel)
theorem pr18 : IsP 35581458644053887931343 := pock_one (q := 44925942675193) (a := 2) (L := 75) pr19 (by decide +kernel) (by decide +kernel)
theorem pr17 : IsP 23964610537191310276190549303 := pock_one (q := 35581458644053887931343) (a := 2) (L := 95) pr18 (by decide +kernel) (by decide +kernel)
theorem pr16 : IsP 862725979338887169942859774909 := pock_one (q := 23964610537191310276190549303) (a := 2) (L := 100) pr17 (by decide +kernel) (by decide +kernel)
theorem pr15 : IsP 20705423504133292078628634597817 := pock_one (q := 862725979338887169942859774909) (a := 2) (L := 105) pr16 (by decide +kernel) (by decide +kernel)
theorem pr14 : IsP 413244619895455989650825325680172591660047 := pock_one (q := 20705423504133292078628634597817) (a := 2) (L := 139) pr15 (by decide +kernel) (by decide +kernel)
theorem pr13 : IsP 12397338596863679689524759770405177749801411 := pock_one (q := 413244619895455989650825325680172591660047) (a := 2) (L := 144) pr14 (by decide +kernel) (by decide +kernel)
theorem pr24 : IsP 21407 := small_prime (k := 146) (by decide) (by decide +kernel) (by decide)
theorem pr23 : IsP 246608641 := pock_one (q := 21407) (a := 2) (L := 28) pr24 (by decide +kernel) (by decide +kernel)
theorem pr26 : IsP 881 := small_prime (k := 29) (by decide) (by decide +kernel) (by decide)
theorem pr27 : IsP 211 := small_prime (k := 14) (by decide) (by decide +kernel) (by decide)
theorem pr25 : IsP 105957871 := pock_two (q := 881) (r := 211) (a := 2) (c := 2) (L := 27) pr26 pr27 (by decide +kernel) (by decide +kernel) (by decide) (by decide +kernel)
theorem pr22 : IsP 529709925838459440593 := pock_two (q := 246608641) (r := 105957871) (a := 2) (c := 2) (L := 69) pr23 pr25 (by decide +kernel) (by decide +kernel) (by decide) (by decide +kernel)
theorem pr12 : IsP 19173790298027098165721053155794528970226934547887232785722672956982046098136719667167519737147526097 := pock_two (q := 12397338596863679689524759770405177749801411) (r := 529709925838459440593) (a := 2) (c := 2) (L := 334) pr13 pr22 (by decide +kernel) (by decide +kernel) (by decide) (by decide +kernel)
theorem pr11 : IsP 39402006196394479212279040100143613805079739270465446667948293404245721771496870329047266088258938001861606973112319 := pock_one (q := 19173790298027098165721053155794528970226934547887232785722672956982046098136719667167519737147526097) (a := 2) (L := 384) pr12 (by decide +kernel) (by decide +kernel)
theorem prime_p384 : IsP 0xfffffffffffffffffffffffffffffffffffffffffffffffffffffffffffffffeffffffff0000000000000000ffffffff := pr11
end Go.Proofs.YtbejcollbkeedaaGreat.Cw
namespace Go.Proofs.YtbejcollbkeedaaGreat.Cw
open Lean.Grind
section
variable {p : Nat} [NeZero p]
def zp (p : Nat) [NeZero p] (a : Nat) : Fin p := Fin.ofNat p a
theorem zp_val (a : Nat) : (zp p a).val = a % p := rfl
theorem zp_eq {a b : Nat} (h : a % p = b % p) : zp p a = zp p b := Fin.ext h
theorem zp_of {a b : Nat} (h : zp p a = zp p b) : a % p = b % p := congrArg Fin.val h
theorem zp_mod (a : Nat) : zp p (a % p) = zp p a := zp_eq (Nat.mod_mod _ _)
theorem zp_add (a b : Nat) : zp p (a + b) = zp p a + zp p b := by
 apply Fin.ext
 rw [Fin.add_def]
 simp only [zp_val]
 exact Nat.add_mod a b p
theorem zp_mul (a b : Nat) : zp p (a * b) = zp p a * zp p b := by
 apply Fin.ext
 rw [Fin.mul_def]
 simp only [zp_val]
 exact Nat.mul_mod a b p
theorem zp_p : zp p p = 0 := Fin.ext (by rw [zp_val, Nat.mod_self]; rfl)
theorem zp_0 : zp p 0 = 0 := rfl
theorem zp_1 : zp p 1 = 1 := rfl
theorem zp_self (x : Fin p) : zp p x.val = x := Fin.ext (Nat.mod_eq_of_lt x.isLt)
theorem zp_inj {a b : Nat} (ha : a < p) (hb : b < p) (h : zp p a = zp p b) : a = b := by
 have := zp_of h
 rwa [Nat.mod_eq_of_lt ha, Nat.mod_eq_of_lt hb] at this
theorem zp_eq0 {a : Nat} (ha : a < p) (h : zp p a = 0) : a = 0 := zp_inj ha (by omega) (by rw [h]; rfl)
theorem zp_sub {a b : Nat} (h : b ≤ a) : zp p (a - b) = zp p a - zp p b := by
 have e := zp_add (p := p) (a - b) b
 rw [Nat.sub_add_cancel h] at e
 rw [e]
 generalize zp p (a - b) = x
 generalize zp p b = y
 grind
theorem three_is {K : Type} [CommRing K] : (1 : K) + 1 + 1 = 3 := by grind
theorem zp_3 : zp p 3 = 3 := by
 have h2 : zp p 3 = zp p 1 + zp p 1 + zp p 1 := by rw [← zp_add, ← zp_add]
 rw [h2, zp_1]
 exact three_is
theorem fp_dom (hp : IsP p) (x y : Fin p) (h : x * y = 0) : x = 0 ∨ y = 0 := by
 have h1 : x.val * y.val % p = 0 := by
  have := congrArg Fin.val h
  rw [Fin.mul_def] at this
  exact this
 have hd := Nat.dvd_of_mod_eq_zero h1
 by_cases hx : p ∣ x.val
 ·left
  apply Fin.ext
  exact Nat.eq_zero_of_dvd_of_lt hx x.isLt
 ·right
  apply Fin.ext
  exact Nat.eq_zero_of_dvd_of_lt ((hp.cop hx).dvd_of_dvd_mul_left hd) y.isLt
theorem fp_inv (hp : IsP p) (x : Fin p) (h : x ≠ 0) : x * zp p (x.val ^ (p - 2)) = 1 := by
 have hx : ¬ p ∣ x.val := fun hd => h (Fin.ext (Nat.eq_zero_of_dvd_of_lt hd x.isLt))
 have hf := fermat1 hp hx
 have hp1 := hp.1
 apply Fin.ext
 rw [Fin.mul_def]
 show x.val * (x.val ^ (p - 2) % p) % p = 1 % p
 rw [← Nat.mod_eq_of_lt x.isLt, ← Nat.mul_mod, Nat.mod_eq_of_lt x.isLt, Nat.mul_comm, ← Nat.pow_succ, show (p - 2).succ = p - 1 by omega, hf, Nat.mod_eq_of_lt hp1]
def qm (p b : Nat) (u v : Nat × Nat × Nat) : Nat × Nat × Nat :=
 ((u.1 * v.1 + (p - b) * (u.2.1 * v.2.2 + u.2.2 * v.2.1)) % p,
  (u.1 * v.2.1 + u.2.1 * v.1 + 3 * (u.2.1 * v.2.2 + u.2.2 * v.2.1) + (p - b) * (u.2.2 * v.2.2)) % p,
  (u.1 * v.2.2 + u.2.1 * v.2.1 + u.2.2 * v.1 + 3 * (u.2.2 * v.2.2)) % p)
def qev (p : Nat) [NeZero p] (x : Fin p) (u : Nat × Nat × Nat) : Fin p := zp p u.1 + zp p u.2.1 * x + zp p u.2.2 * (x * x)
theorem qm_ev {b : Nat} (hb : b ≤ p) {x : Fin p} (h : x * x * x - 3 * x + zp p b = 0) (u v : Nat × Nat × Nat) : qev p x (qm p b u v) = qev p x u * qev p x v := by
 obtain ⟨a0, a1, a2⟩ := u
 obtain ⟨c0, c1, c2⟩ := v
 simp only [qev, qm, zp_mod, zp_add, zp_mul, zp_sub hb, zp_p, zp_3]
 generalize zp p a0 = A0 at *
 generalize zp p a1 = A1 at *
 generalize zp p a2 = A2 at *
 generalize zp p c0 = C0 at *
 generalize zp p c1 = C1 at *
 generalize zp p c2 = C2 at *
 generalize zp p b = B at *
 grind
def qpw (p b : Nat) (u : Nat × Nat × Nat) : Nat → Nat → Nat × Nat × Nat
 | 0, _ => (1, 0, 0)
 | f + 1, e => if e % 2 = 1 then qm p b (qm p b (qpw p b u f (e / 2)) (qpw p b u f (e / 2))) u else qm p b (qpw p b u f (e / 2)) (qpw p b u f (e / 2))
theorem pow_zp (x : Nat) (e : Nat) : zp p (x ^ (2 * e)) = zp p (x ^ e) * zp p (x ^ e) := by
 rw [← zp_mul, ← Nat.pow_add, Nat.two_mul]
theorem qpw_ev {b : Nat} (hb : b ≤ p) {x : Fin p} (h : x * x * x - 3 * x + zp p b = 0) (u : Nat × Nat × Nat) (hu : qev p x u = x) : ∀ f e, e < 2 ^ f → qev p x (qpw p b u f e) = zp p (x.val ^ e)
 | 0, e, he => by
  obtain rfl : e = 0 := by simp at he; exact he
  simp only [qpw, qev, Nat.pow_zero, zp_1, zp_0]
  generalize (1 : Fin p) = o
  grind
 | f + 1, e, he => by
  have ih := qpw_ev hb h u hu f (e / 2) (by rw [Nat.pow_succ] at he; omega)
  rw [qpw]
  split
  ·next h1 =>
   rw [qm_ev hb h, qm_ev hb h, ih, hu, ← pow_zp]
   obtain ⟨k, rfl⟩ : ∃ k, e = 2 * k + 1 := ⟨e / 2, by omega⟩
   rw [show (2 * k + 1) / 2 = k by omega, Nat.pow_succ, zp_mul, zp_self]
  ·next h1 =>
   rw [qm_ev hb h, ih, ← pow_zp]
   obtain ⟨k, rfl⟩ : ∃ k, e = 2 * k := ⟨e / 2, by omega⟩
   rw [show 2 * k / 2 = k by omega]
def rootless (p b L : Nat) (v : Nat × Nat × Nat) : Bool :=
 decide (p < 2 ^ L) && decide (b ≤ p) && decide (qm p b v ((qpw p b (0, 1, 0) L p).1, (qpw p b (0, 1, 0) L p).2.1 + (p - 1), (qpw p b (0, 1, 0) L p).2.2) = (1, 0, 0))
theorem noroot_of (hp : IsP p) {b L : Nat} {v : Nat × Nat × Nat} (h : rootless p b L v = true) (x : Fin p) : x * x * x - 3 * x + zp p b ≠ 0 := by
 intro hx
 simp only [rootless, Bool.and_eq_true, decide_eq_true_eq] at h
 obtain ⟨⟨hL, hb⟩, hv⟩ := h
 have hp1 := hp.1
 have he := qpw_ev hb hx (0, 1, 0) (by simp only [qev, zp_0, zp_1]; grind) L p hL
 have hf : zp p (x.val ^ p) = x := by
  apply Fin.ext
  rw [zp_val, fermat hp, Nat.mod_eq_of_lt x.isLt]
 rw [hf] at he
 have hm := qm_ev hb hx v ((qpw p b (0, 1, 0) L p).1, (qpw p b (0, 1, 0) L p).2.1 + (p - 1), (qpw p b (0, 1, 0) L p).2.2)
 rw [hv] at hm
 generalize qpw p b (0, 1, 0) L p = g at *
 have e1 : qev p x (g.1, g.2.1 + (p - 1), g.2.2) = qev p x g - x := by
  simp only [qev, zp_add, zp_sub (Nat.le_of_lt hp1), zp_p, zp_1]
  grind
 rw [e1, he] at hm
 have e2 : qev p x (1, 0, 0) = 1 := by simp only [qev, zp_0, zp_1]; grind
 rw [e2] at hm
 have e3 : (1 : Fin p) = 0 := by rw [hm]; grind
 have := congrArg Fin.val e3
 rw [show (1 : Fin p).val = 1 % p from rfl, Nat.mod_eq_of_lt hp1, show (0 : Fin p).val = 0 from rfl] at this
 exact absurd this (by decide)
def cvOf (hp : IsP p) (h2 : 2 < p) {b L : Nat} {v : Nat × Nat × Nat} (h : rootless p b L v = true) : Cv (Fin p) (zp p b) where
 dom := fp_dom hp
 iv x := zp p (x.val ^ (p - 2))
 inv := fp_inv hp
 two h := by
  have := congrArg Fin.val h
  have e : (2 : Fin p).val = 2 % p := rfl
  rw [e, Nat.mod_eq_of_lt h2, show (0 : Fin p).val = 0 from rfl] at this
  exact absurd this (by decide)
 noroot := noroot_of hp h
end
end Go.Proofs.YtbejcollbkeedaaGreat.Cw
namespace Go.Proofs.YtbejcollbkeedaaGreat
structure Crv where
 size : Nat
 p : Nat
 b : Nat
 n : Nat
 gx : Nat
 gy : Nat
def crv256 : Crv := ⟨32, 0xffffffff00000001000000000000000000000000ffffffffffffffffffffffff, 0x5ac635d8aa3a93e7b3ebbd55769886bc651d06b0cc53b0f63bce3c3e27d2604b, 0xffffffff00000000ffffffffffffffffbce6faada7179e84f3b9cac2fc632551, 0x6b17d1f2e12c4247f8bce6e563a440f277037d812deb33a0f4a13945d898c296, 0x4fe342e2fe1a7f9b8ee7eb4a7c0f9e162bce33576b315ececbb6406837bf51f5⟩
def crv384 : Crv := ⟨48, 0xfffffffffffffffffffffffffffffffffffffffffffffffffffffffffffffffeffffffff0000000000000000ffffffff, 0xb3312fa7e23ee7e4988e056be3f82d19181d9c6efe8141120314088f5013875ac656398d8a2ed19d2a85c8edd3ec2aef, 0xffffffffffffffffffffffffffffffffffffffffffffffffc7634d81f4372ddf581a0db248b0a77aecec196accc52973, 0xaa87ca22be8b05378eb1c71ef320ad746e1d3b628ba79b9859f741e082542a385502f25dbf55296c3a545e3872760ab7, 0x3617de4a96262c6f5d9e98bf9292dc29f8f41dbd289a147ce9da3113b5f0b8c00a60b1ce1d7e819d7a431d7c90ea0e5f⟩
end Go.Proofs.YtbejcollbkeedaaGreat
namespace Go.Proofs.YtbejcollbkeedaaGreat
open Go.RowKit
theorem Nu.one {w : World} {v : Value} {k : Nat} (h : Nu w v k) : v.oneCell' = true := by
 obtain ⟨xs, A, n, c, rfl, _⟩ := h
 rfl
theorem Nu.sl {w : World} {v : Value} {k : Nat} (h : Nu w v k) : ∃ A n c, v = .slice A n c := by
 obtain ⟨xs, A, n, c, e, _⟩ := h
 exact ⟨A, n, c, e⟩
theorem NumR.one {w : World} {K p : Nat} {v : Value} (h : NumR w K p v) : v.oneCell' = true := by
 obtain ⟨xs, A, n, c, rfl, _⟩ := h
 rfl
theorem Tryz.sizeDom : (Tryz.prog.info? 73).map (·.size) = some 7 := by kernel_rfl
theorem Tryz.sizePt : (Tryz.prog.info? 26).map (·.size) = some 3 := by kernel_rfl
theorem Tryz.sizeRt : (Tryz.prog.info? 79).map (·.size) = some 3 := by kernel_rfl
theorem results_dom {fn : Func} {q : Tmp} {w : World} (h : fn.results = #[.cell q 73]) (tmps : Array Value) (g : Nat) (vs : List Value) (hp : tmps.getD q undef = .pointer (some ⟨g, 0, none⟩)) (hr : RowV 73 w g vs) (hl : vs.length = 7) :
  (results fn tmps).run Tryz.prog w = .ok (.agg vs.toArray) w :=
 results_cell_row h tmps w g _ vs.toArray (0, 0) _ hp hr Tryz.underlying73 rfl (by rw [Tryz.sizeDom]; simp [hl])
theorem results_pt {fn : Func} {q : Tmp} {w : World} (h : fn.results = #[.cell q 26]) (tmps : Array Value) (g : Nat) (vs : List Value) (hp : tmps.getD q undef = .pointer (some ⟨g, 0, none⟩)) (hr : RowV 26 w g vs) (hl : vs.length = 3) :
  (results fn tmps).run Tryz.prog w = .ok (.agg vs.toArray) w :=
 results_cell_row h tmps w g _ vs.toArray (0, 0) _ hp hr Tryz.underlying26 rfl (by rw [Tryz.sizePt]; simp [hl])
theorem results_rt {fn : Func} {q : Tmp} {w : World} (h : fn.results = #[.cell q 79]) (tmps : Array Value) (g : Nat) (vs : List Value) (hp : tmps.getD q undef = .pointer (some ⟨g, 0, none⟩)) (hr : RowV 79 w g vs) (hl : vs.length = 3) :
  (results fn tmps).run Tryz.prog w = .ok (.agg vs.toArray) w :=
 results_cell_row h tmps w g _ vs.toArray (0, 0) _ hp hr Tryz.underlying79 rfl (by rw [Tryz.sizeRt]; simp [hl])
theorem results_dom2 {fn : Func} {q u : Tmp} {w : World} (h : fn.results = #[.cell q 73, .tmp u]) (tmps : Array Value) (g : Nat) (vs : List Value) (hp : tmps.getD q undef = .pointer (some ⟨g, 0, none⟩)) (hr : RowV 73 w g vs) (hl : vs.length = 7) :
  (results fn tmps).run Tryz.prog w = .ok (.tuple #[.agg vs.toArray, tmps.getD u undef]) w := by
 rw [results_cell_tmp h, hp]
 simp [asAddr, run_loadVar_row w g _ _ vs.toArray (0, 0) _ hr Tryz.underlying73 rfl (by rw [Tryz.sizeDom]; simp [hl])]
theorem results_pt2 {fn : Func} {q u : Tmp} {w : World} (h : fn.results = #[.cell q 26, .tmp u]) (tmps : Array Value) (g : Nat) (vs : List Value) (hp : tmps.getD q undef = .pointer (some ⟨g, 0, none⟩)) (hr : RowV 26 w g vs) (hl : vs.length = 3) :
  (results fn tmps).run Tryz.prog w = .ok (.tuple #[.agg vs.toArray, tmps.getD u undef]) w := by
 rw [results_cell_tmp h, hp]
 simp [asAddr, run_loadVar_row w g _ _ vs.toArray (0, 0) _ hr Tryz.underlying26 rfl (by rw [Tryz.sizePt]; simp [hl])]
theorem wlS_store {P : Program} {w : World} {ops : Array Oper} {rest : List Oper} {o : Oper} {a : Act} {Q : Exit → Act → World → Prop} (hgd : o.guard = none) (ty n : Nat) (hi : (P.info? ty).map (·.size) = some n) (x y : Operand) (ho : o.op = .store ty x y) (g : Nat) (vs' : List Value) (hx : a.eval x = .pointer (some ⟨g, 0, none⟩)) (hy : a.eval y = .agg vs'.toArray) (t : TypeId) (vs : List Value) (hr : RowV t w g vs) (hl : vs.length = n) (hl' : vs'.length = n) (h1 : Ones vs')
  (h : ∀ w', RowV t w' g vs' → w.grownBy w' (some g) → w'.heap.size = w.heap.size → wpList P ops Q rest (a.put o.dst undef) w') : wpList P ops Q (o :: rest) a w := by
 refine wpList_store_row hgd ty x y ho g vs'.toArray hx hy t vs.toArray hr (by rw [hi, ← hl']; simp) (by simp; omega) (by simp; exact fun v hv => h1 v hv) ?_
 exact h _ (setRow_heap w g _ vs'.toArray t _ hr) ⟨rfl, rfl, rfl, by simp [World.setRow], fun i hi hn => setRow_other w g i _ (fun e => hn (by rw [e]))⟩ (by simp [World.setRow])
theorem exec_store {P : Program} {w : World} {o : Oper} {a : Act} (ty n : Nat) (hi : (P.info? ty).map (·.size) = some n) (x y : Operand) (ho : o.op = .store ty x y) (g : Nat) (vs' : List Value) (hx : a.eval x = .pointer (some ⟨g, 0, none⟩)) (hy : a.eval y = .agg vs'.toArray) (t : TypeId) (vs : List Value) (hr : RowV t w g vs) (hl : vs.length = n) (hl' : vs'.length = n) (h1 : Ones vs') :
  ∃ w', (execOp a.eval o).run P w = .ok .skip w' ∧ RowV t w' g vs' ∧ w.grownBy w' (some g) := by
 refine ⟨w.setRow g vs'.toArray, ?_, setRow_heap w g _ vs'.toArray t _ hr, ⟨rfl, rfl, rfl, by simp [World.setRow], fun i hi hn => setRow_other w g i _ (fun e => hn (by rw [e]))⟩⟩
 unfold execOp
 simp only [ho, hx, hy, Instr.storeAt, Instr.sureAddr, Sem.run_bind, Sem.run_pure, Result.andThen_ok, run_storeVar_row w g t ty vs.toArray vs'.toArray hr (by rw [hi, ← hl']; simp) (by simp; omega) (by simp; exact fun v hv => h1 v hv)]
theorem exec_load {P : Program} {w : World} {o : Oper} {a : Act} (ty n : Nat) (d : TypeDesc) (hu : P.underlying ty = some d) (hd : (match d with | .struct _ | .array _ _ => true | _ => false) = true) (hi : (P.info? ty).map (·.size) = some n) (x : Operand) (ho : o.op = .load ty x) (g : Nat) (vs : List Value) (hx : a.eval x = .pointer (some ⟨g, 0, none⟩)) (t : TypeId) (hr : RowV t w g vs) (hl : vs.length = n) :
  (execOp a.eval o).run P w = .ok (.value (.agg vs.toArray)) w := by
 unfold execOp
 simp only [ho, hx, Instr.loadAt, Instr.sureAddr, Sem.run_bind, Sem.run_pure, Result.andThen_ok, run_loadVar_row w g t ty vs.toArray (0, 0) d hr hu hd (by rw [hi, ← hl]; simp)]
theorem RowV.grown {t : TypeId} {w w' : World} {g gr : Nat} {vs : List Value} (h : RowV t w g vs) (hg : w.grownBy w' (some gr)) (hne : g ≠ gr) : RowV t w' g vs := (hg.block g h.lt (fun e => by injection e with e; exact hne e)).trans h
theorem noU3 {a b c : Value} (ha : ∀ x, a ≠ .int .u64 x) (hb : ∀ x, b ≠ .int .u64 x) (hc : ∀ x, c ≠ .int .u64 x) : ∀ v ∈ [a, b, c], ∀ x, v ≠ .int .u64 x := by
 intro v hv x
 simp only [List.mem_cons, List.not_mem_nil, or_false] at hv
 rcases hv with rfl | rfl | rfl
 ·exact ha x
 ·exact hb x
 ·exact hc x
theorem ones3 {a b c : Value} (ha : a.oneCell' = true) (hb : b.oneCell' = true) (hc : c.oneCell' = true) : Ones [a, b, c] := by
 intro v hv
 simp only [List.mem_cons, List.not_mem_nil, or_false] at hv
 rcases hv with rfl | rfl | rfl
 ·exact ha
 ·exact hb
 ·exact hc
theorem NoU.of_row {t : TypeId} {w : World} {g : Nat} {vs : List Value} (hr : RowV t w g vs) (h : ∀ v ∈ vs, ∀ x, v ≠ .int .u64 x) : NoU w g := by
 intro off x hx
 rw [hr.cell] at hx
 exact h _ (List.mem_of_getElem? hx) x rfl
theorem below_grown {a w w' : World} {B g : Nat} (h : Below B a w) (hg : w.grownBy w' (some g)) (hB : B ≤ g) (hs : B ≤ w.heap.size) : Below B a w' :=
 h.trans ⟨hg.os, hg.tape, hg.output, hg.size, fun i hi => hg.block i (by omega) (fun e => by injection e; omega)⟩
theorem newS (w : World) (t : TypeId) (vs : List Value) (arr : Array Value) (he : vs.toArray = arr) : ∃ W, w.alloc (.cells arr t) = W ∧ RowV t W w.heap.size vs ∧ Below w.heap.size w W ∧ W.heap.size = w.heap.size + 1 := newV w t vs arr he
def Dm (w : World) (v : Value) (D : Crv) : Prop := ∃ vp vb vn vx vy, v = .agg #[.int .i64 (D.size : Int), vp, vb, vn, .bool false, vx, vy] ∧ Nu w vp D.p ∧ Nu w vb D.b ∧ Nu w vn D.n ∧ Nu w vx D.gx ∧ Nu w vy D.gy
theorem Dm.sb {w w' : World} {v : Value} {D : Crv} (h : Dm w v D) (hb : Sb w w') : Dm w' v D := by
 obtain ⟨vp, vb, vn, vx, vy, e, h1, h2, h3, h4, h5⟩ := h
 exact ⟨vp, vb, vn, vx, vy, e, h1.sb hb, h2.sb hb, h3.sb hb, h4.sb hb, h5.sb hb⟩
theorem Dm.later {w w' : World} {v : Value} {D : Crv} (h : Dm w v D) (hb : Below w.heap.size w w') : Dm w' v D := h.sb (Sb.of_below hb)
def Rt (w : World) (v : Value) (T : Nat × Nat × Nat) : Prop := ∃ a b c, v = .agg #[a, b, c] ∧ Nu w a T.1 ∧ Nu w b T.2.1 ∧ Nu w c T.2.2
theorem Rt.sb {w w' : World} {v : Value} {T : Nat × Nat × Nat} (h : Rt w v T) (hb : Sb w w') : Rt w' v T := by
 obtain ⟨a, b, c, e, h1, h2, h3⟩ := h
 exact ⟨a, b, c, e, h1.sb hb, h2.sb hb, h3.sb hb⟩
theorem Rt.later {w w' : World} {v : Value} {T : Nat × Nat × Nat} (h : Rt w v T) (hb : Below w.heap.size w w') : Rt w' v T := h.sb (Sb.of_below hb)
def Pt (w : World) (v : Value) : Option (Nat × Nat) → Prop
 | none => ∃ a b, v = .agg #[.bool true, a, b] ∧ Nu w a 0 ∧ Nu w b 0
 | some (x, y) => ∃ a b, v = .agg #[.bool false, a, b] ∧ Nu w a x ∧ Nu w b y
theorem Pt.sb {w w' : World} {v : Value} {P : Option (Nat × Nat)} (h : Pt w v P) (hb : Sb w w') : Pt w' v P := by
 rcases P with _ | ⟨x, y⟩
 ·obtain ⟨a, b, e, h1, h2⟩ := h
  exact ⟨a, b, e, h1.sb hb, h2.sb hb⟩
 ·obtain ⟨a, b, e, h1, h2⟩ := h
  exact ⟨a, b, e, h1.sb hb, h2.sb hb⟩
theorem Pt.later {w w' : World} {v : Value} {P : Option (Nat × Nat)} (h : Pt w v P) (hb : Below w.heap.size w w') : Pt w' v P := h.sb (Sb.of_below hb)
def Pg (w : World) (v : Value) : Option (Nat × Nat) → Prop
 | none => ∃ a b, v = .agg #[.bool true, a, b] ∧ a.oneCell' = true ∧ b.oneCell' = true
 | some (x, y) => ∃ a b, v = .agg #[.bool false, a, b] ∧ NumR w 64 x a ∧ NumR w 64 y b
theorem Pg.sb {w w' : World} {v : Value} {P : Option (Nat × Nat)} (h : Pg w v P) (hb : Sb w w') : Pg w' v P := by
 rcases P with _ | ⟨x, y⟩
 ·exact h
 ·obtain ⟨a, b, e, h1, h2⟩ := h
  exact ⟨a, b, e, h1.sb hb, h2.sb hb⟩
theorem Pg.later {w w' : World} {v : Value} {P : Option (Nat × Nat)} (h : Pg w v P) (hb : Below w.heap.size w w') : Pg w' v P := h.sb (Sb.of_below hb)
theorem Pt.pg {w : World} {v : Value} {P : Option (Nat × Nat)} (h : Pt w v P) : Pg w v P := by
 rcases P with _ | ⟨x, y⟩
 ·obtain ⟨a, b, e, h1, h2⟩ := h
  exact ⟨a, b, e, h1.one, h2.one⟩
 ·obtain ⟨a, b, e, h1, h2⟩ := h
  exact ⟨a, b, e, h1.gu, h2.gu⟩
end Go.Proofs.YtbejcollbkeedaaGreat
