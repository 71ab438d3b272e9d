/- Parts of one proof, joined: WPt, RvB, TreeG, WCv, WCw, WCx, TreeS, WCy. -/
import Derived.Test.YtbejcollbkeedaaPileS8
import Derived.Test.YtbejcollbkeedaaPileS7
import Derived.Test.YtbejcollbkeedaaPileS4
import Derived.Test.YtbejcollbkeedaaPileS1
import Derived.Test.YtbejcollbkeedaaPileS5
import Derived.Test.YtbejcollbkeedaaPileS6
set_option linter.unusedVariables false
set_option linter.unusedSimpArgs false
set_option linter.unusedSectionVars false
set_option maxRecDepth 100000
set_option maxHeartbeats 8000000
open Go.Lib (hid)
namespace Go.Proofs.Ytbejcollbkeedaa
open Go.RowKit
def CutS (V : World) (v : Value) (xs : List Nat) : Prop := ∃ A n c, v = .slice A n c ∧ Sl V V.heap.size A n c xs
theorem CutS.later {V V' : World} {v : Value} {xs : List Nat} (h : CutS V v xs) (hb : Below V.heap.size V V') : CutS V' v xs := by
 obtain ⟨A, n, c, e, hs⟩ := h
 exact ⟨A, n, c, e, hs.sb (Sb.of_below hb)⟩
theorem cut_c (w : World) (A : Option Addr) (n c : Nat) (xs : List Nat) (hs : Sl w w.heap.size A n c xs) (k : Nat) (hk : k ≤ 1000) :
  Calls Try.prog 5 #[.slice A n c, .int .i64 k] w fun e w' => ∃ v, e = .returned v ∧ CutS w' v (xs.take k) ∧ Below w.heap.size w w' := by
 refine (cut_any w _ A n c xs hs k (by omega)).mono ?_
 rintro e w' ⟨A', n', c', rfl, h1, h2⟩
 exact ⟨_, rfl, ⟨_, _, _, rfl, h1⟩, h2⟩
theorem CutS.num {w : World} {v : Value} {xs : List Nat} (h : CutS w v xs) (hd : Dg b64 xs) (hl : xs.length ≤ 64) : NumR w 64 (V b64 xs) v := by
 obtain ⟨A, n, c, rfl, hs⟩ := h
 exact ⟨xs, A, n, c, rfl, hs, hd, rfl, by rw [hs.len]; exact hl⟩
theorem is_u (w : World) (v v' : Value) (k : Nat) (h : Nu w v k) (h' : Nb w v' k) : Calls Try.prog 31 #[v, v'] w fun e w' => RetV w (.bool true) e w' := by
 obtain ⟨xs, A, n, c, rfl, hs, hn, hl⟩ := h
 obtain ⟨ys, A2, n2, c2, rfl, hs2, hn2, hl2⟩ := h'
 exact is_any w _ (Nat.le_refl _) A n c xs hs A2 n2 c2 ys hs2 k hn hn2 (by omega)
theorem is9_true (w : World) (a b c d : Value) (x y : Nat) (h1 : Nu w a x) (h2 : Nu w b y) (h3 : Nb w c x) (h4 : Nb w d y) :
  Calls Try.prog 14 #[.agg #[.bool true, a, b], .agg #[.bool true, c, d]] w fun e w' => RetV w (.bool true) e w' := by
 obtain ⟨Aa, na, ca, rfl⟩ := h1.sl
 obtain ⟨Ab, nb, cb, rfl⟩ := h2.sl
 obtain ⟨Ac, nc, cc, rfl⟩ := h3.sl
 obtain ⟨Ad, nd, cd, rfl⟩ := h4.sl
 obtain ⟨W0, e0, r0, b0, z0⟩ := newS w 31 [.bool true, .slice Aa na ca, .slice Ab nb cb] _ rfl
 obtain ⟨W1, e1, r1, b1, z1⟩ := newS W0 42 [.bool true, .slice Ac nc cc, .slice Ad nd cd] _ rfl
 have r01 := r0.later b1
 have hb := b0.trans (b1.mono b0.size)
 have HB := hid hb
 have H1 := hid (is_u W1 _ _ x (h1.later hb) (h3.later hb))
 have H2 := hid (h2.later hb)
 have H4 := hid (h4.later hb)
 obtain ⟨g0, hg0⟩ : ∃ g, w.heap.size = g := ⟨_, rfl⟩
 obtain ⟨g1, hg1⟩ : ∃ g, W0.heap.size = g := ⟨_, rfl⟩
 rw [hg0] at r01
 rw [hg1] at r1
 have R0 := hid r01
 have R1 := hid r1
 have a0 := r01.at_ (i := 0) rfl
 have a1 := r01.at_ (i := 1) rfl
 have c0 := r1.at_ (i := 0) rfl
 have c1 := r1.at_ (i := 1) rfl
 clear h1 h2 h3 h4 r0 r1 r01 b0 b1 z0 z1 hb
 go_enter Try.func14, Try.ntmps14
 go_wp2_with fail
 refine H1.out.mono ?_
 rintro e w2 ⟨rfl, hb2⟩
 have a2 := (R0.out.later hb2).at_ (i := 2) rfl
 have c2 := (R1.out.later hb2).at_ (i := 2) rfl
 have H5 := hid (is_u w2 _ _ y (H2.out.later hb2) (H4.out.later hb2))
 have HB2 := hid (HB.out.trans (hb2.mono HB.out.size))
 clear hb2 a0 a1 c0 c1 R0 R1 H2 H4 HB
 go_wp2_with fail
 refine H5.out.mono ?_
 rintro e w3 ⟨rfl, hb3⟩
 have HB3 := hid (HB2.out.trans (hb3.mono HB2.out.size))
 clear hb3 a2 c2 HB2
 go_wp2
 go_ret
 exact ⟨rfl, HB3.out⟩
theorem is9_false (w : World) (a b c d : Value) (x y : Nat) (h1 : Nu w a x) (h2 : Nu w b y) (h3 : Nb w c x) (h4 : Nb w d y) :
  Calls Try.prog 14 #[.agg #[.bool false, a, b], .agg #[.bool false, c, d]] w fun e w' => RetV w (.bool true) e w' := by
 obtain ⟨Aa, na, ca, rfl⟩ := h1.sl
 obtain ⟨Ab, nb, cb, rfl⟩ := h2.sl
 obtain ⟨Ac, nc, cc, rfl⟩ := h3.sl
 obtain ⟨Ad, nd, cd, rfl⟩ := h4.sl
 obtain ⟨W0, e0, r0, b0, z0⟩ := newS w 31 [.bool false, .slice Aa na ca, .slice Ab nb cb] _ rfl
 obtain ⟨W1, e1, r1, b1, z1⟩ := newS W0 42 [.bool false, .slice Ac nc cc, .slice Ad nd cd] _ rfl
 have r01 := r0.later b1
 have hb := b0.trans (b1.mono b0.size)
 have HB := hid hb
 have H1 := hid (is_u W1 _ _ x (h1.later hb) (h3.later hb))
 have H2 := hid (h2.later hb)
 have H4 := hid (h4.later hb)
 obtain ⟨g0, hg0⟩ : ∃ g, w.heap.size = g := ⟨_, rfl⟩
 obtain ⟨g1, hg1⟩ : ∃ g, W0.heap.size = g := ⟨_, rfl⟩
 rw [hg0] at r01
 rw [hg1] at r1
 have R0 := hid r01
 have R1 := hid r1
 have a0 := r01.at_ (i := 0) rfl
 have a1 := r01.at_ (i := 1) rfl
 have c0 := r1.at_ (i := 0) rfl
 have c1 := r1.at_ (i := 1) rfl
 clear h1 h2 h3 h4 r0 r1 r01 b0 b1 z0 z1 hb
 go_enter Try.func14, Try.ntmps14
 go_wp2_with fail
 refine H1.out.mono ?_
 rintro e w2 ⟨rfl, hb2⟩
 have a2 := (R0.out.later hb2).at_ (i := 2) rfl
 have c2 := (R1.out.later hb2).at_ (i := 2) rfl
 have H5 := hid (is_u w2 _ _ y (H2.out.later hb2) (H4.out.later hb2))
 have HB2 := hid (HB.out.trans (hb2.mono HB.out.size))
 clear hb2 a0 a1 c0 c1 R0 R1 H2 H4 HB
 go_wp2_with fail
 refine H5.out.mono ?_
 rintro e w3 ⟨rfl, hb3⟩
 have HB3 := hid (HB2.out.trans (hb3.mono HB2.out.size))
 clear hb3 a2 c2 HB2
 go_wp2
 go_ret
 exact ⟨rfl, HB3.out⟩
theorem is9_any (w : World) (v v' : Value) (P : Option (Nat × Nat)) (h : Pt w v P) (h' : Rp w v' P) : Calls Try.prog 14 #[v, v'] w fun e w' => RetV w (.bool true) e w' := by
 rcases P with _ | ⟨x, y⟩
 ·obtain ⟨a, b, rfl, h1, h2⟩ := h
  obtain ⟨c, d, rfl, h3, h4⟩ := h'
  exact is9_true w a b c d 0 0 h1 h2 h3 h4
 ·obtain ⟨a, b, rfl, h1, h2⟩ := h
  obtain ⟨c, d, rfl, h3, h4⟩ := h'
  exact is9_false w a b c d x y h1 h2 h3 h4
end Go.Proofs.Ytbejcollbkeedaa
namespace Go.Proofs.Ytbejcollbkeedaa
open Go.RowKit Go.Shelf
def usesG : Op → Option (List Operand)
 | .pick x y z => some [x, y, z]
 | op => usesW op
def readsG (o : Oper) (t : Nat) : Bool := match usesG o.op with
 | some l => l.any fun x => match x with | .tmp t' => t' == t | _ => false
 | none => false
def depsG (ops : Array Oper) (asg : List Nat) : Bool := (List.range ops.size).all fun i => match ops[i]? with
 | none => true
 | some o => (match o.dst with | some t => asg.contains t | none => true) && match usesG o.op with
  | none => false
  | some l => l.all fun x => match x with
   | .tmp t => bif asg.contains t then (List.range ops.size).all fun j => match (ops[j]?).bind (·.dst) with
    | some t' => t' != t || o.after.any fun e => e.on == j && Region.binds .any e
    | none => true
    else true
   | _ => true
theorem tree_readsG {ops : Array Oper} {keys : List Nat} {a a' : Act} {L : Array Bool} {b : Nat → Value} (hdep : depsG ops keys = true) (hon : onlyB ops keys = true) (hsz : keys.all (fun t => decide (t < a.tmps.size)) = true)
  (hold : ∀ t, (∀ (i : Nat) (oi : Oper), ops[i]? = some oi → L.getD i false = true → oi.dst ≠ some t) → a'.tmps.getD t undef = a.tmps.getD t undef)
  (hnew : ∀ (j : Nat) (oj : Oper) t, ops[j]? = some oj → oj.dst = some t → L.getD j false = true → t < a.tmps.size → a'.tmps.getD t undef = b j)
  {i : Nat} {o : Oper} (ho : ops[i]? = some o) (hde : ∀ e ∈ o.after, Region.binds .any e = true → L.getD e.on false = true) :
  (∀ t, keys.contains t = false → a'.eval (.tmp t) = a.eval (.tmp t)) ∧
   ∀ t, readsG o t = true → keys.contains t = true → ∃ (j : Nat) (oj : Oper), ops[j]? = some oj ∧ oj.dst = some t ∧ L.getD j false = true ∧ a'.eval (.tmp t) = b j := by
 have his : i < ops.size := (Array.getElem?_eq_some_iff.1 ho).1
 simp only [depsG, List.all_eq_true, List.mem_range] at hdep
 have h2 := hdep i his
 rw [ho] at h2
 simp only [Bool.and_eq_true] at h2
 refine ⟨fun t hl => ?_, fun t hr hl => ?_⟩
 ·have e1 : a.eval (.tmp t) = a.tmps.getD t undef := by simp [Act.eval]
  have e2 : a'.eval (.tmp t) = a'.tmps.getD t undef := by simp [Act.eval]
  rw [e1, e2]
  refine hold t fun j oj hj hLj e => ?_
  have h4 := hdep j (Array.getElem?_eq_some_iff.1 hj).1
  rw [hj] at h4
  simp only [Bool.and_eq_true, e] at h4
  have h5 := h4.1
  rw [hl] at h5
  simp at h5
 ·unfold readsG at hr
  cases hu : usesG o.op with
  | none => rw [hu] at hr; cases hr
  | some l =>
   rw [hu] at hr h2
   obtain ⟨x, hx, hxe⟩ := List.any_eq_true.1 hr
   have h3 := List.all_eq_true.1 h2.2 x hx
   cases x with
   | tmp t' =>
    obtain rfl : t' = t := by simpa using hxe
    simp only [hl, cond_true] at h3
    have h5 := List.all_eq_true.1 hon t' (by simpa using hl)
    rw [List.any_eq_true] at h5
    obtain ⟨j, hj, h6⟩ := h5
    rw [List.mem_range] at hj
    have hoj : ops[j]? = some ops[j] := Array.getElem?_eq_getElem hj
    rw [hoj] at h6
    simp only [Option.bind_some] at h6
    cases hdj : ops[j].dst with
    | none => rw [hdj] at h6; cases h6
    | some t2 =>
     rw [hdj] at h6
     obtain rfl : t2 = t' := by simpa using h6
     have h7 := List.all_eq_true.1 h3 j (List.mem_range.2 hj)
     rw [hoj] at h7
     simp only [Option.bind_some, hdj, bne_self_eq_false, Bool.false_or] at h7
     obtain ⟨e, he, he2⟩ := Array.any_eq_true'.1 h7
     rw [Bool.and_eq_true, beq_iff_eq] at he2
     have hLj := hde e he he2.2
     rw [he2.1] at hLj
     have htl : t2 < a.tmps.size := by
      have := List.all_eq_true.1 hsz t2 (by simpa using hl)
      simpa using this
     refine ⟨j, _, hoj, hdj, hLj, ?_⟩
     rw [← hnew j _ t2 hoj hdj hLj htl]
     simp [Act.eval]
   | _ => cases hxe
def guardsB (ops : Array Oper) (Gs : List (Nat × Bool)) : Bool := (List.range ops.size).all fun i => match ops[i]? with
 | none => true
 | some o => match o.guard with
  | none => true
  | some (j, b) => (o.after.any fun e => e.on == j && Region.binds .any e) && match (ops[j]?).bind (·.dst) with
   | some t => Gs.any fun p => p.1 == t && p.2 == b
   | none => false
theorem wanted_of {ops : Array Oper} {o : Oper} {tm : Array Value} (h : ∀ j b, o.guard = some (j, b) → yielded ops tm j = some b) : Region.wanted o (yielded ops tm) = true := by
 unfold Region.wanted
 cases hg : o.guard with
 | none => rfl
 | some p =>
  obtain ⟨j, b⟩ := p
  simp [h j b hg]
theorem in_valueG {F : Fence} {n : Nat} {P : Program} {ops : Array Oper} {Q : Exit → Act → World → Prop} {i : Nat} {o : Oper} {K : Act → World → Prop} {a : Act} {w w' : World} {v : Value} (ho : ops[i]? = some o) (hg : Region.wanted o (yielded ops a.tmps) = true) (hdf : ∀ c, o.op ≠ .defer c)
  (hab : ∀ f, o.about P w a.eval = some f → F.fn f) (hrun : (execOp a.eval o).run P w = .ok (.value v) w') (h : K (a.put o.dst v) w') : wpOpIn F n P ops Q i K a w := by
 unfold wpOpIn
 simp only [ho, hg, if_true]
 refine ⟨hab, ?_⟩
 rw [Oper.semAt_plain F _ _ hdf, hrun]
 exact h
theorem in_skipG {F : Fence} {n : Nat} {P : Program} {ops : Array Oper} {Q : Exit → Act → World → Prop} {i : Nat} {o : Oper} {K : Act → World → Prop} {a : Act} {w w' : World} (ho : ops[i]? = some o) (hg : Region.wanted o (yielded ops a.tmps) = true) (hdf : ∀ c, o.op ≠ .defer c)
  (hab : ∀ f, o.about P w a.eval = some f → F.fn f) (hrun : (execOp a.eval o).run P w = .ok .skip w') (h : K (a.put o.dst undef) w') : wpOpIn F n P ops Q i K a w := by
 unfold wpOpIn
 simp only [ho, hg, if_true]
 refine ⟨hab, ?_⟩
 rw [Oper.semAt_plain F _ _ hdf, hrun]
 exact h
theorem in_callG {F : Fence} {n : Nat} {P : Program} {ops : Array Oper} {Q : Exit → Act → World → Prop} {i : Nat} {o : Oper} {K : Act → World → Prop} {a : Act} {w : World} {f : FuncId} {args : Array Value} (ho : ops[i]? = some o) (hg : Region.wanted o (yielded ops a.tmps) = true) (hdf : ∀ c, o.op ≠ .defer c) (hF : F.depth = none)
  (hab : ∀ f, o.about P w a.eval = some f → F.fn f) (hrun : (execOp a.eval o).run P w = .ok (.enter f args) w) (hc : CallsIn F (n - 1) P f args w fun e w' => ∃ v, e = .returned v ∧ K (a.put o.dst v) w') : wpOpIn F n P ops Q i K a w := by
 unfold wpOpIn
 simp only [ho, hg, if_true]
 refine ⟨hab, ?_⟩
 rw [Oper.semAt_plain F _ _ hdf, hrun]
 refine ⟨(fun h => by (rw [hF] at h; cases h)), hc.mono ?_⟩
 rintro e w' ⟨v, rfl, h⟩
 exact h
theorem wpIn_region_treeG {F : Fence} {n : Nat} {P : Program} {id : Nat} {ops : Array Oper} {Q : Exit → Act → World → Prop} {a : Act} {w : World} (hF : F.depth = none) (hm : P.follows .mixedOrders = true)
  (keys : List Nat) (Gs : List (Nat × Bool)) (hd : distinctB ops = true) (hdep : depsG ops keys = true) (hon : onlyB ops keys = true) (hord : orderedB ops = true) (hsz : keys.all (fun t => decide (t < a.tmps.size)) = true)
  (hgs : guardsB ops Gs = true) (hgk : Gs.all (fun p => keys.contains p.1) = true)
  (I : World → Prop) (hI : I w.drew) (St : Nat → World → World → Prop) (Pd : Nat → Value → World → Prop) (hGv : ∀ p ∈ Gs, ∀ v V, Pd p.1 v V → v = .bool p.2) (hmono : ∀ i V V', I V → I V' → St i V V' → ∀ t v, Pd t v V → Pd t v V')
  (Pn : Nat → World → Prop) (hmonon : ∀ i V V', I V → I V' → St i V V' → ∀ j, j ≠ i → Pn j V → Pn j V')
  (hops : ∀ (i : Nat) (o : Oper) (a' : Act) (V : World), I V → ops[i]? = some o → (∀ t, keys.contains t = false → a'.eval (.tmp t) = a.eval (.tmp t)) → (∀ t, readsG o t = true → keys.contains t = true → Pd t (a'.eval (.tmp t)) V) → TreeOk F n P I (St i) Pd (Pn i) a' V o)
  (hend : ∀ (vals : Nat → Value) V, I V → (∀ (i t : Nat) (o : Oper), ops[i]? = some o → o.dst = some t → Pd t (vals i) V) → (∀ (i : Nat) (o : Oper), ops[i]? = some o → o.dst = none → Pn i V) →
   Q .normal { tmps := wrote ops vals (Array.replicate ops.size true) a.tmps ops.size, defers := a.defers } V) : (Code.region id ops true).wpIn F n P Q a w := by
 have hd' := distinct_of hd
 refine wpIn_region_relH hm hd' (fun b : Nat → Value => b) (fun b L V => I V ∧ (∀ (j t : Nat) (o : Oper), ops[j]? = some o → o.dst = some t → L.getD j false = true → Pd t (b j) V) ∧
  ∀ (j : Nat) (o : Oper), ops[j]? = some o → o.dst = none → L.getD j false = true → Pn j V) (fun _ => undef) ⟨hI, ?_, ?_⟩ ?_ ?_ (acyclic_of hord)
 ·intro j t o _ _ hL
  rw [getD_rep] at hL
  cases hL
 ·intro j o _ _ hL
  rw [getD_rep] at hL
  cases hL
 ·rintro b L a' V ⟨hIV, hPV, hNV⟩ hLs hdf hcl hold hnew i hi o ho K hK
  obtain ⟨h1, o2, ho2, hde⟩ := mem_ready.1 hi
  obtain rfl : o = o2 := Option.some.inj (ho.symm.trans ho2)
  have hnl := unlisted h1
  obtain ⟨hev, hrd⟩ := tree_readsG hdep hon hsz hold hnew ho hde
  have hrd' : ∀ t, readsG o t = true → keys.contains t = true → Pd t (a'.eval (.tmp t)) V := by
   intro t h2 h3
   obtain ⟨j, oj, hj, hjd, hjL, e⟩ := hrd t h2 h3
   rw [e]
   exact hPV j t oj hj hjd hjL
  have hw : Region.wanted o (yielded ops a'.tmps) = true := by
   refine wanted_of fun j bv hgd => ?_
   simp only [guardsB, List.all_eq_true, List.mem_range] at hgs
   have h2 := hgs i (Array.getElem?_eq_some_iff.1 ho).1
   rw [ho] at h2
   simp only [hgd, Bool.and_eq_true] at h2
   obtain ⟨e, he, he2⟩ := Array.any_eq_true'.1 h2.1
   rw [Bool.and_eq_true, beq_iff_eq] at he2
   have hLj := hde e he he2.2
   rw [he2.1] at hLj
   have h3 := h2.2
   cases hj : ops[j]? with
   | none => rw [hj] at h3; cases h3
   | some oj =>
    rw [hj] at h3
    simp only [Option.bind_some] at h3
    cases hjd : oj.dst with
    | none => rw [hjd] at h3; cases h3
    | some t =>
     rw [hjd] at h3
     obtain ⟨p, hp, hp2⟩ := List.any_eq_true.1 h3
     rw [Bool.and_eq_true, beq_iff_eq, beq_iff_eq] at hp2
     have h4 := hPV j t oj hj hjd hLj
     have h5 := hGv p hp (b j) V (by rw [hp2.1]; exact h4)
     have htl : t < a.tmps.size := by
      have h6 := List.all_eq_true.1 hgk p hp
      have h7 := List.all_eq_true.1 hsz p.1 (by simpa using h6)
      rw [hp2.1] at h7
      simpa using h7
     have h8 := hnew j oj t hj hjd hLj htl
     rw [h5, hp2.2, Array.getD_eq_getD_getElem?] at h8
     unfold yielded
     rw [hj]
     simp only [Option.bind_some, hjd]
     cases h9 : a'.tmps[t]? with
     | none => rw [h9] at h8; cases h8
     | some x =>
      rw [h9] at h8
      simp only [Option.getD_some] at h8
      rw [h8]
  obtain ⟨hdef, hab, hrun⟩ := hops i o a' V hIV ho hev hrd'
  have hnext : ∀ v V', I V' → St i V V' → (∀ t, o.dst = some t → Pd t v V') → (o.dst = none → Pn i V') → K (a'.put o.dst v) V' := by
   intro v V' hI' hB hP hN
   have hk := hK (fun j => if j = i then v else b j) V' (fun j hj => by
    rw [if_neg]
    rintro rfl
    rw [hnl] at hj; cases hj) ⟨hI', fun j t oj hj hjd hjL => by
     by_cases hji : j = i
     ·subst hji
      obtain rfl : o = oj := Option.some.inj (ho.symm.trans hj)
      simp only [if_true]
      exact hP t hjd
     ·rw [getD_set_ne L (fun h => hji h.symm)] at hjL
      simp only [if_neg hji]
      exact hmono i V V' hIV hI' hB t _ (hPV j t oj hj hjd hjL), fun j oj hj hjd hjL => by
     by_cases hji : j = i
     ·subst hji
      obtain rfl : o = oj := Option.some.inj (ho.symm.trans hj)
      exact hN hjd
     ·rw [getD_set_ne L (fun h => hji h.symm)] at hjL
      exact hmonon i V V' hIV hI' hB j hji (hNV j oj hj hjd hjL)⟩
   simpa using hk
  rcases hrun with ⟨v, V', hrun, hI', hB, hP, hN⟩ | ⟨f, args, hrun, hcall⟩
  ·rcases hrun with hrun | ⟨hrun, rfl⟩
   ·exact in_valueG ho hw hdef hab hrun (hnext v V' hI' hB hP hN)
   ·exact in_skipG ho hw hdef hab hrun (hnext undef V' hI' hB hP hN)
  ·refine in_callG ho hw hdef hF hab hrun (hcall.mono ?_)
   rintro e w' ⟨v, rfl, hI', hB, hP, hN⟩
   exact ⟨v, rfl, hnext v w' hI' hB hP hN⟩
 ·rintro b L V ⟨hIV, hPV, hNV⟩ hL
  exact hend b V hIV (fun i t o hi hid => hPV i t o hi hid (hL i (Array.getElem?_eq_some_iff.1 hi).1)) fun i o hi hid => hNV i o hi hid (hL i (Array.getElem?_eq_some_iff.1 hi).1)
theorem wpIn_region_numG {F : Fence} {n : Nat} {P : Program} {id : Nat} {ops : Array Oper} {Q : Exit → Act → World → Prop} {a : Act} {w : World} (hF : F.depth = none) (hm : P.follows .mixedOrders = true)
  (L : List (Nat × Spc)) (Gs : List (Nat × Bool)) (hd : distinctB ops = true) (hdep : depsG ops (L.map (·.1)) = true) (hon : onlyB ops (L.map (·.1)) = true) (hord : orderedB ops = true) (hsz : (L.map (·.1)).all (fun t => decide (t < a.tmps.size)) = true)
  (hgs : guardsB ops Gs = true) (hgk : Gs.all (fun p => (L.map (·.1)).contains p.1) = true) (hGv : ∀ p ∈ Gs, ∀ v V, spcAt L p.1 v V → v = .bool p.2)
  (hops : ∀ (i : Nat) (o : Oper) (a' : Act) (V : World), Below w.heap.size w V → ops[i]? = some o → (∀ t, (L.map (·.1)).contains t = false → a'.eval (.tmp t) = a.eval (.tmp t)) → (∀ t, readsG o t = true → (L.map (·.1)).contains t = true → spcAt L t (a'.eval (.tmp t)) V) → OpOk F n P L a' V o)
  (hend : ∀ (vals : Nat → Value) V, Below w.heap.size w V → (∀ (i t : Nat) (o : Oper), ops[i]? = some o → o.dst = some t → spcAt L t (vals i) V) →
   Q .normal { tmps := wrote ops vals (Array.replicate ops.size true) a.tmps ops.size, defers := a.defers } V) : (Code.region id ops true).wpIn F n P Q a w := by
 refine wpIn_region_treeG hF hm (L.map (·.1)) Gs hd hdep hon hord hsz hgs hgk (fun V => Below w.heap.size w V) (below_drewN (Below.refl _ w) 1) (fun _ V V' => Below V.heap.size V V') (spcAt L) hGv (fun _ V V' _ _ hb t v h => h.sb (Sb.of_below hb)) (fun _ _ => True) (fun _ _ _ _ _ _ _ _ _ => trivial) ?_ ?_
 ·intro i o a' V hI ho hev hrd
  obtain ⟨h1, h2, h3, h4⟩ := hops i o a' V hI ho hev hrd
  refine ⟨h1, h2, ?_⟩
  rcases h4 with ⟨v, V', hr, hB, hP⟩ | ⟨f, args, hr, hc⟩
  ·exact .inl ⟨v, V', .inl hr, hI.trans (hB.mono hI.size), hB, hP, fun h => absurd h h3⟩
  ·refine .inr ⟨f, args, hr, hc.mono ?_⟩
   rintro e w' ⟨v, rfl, hB, hP⟩
   exact ⟨v, rfl, hI.trans (hB.mono hI.size), hB, hP, fun h => absurd h h3⟩
 ·intro vals V hI hP _
  exact hend vals V hI hP
end Go.Proofs.Ytbejcollbkeedaa
namespace Go.Proofs.Ytbejcollbkeedaa
open Go.RowKit Cw
theorem rFrom9_pg (w : World) (v : Value) (P : Option (Nat × Nat)) (h : Pg w v P) : Calls Try.prog 15 #[v] w fun e w' => ∃ v', e = .returned v' ∧ Rp w' v' P ∧ Below w.heap.size w w' := by
 rcases P with _ | ⟨x, y⟩
 ·obtain ⟨a, b, rfl, -, -⟩ := h
  exact rFrom9_inf w a b
 ·obtain ⟨a, b, rfl, h1, h2⟩ := h
  refine (rFrom9_gen w a b (.nb x) (.nb y) (.num h1) (.num h2)).mono ?_
  rintro e w' ⟨v', rfl, ⟨a', b', rfl, h3, h4⟩, h5⟩
  exact ⟨_, rfl, ⟨_, _, rfl, h3.1, h4.1⟩, h5⟩
theorem cmul_is (w : World) (c : Int) (D : Crv) (hc : crvOf c = some D) (vk vP : Value) (kN : Nat) (hk : NumR w 64 kN vk) (P : Option (Nat × Nat)) (hP : Pg w vP P) (has : hasN D.p D.b P) :
  Calls Try.prog 8 #[.int .i64 c, vk, vP] w fun e w' => ∃ v R k0, e = .returned (.tuple #[v, .bool true]) ∧ IsBits (kN % D.n) k0 ∧ PtR D.p (mlN D.p D.b (rtN P) (kN % D.n) k0 k0) R ∧ Pt w' v R ∧ Below w.heap.size w w' := by
 obtain ⟨-, -, -, -, -, -, -, hn1, hnl, -⟩ := crv_lims hc
 have h64 : b64 ^ 6 < b64 ^ 64 := by decide +kernel
 refine (cMul_yes w c D hc vk vP kN hk P hP has hn1 (by omega) _ rfl).mono ?_
 rintro e w' ⟨v, k0, rfl, h1, ⟨R, h2, h3⟩, h4⟩
 exact ⟨v, R, k0, rfl, h1, h2, h3, h4⟩
theorem Pt.three' {w : World} {v : Value} {P : Option (Nat × Nat)} (h : Pt w v P) : ∃ t A n c A' n' c', v = .agg #[.bool t, .slice A n c, .slice A' n' c'] := by
 rcases P with _ | ⟨x, y⟩
 ·obtain ⟨a, b, rfl, h1, h2⟩ := h
  obtain ⟨A, n, c, rfl⟩ := h1.sl
  obtain ⟨A', n', c', rfl⟩ := h2.sl
  exact ⟨_, _, _, _, _, _, _, rfl⟩
 ·obtain ⟨a, b, rfl, h1, h2⟩ := h
  obtain ⟨A, n, c, rfl⟩ := h1.sl
  obtain ⟨A', n', c', rfl⟩ := h2.sl
  exact ⟨_, _, _, _, _, _, _, rfl⟩
theorem CutS.sb {V V' : World} {v : Value} {xs : List Nat} (h : CutS V v xs) (hb : Sb V V') : CutS V' v xs := by
 obtain ⟨A, n, c, e, hs⟩ := h
 exact ⟨A, n, c, e, hs.sb hb⟩
theorem cadd_is (w : World) (c : Int) (D : Crv) (hc : crvOf c = some D) (vP vQ : Value) (P Q : Option (Nat × Nat)) (hP : Pg w vP P) (hQ : Pg w vQ Q) (h1 : hasN D.p D.b P) (h2 : hasN D.p D.b Q) :
  Calls Try.prog 9 #[.int .i64 c, vP, vQ] w fun e w' => ∃ v R, e = .returned (.tuple #[v, .bool true]) ∧ PtR D.p (rcbN D.p D.b (rtN P) (rtN Q)) R ∧ Pt w' v R ∧ Below w.heap.size w w' := by
 refine (cAdd_yes w c D hc vP vQ P Q hP hQ h1 h2).mono ?_
 rintro e w' ⟨v, rfl, ⟨R, h3, h4⟩, h5⟩
 exact ⟨v, R, rfl, h3, h4, h5⟩
theorem add_lf {c : Int} {D : Crv} (hc : crvOf c = some D) {P Q R : Option (Nat × Nat)} (h1 : hasN D.p D.b P) (h2 : hasN D.p D.b Q) (h : PtR D.p (rcbN D.p D.b (rtN P) (rtN Q)) R) :
  Inp D.p R ∧ ∀ (_ : NeZero D.p) (C : Cv (Fin D.p) (zp D.p D.b)), lfp D.p R = C.ad (lfp D.p P) (lfp D.p Q) := by
 obtain ⟨hne, ⟨C⟩⟩ := crv_cv hc
 obtain ⟨-, h8, -, hbl, -⟩ := crv_lims hc
 exact ⟨(addN_lf C (by omega) hbl h1 h2 h).1, fun _ C' => (addN_lf C' (by omega) hbl h1 h2 h).2⟩
theorem cmul_to (w : World) (c : Int) (D : Crv) (hc : crvOf c = some D) (vk vP : Value) (kN : Nat) (hk : NumR w 64 kN vk) (P R : Option (Nat × Nat)) (hP : Pg w vP P) (has : hasN D.p D.b P) (hi : Inp D.p R)
  (hl : ∀ (_ : NeZero D.p) (C : Cv (Fin D.p) (zp D.p D.b)), lfp D.p R = C.mg (lfp D.p P) (kN % D.n)) :
  Calls Try.prog 8 #[.int .i64 c, vk, vP] w fun e w' => ∃ v, e = .returned (.tuple #[v, .bool true]) ∧ Pt w' v R ∧ Below w.heap.size w w' := by
 obtain ⟨hne, ⟨C⟩⟩ := crv_cv hc
 obtain ⟨-, h8, -, hbl, -⟩ := crv_lims hc
 refine (cmul_is w c D hc vk vP kN hk P hP has).mono ?_
 rintro e w' ⟨v, S, k0, rfl, h1, h2, h3, h4⟩
 obtain ⟨j1, j2⟩ := mulN_lf C (by omega) hbl has h1.1 h2
 obtain rfl := lfp_inj hi j1 ((hl hne C).trans j2.symm)
 exact ⟨v, rfl, h3, h4⟩
theorem base_mult {c : Int} {D : Crv} (hc : crvOf c = some D) (j : Nat) {k0 : Nat} {R : Option (Nat × Nat)} (hk : IsBits (j % D.n) k0) (hR : PtR D.p (mlN D.p D.b (rtN (some (D.gx, D.gy))) (j % D.n) k0 k0) R) :
  hasN D.p D.b R ∧ ∀ (_ : NeZero D.p) (C : Cv (Fin D.p) (zp D.p D.b)), lfp D.p R = C.mg (lfp D.p (some (D.gx, D.gy))) j := by
 obtain ⟨-, h8, -, hbl, -, -, -, hn1, -⟩ := crv_lims hc
 obtain ⟨hne, ⟨C⟩⟩ := crv_cv hc
 have hg := has_base hc
 have hon := ((has_iff (by omega) hbl _).1 hg).2
 have key : ∀ (_ : NeZero D.p) (C : Cv (Fin D.p) (zp D.p D.b)), lfp D.p R = C.mg (lfp D.p (some (D.gx, D.gy))) j := fun _ C => by
  have hon := ((has_iff (by omega) hbl _).1 hg).2
  rw [(mulN_lf C (by omega) hbl hg hk.1 hR).2, C.mg_mod hon (C.assocG hon) (crv_ord hc C)]
 refine ⟨(has_iff (by omega) hbl _).2 ⟨(mulN_lf C (by omega) hbl hg hk.1 hR).1, ?_⟩, key⟩
 rw [key hne C]
 exact C.mg_on hon j
theorem sum_mult {c : Int} {D : Crv} (hc : crvOf c = some D) {j k : Nat} {P Q S : Option (Nat × Nat)}
  (hP : ∀ (_ : NeZero D.p) (C : Cv (Fin D.p) (zp D.p D.b)), lfp D.p P = C.mg (lfp D.p (some (D.gx, D.gy))) j) (hQ : ∀ (_ : NeZero D.p) (C : Cv (Fin D.p) (zp D.p D.b)), lfp D.p Q = C.mg (lfp D.p (some (D.gx, D.gy))) k)
  (hS : Inp D.p S ∧ ∀ (_ : NeZero D.p) (C : Cv (Fin D.p) (zp D.p D.b)), lfp D.p S = C.ad (lfp D.p P) (lfp D.p Q)) :
  Inp D.p S ∧ ∀ (_ : NeZero D.p) (C : Cv (Fin D.p) (zp D.p D.b)), lfp D.p S = C.mg (lfp D.p (some (D.gx, D.gy))) ((j + k) % D.n) := by
 obtain ⟨-, h8, -, hbl, -, -, -, hn1, -⟩ := crv_lims hc
 refine ⟨hS.1, fun h C => ?_⟩
 have hon := ((has_iff (by omega) hbl _).1 (has_base hc)).2
 rw [hS.2 h C, hP h C, hQ h C, C.mg_mod hon (C.assocG hon) (crv_ord hc C), C.mg_add hon (C.assocG hon)]
theorem ord_none {c : Int} {D : Crv} (hc : crvOf c = some D) :
  Inp D.p none ∧ ∀ (_ : NeZero D.p) (C : Cv (Fin D.p) (zp D.p D.b)), lfp D.p none = C.mg (lfp D.p (some (D.gx, D.gy))) (D.n % D.n) := by
 refine ⟨trivial, fun h C => ?_⟩
 rw [Nat.mod_self]
 rfl
end Go.Proofs.Ytbejcollbkeedaa
namespace Go.Proofs.Ytbejcollbkeedaa
open Go.RowKit
structure AL where
 ia : Nat
 st : Nat
 ic : Nat
 a : Nat
 c : Nat
 T : TypeId
 n : Nat
 z : List Value
def AlRow (A : AL) (v u : Value) (B : Nat) (V : World) : Prop := ∃ g vs, v = .pointer (some ⟨g, 0, none⟩) ∧ B ≤ g ∧ RowV A.T V g vs ∧ u = .agg vs.toArray
structure AlOk (P : Program) (ops : Array Oper) (L : List (Nat × Spc)) (A : AL) : Prop where
 al : ∃ o, ops[A.ia]? = some o ∧ o.dst = some A.a ∧ o.op = .alloc A.T
 st : ∃ o, ops[A.st]? = some o ∧ o.dst = none ∧ o.op = .store A.T (.tmp A.a) (.tmp A.c)
 ct : ∃ o, ops[A.ic]? = some o ∧ o.dst = some A.c
 ne : A.ia ≠ A.st ∧ A.ic ≠ A.st ∧ A.ic ≠ A.ia
 sz : (P.info? A.T).map (·.size) = some A.n
 zl : A.z.length = A.n
 nu : ∀ v ∈ A.z, ∀ x, v ≠ .int .u64 x
 run : ∀ (ev : Operand → Value) (o : Oper) V, o.op = .alloc A.T → (execOp ev o).run P V = .ok (.value (.pointer (some ⟨V.heap.size, 0, none⟩))) (V.alloc (.cells A.z.toArray A.T))
 any : ∀ v V, spcAt L A.a v V
 form : ∀ v V, spcAt L A.c v V → ∃ vs : List Value, v = .agg vs.toArray ∧ vs.length = A.n ∧ Ones vs
theorem wpIn_region_numS {F : Fence} {n : Nat} {P : Program} {id : Nat} {ops : Array Oper} {Q : Exit → Act → World → Prop} {a : Act} {w : World} (hF : F.depth = none) (hm : P.follows .mixedOrders = true) (hfn : ∀ f, F.fn f)
  (L : List (Nat × Spc)) (hd : distinctB ops = true) (hdep : depsW ops (L.map (·.1)) [] = true) (hon : onlyB ops (L.map (·.1)) = true) (hord : orderedB ops = true) (hsz : (L.map (·.1)).all (fun t => decide (t < a.tmps.size)) = true)
  (As : List AL) (hAs : ∀ A ∈ As, AlOk P ops L A ∧ (L.map (·.1)).contains A.a = true ∧ (L.map (·.1)).contains A.c = true) (hpw : ∀ A ∈ As, ∀ A' ∈ As, (A.ia = A'.ia → A = A') ∧ (A.st = A'.st → A = A') ∧ A.ia ≠ A'.st ∧ A.ic ≠ A'.ia)
  (hops : ∀ (i : Nat) (o : Oper) (a' : Act) (V : World), (∀ A ∈ As, i ≠ A.ia ∧ i ≠ A.st) → Below w.heap.size w V → ops[i]? = some o → (∀ t, (L.map (·.1)).contains t = false → a'.eval (.tmp t) = a.eval (.tmp t)) → (∀ t, readsB o t = true → (L.map (·.1)).contains t = true → spcAt L t (a'.eval (.tmp t)) V) → OpOk F n P L a' V o)
  (hend : ∀ (vals : Nat → Value) V, Below w.heap.size w V → (∀ (i t : Nat) (o : Oper), ops[i]? = some o → o.dst = some t → spcAt L t (vals i) V) → (∀ A ∈ As, AlRow A (vals A.ia) (vals A.ic) w.heap.size V) → (∀ A ∈ As, ∀ A' ∈ As, A.ia ≠ A'.ia → vals A.ia ≠ vals A'.ia) →
   Q .normal { tmps := wrote ops vals (Array.replicate ops.size true) a.tmps ops.size, defers := a.defers } V) : (Code.region id ops true).wpIn F n P Q a w := by
 have hd' := distinct_of hd
 refine wpIn_region_relH hm hd' (fun b : Nat → Value => b) (fun b X V => Below w.heap.size w V ∧ (∀ (j t : Nat) (o : Oper), ops[j]? = some o → o.dst = some t → X.getD j false = true → spcAt L t (b j) V) ∧
  (∀ A ∈ As, X.getD A.st false = true → X.getD A.ia false = true ∧ X.getD A.ic false = true) ∧
  (∀ A ∈ As, X.getD A.ia false = true → ∃ g, b A.ia = .pointer (some ⟨g, 0, none⟩) ∧ w.heap.size ≤ g ∧ (X.getD A.st false = false → RowV A.T V g A.z) ∧ (X.getD A.st false = true → ∃ vs : List Value, RowV A.T V g vs ∧ b A.ic = .agg vs.toArray)) ∧
  (∀ A ∈ As, ∀ A' ∈ As, A.ia ≠ A'.ia → X.getD A.ia false = true → X.getD A'.ia false = true → b A.ia ≠ b A'.ia)) (fun _ => undef) ⟨below_drewN (Below.refl _ w) 1, ?_, ?_, ?_, ?_⟩ ?_ ?_ (acyclic_of hord)
 ·intro j t o _ _ hL
  rw [getD_rep] at hL
  cases hL
 ·intro A _ hL
  rw [getD_rep] at hL
  cases hL
 ·intro A _ hL
  rw [getD_rep] at hL
  cases hL
 ·intro A _ A' _ _ hL
  rw [getD_rep] at hL
  cases hL
 ·rintro b X a' V ⟨hIV, hPV, hSV, hAV, hDV⟩ hLs hdf hcl hold hnew i hi o ho K hK
  obtain ⟨h1, o2, ho2, hde⟩ := mem_ready.1 hi
  obtain rfl : o = o2 := Option.some.inj (ho.symm.trans ho2)
  have hnl := unlisted h1
  obtain ⟨hg, hev, hrd⟩ := tree_reads hdep hon hsz hold hnew ho hde
  have hrd' : ∀ t, readsB o t = true → (L.map (·.1)).contains t = true → spcAt L t (a'.eval (.tmp t)) V := by
   intro t h2 h3
   obtain ⟨j, oj, hj, hjd, hjL, e⟩ := hrd t h2 h3
   rw [e]
   exact hPV j t oj hj hjd hjL
  have hrow : ∀ A ∈ As, ∀ g, b A.ia = .pointer (some ⟨g, 0, none⟩) → X.getD A.ia false = true → g < V.heap.size := by
   intro A hA g hg hx
   obtain ⟨g', e', -, k1, k2⟩ := hAV A hA hx
   rw [hg] at e'
   cases e'
   cases hs : X.getD A.st false with
   | false => exact (k1 hs).lt
   | true => obtain ⟨vs, k3, -⟩ := k2 hs; exact k3.lt
  by_cases hial : ∃ A ∈ As, i = A.ia
  ·obtain ⟨A, hA, rfl⟩ := hial
   obtain ⟨hok, hka, hkc⟩ := hAs A hA
   obtain ⟨o1, e1, e2, e3⟩ := hok.al
   obtain rfl : o = o1 := Option.some.inj (ho.symm.trans e1)
   have hrun := hok.run a'.eval o V e3
   have hBV : Below V.heap.size V (V.alloc (.cells A.z.toArray A.T)) := (Below.refl _ V).alloc (Nat.le_refl _) _
   have hk := hK (fun j => if j = A.ia then .pointer (some ⟨V.heap.size, 0, none⟩) else b j) (V.alloc (.cells A.z.toArray A.T)) (fun j hj => by
    rw [if_neg]
    rintro rfl
    rw [hnl] at hj; cases hj) ⟨hIV.trans (hBV.mono hIV.size), fun j t oj hj hjd hjL => by
     by_cases hji : j = A.ia
     ·subst hji
      obtain rfl : o = oj := Option.some.inj (ho.symm.trans hj)
      obtain rfl : A.a = t := Option.some.inj (e2.symm.trans hjd)
      exact hok.any _ _
     ·rw [getD_set_ne X (fun h => hji h.symm)] at hjL
      simp only [if_neg hji]
      exact (hPV j t oj hj hjd hjL).sb (Sb.of_below hBV), fun A' hA' hx => by
     rw [getD_set_ne X (hpw A hA A' hA').2.2.1] at hx
     obtain ⟨k1, k2⟩ := hSV A' hA' hx
     have n1 : A.ia ≠ A'.ia := by
      intro h
      rw [← h, hnl] at k1
      cases k1
     have n2 : A.ia ≠ A'.ic := by
      intro h
      rw [← h, hnl] at k2
      cases k2
     rw [getD_set_ne X n1, getD_set_ne X n2]
     exact ⟨k1, k2⟩, fun A' hA' hx => by
     by_cases he : A'.ia = A.ia
     ·obtain rfl := (hpw A' hA' A hA).1 he
      have hns : X.getD A'.st false = false := by
       cases hs : X.getD A'.st false with
       | false => rfl
       | true =>
        have := (hSV A' hA' hs).1
        rw [hnl] at this
        cases this
      refine ⟨V.heap.size, by simp, hIV.size, fun _ => RowV.new V A'.T A'.z, fun h => ?_⟩
      rw [getD_set_ne X hok.ne.1, hns] at h
      cases h
     ·rw [getD_set_ne X (fun h => he h.symm)] at hx
      obtain ⟨g, k1, k2, k3, k4⟩ := hAV A' hA' hx
      refine ⟨g, by simp only [if_neg he]; exact k1, k2, fun h => ?_, fun h => ?_⟩
      ·rw [getD_set_ne X (hpw A hA A' hA').2.2.1] at h
       exact (k3 h).later hBV
      ·rw [getD_set_ne X (hpw A hA A' hA').2.2.1] at h
       obtain ⟨vs, k5, k6⟩ := k4 h
       refine ⟨vs, k5.later hBV, ?_⟩
       rw [if_neg (hpw A' hA' A hA).2.2.2]
       exact k6, fun A1 hA1 A2 hA2 hne hx1 hx2 => by
     by_cases he1 : A1.ia = A.ia
     ·have he2 : ¬ A2.ia = A.ia := fun h => hne (he1.trans h.symm)
      rw [getD_set_ne X (fun h => he2 h.symm)] at hx2
      simp only [if_pos he1, if_neg he2]
      intro h
      obtain ⟨g, k1, -⟩ := hAV A2 hA2 hx2
      rw [k1] at h
      cases h
      exact absurd (hrow A2 hA2 _ k1 hx2) (Nat.lt_irrefl _)
     ·rw [getD_set_ne X (fun h => he1 h.symm)] at hx1
      by_cases he2 : A2.ia = A.ia
      ·simp only [if_neg he1, if_pos he2]
       intro h
       have hlt := hrow A1 hA1 _ h hx1
       exact absurd hlt (Nat.lt_irrefl _)
      ·rw [getD_set_ne X (fun h => he2 h.symm)] at hx2
       simp only [if_neg he1, if_neg he2]
       exact hDV A1 hA1 A2 hA2 hne hx1 hx2⟩
   simp only [if_true] at hk
   exact in_value ho hg (by intro c h; rw [e3] at h; cases h) (fun f _ => hfn f) hrun hk
  by_cases hist : ∃ A ∈ As, i = A.st
  ·obtain ⟨A, hA, rfl⟩ := hist
   obtain ⟨hok, hka, hkc⟩ := hAs A hA
   obtain ⟨o1, e1, e2, e3⟩ := hok.st
   obtain rfl : o = o1 := Option.some.inj (ho.symm.trans e1)
   have hra : readsB o A.a = true := by unfold readsB; rw [e3]; simp [usesW, usesOp]
   have hrc : readsB o A.c = true := by unfold readsB; rw [e3]; simp [usesW, usesOp]
   obtain ⟨ja, oja, hja, hjad, hjaL, ea⟩ := hrd A.a hra hka
   obtain ⟨jc, ojc, hjc, hjcd, hjcL, ec⟩ := hrd A.c hrc hkc
   obtain ⟨oa, q1, q2, q3⟩ := hok.al
   obtain ⟨oc, q4, q5⟩ := hok.ct
   obtain rfl : ja = A.ia := hd' ja A.ia oja oa A.a hja q1 hjad q2
   obtain rfl : jc = A.ic := hd' jc A.ic ojc oc A.c hjc q4 hjcd q5
   obtain ⟨g, k1, k2, k3, k4⟩ := hAV A hA hjaL
   have hrz := k3 hnl
   obtain ⟨vs, hvs, hvl, hvo⟩ := hok.form _ V (hPV A.ic A.c ojc hjc hjcd hjcL)
   obtain ⟨V', hrun, hr', hg'⟩ := exec_store (P := P) (w := V) (o := o) (a := a') A.T A.n hok.sz (.tmp A.a) (.tmp A.c) e3 g vs (by rw [ea, k1]) (by rw [ec, hvs]) A.T A.z hrz hok.zl hvl hvo
   have hsb : Sb V V' := ⟨g, NoU.of_row hrz hok.nu, hg'⟩
   have hk := hK (fun j => if j = A.st then undef else b j) V' (fun j hj => by
    rw [if_neg]
    rintro rfl
    rw [hnl] at hj; cases hj) ⟨below_grown hIV hg' k2 hIV.size, fun j t oj hj hjd hjL => by
     by_cases hji : j = A.st
     ·subst hji
      obtain rfl : o = oj := Option.some.inj (ho.symm.trans hj)
      rw [e2] at hjd
      cases hjd
     ·rw [getD_set_ne X (fun h => hji h.symm)] at hjL
      simp only [if_neg hji]
      exact (hPV j t oj hj hjd hjL).sb hsb, fun A' hA' hx => by
     have n1 : A.st ≠ A'.ia := fun h => (hpw A' hA' A hA).2.2.1 h.symm
     rw [getD_set_ne X n1]
     by_cases he : A'.st = A.st
     ·obtain rfl := (hpw A' hA' A hA).2.1 he
      rw [getD_set_ne X (fun h => hok.ne.2.1 h.symm)]
      exact ⟨hjaL, hjcL⟩
     ·rw [getD_set_ne X (fun h => he h.symm)] at hx
      obtain ⟨k5, k6⟩ := hSV A' hA' hx
      refine ⟨k5, ?_⟩
      by_cases h : A.st = A'.ic
      ·rw [← h, hnl] at k6
       cases k6
      ·rw [getD_set_ne X h]
       exact k6, fun A' hA' hx => by
     have n1 : A.st ≠ A'.ia := fun h => (hpw A' hA' A hA).2.2.1 h.symm
     rw [getD_set_ne X n1] at hx
     by_cases he : A'.st = A.st
     ·obtain rfl := (hpw A' hA' A hA).2.1 he
      refine ⟨g, by simp only [if_neg (Ne.symm n1)]; exact k1, k2, fun h => ?_, fun _ => ⟨vs, hr', ?_⟩⟩
      ·rw [show (X.setIfInBounds A'.st true).getD A'.st false = true by
        have hlt : A'.st < X.size := by rw [hLs]; exact (Array.getElem?_eq_some_iff.1 e1).1
        simp [Array.getD_eq_getD_getElem?, hlt]] at h
       cases h
      ·rw [if_neg hok.ne.2.1]
       exact hvs
     ·obtain ⟨g', k5, k6, k7, k8⟩ := hAV A' hA' hx
      have hgn : g' ≠ g := by
       rintro rfl
       have hia : A.ia ≠ A'.ia := fun h => he (by rw [(hpw A hA A' hA').1 h])
       exact hDV A hA A' hA' hia hjaL hx (k1.trans k5.symm)
      refine ⟨g', by simp only [if_neg (Ne.symm n1)]; exact k5, k6, fun h => ?_, fun h => ?_⟩
      ·rw [getD_set_ne X (fun h => he h.symm)] at h
       exact (k7 h).grown hg' hgn
      ·rw [getD_set_ne X (fun h => he h.symm)] at h
       obtain ⟨vs', k9, k10⟩ := k8 h
       refine ⟨vs', k9.grown hg' hgn, ?_⟩
       have := (hSV A' hA' h).2
       rw [if_neg (fun h2 => by rw [h2, hnl] at this; cases this)]
       exact k10, fun A1 hA1 A2 hA2 hne hx1 hx2 => by
     have n1 : A.st ≠ A1.ia := fun h => (hpw A1 hA1 A hA).2.2.1 h.symm
     have n2 : A.st ≠ A2.ia := fun h => (hpw A2 hA2 A hA).2.2.1 h.symm
     rw [getD_set_ne X n1] at hx1
     rw [getD_set_ne X n2] at hx2
     simp only [if_neg (Ne.symm n1), if_neg (Ne.symm n2)]
     exact hDV A1 hA1 A2 hA2 hne hx1 hx2⟩
   simp only [if_true] at hk
   exact in_skip ho hg (by intro c h; rw [e3] at h; cases h) (fun f _ => hfn f) hrun hk
  have hno : ∀ A ∈ As, i ≠ A.ia ∧ i ≠ A.st := fun A hA => ⟨fun h => hial ⟨A, hA, h⟩, fun h => hist ⟨A, hA, h⟩⟩
  obtain ⟨hdef, hab, hds, hrun⟩ := hops i o a' V hno hIV ho hev hrd'
  have hnext : ∀ v V', Below V.heap.size V V' → (∀ t, o.dst = some t → spcAt L t v V') → K (a'.put o.dst v) V' := by
   intro v V' hB hP
   have hk := hK (fun j => if j = i then v else b j) V' (fun j hj => by
    rw [if_neg]
    rintro rfl
    rw [hnl] at hj; cases hj) ⟨hIV.trans (hB.mono hIV.size), fun j t oj hj hjd hjL => by
     by_cases hji : j = i
     ·subst hji
      obtain rfl : o = oj := Option.some.inj (ho.symm.trans hj)
      simp only [if_true]
      exact hP t hjd
     ·rw [getD_set_ne X (fun h => hji h.symm)] at hjL
      simp only [if_neg hji]
      exact (hPV j t oj hj hjd hjL).sb (Sb.of_below hB), fun A' hA' hx => by
     rw [getD_set_ne X (hno A' hA').2] at hx
     obtain ⟨k1, k2⟩ := hSV A' hA' hx
     rw [getD_set_ne X (hno A' hA').1]
     refine ⟨k1, ?_⟩
     by_cases h : i = A'.ic
     ·rw [← h, hnl] at k2
      cases k2
     ·rw [getD_set_ne X h]
      exact k2, fun A' hA' hx => by
     rw [getD_set_ne X (hno A' hA').1] at hx
     obtain ⟨g', k5, k6, k7, k8⟩ := hAV A' hA' hx
     refine ⟨g', by simp only [if_neg (Ne.symm (hno A' hA').1)]; exact k5, k6, fun h => ?_, fun h => ?_⟩
     ·rw [getD_set_ne X (hno A' hA').2] at h
      exact (k7 h).later hB
     ·rw [getD_set_ne X (hno A' hA').2] at h
      obtain ⟨vs', k9, k10⟩ := k8 h
      refine ⟨vs', k9.later hB, ?_⟩
      have := (hSV A' hA' h).2
      rw [if_neg (fun h2 => by rw [h2, hnl] at this; cases this)]
      exact k10, fun A1 hA1 A2 hA2 hne hx1 hx2 => by
     rw [getD_set_ne X (hno A1 hA1).1] at hx1
     rw [getD_set_ne X (hno A2 hA2).1] at hx2
     simp only [if_neg (Ne.symm (hno A1 hA1).1), if_neg (Ne.symm (hno A2 hA2).1)]
     exact hDV A1 hA1 A2 hA2 hne hx1 hx2⟩
   simpa using hk
  rcases hrun with ⟨v, V', hrun, hB, hP⟩ | ⟨f, args, hrun, hcall⟩
  ·exact in_value ho hg hdef hab hrun (hnext v V' hB hP)
  ·refine in_call_any ho hg hdef hF hab hrun (hcall.mono ?_)
   rintro e w' ⟨v, rfl, hB, hP⟩
   exact ⟨v, rfl, hnext v w' hB hP⟩
 ·rintro b X V ⟨hIV, hPV, hSV, hAV, hDV⟩ hX
  refine hend b V hIV (fun i t o hi hid => hPV i t o hi hid (hX i (Array.getElem?_eq_some_iff.1 hi).1)) (fun A hA => ?_) fun A hA A' hA' hne => ?_
  ·obtain ⟨o1, e1, -⟩ := (hAs A hA).1.al
   obtain ⟨o2, e2, -⟩ := (hAs A hA).1.st
   obtain ⟨g, k1, k2, k3, k4⟩ := hAV A hA (hX _ (Array.getElem?_eq_some_iff.1 e1).1)
   obtain ⟨vs, k5, k6⟩ := k4 (hX _ (Array.getElem?_eq_some_iff.1 e2).1)
   exact ⟨g, vs, k1, k2, k5, k6⟩
  ·obtain ⟨o1, e1, -⟩ := (hAs A hA).1.al
   obtain ⟨o2, e2, -⟩ := (hAs A' hA').1.al
   exact hDV A hA A' hA' hne (hX _ (Array.getElem?_eq_some_iff.1 e1).1) (hX _ (Array.getElem?_eq_some_iff.1 e2).1)
theorem agg3 {vs : List Value} {a b d : Value} (h : Value.agg vs.toArray = .agg #[a, b, d]) : vs = [a, b, d] := by
 injection h with h
 have := congrArg Array.toList h
 simpa using this
def Spc.ptT (R : Option (Nat × Nat)) : Spc := ⟨fun v V => ∃ u, v = .tuple #[u, .bool true] ∧ Pt V u R, fun v V V' hb ⟨u, e, h⟩ => ⟨u, e, h.sb hb⟩⟩
def Spc.pt' (R : Option (Nat × Nat)) : Spc := ⟨fun v V => Pt V v R, fun _ _ _ hb h => h.sb hb⟩
theorem Spc.pt_form {R : Option (Nat × Nat)} (v : Value) (V : World) (h : (Spc.pt' R).P v V) : ∃ vs : List Value, v = .agg vs.toArray ∧ vs.length = 3 ∧ Ones vs := by
 obtain ⟨t, A, n, c, A', n', c', rfl⟩ := Pt.three' h
 exact ⟨[.bool t, .slice A n c, .slice A' n' c'], rfl, rfl, ones3 rfl rfl rfl⟩
end Go.Proofs.Ytbejcollbkeedaa
