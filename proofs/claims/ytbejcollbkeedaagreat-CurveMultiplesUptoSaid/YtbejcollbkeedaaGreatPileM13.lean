/- Parts of one proof, joined: TreeB, CuQ, CuR, CuT, Open8, CuV, CwC, WPt, RvB, TreeG, WCv, WCw, WCy, RangeR. -/
import Derived.Test.YtbejcollbkeedaaGreatPileM12
import Derived.Test.YtbejcollbkeedaaGreatPileM6
import Derived.Test.YtbejcollbkeedaaGreatPileM3
import Derived.Test.YtbejcollbkeedaaGreatPileM8
import Derived.Test.YtbejcollbkeedaaGreatPileM4
import Derived.Test.YtbejcollbkeedaaGreatPileM1
import Derived.Test.YtbejcollbkeedaaGreatPileM11
import Derived.Test.YtbejcollbkeedaaGreatPileM7
import Derived.Test.YtbejcollbkeedaaGreatPileM2
set_option linter.unusedVariables false
set_option linter.unusedSimpArgs false
set_option linter.unusedSectionVars false
set_option maxRecDepth 100000
set_option maxHeartbeats 8000000
open Go.Lib (hid)
namespace Go.Proofs.YtbejcollbkeedaaGreat
open Go.RowKit
structure SpB where
 P : Value → World → Prop
 later : ∀ v V V', Below V.heap.size V V' → P v V → P v V'
def SpB.val (c : Value) : SpB := ⟨fun v _ => v = c, fun _ _ _ _ h => h⟩
def SpB.num (k : Nat) : SpB := ⟨fun v V => Nu V v k, fun _ _ _ hb h => h.later hb⟩
def SpB.row (t : TypeId) (N : Nat) (vs : List Value) : SpB := ⟨fun v V => ∃ g, v = .pointer (some ⟨g, 0, none⟩) ∧ N ≤ g ∧ RowV t V g vs, fun _ _ _ hb h => by
 obtain ⟨g, e, hN, hr⟩ := h
 exact ⟨g, e, hN, hr.later hb⟩⟩
def SpB.of (s : Spc) : SpB := ⟨s.P, fun v V V' hb h => s.sb v V V' (Sb.of_below hb) h⟩
def spbAt (L : List (Nat × SpB)) (t : Nat) (v : Value) (V : World) : Prop := match L.lookup t with
 | some s => s.P v V
 | none => True
theorem spbAt.later {L : List (Nat × SpB)} {t : Nat} {v : Value} {V V' : World} (hb : Below V.heap.size V V') (h : spbAt L t v V) : spbAt L t v V' := by
 unfold spbAt at h ⊢
 cases hl : L.lookup t with
 | none => trivial
 | some s =>
  rw [hl] at h
  exact s.later v V V' hb h
def OpOkB (F : Fence) (n : Nat) (P : Program) (L : List (Nat × SpB)) (a' : Act) (V : World) (o : Oper) : Prop :=
 (∀ c, o.op ≠ .defer c) ∧ (∀ f, o.about P V a'.eval = some f → F.fn f) ∧ o.dst ≠ none ∧
  ((∃ v V', (execOp a'.eval o).run P V = .ok (.value v) V' ∧ Below V.heap.size V V' ∧ ∀ t, o.dst = some t → spbAt L t v V') ∨
   ∃ f args, (execOp a'.eval o).run P V = .ok (.enter f args) V ∧ CallsIn F (n - 1) P f args V fun e w' => ∃ v, e = .returned v ∧ Below V.heap.size V w' ∧ ∀ t, o.dst = some t → spbAt L t v w')
theorem wpIn_region_numB {F : Fence} {n : Nat} {P : Program} {id : Nat} {ops : Array Oper} {Q : Exit → Act → World → Prop} {a : Act} {w : World} (hF : F.depth = none) (hm : P.follows .mixedOrders = true)
  (L : List (Nat × SpB)) (hd : distinctB ops = true) (hdep : depsW ops (L.map (·.1)) [] = true) (hon : onlyB ops (L.map (·.1)) = true) (hord : orderedB ops = true) (hsz : (L.map (·.1)).all (fun t => decide (t < a.tmps.size)) = true)
  (s : Nat) (hs : s + 1 = ops.size) (hroot : rootB ops s = true)
  (hops : ∀ (i : Nat) (o : Oper) (a' : Act) (V : World), i < s → Below w.heap.size w V → ops[i]? = some o → (∀ t, (L.map (·.1)).contains t = false → a'.eval (.tmp t) = a.eval (.tmp t)) → (∀ t, readsB o t = true → (L.map (·.1)).contains t = true → spbAt L t (a'.eval (.tmp t)) V) → OpOkB F n P L a' V o)
  (hlast : ∀ (vals : Nat → Value) (o : Oper) (a' : Act) (V : World), Below w.heap.size w V → ops[s]? = some o → (∀ t, (L.map (·.1)).contains t = false → a'.eval (.tmp t) = a.eval (.tmp t)) →
   (∀ t, readsB o t = true → (L.map (·.1)).contains t = true → ∃ (j : Nat) (oj : Oper), ops[j]? = some oj ∧ oj.dst = some t ∧ a'.eval (.tmp t) = vals j) → (∀ (i t : Nat) (o : Oper), i < s → ops[i]? = some o → o.dst = some t → spbAt L t (vals i) V) →
   (∀ c, o.op ≠ .defer c) ∧ (∀ f, o.about P V a'.eval = some f → F.fn f) ∧ ∃ v W2, ((execOp a'.eval o).run P V = .ok .skip W2 ∧ v = undef ∨ (execOp a'.eval o).run P V = .ok (.value v) W2) ∧
    Q .normal { tmps := wrote ops (fun j => if j = s then v else vals j) (Array.replicate ops.size true) a.tmps ops.size, defers := a.defers } W2) : (Code.region id ops true).wpIn F n P Q a w := by
 have hd' := distinct_of hd
 have hclose : ∀ (L : Array Bool), L.size = ops.size → (∀ (j : Nat) (oj : Oper), ops[j]? = some oj → L.getD j false = true → ∀ e ∈ oj.after, Region.binds .any e = true → L.getD e.on false = true) → L.getD s false = true → ∀ k i, i + k = s → L.getD i false = true := by
  intro L hsz hcl hL k
  induction k using Nat.strongRecOn with
  | _ k ih =>
   intro i hik
   rcases Nat.eq_zero_or_pos k with h0 | h0
   ·obtain rfl : i = s := by omega
    exact hL
   ·simp only [rootB, List.all_eq_true, List.mem_range] at hroot
    have h1 := hroot i (by omega)
    rw [List.any_eq_true] at h1
    obtain ⟨j, hj, h2⟩ := h1
    rw [List.mem_range] at hj
    rw [Bool.and_eq_true, decide_eq_true_eq] at h2
    have hjl := ih (s - j) (by omega) j (by omega)
    cases ho : ops[j]? with
    | none => rw [ho] at h2; simp at h2
    | some o =>
     rw [ho] at h2
     obtain ⟨e, he, he2⟩ := Array.any_eq_true'.1 h2.2
     rw [Bool.and_eq_true, beq_iff_eq] at he2
     have := hcl j o ho hjl e he he2.2
     rwa [he2.1] at this
 refine wpIn_region_relH hm hd' (fun b : Nat → Value => b) (fun b Ls V => (Ls.getD s false = false → Below w.heap.size w V ∧ ∀ (j t : Nat) (o : Oper), ops[j]? = some o → o.dst = some t → Ls.getD j false = true → spbAt L t (b j) V) ∧
   (Ls.getD s false = true → Q .normal { tmps := wrote ops b (Array.replicate ops.size true) a.tmps ops.size, defers := a.defers } V)) (fun _ => undef) ⟨fun _ => ⟨below_drewN (Below.refl _ w) 1, ?_⟩, fun h => ?_⟩ ?_ ?_ (acyclic_of hord)
 ·intro j t o _ _ hL
  rw [getD_rep] at hL
  cases hL
 ·rw [getD_rep] at h
  cases h
 ·rintro b Ls a' V ⟨hV0, -⟩ hLs hdf hcl hold hnew i hi o ho K hK
  obtain ⟨h1, o2, ho2, hde⟩ := mem_ready.1 hi
  obtain rfl : o = o2 := Option.some.inj (ho.symm.trans ho2)
  have hnl := unlisted h1
  have his : i ≤ s := by have := (Array.getElem?_eq_some_iff.1 ho).1; omega
  have hLf : Ls.getD s false = false := by
   apply Classical.byContradiction
   intro h
   have := hclose Ls hLs hcl (by simpa using h) (s - i) i (by omega)
   rw [hnl] at this
   cases this
  obtain ⟨hIV, hPV⟩ := hV0 hLf
  obtain ⟨hg, hev, hrd⟩ := tree_reads hdep hon hsz hold hnew ho hde
  have hrd' : ∀ t, readsB o t = true → (L.map (·.1)).contains t = true → spbAt L t (a'.eval (.tmp t)) V := by
   intro t h2 h3
   obtain ⟨j, oj, hj, hjd, hjL, e⟩ := hrd t h2 h3
   rw [e]
   exact hPV j t oj hj hjd hjL
  rcases Nat.lt_or_ge i s with his' | his'
  ·obtain ⟨hdef, hab, -, hrun⟩ := hops i o a' V his' hIV ho hev hrd'
   have hnext : ∀ v V', Below V.heap.size V V' → (∀ t, o.dst = some t → spbAt L t v V') → K (a'.put o.dst v) V' := by
    intro v V' hB hP
    have hk := hK (fun j => if j = i then v else b j) V' (fun j hj => by
     rw [if_neg]
     rintro rfl
     rw [hnl] at hj; cases hj) ⟨fun _ => ⟨hIV.trans (hB.mono hIV.size), fun j t oj hj hjd hjL => by
      by_cases hji : j = i
      ·subst hji
       obtain rfl : o = oj := Option.some.inj (ho.symm.trans hj)
       simp only [if_true]
       exact hP t hjd
      ·rw [getD_set_ne Ls (fun h => hji h.symm)] at hjL
       simp only [if_neg hji]
       exact (hPV j t oj hj hjd hjL).later hB⟩, fun h => by
      rw [getD_set_ne Ls (by omega), hLf] at h
      cases h⟩
    simpa using hk
   rcases hrun with ⟨v, V', hrun, hB, hP⟩ | ⟨f, args, hrun, hcall⟩
   ·exact in_value ho hg hdef hab hrun (hnext v V' hB hP)
   ·refine in_call_any ho hg hdef hF hab hrun (hcall.mono ?_)
    rintro e w' ⟨v, rfl, hB, hP⟩
    exact ⟨v, rfl, hnext v w' hB hP⟩
  ·obtain rfl : i = s := by omega
   have hall : ∀ j, j < i → Ls.getD j false = true := by
    intro j hj
    simp only [rootB, List.all_eq_true, List.mem_range] at hroot
    have hdown : ∀ k j, j + k = i → 0 < k → Ls.getD j false = true := by
     intro k
     induction k using Nat.strongRecOn with
     | _ k ih =>
      intro j hjk h0
      have h1 := hroot j (by omega)
      rw [List.any_eq_true] at h1
      obtain ⟨m, hm', h2⟩ := h1
      rw [List.mem_range] at hm'
      rw [Bool.and_eq_true, decide_eq_true_eq] at h2
      by_cases hmi : m = i
      ·subst hmi
       rw [ho] at h2
       obtain ⟨e, he, he2⟩ := Array.any_eq_true'.1 h2.2
       rw [Bool.and_eq_true, beq_iff_eq] at he2
       have := hde e he he2.2
       rwa [he2.1] at this
      ·have hml := ih (i - m) (by omega) m (by omega) (by omega)
       cases hom : ops[m]? with
       | none => rw [hom] at h2; simp at h2
       | some om =>
        rw [hom] at h2
        obtain ⟨e, he, he2⟩ := Array.any_eq_true'.1 h2.2
        rw [Bool.and_eq_true, beq_iff_eq] at he2
        have := hcl m om hom hml e he he2.2
        rwa [he2.1] at this
    exact hdown (i - j) j (by omega) (by omega)
   obtain ⟨hdef, hab, v, W2, hrun, hQ⟩ := hlast b o a' V hIV ho hev (fun t h2 h3 => by
    obtain ⟨j, oj, hj, hjd, hjL, e⟩ := hrd t h2 h3
    exact ⟨j, oj, hj, hjd, e⟩) fun j t oj hj hoj hjd => hPV j t oj hoj hjd (hall j hj)
   have hk := hK (fun j => if j = i then v else b j) W2 (fun j hj => by
    rw [if_neg]
    rintro rfl
    rw [hnl] at hj; cases hj) ⟨fun h => absurd h (by rw [getD_set_self Ls (by omega)]; simp), fun _ => hQ⟩
   simp only [if_true] at hk
   rcases hrun with ⟨hrun, rfl⟩ | hrun
   ·exact in_skip ho hg hdef hab hrun hk
   ·exact in_value ho hg hdef hab hrun hk
 ·rintro b Ls V ⟨-, h⟩ hL
  exact h (hL s (by omega))
def natsB (bs : List (BitVec 8)) : List Nat := bs.map BitVec.toNat
theorem sl8_of_slVB {w : World} {B n c : Nat} {A : Option Addr} {bs : List (BitVec 8)} (h : SlV w B A n c (bs.map W8)) : Sl8 w B A n c (natsB bs) := by
 refine ⟨by rw [natsB, List.length_map]; simpa using h.len, h.cap, h.max, fun x hx => ?_, fun hn => ?_⟩
 ·obtain ⟨y, _, rfl⟩ := List.mem_map.1 hx
  exact y.isLt
 ·obtain ⟨b, off, e, hb, hc⟩ := h.2.2.2 (by intro e; apply hn; rw [List.map_eq_nil_iff] at e; rw [natsB, e]; rfl)
  refine ⟨b, off, e, hb, fun k x hx => ?_⟩
  rw [natsB, List.getElem?_map, Option.map_eq_some_iff] at hx
  obtain ⟨y, hy, rfl⟩ := hx
  exact hc k (W8 y) (by rw [List.getElem?_map, hy]; rfl)
def numB (bs : List (BitVec 8)) : Nat := V 256 (natsB bs).reverse
theorem fromb_u (w : World) (A : Option Addr) (n c : Nat) (bs : List (BitVec 8)) (hs : SlV w w.heap.size A n c (bs.map W8)) (hn : n ≤ 500) : Calls Tryz.prog 63 #[.slice A n c] w fun e w' => RetU w (numB bs) e w' := by
 refine (frombytes_any w _ (Nat.le_refl _) A n c (natsB bs) (sl8_of_slVB hs) (by omega)).mono ?_
 rintro e w' ⟨zs, hz, A3, n3, c3, rfl, hs3, hB⟩
 refine ⟨_, rfl, Nu.of hs3 hz ?_, hB⟩
 have h1 : V 256 (natsB bs).reverse < 256 ^ (natsB bs).reverse.length := V_lt _ (fun x hx => by
  rw [List.mem_reverse] at hx
  obtain ⟨y, _, rfl⟩ := List.mem_map.1 hx
  exact y.isLt)
 have hl : (natsB bs).reverse.length = n := by
  have := hs.len
  simp [natsB] at this ⊢
  omega
 rw [hl] at h1
 exact Nat.lt_of_lt_of_le h1 (Nat.le_trans (Nat.pow_le_pow_right (by decide) hn) (by decide +kernel))
theorem SlV.first {w : World} {B n c bq off : Nat} {v : Value} {vs : List Value} (h : SlV w B (some ⟨bq, off, none⟩) n c (v :: vs)) : w.cell? ⟨bq, off, none⟩ = some v := by
 obtain ⟨b, o, e, _, hc⟩ := h.2.2.2 (by simp)
 injection e with e
 injection e with e1 e2
 subst e1 e2
 exact hc 0 v rfl
theorem cDec_good (w : World) (c : Int) (D : Crv) (hc : crvOf c = some D) (bq off n cp : Nat) (b0 : BitVec 8) (bs : List (BitVec 8)) (hs : SlV w w.heap.size (some ⟨bq, off, none⟩) n cp ((b0 :: bs).map W8)) (hn : n ≤ 500) (hb0 : b0 = 4) (hl : n = 1 + 2 * D.size) (hD : 0 < D.size ∧ D.size ≤ 200) (X Y : Nat) (hX : numB (bs.take D.size) = X) (hY : numB (bs.drop D.size) = Y) (has : hasN D.p D.b (some (X, Y))) :
  Calls Tryz.prog 25 #[.int .i64 c, .slice (some ⟨bq, off, none⟩) n cp] w fun e w' => ∃ v, e = .returned (.tuple #[v, .bool true]) ∧ Pt w' v (some (X, Y)) ∧ Below w.heap.size w w' := by
 have hnn : n = bs.length + 1 := by simpa using hs.len
 have hn1 : (0 : Int) < n := by omega
 have hn2 : ¬ (n : Int) = 0 := by omega
 have hz8 := BitVec.isLt b0
 obtain ⟨v8, hv8⟩ : ∃ v : Int, i8 b0 = v := ⟨_, rfl⟩
 have hc8 : (W8 b0) = .int .u8 v8 := by rw [← hv8]
 have hv0 : v8 = 4 := by rw [← hv8, hb0]; rfl
 subst hv0
 obtain ⟨sz, hsz⟩ : ∃ z, D.size = z := ⟨_, rfl⟩
 rw [hsz] at hl hD hX hY
 have HSZ := hid hsz
 subst hl
 have hD2 : (sz : Int) ≤ 200 := by omega
 have hD3 : (0 : Int) < (sz : Int) := by omega
 clear hb0 hsz hn1 hn2
 have HV8 := hid hv8
 have HC8 := hid hc8
 have HNN := hid hnn
 have HSW := hid hs
 clear hnn hz8 hv8 hc8
 have hmx : Tryz.prog.follows .mixedOrders = true := by kernel_rfl
 have hok := crv_ok hc
 have HOK := hid hok
 obtain ⟨W0, e0, r0, b0, s0⟩ := newS w 26 [.bool false, .slice none 0 0, .slice none 0 0] _ rfl
 obtain ⟨gr, hgr⟩ : ∃ x, w.heap.size = x := ⟨_, rfl⟩
 rw [hgr] at r0
 have HB := hid b0
 have HR := hid r0
 have HGL := hid (show w.heap.size ≤ gr by omega)
 have hs0 := hs.later b0 (Nat.le_refl _)
 have HS := hid hs0
 have Hhas := hid has
 have HhX := hid hX
 have HhY := hid hY
 have HhD := hid hD
 have HD := hid (domOf_yes W0 c D hc)
 clear b0 s0 r0 hc hs hs0 hok has hX hY hD
 go_enter Tryz.func25, Tryz.ntmps25
 go_wp2_with fail
 refine HD.out.mono ?_
 rintro e w1 ⟨vd, rfl, hvd, hb1⟩
 obtain ⟨vp, vb, vn, vx, vy, rfl, k1, k2, k3, k4, k5⟩ := hvd
 obtain ⟨Ap, np, cp', rfl⟩ := k1.sl
 obtain ⟨Ab, nb, cb, rfl⟩ := k2.sl
 obtain ⟨An, nn, cn, rfl⟩ := k3.sl
 obtain ⟨Ax, nx, cx, rfl⟩ := k4.sl
 obtain ⟨Ay, ny, cy, rfl⟩ := k5.sl
 have HDM := hid (show Dm w1 _ D from ⟨_, _, _, _, _, rfl, k1, k2, k3, k4, k5⟩)
 obtain ⟨W5, e5, r5, b5, s5⟩ := newS w1 73 [.int .i64 0, .slice none 0 0, .slice none 0 0, .slice none 0 0, .bool false, .slice none 0 0, .slice none 0 0] _ rfl
 obtain ⟨g8, hg8⟩ : ∃ x, w1.heap.size = x := ⟨_, rfl⟩
 rw [hg8] at r5
 have HB5 := hid b5
 have HB1 := hid hb1
 have HG8 := hid (show w1.heap.size ≤ g8 by omega)
 have HNU := hid (NoU.of_row r5 (by intro v hv x; simp only [List.mem_cons, List.not_mem_nil, or_false] at hv; rcases hv with rfl | rfl | rfl | rfl | rfl | rfl | rfl <;> (intro h; cases h)))
 have HRG := hid ((HR.out.later hb1).later b5)
 have HNR := hid (show gr ≠ g8 by have := (HR.out.later hb1).lt; omega)
 have hs5 := (HS.out.later hb1 (Nat.le_refl _)).later b5 (Nat.le_refl _)
 have HS5 := hid hs5
 clear hb1 b5 s5 hs5 k1 k2 k3 k4 k5
 have hbw1 := HB.out.trans (HB1.out.mono HB.out.size)
 have HBW5 := hid (hbw1.trans (HB5.out.mono hbw1.size))
 have HG8X := hid (show w.heap.size ≤ g8 by have := HG8.out; have := hbw1.size; omega)
 clear hbw1
 go_wp2_with ((with_reducible show wpList _ _ _ (⟨none, _, _, _, _, _⟩ :: _) _ _); refine wlS_store rfl 73 7 Tryz.sizeDom _ _ rfl g8 [.int .i64 (D.size : Int), .slice Ap np cp', .slice Ab nb cb, .slice An nn cn, .bool false, .slice Ax nx cx, .slice Ay ny cy] rfl rfl 73 _ r5 rfl rfl (by intro v hv; simp only [List.mem_cons, List.not_mem_nil, or_false] at hv; rcases hv with rfl | rfl | rfl | rfl | rfl | rfl | rfl <;> rfl) ?_; intro w6 hr6 hg6 hz; have HBX := hid (below_grown HBW5.out hg6 HG8X.out HBW5.out.size); have hc0 : w6.cell? ⟨bq, off, none⟩ = some (.int .u8 4) := (by have hh := (HSW.out.later HBX.out (Nat.le_refl _)).first; rw [HC8.out] at hh; exact hh); have f0 := hr6.at_ (i := 0) rfl; rw [HSZ.out] at f0)
 have hbw1 := HB.out.trans (HB1.out.mono HB.out.size)
 have hbw5 := hbw1.trans (HB5.out.mono hbw1.size)
 have HB6 := hid (below_grown hbw5 hg6 (by have := HG8.out; have := hbw1.size; omega) hbw5.size)
 have HR6 := hid (HRG.out.grown hg6 HNR.out)
 clear hbw1 hbw5
 have HDM6 := hid ((HDM.out.later HB5.out).sb ⟨g8, HNU.out, hg6⟩)
 have HR8 := hid hr6
 have hgrl := HR6.out.lt
 have HGX := hid (show gr < w6.heap.size ∧ g8 < w6.heap.size from ⟨hgrl, hr6.lt⟩)
 have hcap := (HSW.out).cap
 have hcm := (HSW.out).max
 have HCP := hid (And.intro hcap hcm)
 have hcap2 : ((1 + 2 * sz : Nat) : Int) ≤ (cp : Int) := by omega
 have hcm2 : (cp : Int) ≤ 9223372036854775807 := by omega
 clear hgrl hcap hcm
 have HD3 := hid (show sz ≤ 200 by omega)
 refine (wpIn_wide (n := 9)).1 (wpIn_region_numB rfl hmx [(47, .val (.slice (some ⟨bq, off, none⟩) (1 + 2 * sz) cp)), (48, .val (.pointer (some ⟨g8, 0, none⟩))), (49, .val (.int .i64 (sz : Int))), (50, .val (.int .i64 (1 + (sz : Int)))), (51, .val (.slice (some ⟨bq, off + 1, none⟩) sz (cp - 1))), (52, .num (X)), (53, .val (.slice (some ⟨bq, off, none⟩) (1 + 2 * sz) cp)), (54, .val (.pointer (some ⟨g8, 0, none⟩))), (55, .val (.int .i64 (sz : Int))), (56, .val (.int .i64 (1 + (sz : Int)))), (57, .val (.slice (some ⟨bq, off + (1 + sz), none⟩) sz (cp - (1 + sz)))), (58, .num (Y)), (59, .of (.pt (some (X, Y)))), (8, .row 26 w6.heap.size [.bool false, .slice none 0 0, .slice none 0 0])] (by kernel_rfl) (by kernel_rfl) (by kernel_rfl) (by kernel_rfl) (by rfl) 14 rfl (by kernel_rfl) ?hops8 ?hlast8)
 case hops8 =>
  intro i o a' V hns hB ho hev hrd
  have his : i < 15 := by have := (Array.getElem?_eq_some_iff.1 ho).1; simpa using this
  have hw : IntKind.i64.wrap (1 + (sz : Int)) = 1 + (sz : Int) := by
   rw [IntKind.wrap_i64]
   omega
  have k1 : 0 ≤ 1 + (sz : Int) ∧ 1 + (sz : Int) ≤ (cp : Int) := by omega
  have k2 : (1 : Int) ≤ max (1 + (sz : Int)) 0 := by omega
  have k3 : ¬ cp = 1 := by omega
  have k4 : (1 + (sz : Int)).toNat - 1 = sz := by omega
  have k5 : 0 ≤ 1 + (sz : Int) ∧ (sz : Int) ≤ 2 * (sz : Int) := by omega
  have k6 : (1 + (sz : Int)).toNat = 1 + sz := by omega
  have k7 : ¬ cp = 1 + sz := by omega
  have k8 : 1 + 2 * sz - (1 + sz) = sz := by omega
  have hr8 := HR8.out.later hB
  have f0 := hr8.at_ (i := 0) rfl
  rw [HSZ.out] at f0
  have hsV := HSW.out.later (HBX.out.trans (hB.mono HBX.out.size)) (Nat.le_refl _)
  have hd1 := hsV.drop (k := 1) (by omega)
  have hs1 : SlV V V.heap.size (some ⟨bq, off + 1, none⟩) sz (cp - 1) ((bs.take sz).map W8) := by
   have h := hd1.take (k := sz) (by omega)
   simpa [List.map_take] using h
  have hs2 : SlV V V.heap.size (some ⟨bq, off + (1 + sz), none⟩) sz (cp - (1 + sz)) ((bs.drop sz).map W8) := by
   have h := hsV.drop (k := 1 + sz) (by omega)
   have e : 1 + 2 * sz - (1 + sz) = sz := by omega
   rw [e, Nat.add_comm 1 sz] at h
   rw [Nat.add_comm 1 sz]
   simpa [List.map_drop] using h
  have hcase : i = 0 ∨ i = 1 ∨ i = 2 ∨ i = 3 ∨ i = 4 ∨ i = 5 ∨ i = 6 ∨ i = 7 ∨ i = 8 ∨ i = 9 ∨ i = 10 ∨ i = 11 ∨ i = 12 ∨ i = 13 ∨ i = 14 := by omega
  rcases hcase with rfl | rfl | rfl | rfl | rfl | rfl | rfl | rfl | rfl | rfl | rfl | rfl | rfl | rfl | rfl
  ·simp at ho
   subst ho
   have r1 := hev 1 rfl
   simp [Act.eval] at r1
   refine ⟨nofun, fun _ _ => trivial, nofun, .inl ⟨.slice (some ⟨bq, off, none⟩) (1 + 2 * sz) cp, V, ?_, Below.refl _ _, fun t ht => by cases ht; rfl⟩⟩
   simp [execOp, Act.eval, go_sem, r1, f0, hw]
  ·simp at ho
   subst ho
   have r6 := hev 6 rfl
   simp [Act.eval] at r6
   refine ⟨nofun, fun _ _ => trivial, nofun, .inl ⟨.pointer (some ⟨g8, 0, none⟩), V, ?_, Below.refl _ _, fun t ht => by cases ht; rfl⟩⟩
   simp [execOp, Act.eval, go_sem, r6, f0, hw]
  ·simp at ho
   subst ho
   have r48 : a'.eval (.tmp 48) = .pointer (some ⟨g8, 0, none⟩) := hrd 48 rfl rfl
   simp [Act.eval] at r48
   refine ⟨nofun, fun _ _ => trivial, nofun, .inl ⟨.int .i64 (sz : Int), V, ?_, Below.refl _ _, fun t ht => by cases ht; rfl⟩⟩
   simp [execOp, Act.eval, go_sem, r48, f0, hw]
  ·simp at ho
   subst ho
   have r49 : a'.eval (.tmp 49) = .int .i64 (sz : Int) := hrd 49 rfl rfl
   simp [Act.eval] at r49
   refine ⟨nofun, fun _ _ => trivial, nofun, .inl ⟨.int .i64 (1 + (sz : Int)), V, ?_, Below.refl _ _, fun t ht => by cases ht; rfl⟩⟩
   simp [execOp, Act.eval, go_sem, r49, f0, hw]
  ·simp at ho
   subst ho
   have r47 : a'.eval (.tmp 47) = .slice (some ⟨bq, off, none⟩) (1 + 2 * sz) cp := hrd 47 rfl rfl
   simp [Act.eval] at r47
   have r50 : a'.eval (.tmp 50) = .int .i64 (1 + (sz : Int)) := hrd 50 rfl rfl
   simp [Act.eval] at r50
   refine ⟨nofun, fun _ _ => trivial, nofun, .inl ⟨.slice (some ⟨bq, off + 1, none⟩) sz (cp - 1), V, ?_, Below.refl _ _, fun t ht => by cases ht; rfl⟩⟩
   simp [execOp, Act.eval, go_sem, r47, r50]
   rw [if_pos k1, if_pos k2, if_neg k3, k4]
  ·simp at ho
   subst ho
   have r51 : a'.eval (.tmp 51) = .slice (some ⟨bq, off + 1, none⟩) sz (cp - 1) := hrd 51 rfl rfl
   simp [Act.eval] at r51
   refine ⟨nofun, fun _ _ => trivial, nofun, .inr ⟨63, #[.slice (some ⟨bq, off + 1, none⟩) sz (cp - 1)], ?_, (callsIn_wide.2 (fromb_u V _ _ _ (bs.take sz) hs1 (by have := HD3.out; omega))).mono ?_⟩⟩
   ·simp [execOp, Act.eval, r51, resolve, invoke, Deferred.ofValue]
   ·rintro e w' ⟨v, rfl, hv, hB2⟩; rw [HhX.out] at hv
    exact ⟨_, rfl, hB2, fun t ht => by cases ht; exact hv⟩
  ·simp at ho
   subst ho
   have r1 := hev 1 rfl
   simp [Act.eval] at r1
   refine ⟨nofun, fun _ _ => trivial, nofun, .inl ⟨.slice (some ⟨bq, off, none⟩) (1 + 2 * sz) cp, V, ?_, Below.refl _ _, fun t ht => by cases ht; rfl⟩⟩
   simp [execOp, Act.eval, go_sem, r1, f0, hw]
  ·simp at ho
   subst ho
   have r6 := hev 6 rfl
   simp [Act.eval] at r6
   refine ⟨nofun, fun _ _ => trivial, nofun, .inl ⟨.pointer (some ⟨g8, 0, none⟩), V, ?_, Below.refl _ _, fun t ht => by cases ht; rfl⟩⟩
   simp [execOp, Act.eval, go_sem, r6, f0, hw]
  ·simp at ho
   subst ho
   have r54 : a'.eval (.tmp 54) = .pointer (some ⟨g8, 0, none⟩) := hrd 54 rfl rfl
   simp [Act.eval] at r54
   refine ⟨nofun, fun _ _ => trivial, nofun, .inl ⟨.int .i64 (sz : Int), V, ?_, Below.refl _ _, fun t ht => by cases ht; rfl⟩⟩
   simp [execOp, Act.eval, go_sem, r54, f0, hw]
  ·simp at ho
   subst ho
   have r55 : a'.eval (.tmp 55) = .int .i64 (sz : Int) := hrd 55 rfl rfl
   simp [Act.eval] at r55
   refine ⟨nofun, fun _ _ => trivial, nofun, .inl ⟨.int .i64 (1 + (sz : Int)), V, ?_, Below.refl _ _, fun t ht => by cases ht; rfl⟩⟩
   simp [execOp, Act.eval, go_sem, r55, f0, hw]
  ·simp at ho
   subst ho
   have r53 : a'.eval (.tmp 53) = .slice (some ⟨bq, off, none⟩) (1 + 2 * sz) cp := hrd 53 rfl rfl
   simp [Act.eval] at r53
   have r56 : a'.eval (.tmp 56) = .int .i64 (1 + (sz : Int)) := hrd 56 rfl rfl
   simp [Act.eval] at r56
   refine ⟨nofun, fun _ _ => trivial, nofun, .inl ⟨.slice (some ⟨bq, off + (1 + sz), none⟩) sz (cp - (1 + sz)), V, ?_, Below.refl _ _, fun t ht => by cases ht; rfl⟩⟩
   simp [execOp, Act.eval, go_sem, r53, r56]
   rw [if_pos k5, k6, if_neg k7, k8]
  ·simp at ho
   subst ho
   have r57 : a'.eval (.tmp 57) = .slice (some ⟨bq, off + (1 + sz), none⟩) sz (cp - (1 + sz)) := hrd 57 rfl rfl
   simp [Act.eval] at r57
   refine ⟨nofun, fun _ _ => trivial, nofun, .inr ⟨63, #[.slice (some ⟨bq, off + (1 + sz), none⟩) sz (cp - (1 + sz))], ?_, (callsIn_wide.2 (fromb_u V _ _ _ (bs.drop sz) hs2 (by have := HD3.out; omega))).mono ?_⟩⟩
   ·simp [execOp, Act.eval, r57, resolve, invoke, Deferred.ofValue]
   ·rintro e w' ⟨v, rfl, hv, hB2⟩; rw [HhY.out] at hv
    exact ⟨_, rfl, hB2, fun t ht => by cases ht; exact hv⟩
  ·simp at ho
   subst ho
   have r52 : Nu V (a'.eval (.tmp 52)) (X) := hrd 52 rfl rfl
   have r58 : Nu V (a'.eval (.tmp 58)) (Y) := hrd 58 rfl rfl
   obtain ⟨A52, n52, c52, h52⟩ := r52.sl
   rw [h52] at r52
   simp [Act.eval] at h52
   obtain ⟨A58, n58, c58, h58⟩ := r58.sl
   rw [h58] at r58
   simp [Act.eval] at h58
   refine ⟨nofun, fun _ _ => trivial, nofun, .inl ⟨.agg #[.bool false, .slice A52 n52 c52, .slice A58 n58 c58], V, ?_, Below.refl _ _, fun t ht => by cases ht; exact ⟨_, _, rfl, r52, r58⟩⟩⟩
   simp [execOp, Act.eval, go_sem, h52, h58]
  ·simp at ho
   subst ho
   refine ⟨nofun, fun _ _ => trivial, nofun, .inl ⟨.pointer (some ⟨V.heap.size, 0, none⟩), _, ?_, (Below.refl _ V).alloc (Nat.le_refl _) (.cells #[.bool false, .slice none 0 0, .slice none 0 0] 26), fun t ht => by cases ht; exact ⟨_, rfl, hB.size, RowV.new V 26 [.bool false, .slice none 0 0, .slice none 0 0]⟩⟩⟩
   simp [execOp, Act.eval, go_sem]
  ·simp at ho
   subst ho
   omega
 case hlast8 =>
  intro vals o a' V hB ho hev hrd hvals
  simp at ho
  have hop : o.op = .store 26 (.tmp 8) (.tmp 59) := by subst ho; rfl
  have hd8 : readsB o 8 = true := by subst ho; rfl
  have hd59 : readsB o 59 = true := by subst ho; rfl
  have e8 : a'.eval (.tmp 8) = vals 13 := by
   obtain ⟨j, oj, hj, hjd, e⟩ := hrd 8 hd8 (by rfl)
   have hj13 : j = 13 := distinct_of (by kernel_rfl) j 13 oj _ 8 hj rfl hjd rfl
   rw [e, hj13]
  have e59 : a'.eval (.tmp 59) = vals 12 := by
   obtain ⟨j, oj, hj, hjd, e⟩ := hrd 59 hd59 (by rfl)
   have hj12 : j = 12 := distinct_of (by kernel_rfl) j 12 oj _ 59 hj rfl hjd rfl
   rw [e, hj12]
  have p13 : ∃ g, vals 13 = .pointer (some ⟨g, 0, none⟩) ∧ w6.heap.size ≤ g ∧ RowV 26 V g [.bool false, .slice none 0 0, .slice none 0 0] := hvals 13 8 _ (by decide) rfl rfl
  have p12 : Pt V (vals 12) (some (X, Y)) := hvals 12 59 _ (by decide) rfl rfl
  obtain ⟨g9, he13, hg9, hr9⟩ := p13
  obtain ⟨vX, vY, he12, hvX, hvY⟩ := p12
  obtain ⟨V', hrun, hr', hg'⟩ := exec_store (P := Tryz.prog) (w := V) (o := o) (a := a') 26 3 Tryz.sizePt (.tmp 8) (.tmp 59) hop g9 [.bool false, vX, vY] (by rw [e8, he13]) (by rw [e59, he12]) 26 _ hr9 rfl rfl (ones3 rfl hvX.one hvY.one)
  refine ⟨(by intro c h; rw [hop] at h; cases h), (by subst ho; exact fun _ _ => trivial), undef, V', .inl ⟨hrun, rfl⟩, ?_⟩
  have hsb : Sb V V' := ⟨g9, NoU.of_row hr9 (noU3 nofun nofun nofun), hg'⟩
  have hne : g9 ≠ gr ∧ g9 ≠ g8 := by have := HGX.out; omega
  have HPv := hid (show Pg V' (.agg #[.bool false, vX, vY]) (some (X, Y)) from ⟨_, _, rfl, (hvX.sb hsb).gu, (hvY.sb hsb).gu⟩)
  have HVX := hid (And.intro (hvX.sb hsb) (hvY.sb hsb))
  have HDMv := hid ((HDM6.out.later hB).sb hsb)
  have HR8v := hid ((HR8.out.later hB).grown hg' (fun e => hne.2 e.symm))
  have HRv := hid ((HR6.out.later hB).grown hg' (fun e => hne.1 e.symm))
  have hbV := HBX.out.trans (hB.mono HBX.out.size)
  have HBV := hid (below_grown hbV hg' (by have := HBX.out.size; omega) hbV.size)
  have HR9 := hid hr'
  have HV13 := hid he13
  have oX := hvX.one
  have oY := hvY.one
  have HO := hid (And.intro oX oY)
  have HNE := hid hne
  clear hvX hvY hsb hne hbV hr9 hrun hg' hvals hrd hev ho hop e8 e59 he12 oX oY
  simp [wrote, Act.put]
  rw [he13]
  clear he13
  have p0 := HR9.out.at_ (i := 0) rfl
  have p1 := HR9.out.at_ (i := 1) rfl
  have p2 := HR9.out.at_ (i := 2) rfl
  have f0 := HR8v.out.at_ (i := 0) rfl
  have f1 := HR8v.out.at_ (i := 1) rfl
  have f2 := HR8v.out.at_ (i := 2) rfl
  have f3 := HR8v.out.at_ (i := 3) rfl
  have f4 := HR8v.out.at_ (i := 4) rfl
  have f5 := HR8v.out.at_ (i := 5) rfl
  have f6 := HR8v.out.at_ (i := 6) rfl
  have HHAS := hid (chas_any V' D (some (X, Y)) _ _ HDMv.out HPv.out HOK.out.1.1 HOK.out.1.2.1 HOK.out.1.2.2)
  go_wp2_with fail
  refine HHAS.out.mono ?_
  rintro e w10 ⟨rfl, hb10⟩
  have hdec : decide (hasN D.p D.b (some (X, Y))) = true := decide_eq_true Hhas.out
  rw [hdec]
  have hr10 := HRv.out.later hb10
  have h9 := HR9.out.later hb10
  have p0 := h9.at_ (i := 0) rfl
  have p1 := h9.at_ (i := 1) rfl
  have p2 := h9.at_ (i := 2) rfl
  have HB10 := hid (HBV.out.trans (hb10.mono HBV.out.size))
  have HVX10 := hid (And.intro (HVX.out.1.later hb10) (HVX.out.2.later hb10))
  clear hb10 f0 f1 f2 f3 f4 f5 f6 hdec h9
  go_wp2_with ((with_reducible show wpList _ _ _ (⟨none, _, _, _, _, _⟩ :: _) _ _); refine wlS_store rfl 26 3 Tryz.sizePt _ _ rfl gr [.bool false, vX, vY] rfl rfl 26 _ hr10 rfl rfl (ones3 rfl HO.out.1 HO.out.2) ?_; intro w12 hr12 hg12 hz)
  refine ⟨rfl, _, results_pt2 rfl _ gr _ rfl hr12 rfl, _, rfl, ⟨_, _, rfl, HVX10.out.1.sb ⟨gr, NoU.of_row hr10 (noU3 nofun nofun nofun), hg12⟩, HVX10.out.2.sb ⟨gr, NoU.of_row hr10 (noU3 nofun nofun nofun), hg12⟩⟩, below_grown HB10.out hg12 HGL.out HB10.out.size⟩
theorem cMult_none (w : World) (c : Int) (hc : crvOf c = none) (vP : Value) (hP : P3 vP) :
  Calls Tryz.prog 28 #[.int .i64 c, vP] w fun e w' => e = .returned (.func (.func 66) #[] #[]) ∧ Below w.heap.size w w' := by
 have hmx : Tryz.prog.follows .mixedOrders = true := by kernel_rfl
 obtain ⟨iP, bP, dP, rfl, hi1, hi2, hi3⟩ := hP
 obtain ⟨W0, e0, r0, b0, s0⟩ := newS w 26 [iP, bP, dP] _ rfl
 obtain ⟨gP, hgP⟩ : ∃ x, w.heap.size = x := ⟨_, rfl⟩
 obtain ⟨W1, e1, r1, b1, s1⟩ := newS W0 26 [iP, bP, dP] _ rfl
 obtain ⟨gs, hgs⟩ : ∃ x, W0.heap.size = x := ⟨_, rfl⟩
 rw [hgP] at r0
 rw [hgs] at r1
 have hbw : Below w.heap.size w W1 := (b0).trans (b1.mono (b0).size)
 have qgP := (r0.later b1)
 have qgs := r1
 have HB := hid hbw
 have HGL := hid (show w.heap.size ≤ gP ∧ gP < W1.heap.size by omega)
 have HRP := hid qgP
 have pp0 := r0.at_ (i := 0) rfl
 have p0 := qgP.at_ (i := 0) rfl
 have pp1 := r0.at_ (i := 1) rfl
 have p1 := qgP.at_ (i := 1) rfl
 have pp2 := r0.at_ (i := 2) rfl
 have p2 := qgP.at_ (i := 2) rfl
 have HDW := hid (domW_no W1 c hc (.slice (some ⟨gs, 0, none⟩) 1 1))
 clear  b0 s0 r0 b1 s1 r1 hbw qgP qgs hc
 go_enter Tryz.func28, Tryz.ntmps28
 go_wp2_with fail
 refine HDW.out.mono ?_
 rintro e w1 ⟨rfl, hb1⟩
 obtain ⟨W5, e5, r5, b5, s5⟩ := newS w1 73 [.int .i64 0, .slice none 0 0, .slice none 0 0, .slice none 0 0, .bool false, .slice none 0 0, .slice none 0 0] _ rfl
 obtain ⟨g8, hg8⟩ : ∃ x, w1.heap.size = x := ⟨_, rfl⟩
 rw [hg8] at r5
 have HB5 := hid b5
 have HB1 := hid hb1
 have HG8 := hid (show W1.heap.size ≤ g8 by have := hb1.size; omega)
 clear hb1 b5 s5 p0 p1 p2 pp0 pp1 pp2
 go_wp2_with ((with_reducible show wpList _ _ _ (⟨none, _, _, _, _, _⟩ :: _) _ _); refine wlS_store rfl 73 7 Tryz.sizeDom _ _ rfl g8 [.int .i64 0, .slice none 0 0, .slice none 0 0, .slice none 0 0, .bool false, .slice none 0 0, .slice none 0 0] rfl rfl 73 _ r5 rfl rfl (by intro v hv; simp only [List.mem_cons, List.not_mem_nil, or_false] at hv; rcases hv with rfl | rfl | rfl | rfl | rfl | rfl | rfl <;> rfl) ?_; intro w6 hr6 hg6 hz)
 have hbw1 := HB.out.trans (HB1.out.mono HB.out.size)
 have hbw5 := hbw1.trans (HB5.out.mono hbw1.size)
 have HBW := hid (below_grown hbw5 hg6 (by have := HG8.out; have := HGL.out; omega) hbw5.size)
 go_ret
 exact ⟨rfl, HBW.out⟩
theorem cMult_no (w : World) (c : Int) (D : Crv) (hc : crvOf c = some D) (vP : Value) (P : Option (Nat × Nat)) (hP : Pg w vP P) (hno : ¬ hasN D.p D.b P) :
  Calls Tryz.prog 28 #[.int .i64 c, vP] w fun e w' => e = .returned (.func (.func 66) #[] #[]) ∧ Below w.heap.size w w' := by
 have hmx : Tryz.prog.follows .mixedOrders = true := by kernel_rfl
 have hok := crv_ok hc
 obtain ⟨iP, bP, dP, rfl⟩ := hP.ex
 obtain ⟨W0, e0, r0, b0, s0⟩ := newS w 26 [.bool iP, bP, dP] _ rfl
 obtain ⟨gP, hgP⟩ : ∃ x, w.heap.size = x := ⟨_, rfl⟩
 obtain ⟨W1, e1, r1, b1, s1⟩ := newS W0 26 [.bool iP, bP, dP] _ rfl
 obtain ⟨gs, hgs⟩ : ∃ x, W0.heap.size = x := ⟨_, rfl⟩
 rw [hgP] at r0
 rw [hgs] at r1
 have hbw : Below w.heap.size w W1 := (b0).trans (b1.mono (b0).size)
 have qgP := (r0.later b1)
 have qgs := r1
 have HB := hid hbw
 have HGL := hid (show w.heap.size ≤ gP ∧ gP < W1.heap.size by omega)
 have hP3 := hP.later hbw
 have HPP := hid hP3
 have HRP := hid qgP
 have pp0 := r0.at_ (i := 0) rfl
 have p0 := qgP.at_ (i := 0) rfl
 have pp1 := r0.at_ (i := 1) rfl
 have p1 := qgP.at_ (i := 1) rfl
 have pp2 := r0.at_ (i := 2) rfl
 have p2 := qgP.at_ (i := 2) rfl
 have HDW := hid (domW_any W1 c D hc hok.1 gs 1 1 [(.bool iP, bP, dP)] [P] rfl (by decide) rfl (PtsV.one qgs) (by
  intro k a b d R h1 h2
  rcases k with _ | k
  ·simp at h1 h2
   obtain ⟨rfl, rfl, rfl⟩ := h1
   subst h2
   exact hP3
  ·simp at h1))
 have HOK := hid hok
 have Hhno := hid hno
 clear hno b0 s0 r0 b1 s1 r1 hbw qgP qgs hok hc hP hP3
 go_enter Tryz.func28, Tryz.ntmps28
 go_wp2_with fail
 refine HDW.out.mono ?_
 rintro e w1 (⟨vd, rfl, hvd, hall, hb1⟩ | ⟨rfl, ⟨R, hR, hRn⟩, hb1⟩)
 ·exact absurd (hall P (by simp)) Hhno.out
 ·clear hR hRn
  obtain ⟨W5, e5, r5, b5, s5⟩ := newS w1 73 [.int .i64 0, .slice none 0 0, .slice none 0 0, .slice none 0 0, .bool false, .slice none 0 0, .slice none 0 0] _ rfl
  obtain ⟨g8, hg8⟩ : ∃ x, w1.heap.size = x := ⟨_, rfl⟩
  rw [hg8] at r5
  have HB5 := hid b5
  have HB1 := hid hb1
  have HG8 := hid (show W1.heap.size ≤ g8 by have := hb1.size; omega)
  clear hb1 b5 s5 p0 p1 p2 pp0 pp1 pp2
  go_wp2_with ((with_reducible show wpList _ _ _ (⟨none, _, _, _, _, _⟩ :: _) _ _); refine wlS_store rfl 73 7 Tryz.sizeDom _ _ rfl g8 [.int .i64 0, .slice none 0 0, .slice none 0 0, .slice none 0 0, .bool false, .slice none 0 0, .slice none 0 0] rfl rfl 73 _ r5 rfl rfl (by intro v hv; simp only [List.mem_cons, List.not_mem_nil, or_false] at hv; rcases hv with rfl | rfl | rfl | rfl | rfl | rfl | rfl <;> rfl) ?_; intro w6 hr6 hg6 hz)
  have hbw1 := HB.out.trans (HB1.out.mono HB.out.size)
  have hbw5 := hbw1.trans (HB5.out.mono hbw1.size)
  have HBW := hid (below_grown hbw5 hg6 (by have := HG8.out; have := HGL.out; omega) hbw5.size)
  go_ret
  exact ⟨rfl, HBW.out⟩
theorem cMult_yes (w : World) (c : Int) (D : Crv) (hc : crvOf c = some D) (vP : Value) (P : Option (Nat × Nat)) (hP : Pg w vP P) (has : hasN D.p D.b P) :
  Calls Tryz.prog 28 #[.int .i64 c, vP] w fun e w' => ∃ g7 g5 a b d dd, e = .returned (.func (.func 67) #[] #[.pointer (some ⟨g7, 0, none⟩), .pointer (some ⟨g5, 0, none⟩)]) ∧
   RowV 79 w' g7 [a, b, d] ∧ Rt w' (.agg #[a, b, d]) (rtN P) ∧ RowV 73 w' g5 dd ∧ Dm w' (.agg dd.toArray) D ∧ w.heap.size ≤ g7 ∧ w.heap.size ≤ g5 ∧ Below w.heap.size w w' := by
 have hmx : Tryz.prog.follows .mixedOrders = true := by kernel_rfl
 have hok := crv_ok hc
 obtain ⟨iP, bP, dP, rfl⟩ := hP.ex
 obtain ⟨W0, e0, r0, b0, s0⟩ := newS w 26 [.bool iP, bP, dP] _ rfl
 obtain ⟨gP, hgP⟩ : ∃ x, w.heap.size = x := ⟨_, rfl⟩
 obtain ⟨W1, e1, r1, b1, s1⟩ := newS W0 26 [.bool iP, bP, dP] _ rfl
 obtain ⟨gs, hgs⟩ : ∃ x, W0.heap.size = x := ⟨_, rfl⟩
 rw [hgP] at r0
 rw [hgs] at r1
 have hbw : Below w.heap.size w W1 := (b0).trans (b1.mono (b0).size)
 have qgP := (r0.later b1)
 have qgs := r1
 have HB := hid hbw
 have HGL := hid (show w.heap.size ≤ gP ∧ gP < W1.heap.size by omega)
 have hP3 := hP.later hbw
 have HPP := hid hP3
 have HRP := hid qgP
 have pp0 := r0.at_ (i := 0) rfl
 have p0 := qgP.at_ (i := 0) rfl
 have pp1 := r0.at_ (i := 1) rfl
 have p1 := qgP.at_ (i := 1) rfl
 have pp2 := r0.at_ (i := 2) rfl
 have p2 := qgP.at_ (i := 2) rfl
 have HDW := hid (domW_any W1 c D hc hok.1 gs 1 1 [(.bool iP, bP, dP)] [P] rfl (by decide) rfl (PtsV.one qgs) (by
  intro k a b d R h1 h2
  rcases k with _ | k
  ·simp at h1 h2
   obtain ⟨rfl, rfl, rfl⟩ := h1
   subst h2
   exact hP3
  ·simp at h1))
 have HOK := hid hok
 have Hhas := hid has
 clear has b0 s0 r0 b1 s1 r1 hbw qgP qgs hok hc hP hP3
 go_enter Tryz.func28, Tryz.ntmps28
 go_wp2_with fail
 refine HDW.out.mono ?_
 rintro e w1 (⟨vd, rfl, hvd, hall, hb1⟩ | ⟨rfl, ⟨R, hR, hRn⟩, hb1⟩)
 rotate_left
 ·exfalso
  simp only [List.mem_cons, List.not_mem_nil, or_false] at hR
  subst hR
  exact hRn Hhas.out
 ·skip
  obtain ⟨vp, vb, vn, vx, vy, rfl, k1, k2, k3, k4, k5⟩ := hvd
  obtain ⟨Ap, np, cp, rfl⟩ := k1.sl
  obtain ⟨Ab, nb, cb, rfl⟩ := k2.sl
  obtain ⟨An, nn, cn, rfl⟩ := k3.sl
  obtain ⟨Ax, nx, cx, rfl⟩ := k4.sl
  obtain ⟨Ay, ny, cy, rfl⟩ := k5.sl
  have HDM := hid (show Dm w1 _ D from ⟨_, _, _, _, _, rfl, k1, k2, k3, k4, k5⟩)
  obtain ⟨W5, e5, r5, b5, s5⟩ := newS w1 73 [.int .i64 0, .slice none 0 0, .slice none 0 0, .slice none 0 0, .bool false, .slice none 0 0, .slice none 0 0] _ rfl
  obtain ⟨g8, hg8⟩ : ∃ x, w1.heap.size = x := ⟨_, rfl⟩
  rw [hg8] at r5
  have HB5 := hid b5
  have HB1 := hid hb1
  have HG8 := hid (show W1.heap.size ≤ g8 by have := hb1.size; omega)
  have HNU := hid (NoU.of_row r5 (by intro v hv x; simp only [List.mem_cons, List.not_mem_nil, or_false] at hv; rcases hv with rfl | rfl | rfl | rfl | rfl | rfl | rfl <;> (intro h; cases h)))
  clear k1 k2 k3 k4 k5 hall hb1 b5 s5 p0 p1 p2 pp0 pp1 pp2
  go_wp2_with ((with_reducible show wpList _ _ _ (⟨none, _, _, _, _, _⟩ :: _) _ _); refine wlS_store rfl 73 7 Tryz.sizeDom _ _ rfl g8 [.int .i64 (D.size : Int), .slice Ap np cp, .slice Ab nb cb, .slice An nn cn, .bool false, .slice Ax nx cx, .slice Ay ny cy] rfl rfl 73 _ r5 rfl rfl (by intro v hv; simp only [List.mem_cons, List.not_mem_nil, or_false] at hv; rcases hv with rfl | rfl | rfl | rfl | rfl | rfl | rfl <;> rfl) ?_; intro w6 hr6 hg6 hz; have q6 := ((HRP.out.later HB1.out).later HB5.out).grown hg6 (by have := HG8.out; have := HGL.out; omega); have c0 := q6.at_ (i := 0) rfl; have c1 := q6.at_ (i := 1) rfl; have c2 := q6.at_ (i := 2) rfl)
  have hsb : Sb W5 w6 := ⟨g8, HNU.out, hg6⟩
  have HDM6 := hid ((HDM.out.later HB5.out).sb hsb)
  have HP6 := hid (((HPP.out.later HB1.out).later HB5.out).sb hsb)
  have HRP6 := hid (((HRP.out.later HB1.out).later HB5.out).grown hg6 (by have := HG8.out; have := HGL.out; omega))
  have HR8 := hid hr6
  have hbw1 := HB.out.trans (HB1.out.mono HB.out.size)
  have hbw5 := hbw1.trans (HB5.out.mono hbw1.size)
  have HBW := hid (below_grown hbw5 hg6 (by have := HG8.out; have := HGL.out; omega) hbw5.size)
  clear hsb hbw1 hbw5 HDM HB5 HB1 HPP HRP hr6 hg6 hz HNU
  refine (crof_any w6 _ P HP6.out).mono ?_
  rintro e w7 ⟨v7, rfl, hv7, hb7⟩
  obtain ⟨a, b, d, rfl, oa, ob, oc⟩ := (show ∃ a b d, v7 = .agg #[a, b, d] ∧ a.oneCell' = true ∧ b.oneCell' = true ∧ d.oneCell' = true by
   obtain ⟨a, b, d, rfl, q1, q2, q3⟩ := hv7
   exact ⟨a, b, d, rfl, q1.one, q2.one, q3.one⟩)
  obtain ⟨W9, e9, r9, b9, s9⟩ := newS w7 79 [.slice none 0 0, .slice none 0 0, .slice none 0 0] _ rfl
  obtain ⟨g9, hg9⟩ : ∃ x, w7.heap.size = x := ⟨_, rfl⟩
  rw [hg9] at r9
  have HV7 := hid (hv7.later b9)
  have HRD := hid ((HR8.out.later hb7).later b9)
  have HDD := hid ((HDM6.out.later hb7).later b9)
  have hb79 := HBW.out.trans (hb7.mono HBW.out.size)
  have HB9 := hid (hb79.trans (b9.mono hb79.size))
  have HNZ := hid (NoU.of_row r9 (noU3 nofun nofun nofun))
  have HG9 := hid (show w.heap.size ≤ g9 ∧ g8 ≠ g9 ∧ w.heap.size ≤ g8 by have := (HR8.out.later hb7).lt; have := hb79.size; have := HG8.out; have := HGL.out; omega)
  clear hv7 hb7 b9 s9 hb79 c0 c1 c2 q6
  go_wp2_with ((with_reducible show wpList _ _ _ (⟨none, _, _, _, _, _⟩ :: _) _ _); refine wlS_store rfl 79 3 Tryz.sizeRt _ _ rfl g9 [a, b, d] rfl rfl 79 _ r9 rfl rfl (ones3 oa ob oc) ?_; intro w10 hr10 hg10 hz)
  go_ret
  have hsb : Sb W9 w10 := ⟨g9, HNZ.out, hg10⟩
  exact ⟨g9, g8, a, b, d, _, rfl, hr10, HV7.out.sb hsb, HRD.out.grown hg10 HG9.out.2.1, HDD.out.sb hsb, HG9.out.1, HG9.out.2.2, below_grown HB9.out hg10 HG9.out.1 HB9.out.size⟩
theorem le_value (m N : Nat) : V 256 ((List.range m).map fun i => N / 256 ^ i % 256) = N % 256 ^ m := by
 induction m with
 | zero => simp [V, Nat.mod_one]
 | succ m ih =>
  rw [List.range_succ, List.map_append, V_append, ih, List.length_map, List.length_range, Nat.mod_pow_succ]
  simp [V]
theorem be_rev (m N : Nat) : (be m N).reverse = (List.range m).map fun i => N / 256 ^ i % 256 := by
 apply List.ext_getElem?
 intro t
 rcases Nat.lt_or_ge t m with h | h
 ·rw [List.getElem?_reverse (by rw [be_length]; exact h), be_length, be_get (by omega), show m - 1 - (m - 1 - t) = t by omega]
  simp [h]
 ·rw [List.getElem?_eq_none (by rw [List.length_reverse, be_length]; exact h), List.getElem?_eq_none (by simp [h])]
theorem be_value {m N : Nat} (h : N < 256 ^ m) : V 256 (be m N).reverse = N := by rw [be_rev, le_value, Nat.mod_eq_of_lt h]
theorem PtR.is {p : Nat} {T : Nat × Nat × Nat} {R : Option (Nat × Nat)} {i x y : Nat} (h : PtR p T R) (hp : 1 < p) (hi : i < p) (h1 : T.2.2 * i % p = 1) (hx : T.1 * i % p = x) (hy : T.2.1 * i % p = y) : R = some (x, y) := by
 rcases h with ⟨h0, rfl⟩ | ⟨h0, j, hj, h2, rfl⟩
 ·rw [h0, Nat.zero_mul, Nat.zero_mod] at h1
  omega
 ·obtain rfl := inverse_unique hj hi h2 h1
  rw [hx, hy]
def twoX : Nat := 0x7cf27b188d034f7e8a52380304b51ac3c08969e277f21b35a60b48fc47669978
def twoY : Nat := 0x7775510db8ed040293d9ac69f7430dbba7dade63ce982299e04b79d227873d1
theorem two_mul {R : Option (Nat × Nat)} {k0 : Nat} (hk : IsBits 2 k0) (h : PtR crv256.p (mlN crv256.p crv256.b (rtN (some (crv256.gx, crv256.gy))) 2 k0 k0) R) : R = some (twoX, twoY) := by
 obtain rfl : k0 = 2 := hk.unique ⟨by decide, by decide⟩
 exact h.is (by decide +kernel) (i := 0x3afc94969398d2d67af2fa276263bceaa28ad72c91b83f2befc0cc658c255db2) (by decide +kernel) (by decide +kernel) (by decide +kernel) (by decide +kernel)
theorem two_add {R : Option (Nat × Nat)} (h : PtR crv256.p (rcbN crv256.p crv256.b (rtN (some (crv256.gx, crv256.gy))) (rtN (some (crv256.gx, crv256.gy)))) R) : R = some (twoX, twoY) :=
 h.is (by decide +kernel) (i := 0x78a21857be9ed19cf9098f93af2019cdee30549945617199441a666635fbd920) (by decide +kernel) (by decide +kernel) (by decide +kernel) (by decide +kernel)
theorem has_g : hasN crv256.p crv256.b (some (crv256.gx, crv256.gy)) := by decide +kernel
theorem has_two : hasN crv256.p crv256.b (some (twoX, twoY)) := by decide +kernel
theorem numB_be : ∀ (n N : Nat), N < 256 ^ n → numB (beW n N) = N := by
 intro n N h
 have e : natsB (beW n N) = be n N := by
  unfold natsB beW
  rw [List.map_map]
  conv => rhs; rw [← List.map_id (be n N)]
  refine List.map_congr_left fun x hx => ?_
  have := be_lt n N x hx
  simp [BitVec.toNat_ofNat, Nat.mod_eq_of_lt this]
 unfold numB
 rw [e]
 exact be_value h
theorem nu_len {w : World} {v : Value} {k m : Nat} (h : Nu w v k) (h1 : b64 ^ m ≤ k) (h2 : k < b64 ^ (m + 1)) : ∃ A c, v = .slice A (m + 1) c := by
 obtain ⟨xs, A, n, c, rfl, hs, hn, _⟩ := h
 have l1 : xs.length ≤ m + 1 := hn.length_le (by decide) h2
 have l2 : ¬ xs.length ≤ m := fun hl => by
  have h3 := V_lt xs hn.1
  rw [hn.2.2] at h3
  have := Nat.pow_le_pow_right (show 0 < b64 by decide) hl
  omega
 have : n = m + 1 := by rw [hs.len]; omega
 subst this
 exact ⟨A, c, rfl⟩
theorem neq_nilIt (g g' : Nat) (w : World) : (binOp .neq 59 (.func (.func 67) #[] #[.pointer (some ⟨g, 0, none⟩), .pointer (some ⟨g', 0, none⟩)]) .nilFunc).run Tryz.prog w = .ok (.bool true) w := by kernel_rfl
theorem Pt.some_ {w : World} {v : Value} {x y : Nat} (h : Pt w v (some (x, y))) : ∃ a b, v = .agg #[.bool false, a, b] ∧ Nu w a x ∧ Nu w b y := h
theorem begun9_any (w : World) : Calls Tryz.prog 8 #[] w fun e w' => RetV w (.bool true) e w' := by
 have HB := hid (cBase_yes w 1 crv256 rfl)
 go_enter Tryz.func8, Tryz.ntmps8
 go_wp2_with fail
 refine HB.out.mono ?_
 rintro e w1 ⟨v, rfl, hv, hb1⟩
 obtain ⟨xg, yg, rfl, hxg, hyg⟩ := hv.some_
 obtain ⟨Ax, nx, cx, rfl⟩ := hxg.sl
 obtain ⟨Ay, ny, cy, rfl⟩ := hyg.sl
 obtain ⟨W1, e1, r1, b1, s1⟩ := newS w1 26 [.bool false, .slice none 0 0, .slice none 0 0] _ rfl
 obtain ⟨g1, hg1⟩ : ∃ x, w1.heap.size = x := ⟨_, rfl⟩
 rw [hg1] at r1
 have HN1 := hid (NoU.of_row r1 (noU3 nofun nofun nofun))
 have HV := hid (hv.later b1)
 have HB1 := hid (hb1.trans (b1.mono hb1.size))
 have HL1 := hid (show w.heap.size ≤ g1 by have := hb1.size; omega)
 clear hxg hyg hv hb1 b1 s1
 go_wp2_with ((with_reducible show wpList _ _ _ (⟨none, _, _, _, _, _⟩ :: _) _ _); refine wlS_store rfl 26 3 Tryz.sizePt _ _ rfl g1 [.bool false, .slice Ax nx cx, .slice Ay ny cy] rfl rfl 26 _ r1 rfl rfl (ones3 rfl rfl rfl) ?_; intro w2 hr2 hg2 hz; obtain ⟨Wk, ek, rk, bk, sk⟩ := newS w2 63 [.int .u64 2] _ rfl; obtain ⟨gk, hgk⟩ : ∃ x, W1.heap.size = x := ⟨_, rfl⟩; rw [hz, hgk] at rk; have hrk := hr2.later bk; have d0 := hrk.at_ (i := 0) rfl; have d1 := hrk.at_ (i := 1) rfl; have d2 := hrk.at_ (i := 2) rfl)
 have HZ2 := hid hz
 have HV2 := hid (HV.out.sb ⟨g1, HN1.out, hg2⟩)
 have HB2 := hid (below_grown HB1.out hg2 HL1.out HB1.out.size)
 have HR2 := hid hr2
 clear HV HB1 HN1 hr2 hg2 hz r1 e1 hg1
 have hvk : NumR Wk 64 2 (.slice (some ⟨gk, 0, none⟩) 1 1) := by
  refine ⟨[2], _, _, _, rfl, ⟨rfl, by decide, by decide, fun _ => ⟨gk, 0, rfl, rk.lt, fun k x hx => ?_⟩⟩, fun y hy => by simp at hy; subst hy; decide, rfl, by decide⟩
  rcases k with _ | k
  ·simp at hx
   subst hx
   exact rk.at_ rfl
  ·simp at hx
 have HVK := hid (HV2.out.later bk)
 have HRK := hid hrk
 have HBK := hid (HB2.out.trans (bk.mono HB2.out.size))
 have HML := hid (cMul_yes Wk 1 crv256 rfl (.slice (some ⟨gk, 0, none⟩) 1 1) (.agg #[.bool false, .slice Ax nx cx, .slice Ay ny cy]) 2 hvk (some (crv256.gx, crv256.gy)) HVK.out.pg has_g (by decide +kernel) (by decide +kernel) 2 (by decide +kernel))
 clear hvk rk bk sk hrk HV2 HR2 HB2
 refine HML.out.mono ?_
 rintro e w3 ⟨v, k0, rfl, hk0, ⟨R, hR, hPt⟩, hb3⟩
 obtain rfl := two_mul hk0 hR
 obtain ⟨x2, y2, rfl, hx2, hy2⟩ := hPt.some_
 obtain ⟨A2, n2, c2, rfl⟩ := hx2.sl
 obtain ⟨B2, m2, q2, rfl⟩ := hy2.sl
 obtain ⟨W4, e4, r4, b4, s4⟩ := newS w3 26 [.bool false, .slice none 0 0, .slice none 0 0] _ rfl
 obtain ⟨g4, hg4⟩ : ∃ x, w3.heap.size = x := ⟨_, rfl⟩
 rw [hg4] at r4
 have HN4 := hid (NoU.of_row r4 (noU3 nofun nofun nofun))
 have HP4 := hid (hPt.later b4)
 have HG4 := hid ((HVK.out.later hb3).later b4)
 have HR4 := hid ((HRK.out.later hb3).later b4)
 have hb34 := HBK.out.trans (hb3.mono HBK.out.size)
 have HB4 := hid (hb34.trans (b4.mono hb34.size))
 have HL4 := hid (show w.heap.size ≤ g4 ∧ g1 ≠ g4 by have := hb34.size; have := (HRK.out.later hb3).lt; omega)
 clear hk0 hR hPt hx2 hy2 hb3 hb34 b4 s4 d0 d1 d2 HML HVK HRK HBK ek hgk
 go_wp2_with ((with_reducible show wpList _ _ _ (⟨none, _, _, _, _, _⟩ :: _) _ _); refine wlS_store rfl 26 3 Tryz.sizePt _ _ rfl g4 [.bool false, .slice A2 n2 c2, .slice B2 m2 q2] rfl rfl 26 _ r4 rfl rfl (ones3 rfl rfl rfl) ?_; intro w5 hr5 hg5 hz; have t1 := HR4.out.grown hg5 HL4.out.2; have d0 := t1.at_ (i := 0) rfl; have d1 := t1.at_ (i := 1) rfl; have d2 := t1.at_ (i := 2) rfl)
 have hsb5 : Sb W4 w5 := ⟨g4, HN4.out, hg5⟩
 have HP5 := hid (HP4.out.sb hsb5)
 have HG5 := hid (HG4.out.sb hsb5)
 have HB5 := hid (below_grown HB4.out hg5 HL4.out.1 HB4.out.size)
 have HR15 := hid t1
 have HR45 := hid hr5
 have HAD := hid (cAdd_yes w5 1 crv256 rfl _ _ _ _ HG5.out.pg HG5.out.pg has_g has_g)
 clear hsb5 hr5 hg5 hz t1 HP4 HG4 HR4 HB4 HN4 r4 e4 hg4
 refine HAD.out.mono ?_
 rintro e w6 ⟨v, rfl, ⟨R, hR, hPt⟩, hb6⟩
 obtain rfl := two_add hR
 obtain ⟨x3, y3, rfl, hx3, hy3⟩ := hPt.some_
 obtain ⟨A3, n3, c3, rfl⟩ := hx3.sl
 obtain ⟨B3, m3, q3, rfl⟩ := hy3.sl
 obtain ⟨W7, e7, r7, b7, s7⟩ := newS w6 26 [.bool false, .slice none 0 0, .slice none 0 0] _ rfl
 obtain ⟨g7, hg7⟩ : ∃ x, w6.heap.size = x := ⟨_, rfl⟩
 rw [hg7] at r7
 have HN7 := hid (NoU.of_row r7 (noU3 nofun nofun nofun))
 have HQ7 := hid (hPt.later b7)
 have HP7 := hid ((HP5.out.later hb6).later b7)
 have HG7 := hid ((HG5.out.later hb6).later b7)
 have HR17 := hid ((HR15.out.later hb6).later b7)
 have HR47 := hid ((HR45.out.later hb6).later b7)
 have hb56 := HB5.out.trans (hb6.mono HB5.out.size)
 have HB7 := hid (hb56.trans (b7.mono hb56.size))
 have HL7 := hid (show w.heap.size ≤ g7 ∧ g1 ≠ g7 ∧ g4 ≠ g7 by have := hb56.size; have := (HR15.out.later hb6).lt; have := (HR45.out.later hb6).lt; omega)
 clear hR hPt hx3 hy3 hb6 hb56 b7 s7 d0 d1 d2 HAD HP5 HG5 HB5 HR15 HR45
 go_wp2_with ((with_reducible show wpList _ _ _ (⟨none, _, _, _, _, _⟩ :: _) _ _); refine wlS_store rfl 26 3 Tryz.sizePt _ _ rfl g7 [.bool false, .slice A3 n3 c3, .slice B3 m3 q3] rfl rfl 26 _ r7 rfl rfl (ones3 rfl rfl rfl) ?_; intro w8 hr8 hg8 hz; have t4 := HR47.out.grown hg8 HL7.out.2.2; have d0 := t4.at_ (i := 0) rfl; have d1 := t4.at_ (i := 1) rfl; have d2 := t4.at_ (i := 2) rfl)
 have hsb8 : Sb W7 w8 := ⟨g7, HN7.out, hg8⟩
 have HQ8 := hid (HQ7.out.sb hsb8)
 have HP8 := hid (HP7.out.sb hsb8)
 have HG8 := hid (HG7.out.sb hsb8)
 have HB8 := hid (below_grown HB7.out hg8 HL7.out.1 HB7.out.size)
 have HR18 := hid (HR17.out.grown hg8 HL7.out.2.1)
 have HR48 := hid t4
 have HR78 := hid hr8
 have HEN := hid (cEnc_yes w8 1 crv256 rfl _ _ HP8.out.pg twoX twoY rfl has_two (by decide) (by decide) (by decide +kernel))
 clear hsb8 hr8 hg8 hz t4 HQ7 HP7 HG7 HB7 HR17 HR47 HN7 r7 e7 hg7
 refine HEN.out.mono ?_
 rintro e w9 ⟨v, rfl, hown, hb9⟩
 obtain ⟨Ae, ce, rfl, hse, -, hne⟩ := SlV.of_own hown
 have hl65 : (encN crv256.size (some (twoX, twoY))).length = 65 := by simp [encN, beW, be_length, crv256]
 rw [hl65] at hse
 obtain ⟨be, oe, _, rfl, _, _, _⟩ := hse.at_ (k := 0) (by decide)
 have henc : encN crv256.size (some (twoX, twoY)) = 4 :: (beW 32 twoX ++ beW 32 twoY) := rfl
 rw [henc] at hse
 have HSE := hid hse
 have hlx : (beW 32 twoX).length = 32 := by simp [beW, be_length]
 have HDE := hid (cDec_good w9 1 crv256 rfl be oe 65 ce 4 (beW 32 twoX ++ beW 32 twoY) hse (by decide) rfl rfl (by decide) twoX twoY
  (by rw [show crv256.size = 32 from rfl, List.take_left' hlx]; exact numB_be 32 twoX (by decide +kernel))
  (by rw [show crv256.size = 32 from rfl, List.drop_left' hlx]; exact numB_be 32 twoY (by decide +kernel)) has_two)
 rw [hl65]
 have HB9 := hid (HB8.out.trans (hb9.mono HB8.out.size))
 have HQ9 := hid (HQ8.out.later hb9)
 have HG9 := hid (HG8.out.later hb9)
 have HR19 := hid (HR18.out.later hb9)
 have HR79 := hid (HR78.out.later hb9)
 clear hown hb9 hne hse henc hl65 hlx d0 d1 d2 HEN HQ8 HP8 HG8 HB8 HR18 HR48 HR78
 go_wp2_with fail
 refine HDE.out.mono ?_
 rintro e w10 ⟨v, rfl, hPt, hb10⟩
 obtain ⟨x5, y5, rfl, hx5, hy5⟩ := hPt.some_
 obtain ⟨A5, c5, rfl⟩ := nu_len hx5 (m := 3) (by decide +kernel) (by decide +kernel)
 obtain ⟨B5, m5, q5, rfl⟩ := hy5.sl
 obtain ⟨W11, e11, r11, b11, s11⟩ := newS w10 26 [.bool false, .slice none 0 0, .slice none 0 0] _ rfl
 obtain ⟨g11, hg11⟩ : ∃ x, w10.heap.size = x := ⟨_, rfl⟩
 rw [hg11] at r11
 have HQ11 := hid ((HQ9.out.later hb10).later b11)
 have HG11 := hid ((HG9.out.later hb10).later b11)
 have HR111 := hid ((HR19.out.later hb10).later b11)
 have HR711 := hid ((HR79.out.later hb10).later b11)
 have hb910 := HB9.out.trans (hb10.mono HB9.out.size)
 have HB11 := hid (hb910.trans (b11.mono hb910.size))
 have HN11 := hid (NoU.of_row r11 (noU3 nofun nofun nofun))
 have HL11 := hid (show w.heap.size ≤ g11 ∧ g1 ≠ g11 ∧ g7 ≠ g11 by have := hb910.size; have := (HR19.out.later hb10).lt; have := (HR79.out.later hb10).lt; omega)
 clear hPt hx5 hy5 hb10 hb910 b11 s11 HDE HQ9 HG9 HB9 HR19 HR79 HSE
 go_wp2_with ((with_reducible show wpList _ _ _ (⟨none, _, _, _, _, _⟩ :: _) _ _); refine wlS_store rfl 26 3 Tryz.sizePt _ _ rfl g11 [.bool false, .slice A5 4 c5, .slice B5 m5 q5] rfl rfl 26 _ r11 rfl rfl (ones3 rfl rfl rfl) ?_; intro w12 hr12 hg12 hz; have t1 := HR111.out.grown hg12 HL11.out.2.1; have d0 := t1.at_ (i := 0) rfl; have d1 := t1.at_ (i := 1) rfl; have d2 := t1.at_ (i := 2) rfl)
 have hsb12 : Sb W11 w12 := ⟨g11, HN11.out, hg12⟩
 have HQ12 := hid (HQ11.out.sb hsb12)
 have HG12 := hid (HG11.out.sb hsb12)
 have HB12 := hid (below_grown HB11.out hg12 HL11.out.1 HB11.out.size)
 have HR712 := hid (HR711.out.grown hg12 HL11.out.2.2)
 have HR1112 := hid hr12
 have HMU := hid (cMult_yes w12 1 crv256 rfl _ _ HG12.out.pg has_g)
 clear hsb12 hr12 hg12 hz t1 HQ11 HG11 HB11 HR111 HR711 HN11 r11 e11 hg11
 refine HMU.out.mono ?_
 rintro e w13 ⟨g7', g5', a', b', d', dd, rfl, -, -, -, -, -, -, hb13⟩
 have HQ13 := hid (HQ12.out.later hb13)
 have hr713 := HR712.out.later hb13
 have h70 := hr713.at_ (i := 0) rfl
 have h71 := hr713.at_ (i := 1) rfl
 have h72 := hr713.at_ (i := 2) rfl
 have HR1113 := hid (HR1112.out.later hb13)
 have HB13 := hid (HB12.out.trans (hb13.mono HB12.out.size))
 have hnil := neq_nilIt g7' g5' w13
 have HON := hid (cOn_yes w13 1 crv256 rfl _ _ HQ13.out.pg)
 clear hb13 hr713 d0 d1 d2 HMU HQ12 HG12 HB12 HR712 HR1112
 go_wp2_with fail
 refine HON.out.mono ?_
 rintro e w14 ⟨rfl, hb14⟩
 have hdec : decide (hasN crv256.p crv256.b (some (twoX, twoY))) = true := decide_eq_true has_two
 rw [hdec]
 have h8 := HR1113.out.later hb14
 have h81 := h8.at_ (i := 1) rfl
 have HB14 := hid (HB13.out.trans (hb14.mono HB13.out.size))
 have HSI := hid (cSize_yes w14 2 crv384 rfl)
 clear hnil hdec h8 hb14 h70 h71 h72 HON HQ13 HR1113
 go_wp2_with fail
 refine HSI.out.mono ?_
 rintro e w15 ⟨rfl, hb15⟩
 have HB15 := hid (HB14.out.trans (hb15.mono HB14.out.size))
 have HOR := hid (cOrder_yes w15 1 crv256 rfl)
 have e48 : ((crv384.size : Nat) : Int) = 48 := rfl
 rw [e48]
 clear hb15 h81 HSI e48
 go_wp2_with fail
 refine HOR.out.mono ?_
 rintro e w16 ⟨v, rfl, hv, hb16⟩
 obtain ⟨A6, c6, rfl⟩ := nu_len hv (m := 3) (by decide +kernel) (by decide +kernel)
 have HB16 := hid (HB15.out.trans (hb16.mono HB15.out.size))
 clear hv hb16 HOR
 go_wp2
 go_ret
 exact ⟨rfl, HB16.out⟩
end Go.Proofs.YtbejcollbkeedaaGreat
namespace Go.Proofs.YtbejcollbkeedaaGreat
open Lean.Grind Cw
theorem rl256 : rootless crv256.p crv256.b 256 (0xa969487079f1744798bf0de6fded091b66e9d328eb0645fe5d979d1339b7f47f, 0xa4a08891884100c13323460107a8d28eede4387fa3e6e9bfebec9f6d72d0b5cc, 0x4cde11cf86cb876cd59cf0115813c55af0ecd3cda667d98bb9a347a56aa74a6d) = true := by decide +kernel
theorem rl384 : rootless crv384.p crv384.b 384 (0x95adec811ebe8d4b9e2b41150d78f91a619189a415583b8f5e01888da3353b61765cde8cd6c12846310c3f0c10aae682, 0x3581b884702fb0931c541a5cacefbe3bea864db86e01e048170560418dca3aa8689f246d9d11ccd2e145532dd48491af, 0x4efcebfdccd7cb25d1b864228f0c32d3a83ec026134ae4753bdff5d3f1fa20b278b31dc3487beb792024fe436f36b43a) = true := by decide +kernel
theorem crv_two {c : Int} {D : Crv} (h : crvOf c = some D) : D = crv256 ∨ D = crv384 := by
 unfold crvOf at h
 split at h
 ·exact .inl (Option.some.inj h).symm
 ·split at h
  ·exact .inr (Option.some.inj h).symm
  ·cases h
theorem crv_cv {c : Int} {D : Crv} (h : crvOf c = some D) : ∃ (_ : NeZero D.p), Nonempty (Cv (Fin D.p) (zp D.p D.b)) := by
 rcases crv_two h with rfl | rfl
 ·haveI : NeZero crv256.p := ⟨by decide +kernel⟩
  exact ⟨this, ⟨cvOf (p := crv256.p) (b := crv256.b) (L := 256) prime_p256 (by decide +kernel) rl256⟩⟩
 ·haveI : NeZero crv384.p := ⟨by decide +kernel⟩
  exact ⟨this, ⟨cvOf (p := crv384.p) (b := crv384.b) (L := 384) prime_p384 (by decide +kernel) rl384⟩⟩
theorem bp_of (p : Nat) (h8 : 8 < p) (h : p < b64 ^ 6) : Bp p := by
 refine ⟨by omega, h8, ?_⟩
 have h1 : b64 ^ 6 + b64 ^ 6 < b32 ^ 4096 := by decide +kernel
 omega
theorem crv_lims {c : Int} {D : Crv} (h : crvOf c = some D) : Bp D.p ∧ 8 < D.p ∧ D.p < b64 ^ 6 ∧ D.b < D.p ∧ D.gx < D.p ∧ D.gy < D.p ∧ IsP D.p ∧ 1 < D.n ∧ D.n < b64 ^ 6 ∧ ¬ ((D.size : Int) = 0) := by
 rcases crv_two h with rfl | rfl
 ·exact ⟨bp_of _ (by decide +kernel) (by decide +kernel), by decide +kernel, by decide +kernel, by decide +kernel, by decide +kernel, by decide +kernel, prime_p256, by decide +kernel, by decide +kernel, by decide⟩
 ·exact ⟨bp_of _ (by decide +kernel) (by decide +kernel), by decide +kernel, by decide +kernel, by decide +kernel, by decide +kernel, by decide +kernel, prime_p384, by decide +kernel, by decide +kernel, by decide⟩
end Go.Proofs.YtbejcollbkeedaaGreat
namespace Go.Proofs.YtbejcollbkeedaaGreat
open Go.RowKit
theorem own_row2 {w : World} {base : Nat} {e : TypeId} {v : Value} {n : Nat} {xs : List Value} (h : w.ownsRow base e 1 v n xs) (hn : 0 < n) :
  ∃ g c ys, v = .slice (some ⟨g, 0, none⟩) n c ∧ base ≤ g ∧ RowV e w g ys ∧ ys.length = c ∧ n ≤ c ∧ c ≤ maxLen ∧ ys.take n = xs := by
 rcases h.2 with ⟨e0, h4⟩ | ⟨g, cap, cur, e0, h4, hg, hnc, hm, hcs, ht⟩
 ·omega
 ·exact ⟨g, cap, cur.toList, e0, h4, by unfold RowV; rw [hg], by simpa using hcs, hnc, hm, by simpa using ht⟩
theorem own_of_row {w : World} {base g : Nat} {e : TypeId} {n c : Nat} {ys xs : List Value} (h : RowV e w g ys) (hb : base ≤ g) (hl : ys.length = c) (hn : n ≤ c) (hm : c ≤ maxLen) (ht : ys.take n = xs) : w.ownsRow base e 1 (.slice (some ⟨g, 0, none⟩) n c) n xs :=
 ⟨by rw [← ht, List.length_take]; omega, .inr ⟨g, c, ys.toArray, rfl, hb, h, hn, hm, by simpa using hl, by simpa using ht⟩⟩
def CutS (V : World) (v : Value) (xs : List Nat) : Prop := ∃ A n c, v = .slice A n c ∧ Sl V V.heap.size A n c xs
theorem CutS.later {V V' : World} {v : Value} {xs : List Nat} (h : CutS V v xs) (hb : Below V.heap.size V V') : CutS V' v xs := by
 obtain ⟨A, n, c, e, hs⟩ := h
 exact ⟨A, n, c, e, hs.sb (Sb.of_below hb)⟩
def SpB.cutS (xs : List Nat) : SpB := ⟨fun v V => CutS V v xs, fun _ _ _ hb h => h.later hb⟩
theorem cut_c (w : World) (A : Option Addr) (n c : Nat) (xs : List Nat) (hs : Sl w w.heap.size A n c xs) (k : Nat) (hk : k ≤ 1000) :
  Calls Tryz.prog 19 #[.slice A n c, .int .i64 k] w fun e w' => ∃ v, e = .returned v ∧ CutS w' v (xs.take k) ∧ Below w.heap.size w w' := by
 refine (cut_any w _ A n c xs hs k (by omega)).mono ?_
 rintro e w' ⟨A', n', c', rfl, h1, h2⟩
 exact ⟨_, rfl, ⟨_, _, _, rfl, h1⟩, h2⟩
theorem CutS.num {w : World} {v : Value} {xs : List Nat} (h : CutS w v xs) (hd : Dg b64 xs) (hl : xs.length ≤ 64) : NumR w 64 (V b64 xs) v := by
 obtain ⟨A, n, c, rfl, hs⟩ := h
 exact ⟨xs, A, n, c, rfl, hs, hd, rfl, by rw [hs.len]; exact hl⟩
def BasePt (D : Crv) (m : Nat) (P : Option (Nat × Nat)) : Prop := ∃ k0, IsBits m k0 ∧ MulP D.p (jmN D.p D.gx D.gy m k0 k0) P
theorem MulP.inp {p : Nat} {T : Nat × Nat × Nat} {P : Option (Nat × Nat)} (h : MulP p T P) (hp : 0 < p) : Inp p P := by
 have m : ∀ x, x % p < p := fun x => Nat.mod_lt x hp
 rcases h with ⟨-, rfl⟩ | ⟨-, R, -, -, rfl⟩
 ·trivial
 ·exact ⟨m _, m _⟩
def MpS (D : Crv) (m : Nat) (v : Value) (V : World) : Prop := ∃ P, BasePt D m P ∧ Rp V v P
def SpB.mp (D : Crv) (m : Nat) : SpB := ⟨fun v V => MpS D m v V, fun _ _ _ hb ⟨P, h1, h2⟩ => ⟨P, h1, h2.later hb⟩⟩
theorem pmul_c (w : World) (vc vk vq : Value) (D : Crv) (hc : Cr w vc D) (hp : Bp D.p) (hpr : IsP D.p) (m : Nat) (hk : Nb w vk m) (hq : Rp w vq (some (D.gx, D.gy))) (hx : D.gx < D.p) (hy : D.gy < D.p) :
  Calls Tryz.prog 21 #[vc, vk, vq] w fun e w' => ∃ v, e = .returned v ∧ MpS D m v w' ∧ Below w.heap.size w w' := by
 refine (rMul9_any w vc vk vq D hc hp hpr m hk _ hq (fun x y e => by cases e; exact ⟨hx, hy⟩)).mono ?_
 rintro e w' ⟨v, rfl, ⟨k0, h1, P, h2, h3⟩, h4⟩
 exact ⟨v, rfl, ⟨P, ⟨k0, h1, h2⟩, h3⟩, h4⟩
def PtO (N : Nat) (V : World) (v : Value) : Option (Nat × Nat) → Prop
 | none => (Spc.t3 true 0 0).P v V
 | some (x, y) => (Spc.t3o N x y).P v V
theorem PtO.sb {N : Nat} {V V' : World} {v : Value} {P : Option (Nat × Nat)} (h : PtO N V v P) (hb : Sb V V') : PtO N V' v P := by
 rcases P with _ | ⟨x, y⟩
 ·exact (Spc.t3 true 0 0).sb _ _ _ hb h
 ·exact (Spc.t3o N x y).sb _ _ _ hb h
def PtoS (D : Crv) (m N : Nat) (v : Value) (V : World) : Prop := ∃ P, BasePt D m P ∧ PtO N V v P
def SpB.pto (D : Crv) (m N : Nat) : SpB := ⟨fun v V => PtoS D m N v V, fun _ _ _ hb ⟨P, h1, h2⟩ => ⟨P, h1, h2.sb (Sb.of_below hb)⟩⟩
theorem pto_c (w : World) (v : Value) (D : Crv) (m N : Nat) (hN : N ≤ w.heap.size) (hp0 : 0 < D.p) (hp : D.p < b64 ^ 6) (h : MpS D m v w) :
  Calls Tryz.prog 36 #[v] w fun e w' => ∃ v', e = .returned v' ∧ PtoS D m N v' w' ∧ Below w.heap.size w w' := by
 obtain ⟨P, hb, hr⟩ := h
 have hi : Inp D.p P := by obtain ⟨k0, -, hm⟩ := hb; exact hm.inp hp0
 have h64 : b64 ^ 6 < b64 ^ 64 := by decide +kernel
 rcases P with _ | ⟨x, y⟩
 ·obtain ⟨a, b, rfl, h1, h2⟩ := hr
  refine (rTo9_true w a b 0 0 h1 h2 (by decide +kernel) (by decide +kernel)).mono ?_
  rintro e w' ⟨v', rfl, h3, h4⟩
  exact ⟨v', rfl, ⟨none, hb, h3⟩, h4⟩
 ·obtain ⟨a, b, rfl, h1, h2⟩ := hr
  refine (rTo9_own w a b x y h1 h2 (by have := hi.1; omega) (by have := hi.2; omega)).mono ?_
  rintro e w' ⟨v', rfl, h3, h4⟩
  obtain ⟨a', b', e1, k1, k2, k3, k4⟩ := h3
  exact ⟨v', rfl, ⟨some (x, y), hb, a', b', e1, k1, k2, k3.base hN, k4⟩, h4⟩
def SpOf (sp : Bool) (MP P : Option (Nat × Nat)) : Prop := P = MP ∨ (sp = true ∧ ∃ x y y', MP = some (x, y) ∧ P = some (x, y') ∧ y' ≠ y)
def numL (xs : List Nat) : Nat := V b64 xs
theorem numL_ne {x u N : Nat} {t : List Nat} (h : V b64 (x :: t) = N) (hne : u ≠ x) : numL (u :: t) ≠ N := by
 rw [V_cons] at h
 rw [numL, V_cons]
 omega
theorem xor_one_ne (x : Nat) : x ^^^ 1 ≠ x := by
 intro h
 have h2 : (x ^^^ 1) ^^^ x = 1 := by rw [Nat.xor_comm x 1, Nat.xor_assoc, Nat.xor_self, Nat.xor_zero]
 rw [h, Nat.xor_self] at h2
 cases h2
theorem xor_one_lt {x : Nat} (h : x < b64) : x ^^^ 1 < b64 := Nat.xor_lt_two_pow (n := 64) h (by decide)
theorem Sl.grownA {w w' : World} {A : Option Addr} {n c g : Nat} {xs : List Nat} (h : Sl w w.heap.size A n c xs) (hg : w.grownBy w' (some g)) (hne : sblk (.slice A n c) ≠ some g) : Sl w' w'.heap.size A n c xs :=
 ⟨h.1, h.2.1, h.2.2.1, fun hx => by
  obtain ⟨b, off, rfl, hb, hc⟩ := h.2.2.2 hx
  exact ⟨b, off, rfl, Nat.lt_of_lt_of_le hb hg.size, fun k x hk => by
   rw [cell_grown hg (p := ⟨b, off + k, none⟩) hb (by rintro e; exact hne (by rw [← show b = g from e]; rfl))]
   exact hc k x hk⟩⟩
theorem set_first {ys : List Value} {n x0 : Nat} {t : List Nat} (h : ys.take n = (x0 :: t).map U) (u : Value) : (ys.set 0 u).take n = u :: t.map U ∧ ys[0]? = some (U x0) := by
 cases ys with
 | nil => simp at h
 | cons y ys =>
  cases n with
  | zero => simp at h
  | succ n =>
   simp at h ⊢
   exact ⟨h.2, h.1⟩
theorem Nu.zlen {w : World} {A : Option Addr} {n c k : Nat} (h : Nu w (.slice A n c) k) : n = 0 ↔ k = 0 := by
 obtain ⟨xs, A', n', c', e, hs, hn, hl⟩ := h
 cases e
 constructor
 ·intro h0
  have h1 : xs = [] := List.length_eq_zero_iff.1 (by rw [← hs.len]; exact h0)
  rw [← hn.2.2, h1]
  rfl
 ·rintro rfl
  have h1 : xs.length ≤ 0 := hn.length_le (by decide) (by decide)
  have := hs.len
  omega
theorem bits_xor_one {x : Nat} (h : x < b64) : bits .xor .u64 ((x : Nat) : Int) 1 = ((x ^^^ 1 : Nat) : Int) := u64_xor_nat x 1 h (by decide)
theorem pt9_none (w : World) (c : Int) (hc : crvOf c = none) (Ak : Option Addr) (nk ck : Nat) (sp : Bool) :
  Calls Tryz.prog 9 #[.int .i64 c, .slice Ak nk ck, .bool sp] w fun e w' => e = .returned (.agg #[.bool false, .slice Ak nk ck, .slice Ak nk ck]) ∧ Below w.heap.size w w' := by
 have hmx : Tryz.prog.follows .mixedOrders = true := by kernel_rfl
 have HC := hid hc
 clear hc
 obtain ⟨W0, e0, r0, b0, s0⟩ := newS w 26 [.bool false, .slice none 0 0, .slice none 0 0] _ rfl
 obtain ⟨gr, hgr⟩ : ∃ g, w.heap.size = g := ⟨_, rfl⟩
 have HGR := hid (show w.heap.size ≤ gr by omega)
 rw [hgr] at r0
 have HB0 := hid b0
 have HR0 := hid r0
 have HOF := hid (rOf9_no W0 c HC.out)
 clear b0 s0 r0
 go_enter Tryz.func9, Tryz.ntmps9
 go_wp2_with fail
 refine HOF.out.mono ?_
 rintro e w2 ⟨rfl, hb2⟩
 obtain ⟨W3, e3, r3, b3, s3⟩ := newS w2 30 [.slice none 0 0, .slice none 0 0, .slice none 0 0, .slice none 0 0, .slice none 0 0, .int .i64 0] _ rfl
 obtain ⟨g7, hg7⟩ : ∃ x, w2.heap.size = x := ⟨_, rfl⟩
 rw [hg7] at r3
 have hr02 := HR0.out.later hb2
 have HL3 := hid (show w.heap.size ≤ g7 ∧ gr ≠ g7 by have := HB0.out.size; have := hb2.size; have := hr02.lt; omega)
 have hb12 := HB0.out.trans (hb2.mono HB0.out.size)
 have HB3 := hid (hb12.trans (b3.mono hb12.size))
 have HN3 := hid (NoU.of_row r3 (noU6 nofun nofun nofun nofun nofun))
 have HR03 := hid (hr02.later b3)
 clear hb2 hb12 b3 s3 HOF hr02 HR0
 go_wp2_with (first | ((with_reducible show wpList _ _ _ (⟨none, _, _, _, _, _⟩ :: _) _ _); refine wlS_store rfl 30 6 Tryz.sizeCr _ _ rfl g7 [.slice none 0 0, .slice none 0 0, .slice none 0 0, .slice none 0 0, .slice none 0 0, .int .i64 0] rfl rfl 30 _ r3 rfl rfl (ones6 rfl rfl rfl rfl rfl rfl) ?_; intro w4 hr4 hg4 hz4; have d5 := hr4.at_ (i := 5) rfl) | ((with_reducible show wpList _ _ _ (⟨none, _, _, _, _, _⟩ :: _) _ _); refine wlS_store rfl 26 3 Tryz.sizePt _ _ rfl gr [.bool false, .slice Ak nk ck, .slice Ak nk ck] rfl rfl 26 _ (HR03.out.grown hg4 HL3.out.2) rfl rfl (ones3 rfl rfl rfl) ?_; intro w6 hr6 hg6 hz6))
 have hb4 := below_grown HB3.out hg4 HL3.out.1 HB3.out.size
 refine ⟨rfl, _, results_pt rfl _ gr _ rfl hr6 rfl, rfl, below_grown hb4 hg6 HGR.out hb4.size⟩
theorem pt9_yes (w : World) (c : Int) (D : Crv) (hc : crvOf c = some D) (Ak : Option Addr) (nk ck : Nat) (xs : List Nat) (hk : Sl w w.heap.size Ak nk ck xs) (hkd : Dg b64 xs) (m : Nat) (hm : V b64 (xs.take 1) = m) (sp : Bool) :
  Calls Tryz.prog 9 #[.int .i64 c, .slice Ak nk ck, .bool sp] w fun e w' => ∃ v P MP, e = .returned v ∧ BasePt D m MP ∧ SpOf sp MP P ∧ Pg w' v P ∧ Below w.heap.size w w' := by
 have hmx : Tryz.prog.follows .mixedOrders = true := by kernel_rfl
 have HC := hid hc
 have HZ := hid (crv_lims hc)
 have HKS := hid hk
 have HKD := hid hkd
 have HM := hid hm
 clear hk hkd hm
 clear hc
 obtain ⟨W0, e0, r0, b0, s0⟩ := newS w 26 [.bool false, .slice none 0 0, .slice none 0 0] _ rfl
 obtain ⟨gr, hgr⟩ : ∃ g, w.heap.size = g := ⟨_, rfl⟩
 have HGR := hid (show w.heap.size ≤ gr by omega)
 rw [hgr] at r0
 have HB0 := hid b0
 have HR0 := hid r0
 have HOF := hid (rOf9_yes W0 c D HC.out)
 clear b0 s0 r0
 go_enter Tryz.func9, Tryz.ntmps9
 go_wp2_with fail
 refine HOF.out.mono ?_
 rintro e w2 ⟨v, rfl, hcr, hb2⟩
 obtain ⟨vp, vn, vb, vx, vy, rfl, k1, k2, k3, k4, k5⟩ := hcr
 obtain ⟨Ap, np, cp, rfl⟩ := k1.sl
 obtain ⟨An, nn, cn, rfl⟩ := k2.sl
 obtain ⟨Ab, nb, cb, rfl⟩ := k3.sl
 obtain ⟨Ax, nx, cx, rfl⟩ := k4.sl
 obtain ⟨Ay, ny, cy, rfl⟩ := k5.sl
 have HCR := hid (show Cr w2 _ D from ⟨_, _, _, _, _, rfl, k1, k2, k3, k4, k5⟩)
 clear k1 k2 k3 k4 k5
 obtain ⟨W3, e3, r3, b3, s3⟩ := newS w2 30 [.slice none 0 0, .slice none 0 0, .slice none 0 0, .slice none 0 0, .slice none 0 0, .int .i64 0] _ rfl
 obtain ⟨g7, hg7⟩ : ∃ x, w2.heap.size = x := ⟨_, rfl⟩
 rw [hg7] at r3
 have hr02 := HR0.out.later hb2
 have HL3 := hid (show w.heap.size ≤ g7 ∧ gr ≠ g7 by have := HB0.out.size; have := hb2.size; have := hr02.lt; omega)
 have hb12 := HB0.out.trans (hb2.mono HB0.out.size)
 have HB3 := hid (hb12.trans (b3.mono hb12.size))
 have HN3 := hid (NoU.of_row r3 (noU6 nofun nofun nofun nofun nofun))
 have HR03 := hid (hr02.later b3)
 have HCR3 := hid (HCR.out.later b3)
 clear HCR
 have hz := HZ.out.2.2.2.2.2.2.2.2.2
 clear hb2 hb12 b3 s3 HOF hr02 HR0
 go_wp2_with (first | ((with_reducible show wpList _ _ _ (⟨none, _, _, _, _, _⟩ :: _) _ _); refine wlS_store rfl 30 6 Tryz.sizeCr _ _ rfl g7 [.slice Ap np cp, .slice An nn cn, .slice Ab nb cb, .slice Ax nx cx, .slice Ay ny cy, .int .i64 (D.size : Int)] rfl rfl 30 _ r3 rfl rfl (ones6 rfl rfl rfl rfl rfl rfl) ?_; intro w4 hr4 hg4 hz4; have d5 := hr4.at_ (i := 5) rfl))
 have HB4 := hid (below_grown HB3.out hg4 HL3.out.1 HB3.out.size)
 have HR4 := hid hr4
 have HR04 := hid (HR03.out.grown hg4 HL3.out.2)
 have HCR4 := hid (HCR3.out.sb ⟨g7, HN3.out, hg4⟩)
 have HGX := hid (show gr < w4.heap.size ∧ g7 < w4.heap.size from ⟨(HR03.out.grown hg4 HL3.out.2).lt, hr4.lt⟩)
 obtain ⟨N, hN⟩ : ∃ N, w4.heap.size = N := ⟨_, rfl⟩
 have HN := hid hN
 clear hN hr4 hg4 hz4 HB3 HN3 HL3 r3 e3 hg7 HCR3 HR03 d5 hz
 refine (wpIn_wide (n := 9)).1 (wpIn_region_numB rfl hmx [(17, .val (.agg #[.slice Ap np cp, .slice An nn cn, .slice Ab nb cb, .slice Ax nx cx, .slice Ay ny cy, .int .i64 (D.size : Int)])), (18, .val (.slice Ak nk ck)), (19, .cutS (xs.take 1)), (20, .of (.nb m)), (21, .val (.agg #[.slice Ap np cp, .slice An nn cn, .slice Ab nb cb, .slice Ax nx cx, .slice Ay ny cy, .int .i64 (D.size : Int)])), (22, .of (.rp (some (D.gx, D.gy)))), (23, .mp D m), (24, .pto D m N), (8, .row 26 N [.bool false, .slice none 0 0, .slice none 0 0])] (by kernel_rfl) (by kernel_rfl) (by kernel_rfl) (by kernel_rfl) (by rfl) 9 rfl (by kernel_rfl) ?hops8 ?hlast8)
 case hops8 =>
  intro i o a' V hns hB ho hev hrd
  have his : i < 10 := by have := (Array.getElem?_eq_some_iff.1 ho).1; simpa using this
  have hr4 := HR4.out.later hB
  have hcr := HCR4.out.later hB
  have hks := HKS.out.sb (Sb.of_below (HB4.out.trans (hB.mono HB4.out.size)))
  have hcase : i = 0 ∨ i = 1 ∨ i = 2 ∨ i = 3 ∨ i = 4 ∨ i = 5 ∨ i = 6 ∨ i = 7 ∨ i = 8 ∨ i = 9 := by omega
  rcases hcase with rfl | rfl | rfl | rfl | rfl | rfl | rfl | rfl | rfl | rfl
  ·simp at ho
   subst ho
   have r7 := hev 7 rfl
   simp [Act.eval] at r7
   try simp [Act.put] at r7
   refine ⟨nofun, fun _ _ => trivial, nofun, .inl ⟨.agg #[.slice Ap np cp, .slice An nn cn, .slice Ab nb cb, .slice Ax nx cx, .slice Ay ny cy, .int .i64 (D.size : Int)], V, exec_load 30 6 _ Tryz.underlying30 rfl Tryz.sizeCr _ rfl g7 [.slice Ap np cp, .slice An nn cn, .slice Ab nb cb, .slice Ax nx cx, .slice Ay ny cy, .int .i64 (D.size : Int)] (by simpa [Act.eval] using r7) 30 hr4 rfl, Below.refl _ _, fun t ht => by cases ht; rfl⟩⟩
  ·simp at ho
   subst ho
   have r1 := hev 1 rfl
   simp [Act.eval] at r1
   refine ⟨nofun, fun _ _ => trivial, nofun, .inl ⟨.slice Ak nk ck, V, ?_, Below.refl _ _, fun t ht => by cases ht; rfl⟩⟩
   simp [execOp, Act.eval, go_sem, r1]
  ·simp at ho
   subst ho
   have r18 : a'.eval (.tmp 18) = .slice Ak nk ck := hrd 18 rfl rfl
   simp [Act.eval] at r18
   refine ⟨nofun, fun _ _ => trivial, nofun, .inr ⟨19, #[.slice Ak nk ck, .int .i64 1], ?_, (callsIn_wide.2 (cut_c V _ _ _ xs hks 1 (by decide))).mono ?_⟩⟩
   ·simp [execOp, Act.eval, r18, resolve, invoke, Deferred.ofValue]
   ·rintro e w' ⟨v, rfl, hv, hB2⟩
    exact ⟨_, rfl, hB2, fun t ht => by cases ht; exact hv⟩
  ·simp at ho
   subst ho
   have r19 : CutS V (a'.eval (.tmp 19)) (xs.take 1) := hrd 19 rfl rfl
   refine ⟨nofun, fun _ _ => trivial, nofun, .inr ⟨22, #[a'.eval (.tmp 19)], ?_, (callsIn_wide.2 (from_u V _ m (by have h := r19.num (HKD.out.take 1) (by rw [List.length_take]; omega); rwa [HM.out] at h))).mono ?_⟩⟩
   ·simp [execOp, Act.eval, resolve, invoke, Deferred.ofValue]
   ·rintro e w' ⟨v, rfl, hv, hB2⟩
    exact ⟨_, rfl, hB2, fun t ht => by cases ht; exact hv⟩
  ·simp at ho
   subst ho
   have r7 := hev 7 rfl
   simp [Act.eval] at r7
   try simp [Act.put] at r7
   refine ⟨nofun, fun _ _ => trivial, nofun, .inl ⟨.agg #[.slice Ap np cp, .slice An nn cn, .slice Ab nb cb, .slice Ax nx cx, .slice Ay ny cy, .int .i64 (D.size : Int)], V, exec_load 30 6 _ Tryz.underlying30 rfl Tryz.sizeCr _ rfl g7 [.slice Ap np cp, .slice An nn cn, .slice Ab nb cb, .slice Ax nx cx, .slice Ay ny cy, .int .i64 (D.size : Int)] (by simpa [Act.eval] using r7) 30 hr4 rfl, Below.refl _ _, fun t ht => by cases ht; rfl⟩⟩
  ·simp at ho
   subst ho
   have r21 : a'.eval (.tmp 21) = .agg #[.slice Ap np cp, .slice An nn cn, .slice Ab nb cb, .slice Ax nx cx, .slice Ay ny cy, .int .i64 (D.size : Int)] := hrd 21 rfl rfl
   simp [Act.eval] at r21
   refine ⟨nofun, fun _ _ => trivial, nofun, .inr ⟨37, #[.agg #[.slice Ap np cp, .slice An nn cn, .slice Ab nb cb, .slice Ax nx cx, .slice Ay ny cy, .int .i64 (D.size : Int)]], ?_, (callsIn_wide.2 (rBase9_any V _ D hcr)).mono ?_⟩⟩
   ·simp [execOp, Act.eval, r21, resolve, invoke, Deferred.ofValue]
   ·rintro e w' ⟨v, rfl, hv, hB2⟩
    exact ⟨_, rfl, hB2, fun t ht => by cases ht; exact hv⟩
  ·simp at ho
   subst ho
   have r17 : a'.eval (.tmp 17) = .agg #[.slice Ap np cp, .slice An nn cn, .slice Ab nb cb, .slice Ax nx cx, .slice Ay ny cy, .int .i64 (D.size : Int)] := hrd 17 rfl rfl
   simp [Act.eval] at r17
   have r20 : Nb V (a'.eval (.tmp 20)) m := hrd 20 rfl rfl
   have r22 : Rp V (a'.eval (.tmp 22)) (some (D.gx, D.gy)) := hrd 22 rfl rfl
   refine ⟨nofun, fun _ _ => trivial, nofun, .inr ⟨21, #[.agg #[.slice Ap np cp, .slice An nn cn, .slice Ab nb cb, .slice Ax nx cx, .slice Ay ny cy, .int .i64 (D.size : Int)], a'.eval (.tmp 20), a'.eval (.tmp 22)], ?_, (callsIn_wide.2 (pmul_c V _ _ _ D hcr HZ.out.1 HZ.out.2.2.2.2.2.2.1 m r20 r22 HZ.out.2.2.2.2.1 HZ.out.2.2.2.2.2.1)).mono ?_⟩⟩
   ·simp [execOp, Act.eval, r17, resolve, invoke, Deferred.ofValue]
   ·rintro e w' ⟨v, rfl, hv, hB2⟩
    exact ⟨_, rfl, hB2, fun t ht => by cases ht; exact hv⟩
  ·simp at ho
   subst ho
   have r23 : MpS D m (a'.eval (.tmp 23)) V := hrd 23 rfl rfl
   refine ⟨nofun, fun _ _ => trivial, nofun, .inr ⟨36, #[a'.eval (.tmp 23)], ?_, (callsIn_wide.2 (pto_c V _ D m N (by have h1 := hB.size; have h2 := HN.out; omega) HZ.out.1.1 HZ.out.2.2.1 r23)).mono ?_⟩⟩
   ·simp [execOp, Act.eval, resolve, invoke, Deferred.ofValue]
   ·rintro e w' ⟨v, rfl, hv, hB2⟩
    exact ⟨_, rfl, hB2, fun t ht => by cases ht; exact hv⟩
  ·simp at ho
   subst ho
   refine ⟨nofun, fun _ _ => trivial, nofun, .inl ⟨.pointer (some ⟨V.heap.size, 0, none⟩), _, ?_, (Below.refl _ V).alloc (Nat.le_refl _) (.cells #[.bool false, .slice none 0 0, .slice none 0 0] 26), fun t ht => by cases ht; exact ⟨_, rfl, (by have h1 := hB.size; have h2 := HN.out; omega), RowV.new V 26 [.bool false, .slice none 0 0, .slice none 0 0]⟩⟩⟩
   simp [execOp, Act.eval, go_sem]
  ·simp at ho
   subst ho
   omega
 case hlast8 =>
  intro vals o a' V hB ho hev hrd hvals
  simp at ho
  have hop : o.op = .store 26 (.tmp 8) (.tmp 24) := by subst ho; rfl
  have hd8 : readsB o 8 = true := by subst ho; rfl
  have hd24 : readsB o 24 = true := by subst ho; rfl
  have e8 : a'.eval (.tmp 8) = vals 8 := by
   obtain ⟨j, oj, hj, hjd, e⟩ := hrd 8 hd8 (by rfl)
   have hj13 : j = 8 := distinct_of (by kernel_rfl) j 8 oj _ 8 hj rfl hjd rfl
   rw [e, hj13]
  have e24 : a'.eval (.tmp 24) = vals 7 := by
   obtain ⟨j, oj, hj, hjd, e⟩ := hrd 24 hd24 (by rfl)
   have hj12 : j = 7 := distinct_of (by kernel_rfl) j 7 oj _ 24 hj rfl hjd rfl
   rw [e, hj12]
  have p8 : ∃ g, vals 8 = .pointer (some ⟨g, 0, none⟩) ∧ N ≤ g ∧ RowV 26 V g [.bool false, .slice none 0 0, .slice none 0 0] := hvals 8 8 _ (by decide) rfl rfl
  have p24 : PtoS D m N (vals 7) V := hvals 7 24 _ (by decide) rfl rfl
  obtain ⟨g9, he8, hg9, hr9⟩ := p8
  obtain ⟨MP, hbp, hpo⟩ := p24
  obtain ⟨tb, va, vb', he24, ha, hb'⟩ : ∃ tb va vb', vals 7 = .agg #[.bool tb, va, vb'] ∧ (∃ x, Nu V va x) ∧ ∃ y, Nu V vb' y := by
   rcases MP with _ | ⟨x, y⟩
   ·obtain ⟨a, b, e, h1, h2⟩ := hpo
    exact ⟨_, _, _, e, ⟨_, h1⟩, _, h2⟩
   ·obtain ⟨a, b, e, h1, h2, h3, h4⟩ := hpo
    exact ⟨_, _, _, e, ⟨_, h1⟩, _, h3.1⟩
  obtain ⟨Aa, na, ca, rfl⟩ := ha.choose_spec.sl
  obtain ⟨Ab', nb', cb', rfl⟩ := hb'.choose_spec.sl
  obtain ⟨V', hrun, hr', hg'⟩ := exec_store (P := Tryz.prog) (w := V) (o := o) (a := a') 26 3 Tryz.sizePt (.tmp 8) (.tmp 24) hop g9 [.bool tb, .slice Aa na ca, .slice Ab' nb' cb'] (by rw [e8, he8]) (by rw [e24, he24]) 26 _ hr9 rfl rfl (ones3 rfl rfl rfl)
  refine ⟨(by intro c h; rw [hop] at h; cases h), (by subst ho; exact fun _ _ => trivial), undef, V', .inl ⟨hrun, rfl⟩, ?_⟩
  have hsb : Sb V V' := ⟨g9, NoU.of_row hr9 (noU3 nofun nofun nofun), hg'⟩
  have hne : g9 ≠ gr := by have := HGX.out; have := HN.out; omega
  have HPO := hid (show PtO N V' (.agg #[.bool tb, .slice Aa na ca, .slice Ab' nb' cb']) MP from by rw [← he24]; exact hpo.sb hsb)
  have HBP := hid hbp
  have HRv := hid ((HR04.out.later hB).grown hg' (fun e => hne e.symm))
  have hbV := HB4.out.trans (hB.mono HB4.out.size)
  have HBV := hid (below_grown hbV hg' (by have := HB4.out.size; have := HN.out; omega) hbV.size)
  have HR9 := hid hr'
  have HNE := hid hne
  clear ha hb' hpo hbp hsb hne hbV hr9 hrun hg' hvals hrd hev ho hop e8 e24 he24 hd8 hd24 HR4 HR04 HCR4 HKS HKD HC
  simp [wrote, Act.put]
  rw [he8]
  clear he8
  have p0 := HR9.out.at_ (i := 0) rfl
  have p1 := HR9.out.at_ (i := 1) rfl
  have p2 := HR9.out.at_ (i := 2) rfl
  have hend : ∀ w12, RowV 26 w12 gr [.bool tb, .slice Aa na ca, .slice Ab' nb' cb'] → V'.grownBy w12 (some gr) → ∃ P MP, BasePt D m MP ∧ SpOf sp MP P ∧ Pg w12 (.agg #[.bool tb, .slice Aa na ca, .slice Ab' nb' cb']) P ∧ Below w.heap.size w w12 := by
   intro w12 hr12 hg12
   refine ⟨MP, MP, HBP.out, .inl rfl, ?_, below_grown HBV.out hg12 HGR.out HBV.out.size⟩
   have hpo := HPO.out.sb (V' := w12) ⟨gr, NoU.of_row HRv.out (noU3 nofun nofun nofun), hg12⟩
   rcases MP with _ | ⟨x, y⟩
   ·obtain ⟨a, b, e, h1, h2⟩ := hpo
    cases e
    exact ⟨_, _, rfl, rfl, rfl⟩
   ·obtain ⟨a, b, e, h1, h2, h3, h4⟩ := hpo
    cases e
    exact ⟨_, _, rfl, h1.gu, h3.1.gu⟩
  have HEND := hid hend
  clear hend
  rcases sp with _ | _
  ·go_wp2_with ((with_reducible show wpList _ _ _ (⟨none, _, _, _, _, _⟩ :: _) _ _); refine wlS_store rfl 26 3 Tryz.sizePt _ _ rfl gr [.bool tb, .slice Aa na ca, .slice Ab' nb' cb'] rfl rfl 26 _ HRv.out rfl rfl (ones3 rfl rfl rfl) ?_; intro w12 hr12 hg12 hz)
   obtain ⟨P, MP', h1, h2, h3, h4⟩ := HEND.out w12 hr12 hg12
   exact ⟨rfl, _, results_pt rfl _ gr _ rfl hr12 rfl, _, P, MP', rfl, h1, h2, h3, h4⟩
  ·by_cases hnb : nb' = 0
   ·subst hnb
    go_wp2_with ((with_reducible show wpList _ _ _ (⟨none, _, _, _, _, _⟩ :: _) _ _); refine wlS_store rfl 26 3 Tryz.sizePt _ _ rfl gr [.bool tb, .slice Aa na ca, .slice Ab' 0 cb'] rfl rfl 26 _ HRv.out rfl rfl (ones3 rfl rfl rfl) ?_; intro w12 hr12 hg12 hz)
    obtain ⟨P, MP', h1, h2, h3, h4⟩ := HEND.out w12 hr12 hg12
    exact ⟨rfl, _, results_pt rfl _ gr _ rfl hr12 rfl, _, P, MP', rfl, h1, h2, h3, h4⟩
   ·obtain ⟨x, y, rfl⟩ : ∃ x y, MP = some (x, y) := by
     rcases MP with _ | ⟨x, y⟩
     ·obtain ⟨a, b, e, h1, h2⟩ := HPO.out
      cases e
      exact absurd (h2.zlen.2 rfl) hnb
     ·exact ⟨x, y, rfl⟩
    obtain ⟨a, b, e, h1, h2, h3, h4⟩ := HPO.out
    cases e
    have hy0 : 0 < y := Nat.pos_of_ne_zero fun h0 => hnb (h3.1.zlen.2 h0)
    obtain ⟨n, zs, hn0, hzs, hown⟩ := h3.2.2 hy0
    obtain ⟨gy, cy', ys, e, hgy, hrow, hyl, hnc, hcm, htk⟩ := own_row2 hown hn0
    injection e with e1 e2 e3
    subst e1 e2 e3
    obtain ⟨x0, zt, rfl⟩ : ∃ x0 zt, zs = x0 :: zt := by
     cases zs with
     | nil => have := hown.1; simp at this; omega
     | cons a b => exact ⟨a, b, rfl⟩
    have hx0 : x0 < b64 := hzs.1 x0 (by simp)
    obtain ⟨u1, hu1⟩ : ∃ u : Nat, x0 ^^^ 1 = u := ⟨_, rfl⟩
    have hbx : bits .xor .u64 ((x0 : Nat) : Int) 1 = ((u1 : Nat) : Int) := by rw [bits_xor_one hx0, hu1]
    have hu1l : u1 < b64 := by rw [← hu1]; exact xor_one_lt hx0
    have hu1n : u1 ≠ x0 := by rw [← hu1]; exact xor_one_ne x0
    obtain ⟨hset, hfst⟩ := set_first htk (U u1)
    have hgne : gy ≠ g9 ∧ gy ≠ gr := by
     constructor
     ·rintro rfl
      have h := (hrow.cell 0).symm.trans (HR9.out.cell 0)
      rw [hfst] at h
      cases h
     ·rintro rfl
      have h := (hrow.cell 0).symm.trans (HRv.out.cell 0)
      rw [hfst] at h
      cases h
    have hc0 := hrow.at_ hfst
    have hf0 := hrow.frozen 0
    have hrs := hrow.set 0 (U u1)
    have hg2 := grownBy_setCell' V' gy (U u1)
    obtain ⟨V2, hV2⟩ : ∃ X, V'.setCell ⟨gy, 0, none⟩ (.int .u64 ((u1 : Nat) : Int)) = X := ⟨_, rfl⟩
    have hV2' : V'.setCell ⟨gy, 0, none⟩ (U u1) = V2 := hV2
    rw [hV2'] at hrs hg2
    have HG2 := hid hg2
    have HRS := hid hrs
    have hr92 := HR9.out.grown hg2 (fun e => hgne.1 e.symm)
    have HRv2 := hid (HRv.out.grown hg2 (fun e => hgne.2 e.symm))
    have q0 := hr92.at_ (i := 0) rfl
    have q1 := hr92.at_ (i := 1) rfl
    have q2 := hr92.at_ (i := 2) rfl
    have hnI : (0 : Int) < nb' := by omega
    have HF := hid (And.intro hset (And.intro hyl (And.intro hnc hcm)))
    have HX := hid (And.intro hu1l hu1n)
    have HZS := hid hzs
    have HGY := hid (And.intro hgne hgy)
    have HAX := hid h1
    have HAP := hid h4
    have HL64 := hid (show nb' ≤ 64 by obtain ⟨xs', A', n', c', e', -, -, hl'⟩ := h3.1; cases e'; exact hl')
    clear h1 h2 h3 h4 hown hrow hyl hnc hcm htk hzs hset hfst hgne hrs hg2 hV2' hr92 hgy hu1l hu1n hu1 hx0 hy0 hn0 hnb HEND
    go_wp2_with ((with_reducible show wpList _ _ _ (⟨none, _, _, _, _, _⟩ :: _) _ _); refine wlS_store rfl 26 3 Tryz.sizePt _ _ rfl gr [.bool false, .slice Aa na ca, .slice (some ⟨gy, 0, none⟩) nb' cb'] rfl rfl 26 _ HRv2.out rfl rfl (ones3 rfl rfl rfl) ?_; intro w12 hr12 hg12 hz)
    refine ⟨rfl, _, results_pt rfl _ gr _ rfl hr12 rfl, _, some (x, numL (u1 :: zt)), some (x, y), rfl, HBP.out, .inr ⟨rfl, x, y, _, rfl, rfl, ?_⟩, ?_, ?_⟩
    ·exact numL_ne HZS.out.2.2 HX.out.2
    ·have hsb : Sb V2 w12 := ⟨gr, NoU.of_row HRv2.out (noU3 nofun nofun nofun), hg12⟩
     obtain ⟨xs', A', n', c', e', hs', hn', hl'⟩ := HAX.out
     cases e'
     have hs2 := hs'.grownA HG2.out (fun h => HAP.out gy h rfl)
     have ho := own_of_row (base := N) HRS.out HGY.out.2 (by rw [List.length_set]; exact HF.out.2.1) HF.out.2.2.1 HF.out.2.2.2 HF.out.1
     obtain ⟨A2, c2, e2, hs3⟩ := Sl.of_own (xs := u1 :: zt) ho
     cases e2
     exact ⟨_, _, rfl, ⟨xs', _, _, _, rfl, hs2.sb hsb, hn'.1, hn'.2.2, hl'⟩, ⟨u1 :: zt, _, _, _, rfl, hs3.sb hsb, (fun z hz => by
      rcases List.mem_cons.1 hz with rfl | hz
      ·exact HX.out.1
      ·exact HZS.out.1 z (List.mem_cons_of_mem _ hz)), rfl, HL64.out⟩⟩
    ·have hb2 := below_grown HBV.out HG2.out (by have h1 := HB4.out.size; have h2 := HN.out; have h3 := HGY.out.2; omega) HBV.out.size
     exact below_grown hb2 hg12 HGR.out hb2.size
theorem is_u (w : World) (v v' : Value) (k : Nat) (h : Nu w v k) (h' : Nb w v' k) : Calls Tryz.prog 51 #[v, v'] w fun e w' => RetV w (.bool true) e w' := by
 obtain ⟨xs, A, n, c, rfl, hs, hn, hl⟩ := h
 obtain ⟨ys, A2, n2, c2, rfl, hs2, hn2, hl2⟩ := h'
 exact is_any w _ (Nat.le_refl _) A n c xs hs A2 n2 c2 ys hs2 k hn hn2 (by omega)
theorem is9_true (w : World) (a b c d : Value) (x y : Nat) (h1 : Nu w a x) (h2 : Nu w b y) (h3 : Nb w c x) (h4 : Nb w d y) :
  Calls Tryz.prog 16 #[.agg #[.bool true, a, b], .agg #[.bool true, c, d]] w fun e w' => RetV w (.bool true) e w' := by
 obtain ⟨Aa, na, ca, rfl⟩ := h1.sl
 obtain ⟨Ab, nb, cb, rfl⟩ := h2.sl
 obtain ⟨Ac, nc, cc, rfl⟩ := h3.sl
 obtain ⟨Ad, nd, cd, rfl⟩ := h4.sl
 obtain ⟨W0, e0, r0, b0, z0⟩ := newS w 26 [.bool true, .slice Aa na ca, .slice Ab nb cb] _ rfl
 obtain ⟨W1, e1, r1, b1, z1⟩ := newS W0 33 [.bool true, .slice Ac nc cc, .slice Ad nd cd] _ rfl
 have r01 := r0.later b1
 have hb := b0.trans (b1.mono b0.size)
 have HB := hid hb
 have H1 := hid (is_u W1 _ _ x (h1.later hb) (h3.later hb))
 have H2 := hid (h2.later hb)
 have H4 := hid (h4.later hb)
 obtain ⟨g0, hg0⟩ : ∃ g, w.heap.size = g := ⟨_, rfl⟩
 obtain ⟨g1, hg1⟩ : ∃ g, W0.heap.size = g := ⟨_, rfl⟩
 rw [hg0] at r01
 rw [hg1] at r1
 have R0 := hid r01
 have R1 := hid r1
 have a0 := r01.at_ (i := 0) rfl
 have a1 := r01.at_ (i := 1) rfl
 have c0 := r1.at_ (i := 0) rfl
 have c1 := r1.at_ (i := 1) rfl
 clear h1 h2 h3 h4 r0 r1 r01 b0 b1 z0 z1 hb
 go_enter Tryz.func16, Tryz.ntmps16
 go_wp2_with fail
 refine H1.out.mono ?_
 rintro e w2 ⟨rfl, hb2⟩
 have a2 := (R0.out.later hb2).at_ (i := 2) rfl
 have c2 := (R1.out.later hb2).at_ (i := 2) rfl
 have H5 := hid (is_u w2 _ _ y (H2.out.later hb2) (H4.out.later hb2))
 have HB2 := hid (HB.out.trans (hb2.mono HB.out.size))
 clear hb2 a0 a1 c0 c1 R0 R1 H2 H4 HB
 go_wp2_with fail
 refine H5.out.mono ?_
 rintro e w3 ⟨rfl, hb3⟩
 have HB3 := hid (HB2.out.trans (hb3.mono HB2.out.size))
 clear hb3 a2 c2 HB2
 go_wp2
 go_ret
 exact ⟨rfl, HB3.out⟩
theorem is9_false (w : World) (a b c d : Value) (x y : Nat) (h1 : Nu w a x) (h2 : Nu w b y) (h3 : Nb w c x) (h4 : Nb w d y) :
  Calls Tryz.prog 16 #[.agg #[.bool false, a, b], .agg #[.bool false, c, d]] w fun e w' => RetV w (.bool true) e w' := by
 obtain ⟨Aa, na, ca, rfl⟩ := h1.sl
 obtain ⟨Ab, nb, cb, rfl⟩ := h2.sl
 obtain ⟨Ac, nc, cc, rfl⟩ := h3.sl
 obtain ⟨Ad, nd, cd, rfl⟩ := h4.sl
 obtain ⟨W0, e0, r0, b0, z0⟩ := newS w 26 [.bool false, .slice Aa na ca, .slice Ab nb cb] _ rfl
 obtain ⟨W1, e1, r1, b1, z1⟩ := newS W0 33 [.bool false, .slice Ac nc cc, .slice Ad nd cd] _ rfl
 have r01 := r0.later b1
 have hb := b0.trans (b1.mono b0.size)
 have HB := hid hb
 have H1 := hid (is_u W1 _ _ x (h1.later hb) (h3.later hb))
 have H2 := hid (h2.later hb)
 have H4 := hid (h4.later hb)
 obtain ⟨g0, hg0⟩ : ∃ g, w.heap.size = g := ⟨_, rfl⟩
 obtain ⟨g1, hg1⟩ : ∃ g, W0.heap.size = g := ⟨_, rfl⟩
 rw [hg0] at r01
 rw [hg1] at r1
 have R0 := hid r01
 have R1 := hid r1
 have a0 := r01.at_ (i := 0) rfl
 have a1 := r01.at_ (i := 1) rfl
 have c0 := r1.at_ (i := 0) rfl
 have c1 := r1.at_ (i := 1) rfl
 clear h1 h2 h3 h4 r0 r1 r01 b0 b1 z0 z1 hb
 go_enter Tryz.func16, Tryz.ntmps16
 go_wp2_with fail
 refine H1.out.mono ?_
 rintro e w2 ⟨rfl, hb2⟩
 have a2 := (R0.out.later hb2).at_ (i := 2) rfl
 have c2 := (R1.out.later hb2).at_ (i := 2) rfl
 have H5 := hid (is_u w2 _ _ y (H2.out.later hb2) (H4.out.later hb2))
 have HB2 := hid (HB.out.trans (hb2.mono HB.out.size))
 clear hb2 a0 a1 c0 c1 R0 R1 H2 H4 HB
 go_wp2_with fail
 refine H5.out.mono ?_
 rintro e w3 ⟨rfl, hb3⟩
 have HB3 := hid (HB2.out.trans (hb3.mono HB2.out.size))
 clear hb3 a2 c2 HB2
 go_wp2
 go_ret
 exact ⟨rfl, HB3.out⟩
theorem is9_any (w : World) (v v' : Value) (P : Option (Nat × Nat)) (h : Pt w v P) (h' : Rp w v' P) : Calls Tryz.prog 16 #[v, v'] w fun e w' => RetV w (.bool true) e w' := by
 rcases P with _ | ⟨x, y⟩
 ·obtain ⟨a, b, rfl, h1, h2⟩ := h
  obtain ⟨c, d, rfl, h3, h4⟩ := h'
  exact is9_true w a b c d 0 0 h1 h2 h3 h4
 ·obtain ⟨a, b, rfl, h1, h2⟩ := h
  obtain ⟨c, d, rfl, h3, h4⟩ := h'
  exact is9_false w a b c d x y h1 h2 h3 h4
end Go.Proofs.YtbejcollbkeedaaGreat
namespace Go.Proofs.YtbejcollbkeedaaGreat
open Go.RowKit Go.Shelf
def usesG : Op → Option (List Operand)
 | .pick x y z => some [x, y, z]
 | op => usesW op
def readsG (o : Oper) (t : Nat) : Bool := match usesG o.op with
 | some l => l.any fun x => match x with | .tmp t' => t' == t | _ => false
 | none => false
def depsG (ops : Array Oper) (asg : List Nat) : Bool := (List.range ops.size).all fun i => match ops[i]? with
 | none => true
 | some o => (match o.dst with | some t => asg.contains t | none => true) && match usesG o.op with
  | none => false
  | some l => l.all fun x => match x with
   | .tmp t => bif asg.contains t then (List.range ops.size).all fun j => match (ops[j]?).bind (·.dst) with
    | some t' => t' != t || o.after.any fun e => e.on == j && Region.binds .any e
    | none => true
    else true
   | _ => true
theorem tree_readsG {ops : Array Oper} {keys : List Nat} {a a' : Act} {L : Array Bool} {b : Nat → Value} (hdep : depsG ops keys = true) (hon : onlyB ops keys = true) (hsz : keys.all (fun t => decide (t < a.tmps.size)) = true)
  (hold : ∀ t, (∀ (i : Nat) (oi : Oper), ops[i]? = some oi → L.getD i false = true → oi.dst ≠ some t) → a'.tmps.getD t undef = a.tmps.getD t undef)
  (hnew : ∀ (j : Nat) (oj : Oper) t, ops[j]? = some oj → oj.dst = some t → L.getD j false = true → t < a.tmps.size → a'.tmps.getD t undef = b j)
  {i : Nat} {o : Oper} (ho : ops[i]? = some o) (hde : ∀ e ∈ o.after, Region.binds .any e = true → L.getD e.on false = true) :
  (∀ t, keys.contains t = false → a'.eval (.tmp t) = a.eval (.tmp t)) ∧
   ∀ t, readsG o t = true → keys.contains t = true → ∃ (j : Nat) (oj : Oper), ops[j]? = some oj ∧ oj.dst = some t ∧ L.getD j false = true ∧ a'.eval (.tmp t) = b j := by
 have his : i < ops.size := (Array.getElem?_eq_some_iff.1 ho).1
 simp only [depsG, List.all_eq_true, List.mem_range] at hdep
 have h2 := hdep i his
 rw [ho] at h2
 simp only [Bool.and_eq_true] at h2
 refine ⟨fun t hl => ?_, fun t hr hl => ?_⟩
 ·have e1 : a.eval (.tmp t) = a.tmps.getD t undef := by simp [Act.eval]
  have e2 : a'.eval (.tmp t) = a'.tmps.getD t undef := by simp [Act.eval]
  rw [e1, e2]
  refine hold t fun j oj hj hLj e => ?_
  have h4 := hdep j (Array.getElem?_eq_some_iff.1 hj).1
  rw [hj] at h4
  simp only [Bool.and_eq_true, e] at h4
  have h5 := h4.1
  rw [hl] at h5
  simp at h5
 ·unfold readsG at hr
  cases hu : usesG o.op with
  | none => rw [hu] at hr; cases hr
  | some l =>
   rw [hu] at hr h2
   obtain ⟨x, hx, hxe⟩ := List.any_eq_true.1 hr
   have h3 := List.all_eq_true.1 h2.2 x hx
   cases x with
   | tmp t' =>
    obtain rfl : t' = t := by simpa using hxe
    simp only [hl, cond_true] at h3
    have h5 := List.all_eq_true.1 hon t' (by simpa using hl)
    rw [List.any_eq_true] at h5
    obtain ⟨j, hj, h6⟩ := h5
    rw [List.mem_range] at hj
    have hoj : ops[j]? = some ops[j] := Array.getElem?_eq_getElem hj
    rw [hoj] at h6
    simp only [Option.bind_some] at h6
    cases hdj : ops[j].dst with
    | none => rw [hdj] at h6; cases h6
    | some t2 =>
     rw [hdj] at h6
     obtain rfl : t2 = t' := by simpa using h6
     have h7 := List.all_eq_true.1 h3 j (List.mem_range.2 hj)
     rw [hoj] at h7
     simp only [Option.bind_some, hdj, bne_self_eq_false, Bool.false_or] at h7
     obtain ⟨e, he, he2⟩ := Array.any_eq_true'.1 h7
     rw [Bool.and_eq_true, beq_iff_eq] at he2
     have hLj := hde e he he2.2
     rw [he2.1] at hLj
     have htl : t2 < a.tmps.size := by
      have := List.all_eq_true.1 hsz t2 (by simpa using hl)
      simpa using this
     refine ⟨j, _, hoj, hdj, hLj, ?_⟩
     rw [← hnew j _ t2 hoj hdj hLj htl]
     simp [Act.eval]
   | _ => cases hxe
def guardsB (ops : Array Oper) (Gs : List (Nat × Bool)) : Bool := (List.range ops.size).all fun i => match ops[i]? with
 | none => true
 | some o => match o.guard with
  | none => true
  | some (j, b) => (o.after.any fun e => e.on == j && Region.binds .any e) && match (ops[j]?).bind (·.dst) with
   | some t => Gs.any fun p => p.1 == t && p.2 == b
   | none => false
theorem wanted_of {ops : Array Oper} {o : Oper} {tm : Array Value} (h : ∀ j b, o.guard = some (j, b) → yielded ops tm j = some b) : Region.wanted o (yielded ops tm) = true := by
 unfold Region.wanted
 cases hg : o.guard with
 | none => rfl
 | some p =>
  obtain ⟨j, b⟩ := p
  simp [h j b hg]
theorem in_valueG {F : Fence} {n : Nat} {P : Program} {ops : Array Oper} {Q : Exit → Act → World → Prop} {i : Nat} {o : Oper} {K : Act → World → Prop} {a : Act} {w w' : World} {v : Value} (ho : ops[i]? = some o) (hg : Region.wanted o (yielded ops a.tmps) = true) (hdf : ∀ c, o.op ≠ .defer c)
  (hab : ∀ f, o.about P w a.eval = some f → F.fn f) (hrun : (execOp a.eval o).run P w = .ok (.value v) w') (h : K (a.put o.dst v) w') : wpOpIn F n P ops Q i K a w := by
 unfold wpOpIn
 simp only [ho, hg, if_true]
 refine ⟨hab, ?_⟩
 rw [Oper.semAt_plain F _ _ hdf, hrun]
 exact h
theorem in_skipG {F : Fence} {n : Nat} {P : Program} {ops : Array Oper} {Q : Exit → Act → World → Prop} {i : Nat} {o : Oper} {K : Act → World → Prop} {a : Act} {w w' : World} (ho : ops[i]? = some o) (hg : Region.wanted o (yielded ops a.tmps) = true) (hdf : ∀ c, o.op ≠ .defer c)
  (hab : ∀ f, o.about P w a.eval = some f → F.fn f) (hrun : (execOp a.eval o).run P w = .ok .skip w') (h : K (a.put o.dst undef) w') : wpOpIn F n P ops Q i K a w := by
 unfold wpOpIn
 simp only [ho, hg, if_true]
 refine ⟨hab, ?_⟩
 rw [Oper.semAt_plain F _ _ hdf, hrun]
 exact h
theorem in_callG {F : Fence} {n : Nat} {P : Program} {ops : Array Oper} {Q : Exit → Act → World → Prop} {i : Nat} {o : Oper} {K : Act → World → Prop} {a : Act} {w : World} {f : FuncId} {args : Array Value} (ho : ops[i]? = some o) (hg : Region.wanted o (yielded ops a.tmps) = true) (hdf : ∀ c, o.op ≠ .defer c) (hF : F.depth = none)
  (hab : ∀ f, o.about P w a.eval = some f → F.fn f) (hrun : (execOp a.eval o).run P w = .ok (.enter f args) w) (hc : CallsIn F (n - 1) P f args w fun e w' => ∃ v, e = .returned v ∧ K (a.put o.dst v) w') : wpOpIn F n P ops Q i K a w := by
 unfold wpOpIn
 simp only [ho, hg, if_true]
 refine ⟨hab, ?_⟩
 rw [Oper.semAt_plain F _ _ hdf, hrun]
 refine ⟨(fun h => by (rw [hF] at h; cases h)), hc.mono ?_⟩
 rintro e w' ⟨v, rfl, h⟩
 exact h
theorem wpIn_region_treeG {F : Fence} {n : Nat} {P : Program} {id : Nat} {ops : Array Oper} {Q : Exit → Act → World → Prop} {a : Act} {w : World} (hF : F.depth = none) (hm : P.follows .mixedOrders = true)
  (keys : List Nat) (Gs : List (Nat × Bool)) (hd : distinctB ops = true) (hdep : depsG ops keys = true) (hon : onlyB ops keys = true) (hord : orderedB ops = true) (hsz : keys.all (fun t => decide (t < a.tmps.size)) = true)
  (hgs : guardsB ops Gs = true) (hgk : Gs.all (fun p => keys.contains p.1) = true)
  (I : World → Prop) (hI : I w.drew) (St : Nat → World → World → Prop) (Pd : Nat → Value → World → Prop) (hGv : ∀ p ∈ Gs, ∀ v V, Pd p.1 v V → v = .bool p.2) (hmono : ∀ i V V', I V → I V' → St i V V' → ∀ t v, Pd t v V → Pd t v V')
  (Pn : Nat → World → Prop) (hmonon : ∀ i V V', I V → I V' → St i V V' → ∀ j, j ≠ i → Pn j V → Pn j V')
  (hops : ∀ (i : Nat) (o : Oper) (a' : Act) (V : World), I V → ops[i]? = some o → (∀ t, keys.contains t = false → a'.eval (.tmp t) = a.eval (.tmp t)) → (∀ t, readsG o t = true → keys.contains t = true → Pd t (a'.eval (.tmp t)) V) → TreeOk F n P I (St i) Pd (Pn i) a' V o)
  (hend : ∀ (vals : Nat → Value) V, I V → (∀ (i t : Nat) (o : Oper), ops[i]? = some o → o.dst = some t → Pd t (vals i) V) → (∀ (i : Nat) (o : Oper), ops[i]? = some o → o.dst = none → Pn i V) →
   Q .normal { tmps := wrote ops vals (Array.replicate ops.size true) a.tmps ops.size, defers := a.defers } V) : (Code.region id ops true).wpIn F n P Q a w := by
 have hd' := distinct_of hd
 refine wpIn_region_relH hm hd' (fun b : Nat → Value => b) (fun b L V => I V ∧ (∀ (j t : Nat) (o : Oper), ops[j]? = some o → o.dst = some t → L.getD j false = true → Pd t (b j) V) ∧
  ∀ (j : Nat) (o : Oper), ops[j]? = some o → o.dst = none → L.getD j false = true → Pn j V) (fun _ => undef) ⟨hI, ?_, ?_⟩ ?_ ?_ (acyclic_of hord)
 ·intro j t o _ _ hL
  rw [getD_rep] at hL
  cases hL
 ·intro j o _ _ hL
  rw [getD_rep] at hL
  cases hL
 ·rintro b L a' V ⟨hIV, hPV, hNV⟩ hLs hdf hcl hold hnew i hi o ho K hK
  obtain ⟨h1, o2, ho2, hde⟩ := mem_ready.1 hi
  obtain rfl : o = o2 := Option.some.inj (ho.symm.trans ho2)
  have hnl := unlisted h1
  obtain ⟨hev, hrd⟩ := tree_readsG hdep hon hsz hold hnew ho hde
  have hrd' : ∀ t, readsG o t = true → keys.contains t = true → Pd t (a'.eval (.tmp t)) V := by
   intro t h2 h3
   obtain ⟨j, oj, hj, hjd, hjL, e⟩ := hrd t h2 h3
   rw [e]
   exact hPV j t oj hj hjd hjL
  have hw : Region.wanted o (yielded ops a'.tmps) = true := by
   refine wanted_of fun j bv hgd => ?_
   simp only [guardsB, List.all_eq_true, List.mem_range] at hgs
   have h2 := hgs i (Array.getElem?_eq_some_iff.1 ho).1
   rw [ho] at h2
   simp only [hgd, Bool.and_eq_true] at h2
   obtain ⟨e, he, he2⟩ := Array.any_eq_true'.1 h2.1
   rw [Bool.and_eq_true, beq_iff_eq] at he2
   have hLj := hde e he he2.2
   rw [he2.1] at hLj
   have h3 := h2.2
   cases hj : ops[j]? with
   | none => rw [hj] at h3; cases h3
   | some oj =>
    rw [hj] at h3
    simp only [Option.bind_some] at h3
    cases hjd : oj.dst with
    | none => rw [hjd] at h3; cases h3
    | some t =>
     rw [hjd] at h3
     obtain ⟨p, hp, hp2⟩ := List.any_eq_true.1 h3
     rw [Bool.and_eq_true, beq_iff_eq, beq_iff_eq] at hp2
     have h4 := hPV j t oj hj hjd hLj
     have h5 := hGv p hp (b j) V (by rw [hp2.1]; exact h4)
     have htl : t < a.tmps.size := by
      have h6 := List.all_eq_true.1 hgk p hp
      have h7 := List.all_eq_true.1 hsz p.1 (by simpa using h6)
      rw [hp2.1] at h7
      simpa using h7
     have h8 := hnew j oj t hj hjd hLj htl
     rw [h5, hp2.2, Array.getD_eq_getD_getElem?] at h8
     unfold yielded
     rw [hj]
     simp only [Option.bind_some, hjd]
     cases h9 : a'.tmps[t]? with
     | none => rw [h9] at h8; cases h8
     | some x =>
      rw [h9] at h8
      simp only [Option.getD_some] at h8
      rw [h8]
  obtain ⟨hdef, hab, hrun⟩ := hops i o a' V hIV ho hev hrd'
  have hnext : ∀ v V', I V' → St i V V' → (∀ t, o.dst = some t → Pd t v V') → (o.dst = none → Pn i V') → K (a'.put o.dst v) V' := by
   intro v V' hI' hB hP hN
   have hk := hK (fun j => if j = i then v else b j) V' (fun j hj => by
    rw [if_neg]
    rintro rfl
    rw [hnl] at hj; cases hj) ⟨hI', fun j t oj hj hjd hjL => by
     by_cases hji : j = i
     ·subst hji
      obtain rfl : o = oj := Option.some.inj (ho.symm.trans hj)
      simp only [if_true]
      exact hP t hjd
     ·rw [getD_set_ne L (fun h => hji h.symm)] at hjL
      simp only [if_neg hji]
      exact hmono i V V' hIV hI' hB t _ (hPV j t oj hj hjd hjL), fun j oj hj hjd hjL => by
     by_cases hji : j = i
     ·subst hji
      obtain rfl : o = oj := Option.some.inj (ho.symm.trans hj)
      exact hN hjd
     ·rw [getD_set_ne L (fun h => hji h.symm)] at hjL
      exact hmonon i V V' hIV hI' hB j hji (hNV j oj hj hjd hjL)⟩
   simpa using hk
  rcases hrun with ⟨v, V', hrun, hI', hB, hP, hN⟩ | ⟨f, args, hrun, hcall⟩
  ·rcases hrun with hrun | ⟨hrun, rfl⟩
   ·exact in_valueG ho hw hdef hab hrun (hnext v V' hI' hB hP hN)
   ·exact in_skipG ho hw hdef hab hrun (hnext undef V' hI' hB hP hN)
  ·refine in_callG ho hw hdef hF hab hrun (hcall.mono ?_)
   rintro e w' ⟨v, rfl, hI', hB, hP, hN⟩
   exact ⟨v, rfl, hnext v w' hI' hB hP hN⟩
 ·rintro b L V ⟨hIV, hPV, hNV⟩ hL
  exact hend b V hIV (fun i t o hi hid => hPV i t o hi hid (hL i (Array.getElem?_eq_some_iff.1 hi).1)) fun i o hi hid => hNV i o hi hid (hL i (Array.getElem?_eq_some_iff.1 hi).1)
end Go.Proofs.YtbejcollbkeedaaGreat
namespace Go.Proofs.YtbejcollbkeedaaGreat
open Go.RowKit Cw
theorem has_on {c : Int} {D : Crv} (hc : crvOf c = some D) (P : Option (Nat × Nat)) : hasN D.p D.b P ↔ onP D P := by
 obtain ⟨hne, ⟨C⟩⟩ := crv_cv hc
 obtain ⟨-, h8, -, hb, -⟩ := crv_lims hc
 rw [has_iff (by omega) hb, on_iff hb]
theorem hasN.inp {c : Int} {D : Crv} (hc : crvOf c = some D) {P : Option (Nat × Nat)} (h : hasN D.p D.b P) : Inp D.p P := by
 rcases P with _ | ⟨x, y⟩
 ·trivial
 ·exact ⟨h.1, h.2.1⟩
theorem rFrom9_pg (w : World) (v : Value) (P : Option (Nat × Nat)) (h : Pg w v P) : Calls Tryz.prog 11 #[v] w fun e w' => ∃ v', e = .returned v' ∧ Rp w' v' P ∧ Below w.heap.size w w' := by
 rcases P with _ | ⟨x, y⟩
 ·obtain ⟨a, b, rfl, -, -⟩ := h
  exact rFrom9_inf w a b
 ·obtain ⟨a, b, rfl, h1, h2⟩ := h
  refine (rFrom9_gen w a b (.nb x) (.nb y) (.num h1) (.num h2)).mono ?_
  rintro e w' ⟨v', rfl, ⟨a', b', rfl, h3, h4⟩, h5⟩
  exact ⟨_, rfl, ⟨_, _, rfl, h3.1, h4.1⟩, h5⟩
theorem on9_yes (w : World) (c : Int) (D : Crv) (hc : crvOf c = some D) (vc v : Value) (P : Option (Nat × Nat)) (h1 : Cr w vc D) (h2 : Rp w v P) :
  Calls Tryz.prog 15 #[vc, v] w fun e w' => e = .returned (.bool (decide (hasN D.p D.b P))) ∧ Below w.heap.size w w' := by
 obtain ⟨hbp, -, -, hbl, -, -, -, -, -, hsz⟩ := crv_lims hc
 refine (rOn9_any w vc v D h1 hbp hbl hsz P h2).mono ?_
 rintro e w' ⟨rfl, hb⟩
 refine ⟨?_, hb⟩
 rw [decide_eq_decide.2 (has_on hc P)]
theorem Rp.three {w : World} {v : Value} {P : Option (Nat × Nat)} (h : Rp w v P) : ∃ t A n c A' n' c', v = .agg #[.bool t, .slice A n c, .slice A' n' c'] := by
 rcases P with _ | ⟨x, y⟩
 ·obtain ⟨a, b, rfl, h1, h2⟩ := h
  obtain ⟨A, n, c, rfl⟩ := h1.sl
  obtain ⟨A', n', c', rfl⟩ := h2.sl
  exact ⟨_, _, _, _, _, _, _, rfl⟩
 ·obtain ⟨a, b, rfl, h1, h2⟩ := h
  obtain ⟨A, n, c, rfl⟩ := h1.sl
  obtain ⟨A', n', c', rfl⟩ := h2.sl
  exact ⟨_, _, _, _, _, _, _, rfl⟩
theorem Pt.three' {w : World} {v : Value} {P : Option (Nat × Nat)} (h : Pt w v P) : ∃ t A n c A' n' c', v = .agg #[.bool t, .slice A n c, .slice A' n' c'] := by
 rcases P with _ | ⟨x, y⟩
 ·obtain ⟨a, b, rfl, h1, h2⟩ := h
  obtain ⟨A, n, c, rfl⟩ := h1.sl
  obtain ⟨A', n', c', rfl⟩ := h2.sl
  exact ⟨_, _, _, _, _, _, _, rfl⟩
 ·obtain ⟨a, b, rfl, h1, h2⟩ := h
  obtain ⟨A, n, c, rfl⟩ := h1.sl
  obtain ⟨A', n', c', rfl⟩ := h2.sl
  exact ⟨_, _, _, _, _, _, _, rfl⟩
theorem CutS.sb {V V' : World} {v : Value} {xs : List Nat} (h : CutS V v xs) (hb : Sb V V') : CutS V' v xs := by
 obtain ⟨A, n, c, e, hs⟩ := h
 exact ⟨A, n, c, e, hs.sb hb⟩
theorem radd_is (w : World) (c : Int) (D : Crv) (hc : crvOf c = some D) (vc vu vv : Value) (hcr : Cr w vc D) (P Q R : Option (Nat × Nat)) (hu : Rp w vu P) (hv : Rp w vv Q) (h1 : hasN D.p D.b P) (h2 : hasN D.p D.b Q) (hi : Inp D.p R)
  (hl : ∀ (_ : NeZero D.p) (C : Cv (Fin D.p) (zp D.p D.b)), lfp D.p R = C.ad (lfp D.p P) (lfp D.p Q)) :
  Calls Tryz.prog 18 #[vc, vu, vv] w fun e w' => ∃ v, e = .returned v ∧ Rp w' v R ∧ Below w.heap.size w w' := by
 obtain ⟨hne, ⟨C⟩⟩ := crv_cv hc
 obtain ⟨hbp, h8, hp6, hbl, hgx, hgy, hpr, -⟩ := crv_lims hc
 have h3 := hl hne C
 have i1 := hasN.inp hc h1
 have i2 := hasN.inp hc h2
 rcases P with _ | ⟨x1, y1⟩
 ·obtain rfl : R = Q := lfp_inj hi i2 (h3.trans (C.zero_ad _))
  obtain ⟨a, b, rfl, -, -⟩ := hu
  obtain ⟨t, A, n, c', A', n', c'', rfl⟩ := hv.three
  refine (rAdd9_left w vc D hcr a b t A A' n c' n' c'').mono ?_
  rintro e w' ⟨rfl, hb⟩
  exact ⟨_, rfl, hv.later hb, hb⟩
 ·obtain ⟨a, b, rfl, ka, kb⟩ := hu
  obtain ⟨A, n, c', rfl⟩ := ka.sl
  obtain ⟨A', n', c'', rfl, hn'⟩ := kb.zlen
  rcases Q with _ | ⟨x2, y2⟩
  ·obtain rfl : R = some (x1, y1) := lfp_inj hi i1 (h3.trans (C.ad_zero _))
   obtain ⟨a, b, rfl, -, -⟩ := hv
   refine (rAdd9_right w vc D hcr a b A A' n c' n' c'').mono ?_
   rintro e w' ⟨rfl, hb⟩
   exact ⟨_, rfl, ⟨_, _, rfl, ka.later hb, kb.later hb⟩, hb⟩
  ·obtain ⟨qx, qy, rfl, kqx, kqy⟩ := hv
   have o1 := ((has_iff (by omega) hbl _).1 h1).2
   have o2 := ((has_iff (by omega) hbl _).1 h2).2
   by_cases hx : x1 = x2
   ·by_cases hy : y1 = y2
    ·subst hx hy
     have hy0 : zp D.p y1 ≠ 0 := C.y_ne o1
     have hy1 : y1 ≠ 0 := by
      rintro rfl
      exact hy0 zp_0
     have hd : mulP D.p 2 y1 ≠ 0 := by
      intro h
      have h4 := zp_mulP (p := D.p) 2 y1
      rw [h, zp_0, zp_2] at h4
      exact C.mul_ne C.two hy0 h4.symm
     refine (rAdd9_dbl w vc D hcr hbp _ qx qy A' n' c'' x1 y1 x1 y1 ka kb kqx kqy i1.1 i1.2 i1.1 i1.2 rfl rfl (fun h => hy1 (hn'.1 (by omega))) (cop_lt hpr (Nat.mod_lt _ (by omega)) hd)).mono ?_
     rintro e w' ⟨v, S, rfl, hS, hi', hr, hb⟩
     obtain ⟨j1, j2⟩ := adD_lf C (by omega) i1 hy0 hi'
     obtain rfl := lfp_inj hi j1 (h3.trans j2.symm)
     exact ⟨v, rfl, hr, hb⟩
    ·have hzy : zp D.p y1 ≠ zp D.p y2 := fun h => hy (zp_inj i1.2 i2.2 h)
     obtain rfl : R = none := by
      refine lfp_inj hi trivial (h3.trans ?_)
      subst hx
      simp only [lfp, Cv.ad, if_true, if_neg hzy]
     exact rAdd9_opp w vc D hcr hbp _ qx qy A' n' c'' x1 y1 x2 y2 ka kb kqx kqy i1.1 i1.2 i2.1 i2.2 hx hy
   ·have hd : subP D.p x2 x1 ≠ 0 := by
     intro h
     have h4 := zp_subP (p := D.p) (a := x2) (b := x1) (le_ap i1.1)
     rw [h, zp_0] at h4
     refine hx (zp_inj i1.1 i2.1 ?_)
     generalize zp D.p x1 = u at *
     generalize zp D.p x2 = v at *
     grind
    refine (rAdd9_chord w vc D hcr hbp _ qx qy A' n' c'' x1 y1 x2 y2 ka kb kqx kqy i1.1 i1.2 i2.1 i2.2 hx (cop_lt hpr (Nat.mod_lt _ (by omega)) hd)).mono ?_
    rintro e w' ⟨v, S, rfl, hS, hi', hr, hb⟩
    obtain ⟨j1, j2⟩ := adR_lf C (by omega) i1 i2 hx hi'
    obtain rfl := lfp_inj hi j1 (h3.trans j2.symm)
    exact ⟨v, rfl, hr, hb⟩
end Go.Proofs.YtbejcollbkeedaaGreat
namespace Go.Proofs.YtbejcollbkeedaaGreat
open Go.RowKit
theorem Pg.form {w : World} {v : Value} {P : Option (Nat × Nat)} (h : Pg w v P) : ∃ t b d, v = .agg #[.bool t, b, d] ∧ b.oneCell' = true ∧ d.oneCell' = true := by
 rcases P with _ | ⟨x, y⟩
 ·obtain ⟨a, b, rfl, h1, h2⟩ := h
  exact ⟨_, _, _, rfl, h1, h2⟩
 ·obtain ⟨a, b, rfl, ⟨xs, A, n, c, rfl, _⟩, ys, A', n', c', rfl, _⟩ := h
  exact ⟨_, _, _, rfl, rfl, rfl⟩
theorem agg3 {vs : List Value} {a b d : Value} (h : Value.agg vs.toArray = .agg #[a, b, d]) : vs = [a, b, d] := by
 injection h with h
 have := congrArg Array.toList h
 simpa using this
end Go.Proofs.YtbejcollbkeedaaGreat
namespace Go.Proofs.YtbejcollbkeedaaGreat
open Go.RowKit Go.Shelf
structure TwoBl (b : Nat) (r : Loop) (W : World) : Prop where
 lrec : W.heap[b + 1]? = some (.loop r)
 dfr : W.heap[b]? = some (.deferred (some []))
theorem TwoBl.grown {b : Nat} {r : Loop} {W W' : World} {row : Option Nat} (h : TwoBl b r W) (hg : W.grownBy W' row) (hr : ∀ k, row = some k → ∃ o : Obj, W.heap[k]? = some o ∧ o.isWalk = true) : TwoBl b r W' := by
 have go : ∀ (k : Nat) (o : Obj), W.heap[k]? = some o → o.isWalk = false → W'.heap[k]? = some o := fun k o hk ho => by
  refine (hg.block k (Array.getElem?_eq_some_iff.1 hk).1 fun e => ?_).trans hk
  obtain ⟨o2, h2, hw⟩ := hr k e.symm
  rw [hk] at h2
  cases h2
  rw [ho] at hw
  cases hw
 exact ⟨go _ _ h.lrec rfl, go _ _ h.dfr rfl⟩
theorem TwoBl.put {b : Nat} {r : Loop} {W : World} (h : TwoBl b r W) (r' : Loop) : TwoBl b r' (W.putObj (b + 1) (.loop r')) :=
 ⟨World.putObj_heap_same (Array.getElem?_eq_some_iff.1 h.lrec).1, (World.putObj_heap_other (by omega)).trans h.dfr⟩
theorem TwoBl.kept {b : Nat} {r : Loop} {W W' : World} (h : TwoBl b r W) (hk : KeepsFrom b W W') : TwoBl b r W' :=
 ⟨hk.same _ _ (Nat.le_succ _) h.lrec rfl, hk.same _ _ (Nat.le_refl _) h.dfr rfl⟩
variable {F : Fence} {n : Nat} {P : Program}
end Go.Proofs.YtbejcollbkeedaaGreat
