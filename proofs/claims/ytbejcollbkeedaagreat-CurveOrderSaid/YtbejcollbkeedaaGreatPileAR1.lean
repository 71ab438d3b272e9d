/- Parts of one proof, joined: CvB, CvC, CvD, CvE, CvF, CuM, CwA, CwB, CwC, CwD, WCv, WCx, WCy. -/
import Derived.Test.YtbejcollbkeedaaGreatPileA15
set_option linter.unusedVariables false
set_option linter.unusedSimpArgs false
set_option linter.unusedSectionVars false
set_option maxRecDepth 100000
set_option maxHeartbeats 8000000
open Go.Lib (hid)
namespace Go.Proofs.YtbejcollbkeedaaGreat.Cw
open Lean.Grind
section
variable {K : Type} [CommRing K] {b : K} (C : Cv K b)
include C
omit C
include C
theorem Cv.ad_on {P Q : Option (K × K)} (hP : onC b P) (hQ : onC b Q) : onC b (C.ad P Q) := by
 rcases P with _ | ⟨x1, y1⟩
 ·exact hQ
 rcases Q with _ | ⟨x2, y2⟩
 ·exact hP
 simp only [onC] at hP hQ
 by_cases hx : x1 = x2
 ·subst hx
  by_cases hy : y1 = y2
  ·subst hy
   obtain ⟨x3, y3, e, h, -⟩ := C.tangent hP
   rw [e]; exact h
  ·simp only [ad, if_true, if_neg hy]; trivial
 ·obtain ⟨x3, y3, e, h, -⟩ := C.chord hP hQ hx
  rw [e]; exact h
theorem Cv.same {P Q : Option (K × K)} {S T : K × K × K} (hS : Stands S P) (hT : Stands T Q)
  (h1 : S.1 * T.2.2 = T.1 * S.2.2) (h2 : S.2.1 * T.2.2 = T.2.1 * S.2.2) : P = Q := by
 obtain ⟨a, b, c⟩ := S
 obtain ⟨d, e, f⟩ := T
 rcases P with _ | ⟨x, y⟩ <;> rcases Q with _ | ⟨x', y'⟩
 ·rfl
 ·obtain ⟨p1, p2, p3⟩ := hS
  obtain ⟨q1, q2, q3⟩ := hT
  simp only at *
  exact absurd (by grind) (C.mul_ne p2 q1)
 ·obtain ⟨p1, p2, p3⟩ := hS
  obtain ⟨q1, q2, q3⟩ := hT
  simp only at *
  exact absurd (by grind) (C.mul_ne q2 p1)
 ·obtain ⟨p1, p2, p3⟩ := hS
  obtain ⟨q1, q2, q3⟩ := hT
  simp only at *
  have hm := C.mul_ne p1 q1
  have e1 : x = x' := C.cancel hm (by grind)
  have e2 : y = y' := C.cancel hm (by grind)
  rw [e1, e2]
theorem Cv.ad_none {P Q : Option (K × K)} (hP : onC b P) (hQ : onC b Q) (h : C.ad P Q = none) : Q = ng P := by
 rcases P with _ | ⟨x1, y1⟩
 ·exact h
 rcases Q with _ | ⟨x2, y2⟩
 ·rw [C.ad_zero] at h; cases h
 simp only [onC] at hP hQ
 by_cases hx : x1 = x2
 ·subst hx
  rcases C.opp_of hP hQ with hy | hy
  ·subst hy
   obtain ⟨x3, y3, e, -⟩ := C.tangent hP
   rw [e] at h; cases h
  ·rw [hy]; rfl
 ·obtain ⟨x3, y3, e, -⟩ := C.chord hP hQ hx
  rw [e] at h; cases h
omit C
noncomputable def Cv.mg (C : Cv K b) (G : Option (K × K)) : Nat → Option (K × K)
 | 0 => none
 | k + 1 => C.ad (C.mg G k) G
include C
theorem Cv.mg_on {G : Option (K × K)} (hG : onC b G) : ∀ k, onC b (C.mg G k)
 | 0 => trivial
 | k + 1 => C.ad_on (Cv.mg_on hG k) hG
theorem Cv.mg_one (G : Option (K × K)) : C.mg G 1 = G := rfl
def Cv.Assoc (C : Cv K b) (G : Option (K × K)) : Prop := ∀ A B, onC b A → onC b B → C.ad (C.ad A B) G = C.ad A (C.ad B G)
theorem Cv.mg_add {G : Option (K × K)} (hG : onC b G) (ha : C.Assoc G) (i : Nat) : ∀ j, C.ad (C.mg G i) (C.mg G j) = C.mg G (i + j)
 | 0 => C.ad_zero _
 | j + 1 => by
  show C.ad (C.mg G i) (C.ad (C.mg G j) G) = C.ad (C.mg G (i + j)) G
  rw [← ha _ _ (C.mg_on hG i) (C.mg_on hG j), Cv.mg_add hG ha i j]
theorem Cv.mg_order {G : Option (K × K)} (hG : onC b G) (ha : C.Assoc G) {n : Nat} (hn : C.mg G n = none) (q r : Nat) : C.mg G (n * q + r) = C.mg G r := by
 induction q with
 | zero => rw [Nat.mul_zero, Nat.zero_add]
 | succ q ih =>
  rw [show n * (q + 1) + r = n + (n * q + r) from by grind, ← C.mg_add hG ha, hn, C.zero_ad, ih]
theorem Cv.mg_mod {G : Option (K × K)} (hG : onC b G) (ha : C.Assoc G) {n : Nat} (hn : C.mg G n = none) (k : Nat) : C.mg G (k % n) = C.mg G k := by
 have h := C.mg_order hG ha hn (k / n) (k % n)
 rw [Nat.div_add_mod] at h
 exact h.symm
theorem Cv.mg_neg {G : Option (K × K)} (hG : onC b G) (ha : C.Assoc G) {n : Nat} (hn0 : 0 < n) (hn : C.mg G n = none) (k : Nat) : ng (C.mg G k) = C.mg G (n - k % n) := by
 symm
 refine C.ad_none (C.mg_on hG _) (C.mg_on hG _) ?_
 rw [← C.mg_mod hG ha hn k, C.mg_add hG ha, show k % n + (n - k % n) = n from by have := Nat.mod_lt k hn0; omega, hn]
theorem Cv.mg_mul {G : Option (K × K)} (hG : onC b G) (ha : C.Assoc G) (m : Nat) : ∀ k, C.mg (C.mg G m) k = C.mg G (k * m)
 | 0 => by rw [Nat.zero_mul]; rfl
 | k + 1 => by
  show C.ad (C.mg (C.mg G m) k) (C.mg G m) = _
  rw [Cv.mg_mul hG ha m k, C.mg_add hG ha, Nat.succ_mul]
end
end Go.Proofs.YtbejcollbkeedaaGreat.Cw
namespace Go.Proofs.YtbejcollbkeedaaGreat.Cw
open Lean.Grind
section
variable {K : Type} [CommRing K] {C : Type} {O : Ops C}
def quadE (E : Ev O K) (y : K) (f : C) (h : y * y = E.ev f) : Ev (quadO O f) K where
 ev u := E.ev u.1 + E.ev u.2 * y
 zero := by simp only [quadO, E.zero]; grind
 one := by simp only [quadO, E.zero, E.one]; grind
 add u v := by simp only [quadO, E.add]; grind
 neg u := by simp only [quadO, E.neg]; grind
 mul u v := by simp only [quadO, E.add, E.mul, ← h]; grind
end
section
variable {C : Type} {O : Ops C}
theorem nl_mem (N : Nm O) : ∀ (p : List C) c, c ∈ p → N.f c ≤ nl N p
 | [], c, h => by cases h
 | a :: p, c, h => by
  simp only [nl]
  rcases List.mem_cons.1 h with h | h
  ·subst h; omega
  ·have := nl_mem N p c h; omega
theorem pev_zero (E : Ev O Int) (X : Nat) : ∀ p : List C, 2 * nl E.nm p < X → pev E (X : Int) p = 0 → ∀ c ∈ p, E.ev c = 0
 | [], _, _, c, h => by cases h
 | a :: p, hn, hz, c, hc => by
  have e : nl E.nm (a :: p) = (E.ev a).natAbs + nl E.nm p := rfl
  have e2 : E.ev a + (X : Int) * pev E (X : Int) p = 0 := hz
  rw [e] at hn
  have h0 : E.ev a = 0 := by
   have hd : (X : Int) ∣ E.ev a := ⟨-(pev E (X : Int) p), by grind⟩
   have := Int.natAbs_dvd_natAbs.2 hd
   rw [Int.natAbs_natCast] at this
   rcases Nat.eq_zero_or_pos (E.ev a).natAbs with h | h
   ·exact Int.natAbs_eq_zero.1 h
   ·have := Nat.le_of_dvd h this
    omega
  rw [h0, Int.zero_add] at e2
  have h1 : pev E (X : Int) p = 0 := by
   rcases Int.mul_eq_zero.1 e2 with h | h
   ·omega
   ·exact h
  rcases List.mem_cons.1 hc with h | h
  ·rw [h]; exact h0
  ·exact pev_zero E X p (by omega) h1 c h
structure Zr {C : Type} (O : Ops C) (E : Ev O Int) (K : Type) [CommRing K] (F : Ev O K) where
 good : C → Prop
 zr : ∀ c, good c → E.ev c = 0 → F.ev c = 0
theorem pev_all {K : Type} [CommRing K] (F : Ev O K) (x : K) : ∀ p : List C, (∀ c ∈ p, F.ev c = 0) → pev F x p = 0
 | [], _ => rfl
 | a :: p, h => by
  rw [pev, h a (List.mem_cons_self), pev_all F x p fun c hc => h c (List.mem_cons_of_mem _ hc)]
  grind
def Zr.list {K : Type} [CommRing K] {E : Ev O Int} {F : Ev O K} (Z : Zr O E K F) (X : Nat) (x : K) : Zr (polyO O) (polyE E (X : Int)) K (polyE F x) where
 good p := (∀ c ∈ p, Z.good c) ∧ 2 * nl E.nm p < X
 zr p h hz := pev_all F x p fun c hc => Z.zr c (h.1 c hc) (pev_zero E X p h.2 hz c hc)
end
def Rl.quad {C D : Type} {O : Ops C} {P : Ops D} (R : Rl O P) (f : C) (g : D) (h : R.r f g) : Rl (quadO O f) (quadO P g) where
 r x u := R.r x.1 u.1 ∧ R.r x.2 u.2
 zero := ⟨R.zero, R.zero⟩
 one := ⟨R.one, R.zero⟩
 add _ _ _ _ h1 h2 := ⟨R.add _ _ _ _ h1.1 h2.1, R.add _ _ _ _ h1.2 h2.2⟩
 neg _ _ h1 := ⟨R.neg _ _ h1.1, R.neg _ _ h1.2⟩
 mul _ _ _ _ h1 h2 := ⟨R.add _ _ _ _ (R.mul _ _ _ _ h1.1 h2.1) (R.mul _ _ _ _ h (R.mul _ _ _ _ h1.2 h2.2)), R.add _ _ _ _ (R.mul _ _ _ _ h1.1 h2.2) (R.mul _ _ _ _ h1.2 h2.1)⟩
def rcbO {C : Type} (O : Ops C) (b : C) (P Q : C × C × C) : C × C × C :=
 let xx := O.mul P.1 Q.1
 let yy := O.mul P.2.1 Q.2.1
 let zz := O.mul P.2.2 Q.2.2
 let xy := O.add (O.mul P.1 Q.2.1) (O.mul P.2.1 Q.1)
 let xz := O.add (O.mul P.1 Q.2.2) (O.mul P.2.2 Q.1)
 let yz := O.add (O.mul P.2.1 Q.2.2) (O.mul P.2.2 Q.2.1)
 let d1 := O.add xz (O.neg (O.mul b zz))
 let s := O.add (O.add d1 d1) d1
 let d2 := O.add xx (O.neg zz)
 let t := O.add (O.add d2 d2) d2
 let d3 := O.add (O.add (O.mul b xz) (O.neg xx)) (O.neg (O.add (O.add zz zz) zz))
 let u := O.add (O.add d3 d3) d3
 (O.add (O.mul xy (O.add yy s)) (O.neg (O.mul yz u)), O.add (O.mul t u) (O.mul (O.add yy (O.neg s)) (O.add yy s)), O.add (O.mul yz (O.add yy (O.neg s))) (O.mul xy t))
def ev3 {C : Type} {O : Ops C} {K : Type} [CommRing K] (E : Ev O K) (P : C × C × C) : K × K × K := (E.ev P.1, E.ev P.2.1, E.ev P.2.2)
theorem rcbO_ev {C : Type} {O : Ops C} {K : Type} [CommRing K] (E : Ev O K) (b : C) (P Q : C × C × C) : ev3 E (rcbO O b P Q) = rcb (E.ev b) (ev3 E P) (ev3 E Q) := by
 simp only [ev3, rcbO, rcb, E.add, E.mul, E.neg, Prod.mk.injEq]
 generalize E.ev P.1 = a1
 generalize E.ev P.2.1 = a2
 generalize E.ev P.2.2 = a3
 generalize E.ev Q.1 = b1
 generalize E.ev Q.2.1 = b2
 generalize E.ev Q.2.2 = b3
 generalize E.ev b = bb
 refine ⟨?_, ?_, ?_⟩ <;> grind
def Rl.r3 {C D : Type} {O : Ops C} {P : Ops D} (R : Rl O P) (S : C × C × C) (T : D × D × D) : Prop := R.r S.1 T.1 ∧ R.r S.2.1 T.2.1 ∧ R.r S.2.2 T.2.2
theorem rcbO_rl {C D : Type} {O : Ops C} {P : Ops D} (R : Rl O P) {b : C} {b' : D} (hb : R.r b b') {S1 S2 : C × C × C} {T1 T2 : D × D × D} (h1 : R.r3 S1 T1) (h2 : R.r3 S2 T2) :
  R.r3 (rcbO O b S1 S2) (rcbO P b' T1 T2) := by
 obtain ⟨a1, a2, a3⟩ := h1
 obtain ⟨c1, c2, c3⟩ := h2
 have A := @R.add
 have M := @R.mul
 have N := @R.neg
 simp only [rcbO]
 have xx := M _ _ _ _ a1 c1
 have yy := M _ _ _ _ a2 c2
 have zz := M _ _ _ _ a3 c3
 have xy := A _ _ _ _ (M _ _ _ _ a1 c2) (M _ _ _ _ a2 c1)
 have xz := A _ _ _ _ (M _ _ _ _ a1 c3) (M _ _ _ _ a3 c1)
 have yz := A _ _ _ _ (M _ _ _ _ a2 c3) (M _ _ _ _ a3 c2)
 have d1 := A _ _ _ _ xz (N _ _ (M _ _ _ _ hb zz))
 have s := A _ _ _ _ (A _ _ _ _ d1 d1) d1
 have d2 := A _ _ _ _ xx (N _ _ zz)
 have t := A _ _ _ _ (A _ _ _ _ d2 d2) d2
 have d3 := A _ _ _ _ (A _ _ _ _ (M _ _ _ _ hb xz) (N _ _ xx)) (N _ _ (A _ _ _ _ (A _ _ _ _ zz zz) zz))
 have u := A _ _ _ _ (A _ _ _ _ d3 d3) d3
 exact ⟨A _ _ _ _ (M _ _ _ _ xy (A _ _ _ _ yy s)) (N _ _ (M _ _ _ _ yz u)), A _ _ _ _ (M _ _ _ _ t u) (M _ _ _ _ (A _ _ _ _ yy (N _ _ s)) (A _ _ _ _ yy s)), A _ _ _ _ (M _ _ _ _ yz (A _ _ _ _ yy (N _ _ s))) (M _ _ _ _ xy t)⟩
end Go.Proofs.YtbejcollbkeedaaGreat.Cw
namespace Go.Proofs.YtbejcollbkeedaaGreat.Cw
open Lean.Grind
def zr0 (K : Type) [CommRing K] : Zr intO intE K (intK K) where
 good _ := True
 zr c _ h := by
  have h : c = 0 := h
  subst h
  exact Ring.intCast_zero (α := K)
section
variable (W0 W1 W2 W3 : Nat)
def tz (t : Tv) : Bool := t.v == 0 && decide (2 * t.n1 < W0) && decide (2 * t.n2 < W1) && decide (2 * t.n3 < W2) && decide (2 * t.n4 < W3)
variable {K : Type} [CommRing K] (k0 k1 k2 k3 : K)
def zr4 : Zr q4 (e4 W0 W1 W2 W3) K (f4 k0 k1 k2 k3) := ((((zr0 K).list W0 k0).list W1 k1).list W2 k2).list W3 k3
theorem tz_zero {p : Q4} {t : Tv} (h : (tR W0 W1 W2 W3).r p t) (hz : tz W0 W1 W2 W3 t = true) : (f4 k0 k1 k2 k3).ev p = 0 := by
 obtain ⟨a1, a2, a3, a4, a5⟩ := h
 simp only [tz, Bool.and_eq_true, decide_eq_true_eq, beq_iff_eq] at hz
 obtain ⟨⟨⟨⟨b1, b2⟩, b3⟩, b4⟩, b5⟩ := hz
 refine (zr4 W0 W1 W2 W3 k0 k1 k2 k3).zr p ?_ (by rw [a1, b1])
 refine ⟨fun c hc => ?_, by show 2 * (m4 W0 W1 W2).f p < W3; omega⟩
 have h3 := nl_mem (e2 W0 W1).nm.list p c hc
 have h3' : nl (e2 W0 W1).nm.list p = (m3 W0 W1).f p := rfl
 have h2 := nl_mem (e1 W0).nm.list.list p c hc
 have h2' : nl (e1 W0).nm.list.list p = (m2 W0).f p := rfl
 have h1 := nl_mem intE.nm.list.list.list p c hc
 have h1' : nl intE.nm.list.list.list p = m1.f p := rfl
 refine ⟨fun d hd => ?_, by
  show 2 * (e2 W0 W1).nm.list.f c < W2
  omega⟩
 have g2 := nl_mem (e1 W0).nm.list c d hd
 have g2' : nl (e1 W0).nm.list c = (e1 W0).nm.list.list.f c := rfl
 have g1 := nl_mem intE.nm.list.list c d hd
 have g1' : nl intE.nm.list.list c = intE.nm.list.list.list.f c := rfl
 refine ⟨fun a ha => ?_, by
  show 2 * (e1 W0).nm.list.f d < W1
  omega⟩
 have j1 := nl_mem intE.nm.list d a ha
 have j1' : nl intE.nm.list d = intE.nm.list.list.f d := rfl
 refine ⟨fun _ _ => trivial, ?_⟩
 show 2 * intE.nm.list.f a < W0
 omega
end
end Go.Proofs.YtbejcollbkeedaaGreat.Cw
namespace Go.Proofs.YtbejcollbkeedaaGreat.Cw
open Lean.Grind
section
variable (W0 W1 W2 W3 : Nat)
def px1 : Q4 := [[[[], [1]]]]
def px3 : Q4 := [[[], [[1]]]]
def px2 : Q4 := [[], [[[1]]]]
def tx1 : Tv := ⟨W1, 1, 1, W1, W1⟩
def tx3 : Tv := ⟨W2, 1, 1, 1, W2⟩
def tx2 : Tv := ⟨W3, 1, 1, 1, 1⟩
theorem rx1 : (tR W0 W1 W2 W3).r px1 (tx1 W1) := by
 refine ⟨?_, ?_, ?_, ?_, ?_⟩ <;> simp [px1, tx1, e4, e3, e2, e1, polyE, pev, intE, m1, m2, m3, m4, Nm.list, nl, Ev.nm]
theorem rx3 : (tR W0 W1 W2 W3).r px3 (tx3 W2) := by
 refine ⟨?_, ?_, ?_, ?_, ?_⟩ <;> simp [px3, tx3, e4, e3, e2, e1, polyE, pev, intE, m1, m2, m3, m4, Nm.list, nl, Ev.nm]
theorem rx2 : (tR W0 W1 W2 W3).r px2 (tx2 W3) := by
 refine ⟨?_, ?_, ?_, ?_, ?_⟩ <;> simp [px2, tx2, e4, e3, e2, e1, polyE, pev, intE, m1, m2, m3, m4, Nm.list, nl, Ev.nm]
end
theorem cubO_rl {C D : Type} {O : Ops C} {P : Ops D} (R : Rl O P) {b x : C} {b' x' : D} (hb : R.r b b') (hx : R.r x x') : R.r (cubO O b x) (cubO P b' x') :=
 R.add _ _ _ _ (R.add _ _ _ _ (R.mul _ _ _ _ (R.mul _ _ _ _ hx hx) hx) (R.neg _ _ (R.add _ _ _ _ (R.add _ _ _ _ hx hx) hx))) hb
theorem cubO_ev {C : Type} {O : Ops C} {K : Type} [CommRing K] (E : Ev O K) (b x : C) : E.ev (cubO O b x) = E.ev x * E.ev x * E.ev x - 3 * E.ev x + E.ev b := by
 simp only [cubO, E.add, E.mul, E.neg]
 grind
section
variable {C : Type} (O : Ops C) (b x1 x2 x3 : C)
def up3 (c : C) : C8 C := (((c, O.zero), (O.zero, O.zero)), ((O.zero, O.zero), (O.zero, O.zero)))
def vy1 : C8 C := (((O.zero, O.one), (O.zero, O.zero)), ((O.zero, O.zero), (O.zero, O.zero)))
def vy2 : C8 C := (((O.zero, O.zero), (O.one, O.zero)), ((O.zero, O.zero), (O.zero, O.zero)))
def vy3 : C8 C := (((O.zero, O.zero), (O.zero, O.zero)), ((O.one, O.zero), (O.zero, O.zero)))
def lhsO : C8 C × C8 C × C8 C :=
 rcbO (w3 O b x1 x2 x3) (up3 O b) (rcbO (w3 O b x1 x2 x3) (up3 O b) (up3 O x1, vy1 O, up3 O O.one) (up3 O x2, vy2 O, up3 O O.one)) (up3 O x3, vy3 O, up3 O O.one)
def rhsO : C8 C × C8 C × C8 C :=
 rcbO (w3 O b x1 x2 x3) (up3 O b) (up3 O x1, vy1 O, up3 O O.one) (rcbO (w3 O b x1 x2 x3) (up3 O b) (up3 O x2, vy2 O, up3 O O.one) (up3 O x3, vy3 O, up3 O O.one))
def crossX (S T : C8 C × C8 C × C8 C) : C8 C := (w3 O b x1 x2 x3).add ((w3 O b x1 x2 x3).mul S.1 T.2.2) ((w3 O b x1 x2 x3).neg ((w3 O b x1 x2 x3).mul T.1 S.2.2))
def crossY (S T : C8 C × C8 C × C8 C) : C8 C := (w3 O b x1 x2 x3).add ((w3 O b x1 x2 x3).mul S.2.1 T.2.2) ((w3 O b x1 x2 x3).neg ((w3 O b x1 x2 x3).mul T.2.1 S.2.2))
def all8 (z : C → Bool) (c : C8 C) : Bool :=
 z c.1.1.1 && z c.1.1.2 && z c.1.2.1 && z c.1.2.2 && z c.2.1.1 && z c.2.1.2 && z c.2.2.1 && z c.2.2.2
end
section
variable {C D : Type} {O : Ops C} {P : Ops D} (R : Rl O P) {b x1 x2 x3 : C} {b' x1' x2' x3' : D}
 (hb : R.r b b') (h1 : R.r x1 x1') (h2 : R.r x2 x2') (h3 : R.r x3 x3')
def w3R : Rl (w3 O b x1 x2 x3) (w3 P b' x1' x2' x3') :=
 ((R.quad _ _ (cubO_rl R hb h1)).quad _ _ ⟨cubO_rl R hb h2, R.zero⟩).quad _ _ ⟨⟨cubO_rl R hb h3, R.zero⟩, ⟨R.zero, R.zero⟩⟩
theorem up3_rl {c : C} {d : D} (h : R.r c d) : (w3R R hb h1 h2 h3).r (up3 O c) (up3 P d) := ⟨⟨⟨h, R.zero⟩, ⟨R.zero, R.zero⟩⟩, ⟨⟨R.zero, R.zero⟩, ⟨R.zero, R.zero⟩⟩⟩
theorem vy1_rl : (w3R R hb h1 h2 h3).r (vy1 O) (vy1 P) := ⟨⟨⟨R.zero, R.one⟩, ⟨R.zero, R.zero⟩⟩, ⟨⟨R.zero, R.zero⟩, ⟨R.zero, R.zero⟩⟩⟩
theorem vy2_rl : (w3R R hb h1 h2 h3).r (vy2 O) (vy2 P) := ⟨⟨⟨R.zero, R.zero⟩, ⟨R.one, R.zero⟩⟩, ⟨⟨R.zero, R.zero⟩, ⟨R.zero, R.zero⟩⟩⟩
theorem vy3_rl : (w3R R hb h1 h2 h3).r (vy3 O) (vy3 P) := ⟨⟨⟨R.zero, R.zero⟩, ⟨R.zero, R.zero⟩⟩, ⟨⟨R.one, R.zero⟩, ⟨R.zero, R.zero⟩⟩⟩
theorem lhs_rl : (w3R R hb h1 h2 h3).r3 (lhsO O b x1 x2 x3) (lhsO P b' x1' x2' x3') :=
 rcbO_rl _ (up3_rl R hb h1 h2 h3 hb) (rcbO_rl _ (up3_rl R hb h1 h2 h3 hb) ⟨up3_rl R hb h1 h2 h3 h1, vy1_rl R hb h1 h2 h3, up3_rl R hb h1 h2 h3 R.one⟩ ⟨up3_rl R hb h1 h2 h3 h2, vy2_rl R hb h1 h2 h3, up3_rl R hb h1 h2 h3 R.one⟩)
  ⟨up3_rl R hb h1 h2 h3 h3, vy3_rl R hb h1 h2 h3, up3_rl R hb h1 h2 h3 R.one⟩
theorem rhs_rl : (w3R R hb h1 h2 h3).r3 (rhsO O b x1 x2 x3) (rhsO P b' x1' x2' x3') :=
 rcbO_rl _ (up3_rl R hb h1 h2 h3 hb) ⟨up3_rl R hb h1 h2 h3 h1, vy1_rl R hb h1 h2 h3, up3_rl R hb h1 h2 h3 R.one⟩
  (rcbO_rl _ (up3_rl R hb h1 h2 h3 hb) ⟨up3_rl R hb h1 h2 h3 h2, vy2_rl R hb h1 h2 h3, up3_rl R hb h1 h2 h3 R.one⟩ ⟨up3_rl R hb h1 h2 h3 h3, vy3_rl R hb h1 h2 h3, up3_rl R hb h1 h2 h3 R.one⟩)
theorem crossX_rl {S S2 : C8 C × C8 C × C8 C} {T T2 : C8 D × C8 D × C8 D} (g : (w3R R hb h1 h2 h3).r3 S T) (g2 : (w3R R hb h1 h2 h3).r3 S2 T2) :
  (w3R R hb h1 h2 h3).r (crossX O b x1 x2 x3 S S2) (crossX P b' x1' x2' x3' T T2) :=
 (w3R R hb h1 h2 h3).add _ _ _ _ ((w3R R hb h1 h2 h3).mul _ _ _ _ g.1 g2.2.2) ((w3R R hb h1 h2 h3).neg _ _ ((w3R R hb h1 h2 h3).mul _ _ _ _ g2.1 g.2.2))
theorem crossY_rl {S S2 : C8 C × C8 C × C8 C} {T T2 : C8 D × C8 D × C8 D} (g : (w3R R hb h1 h2 h3).r3 S T) (g2 : (w3R R hb h1 h2 h3).r3 S2 T2) :
  (w3R R hb h1 h2 h3).r (crossY O b x1 x2 x3 S S2) (crossY P b' x1' x2' x3' T T2) :=
 (w3R R hb h1 h2 h3).add _ _ _ _ ((w3R R hb h1 h2 h3).mul _ _ _ _ g.2.1 g2.2.2) ((w3R R hb h1 h2 h3).neg _ _ ((w3R R hb h1 h2 h3).mul _ _ _ _ g2.2.1 g.2.2))
theorem all8_zero {K : Type} [CommRing K] (F : C → K) (z : D → Bool) (hz : ∀ c d, R.r c d → z d = true → F c = 0) {c : C8 C} {d : C8 D} (h : (w3R R hb h1 h2 h3).r c d) (hd : all8 z d = true) :
  F c.1.1.1 = 0 ∧ F c.1.1.2 = 0 ∧ F c.1.2.1 = 0 ∧ F c.1.2.2 = 0 ∧ F c.2.1.1 = 0 ∧ F c.2.1.2 = 0 ∧ F c.2.2.1 = 0 ∧ F c.2.2.2 = 0 := by
 simp only [all8, Bool.and_eq_true] at hd
 obtain ⟨⟨⟨⟨⟨⟨⟨d1, d2⟩, d3⟩, d4⟩, d5⟩, d6⟩, d7⟩, d8⟩ := hd
 obtain ⟨⟨⟨a1, a2⟩, ⟨a3, a4⟩⟩, ⟨⟨a5, a6⟩, ⟨a7, a8⟩⟩⟩ := h
 exact ⟨hz _ _ a1 d1, hz _ _ a2 d2, hz _ _ a3 d3, hz _ _ a4 d4, hz _ _ a5 d5, hz _ _ a6 d6, hz _ _ a7 d7, hz _ _ a8 d8⟩
end
def V0 : Nat := 2 ^ 43
def V1 : Nat := 2 ^ 410
def V3 : Nat := 2 ^ 39481
def computedAt (W0 W1 W2 W3 : Nat) : Bool :=
 all8 (tz W0 W1 W2 W3) (crossX tO (tb W0) (tx1 W1) (tx2 W3) (tx3 W2) (lhsO tO (tb W0) (tx1 W1) (tx2 W3) (tx3 W2)) (rhsO tO (tb W0) (tx1 W1) (tx2 W3) (tx3 W2)))
  && all8 (tz W0 W1 W2 W3) (crossY tO (tb W0) (tx1 W1) (tx2 W3) (tx3 W2) (lhsO tO (tb W0) (tx1 W1) (tx2 W3) (tx3 W2)) (rhsO tO (tb W0) (tx1 W1) (tx2 W3) (tx3 W2)))
theorem computed_true : computedAt V0 V1 V2 V3 = true := by decide +kernel
end Go.Proofs.YtbejcollbkeedaaGreat.Cw
namespace Go.Proofs.YtbejcollbkeedaaGreat.Cw
open Lean.Grind
section
variable {K : Type} [CommRing K] (b x1 x2 x3 : K)
theorem icast1 : (Ring.intCast (α := K)).intCast 1 = 1 := Ring.intCast_one (α := K)
theorem icast0 : (Ring.intCast (α := K)).intCast 0 = 0 := Ring.intCast_zero (α := K)
theorem f4_b : (f4 b x1 x3 x2).ev pb = b := by
 simp only [f4, polyE, pev, intK, pb, icast1, icast0]; grind
theorem f4_x1 : (f4 b x1 x3 x2).ev px1 = x1 := by
 simp only [f4, polyE, pev, intK, px1, icast1]; grind
theorem f4_x3 : (f4 b x1 x3 x2).ev px3 = x3 := by
 simp only [f4, polyE, pev, intK, px3, icast1]; grind
theorem f4_x2 : (f4 b x1 x3 x2).ev px2 = x2 := by
 simp only [f4, polyE, pev, intK, px2, icast1]; grind
variable {b x1 x2 x3} {y1 y2 y3 : K} (h1 : y1 * y1 = x1 * x1 * x1 - 3 * x1 + b) (h2 : y2 * y2 = x2 * x2 * x2 - 3 * x2 + b) (h3 : y3 * y3 = x3 * x3 * x3 - 3 * x3 + b)
def F1 : Ev (w1 q4 pb px1) K := quadE (f4 b x1 x3 x2) y1 _ (by rw [cubO_ev, f4_b, f4_x1]; exact h1)
theorem F1_up (c : Q4) : (F1 (x2 := x2) (x3 := x3) h1).ev (up1 q4 c) = (f4 b x1 x3 x2).ev c := by
 simp only [F1, quadE, up1, (f4 b x1 x3 x2).zero]; grind
def F2 : Ev (w2 q4 pb px1 px2) K := quadE (F1 (x2 := x2) (x3 := x3) h1) y2 _ (by rw [F1_up, cubO_ev, f4_b, f4_x2]; exact h2)
theorem F2_up (c : Q4) : (F2 (x3 := x3) h1 h2).ev (up2 q4 c) = (f4 b x1 x3 x2).ev c := by
 simp only [F2, F1, quadE, up2, (f4 b x1 x3 x2).zero]; grind
def F3 : Ev (w3 q4 pb px1 px2 px3) K := quadE (F2 (x3 := x3) h1 h2) y3 _ (by rw [F2_up, cubO_ev, f4_b, f4_x3]; exact h3)
theorem F3_up (c : Q4) : (F3 h1 h2 h3).ev (up3 q4 c) = (f4 b x1 x3 x2).ev c := by
 simp only [F3, F2, F1, quadE, up3, (f4 b x1 x3 x2).zero]; grind
theorem F3_y1 : (F3 h1 h2 h3).ev (vy1 q4) = y1 := by
 simp only [F3, F2, F1, quadE, vy1, (f4 b x1 x3 x2).zero, (f4 b x1 x3 x2).one]; grind
theorem F3_y2 : (F3 h1 h2 h3).ev (vy2 q4) = y2 := by
 simp only [F3, F2, F1, quadE, vy2, (f4 b x1 x3 x2).zero, (f4 b x1 x3 x2).one]; grind
theorem F3_y3 : (F3 h1 h2 h3).ev (vy3 q4) = y3 := by
 simp only [F3, F2, F1, quadE, vy3, (f4 b x1 x3 x2).zero, (f4 b x1 x3 x2).one]; grind
theorem F3_all {c : C8 Q4} (h : (f4 b x1 x3 x2).ev c.1.1.1 = 0 ∧ (f4 b x1 x3 x2).ev c.1.1.2 = 0 ∧ (f4 b x1 x3 x2).ev c.1.2.1 = 0 ∧ (f4 b x1 x3 x2).ev c.1.2.2 = 0 ∧
  (f4 b x1 x3 x2).ev c.2.1.1 = 0 ∧ (f4 b x1 x3 x2).ev c.2.1.2 = 0 ∧ (f4 b x1 x3 x2).ev c.2.2.1 = 0 ∧ (f4 b x1 x3 x2).ev c.2.2.2 = 0) : (F3 h1 h2 h3).ev c = 0 := by
 obtain ⟨a1, a2, a3, a4, a5, a6, a7, a8⟩ := h
 simp only [F3, F2, F1, quadE, a1, a2, a3, a4, a5, a6, a7, a8]; grind
theorem lhs_ev : ev3 (F3 h1 h2 h3) (lhsO q4 pb px1 px2 px3) = rcb b (rcb b (x1, y1, 1) (x2, y2, 1)) (x3, y3, 1) := by
 rw [lhsO, rcbO_ev, rcbO_ev, F3_up, f4_b]
 simp only [ev3, F3_up, F3_y1, F3_y2, F3_y3, f4_x1, f4_x2, f4_x3, (f4 b x1 x3 x2).one]
theorem rhs_ev : ev3 (F3 h1 h2 h3) (rhsO q4 pb px1 px2 px3) = rcb b (x1, y1, 1) (rcb b (x2, y2, 1) (x3, y3, 1)) := by
 rw [rhsO, rcbO_ev, rcbO_ev, F3_up, f4_b]
 simp only [ev3, F3_up, F3_y1, F3_y2, F3_y3, f4_x1, f4_x2, f4_x3, (f4 b x1 x3 x2).one]
include h1 h2 h3 in
theorem assoc_cross_of {W0 W1 W2 W3 : Nat} (hc : computedAt W0 W1 W2 W3 = true) : (rcb b (rcb b (x1, y1, 1) (x2, y2, 1)) (x3, y3, 1)).1 * (rcb b (x1, y1, 1) (rcb b (x2, y2, 1) (x3, y3, 1))).2.2 = (rcb b (x1, y1, 1) (rcb b (x2, y2, 1) (x3, y3, 1))).1 * (rcb b (rcb b (x1, y1, 1) (x2, y2, 1)) (x3, y3, 1)).2.2 ∧
  (rcb b (rcb b (x1, y1, 1) (x2, y2, 1)) (x3, y3, 1)).2.1 * (rcb b (x1, y1, 1) (rcb b (x2, y2, 1) (x3, y3, 1))).2.2 = (rcb b (x1, y1, 1) (rcb b (x2, y2, 1) (x3, y3, 1))).2.1 * (rcb b (rcb b (x1, y1, 1) (x2, y2, 1)) (x3, y3, 1)).2.2 := by
 simp only [computedAt, Bool.and_eq_true] at hc
 have B := rb W0 W1 W2 W3
 have X1 := rx1 W0 W1 W2 W3
 have X2 := rx2 W0 W1 W2 W3
 have X3 := rx3 W0 W1 W2 W3
 have gl := lhs_rl _ B X1 X2 X3
 have gr := rhs_rl _ B X1 X2 X3
 have z1 := all8_zero _ B X1 X2 X3 (f4 b x1 x3 x2).ev (tz W0 W1 W2 W3) (fun _ _ => tz_zero W0 W1 W2 W3 b x1 x3 x2) (crossX_rl _ B X1 X2 X3 gl gr) hc.1
 have z2 := all8_zero _ B X1 X2 X3 (f4 b x1 x3 x2).ev (tz W0 W1 W2 W3) (fun _ _ => tz_zero W0 W1 W2 W3 b x1 x3 x2) (crossY_rl _ B X1 X2 X3 gl gr) hc.2
 have e1 := F3_all h1 h2 h3 z1
 have e2 := F3_all h1 h2 h3 z2
 have l := lhs_ev h1 h2 h3
 have r := rhs_ev h1 h2 h3
 rw [crossX, (F3 h1 h2 h3).add, (F3 h1 h2 h3).neg, (F3 h1 h2 h3).mul, (F3 h1 h2 h3).mul] at e1
 rw [crossY, (F3 h1 h2 h3).add, (F3 h1 h2 h3).neg, (F3 h1 h2 h3).mul, (F3 h1 h2 h3).mul] at e2
 rw [← l, ← r]
 simp only [ev3]
 exact ⟨by grind, by grind⟩
end
section
variable {K : Type} [CommRing K] {b : K} (C : Cv K b)
include C
theorem Cv.assoc (A B G : Option (K × K)) (hA : onC b A) (hB : onC b B) (hG : onC b G) : C.ad (C.ad A B) G = C.ad A (C.ad B G) := by
 rcases A with _ | ⟨x1, y1⟩
 ·rfl
 rcases B with _ | ⟨x2, y2⟩
 ·rfl
 rcases G with _ | ⟨x3, y3⟩
 ·rw [C.ad_zero, C.ad_zero]
 have sA : Stands (x1, y1, (1 : K)) (some (x1, y1)) := ⟨C.one_ne, by simp only; grind, by simp only; grind⟩
 have sB : Stands (x2, y2, (1 : K)) (some (x2, y2)) := ⟨C.one_ne, by simp only; grind, by simp only; grind⟩
 have sG : Stands (x3, y3, (1 : K)) (some (x3, y3)) := ⟨C.one_ne, by simp only; grind, by simp only; grind⟩
 have l := C.stands (C.ad_on hA hB) hG (C.stands hA hB sA sB) sG
 have r := C.stands hA (C.ad_on hB hG) sA (C.stands hB hG sB sG)
 obtain ⟨c1, c2⟩ := assoc_cross_of hA hB hG computed_true
 exact C.same l r c1 c2
theorem Cv.assocG {G : Option (K × K)} (hG : onC b G) : C.Assoc G := fun A B hA hB => C.assoc A B G hA hB hG
end
end Go.Proofs.YtbejcollbkeedaaGreat.Cw
namespace Go.Proofs.YtbejcollbkeedaaGreat
open Go.RowKit
theorem cMul_none (w : World) (c : Int) (hc : crvOf c = none) (vk vP : Value) (hP : P3 vP) :
  Calls Tryz.prog 20 #[.int .i64 c, vk, vP] w fun e w' => e = .returned (.tuple #[inf0, .bool false]) ∧ Below w.heap.size w w' := by
 have hmx : Tryz.prog.follows .mixedOrders = true := by kernel_rfl
 obtain ⟨iP, bP, dP, rfl, hi1, hi2, hi3⟩ := hP
 obtain ⟨W0, e0, r0, b0, s0⟩ := newS w 26 [iP, bP, dP] _ rfl
 obtain ⟨gP, hgP⟩ : ∃ x, w.heap.size = x := ⟨_, rfl⟩
 obtain ⟨W1, e1, r1, b1, s1⟩ := newS W0 26 [.bool false, .slice none 0 0, .slice none 0 0] _ rfl
 obtain ⟨gr, hgr⟩ : ∃ x, W0.heap.size = x := ⟨_, rfl⟩
 obtain ⟨W2, e2, r2, b2, s2⟩ := newS W1 26 [iP, bP, dP] _ rfl
 obtain ⟨gs, hgs⟩ : ∃ x, W1.heap.size = x := ⟨_, rfl⟩
 rw [hgP] at r0
 rw [hgr] at r1
 rw [hgs] at r2
 have hbw : Below w.heap.size w W2 := ((b0).trans (b1.mono (b0).size)).trans (b2.mono ((b0).trans (b1.mono (b0).size)).size)
 have qgP := ((r0.later b1).later b2)
 have qgr := (r1.later b2)
 have qgs := r2
 have HB := hid hbw
 have HGL := hid (show w.heap.size ≤ gr ∧ gP < gr ∧ gr < W2.heap.size ∧ gP < W2.heap.size by omega)
 have HRP := hid qgP
 have HRR := hid qgr
 have pp0 := (r0.later b1).at_ (i := 0) rfl
 have p0 := qgP.at_ (i := 0) rfl
 have pp1 := (r0.later b1).at_ (i := 1) rfl
 have p1 := qgP.at_ (i := 1) rfl
 have pp2 := (r0.later b1).at_ (i := 2) rfl
 have p2 := qgP.at_ (i := 2) rfl
 have HDW := hid (domW_no W2 c hc (.slice (some ⟨gs, 0, none⟩) 1 1))
 clear  b0 s0 r0 b1 s1 r1 b2 s2 r2 hbw qgP qgs qgr hc
 refine (callsIn_wide (n := 9)).1 ?_
 refine callsIn_of_wp_marks Tryz.func20 rfl trivial ?_ rfl
 simp only [Tryz.ntmps20, List.size_toArray, List.length_cons, List.length_nil, Nat.reduceAdd, Nat.reduceSub, Array.replicate_succ, Array.replicate_zero, List.push_toArray, List.append_toArray, List.nil_append, List.cons_append]
 gi_wp2_with fail
 refine ⟨trivial, (callsIn_wide.2 HDW.out).mono ?_⟩
 rintro e w1 ⟨rfl, hb1⟩
 obtain ⟨W5, e5, r5, b5, s5⟩ := newS w1 73 [.int .i64 0, .slice none 0 0, .slice none 0 0, .slice none 0 0, .bool false, .slice none 0 0, .slice none 0 0] _ rfl
 obtain ⟨g8, hg8⟩ : ∃ x, w1.heap.size = x := ⟨_, rfl⟩
 rw [hg8] at r5
 have HB5 := hid b5
 have HB1 := hid hb1
 have HG8 := hid (show W2.heap.size ≤ g8 by have := hb1.size; omega)
 clear hb1 b5 s5 p0 p1 p2 pp0 pp1 pp2
 gi_wp2_with ((with_reducible show wpListIn _ _ _ _ _ (⟨none, _, _, _, _, _⟩ :: _) _ _); refine wlSI_store rfl 73 7 Tryz.sizeDom _ _ rfl g8 [.int .i64 0, .slice none 0 0, .slice none 0 0, .slice none 0 0, .bool false, .slice none 0 0, .slice none 0 0] rfl rfl 73 _ r5 rfl rfl (by intro v hv; simp only [List.mem_cons, List.not_mem_nil, or_false] at hv; rcases hv with rfl | rfl | rfl | rfl | rfl | rfl | rfl <;> rfl) ?_; intro w6 hr6 hg6 hz)
 have hbw1 := HB.out.trans (HB1.out.mono HB.out.size)
 have hbw5 := hbw1.trans (HB5.out.mono hbw1.size)
 have HBW := hid (below_grown hbw5 hg6 (by have := HG8.out; have := HGL.out; omega) hbw5.size)
 have HR := hid (((HRR.out.later HB1.out).later HB5.out).grown hg6 (by have := HG8.out; have := HGL.out; omega))
 clear hbw1 hbw5 hr6 hg6 hz
 gi_wp2_with fail
 refine ⟨trivial, ?_⟩
 gi_wp2_with fail
 refine ⟨trivial, (callsIn_wide.2 (cinf_any w6)).mono ?_⟩
 rintro e w7 ⟨rfl, hb7⟩
 have hr7 := HR.out.later hb7
 have HBW7 := hid (HBW.out.trans (hb7.mono HBW.out.size))
 clear hb7
 gi_wp2_with ((with_reducible show wpListIn _ _ _ _ _ (⟨none, _, _, _, _, _⟩ :: _) _ _); refine wlSI_store rfl 26 3 Tryz.sizePt _ _ rfl gr [.bool true, .slice none 0 0, .slice none 0 0] rfl rfl 26 _ hr7 rfl rfl (ones3 rfl rfl rfl) ?_; intro w8 hr8 hg8' hz)
 refine ⟨_, results_pt2 rfl _ gr _ rfl hr8 rfl, rfl, below_grown HBW7.out hg8' HGL.out.1 HBW7.out.size⟩
theorem cMul_no (w : World) (c : Int) (D : Crv) (hc : crvOf c = some D) (vk vP : Value) (P : Option (Nat × Nat)) (hP : Pg w vP P) (hno : ¬ hasN D.p D.b P) :
  Calls Tryz.prog 20 #[.int .i64 c, vk, vP] w fun e w' => e = .returned (.tuple #[inf0, .bool false]) ∧ Below w.heap.size w w' := by
 have hmx : Tryz.prog.follows .mixedOrders = true := by kernel_rfl
 have hok := crv_ok hc
 obtain ⟨iP, bP, dP, rfl⟩ := hP.ex
 obtain ⟨W0, e0, r0, b0, s0⟩ := newS w 26 [.bool iP, bP, dP] _ rfl
 obtain ⟨gP, hgP⟩ : ∃ x, w.heap.size = x := ⟨_, rfl⟩
 obtain ⟨W1, e1, r1, b1, s1⟩ := newS W0 26 [.bool false, .slice none 0 0, .slice none 0 0] _ rfl
 obtain ⟨gr, hgr⟩ : ∃ x, W0.heap.size = x := ⟨_, rfl⟩
 obtain ⟨W2, e2, r2, b2, s2⟩ := newS W1 26 [.bool iP, bP, dP] _ rfl
 obtain ⟨gs, hgs⟩ : ∃ x, W1.heap.size = x := ⟨_, rfl⟩
 rw [hgP] at r0
 rw [hgr] at r1
 rw [hgs] at r2
 have hbw : Below w.heap.size w W2 := ((b0).trans (b1.mono (b0).size)).trans (b2.mono ((b0).trans (b1.mono (b0).size)).size)
 have qgP := ((r0.later b1).later b2)
 have qgr := (r1.later b2)
 have qgs := r2
 have HB := hid hbw
 have HGL := hid (show w.heap.size ≤ gr ∧ gP < gr ∧ gr < W2.heap.size ∧ gP < W2.heap.size by omega)
 have hP3 := hP.later hbw
 have HPP := hid hP3
 have HRP := hid qgP
 have HRR := hid qgr
 have pp0 := (r0.later b1).at_ (i := 0) rfl
 have p0 := qgP.at_ (i := 0) rfl
 have pp1 := (r0.later b1).at_ (i := 1) rfl
 have p1 := qgP.at_ (i := 1) rfl
 have pp2 := (r0.later b1).at_ (i := 2) rfl
 have p2 := qgP.at_ (i := 2) rfl
 have HDW := hid (domW_any W2 c D hc hok.1 gs 1 1 [(.bool iP, bP, dP)] [P] rfl (by decide) rfl (PtsV.one qgs) (by
  intro k a b d R h1 h2
  rcases k with _ | k
  ·simp at h1 h2
   obtain ⟨rfl, rfl, rfl⟩ := h1
   subst h2
   exact hP3
  ·simp at h1))
 have HOK := hid hok
 have Hhno := hid hno
 clear hno b0 s0 r0 b1 s1 r1 b2 s2 r2 hbw qgP qgs qgr hok hc hP hP3
 refine (callsIn_wide (n := 9)).1 ?_
 refine callsIn_of_wp_marks Tryz.func20 rfl trivial ?_ rfl
 simp only [Tryz.ntmps20, List.size_toArray, List.length_cons, List.length_nil, Nat.reduceAdd, Nat.reduceSub, Array.replicate_succ, Array.replicate_zero, List.push_toArray, List.append_toArray, List.nil_append, List.cons_append]
 gi_wp2_with fail
 refine ⟨trivial, (callsIn_wide.2 HDW.out).mono ?_⟩
 rintro e w1 (⟨vd, rfl, hvd, hall, hb1⟩ | ⟨rfl, ⟨R, hR, hRn⟩, hb1⟩)
 ·exact absurd (hall P (by simp)) Hhno.out
 ·clear hR hRn
  obtain ⟨W5, e5, r5, b5, s5⟩ := newS w1 73 [.int .i64 0, .slice none 0 0, .slice none 0 0, .slice none 0 0, .bool false, .slice none 0 0, .slice none 0 0] _ rfl
  obtain ⟨g8, hg8⟩ : ∃ x, w1.heap.size = x := ⟨_, rfl⟩
  rw [hg8] at r5
  have HB5 := hid b5
  have HB1 := hid hb1
  have HG8 := hid (show W2.heap.size ≤ g8 by have := hb1.size; omega)
  clear hb1 b5 s5 p0 p1 p2 pp0 pp1 pp2
  gi_wp2_with ((with_reducible show wpListIn _ _ _ _ _ (⟨none, _, _, _, _, _⟩ :: _) _ _); refine wlSI_store rfl 73 7 Tryz.sizeDom _ _ rfl g8 [.int .i64 0, .slice none 0 0, .slice none 0 0, .slice none 0 0, .bool false, .slice none 0 0, .slice none 0 0] rfl rfl 73 _ r5 rfl rfl (by intro v hv; simp only [List.mem_cons, List.not_mem_nil, or_false] at hv; rcases hv with rfl | rfl | rfl | rfl | rfl | rfl | rfl <;> rfl) ?_; intro w6 hr6 hg6 hz)
  have hbw1 := HB.out.trans (HB1.out.mono HB.out.size)
  have hbw5 := hbw1.trans (HB5.out.mono hbw1.size)
  have HBW := hid (below_grown hbw5 hg6 (by have := HG8.out; have := HGL.out; omega) hbw5.size)
  have HR := hid (((HRR.out.later HB1.out).later HB5.out).grown hg6 (by have := HG8.out; have := HGL.out; omega))
  clear hbw1 hbw5 hr6 hg6 hz
  gi_wp2_with fail
  refine ⟨trivial, ?_⟩
  gi_wp2_with fail
  refine ⟨trivial, (callsIn_wide.2 (cinf_any w6)).mono ?_⟩
  rintro e w7 ⟨rfl, hb7⟩
  have hr7 := HR.out.later hb7
  have HBW7 := hid (HBW.out.trans (hb7.mono HBW.out.size))
  clear hb7
  gi_wp2_with ((with_reducible show wpListIn _ _ _ _ _ (⟨none, _, _, _, _, _⟩ :: _) _ _); refine wlSI_store rfl 26 3 Tryz.sizePt _ _ rfl gr [.bool true, .slice none 0 0, .slice none 0 0] rfl rfl 26 _ hr7 rfl rfl (ones3 rfl rfl rfl) ?_; intro w8 hr8 hg8' hz)
  refine ⟨_, results_pt2 rfl _ gr _ rfl hr8 rfl, rfl, below_grown HBW7.out hg8' HGL.out.1 HBW7.out.size⟩
end Go.Proofs.YtbejcollbkeedaaGreat
namespace Go.Proofs.YtbejcollbkeedaaGreat
open Lean.Grind Cw
section
variable {p : Nat} [NeZero p]
theorem four_is {K : Type} [CommRing K] : (2 : K) + 2 = 4 := by grind
theorem eight_is {K : Type} [CommRing K] : (4 : K) + 4 = 8 := by grind
theorem zp_4 : zp p 4 = 4 := by
 have h2 : zp p 4 = zp p 2 + zp p 2 := by rw [← zp_add]
 rw [h2, zp_2]
 exact four_is
theorem zp_8 : zp p 8 = 8 := by
 have h2 : zp p 8 = zp p 4 + zp p 4 := by rw [← zp_add]
 rw [h2, zp_4]
 exact eight_is
variable {b : Nat} (C : Cv (Fin p) (zp p b))
include C
theorem ml_stands (hp3 : 3 ≤ p) (hb : b < p) {P : Option (Nat × Nat)} (hP : hasN p b P) {r k0 : Nat} (hr : r < 2 ^ k0) : ∀ j, j ≤ k0 → Stands (zt p (mlN p b (rtN P) r k0 j)) (C.mg (lfp p P) (r / 2 ^ (k0 - j)))
 | 0, _ => by
  rw [Nat.sub_zero, Nat.div_eq_of_lt hr]
  exact ⟨zp_0, C.one_ne, zp_0⟩
 | j + 1, hj => by
  have hon := ((has_iff hp3 hb P).1 hP).2
  have ih := ml_stands hp3 hb hP hr j (by omega)
  have e : k0 - j = k0 - (j + 1) + 1 := by omega
  rw [e, Nat.pow_succ, ← Nat.div_div_eq_div_mul] at ih
  have hm : zt p (rcbN p b (mlN p b (rtN P) r k0 j) (mlN p b (rtN P) r k0 j)) = rcb (zp p b) (zt p (mlN p b (rtN P) r k0 j)) (zt p (mlN p b (rtN P) r k0 j)) := zt_rcbN hb _ _
  have ho := C.mg_on hon (r / 2 ^ (k0 - (j + 1)) / 2)
  have hd := C.stands ho ho ih ih
  rw [C.mg_add hon (C.assocG hon), ← hm] at hd
  generalize hM : r / 2 ^ (k0 - (j + 1)) = M at *
  rw [mlN, hM]
  split
  ·next h1 =>
   rw [zt_rcbN hb]
   have := C.stands (C.mg_on hon (M / 2 + M / 2)) hon hd (rtN_stands C.one_ne P)
   have hM1 : M / 2 + M / 2 + 1 = M := by omega
   have e2 : C.mg (lfp p P) M = C.ad (C.mg (lfp p P) (M / 2 + M / 2)) (lfp p P) := by
    conv => lhs; rw [← hM1]
    rfl
   rw [e2]
   exact this
  ·next h1 =>
   rw [show M / 2 + M / 2 = M by omega] at hd
   exact hd
theorem mulN_lf (hp3 : 3 ≤ p) (hb : b < p) {P R : Option (Nat × Nat)} (hP : hasN p b P) {r k0 : Nat} (hr : r < 2 ^ k0) (h : PtR p (mlN p b (rtN P) r k0 k0) R) : Inp p R ∧ lfp p R = C.mg (lfp p P) r := by
 have hs := ml_stands C hp3 hb hP hr k0 (Nat.le_refl _)
 rw [Nat.sub_self, Nat.pow_zero, Nat.div_one] at hs
 exact h.lf hs (mlN_lt (by omega) hb _ _ _ _)
end
end Go.Proofs.YtbejcollbkeedaaGreat
namespace Go.Proofs.YtbejcollbkeedaaGreat
open Lean.Grind Cw
section
variable {K : Type} [CommRing K]
def Jst (T : K × K × K) : Option (K × K) → Prop
 | none => T.2.2 = 0
 | some (x, y) => T.2.2 ≠ 0 ∧ T.1 = T.2.2 * T.2.2 * x ∧ T.2.1 = T.2.2 * T.2.2 * T.2.2 * y
theorem jt_m {x z : K} : 3 * ((z * z * x - z * z) * (z * z * x + z * z)) = z * z * z * z * (3 * (x * x) - 3) := by grind
theorem jt_s {x y z : K} : 4 * (z * z * x * (z * z * z * y * (z * z * z * y))) = z * z * z * z * (z * z * z * z) * (4 * x * (y * y)) := by grind
theorem jt_x {x y z m s x3 : K} (hm : m = z * z * z * z * (3 * (x * x) - 3)) (hs : s = z * z * z * z * (z * z * z * z) * (4 * x * (y * y))) (e : x3 * (2 * y * (2 * y)) = mx x y) :
  m * m - s - s = 2 * (z * z * z * y * z) * (2 * (z * z * z * y * z)) * x3 := by
 have h : 2 * (z * z * z * y * z) * (2 * (z * z * z * y * z)) * x3 = z * z * z * z * (z * z * z * z) * (x3 * (2 * y * (2 * y))) := by grind
 rw [h, e, hm, hs, mx]
 grind
theorem jt_x2 {x y z m s x3 : K} (hm : m = z * z * z * z * (3 * (x * x) - 3)) (hs : s = z * z * z * z * (z * z * z * z) * (4 * x * (y * y))) (e : x3 * (2 * y * (2 * y)) = mx x y) :
  m * m - s - s = z * z * z * z * (z * z * z * z) * mx x y := by
 rw [hm, hs, mx]
 grind
theorem jt_y {x y z m s y3 : K} (hm : m = z * z * z * z * (3 * (x * x) - 3)) (hs : s = z * z * z * z * (z * z * z * z) * (4 * x * (y * y))) (e : y3 * (2 * y * (2 * y) * (2 * y)) = my x y) :
  m * (s - z * z * z * z * (z * z * z * z) * mx x y) - 8 * (z * z * z * y * (z * z * z * y) * (z * z * z * y * (z * z * z * y))) = 2 * (z * z * z * y * z) * (2 * (z * z * z * y * z)) * (2 * (z * z * z * y * z)) * y3 := by
 have h : 2 * (z * z * z * y * z) * (2 * (z * z * z * y * z)) * (2 * (z * z * z * y * z)) * y3 = z * z * z * z * (z * z * z * z) * (z * z * z * z) * (y3 * (2 * y * (2 * y) * (2 * y))) := by grind
 rw [h, e, hm, hs, my]
 generalize mx x y = q
 grind
theorem jm_x {x y z x2 y2 x3 : K} (e : x3 * ((x2 - x) * (x2 - x)) = nx x y x2 y2) :
  (y2 * (z * z * z) - z * z * z * y) * (y2 * (z * z * z) - z * z * z * y) - (x2 * (z * z) - z * z * x) * (x2 * (z * z) - z * z * x) * (x2 * (z * z) - z * z * x) - z * z * x * ((x2 * (z * z) - z * z * x) * (x2 * (z * z) - z * z * x)) - z * z * x * ((x2 * (z * z) - z * z * x) * (x2 * (z * z) - z * z * x)) =
   z * (x2 * (z * z) - z * z * x) * (z * (x2 * (z * z) - z * z * x)) * x3 := by
 have h : z * (x2 * (z * z) - z * z * x) * (z * (x2 * (z * z) - z * z * x)) * x3 = z * z * z * (z * z * z) * (x3 * ((x2 - x) * (x2 - x))) := by grind
 rw [h, e, nx]
 grind
theorem jm_y {x y z x2 y2 x3 y3 : K} (e : x3 * ((x2 - x) * (x2 - x)) = nx x y x2 y2) (e' : y3 * ((x2 - x) * (x2 - x) * (x2 - x)) = ny x y x2 y2) :
  (y2 * (z * z * z) - z * z * z * y) * (z * z * x * ((x2 * (z * z) - z * z * x) * (x2 * (z * z) - z * z * x)) - z * (x2 * (z * z) - z * z * x) * (z * (x2 * (z * z) - z * z * x)) * x3) - z * z * z * y * ((x2 * (z * z) - z * z * x) * (x2 * (z * z) - z * z * x) * (x2 * (z * z) - z * z * x)) =
   z * (x2 * (z * z) - z * z * x) * (z * (x2 * (z * z) - z * z * x)) * (z * (x2 * (z * z) - z * z * x)) * y3 := by
 have h : z * (x2 * (z * z) - z * z * x) * (z * (x2 * (z * z) - z * z * x)) * (z * (x2 * (z * z) - z * z * x)) * y3 = z * z * z * (z * z * z) * (z * z * z) * (y3 * ((x2 - x) * (x2 - x) * (x2 - x))) := by grind
 have h2 : z * (x2 * (z * z) - z * z * x) * (z * (x2 * (z * z) - z * z * x)) * x3 = z * z * z * (z * z * z) * (x3 * ((x2 - x) * (x2 - x))) := by grind
 rw [h, e', h2, e, nx, ny]
 grind
end
section
variable {p : Nat} [NeZero p] {b : Nat} (C : Cv (Fin p) (zp p b))
include C
theorem tw_st (hp : 0 < p) {T : Nat × Nat × Nat} {P : Option (Fin p × Fin p)} (hT : Lt3 p T) (hP : onC (zp p b) P) (h : Jst (zt p T) P) : Jst (zt p (twR p T)) (C.ad P P) := by
 have m : ∀ x, x % p < p := fun x => Nat.mod_lt x hp
 rcases P with _ | ⟨x, y⟩
 ·have h0 : T.2.2 = 0 := zp_eq0 hT.2.2 h
  rw [twR, if_pos (.inl h0)]
  exact zp_0
 ·obtain ⟨hz, hX, hY⟩ := h
  obtain ⟨X, Y, Z⟩ := T
  simp only [zt] at hz hX hY
  have hy := C.y_ne (show y * y = x * x * x - 3 * x + zp p b from hP)
  have hz0 : Z ≠ 0 := by
   rintro rfl
   exact hz zp_0
  have hy0 : Y ≠ 0 := by
   rintro rfl
   rw [zp_0] at hY
   exact C.mul_ne (C.mul_ne (C.mul_ne hz hz) hz) hy hY.symm
  rw [twR, if_neg (by rintro (h | h); exact hz0 h; exact hy0 h)]
  obtain ⟨x3, y3, e, -, e1, e2⟩ := C.tangent (show y * y = x * x * x - 3 * x + zp p b from hP)
  rw [e]
  have hM : zp p (twM p X Z) = zp p Z * zp p Z * zp p Z * zp p Z * (3 * (x * x) - 3) := by
   rw [twM, zp_mulP, zp_mulP, zp_subP (b := mulP p Z Z) (le_ap (m _)), zp_mod, zp_add, zp_mulP, zp_3, hX]
   exact jt_m
  have hS : zp p (twS p X Y) = zp p Z * zp p Z * zp p Z * zp p Z * (zp p Z * zp p Z * zp p Z * zp p Z) * (4 * x * (y * y)) := by
   rw [twS, zp_mulP, zp_mulP, zp_mulP, zp_4, hX, hY]
   exact jt_s
  have hXX : zp p (twX p X Y Z) = zp p (twM p X Z) * zp p (twM p X Z) - zp p (twS p X Y) - zp p (twS p X Y) := by
   rw [twX, zp_subP (b := twS p X Y) (le_ap (m _)), zp_subP (b := twS p X Y) (le_ap (m _)), zp_mulP]
  have hYY : zp p (twY p X Y Z) = zp p (twM p X Z) * (zp p (twS p X Y) - zp p (twX p X Y Z)) - 8 * (zp p Y * zp p Y * (zp p Y * zp p Y)) := by
   rw [twY, zp_subP (b := mulP p 8 (mulP p (mulP p Y Y) (mulP p Y Y))) (le_ap (m _)), zp_mulP, zp_subP (b := twX p X Y Z) (le_ap (m _)), zp_mulP, zp_mulP, zp_mulP, zp_8]
  have hZZ : zp p (mulP p 2 (mulP p Y Z)) = 2 * (zp p Z * zp p Z * zp p Z * y * zp p Z) := by
   rw [zp_mulP, zp_mulP, zp_2, hY]
  refine ⟨?_, ?_, ?_⟩
  ·show zp p (mulP p 2 (mulP p Y Z)) ≠ 0
   rw [hZZ]
   exact C.mul_ne C.two (C.mul_ne (C.mul_ne (C.mul_ne (C.mul_ne hz hz) hz) hy) hz)
  ·show zp p (twX p X Y Z) = zp p (mulP p 2 (mulP p Y Z)) * zp p (mulP p 2 (mulP p Y Z)) * x3
   rw [hZZ, hXX]
   exact jt_x hM hS e1
  ·show zp p (twY p X Y Z) = zp p (mulP p 2 (mulP p Y Z)) * zp p (mulP p 2 (mulP p Y Z)) * zp p (mulP p 2 (mulP p Y Z)) * y3
   rw [hZZ, hYY, hXX, jt_x2 hM hS e1, hY]
   exact jt_y hM hS e2
theorem mx_st (hp : 1 < p) {x y z x2 y2 : Nat} {P : Option (Fin p × Fin p)} (hT : Lt3 p (x, y, z)) (hP : onC (zp p b) P) (hx2 : x2 < p) (hy2 : y2 < p) (hQ : onC (zp p b) (some (zp p x2, zp p y2))) (h : Jst (zt p (x, y, z)) P) :
  Jst (zt p (mxT p x y z x2 y2)) (C.ad P (some (zp p x2, zp p y2))) := by
 have m : ∀ x, x % p < p := fun x => Nat.mod_lt x (by omega)
 rcases P with _ | ⟨u, v⟩
 ·have h0 : z = 0 := zp_eq0 hT.2.2 h
  rw [mxT, if_pos h0]
  show Jst (zp p x2, zp p y2, zp p 1) (some (zp p x2, zp p y2))
  rw [zp_1]
  refine ⟨C.one_ne, ?_, ?_⟩
  ·simp only; generalize zp p x2 = a; grind
  ·simp only; generalize zp p y2 = a; grind
 ·obtain ⟨hz, hX, hY⟩ := h
  simp only [zt] at hz hX hY
  have hz0 : z ≠ 0 := by
   rintro rfl
   exact hz zp_0
  rw [mxT, if_neg hz0]
  have hU : zp p (mxU p z x2) = zp p x2 * (zp p z * zp p z) := by rw [mxU, zp_mulP, zp_mulP]
  have hS : zp p (mxS p z y2) = zp p y2 * (zp p z * zp p z * zp p z) := by rw [mxS, zp_mulP, zp_mulP, zp_mulP]
  have hH : zp p (mxH p x z x2) = zp p x2 * (zp p z * zp p z) - zp p z * zp p z * u := by rw [mxH, zp_subP (le_ap hT.1), hU, hX]
  have hR : zp p (mxR p y z y2) = zp p y2 * (zp p z * zp p z * zp p z) - zp p z * zp p z * zp p z * v := by rw [mxR, zp_subP (le_ap hT.2.1), hS, hY]
  have hHf : zp p (mxH p x z x2) = zp p z * zp p z * (zp p x2 - u) := by
   rw [hH]
   generalize zp p z = Z
   generalize zp p x2 = a
   grind
  have hRf : zp p (mxR p y z y2) = zp p z * zp p z * zp p z * (zp p y2 - v) := by
   rw [hR]
   generalize zp p z = Z
   generalize zp p y2 = a
   grind
  by_cases hx : u = zp p x2
  ·have h0 : mxH p x z x2 = 0 := by
    refine zp_eq0 (m _) ?_
    rw [hHf, hx]
    generalize zp p x2 = a
    generalize zp p z = Z
    grind
   rw [if_pos h0]
   by_cases hy : v = zp p y2
   ·have h1 : mxR p y z y2 = 0 := by
     refine zp_eq0 (m _) ?_
     rw [hRf, hy]
     generalize zp p y2 = a
     generalize zp p z = Z
     grind
    rw [if_pos h1]
    subst hx hy
    exact tw_st C (by omega) hT hQ ⟨hz, hX, hY⟩
   ·have h1 : mxR p y z y2 ≠ 0 := by
     intro h1
     rw [h1, zp_0] at hRf
     refine C.mul_ne (C.mul_ne (C.mul_ne hz hz) hz) ?_ hRf.symm
     intro h
     apply hy
     generalize zp p y2 = a at *
     grind
    rw [if_neg h1]
    simp only [Cv.ad, if_pos hx, if_neg hy]
    exact zp_0
  ·have hxd : zp p x2 - u ≠ 0 := by
    intro h
    apply hx
    generalize zp p x2 = a at *
    grind
   have h0 : mxH p x z x2 ≠ 0 := by
    intro h0
    rw [h0, zp_0] at hHf
    exact C.mul_ne (C.mul_ne hz hz) hxd hHf.symm
   rw [if_neg h0]
   obtain ⟨x3, y3, e, -, e1, e2⟩ := C.chord (show v * v = u * u * u - 3 * u + zp p b from hP) (show zp p y2 * zp p y2 = zp p x2 * zp p x2 * zp p x2 - 3 * zp p x2 + zp p b from hQ) hx
   rw [e]
   have hHH : zp p (mxHH p x z x2) = zp p (mxH p x z x2) * zp p (mxH p x z x2) := by rw [mxHH, zp_mulP]
   have hC : zp p (mxC p x z x2) = zp p (mxH p x z x2) * zp p (mxH p x z x2) * zp p (mxH p x z x2) := by rw [mxC, zp_mulP, hHH]
   have hV : zp p (mxV p x z x2) = zp p z * zp p z * u * (zp p (mxH p x z x2) * zp p (mxH p x z x2)) := by rw [mxV, zp_mulP, hHH, hX]
   have hXX : zp p (mxX p x y z x2 y2) = zp p z * zp p (mxH p x z x2) * (zp p z * zp p (mxH p x z x2)) * x3 := by
    rw [mxX, zp_subP (b := mxV p x z x2) (le_ap (m _)), zp_subP (b := mxV p x z x2) (le_ap (m _)), zp_subP (b := mxC p x z x2) (le_ap (m _)), zp_mulP, hV, hC, hR, hH]
    exact jm_x e1
   have hYY : zp p (mxY p x y z x2 y2) = zp p z * zp p (mxH p x z x2) * (zp p z * zp p (mxH p x z x2)) * (zp p z * zp p (mxH p x z x2)) * y3 := by
    rw [mxY, zp_subP (b := mulP p y (mxC p x z x2)) (le_ap (m _)), zp_mulP, zp_subP (b := mxX p x y z x2 y2) (le_ap (m _)), zp_mulP, hXX, hV, hC, hR, hH, hY]
    exact jm_y e1 e2
   have hZZ : zp p (mulP p z (mxH p x z x2)) = zp p z * zp p (mxH p x z x2) := zp_mulP _ _
   refine ⟨?_, ?_, ?_⟩
   ·show zp p (mulP p z (mxH p x z x2)) ≠ 0
    rw [hZZ, hHf]
    exact C.mul_ne hz (C.mul_ne (C.mul_ne hz hz) hxd)
   ·show zp p (mxX p x y z x2 y2) = zp p (mulP p z (mxH p x z x2)) * zp p (mulP p z (mxH p x z x2)) * x3
    rw [hZZ, hXX]
   ·show zp p (mxY p x y z x2 y2) = zp p (mulP p z (mxH p x z x2)) * zp p (mulP p z (mxH p x z x2)) * zp p (mulP p z (mxH p x z x2)) * y3
    rw [hZZ, hYY]
end
section
variable {p : Nat} [NeZero p] {b : Nat} (C : Cv (Fin p) (zp p b))
include C
theorem jm_st (hp : 1 < p) {x2 y2 : Nat} (hx2 : x2 < p) (hy2 : y2 < p) (hQ : onC (zp p b) (some (zp p x2, zp p y2))) {k k0 : Nat} (hk : k < 2 ^ k0) : ∀ j, j ≤ k0 → Jst (zt p (jmN p x2 y2 k k0 j)) (C.mg (some (zp p x2, zp p y2)) (k / 2 ^ (k0 - j)))
 | 0, _ => by
  rw [Nat.sub_zero, Nat.div_eq_of_lt hk]
  exact zp_0
 | j + 1, hj => by
  have ih := jm_st hp hx2 hy2 hQ hk j (by omega)
  have e : k0 - j = k0 - (j + 1) + 1 := by omega
  rw [e, Nat.pow_succ, ← Nat.div_div_eq_div_mul] at ih
  have ho := C.mg_on hQ (k / 2 ^ (k0 - (j + 1)) / 2)
  have hd := tw_st C (by omega) (jmN_lt hp hx2 hy2 k k0 j) ho ih
  rw [C.mg_add hQ (C.assocG hQ)] at hd
  generalize hM : k / 2 ^ (k0 - (j + 1)) = M at *
  rw [jmN, hM]
  split
  ·next h1 =>
   have := mx_st C hp (twR_lt (by omega) (jmN p x2 y2 k k0 j)) (C.mg_on hQ (M / 2 + M / 2)) hx2 hy2 hQ hd
   have hM1 : M / 2 + M / 2 + 1 = M := by omega
   have e2 : C.mg (some (zp p x2, zp p y2)) M = C.ad (C.mg (some (zp p x2, zp p y2)) (M / 2 + M / 2)) (some (zp p x2, zp p y2)) := by
    conv => lhs; rw [← hM1]
    rfl
   rw [e2]
   exact this
  ·next h1 =>
   rw [show M / 2 + M / 2 = M by omega] at hd
   exact hd
end
theorem jaff_is {K : Type} [CommRing K] {z i t x : K} (h : z * i = 1) (ht : t = z * z * x) : t * (i * i) = x := by grind
theorem jaff_is3 {K : Type} [CommRing K] {z i t y : K} (h : z * i = 1) (ht : t = z * z * z * y) : t * (i * i * i) = y := by grind
theorem Jst.aff {p : Nat} [NeZero p] {T : Nat × Nat × Nat} {Q : Option (Fin p × Fin p)} (h : Jst (zt p T) Q) (hz : T.2.2 < p) (h0 : T.2.2 ≠ 0) {i : Nat} (hi : T.2.2 * i % p = 1) :
  lfp p (some (mulP p T.1 (mulP p i i), mulP p T.2.1 (mulP p (mulP p i i) i))) = Q := by
 rcases Q with _ | ⟨x, y⟩
 ·exact absurd (zp_eq0 hz h) h0
 ·have e : zp p T.2.2 * zp p i = 1 := by rw [← zp_mm, hi, zp_1]
  show some (zp p (mulP p T.1 (mulP p i i)), zp p (mulP p T.2.1 (mulP p (mulP p i i) i))) = some (x, y)
  rw [zp_mulP, zp_mulP, zp_mulP, zp_mulP, jaff_is e (show zp p T.1 = zp p T.2.2 * zp p T.2.2 * x from h.2.1), zp_mulP, jaff_is3 e (show zp p T.2.1 = zp p T.2.2 * zp p T.2.2 * zp p T.2.2 * y from h.2.2)]
end Go.Proofs.YtbejcollbkeedaaGreat
namespace Go.Proofs.YtbejcollbkeedaaGreat
open Lean.Grind Cw
theorem has_base {c : Int} {D : Crv} (h : crvOf c = some D) : hasN D.p D.b (some (D.gx, D.gy)) := by
 rcases crv_two h with rfl | rfl
 ·decide +kernel
 ·decide +kernel
end Go.Proofs.YtbejcollbkeedaaGreat
namespace Go.Proofs.YtbejcollbkeedaaGreat
open Lean.Grind Cw
theorem ord256 : (mlN crv256.p crv256.b (rtN (some (crv256.gx, crv256.gy))) crv256.n 256 256).2.2 = 0 := by decide +kernel
theorem ord384 : (mlN crv384.p crv384.b (rtN (some (crv384.gx, crv384.gy))) crv384.n 384 384).2.2 = 0 := by decide +kernel
theorem stands_none {K : Type} [CommRing K] {T : K × K × K} {P : Option (K × K)} (h : Stands T P) (h0 : T.2.2 = 0) : P = none := by
 rcases P with _ | ⟨x, y⟩
 ·rfl
 ·exact absurd h0 h.1
theorem mg_of_ml {p : Nat} [NeZero p] {b : Nat} (C : Cv (Fin p) (zp p b)) (hp3 : 3 ≤ p) (hb : b < p) {P : Option (Nat × Nat)} (hP : hasN p b P) {r k0 : Nat} (hr : r < 2 ^ k0) (h : (mlN p b (rtN P) r k0 k0).2.2 = 0) : C.mg (lfp p P) r = none := by
 have hs := ml_stands C hp3 hb hP hr k0 (Nat.le_refl _)
 rw [Nat.sub_self, Nat.pow_zero, Nat.div_one] at hs
 refine stands_none hs ?_
 show zp p _ = 0
 rw [h, zp_0]
theorem crv_ord {c : Int} {D : Crv} (h : crvOf c = some D) [NeZero D.p] (C : Cv (Fin D.p) (zp D.p D.b)) : C.mg (lfp D.p (some (D.gx, D.gy))) D.n = none := by
 obtain ⟨hbp, h8, hp, hb, -, -, -, -, -, -⟩ := crv_lims h
 have hg := has_base h
 have ho : ∃ k0, D.n < 2 ^ k0 ∧ (mlN D.p D.b (rtN (some (D.gx, D.gy))) D.n k0 k0).2.2 = 0 := by
  clear hg hbp h8 hp hb C
  rcases crv_two h with rfl | rfl
  ·exact ⟨256, by decide +kernel, ord256⟩
  ·exact ⟨384, by decide +kernel, ord384⟩
 obtain ⟨k0, h1, h2⟩ := ho
 exact mg_of_ml C (by omega) hb hg h1 h2
section
variable {p : Nat} [NeZero p] {b : Nat} (C : Cv (Fin p) (zp p b))
include C
theorem spoilt_lf (hp3 : 3 ≤ p) (hb : b < p) {x y y' : Nat} (hy : y < p) (h1 : onC (zp p b) (lfp p (some (x, y)))) (h2 : hasN p b (some (x, y'))) (hne : y' ≠ y) : lfp p (some (x, y')) = ng (lfp p (some (x, y))) := by
 have h3 := (has_iff hp3 hb _).1 h2
 rcases C.opp_of (show zp p y * zp p y = zp p x * zp p x * zp p x - 3 * zp p x + zp p b from h1) (show zp p y' * zp p y' = zp p x * zp p x * zp p x - 3 * zp p x + zp p b from h3.2) with h | h
 ·exact absurd (zp_inj h3.1.2 hy h) hne
 ·show some (zp p x, zp p y') = some (zp p x, - zp p y)
  rw [h]
omit C
theorem MulP.lf {T : Nat × Nat × Nat} {P : Option (Nat × Nat)} {Q : Option (Fin p × Fin p)} (h : MulP p T P) (hs : Jst (zt p T) Q) (hT : Lt3 p T) : Inp p P ∧ lfp p P = Q := by
 have hp : 0 < p := by have := hT.1; omega
 have m : ∀ x, x % p < p := fun x => Nat.mod_lt x hp
 rcases h with ⟨h0, rfl⟩ | ⟨h0, R, hR, hi, rfl⟩
 ·rcases Q with _ | ⟨x, y⟩
  ·exact ⟨trivial, rfl⟩
  ·refine absurd ?_ hs.1
   show zp p T.2.2 = 0
   rw [h0, zp_0]
 ·exact ⟨⟨m _, m _⟩, hs.aff hT.2.2 h0 hi⟩
include C
theorem mulR_lf (hp : 1 < p) {x y k k0 : Nat} (hx : x < p) (hy : y < p) (hQ : onC (zp p b) (lfp p (some (x, y)))) (hk : IsBits k k0) {P : Option (Nat × Nat)} (h : MulP p (jmN p x y k k0 k0) P) : Inp p P ∧ lfp p P = C.mg (lfp p (some (x, y))) k := by
 have hs := jm_st C hp hx hy hQ hk.1 k0 (Nat.le_refl _)
 rw [Nat.sub_self, Nat.pow_zero, Nat.div_one] at hs
 exact MulP.lf h hs (jmN_lt hp hx hy k k0 k0)
end
end Go.Proofs.YtbejcollbkeedaaGreat
namespace Go.Proofs.YtbejcollbkeedaaGreat
open Go.RowKit Cw
theorem base_lf {c : Int} {D : Crv} (hc : crvOf c = some D) [NeZero D.p] (C : Cv (Fin D.p) (zp D.p D.b)) {m : Nat} {MP : Option (Nat × Nat)} (hb : BasePt D m MP) : Inp D.p MP ∧ lfp D.p MP = C.mg (lfp D.p (some (D.gx, D.gy))) m := by
 obtain ⟨-, h8, -, hbl, hx, hy, -⟩ := crv_lims hc
 obtain ⟨k0, hk, hm⟩ := hb
 exact mulR_lf C (by omega) hx hy ((has_iff (by omega) hbl _).1 (has_base hc)).2 hk hm
theorem ord_mult {c : Int} {D : Crv} (hc : crvOf c = some D) [NeZero D.p] (C : Cv (Fin D.p) (zp D.p D.b)) (m : Nat) : C.mg (C.mg (lfp D.p (some (D.gx, D.gy))) m) D.n = none := by
 obtain ⟨-, h8, -, hbl, hx, hy, -⟩ := crv_lims hc
 have hg := ((has_iff (by omega) hbl _).1 (has_base hc)).2
 rw [C.mg_mul hg (C.assocG hg)]
 have := C.mg_order hg (C.assocG hg) (crv_ord hc C) m 0
 rw [Nat.add_zero] at this
 exact this
theorem sp_mult {c : Int} {D : Crv} (hc : crvOf c = some D) [NeZero D.p] (C : Cv (Fin D.p) (zp D.p D.b)) {m : Nat} {sp : Bool} {MP P : Option (Nat × Nat)} (hb : BasePt D m MP) (hs : SpOf sp MP P) (has : hasN D.p D.b P) : ∃ m', lfp D.p P = C.mg (lfp D.p (some (D.gx, D.gy))) m' := by
 obtain ⟨-, h8, -, hbl, hx, hy, -, hn1, -⟩ := crv_lims hc
 obtain ⟨hi, hl⟩ := base_lf hc C hb
 have hg := ((has_iff (by omega) hbl _).1 (has_base hc)).2
 rcases hs with rfl | ⟨-, x, y, y', rfl, rfl, hne⟩
 ·exact ⟨m, hl⟩
 ·refine ⟨_, (spoilt_lf C (by omega) hbl hi.2 ?_ has hne).trans ((congrArg ng hl).trans (C.mg_neg hg (C.assocG hg) (by omega) (crv_ord hc C) m))⟩
  rw [hl]
  exact C.mg_on hg m
def RefMul (D : Crv) (k : Nat) (P Q : Option (Nat × Nat)) : Prop := match P with
 | none => Q = none
 | some (x, y) => ∃ k0, IsBits k k0 ∧ MulP D.p (jmN D.p x y k k0 k0) Q
theorem mg_none {K : Type} [Lean.Grind.CommRing K] {b : K} (C : Cv K b) : ∀ k, C.mg none k = none
 | 0 => rfl
 | k + 1 => by
  show C.ad (C.mg none k) none = none
  rw [mg_none C k]
  rfl
theorem refmul_lf {c : Int} {D : Crv} (hc : crvOf c = some D) [NeZero D.p] (C : Cv (Fin D.p) (zp D.p D.b)) {k : Nat} {P Q : Option (Nat × Nat)} (has : hasN D.p D.b P) (h : RefMul D k P Q) : Inp D.p Q ∧ lfp D.p Q = C.mg (lfp D.p P) k := by
 obtain ⟨-, h8, -, hbl, -⟩ := crv_lims hc
 rcases P with _ | ⟨x, y⟩
 ·obtain rfl : Q = none := h
  exact ⟨trivial, (mg_none C k).symm⟩
 ·obtain ⟨k0, hk, hm⟩ := h
  exact mulR_lf C (by omega) has.1 has.2.1 ((has_iff (by omega) hbl _).1 has).2 hk hm
theorem mul_same {c : Int} {D : Crv} (hc : crvOf c = some D) {m : Nat} {sp : Bool} {MP P : Option (Nat × Nat)} (hb : BasePt D m MP) (hs : SpOf sp MP P) (has : hasN D.p D.b P) {k k0 : Nat} {R Q : Option (Nat × Nat)}
  (hk : IsBits (k % D.n) k0) (hR : PtR D.p (mlN D.p D.b (rtN P) (k % D.n) k0 k0) R) (hQ : RefMul D k P Q) : Q = R := by
 obtain ⟨hne, ⟨C⟩⟩ := crv_cv hc
 obtain ⟨-, h8, -, hbl, hx, hy, -, hn1, -⟩ := crv_lims hc
 obtain ⟨m', hl⟩ := sp_mult hc C hb hs has
 obtain ⟨h1, h2⟩ := mulN_lf C (by omega) hbl has hk.1 hR
 obtain ⟨h3, h4⟩ := refmul_lf hc C has hQ
 have hon := ((has_iff (by omega) hbl _).1 has).2
 refine lfp_inj h3 h1 ?_
 rw [h2, h4]
 refine (C.mg_mod hon (C.assocG hon) ?_ k).symm
 rw [hl]
 exact ord_mult hc C m'
theorem cmul_is (w : World) (c : Int) (D : Crv) (hc : crvOf c = some D) (vk vP : Value) (kN : Nat) (hk : NumR w 64 kN vk) (P : Option (Nat × Nat)) (hP : Pg w vP P) (has : hasN D.p D.b P) :
  Calls Tryz.prog 20 #[.int .i64 c, vk, vP] w fun e w' => ∃ v R k0, e = .returned (.tuple #[v, .bool true]) ∧ IsBits (kN % D.n) k0 ∧ PtR D.p (mlN D.p D.b (rtN P) (kN % D.n) k0 k0) R ∧ Pt w' v R ∧ Below w.heap.size w w' := by
 obtain ⟨-, -, -, -, -, -, -, hn1, hnl, -⟩ := crv_lims hc
 have h64 : b64 ^ 6 < b64 ^ 64 := by decide +kernel
 refine (cMul_yes w c D hc vk vP kN hk P hP has hn1 (by omega) _ rfl).mono ?_
 rintro e w' ⟨v, k0, rfl, h1, ⟨R, h2, h3⟩, h4⟩
 exact ⟨v, R, k0, rfl, h1, h2, h3, h4⟩
theorem rmul_ref (w : World) (c : Int) (D : Crv) (hc : crvOf c = some D) (vc vk vq : Value) (h1 : Cr w vc D) (kN : Nat) (hk : Nb w vk kN) (P : Option (Nat × Nat)) (hq : Rp w vq P) (hi : Inp D.p P) :
  Calls Tryz.prog 21 #[vc, vk, vq] w fun e w' => ∃ v Q, e = .returned v ∧ RefMul D kN P Q ∧ Rp w' v Q ∧ Below w.heap.size w w' := by
 obtain ⟨hbp, -, -, -, -, -, hpr, -⟩ := crv_lims hc
 refine (rMul9_any w vc vk vq D h1 hbp hpr kN hk P hq (fun x y e => by subst e; exact hi)).mono ?_
 rintro e w' ⟨v, rfl, h2, h3⟩
 rcases P with _ | ⟨x, y⟩
 ·exact ⟨v, none, rfl, rfl, h2, h3⟩
 ·obtain ⟨k0, h4, Q, h5, h6⟩ := h2
  exact ⟨v, Q, rfl, ⟨k0, h4, h5⟩, h6, h3⟩
theorem base_has {c : Int} {D : Crv} (hc : crvOf c = some D) {m : Nat} {MP : Option (Nat × Nat)} (hb : BasePt D m MP) : hasN D.p D.b MP := by
 obtain ⟨hne, ⟨C⟩⟩ := crv_cv hc
 obtain ⟨-, h8, -, hbl, -⟩ := crv_lims hc
 obtain ⟨h1, h2⟩ := base_lf hc C hb
 refine (has_iff (by omega) hbl _).2 ⟨h1, ?_⟩
 rw [h2]
 exact C.mg_on ((has_iff (by omega) hbl _).1 (has_base hc)).2 m
theorem cmul_to (w : World) (c : Int) (D : Crv) (hc : crvOf c = some D) (vk vP : Value) (kN : Nat) (hk : NumR w 64 kN vk) (P R : Option (Nat × Nat)) (hP : Pg w vP P) (has : hasN D.p D.b P) (hi : Inp D.p R)
  (hl : ∀ (_ : NeZero D.p) (C : Cv (Fin D.p) (zp D.p D.b)), lfp D.p R = C.mg (lfp D.p P) (kN % D.n)) :
  Calls Tryz.prog 20 #[.int .i64 c, vk, vP] w fun e w' => ∃ v, e = .returned (.tuple #[v, .bool true]) ∧ Pt w' v R ∧ Below w.heap.size w w' := by
 obtain ⟨hne, ⟨C⟩⟩ := crv_cv hc
 obtain ⟨-, h8, -, hbl, -⟩ := crv_lims hc
 refine (cmul_is w c D hc vk vP kN hk P hP has).mono ?_
 rintro e w' ⟨v, S, k0, rfl, h1, h2, h3, h4⟩
 obtain ⟨j1, j2⟩ := mulN_lf C (by omega) hbl has h1.1 h2
 obtain rfl := lfp_inj hi j1 ((hl hne C).trans j2.symm)
 exact ⟨v, rfl, h3, h4⟩
theorem ngN_lf {p : Nat} [NeZero p] {P : Option (Nat × Nat)} (hi : Inp p P) : Inp p (ngN p P) ∧ lfp p (ngN p P) = ng (lfp p P) := by
 rcases P with _ | ⟨x, y⟩
 ·exact ⟨trivial, rfl⟩
 ·have hp : 0 < p := by have := hi.1; omega
  refine ⟨⟨hi.1, difN_lt hp hi.2⟩, ?_⟩
  show some (zp p x, zp p (difN p 0 y)) = some (zp p x, - zp p y)
  rw [zp_difN (le_ap hi.2), zp_0]
  generalize zp p y = v
  have : (0 : Fin p) - v = - v := by grind
  rw [this]
theorem mul_less {c : Int} {D : Crv} (hc : crvOf c = some D) {m : Nat} {P : Option (Nat × Nat)} (hb : BasePt D m P) :
  Inp D.p (ngN D.p P) ∧ ∀ (_ : NeZero D.p) (C : Cv (Fin D.p) (zp D.p D.b)), lfp D.p (ngN D.p P) = C.mg (lfp D.p P) ((D.n - 1) % D.n) := by
 obtain ⟨-, h8, -, hbl, -, -, -, hn1, -⟩ := crv_lims hc
 have has := base_has hc hb
 obtain ⟨hne, -⟩ := crv_cv hc
 refine ⟨(ngN_lf (hasN.inp hc has)).1, fun hne' C => ?_⟩
 rw [(ngN_lf (hasN.inp hc has)).2, Nat.mod_eq_of_lt (by omega)]
 have hon := ((has_iff (by omega) hbl _).1 has).2
 have h0 : C.mg (lfp D.p P) D.n = none := by
  rw [(base_lf hc C hb).2]
  exact ord_mult hc C m
 have h1 := C.mg_neg hon (C.assocG hon) (by omega) h0 1
 rw [C.mg_one, Nat.mod_eq_of_lt hn1] at h1
 exact h1
theorem mul_more {c : Int} {D : Crv} (hc : crvOf c = some D) {m : Nat} {P : Option (Nat × Nat)} (hb : BasePt D m P) :
  Inp D.p P ∧ ∀ (_ : NeZero D.p) (C : Cv (Fin D.p) (zp D.p D.b)), lfp D.p P = C.mg (lfp D.p P) ((D.n + 1) % D.n) := by
 obtain ⟨-, h8, -, hbl, -, -, -, hn1, -⟩ := crv_lims hc
 refine ⟨hasN.inp hc (base_has hc hb), fun hne' C => ?_⟩
 rw [Nat.add_mod_left, Nat.mod_eq_of_lt hn1]
 exact (C.mg_one _).symm
end Go.Proofs.YtbejcollbkeedaaGreat
namespace Go.Proofs.YtbejcollbkeedaaGreat
open Go.RowKit
def Spc.ptT (R : Option (Nat × Nat)) : Spc := ⟨fun v V => ∃ u, v = .tuple #[u, .bool true] ∧ Pt V u R, fun v V V' hb ⟨u, e, h⟩ => ⟨u, e, h.sb hb⟩⟩
def Spc.pt' (R : Option (Nat × Nat)) : Spc := ⟨fun v V => Pt V v R, fun _ _ _ hb h => h.sb hb⟩
theorem Spc.pt_form {R : Option (Nat × Nat)} (v : Value) (V : World) (h : (Spc.pt' R).P v V) : ∃ vs : List Value, v = .agg vs.toArray ∧ vs.length = 3 ∧ Ones vs := by
 obtain ⟨t, A, n, c, A', n', c', rfl⟩ := Pt.three' h
 exact ⟨[.bool t, .slice A n c, .slice A' n' c'], rfl, rfl, ones3 rfl rfl rfl⟩
end Go.Proofs.YtbejcollbkeedaaGreat
