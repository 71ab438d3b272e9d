/- Parts of one proof, joined: CvA, CvB, CvC, CvD, CvE, CvF, NextM, CvN, CvP, CvK, CvZ, CuS, CuE. -/
import Derived.Test.YtmmmcbklgmjalaaPileN6
import Derived.Laws.ResultCell

/- A point's sum by the complete formulas, over any field whose cubic has no root: it stands for the sum by chord and tangent. -/
namespace Go.Proofs.Ytmmmcbklgmjalaa.Cw
open Lean.Grind

/-- the complete formulas, of the curve y^2 = x^3 - 3x + b -/
def rcb {K : Type} [CommRing K] (b : K) (P Q : K × K × K) : K × K × K :=
  let xx := P.1 * Q.1
  let yy := P.2.1 * Q.2.1
  let zz := P.2.2 * Q.2.2
  let xy := P.1 * Q.2.1 + P.2.1 * Q.1
  let xz := P.1 * Q.2.2 + P.2.2 * Q.1
  let yz := P.2.1 * Q.2.2 + P.2.2 * Q.2.1
  let d1 := xz - b * zz
  let s := d1 + d1 + d1
  let d2 := xx - zz
  let t := d2 + d2 + d2
  let d3 := b * xz - xx - (zz + zz + zz)
  let u := d3 + d3 + d3
  (xy * (yy + s) - yz * u, t * u + (yy - s) * (yy + s), yz * (yy - s) + xy * t)

section
variable {K : Type} [CommRing K]
theorem rcb_scale (b : K) (k l x1 y1 z1 x2 y2 z2 : K) :
    rcb b (k * x1, k * y1, k * z1) (l * x2, l * y2, l * z2) =
      (k * k * (l * l) * (rcb b (x1, y1, z1) (x2, y2, z2)).1, k * k * (l * l) * (rcb b (x1, y1, z1) (x2, y2, z2)).2.1, k * k * (l * l) * (rcb b (x1, y1, z1) (x2, y2, z2)).2.2) := by
  simp only [rcb, Prod.mk.injEq]
  refine ⟨?_, ?_, ?_⟩ <;> grind
theorem rcb_left (b : K) (y x2 y2 z2 : K) : rcb b (0, y, 0) (x2, y2, z2) = (y * y * y2 * x2, y * y * y2 * y2, y * y * y2 * z2) := by
  simp only [rcb, Prod.mk.injEq]
  refine ⟨?_, ?_, ?_⟩ <;> grind
theorem rcb_right (b : K) (y x1 y1 z1 : K) : rcb b (x1, y1, z1) (0, y, 0) = (y * y * y1 * x1, y * y * y1 * y1, y * y * y1 * z1) := by
  simp only [rcb, Prod.mk.injEq]
  refine ⟨?_, ?_, ?_⟩ <;> grind

theorem chord_x {b x1 y1 x2 y2 : K} (h1 : y1 * y1 = x1 * x1 * x1 - 3 * x1 + b) (h2 : y2 * y2 = x2 * x2 * x2 - 3 * x2 + b) :
    (rcb b (x1, y1, 1) (x2, y2, 1)).1 * ((x2 - x1) * (x2 - x1)) = (rcb b (x1, y1, 1) (x2, y2, 1)).2.2 * ((y2 - y1) * (y2 - y1) - (x1 + x2) * ((x2 - x1) * (x2 - x1))) := by
  simp only [rcb]
  grind
theorem chord_y {b x1 y1 x2 y2 : K} (h1 : y1 * y1 = x1 * x1 * x1 - 3 * x1 + b) (h2 : y2 * y2 = x2 * x2 * x2 - 3 * x2 + b) :
    (rcb b (x1, y1, 1) (x2, y2, 1)).2.1 * ((x2 - x1) * (x2 - x1) * (x2 - x1)) = (rcb b (x1, y1, 1) (x2, y2, 1)).2.2 *
      ((y2 - y1) * (x1 * ((x2 - x1) * (x2 - x1)) - ((y2 - y1) * (y2 - y1) - (x1 + x2) * ((x2 - x1) * (x2 - x1)))) - y1 * ((x2 - x1) * (x2 - x1) * (x2 - x1))) := by
  simp only [rcb]
  grind
/-- the numerator of y of the chord's third point, turned -/
def ny (x1 y1 x2 y2 : K) : K :=
  (y2 - y1) * (x1 * ((x2 - x1) * (x2 - x1)) - ((y2 - y1) * (y2 - y1) - (x1 + x2) * ((x2 - x1) * (x2 - x1)))) - y1 * ((x2 - x1) * (x2 - x1) * (x2 - x1))
def nx (x1 y1 x2 y2 : K) : K := (y2 - y1) * (y2 - y1) - (x1 + x2) * ((x2 - x1) * (x2 - x1))
theorem chord_z {b x1 y1 x2 y2 : K} (h1 : y1 * y1 = x1 * x1 * x1 - 3 * x1 + b) (h2 : y2 * y2 = x2 * x2 * x2 - 3 * x2 + b) :
    (rcb b (x1, y1, 1) (x2, y2, 1)).2.2 = ny x1 y1 x2 (-y2) := by
  simp only [rcb, ny]
  grind
theorem chord_on {b x1 y1 x2 y2 : K} (h1 : y1 * y1 = x1 * x1 * x1 - 3 * x1 + b) (h2 : y2 * y2 = x2 * x2 * x2 - 3 * x2 + b) :
    ny x1 y1 x2 y2 * ny x1 y1 x2 y2 = nx x1 y1 x2 y2 * nx x1 y1 x2 y2 * nx x1 y1 x2 y2 - 3 * nx x1 y1 x2 y2 * ((x2 - x1) * (x2 - x1) * ((x2 - x1) * (x2 - x1)))
      + b * ((x2 - x1) * (x2 - x1) * (x2 - x1) * ((x2 - x1) * (x2 - x1) * (x2 - x1))) := by
  simp only [nx, ny]
  grind
def mx (x y : K) : K := (3 * (x * x) - 3) * (3 * (x * x) - 3) - 8 * x * (y * y)
def my (x y : K) : K := (3 * (x * x) - 3) * (4 * x * (y * y) - mx x y) - 8 * (y * y) * (y * y)
theorem double_is {b x y : K} (h : y * y = x * x * x - 3 * x + b) : rcb b (x, y, 1) (x, y, 1) = (2 * y * mx x y, my x y, 8 * (y * y * y)) := by
  simp only [rcb, mx, my, Prod.mk.injEq]
  refine ⟨?_, ?_, ?_⟩ <;> grind
theorem double_on {b x y : K} (h : y * y = x * x * x - 3 * x + b) :
    my x y * my x y = mx x y * mx x y * mx x y - 3 * mx x y * (16 * (y * y) * (y * y)) + b * (64 * (y * y) * (y * y) * (y * y)) := by
  simp only [mx, my]
  grind
theorem opposite {b x y : K} (h : y * y = x * x * x - 3 * x + b) : rcb b (x, y, 1) (x, -y, 1) = (0, my x y, 0) := by
  simp only [rcb, mx, my, Prod.mk.injEq]
  refine ⟨?_, ?_, ?_⟩ <;> grind
end
end Go.Proofs.Ytmmmcbklgmjalaa.Cw

/- A point's sum by the complete formulas stands for the sum by chord and tangent; a product and a multiple likewise. -/
namespace Go.Proofs.Ytmmmcbklgmjalaa.Cw
open Lean.Grind

/-- a ring without divisors of nought, with what divides, in which the cubic has no root -/
structure Cv (K : Type) [CommRing K] (b : K) where
  dom : ∀ x y : K, x * y = 0 → x = 0 ∨ y = 0
  iv : K → K
  inv : ∀ x : K, x ≠ 0 → x * iv x = 1
  two : (2 : K) ≠ 0
  noroot : ∀ x : K, x * x * x - 3 * x + b ≠ 0

section
variable {K : Type} [CommRing K] {b : K} (C : Cv K b)
include C
theorem Cv.mul_ne {x y : K} (hx : x ≠ 0) (hy : y ≠ 0) : x * y ≠ 0 := by
  intro h
  rcases C.dom _ _ h with h | h
  · exact hx h
  · exact hy h
theorem Cv.cancel {x y z : K} (hz : z ≠ 0) (h : x * z = y * z) : x = y := by
  rcases C.dom (x - y) z (by grind) with h | h
  · grind
  · exact absurd h hz
theorem Cv.one_ne : (1 : K) ≠ 0 := by
  intro h
  exact C.two (by grind)
theorem Cv.y_ne {x y : K} (h : y * y = x * x * x - 3 * x + b) : y ≠ 0 := by
  rintro rfl
  exact C.noroot x (by grind)
omit C
theorem slope {d n i l : K} (hi : d * i = 1) (hL : n * i = l) : l * d = n := by grind
theorem chord_e1 {x1 y1 x2 y2 l : K} (hl : l * (x2 - x1) = y2 - y1) : (l * l - x1 - x2) * ((x2 - x1) * (x2 - x1)) = nx x1 y1 x2 y2 := by
  simp only [nx, ← hl]; grind
theorem chord_e2 {x1 y1 x2 y2 l : K} (hl : l * (x2 - x1) = y2 - y1) : (l * (x1 - (l * l - x1 - x2)) - y1) * ((x2 - x1) * (x2 - x1) * (x2 - x1)) = ny x1 y1 x2 y2 := by
  simp only [ny, ← hl]; grind
theorem tang_e1 {x y l : K} (hl : l * (2 * y) = 3 * (x * x) - 3) : (l * l - x - x) * (2 * y * (2 * y)) = mx x y := by
  simp only [mx, ← hl]; grind
theorem tang_e2 {x y l : K} (hl : l * (2 * y) = 3 * (x * x) - 3) : (l * (x - (l * l - x - x)) - y) * (2 * y * (2 * y) * (2 * y)) = my x y := by
  simp only [my, mx, ← hl]; grind
theorem chord_e3 {X Y d b : K} (e : Y * (d * d * d) * (Y * (d * d * d)) = X * (d * d) * (X * (d * d)) * (X * (d * d)) - 3 * (X * (d * d)) * (d * d * (d * d)) + b * (d * d * d * (d * d * d))) :
    Y * Y * (d * d * d * (d * d * d)) = (X * X * X - 3 * X + b) * (d * d * d * (d * d * d)) := by grind
theorem tang_e3 {X Y y b : K} (e : Y * (2 * y * (2 * y) * (2 * y)) * (Y * (2 * y * (2 * y) * (2 * y))) = X * (2 * y * (2 * y)) * (X * (2 * y * (2 * y))) * (X * (2 * y * (2 * y))) - 3 * (X * (2 * y * (2 * y))) * (16 * (y * y) * (y * y)) + b * (64 * (y * y) * (y * y) * (y * y))) :
    Y * Y * (2 * y * (2 * y) * (2 * y) * (2 * y * (2 * y) * (2 * y))) = (X * X * X - 3 * X + b) * (2 * y * (2 * y) * (2 * y) * (2 * y * (2 * y) * (2 * y))) := by grind
/-- a point: none is that at infinity -/
def onC (b : K) : Option (K × K) → Prop
  | none => True
  | some (x, y) => y * y = x * x * x - 3 * x + b
/-- three numbers stand for a point -/
def Stands (T : K × K × K) : Option (K × K) → Prop
  | none => T.1 = 0 ∧ T.2.1 ≠ 0 ∧ T.2.2 = 0
  | some (x, y) => T.2.2 ≠ 0 ∧ T.1 = T.2.2 * x ∧ T.2.1 = T.2.2 * y
open Classical in
/-- the sum by chord and tangent -/
noncomputable def Cv.ad (C : Cv K b) : Option (K × K) → Option (K × K) → Option (K × K)
  | none, q => q
  | p, none => p
  | some (x1, y1), some (x2, y2) =>
    if x1 = x2 then
      if y1 = y2 then
        let l := (3 * (x1 * x1) - 3) * C.iv (2 * y1)
        some (l * l - x1 - x1, l * (x1 - (l * l - x1 - x1)) - y1)
      else none
    else
      let l := (y2 - y1) * C.iv (x2 - x1)
      some (l * l - x1 - x2, l * (x1 - (l * l - x1 - x2)) - y1)
def ng : Option (K × K) → Option (K × K)
  | none => none
  | some (x, y) => some (x, -y)
theorem onC.neg {P : Option (K × K)} (h : onC b P) : onC b (ng P) := by
  rcases P with _ | ⟨x, y⟩
  · trivial
  · simp only [onC, ng] at h ⊢
    grind
include C
theorem Cv.opp_of {x y y' : K} (h1 : y * y = x * x * x - 3 * x + b) (h2 : y' * y' = x * x * x - 3 * x + b) : y' = y ∨ y' = -y := by
  rcases C.dom (y' - y) (y' + y) (by grind) with h | h
  · exact .inl (by grind)
  · exact .inr (by grind)
theorem Cv.chord {x1 y1 x2 y2 : K} (h1 : y1 * y1 = x1 * x1 * x1 - 3 * x1 + b) (h2 : y2 * y2 = x2 * x2 * x2 - 3 * x2 + b) (hx : x1 ≠ x2) :
    ∃ x3 y3, C.ad (some (x1, y1)) (some (x2, y2)) = some (x3, y3) ∧ y3 * y3 = x3 * x3 * x3 - 3 * x3 + b ∧
      x3 * ((x2 - x1) * (x2 - x1)) = nx x1 y1 x2 y2 ∧ y3 * ((x2 - x1) * (x2 - x1) * (x2 - x1)) = ny x1 y1 x2 y2 := by
  have hd : x2 - x1 ≠ 0 := fun h => hx (by grind)
  have hi := C.inv _ hd
  have e := chord_on h1 h2
  simp only [ad, if_neg hx]
  refine ⟨_, _, rfl, ?_, chord_e1 (slope hi rfl), chord_e2 (slope hi rfl)⟩
  refine C.cancel (z := (x2 - x1) * (x2 - x1) * (x2 - x1) * ((x2 - x1) * (x2 - x1) * (x2 - x1))) (C.mul_ne (C.mul_ne (C.mul_ne hd hd) hd) (C.mul_ne (C.mul_ne hd hd) hd)) ?_
  rw [← chord_e1 (slope hi rfl), ← chord_e2 (slope hi rfl)] at e
  exact chord_e3 e
theorem Cv.tangent {x y : K} (h : y * y = x * x * x - 3 * x + b) :
    ∃ x3 y3, C.ad (some (x, y)) (some (x, y)) = some (x3, y3) ∧ y3 * y3 = x3 * x3 * x3 - 3 * x3 + b ∧
      x3 * (2 * y * (2 * y)) = mx x y ∧ y3 * (2 * y * (2 * y) * (2 * y)) = my x y := by
  have hd : 2 * y ≠ 0 := C.mul_ne C.two (C.y_ne h)
  have hi := C.inv _ hd
  have e := double_on h
  simp only [ad, if_true]
  refine ⟨_, _, rfl, ?_, tang_e1 (slope hi rfl), tang_e2 (slope hi rfl)⟩
  refine C.cancel (z := 2 * y * (2 * y) * (2 * y) * (2 * y * (2 * y) * (2 * y))) (C.mul_ne (C.mul_ne (C.mul_ne hd hd) hd) (C.mul_ne (C.mul_ne hd hd) hd)) ?_
  rw [← tang_e1 (slope hi rfl), ← tang_e2 (slope hi rfl)] at e
  exact tang_e3 e
theorem Cv.ad_on {P Q : Option (K × K)} (hP : onC b P) (hQ : onC b Q) : onC b (C.ad P Q) := by
  rcases P with _ | ⟨x1, y1⟩
  · exact hQ
  rcases Q with _ | ⟨x2, y2⟩
  · exact hP
  simp only [onC] at hP hQ
  by_cases hx : x1 = x2
  · subst hx
    by_cases hy : y1 = y2
    · subst hy
      obtain ⟨x3, y3, e, h, -⟩ := C.tangent hP
      rw [e]; exact h
    · simp only [ad, if_true, if_neg hy]; trivial
  · obtain ⟨x3, y3, e, h, -⟩ := C.chord hP hQ hx
    rw [e]; exact h
theorem Cv.one_stands {P Q : Option (K × K)} (hP : onC b P) (hQ : onC b Q) {S T : K × K × K} (hS : S = match P with | none => (0, 1, 0) | some (x, y) => (x, y, 1))
    (hT : T = match Q with | none => (0, 1, 0) | some (x, y) => (x, y, 1)) : Stands (rcb b S T) (C.ad P Q) := by
  rcases P with _ | ⟨x1, y1⟩
  · subst hS
    simp only
    rcases Q with _ | ⟨x2, y2⟩
    · subst hT
      rw [rcb_left]
      simp only [ad, Stands]
      refine ⟨by grind, ?_, by grind⟩
      have := C.one_ne
      grind
    · subst hT
      rw [rcb_left]
      simp only [ad, Stands, onC] at hQ ⊢
      have := C.y_ne hQ
      refine ⟨by grind, by grind, by grind⟩
  rcases Q with _ | ⟨x2, y2⟩
  · subst hS hT
    rw [rcb_right]
    simp only [ad, Stands, onC] at hP ⊢
    have := C.y_ne hP
    refine ⟨by grind, by grind, by grind⟩
  subst hS hT
  simp only [onC] at hP hQ
  by_cases hx : x1 = x2
  · subst hx
    rcases C.opp_of hP hQ with hy | hy
    · subst hy
      obtain ⟨x3, y3, e, h, e1, e2⟩ := C.tangent hP
      rw [e, double_is hP]
      have h3 := C.y_ne hP
      have h2 := C.two
      refine ⟨?_, ?_, ?_⟩
      · have h8 : (8 : K) * (y2 * y2 * y2) = 2 * y2 * (2 * y2) * (2 * y2) := by grind
        rw [h8]
        exact C.mul_ne (C.mul_ne (C.mul_ne h2 h3) (C.mul_ne h2 h3)) (C.mul_ne h2 h3)
      · simp only; rw [← e1]; grind
      · simp only; rw [← e2]; grind
    · subst hy
      have hne : y1 ≠ -y1 := by
        intro h
        have : 2 * y1 = 0 := by grind
        exact C.mul_ne C.two (C.y_ne hP) this
      obtain ⟨x3, y3, e, h, e1, e2⟩ := C.tangent hP
      rw [opposite hP]
      simp only [ad, if_true, if_neg hne, Stands]
      refine ⟨trivial, ?_, trivial⟩
      rw [← e2]
      have h3 := C.mul_ne C.two (C.y_ne hP)
      exact C.mul_ne (C.y_ne h) (C.mul_ne (C.mul_ne h3 h3) h3)
  · obtain ⟨x3, y3, e, h, e1, e2⟩ := C.chord hP hQ hx
    have hQ' : -y2 * -y2 = x2 * x2 * x2 - 3 * x2 + b := by grind
    obtain ⟨x4, y4, -, h4, -, e4⟩ := C.chord hP hQ' hx
    have hd : x2 - x1 ≠ 0 := fun h => hx (by grind)
    rw [e]
    have f1 := chord_x hP hQ
    have f2 := chord_y hP hQ
    have f3 := chord_z hP hQ
    have hz : (rcb b (x1, y1, 1) (x2, y2, 1)).2.2 ≠ 0 := by
      rw [f3, ← e4]
      exact C.mul_ne (C.y_ne h4) (C.mul_ne (C.mul_ne hd hd) hd)
    refine ⟨hz, ?_, ?_⟩
    · refine C.cancel (C.mul_ne hd hd) ?_
      rw [f1, show (y2 - y1) * (y2 - y1) - (x1 + x2) * ((x2 - x1) * (x2 - x1)) = nx x1 y1 x2 y2 from rfl, ← e1]
      grind
    · refine C.cancel (C.mul_ne (C.mul_ne hd hd) hd) ?_
      rw [f2]
      change _ * ny x1 y1 x2 y2 = _
      rw [← e2]
      grind
omit C in
theorem Stands.scale {P : Option (K × K)} {k : K} {x y z : K} (h : Stands (x, y, z) P) (hm : ∀ a : K, a ≠ 0 → k * a ≠ 0) : Stands (k * x, k * y, k * z) P := by
  rcases P with _ | ⟨u, v⟩
  · obtain ⟨h1, h2, h3⟩ := h
    simp only at h1 h2 h3
    exact ⟨by simp only; grind, hm _ h2, by simp only; grind⟩
  · obtain ⟨h1, h2, h3⟩ := h
    simp only at h1 h2 h3
    exact ⟨hm _ h1, by simp only; grind, by simp only; grind⟩
omit C in
def lift3 : Option (K × K) → K × K × K
  | none => (0, 1, 0)
  | some (x, y) => (x, y, 1)
omit C in
theorem Stands.lift {P : Option (K × K)} {S : K × K × K} (h : Stands S P) : ∃ k, k ≠ 0 ∧ S = (k * (lift3 P).1, k * (lift3 P).2.1, k * (lift3 P).2.2) := by
  obtain ⟨a, b, c⟩ := S
  rcases P with _ | ⟨x, y⟩
  · obtain ⟨h1, h2, h3⟩ := h
    simp only at h1 h2 h3
    exact ⟨b, h2, by simp only [lift3, Prod.mk.injEq]; exact ⟨by grind, by grind, by grind⟩⟩
  · obtain ⟨h1, h2, h3⟩ := h
    simp only at h1 h2 h3
    exact ⟨c, h1, by simp only [lift3, Prod.mk.injEq]; exact ⟨by grind, by grind, by grind⟩⟩
theorem Cv.stands {P Q : Option (K × K)} (hP : onC b P) (hQ : onC b Q) {S T : K × K × K} (hS : Stands S P) (hT : Stands T Q) : Stands (rcb b S T) (C.ad P Q) := by
  obtain ⟨k, hk, rfl⟩ := hS.lift
  obtain ⟨l, hl, rfl⟩ := hT.lift
  have h : Stands (rcb b (lift3 P) (lift3 Q)) (C.ad P Q) := C.one_stands hP hQ (by rcases P with _ | ⟨x, y⟩ <;> rfl) (by rcases Q with _ | ⟨x, y⟩ <;> rfl)
  rw [rcb_scale]
  exact Stands.scale h fun a ha => C.mul_ne (C.mul_ne (C.mul_ne hk hk) (C.mul_ne hl hl)) ha
/-- two triples that go together stand for one point -/
theorem Cv.same {P Q : Option (K × K)} {S T : K × K × K} (hS : Stands S P) (hT : Stands T Q)
    (h1 : S.1 * T.2.2 = T.1 * S.2.2) (h2 : S.2.1 * T.2.2 = T.2.1 * S.2.2) : P = Q := by
  obtain ⟨a, b, c⟩ := S
  obtain ⟨d, e, f⟩ := T
  rcases P with _ | ⟨x, y⟩ <;> rcases Q with _ | ⟨x', y'⟩
  · rfl
  · obtain ⟨p1, p2, p3⟩ := hS
    obtain ⟨q1, q2, q3⟩ := hT
    simp only at *
    exact absurd (by grind) (C.mul_ne p2 q1)
  · obtain ⟨p1, p2, p3⟩ := hS
    obtain ⟨q1, q2, q3⟩ := hT
    simp only at *
    exact absurd (by grind) (C.mul_ne q2 p1)
  · obtain ⟨p1, p2, p3⟩ := hS
    obtain ⟨q1, q2, q3⟩ := hT
    simp only at *
    have hm := C.mul_ne p1 q1
    have e1 : x = x' := C.cancel hm (by grind)
    have e2 : y = y' := C.cancel hm (by grind)
    rw [e1, e2]
theorem Cv.ad_zero (P : Option (K × K)) : C.ad P none = P := by
  rcases P with _ | ⟨x, y⟩ <;> rfl
theorem Cv.zero_ad (P : Option (K × K)) : C.ad none P = P := rfl
theorem Cv.ad_none {P Q : Option (K × K)} (hP : onC b P) (hQ : onC b Q) (h : C.ad P Q = none) : Q = ng P := by
  rcases P with _ | ⟨x1, y1⟩
  · exact h
  rcases Q with _ | ⟨x2, y2⟩
  · rw [C.ad_zero] at h; cases h
  simp only [onC] at hP hQ
  by_cases hx : x1 = x2
  · subst hx
    rcases C.opp_of hP hQ with hy | hy
    · subst hy
      obtain ⟨x3, y3, e, -⟩ := C.tangent hP
      rw [e] at h; cases h
    · rw [hy]; rfl
  · obtain ⟨x3, y3, e, -⟩ := C.chord hP hQ hx
    rw [e] at h; cases h
theorem Cv.ad_ng {P : Option (K × K)} (hP : onC b P) : C.ad P (ng P) = none := by
  rcases P with _ | ⟨x, y⟩
  · rfl
  have hne : y ≠ -y := by
    intro h
    have : 2 * y = 0 := by grind
    exact C.mul_ne C.two (C.y_ne hP) this
  simp only [ng, ad, if_true, if_neg hne]

omit C
/-- one point's multiples -/
noncomputable def Cv.mg (C : Cv K b) (G : Option (K × K)) : Nat → Option (K × K)
  | 0 => none
  | k + 1 => C.ad (C.mg G k) G
include C
theorem Cv.mg_on {G : Option (K × K)} (hG : onC b G) : ∀ k, onC b (C.mg G k)
  | 0 => trivial
  | k + 1 => C.ad_on (Cv.mg_on hG k) hG
theorem Cv.mg_one (G : Option (K × K)) : C.mg G 1 = G := rfl
/-- adding G associates -/
def Cv.Assoc (C : Cv K b) (G : Option (K × K)) : Prop := ∀ A B, onC b A → onC b B → C.ad (C.ad A B) G = C.ad A (C.ad B G)
theorem Cv.mg_add {G : Option (K × K)} (hG : onC b G) (ha : C.Assoc G) (i : Nat) : ∀ j, C.ad (C.mg G i) (C.mg G j) = C.mg G (i + j)
  | 0 => C.ad_zero _
  | j + 1 => by
    show C.ad (C.mg G i) (C.ad (C.mg G j) G) = C.ad (C.mg G (i + j)) G
    rw [← ha _ _ (C.mg_on hG i) (C.mg_on hG j), Cv.mg_add hG ha i j]
theorem Cv.mg_order {G : Option (K × K)} (hG : onC b G) (ha : C.Assoc G) {n : Nat} (hn : C.mg G n = none) (q r : Nat) : C.mg G (n * q + r) = C.mg G r := by
  induction q with
  | zero => rw [Nat.mul_zero, Nat.zero_add]
  | succ q ih =>
    rw [show n * (q + 1) + r = n + (n * q + r) from by grind, ← C.mg_add hG ha, hn, C.zero_ad, ih]
theorem Cv.mg_mod {G : Option (K × K)} (hG : onC b G) (ha : C.Assoc G) {n : Nat} (hn : C.mg G n = none) (k : Nat) : C.mg G (k % n) = C.mg G k := by
  have h := C.mg_order hG ha hn (k / n) (k % n)
  rw [Nat.div_add_mod] at h
  exact h.symm
theorem Cv.mg_neg {G : Option (K × K)} (hG : onC b G) (ha : C.Assoc G) {n : Nat} (hn0 : 0 < n) (hn : C.mg G n = none) (k : Nat) : ng (C.mg G k) = C.mg G (n - k % n) := by
  symm
  refine C.ad_none (C.mg_on hG _) (C.mg_on hG _) ?_
  rw [← C.mg_mod hG ha hn k, C.mg_add hG ha, show k % n + (n - k % n) = n from by have := Nat.mod_lt k hn0; omega, hn]
/-- the multiples of a multiple -/
theorem Cv.mg_mul {G : Option (K × K)} (hG : onC b G) (ha : C.Assoc G) (m : Nat) : ∀ k, C.mg (C.mg G m) k = C.mg G (k * m)
  | 0 => by rw [Nat.zero_mul]; rfl
  | k + 1 => by
    show C.ad (C.mg (C.mg G m) k) (C.mg G m) = _
    rw [Cv.mg_mul hG ha m k, C.mg_add hG ha, Nat.succ_mul]
end
end Go.Proofs.Ytmmmcbklgmjalaa.Cw

/- Polynomials over the integers, told by their values at great numbers and by bounds of their coefficients: what is nought there is nought everywhere. -/
namespace Go.Proofs.Ytmmmcbklgmjalaa.Cw
open Lean.Grind

structure Ops (C : Type) where
  zero : C
  one : C
  add : C → C → C
  neg : C → C
  mul : C → C → C
structure Ev {C : Type} (O : Ops C) (K : Type) [CommRing K] where
  ev : C → K
  zero : ev O.zero = 0
  one : ev O.one = 1
  add : ∀ x y, ev (O.add x y) = ev x + ev y
  neg : ∀ x, ev (O.neg x) = -ev x
  mul : ∀ x y, ev (O.mul x y) = ev x * ev y

def padd {C : Type} (O : Ops C) : List C → List C → List C
  | [], q => q
  | a :: p, [] => a :: p
  | a :: p, b :: q => O.add a b :: padd O p q
def psmul {C : Type} (O : Ops C) (c : C) : List C → List C
  | [] => []
  | a :: p => O.mul c a :: psmul O c p
def pneg {C : Type} (O : Ops C) : List C → List C
  | [] => []
  | a :: p => O.neg a :: pneg O p
def pmul {C : Type} (O : Ops C) : List C → List C → List C
  | [], _ => []
  | a :: p, q => padd O (psmul O a q) (O.zero :: pmul O p q)
def polyO {C : Type} (O : Ops C) : Ops (List C) where
  zero := []
  one := [O.one]
  add := padd O
  neg := pneg O
  mul := pmul O
def quadO {C : Type} (O : Ops C) (f : C) : Ops (C × C) where
  zero := (O.zero, O.zero)
  one := (O.one, O.zero)
  add x y := (O.add x.1 y.1, O.add x.2 y.2)
  neg x := (O.neg x.1, O.neg x.2)
  mul x y := (O.add (O.mul x.1 y.1) (O.mul f (O.mul x.2 y.2)), O.add (O.mul x.1 y.2) (O.mul x.2 y.1))

section
variable {K : Type} [CommRing K] {C : Type} {O : Ops C}
def pev (E : Ev O K) (x : K) : List C → K
  | [] => 0
  | a :: p => E.ev a + x * pev E x p
theorem pev_add (E : Ev O K) (x : K) : ∀ p q, pev E x (padd O p q) = pev E x p + pev E x q
  | [], q => by simp only [padd, pev]; grind
  | a :: p, [] => by simp only [padd, pev]; grind
  | a :: p, b :: q => by simp only [padd, pev, pev_add E x p q, E.add]; grind
theorem pev_smul (E : Ev O K) (x : K) (c : C) : ∀ p, pev E x (psmul O c p) = E.ev c * pev E x p
  | [] => by simp only [psmul, pev]; grind
  | a :: p => by simp only [psmul, pev, pev_smul E x c p, E.mul]; grind
theorem pev_neg (E : Ev O K) (x : K) : ∀ p, pev E x (pneg O p) = -pev E x p
  | [] => by simp only [pneg, pev]; grind
  | a :: p => by simp only [pneg, pev, pev_neg E x p, E.neg]; grind
theorem pev_mul (E : Ev O K) (x : K) : ∀ p q, pev E x (pmul O p q) = pev E x p * pev E x q
  | [], q => by simp only [pmul, pev]; grind
  | a :: p, q => by simp only [pmul, pev, pev_add, pev_smul, pev_mul E x p q, E.zero]; grind
def polyE (E : Ev O K) (x : K) : Ev (polyO O) K where
  ev := pev E x
  zero := rfl
  one := by simp only [polyO, pev, E.one]; grind
  add := pev_add E x
  neg := pev_neg E x
  mul := pev_mul E x
def quadE (E : Ev O K) (y : K) (f : C) (h : y * y = E.ev f) : Ev (quadO O f) K where
  ev u := E.ev u.1 + E.ev u.2 * y
  zero := by simp only [quadO, E.zero]; grind
  one := by simp only [quadO, E.zero, E.one]; grind
  add u v := by simp only [quadO, E.add]; grind
  neg u := by simp only [quadO, E.neg]; grind
  mul u v := by simp only [quadO, E.add, E.mul, ← h]; grind
end

/-- a measure: no more for a sum, no more for a product -/
structure Nm {C : Type} (O : Ops C) where
  f : C → Nat
  zero : f O.zero = 0
  one : f O.one ≤ 1
  add : ∀ x y, f (O.add x y) ≤ f x + f y
  neg : ∀ x, f (O.neg x) = f x
  mul : ∀ x y, f (O.mul x y) ≤ f x * f y
section
variable {C : Type} {O : Ops C}
def nl (N : Nm O) : List C → Nat
  | [] => 0
  | a :: p => N.f a + nl N p
theorem nl_add (N : Nm O) : ∀ p q, nl N (padd O p q) ≤ nl N p + nl N q
  | [], q => by simp only [padd, nl]; omega
  | a :: p, [] => by simp only [padd, nl]; omega
  | a :: p, b :: q => by
    have h1 := nl_add N p q
    have h2 := N.add a b
    simp only [padd, nl]; omega
theorem nl_smul (N : Nm O) (c : C) : ∀ p, nl N (psmul O c p) ≤ N.f c * nl N p
  | [] => by simp only [psmul, nl]; omega
  | a :: p => by
    have h1 := nl_smul N c p
    have h2 := N.mul c a
    simp only [psmul, nl, Nat.mul_add]; omega
theorem nl_neg (N : Nm O) : ∀ p, nl N (pneg O p) = nl N p
  | [] => rfl
  | a :: p => by simp only [pneg, nl, nl_neg N p, N.neg]
theorem nl_mul (N : Nm O) : ∀ p q, nl N (pmul O p q) ≤ nl N p * nl N q
  | [], q => by simp only [pmul, nl]; omega
  | a :: p, q => by
    have h1 := nl_add N (psmul O a q) (O.zero :: pmul O p q)
    have h2 := nl_smul N a q
    have h3 := nl_mul N p q
    have h4 : nl N (O.zero :: pmul O p q) = nl N (pmul O p q) := by simp only [nl, N.zero]; omega
    simp only [pmul]
    rw [show nl N (a :: p) = N.f a + nl N p from rfl, Nat.add_mul]
    omega
def Nm.list (N : Nm O) : Nm (polyO O) where
  f := nl N
  zero := rfl
  one := by have := N.one; simp only [polyO, nl]; omega
  add := nl_add N
  neg := nl_neg N
  mul := nl_mul N
def Ev.nm (E : Ev O Int) : Nm O where
  f x := (E.ev x).natAbs
  zero := by rw [E.zero]; rfl
  one := by rw [E.one]; decide
  add x y := by rw [E.add]; exact Int.natAbs_add_le _ _
  neg x := by rw [E.neg]; exact Int.natAbs_neg _
  mul x y := by rw [E.mul, Int.natAbs_mul]; exact Nat.le_refl _
theorem nl_mem (N : Nm O) : ∀ (p : List C) c, c ∈ p → N.f c ≤ nl N p
  | [], c, h => by cases h
  | a :: p, c, h => by
    simp only [nl]
    rcases List.mem_cons.1 h with h | h
    · subst h; omega
    · have := nl_mem N p c h; omega
/-- a list whose value at a great number is nought has nothing but noughts -/
theorem pev_zero (E : Ev O Int) (X : Nat) : ∀ p : List C, 2 * nl E.nm p < X → pev E (X : Int) p = 0 → ∀ c ∈ p, E.ev c = 0
  | [], _, _, c, h => by cases h
  | a :: p, hn, hz, c, hc => by
    have e : nl E.nm (a :: p) = (E.ev a).natAbs + nl E.nm p := rfl
    have e2 : E.ev a + (X : Int) * pev E (X : Int) p = 0 := hz
    rw [e] at hn
    have h0 : E.ev a = 0 := by
      have hd : (X : Int) ∣ E.ev a := ⟨-(pev E (X : Int) p), by grind⟩
      have := Int.natAbs_dvd_natAbs.2 hd
      rw [Int.natAbs_natCast] at this
      rcases Nat.eq_zero_or_pos (E.ev a).natAbs with h | h
      · exact Int.natAbs_eq_zero.1 h
      · have := Nat.le_of_dvd h this
        omega
    rw [h0, Int.zero_add] at e2
    have h1 : pev E (X : Int) p = 0 := by
      rcases Int.mul_eq_zero.1 e2 with h | h
      · omega
      · exact h
    rcases List.mem_cons.1 hc with h | h
    · rw [h]; exact h0
    · exact pev_zero E X p (by omega) h1 c h
/-- what is nought at the great numbers is nought, if it is small enough -/
structure Zr {C : Type} (O : Ops C) (E : Ev O Int) (K : Type) [CommRing K] (F : Ev O K) where
  good : C → Prop
  zr : ∀ c, good c → E.ev c = 0 → F.ev c = 0
theorem pev_all {K : Type} [CommRing K] (F : Ev O K) (x : K) : ∀ p : List C, (∀ c ∈ p, F.ev c = 0) → pev F x p = 0
  | [], _ => rfl
  | a :: p, h => by
    rw [pev, h a (List.mem_cons_self), pev_all F x p fun c hc => h c (List.mem_cons_of_mem _ hc)]
    grind
def Zr.list {K : Type} [CommRing K] {E : Ev O Int} {F : Ev O K} (Z : Zr O E K F) (X : Nat) (x : K) : Zr (polyO O) (polyE E (X : Int)) K (polyE F x) where
  good p := (∀ c ∈ p, Z.good c) ∧ 2 * nl E.nm p < X
  zr p h hz := pev_all F x p fun c hc => Z.zr c (h.1 c hc) (pev_zero E X p h.2 hz c hc)
end
/-- what is computed goes with what it stands for -/
structure Rl {C D : Type} (O : Ops C) (P : Ops D) where
  r : C → D → Prop
  zero : r O.zero P.zero
  one : r O.one P.one
  add : ∀ x y u v, r x u → r y v → r (O.add x y) (P.add u v)
  neg : ∀ x u, r x u → r (O.neg x) (P.neg u)
  mul : ∀ x y u v, r x u → r y v → r (O.mul x y) (P.mul u v)
def Rl.quad {C D : Type} {O : Ops C} {P : Ops D} (R : Rl O P) (f : C) (g : D) (h : R.r f g) : Rl (quadO O f) (quadO P g) where
  r x u := R.r x.1 u.1 ∧ R.r x.2 u.2
  zero := ⟨R.zero, R.zero⟩
  one := ⟨R.one, R.zero⟩
  add _ _ _ _ h1 h2 := ⟨R.add _ _ _ _ h1.1 h2.1, R.add _ _ _ _ h1.2 h2.2⟩
  neg _ _ h1 := ⟨R.neg _ _ h1.1, R.neg _ _ h1.2⟩
  mul _ _ _ _ h1 h2 := ⟨R.add _ _ _ _ (R.mul _ _ _ _ h1.1 h2.1) (R.mul _ _ _ _ h (R.mul _ _ _ _ h1.2 h2.2)), R.add _ _ _ _ (R.mul _ _ _ _ h1.1 h2.2) (R.mul _ _ _ _ h1.2 h2.1)⟩

/-- the complete formulas, over whatever is computed -/
def rcbO {C : Type} (O : Ops C) (b : C) (P Q : C × C × C) : C × C × C :=
  let xx := O.mul P.1 Q.1
  let yy := O.mul P.2.1 Q.2.1
  let zz := O.mul P.2.2 Q.2.2
  let xy := O.add (O.mul P.1 Q.2.1) (O.mul P.2.1 Q.1)
  let xz := O.add (O.mul P.1 Q.2.2) (O.mul P.2.2 Q.1)
  let yz := O.add (O.mul P.2.1 Q.2.2) (O.mul P.2.2 Q.2.1)
  let d1 := O.add xz (O.neg (O.mul b zz))
  let s := O.add (O.add d1 d1) d1
  let d2 := O.add xx (O.neg zz)
  let t := O.add (O.add d2 d2) d2
  let d3 := O.add (O.add (O.mul b xz) (O.neg xx)) (O.neg (O.add (O.add zz zz) zz))
  let u := O.add (O.add d3 d3) d3
  (O.add (O.mul xy (O.add yy s)) (O.neg (O.mul yz u)), O.add (O.mul t u) (O.mul (O.add yy (O.neg s)) (O.add yy s)), O.add (O.mul yz (O.add yy (O.neg s))) (O.mul xy t))
def ev3 {C : Type} {O : Ops C} {K : Type} [CommRing K] (E : Ev O K) (P : C × C × C) : K × K × K := (E.ev P.1, E.ev P.2.1, E.ev P.2.2)
theorem rcbO_ev {C : Type} {O : Ops C} {K : Type} [CommRing K] (E : Ev O K) (b : C) (P Q : C × C × C) : ev3 E (rcbO O b P Q) = rcb (E.ev b) (ev3 E P) (ev3 E Q) := by
  simp only [ev3, rcbO, rcb, E.add, E.mul, E.neg, Prod.mk.injEq]
  generalize E.ev P.1 = a1
  generalize E.ev P.2.1 = a2
  generalize E.ev P.2.2 = a3
  generalize E.ev Q.1 = b1
  generalize E.ev Q.2.1 = b2
  generalize E.ev Q.2.2 = b3
  generalize E.ev b = bb
  refine ⟨?_, ?_, ?_⟩ <;> grind


def Rl.r3 {C D : Type} {O : Ops C} {P : Ops D} (R : Rl O P) (S : C × C × C) (T : D × D × D) : Prop := R.r S.1 T.1 ∧ R.r S.2.1 T.2.1 ∧ R.r S.2.2 T.2.2
theorem rcbO_rl {C D : Type} {O : Ops C} {P : Ops D} (R : Rl O P) {b : C} {b' : D} (hb : R.r b b') {S1 S2 : C × C × C} {T1 T2 : D × D × D} (h1 : R.r3 S1 T1) (h2 : R.r3 S2 T2) :
    R.r3 (rcbO O b S1 S2) (rcbO P b' T1 T2) := by
  obtain ⟨a1, a2, a3⟩ := h1
  obtain ⟨c1, c2, c3⟩ := h2
  have A := @R.add
  have M := @R.mul
  have N := @R.neg
  simp only [rcbO]
  have xx := M _ _ _ _ a1 c1
  have yy := M _ _ _ _ a2 c2
  have zz := M _ _ _ _ a3 c3
  have xy := A _ _ _ _ (M _ _ _ _ a1 c2) (M _ _ _ _ a2 c1)
  have xz := A _ _ _ _ (M _ _ _ _ a1 c3) (M _ _ _ _ a3 c1)
  have yz := A _ _ _ _ (M _ _ _ _ a2 c3) (M _ _ _ _ a3 c2)
  have d1 := A _ _ _ _ xz (N _ _ (M _ _ _ _ hb zz))
  have s := A _ _ _ _ (A _ _ _ _ d1 d1) d1
  have d2 := A _ _ _ _ xx (N _ _ zz)
  have t := A _ _ _ _ (A _ _ _ _ d2 d2) d2
  have d3 := A _ _ _ _ (A _ _ _ _ (M _ _ _ _ hb xz) (N _ _ xx)) (N _ _ (A _ _ _ _ (A _ _ _ _ zz zz) zz))
  have u := A _ _ _ _ (A _ _ _ _ d3 d3) d3
  exact ⟨A _ _ _ _ (M _ _ _ _ xy (A _ _ _ _ yy s)) (N _ _ (M _ _ _ _ yz u)), A _ _ _ _ (M _ _ _ _ t u) (M _ _ _ _ (A _ _ _ _ yy (N _ _ s)) (A _ _ _ _ yy s)), A _ _ _ _ (M _ _ _ _ yz (A _ _ _ _ yy (N _ _ s))) (M _ _ _ _ xy t)⟩
end Go.Proofs.Ytmmmcbklgmjalaa.Cw

/- Sums of three points of one curve associate: the cross products vanish as polynomials, which is computed at four great numbers. -/
namespace Go.Proofs.Ytmmmcbklgmjalaa.Cw
open Lean.Grind

def intO : Ops Int where
  zero := 0
  one := 1
  add x y := x + y
  neg x := -x
  mul x y := x * y
def intE : Ev intO Int where
  ev x := x
  zero := rfl
  one := rfl
  add _ _ := rfl
  neg _ := rfl
  mul _ _ := rfl
def intK (K : Type) [CommRing K] : Ev intO K where
  ev x := (Ring.intCast (α := K)).intCast x
  zero := by simp only [intO]; exact Ring.intCast_zero
  one := by simp only [intO]; exact Ring.intCast_one
  add x y := by simp only [intO]; exact Ring.intCast_add x y
  neg x := by simp only [intO]; exact Ring.intCast_neg x
  mul x y := by simp only [intO]; exact Ring.intCast_mul x y
def zr0 (K : Type) [CommRing K] : Zr intO intE K (intK K) where
  good _ := True
  zr c _ h := by
    have h : c = 0 := h
    subst h
    exact Ring.intCast_zero (α := K)

abbrev Q1 := List Int
abbrev Q2 := List Q1
abbrev Q3 := List Q2
abbrev Q4 := List Q3
def q1 : Ops Q1 := polyO intO
def q2 : Ops Q2 := polyO q1
def q3 : Ops Q3 := polyO q2
def q4 : Ops Q4 := polyO q3
section
variable (W0 W1 W2 W3 : Nat)
def e1 : Ev q1 Int := polyE intE (W0 : Int)
def e2 : Ev q2 Int := polyE (e1 W0) (W1 : Int)
def e3 : Ev q3 Int := polyE (e2 W0 W1) (W2 : Int)
def e4 : Ev q4 Int := polyE (e3 W0 W1 W2) (W3 : Int)
def m1 : Nm q4 := intE.nm.list.list.list.list
def m2 : Nm q4 := (e1 W0).nm.list.list.list
def m3 : Nm q4 := (e2 W0 W1).nm.list.list
def m4 : Nm q4 := (e3 W0 W1 W2).nm.list
/-- a value, and four bounds -/
structure Tv where
  v : Int
  n1 : Nat
  n2 : Nat
  n3 : Nat
  n4 : Nat
def tO : Ops Tv where
  zero := ⟨0, 0, 0, 0, 0⟩
  one := ⟨1, 1, 1, 1, 1⟩
  add x y := ⟨x.v + y.v, x.n1 + y.n1, x.n2 + y.n2, x.n3 + y.n3, x.n4 + y.n4⟩
  neg x := ⟨-x.v, x.n1, x.n2, x.n3, x.n4⟩
  mul x y := ⟨x.v * y.v, x.n1 * y.n1, x.n2 * y.n2, x.n3 * y.n3, x.n4 * y.n4⟩
def tR : Rl q4 tO where
  r p t := (e4 W0 W1 W2 W3).ev p = t.v ∧ m1.f p ≤ t.n1 ∧ (m2 W0).f p ≤ t.n2 ∧ (m3 W0 W1).f p ≤ t.n3 ∧ (m4 W0 W1 W2).f p ≤ t.n4
  zero := ⟨(e4 W0 W1 W2 W3).zero, by rw [m1.zero]; exact Nat.zero_le _, by rw [(m2 W0).zero]; exact Nat.zero_le _, by rw [(m3 W0 W1).zero]; exact Nat.zero_le _, by rw [(m4 W0 W1 W2).zero]; exact Nat.zero_le _⟩
  one := ⟨(e4 W0 W1 W2 W3).one, m1.one, (m2 W0).one, (m3 W0 W1).one, (m4 W0 W1 W2).one⟩
  add x y u v h1 h2 := by
    obtain ⟨a1, a2, a3, a4, a5⟩ := h1
    obtain ⟨b1, b2, b3, b4, b5⟩ := h2
    refine ⟨?_, Nat.le_trans (m1.add _ _) (Nat.add_le_add a2 b2), Nat.le_trans ((m2 W0).add _ _) (Nat.add_le_add a3 b3), Nat.le_trans ((m3 W0 W1).add _ _) (Nat.add_le_add a4 b4), Nat.le_trans ((m4 W0 W1 W2).add _ _) (Nat.add_le_add a5 b5)⟩
    rw [(e4 W0 W1 W2 W3).add, a1, b1]; rfl
  neg x u h1 := by
    obtain ⟨a1, a2, a3, a4, a5⟩ := h1
    refine ⟨?_, by rw [m1.neg]; exact a2, by rw [(m2 W0).neg]; exact a3, by rw [(m3 W0 W1).neg]; exact a4, by rw [(m4 W0 W1 W2).neg]; exact a5⟩
    rw [(e4 W0 W1 W2 W3).neg, a1]; rfl
  mul x y u v h1 h2 := by
    obtain ⟨a1, a2, a3, a4, a5⟩ := h1
    obtain ⟨b1, b2, b3, b4, b5⟩ := h2
    refine ⟨?_, Nat.le_trans (m1.mul _ _) (Nat.mul_le_mul a2 b2), Nat.le_trans ((m2 W0).mul _ _) (Nat.mul_le_mul a3 b3), Nat.le_trans ((m3 W0 W1).mul _ _) (Nat.mul_le_mul a4 b4), Nat.le_trans ((m4 W0 W1 W2).mul _ _) (Nat.mul_le_mul a5 b5)⟩
    rw [(e4 W0 W1 W2 W3).mul, a1, b1]; rfl
/-- small enough, and nought -/
def tz (t : Tv) : Bool := t.v == 0 && decide (2 * t.n1 < W0) && decide (2 * t.n2 < W1) && decide (2 * t.n3 < W2) && decide (2 * t.n4 < W3)
variable {K : Type} [CommRing K] (k0 k1 k2 k3 : K)
def f4 : Ev q4 K := polyE (polyE (polyE (polyE (intK K) k0) k1) k2) k3
def zr4 : Zr q4 (e4 W0 W1 W2 W3) K (f4 k0 k1 k2 k3) := ((((zr0 K).list W0 k0).list W1 k1).list W2 k2).list W3 k3
theorem tz_zero {p : Q4} {t : Tv} (h : (tR W0 W1 W2 W3).r p t) (hz : tz W0 W1 W2 W3 t = true) : (f4 k0 k1 k2 k3).ev p = 0 := by
  obtain ⟨a1, a2, a3, a4, a5⟩ := h
  simp only [tz, Bool.and_eq_true, decide_eq_true_eq, beq_iff_eq] at hz
  obtain ⟨⟨⟨⟨b1, b2⟩, b3⟩, b4⟩, b5⟩ := hz
  refine (zr4 W0 W1 W2 W3 k0 k1 k2 k3).zr p ?_ (by rw [a1, b1])
  refine ⟨fun c hc => ?_, by show 2 * (m4 W0 W1 W2).f p < W3; omega⟩
  have h3 := nl_mem (e2 W0 W1).nm.list p c hc
  have h3' : nl (e2 W0 W1).nm.list p = (m3 W0 W1).f p := rfl
  have h2 := nl_mem (e1 W0).nm.list.list p c hc
  have h2' : nl (e1 W0).nm.list.list p = (m2 W0).f p := rfl
  have h1 := nl_mem intE.nm.list.list.list p c hc
  have h1' : nl intE.nm.list.list.list p = m1.f p := rfl
  refine ⟨fun d hd => ?_, by
    show 2 * (e2 W0 W1).nm.list.f c < W2
    omega⟩
  have g2 := nl_mem (e1 W0).nm.list c d hd
  have g2' : nl (e1 W0).nm.list c = (e1 W0).nm.list.list.f c := rfl
  have g1 := nl_mem intE.nm.list.list c d hd
  have g1' : nl intE.nm.list.list c = intE.nm.list.list.list.f c := rfl
  refine ⟨fun a ha => ?_, by
    show 2 * (e1 W0).nm.list.f d < W1
    omega⟩
  have j1 := nl_mem intE.nm.list d a ha
  have j1' : nl intE.nm.list d = intE.nm.list.list.f d := rfl
  refine ⟨fun _ _ => trivial, ?_⟩
  show 2 * intE.nm.list.f a < W0
  omega
end
end Go.Proofs.Ytmmmcbklgmjalaa.Cw

/- Any three points of one curve, summed by the complete formulas: how they are bracketed makes no difference. -/
namespace Go.Proofs.Ytmmmcbklgmjalaa.Cw
open Lean.Grind

section
variable (W0 W1 W2 W3 : Nat)
/-- the variables b, x1, x3, x2: as polynomials, and as values -/
def pb : Q4 := [[[[0, 1]]]]
def px1 : Q4 := [[[[], [1]]]]
def px3 : Q4 := [[[], [[1]]]]
def px2 : Q4 := [[], [[[1]]]]
def tb : Tv := ⟨W0, 1, W0, W0, W0⟩
def tx1 : Tv := ⟨W1, 1, 1, W1, W1⟩
def tx3 : Tv := ⟨W2, 1, 1, 1, W2⟩
def tx2 : Tv := ⟨W3, 1, 1, 1, 1⟩
theorem rb : (tR W0 W1 W2 W3).r pb (tb W0) := by
  refine ⟨?_, ?_, ?_, ?_, ?_⟩ <;> simp [pb, tb, e4, e3, e2, e1, polyE, pev, intE, m1, m2, m3, m4, Nm.list, nl, Ev.nm]
theorem rx1 : (tR W0 W1 W2 W3).r px1 (tx1 W1) := by
  refine ⟨?_, ?_, ?_, ?_, ?_⟩ <;> simp [px1, tx1, e4, e3, e2, e1, polyE, pev, intE, m1, m2, m3, m4, Nm.list, nl, Ev.nm]
theorem rx3 : (tR W0 W1 W2 W3).r px3 (tx3 W2) := by
  refine ⟨?_, ?_, ?_, ?_, ?_⟩ <;> simp [px3, tx3, e4, e3, e2, e1, polyE, pev, intE, m1, m2, m3, m4, Nm.list, nl, Ev.nm]
theorem rx2 : (tR W0 W1 W2 W3).r px2 (tx2 W3) := by
  refine ⟨?_, ?_, ?_, ?_, ?_⟩ <;> simp [px2, tx2, e4, e3, e2, e1, polyE, pev, intE, m1, m2, m3, m4, Nm.list, nl, Ev.nm]
end
/-- x^3 - 3x + b -/
def cubO {C : Type} (O : Ops C) (b x : C) : C := O.add (O.add (O.mul (O.mul x x) x) (O.neg (O.add (O.add x x) x))) b
theorem cubO_rl {C D : Type} {O : Ops C} {P : Ops D} (R : Rl O P) {b x : C} {b' x' : D} (hb : R.r b b') (hx : R.r x x') : R.r (cubO O b x) (cubO P b' x') :=
  R.add _ _ _ _ (R.add _ _ _ _ (R.mul _ _ _ _ (R.mul _ _ _ _ hx hx) hx) (R.neg _ _ (R.add _ _ _ _ (R.add _ _ _ _ hx hx) hx))) hb
theorem cubO_ev {C : Type} {O : Ops C} {K : Type} [CommRing K] (E : Ev O K) (b x : C) : E.ev (cubO O b x) = E.ev x * E.ev x * E.ev x - 3 * E.ev x + E.ev b := by
  simp only [cubO, E.add, E.mul, E.neg]
  grind
section
variable {C : Type} (O : Ops C) (b x1 x2 x3 : C)
abbrev C8 (C : Type) : Type := ((C × C) × (C × C)) × ((C × C) × (C × C))
def up1 (c : C) : C × C := (c, O.zero)
def up2 (c : C) : (C × C) × (C × C) := ((c, O.zero), (O.zero, O.zero))
def up3 (c : C) : C8 C := (((c, O.zero), (O.zero, O.zero)), ((O.zero, O.zero), (O.zero, O.zero)))
def w1 : Ops (C × C) := quadO O (cubO O b x1)
def w2 : Ops ((C × C) × (C × C)) := quadO (w1 O b x1) (up1 O (cubO O b x2))
def w3 : Ops (C8 C) := quadO (w2 O b x1 x2) (up2 O (cubO O b x3))
def vy1 : C8 C := (((O.zero, O.one), (O.zero, O.zero)), ((O.zero, O.zero), (O.zero, O.zero)))
def vy2 : C8 C := (((O.zero, O.zero), (O.one, O.zero)), ((O.zero, O.zero), (O.zero, O.zero)))
def vy3 : C8 C := (((O.zero, O.zero), (O.zero, O.zero)), ((O.one, O.zero), (O.zero, O.zero)))
def lhsO : C8 C × C8 C × C8 C :=
  rcbO (w3 O b x1 x2 x3) (up3 O b) (rcbO (w3 O b x1 x2 x3) (up3 O b) (up3 O x1, vy1 O, up3 O O.one) (up3 O x2, vy2 O, up3 O O.one)) (up3 O x3, vy3 O, up3 O O.one)
def rhsO : C8 C × C8 C × C8 C :=
  rcbO (w3 O b x1 x2 x3) (up3 O b) (up3 O x1, vy1 O, up3 O O.one) (rcbO (w3 O b x1 x2 x3) (up3 O b) (up3 O x2, vy2 O, up3 O O.one) (up3 O x3, vy3 O, up3 O O.one))
def crossX (S T : C8 C × C8 C × C8 C) : C8 C := (w3 O b x1 x2 x3).add ((w3 O b x1 x2 x3).mul S.1 T.2.2) ((w3 O b x1 x2 x3).neg ((w3 O b x1 x2 x3).mul T.1 S.2.2))
def crossY (S T : C8 C × C8 C × C8 C) : C8 C := (w3 O b x1 x2 x3).add ((w3 O b x1 x2 x3).mul S.2.1 T.2.2) ((w3 O b x1 x2 x3).neg ((w3 O b x1 x2 x3).mul T.2.1 S.2.2))
def all8 (z : C → Bool) (c : C8 C) : Bool :=
  z c.1.1.1 && z c.1.1.2 && z c.1.2.1 && z c.1.2.2 && z c.2.1.1 && z c.2.1.2 && z c.2.2.1 && z c.2.2.2
end
section
variable {C D : Type} {O : Ops C} {P : Ops D} (R : Rl O P) {b x1 x2 x3 : C} {b' x1' x2' x3' : D}
  (hb : R.r b b') (h1 : R.r x1 x1') (h2 : R.r x2 x2') (h3 : R.r x3 x3')
def w3R : Rl (w3 O b x1 x2 x3) (w3 P b' x1' x2' x3') :=
  ((R.quad _ _ (cubO_rl R hb h1)).quad _ _ ⟨cubO_rl R hb h2, R.zero⟩).quad _ _ ⟨⟨cubO_rl R hb h3, R.zero⟩, ⟨R.zero, R.zero⟩⟩
theorem up3_rl {c : C} {d : D} (h : R.r c d) : (w3R R hb h1 h2 h3).r (up3 O c) (up3 P d) := ⟨⟨⟨h, R.zero⟩, ⟨R.zero, R.zero⟩⟩, ⟨⟨R.zero, R.zero⟩, ⟨R.zero, R.zero⟩⟩⟩
theorem vy1_rl : (w3R R hb h1 h2 h3).r (vy1 O) (vy1 P) := ⟨⟨⟨R.zero, R.one⟩, ⟨R.zero, R.zero⟩⟩, ⟨⟨R.zero, R.zero⟩, ⟨R.zero, R.zero⟩⟩⟩
theorem vy2_rl : (w3R R hb h1 h2 h3).r (vy2 O) (vy2 P) := ⟨⟨⟨R.zero, R.zero⟩, ⟨R.one, R.zero⟩⟩, ⟨⟨R.zero, R.zero⟩, ⟨R.zero, R.zero⟩⟩⟩
theorem vy3_rl : (w3R R hb h1 h2 h3).r (vy3 O) (vy3 P) := ⟨⟨⟨R.zero, R.zero⟩, ⟨R.zero, R.zero⟩⟩, ⟨⟨R.one, R.zero⟩, ⟨R.zero, R.zero⟩⟩⟩
theorem lhs_rl : (w3R R hb h1 h2 h3).r3 (lhsO O b x1 x2 x3) (lhsO P b' x1' x2' x3') :=
  rcbO_rl _ (up3_rl R hb h1 h2 h3 hb) (rcbO_rl _ (up3_rl R hb h1 h2 h3 hb) ⟨up3_rl R hb h1 h2 h3 h1, vy1_rl R hb h1 h2 h3, up3_rl R hb h1 h2 h3 R.one⟩ ⟨up3_rl R hb h1 h2 h3 h2, vy2_rl R hb h1 h2 h3, up3_rl R hb h1 h2 h3 R.one⟩)
    ⟨up3_rl R hb h1 h2 h3 h3, vy3_rl R hb h1 h2 h3, up3_rl R hb h1 h2 h3 R.one⟩
theorem rhs_rl : (w3R R hb h1 h2 h3).r3 (rhsO O b x1 x2 x3) (rhsO P b' x1' x2' x3') :=
  rcbO_rl _ (up3_rl R hb h1 h2 h3 hb) ⟨up3_rl R hb h1 h2 h3 h1, vy1_rl R hb h1 h2 h3, up3_rl R hb h1 h2 h3 R.one⟩
    (rcbO_rl _ (up3_rl R hb h1 h2 h3 hb) ⟨up3_rl R hb h1 h2 h3 h2, vy2_rl R hb h1 h2 h3, up3_rl R hb h1 h2 h3 R.one⟩ ⟨up3_rl R hb h1 h2 h3 h3, vy3_rl R hb h1 h2 h3, up3_rl R hb h1 h2 h3 R.one⟩)
theorem crossX_rl {S S2 : C8 C × C8 C × C8 C} {T T2 : C8 D × C8 D × C8 D} (g : (w3R R hb h1 h2 h3).r3 S T) (g2 : (w3R R hb h1 h2 h3).r3 S2 T2) :
    (w3R R hb h1 h2 h3).r (crossX O b x1 x2 x3 S S2) (crossX P b' x1' x2' x3' T T2) :=
  (w3R R hb h1 h2 h3).add _ _ _ _ ((w3R R hb h1 h2 h3).mul _ _ _ _ g.1 g2.2.2) ((w3R R hb h1 h2 h3).neg _ _ ((w3R R hb h1 h2 h3).mul _ _ _ _ g2.1 g.2.2))
theorem crossY_rl {S S2 : C8 C × C8 C × C8 C} {T T2 : C8 D × C8 D × C8 D} (g : (w3R R hb h1 h2 h3).r3 S T) (g2 : (w3R R hb h1 h2 h3).r3 S2 T2) :
    (w3R R hb h1 h2 h3).r (crossY O b x1 x2 x3 S S2) (crossY P b' x1' x2' x3' T T2) :=
  (w3R R hb h1 h2 h3).add _ _ _ _ ((w3R R hb h1 h2 h3).mul _ _ _ _ g.2.1 g2.2.2) ((w3R R hb h1 h2 h3).neg _ _ ((w3R R hb h1 h2 h3).mul _ _ _ _ g2.2.1 g.2.2))
theorem all8_zero {K : Type} [CommRing K] (F : C → K) (z : D → Bool) (hz : ∀ c d, R.r c d → z d = true → F c = 0) {c : C8 C} {d : C8 D} (h : (w3R R hb h1 h2 h3).r c d) (hd : all8 z d = true) :
    F c.1.1.1 = 0 ∧ F c.1.1.2 = 0 ∧ F c.1.2.1 = 0 ∧ F c.1.2.2 = 0 ∧ F c.2.1.1 = 0 ∧ F c.2.1.2 = 0 ∧ F c.2.2.1 = 0 ∧ F c.2.2.2 = 0 := by
  simp only [all8, Bool.and_eq_true] at hd
  obtain ⟨⟨⟨⟨⟨⟨⟨d1, d2⟩, d3⟩, d4⟩, d5⟩, d6⟩, d7⟩, d8⟩ := hd
  obtain ⟨⟨⟨a1, a2⟩, ⟨a3, a4⟩⟩, ⟨⟨a5, a6⟩, ⟨a7, a8⟩⟩⟩ := h
  exact ⟨hz _ _ a1 d1, hz _ _ a2 d2, hz _ _ a3 d3, hz _ _ a4 d4, hz _ _ a5 d5, hz _ _ a6 d6, hz _ _ a7 d7, hz _ _ a8 d8⟩
end
def V0 : Nat := 2 ^ 43
def V1 : Nat := 2 ^ 410
def V2 : Nat := 2 ^ 3962
def V3 : Nat := 2 ^ 39481
def computedAt (W0 W1 W2 W3 : Nat) : Bool :=
  all8 (tz W0 W1 W2 W3) (crossX tO (tb W0) (tx1 W1) (tx2 W3) (tx3 W2) (lhsO tO (tb W0) (tx1 W1) (tx2 W3) (tx3 W2)) (rhsO tO (tb W0) (tx1 W1) (tx2 W3) (tx3 W2)))
    && all8 (tz W0 W1 W2 W3) (crossY tO (tb W0) (tx1 W1) (tx2 W3) (tx3 W2) (lhsO tO (tb W0) (tx1 W1) (tx2 W3) (tx3 W2)) (rhsO tO (tb W0) (tx1 W1) (tx2 W3) (tx3 W2)))
theorem computed_true : computedAt V0 V1 V2 V3 = true := by decide +kernel
end Go.Proofs.Ytmmmcbklgmjalaa.Cw

/- Sums of three points of one curve associate, over any ring; so the multiples of a point add. -/
namespace Go.Proofs.Ytmmmcbklgmjalaa.Cw
open Lean.Grind

section
variable {K : Type} [CommRing K] (b x1 x2 x3 : K)
theorem icast1 : (Ring.intCast (α := K)).intCast 1 = 1 := Ring.intCast_one (α := K)
theorem icast0 : (Ring.intCast (α := K)).intCast 0 = 0 := Ring.intCast_zero (α := K)
theorem f4_b : (f4 b x1 x3 x2).ev pb = b := by
  simp only [f4, polyE, pev, intK, pb, icast1, icast0]; grind
theorem f4_x1 : (f4 b x1 x3 x2).ev px1 = x1 := by
  simp only [f4, polyE, pev, intK, px1, icast1]; grind
theorem f4_x3 : (f4 b x1 x3 x2).ev px3 = x3 := by
  simp only [f4, polyE, pev, intK, px3, icast1]; grind
theorem f4_x2 : (f4 b x1 x3 x2).ev px2 = x2 := by
  simp only [f4, polyE, pev, intK, px2, icast1]; grind
variable {b x1 x2 x3} {y1 y2 y3 : K} (h1 : y1 * y1 = x1 * x1 * x1 - 3 * x1 + b) (h2 : y2 * y2 = x2 * x2 * x2 - 3 * x2 + b) (h3 : y3 * y3 = x3 * x3 * x3 - 3 * x3 + b)
def F1 : Ev (w1 q4 pb px1) K := quadE (f4 b x1 x3 x2) y1 _ (by rw [cubO_ev, f4_b, f4_x1]; exact h1)
theorem F1_up (c : Q4) : (F1 (x2 := x2) (x3 := x3) h1).ev (up1 q4 c) = (f4 b x1 x3 x2).ev c := by
  simp only [F1, quadE, up1, (f4 b x1 x3 x2).zero]; grind
def F2 : Ev (w2 q4 pb px1 px2) K := quadE (F1 (x2 := x2) (x3 := x3) h1) y2 _ (by rw [F1_up, cubO_ev, f4_b, f4_x2]; exact h2)
theorem F2_up (c : Q4) : (F2 (x3 := x3) h1 h2).ev (up2 q4 c) = (f4 b x1 x3 x2).ev c := by
  simp only [F2, F1, quadE, up2, (f4 b x1 x3 x2).zero]; grind
def F3 : Ev (w3 q4 pb px1 px2 px3) K := quadE (F2 (x3 := x3) h1 h2) y3 _ (by rw [F2_up, cubO_ev, f4_b, f4_x3]; exact h3)
theorem F3_up (c : Q4) : (F3 h1 h2 h3).ev (up3 q4 c) = (f4 b x1 x3 x2).ev c := by
  simp only [F3, F2, F1, quadE, up3, (f4 b x1 x3 x2).zero]; grind
theorem F3_y1 : (F3 h1 h2 h3).ev (vy1 q4) = y1 := by
  simp only [F3, F2, F1, quadE, vy1, (f4 b x1 x3 x2).zero, (f4 b x1 x3 x2).one]; grind
theorem F3_y2 : (F3 h1 h2 h3).ev (vy2 q4) = y2 := by
  simp only [F3, F2, F1, quadE, vy2, (f4 b x1 x3 x2).zero, (f4 b x1 x3 x2).one]; grind
theorem F3_y3 : (F3 h1 h2 h3).ev (vy3 q4) = y3 := by
  simp only [F3, F2, F1, quadE, vy3, (f4 b x1 x3 x2).zero, (f4 b x1 x3 x2).one]; grind
theorem F3_all {c : C8 Q4} (h : (f4 b x1 x3 x2).ev c.1.1.1 = 0 ∧ (f4 b x1 x3 x2).ev c.1.1.2 = 0 ∧ (f4 b x1 x3 x2).ev c.1.2.1 = 0 ∧ (f4 b x1 x3 x2).ev c.1.2.2 = 0 ∧
    (f4 b x1 x3 x2).ev c.2.1.1 = 0 ∧ (f4 b x1 x3 x2).ev c.2.1.2 = 0 ∧ (f4 b x1 x3 x2).ev c.2.2.1 = 0 ∧ (f4 b x1 x3 x2).ev c.2.2.2 = 0) : (F3 h1 h2 h3).ev c = 0 := by
  obtain ⟨a1, a2, a3, a4, a5, a6, a7, a8⟩ := h
  simp only [F3, F2, F1, quadE, a1, a2, a3, a4, a5, a6, a7, a8]; grind
theorem lhs_ev : ev3 (F3 h1 h2 h3) (lhsO q4 pb px1 px2 px3) = rcb b (rcb b (x1, y1, 1) (x2, y2, 1)) (x3, y3, 1) := by
  rw [lhsO, rcbO_ev, rcbO_ev, F3_up, f4_b]
  simp only [ev3, F3_up, F3_y1, F3_y2, F3_y3, f4_x1, f4_x2, f4_x3, (f4 b x1 x3 x2).one]
theorem rhs_ev : ev3 (F3 h1 h2 h3) (rhsO q4 pb px1 px2 px3) = rcb b (x1, y1, 1) (rcb b (x2, y2, 1) (x3, y3, 1)) := by
  rw [rhsO, rcbO_ev, rcbO_ev, F3_up, f4_b]
  simp only [ev3, F3_up, F3_y1, F3_y2, F3_y3, f4_x1, f4_x2, f4_x3, (f4 b x1 x3 x2).one]
include h1 h2 h3 in
theorem assoc_cross_of {W0 W1 W2 W3 : Nat} (hc : computedAt W0 W1 W2 W3 = true) : (rcb b (rcb b (x1, y1, 1) (x2, y2, 1)) (x3, y3, 1)).1 * (rcb b (x1, y1, 1) (rcb b (x2, y2, 1) (x3, y3, 1))).2.2 = (rcb b (x1, y1, 1) (rcb b (x2, y2, 1) (x3, y3, 1))).1 * (rcb b (rcb b (x1, y1, 1) (x2, y2, 1)) (x3, y3, 1)).2.2 ∧
    (rcb b (rcb b (x1, y1, 1) (x2, y2, 1)) (x3, y3, 1)).2.1 * (rcb b (x1, y1, 1) (rcb b (x2, y2, 1) (x3, y3, 1))).2.2 = (rcb b (x1, y1, 1) (rcb b (x2, y2, 1) (x3, y3, 1))).2.1 * (rcb b (rcb b (x1, y1, 1) (x2, y2, 1)) (x3, y3, 1)).2.2 := by
  simp only [computedAt, Bool.and_eq_true] at hc
  have B := rb W0 W1 W2 W3
  have X1 := rx1 W0 W1 W2 W3
  have X2 := rx2 W0 W1 W2 W3
  have X3 := rx3 W0 W1 W2 W3
  have gl := lhs_rl _ B X1 X2 X3
  have gr := rhs_rl _ B X1 X2 X3
  have z1 := all8_zero _ B X1 X2 X3 (f4 b x1 x3 x2).ev (tz W0 W1 W2 W3) (fun _ _ => tz_zero W0 W1 W2 W3 b x1 x3 x2) (crossX_rl _ B X1 X2 X3 gl gr) hc.1
  have z2 := all8_zero _ B X1 X2 X3 (f4 b x1 x3 x2).ev (tz W0 W1 W2 W3) (fun _ _ => tz_zero W0 W1 W2 W3 b x1 x3 x2) (crossY_rl _ B X1 X2 X3 gl gr) hc.2
  have e1 := F3_all h1 h2 h3 z1
  have e2 := F3_all h1 h2 h3 z2
  have l := lhs_ev h1 h2 h3
  have r := rhs_ev h1 h2 h3
  rw [crossX, (F3 h1 h2 h3).add, (F3 h1 h2 h3).neg, (F3 h1 h2 h3).mul, (F3 h1 h2 h3).mul] at e1
  rw [crossY, (F3 h1 h2 h3).add, (F3 h1 h2 h3).neg, (F3 h1 h2 h3).mul, (F3 h1 h2 h3).mul] at e2
  rw [← l, ← r]
  simp only [ev3]
  exact ⟨by grind, by grind⟩
end
section
variable {K : Type} [CommRing K] {b : K} (C : Cv K b)
include C
theorem Cv.assoc (A B G : Option (K × K)) (hA : onC b A) (hB : onC b B) (hG : onC b G) : C.ad (C.ad A B) G = C.ad A (C.ad B G) := by
  rcases A with _ | ⟨x1, y1⟩
  · rfl
  rcases B with _ | ⟨x2, y2⟩
  · rfl
  rcases G with _ | ⟨x3, y3⟩
  · rw [C.ad_zero, C.ad_zero]
  have sA : Stands (x1, y1, (1 : K)) (some (x1, y1)) := ⟨C.one_ne, by simp only; grind, by simp only; grind⟩
  have sB : Stands (x2, y2, (1 : K)) (some (x2, y2)) := ⟨C.one_ne, by simp only; grind, by simp only; grind⟩
  have sG : Stands (x3, y3, (1 : K)) (some (x3, y3)) := ⟨C.one_ne, by simp only; grind, by simp only; grind⟩
  have l := C.stands (C.ad_on hA hB) hG (C.stands hA hB sA sB) sG
  have r := C.stands hA (C.ad_on hB hG) sA (C.stands hB hG sB sG)
  obtain ⟨c1, c2⟩ := assoc_cross_of hA hB hG computed_true
  exact C.same l r c1 c2
theorem Cv.assocG {G : Option (K × K)} (hG : onC b G) : C.Assoc G := fun A B hA hB => C.assoc A B G hA hB hG
end
end Go.Proofs.Ytmmmcbklgmjalaa.Cw

/- Fermat's little theorem, and a number all of whose odd divisors are great: numbers alone. -/
namespace Go.Proofs.Ytmmmcbklgmjalaa

def ch : Nat → Nat → Nat
  | _, 0 => 1
  | 0, _ + 1 => 0
  | n + 1, k + 1 => ch n k + ch n (k + 1)
theorem ch_over : ∀ n k, n < k → ch n k = 0
  | 0, 0, h => by omega
  | 0, k + 1, _ => rfl
  | n + 1, 0, h => by omega
  | n + 1, k + 1, h => by rw [ch, ch_over n k (by omega), ch_over n (k + 1) (by omega)]
theorem ch_zero (n : Nat) : ch n 0 = 1 := by cases n <;> rfl
theorem ch_self : ∀ n, ch n n = 1
  | 0 => rfl
  | n + 1 => by rw [ch, ch_self n, ch_over n (n + 1) (by omega)]
theorem ch_mul : ∀ n k, (k + 1) * ch (n + 1) (k + 1) = (n + 1) * ch n k
  | 0, 0 => rfl
  | 0, k + 1 => by rw [ch_over (0 + 1) (k + 1 + 1) (by omega), ch_over 0 (k + 1) (by omega)]; rfl
  | n + 1, 0 => by
      have h := ch_mul n 0
      rw [ch_zero] at h ⊢
      rw [ch, ch_zero]
      grind
  | n + 1, k + 1 => by
      have h1 := ch_mul n k
      have h2 := ch_mul n (k + 1)
      have e1 : ch (n + 2) (k + 2) = ch (n + 1) (k + 1) + ch (n + 1) (k + 2) := rfl
      have e2 : ch (n + 1) (k + 1) = ch n k + ch n (k + 1) := rfl
      rw [e1]
      generalize ch (n + 1) (k + 2) = X at *
      rw [e2] at h1 ⊢
      generalize ch n k = A at *
      generalize ch n (k + 1) = B at *
      grind
/-- the first k terms of (a + 1)^n -/
def bs (a n : Nat) : Nat → Nat
  | 0 => 0
  | k + 1 => bs a n k + ch n k * a ^ k
theorem bs_succ (a n : Nat) : ∀ k, bs a (n + 1) (k + 1) = a * bs a n k + bs a n (k + 1)
  | 0 => by simp [bs, ch_zero]
  | k + 1 => by
      have h := bs_succ a n k
      have e : ch (n + 1) (k + 1) = ch n k + ch n (k + 1) := rfl
      rw [bs, h, e, bs, bs, bs, Nat.pow_succ]
      grind
theorem bs_over (a n : Nat) : bs a n (n + 2) = bs a n (n + 1) := by
  rw [bs, ch_over n (n + 1) (by omega), Nat.zero_mul, Nat.add_zero]
theorem binomial (a : Nat) : ∀ n, (a + 1) ^ n = bs a n (n + 1)
  | 0 => by simp [bs, ch]
  | n + 1 => by
      have h := binomial a n
      rw [bs_succ, bs_over, ← h, Nat.pow_succ]
      grind

def IsP (p : Nat) : Prop := 1 < p ∧ ∀ d, d ∣ p → d = 1 ∨ d = p
theorem IsP.cop {p n : Nat} (h : IsP p) (hn : ¬ p ∣ n) : Nat.Coprime p n := by
  rcases h.2 _ (Nat.gcd_dvd_left p n) with h1 | h1
  · exact h1
  · exact absurd (h1 ▸ Nat.gcd_dvd_right p n) hn
theorem IsP.ch {p : Nat} (h : IsP p) {k : Nat} (h0 : 0 < k) (hk : k < p) : p ∣ ch p k := by
  obtain ⟨j, rfl⟩ : ∃ j, k = j + 1 := ⟨k - 1, by omega⟩
  obtain ⟨q, rfl⟩ : ∃ q, p = q + 1 := ⟨p - 1, by omega⟩
  have h1 : (q + 1) ∣ (j + 1) * Go.Proofs.Ytmmmcbklgmjalaa.ch (q + 1) (j + 1) := ⟨_, ch_mul q j⟩
  refine (h.cop fun hd => ?_).dvd_of_dvd_mul_left h1
  have := Nat.le_of_dvd (by omega) hd
  omega
theorem bs_mod {a p : Nat} (h : IsP p) : ∀ k, 0 < k → k ≤ p → bs a p k % p = 1 % p
  | 0, h0, _ => by omega
  | 1, _, _ => by simp [bs, ch_zero]
  | k + 2, _, hk => by
      have h1 := bs_mod (a := a) h (k + 1) (by omega) (by omega)
      have h2 := h.ch (k := k + 1) (by omega) (by omega)
      rw [bs, Nat.add_mod, h1, Nat.mod_eq_zero_of_dvd (Nat.dvd_mul_right_of_dvd h2 _)]
      simp
theorem fermat {p : Nat} (h : IsP p) : ∀ a, a ^ p % p = a % p
  | 0 => by rw [Nat.zero_pow (by have := h.1; omega)]
  | a + 1 => by
      have h1 := fermat h a
      rw [binomial, bs, ch_self, Nat.one_mul, Nat.add_mod, bs_mod h p (by have := h.1; omega) (Nat.le_refl _), h1, ← Nat.add_mod, Nat.add_comm]
theorem fermat1 {p a : Nat} (h : IsP p) (ha : ¬ p ∣ a) : a ^ (p - 1) % p = 1 := by
  have h1 := fermat h a
  have hp := h.1
  obtain ⟨q, rfl⟩ : ∃ q, p = q + 1 := ⟨p - 1, by omega⟩
  rw [Nat.add_sub_cancel]
  have hpos : 0 < a := by
    rcases Nat.eq_zero_or_pos a with h0 | h0
    · subst h0; exact absurd (Nat.dvd_zero _) ha
    · exact h0
  have h3 : (q + 1) ∣ a * (a ^ q - 1) := by
    have e : a * (a ^ q - 1) = a ^ (q + 1) - a := by rw [Nat.mul_sub, Nat.pow_succ, Nat.mul_one, Nat.mul_comm]
    rw [e]
    exact Nat.dvd_of_mod_eq_zero (Nat.sub_mod_eq_zero_of_mod_eq h1)
  have h4 := (h.cop ha).dvd_of_dvd_mul_left h3
  obtain ⟨c, hc⟩ := h4
  have h5 : a ^ q = 1 + (q + 1) * c := by have := Nat.pow_pos (n := q) hpos; omega
  rw [h5, Nat.add_mul_mod_self_left, Nat.mod_eq_of_lt hp]
/-- every number above 1 has a prime divisor -/
theorem has_prime : ∀ n, 1 < n → ∃ p, IsP p ∧ p ∣ n := by
  intro n
  induction n using Nat.strongRecOn with
  | _ n ih =>
    intro hn
    by_cases h : ∀ d, d ∣ n → d = 1 ∨ d = n
    · exact ⟨n, ⟨hn, h⟩, Nat.dvd_refl _⟩
    · obtain ⟨d, hd⟩ := Classical.not_forall.1 h
      obtain ⟨h1, h2⟩ := Classical.not_imp.1 hd
      have hle := Nat.le_of_dvd (by omega) h1
      have hpos := Nat.pos_of_dvd_of_pos h1 (by omega)
      obtain ⟨p, hp, hpd⟩ := ih d (by omega) (by omega)
      exact ⟨p, hp, Nat.dvd_trans hpd h1⟩
/-- two's part and the rest -/
theorem two_part : ∀ n, 0 < n → ∃ j t, n = 2 ^ j * (2 * t + 1) := by
  intro n
  induction n using Nat.strongRecOn with
  | _ n ih =>
    intro hn
    by_cases h : n % 2 = 0
    · obtain ⟨j, t, hj⟩ := ih (n / 2) (by omega) (by omega)
      exact ⟨j + 1, t, by rw [Nat.pow_succ, Nat.mul_right_comm, ← hj]; omega⟩
    · exact ⟨0, n / 2, by omega⟩
theorem pow_mod_one {x p : Nat} (hp : 1 < p) (h : x % p = 1) (n : Nat) : x ^ n % p = 1 := by
  rw [Nat.pow_mod, h, Nat.one_pow, Nat.mod_eq_of_lt hp]
/-- minus one to an odd power -/
theorem neg_odd {y p : Nat} (hp : 1 < p) (h : y % p = p - 1) (t : Nat) : y ^ (2 * t + 1) % p = p - 1 := by
  have h2 : y ^ 2 % p = 1 := by
    rw [Nat.pow_mod, h]
    obtain ⟨q, rfl⟩ : ∃ q, p = q + 2 := ⟨p - 2, by omega⟩
    have e : (q + 2 - 1) ^ 2 = 1 + (q + 2) * q := by
      rw [show q + 2 - 1 = q + 1 by omega]; grind
    rw [e, Nat.add_mul_mod_self_left, Nat.mod_eq_of_lt (by omega)]
  rw [Nat.pow_succ, Nat.pow_mul, Nat.mul_mod, pow_mod_one hp h2, h, Nat.one_mul, Nat.mod_eq_of_lt (by omega)]
/-- x to 2^k is minus one modulo r: every prime divisor of r is above 2^k -/
theorem proth {r x k p : Nat} (hx : x ^ 2 ^ k % r = r - 1) (hr2 : r % 2 = 1) (hp : IsP p) (hd : p ∣ r) : 2 ^ (k + 1) < p := by
  have hp1 := hp.1
  obtain ⟨c, hc⟩ := hd
  have hodd : p % 2 = 1 := by
    apply Classical.byContradiction
    intro h
    have h0 : p % 2 = 0 := by omega
    have : r % 2 = 0 := by rw [hc, Nat.mul_mod, h0]; simp
    omega
  have hy : x ^ 2 ^ k % p = p - 1 := by
    have h1 : x ^ 2 ^ k % r % p = x ^ 2 ^ k % p := by rw [hc]; exact Nat.mod_mul_right_mod _ _ _
    rw [← h1, hx, hc]
    have hc0 : 0 < c := by
      rcases Nat.eq_zero_or_pos c with h | h
      · subst h; omega
      · exact h
    obtain ⟨b, rfl⟩ : ∃ b, c = b + 1 := ⟨c - 1, by omega⟩
    have e : p * (b + 1) - 1 = (p - 1) + p * b := by rw [Nat.mul_succ]; omega
    rw [e, Nat.add_mul_mod_self_left, Nat.mod_eq_of_lt (by omega)]
  have hnd : ¬ p ∣ x := by
    intro h
    have h1 : x ^ 2 ^ k % p = 0 := by rw [Nat.pow_mod, Nat.mod_eq_zero_of_dvd h, Nat.zero_pow (Nat.pow_pos (by decide)), Nat.zero_mod]
    omega
  have hf := fermat1 hp hnd
  obtain ⟨j, t, hj⟩ := two_part (p - 1) (by omega)
  by_cases hjk : j ≤ k
  · exfalso
    have h1 : (x ^ (p - 1)) ^ 2 ^ (k - j) % p = 1 := pow_mod_one hp1 hf _
    rw [← Nat.pow_mul, hj, Nat.mul_right_comm, ← Nat.pow_add, show j + (k - j) = k by omega, Nat.pow_mul, neg_odd hp1 hy] at h1
    omega
  · have h1 : 2 ^ (k + 1) ≤ 2 ^ j := Nat.pow_le_pow_right (by decide) (by omega)
    have h2 : 2 ^ j ≤ p - 1 := by rw [hj]; exact Nat.le_mul_of_pos_right _ (by omega)
    omega

/-- powers modulo m, as the kernel reckons them -/
def pw (a m : Nat) : Nat → Nat → Nat
  | 0, _ => 1 % m
  | f + 1, e => if e % 2 = 1 then (pw a m f (e / 2)) ^ 2 % m * a % m else (pw a m f (e / 2)) ^ 2 % m
theorem pw_eq (a m : Nat) : ∀ f e, e < 2 ^ f → pw a m f e = a ^ e % m
  | 0, e, h => by
      obtain rfl : e = 0 := by simp at h; exact h
      rfl
  | f + 1, e, h => by
      have ih := pw_eq a m f (e / 2) (by rw [Nat.pow_succ] at h; omega)
      rw [pw, ih, ← Nat.pow_mod, ← Nat.pow_mul]
      split
      · next h1 =>
        rw [Nat.mul_mod, Nat.mod_mod, ← Nat.mul_mod, ← Nat.pow_succ, show (e / 2 * 2).succ = e by omega]
      · next h1 =>
        rw [show e / 2 * 2 = e by omega]

/-- the number that the search for a prime comes to at the latest: 2 r + 1 -/
def bigR : Nat := 170141183460469344939355684071402373121
theorem pow_of_pw (a h k m v : Nat) (h1 : h * 2 ^ k < 2 ^ 128) (h2 : pw a m 128 (h * 2 ^ k) = v) : ∃ x, x ^ 2 ^ k % m = v :=
  ⟨a ^ h, by rw [← Nat.pow_mul, ← pw_eq a m 128 _ h1]; exact h2⟩
theorem bigR_pow : ∃ k x, k = 63 ∧ x ^ 2 ^ k % bigR = bigR - 1 := by
  have h : ∀ k, k = 63 → ∃ x, x ^ 2 ^ k % bigR = bigR - 1 := fun k hk =>
    pow_of_pw 3 9223372036854781945 k _ _ (by rw [hk]; decide) (by rw [hk]; decide +kernel)
  obtain ⟨x, hx⟩ := h 63 rfl
  exact ⟨63, x, rfl, hx⟩
theorem bigR_gcd {e : Nat} (h1 : e % 2 = 1) (h2 : e ≤ 18446744073709551615) : Nat.gcd (2 * bigR) e = 1 := by
  apply Classical.byContradiction
  intro hne
  have hpos : 0 < Nat.gcd (2 * bigR) e := Nat.gcd_pos_of_pos_right _ (by omega)
  obtain ⟨p, hp, hd⟩ := has_prime (Nat.gcd (2 * bigR) e) (by omega)
  have hpe := Nat.dvd_trans hd (Nat.gcd_dvd_right _ _)
  have hpr := Nat.dvd_trans hd (Nat.gcd_dvd_left _ _)
  have hle := Nat.le_of_dvd (by omega) hpe
  have hp2 : ¬ p ∣ 2 := by
    intro h
    have h3 := Nat.le_of_dvd (by decide) h
    have h4 := hp.1
    obtain rfl : p = 2 := by omega
    have := Nat.mod_eq_zero_of_dvd hpe
    omega
  have h5 := (hp.cop hp2).dvd_of_dvd_mul_left hpr
  obtain ⟨k, x, hk, hx⟩ := bigR_pow
  have h6 := proth hx (by decide) hp h5
  rw [hk] at h6
  omega
end Go.Proofs.Ytmmmcbklgmjalaa

/- A number is prime if a great prime divisor of the number below it has a witness (Pocklington). -/
namespace Go.Proofs.Ytmmmcbklgmjalaa.Cw

theorem pow_gcd_one {b p : Nat} (hp : 1 < p) : ∀ m n, b ^ m % p = 1 → b ^ n % p = 1 → b ^ (Nat.gcd m n) % p = 1 := by
  intro m n
  induction m, n using Nat.gcd.induction with
  | H0 n =>
    intro _ h
    rw [Nat.gcd_zero_left]; exact h
  | H1 m n hm ih =>
    intro h1 h2
    rw [Nat.gcd_rec]
    refine ih ?_ h1
    rw [← Nat.div_add_mod n m, Nat.pow_add, Nat.pow_mul, Nat.mul_mod, Nat.pow_mod (b ^ m), h1, Nat.one_pow, Nat.mod_eq_of_lt hp, Nat.one_mul, Nat.mod_mod] at h2
    exact h2
theorem pock_dvd {N q a p : Nat} (hq : IsP q) (hqN : q ∣ N - 1) (h1 : a ^ (N - 1) % N = 1) (h2 : Nat.gcd (a ^ ((N - 1) / q) % N + (N - 1)) N = 1) (hN : 1 < N) (hp : IsP p) (hd : p ∣ N) : q ∣ p - 1 := by
  apply Classical.byContradiction
  intro hno
  have hp1 := hp.1
  have hpow : ∀ e, a ^ e % N % p = a ^ e % p := by
    intro e
    obtain ⟨c, rfl⟩ := hd
    exact Nat.mod_mul_right_mod _ _ _
  have e1 : a ^ (N - 1) % p = 1 := by rw [← hpow, h1, Nat.mod_eq_of_lt hp1]
  have hnd : ¬ p ∣ a := by
    intro h
    have h0 : a ^ (N - 1) % p = 0 := by
      rw [Nat.pow_mod, Nat.mod_eq_zero_of_dvd h, Nat.zero_pow (by omega), Nat.zero_mod]
    omega
  have hf := fermat1 hp hnd
  have hb : (a ^ ((N - 1) / q)) ^ q % p = 1 := by rw [← Nat.pow_mul, Nat.div_mul_cancel hqN]; exact e1
  have hb2 : (a ^ ((N - 1) / q)) ^ (p - 1) % p = 1 := by
    rw [← Nat.pow_mul, Nat.mul_comm, Nat.pow_mul, Nat.pow_mod, hf, Nat.one_pow, Nat.mod_eq_of_lt hp1]
  have hg := pow_gcd_one hp1 q (p - 1) hb hb2
  rw [hq.cop hno, Nat.pow_one] at hg
  have hpd : p ∣ a ^ ((N - 1) / q) % N + (N - 1) := by
    apply Nat.dvd_of_mod_eq_zero
    rw [Nat.add_mod, hpow, hg]
    obtain ⟨c, hc⟩ := hd
    have hc0 : c ≠ 0 := by
      intro h
      subst h
      omega
    obtain ⟨d, rfl⟩ : ∃ d, c = d + 1 := ⟨c - 1, by omega⟩
    rw [hc, show p * (d + 1) - 1 = p - 1 + p * d by rw [Nat.mul_succ]; omega, Nat.add_mul_mod_self_left, Nat.mod_eq_of_lt (show p - 1 < p by omega), show 1 + (p - 1) = p by omega, Nat.mod_self]
  have := Nat.dvd_gcd hpd hd
  rw [h2] at this
  have := Nat.le_of_dvd (by omega) this
  omega
theorem prime_of_great {N F : Nat} (hN : 1 < N) (hF : N ≤ F * F) (h : ∀ p, IsP p → p ∣ N → F ∣ p - 1) : IsP N := by
  obtain ⟨p, hp, hd⟩ := has_prime N hN
  have hp1 := hp.1
  have h1 := Nat.le_of_dvd (by omega) (h p hp hd)
  obtain ⟨c, hc⟩ := hd
  by_cases hc1 : c = 1
  · rw [hc, hc1, Nat.mul_one]; exact hp
  have hc0 : 0 < c := by
    rcases Nat.eq_zero_or_pos c with h | h
    · subst h; omega
    · exact h
  obtain ⟨r, hr, hrd⟩ := has_prime c (by omega)
  have h2 := Nat.le_of_dvd (by have := hr.1; omega) (h r hr (Nat.dvd_trans hrd ⟨p, by rw [hc, Nat.mul_comm]⟩))
  have h3 := Nat.le_of_dvd hc0 hrd
  have h4 : (F + 1) * (F + 1) ≤ p * c := Nat.mul_le_mul (by omega) (by have := hr.1; omega)
  rw [Nat.add_mul, Nat.mul_add] at h4
  omega
/-- what is reckoned of a witness -/
def pock (N q a L : Nat) : Bool :=
  decide (1 < N) && decide (N < 2 ^ L) && decide ((N - 1) % q = 0) && decide (pw a N L (N - 1) = 1) && decide (Nat.gcd (pw a N L ((N - 1) / q) + (N - 1)) N = 1)
theorem pock_said {N q a L : Nat} (hq : IsP q) (h : pock N q a L = true) : 1 < N ∧ ∀ p, IsP p → p ∣ N → q ∣ p - 1 := by
  simp only [pock, Bool.and_eq_true, decide_eq_true_eq] at h
  obtain ⟨⟨⟨⟨h0, hL⟩, h1⟩, h2⟩, h3⟩ := h
  rw [pw_eq a N L _ (by omega)] at h2
  rw [pw_eq a N L _ (by have := Nat.div_le_self (N - 1) q; omega)] at h3
  exact ⟨h0, fun p hp hd => pock_dvd hq (Nat.dvd_of_mod_eq_zero h1) h2 h3 h0 hp hd⟩
theorem pock_one {N q a L : Nat} (hq : IsP q) (h : pock N q a L = true) (hF : N ≤ q * q) : IsP N :=
  prime_of_great (pock_said hq h).1 hF (pock_said hq h).2
theorem pock_two {N q r a c L : Nat} (hq : IsP q) (hr : IsP r) (h : pock N q a L = true) (h' : pock N r c L = true) (hne : q ≠ r) (hF : N ≤ q * r * (q * r)) : IsP N :=
  prime_of_great (pock_said hq h).1 hF fun p hp hd =>
    Nat.Coprime.mul_dvd_of_dvd_of_dvd (hq.cop fun hh => by
      rcases hr.2 q hh with h | h
      · have := hq.1; omega
      · exact hne h) ((pock_said hq h).2 p hp hd) ((pock_said hr h').2 p hp hd)
/-- small primes by trial -/
def trial (n : Nat) : Nat → Bool
  | 0 => true
  | 1 => true
  | d + 2 => (n % (d + 2) != 0) && trial n (d + 1)
theorem trial_said {n : Nat} : ∀ k, trial n k = true → ∀ d, 1 < d → d ≤ k → ¬ d ∣ n
  | 0, _, d, h1, h2 => by omega
  | 1, _, d, h1, h2 => by omega
  | k + 2, h, d, h1, h2 => by
    simp only [trial, Bool.and_eq_true, bne_iff_ne] at h
    by_cases e : d = k + 2
    · subst e
      intro hd
      exact h.1 (Nat.mod_eq_zero_of_dvd hd)
    · exact trial_said (k + 1) h.2 d h1 (by omega)
theorem small_prime {n k : Nat} (hn : 1 < n) (h : trial n k = true) (hk : n < (k + 1) * (k + 1)) : IsP n := by
  refine ⟨hn, fun d hd => ?_⟩
  apply Classical.byContradiction
  intro hno
  have hd0 : 0 < d := Nat.pos_of_dvd_of_pos hd (by omega)
  obtain ⟨c, hc⟩ := hd
  have hc0 : 0 < c := by
    rcases Nat.eq_zero_or_pos c with h | h
    · subst h; omega
    · exact h
  by_cases h1 : d ≤ k
  · exact trial_said k h d (by omega) h1 ⟨c, hc⟩
  by_cases h2 : c ≤ k
  · refine trial_said k h c ?_ h2 ⟨d, by rw [hc, Nat.mul_comm]⟩
    apply Classical.byContradiction
    intro h3
    obtain rfl : c = 1 := by omega
    exact hno (.inr (by omega))
  have := Nat.mul_le_mul (show k + 1 ≤ d by omega) (show k + 1 ≤ c by omega)
  omega
end Go.Proofs.Ytmmmcbklgmjalaa.Cw

/- The primes of the curves are primes. -/
namespace Go.Proofs.Ytmmmcbklgmjalaa.Cw
theorem pr5 : IsP 3677 := small_prime (k := 60) (by decide) (by decide +kernel) (by decide)
theorem pr6 : IsP 197 := small_prime (k := 14) (by decide) (by decide +kernel) (by decide)
theorem pr4 : IsP 66417393611 := pock_two (q := 3677) (r := 197) (a := 2) (c := 2) (L := 36) pr5 pr6 (by decide +kernel) (by decide +kernel) (by decide) (by decide +kernel)
theorem pr3 : IsP 11290956913871 := pock_one (q := 66417393611) (a := 2) (L := 44) pr4 (by decide +kernel) (by decide +kernel)
theorem pr9 : IsP 3769 := small_prime (k := 61) (by decide) (by decide +kernel) (by decide)
theorem pr10 : IsP 107 := small_prime (k := 10) (by decide) (by decide +kernel) (by decide)
theorem pr8 : IsP 204061199 := pock_two (q := 3769) (r := 107) (a := 2) (c := 2) (L := 28) pr9 pr10 (by decide +kernel) (by decide +kernel) (by decide) (by decide +kernel)
theorem pr7 : IsP 34282281433 := pock_one (q := 204061199) (a := 2) (L := 35) pr8 (by decide +kernel) (by decide +kernel)
theorem pr2 : IsP 774023187263532362759620327192479577272145303 := pock_two (q := 11290956913871) (r := 34282281433) (a := 2) (c := 2) (L := 150) pr3 pr7 (by decide +kernel) (by decide +kernel) (by decide) (by decide +kernel)
theorem pr1 : IsP 835945042244614951780389953367877943453916927241 := pock_one (q := 774023187263532362759620327192479577272145303) (a := 2) (L := 160) pr2 (by decide +kernel) (by decide +kernel)
theorem pr0 : IsP 115792089210356248762697446949407573530086143415290314195533631308867097853951 := pock_one (q := 835945042244614951780389953367877943453916927241) (a := 2) (L := 256) pr1 (by decide +kernel) (by decide +kernel)
theorem prime_p256 : IsP 0xffffffff00000001000000000000000000000000ffffffffffffffffffffffff := pr0
theorem pr21 : IsP 363557 := small_prime (k := 602) (by decide) (by decide +kernel) (by decide)
theorem pr20 : IsP 532247449 := pock_one (q := 363557) (a := 2) (L := 29) pr21 (by decide +kernel) (by decide +kernel)
theorem pr19 : IsP 44925942675193 := pock_one (q := 532247449) (a := 2) (L := 46) pr20 (by decide +kernel) (by decide +kernel)
theorem pr18 : IsP 35581458644053887931343 := pock_one (q := 44925942675193) (a := 2) (L := 75) pr19 (by decide +kernel) (by decide +kernel)
theorem pr17 : IsP 23964610537191310276190549303 := pock_one (q := 35581458644053887931343) (a := 2) (L := 95) pr18 (by decide +kernel) (by decide +kernel)
theorem pr16 : IsP 862725979338887169942859774909 := pock_one (q := 23964610537191310276190549303) (a := 2) (L := 100) pr17 (by decide +kernel) (by decide +kernel)
theorem pr15 : IsP 20705423504133292078628634597817 := pock_one (q := 862725979338887169942859774909) (a := 2) (L := 105) pr16 (by decide +kernel) (by decide +kernel)
theorem pr14 : IsP 413244619895455989650825325680172591660047 := pock_one (q := 20705423504133292078628634597817) (a := 2) (L := 139) pr15 (by decide +kernel) (by decide +kernel)
theorem pr13 : IsP 12397338596863679689524759770405177749801411 := pock_one (q := 413244619895455989650825325680172591660047) (a := 2) (L := 144) pr14 (by decide +kernel) (by decide +kernel)
theorem pr24 : IsP 21407 := small_prime (k := 146) (by decide) (by decide +kernel) (by decide)
theorem pr23 : IsP 246608641 := pock_one (q := 21407) (a := 2) (L := 28) pr24 (by decide +kernel) (by decide +kernel)
theorem pr26 : IsP 881 := small_prime (k := 29) (by decide) (by decide +kernel) (by decide)
theorem pr27 : IsP 211 := small_prime (k := 14) (by decide) (by decide +kernel) (by decide)
theorem pr25 : IsP 105957871 := pock_two (q := 881) (r := 211) (a := 2) (c := 2) (L := 27) pr26 pr27 (by decide +kernel) (by decide +kernel) (by decide) (by decide +kernel)
theorem pr22 : IsP 529709925838459440593 := pock_two (q := 246608641) (r := 105957871) (a := 2) (c := 2) (L := 69) pr23 pr25 (by decide +kernel) (by decide +kernel) (by decide) (by decide +kernel)
theorem pr12 : IsP 19173790298027098165721053155794528970226934547887232785722672956982046098136719667167519737147526097 := pock_two (q := 12397338596863679689524759770405177749801411) (r := 529709925838459440593) (a := 2) (c := 2) (L := 334) pr13 pr22 (by decide +kernel) (by decide +kernel) (by decide) (by decide +kernel)
theorem pr11 : IsP 39402006196394479212279040100143613805079739270465446667948293404245721771496870329047266088258938001861606973112319 := pock_one (q := 19173790298027098165721053155794528970226934547887232785722672956982046098136719667167519737147526097) (a := 2) (L := 384) pr12 (by decide +kernel) (by decide +kernel)
theorem prime_p384 : IsP 0xfffffffffffffffffffffffffffffffffffffffffffffffffffffffffffffffeffffffff0000000000000000ffffffff := pr11
theorem pr32 : IsP 155317 := small_prime (k := 394) (by decide) (by decide +kernel) (by decide)
theorem pr31 : IsP 191039911 := pock_one (q := 155317) (a := 2) (L := 28) pr32 (by decide +kernel) (by decide +kernel)
theorem pr33 : IsP 3023 := small_prime (k := 54) (by decide) (by decide +kernel) (by decide)
theorem pr30 : IsP 208150935158385979 := pock_two (q := 191039911) (r := 3023) (a := 2) (c := 2) (L := 58) pr31 pr33 (by decide +kernel) (by decide +kernel) (by decide) (by decide +kernel)
theorem pr29 : IsP 2624747550333869278416773953 := pock_one (q := 208150935158385979) (a := 2) (L := 92) pr30 (by decide +kernel) (by decide +kernel)
theorem pr36 : IsP 104471 := small_prime (k := 323) (by decide) (by decide +kernel) (by decide)
theorem pr35 : IsP 3969899 := pock_one (q := 104471) (a := 2) (L := 22) pr36 (by decide +kernel) (by decide +kernel)
theorem pr34 : IsP 1002328039319 := pock_one (q := 3969899) (a := 2) (L := 40) pr35 (by decide +kernel) (by decide +kernel)
theorem pr28 : IsP 115792089210356248762697446949407573529996955224135760342422259061068512044369 := pock_two (q := 2624747550333869278416773953) (r := 1002328039319) (a := 2) (c := 2) (L := 256) pr29 pr34 (by decide +kernel) (by decide +kernel) (by decide) (by decide +kernel)
theorem prime_n256 : IsP 0xffffffff00000000ffffffffffffffffbce6faada7179e84f3b9cac2fc632551 := pr28
theorem pr46 : IsP 233 := small_prime (k := 15) (by decide) (by decide +kernel) (by decide)
theorem pr47 : IsP 73 := small_prime (k := 8) (by decide) (by decide +kernel) (by decide)
theorem pr45 : IsP 272109983 := pock_two (q := 233) (r := 73) (a := 2) (c := 2) (L := 29) pr46 pr47 (by decide +kernel) (by decide +kernel) (by decide) (by decide +kernel)
theorem pr44 : IsP 228572385721 := pock_one (q := 272109983) (a := 2) (L := 38) pr45 (by decide +kernel) (by decide +kernel)
theorem pr43 : IsP 23314383343543 := pock_one (q := 228572385721) (a := 2) (L := 45) pr44 (by decide +kernel) (by decide +kernel)
theorem pr42 : IsP 426632512014427833817 := pock_one (q := 23314383343543) (a := 2) (L := 69) pr43 (by decide +kernel) (by decide +kernel)
theorem pr41 : IsP 1495199339761412565498084319 := pock_one (q := 426632512014427833817) (a := 2) (L := 91) pr42 (by decide +kernel) (by decide +kernel)
theorem pr40 : IsP 17942392077136950785977011829 := pock_one (q := 1495199339761412565498084319) (a := 2) (L := 94) pr41 (by decide +kernel) (by decide +kernel)
theorem pr51 : IsP 311 := small_prime (k := 17) (by decide) (by decide +kernel) (by decide)
theorem pr50 : IsP 9863677 := pock_two (q := 881) (r := 311) (a := 2) (c := 2) (L := 24) pr26 pr51 (by decide +kernel) (by decide +kernel) (by decide) (by decide +kernel)
theorem pr49 : IsP 37344768852931 := pock_one (q := 9863677) (a := 2) (L := 46) pr50 (by decide +kernel) (by decide +kernel)
theorem pr48 : IsP 55942463741690639 := pock_one (q := 37344768852931) (a := 2) (L := 56) pr49 (by decide +kernel) (by decide +kernel)
theorem pr39 : IsP 1059392654943455286185473617842338478315215895509773412096307 := pock_two (q := 17942392077136950785977011829) (r := 55942463741690639) (a := 2) (c := 2) (L := 200) pr40 pr48 (by decide +kernel) (by decide +kernel) (by decide) (by decide +kernel)
theorem pr38 : IsP 3055465788140352002733946906144561090641249606160407884365391979704929268480326390471 := pock_one (q := 1059392654943455286185473617842338478315215895509773412096307) (a := 2) (L := 281) pr39 (by decide +kernel) (by decide +kernel)
theorem pr37 : IsP 39402006196394479212279040100143613805079739270465446667946905279627659399113263569398956308152294913554433653942643 := pock_one (q := 3055465788140352002733946906144561090641249606160407884365391979704929268480326390471) (a := 2) (L := 384) pr38 (by decide +kernel) (by decide +kernel)
theorem prime_n384 : IsP 0xffffffffffffffffffffffffffffffffffffffffffffffffc7634d81f4372ddf581a0db248b0a77aecec196accc52973 := pr37
end Go.Proofs.Ytmmmcbklgmjalaa.Cw

/- The numbers modulo a prime as a field, and that a cubic has no root there. -/
namespace Go.Proofs.Ytmmmcbklgmjalaa.Cw
open Lean.Grind

section
variable {p : Nat} [NeZero p]
/-- a number, modulo p -/
def zp (p : Nat) [NeZero p] (a : Nat) : Fin p := Fin.ofNat p a
theorem zp_val (a : Nat) : (zp p a).val = a % p := rfl
theorem zp_eq {a b : Nat} (h : a % p = b % p) : zp p a = zp p b := Fin.ext h
theorem zp_of {a b : Nat} (h : zp p a = zp p b) : a % p = b % p := congrArg Fin.val h
theorem zp_mod (a : Nat) : zp p (a % p) = zp p a := zp_eq (Nat.mod_mod _ _)
theorem zp_add (a b : Nat) : zp p (a + b) = zp p a + zp p b := by
  apply Fin.ext
  rw [Fin.add_def]
  simp only [zp_val]
  exact Nat.add_mod a b p
theorem zp_mul (a b : Nat) : zp p (a * b) = zp p a * zp p b := by
  apply Fin.ext
  rw [Fin.mul_def]
  simp only [zp_val]
  exact Nat.mul_mod a b p
theorem zp_p : zp p p = 0 := Fin.ext (by rw [zp_val, Nat.mod_self]; rfl)
theorem zp_0 : zp p 0 = 0 := rfl
theorem zp_1 : zp p 1 = 1 := rfl
theorem zp_self (x : Fin p) : zp p x.val = x := Fin.ext (Nat.mod_eq_of_lt x.isLt)
theorem zp_inj {a b : Nat} (ha : a < p) (hb : b < p) (h : zp p a = zp p b) : a = b := by
  have := zp_of h
  rwa [Nat.mod_eq_of_lt ha, Nat.mod_eq_of_lt hb] at this
theorem zp_eq0 {a : Nat} (ha : a < p) (h : zp p a = 0) : a = 0 := zp_inj ha (by omega) (by rw [h]; rfl)
theorem zp_sub {a b : Nat} (h : b ≤ a) : zp p (a - b) = zp p a - zp p b := by
  have e := zp_add (p := p) (a - b) b
  rw [Nat.sub_add_cancel h] at e
  rw [e]
  generalize zp p (a - b) = x
  generalize zp p b = y
  grind
theorem three_is {K : Type} [CommRing K] : (1 : K) + 1 + 1 = 3 := by grind
theorem zp_3 : zp p 3 = 3 := by
  have h2 : zp p 3 = zp p 1 + zp p 1 + zp p 1 := by rw [← zp_add, ← zp_add]
  rw [h2, zp_1]
  exact three_is
theorem fp_dom (hp : IsP p) (x y : Fin p) (h : x * y = 0) : x = 0 ∨ y = 0 := by
  have h1 : x.val * y.val % p = 0 := by
    have := congrArg Fin.val h
    rw [Fin.mul_def] at this
    exact this
  have hd := Nat.dvd_of_mod_eq_zero h1
  by_cases hx : p ∣ x.val
  · left
    apply Fin.ext
    exact Nat.eq_zero_of_dvd_of_lt hx x.isLt
  · right
    apply Fin.ext
    exact Nat.eq_zero_of_dvd_of_lt ((hp.cop hx).dvd_of_dvd_mul_left hd) y.isLt
theorem fp_inv (hp : IsP p) (x : Fin p) (h : x ≠ 0) : x * zp p (x.val ^ (p - 2)) = 1 := by
  have hx : ¬ p ∣ x.val := fun hd => h (Fin.ext (Nat.eq_zero_of_dvd_of_lt hd x.isLt))
  have hf := fermat1 hp hx
  have hp1 := hp.1
  apply Fin.ext
  rw [Fin.mul_def]
  show x.val * (x.val ^ (p - 2) % p) % p = 1 % p
  rw [← Nat.mod_eq_of_lt x.isLt, ← Nat.mul_mod, Nat.mod_eq_of_lt x.isLt, Nat.mul_comm, ← Nat.pow_succ, show (p - 2).succ = p - 1 by omega, hf, Nat.mod_eq_of_lt hp1]
/-- polynomials of three terms, x^3 being 3x - b -/
def qm (p b : Nat) (u v : Nat × Nat × Nat) : Nat × Nat × Nat :=
  ((u.1 * v.1 + (p - b) * (u.2.1 * v.2.2 + u.2.2 * v.2.1)) % p,
   (u.1 * v.2.1 + u.2.1 * v.1 + 3 * (u.2.1 * v.2.2 + u.2.2 * v.2.1) + (p - b) * (u.2.2 * v.2.2)) % p,
   (u.1 * v.2.2 + u.2.1 * v.2.1 + u.2.2 * v.1 + 3 * (u.2.2 * v.2.2)) % p)
def qev (p : Nat) [NeZero p] (x : Fin p) (u : Nat × Nat × Nat) : Fin p := zp p u.1 + zp p u.2.1 * x + zp p u.2.2 * (x * x)
theorem qm_ev {b : Nat} (hb : b ≤ p) {x : Fin p} (h : x * x * x - 3 * x + zp p b = 0) (u v : Nat × Nat × Nat) : qev p x (qm p b u v) = qev p x u * qev p x v := by
  obtain ⟨a0, a1, a2⟩ := u
  obtain ⟨c0, c1, c2⟩ := v
  simp only [qev, qm, zp_mod, zp_add, zp_mul, zp_sub hb, zp_p, zp_3]
  generalize zp p a0 = A0 at *
  generalize zp p a1 = A1 at *
  generalize zp p a2 = A2 at *
  generalize zp p c0 = C0 at *
  generalize zp p c1 = C1 at *
  generalize zp p c2 = C2 at *
  generalize zp p b = B at *
  grind
def qpw (p b : Nat) (u : Nat × Nat × Nat) : Nat → Nat → Nat × Nat × Nat
  | 0, _ => (1, 0, 0)
  | f + 1, e => if e % 2 = 1 then qm p b (qm p b (qpw p b u f (e / 2)) (qpw p b u f (e / 2))) u else qm p b (qpw p b u f (e / 2)) (qpw p b u f (e / 2))
theorem pow_zp (x : Nat) (e : Nat) : zp p (x ^ (2 * e)) = zp p (x ^ e) * zp p (x ^ e) := by
  rw [← zp_mul, ← Nat.pow_add, Nat.two_mul]
theorem qpw_ev {b : Nat} (hb : b ≤ p) {x : Fin p} (h : x * x * x - 3 * x + zp p b = 0) (u : Nat × Nat × Nat) (hu : qev p x u = x) : ∀ f e, e < 2 ^ f → qev p x (qpw p b u f e) = zp p (x.val ^ e)
  | 0, e, he => by
    obtain rfl : e = 0 := by simp at he; exact he
    simp only [qpw, qev, Nat.pow_zero, zp_1, zp_0]
    generalize (1 : Fin p) = o
    grind
  | f + 1, e, he => by
    have ih := qpw_ev hb h u hu f (e / 2) (by rw [Nat.pow_succ] at he; omega)
    rw [qpw]
    split
    · next h1 =>
      rw [qm_ev hb h, qm_ev hb h, ih, hu, ← pow_zp]
      obtain ⟨k, rfl⟩ : ∃ k, e = 2 * k + 1 := ⟨e / 2, by omega⟩
      rw [show (2 * k + 1) / 2 = k by omega, Nat.pow_succ, zp_mul, zp_self]
    · next h1 =>
      rw [qm_ev hb h, ih, ← pow_zp]
      obtain ⟨k, rfl⟩ : ∃ k, e = 2 * k := ⟨e / 2, by omega⟩
      rw [show 2 * k / 2 = k by omega]
/-- x to the p, less x, has an inverse -/
def rootless (p b L : Nat) (v : Nat × Nat × Nat) : Bool :=
  decide (p < 2 ^ L) && decide (b ≤ p) && decide (qm p b v ((qpw p b (0, 1, 0) L p).1, (qpw p b (0, 1, 0) L p).2.1 + (p - 1), (qpw p b (0, 1, 0) L p).2.2) = (1, 0, 0))
theorem noroot_of (hp : IsP p) {b L : Nat} {v : Nat × Nat × Nat} (h : rootless p b L v = true) (x : Fin p) : x * x * x - 3 * x + zp p b ≠ 0 := by
  intro hx
  simp only [rootless, Bool.and_eq_true, decide_eq_true_eq] at h
  obtain ⟨⟨hL, hb⟩, hv⟩ := h
  have hp1 := hp.1
  have he := qpw_ev hb hx (0, 1, 0) (by simp only [qev, zp_0, zp_1]; grind) L p hL
  have hf : zp p (x.val ^ p) = x := by
    apply Fin.ext
    rw [zp_val, fermat hp, Nat.mod_eq_of_lt x.isLt]
  rw [hf] at he
  have hm := qm_ev hb hx v ((qpw p b (0, 1, 0) L p).1, (qpw p b (0, 1, 0) L p).2.1 + (p - 1), (qpw p b (0, 1, 0) L p).2.2)
  rw [hv] at hm
  generalize qpw p b (0, 1, 0) L p = g at *
  have e1 : qev p x (g.1, g.2.1 + (p - 1), g.2.2) = qev p x g - x := by
    simp only [qev, zp_add, zp_sub (Nat.le_of_lt hp1), zp_p, zp_1]
    grind
  rw [e1, he] at hm
  have e2 : qev p x (1, 0, 0) = 1 := by simp only [qev, zp_0, zp_1]; grind
  rw [e2] at hm
  have e3 : (1 : Fin p) = 0 := by rw [hm]; grind
  have := congrArg Fin.val e3
  rw [show (1 : Fin p).val = 1 % p from rfl, Nat.mod_eq_of_lt hp1, show (0 : Fin p).val = 0 from rfl] at this
  exact absurd this (by decide)
/-- the field of a prime, with its curve -/
def cvOf (hp : IsP p) (h2 : 2 < p) {b L : Nat} {v : Nat × Nat × Nat} (h : rootless p b L v = true) : Cv (Fin p) (zp p b) where
  dom := fp_dom hp
  iv x := zp p (x.val ^ (p - 2))
  inv := fp_inv hp
  two h := by
    have := congrArg Fin.val h
    have e : (2 : Fin p).val = 2 % p := rfl
    rw [e, Nat.mod_eq_of_lt h2, show (0 : Fin p).val = 0 from rfl] at this
    exact absurd this (by decide)
  noroot := noroot_of hp h
end
end Go.Proofs.Ytmmmcbklgmjalaa.Cw

/- The two curves: numbers. -/
namespace Go.Proofs.Ytmmmcbklgmjalaa
/-- a curve's numbers -/
structure Crv where
  size : Nat
  p : Nat
  b : Nat
  n : Nat
  gx : Nat
  gy : Nat
def crv256 : Crv := ⟨32, 0xffffffff00000001000000000000000000000000ffffffffffffffffffffffff, 0x5ac635d8aa3a93e7b3ebbd55769886bc651d06b0cc53b0f63bce3c3e27d2604b, 0xffffffff00000000ffffffffffffffffbce6faada7179e84f3b9cac2fc632551, 0x6b17d1f2e12c4247f8bce6e563a440f277037d812deb33a0f4a13945d898c296, 0x4fe342e2fe1a7f9b8ee7eb4a7c0f9e162bce33576b315ececbb6406837bf51f5⟩
def crv384 : Crv := ⟨48, 0xfffffffffffffffffffffffffffffffffffffffffffffffffffffffffffffffeffffffff0000000000000000ffffffff, 0xb3312fa7e23ee7e4988e056be3f82d19181d9c6efe8141120314088f5013875ac656398d8a2ed19d2a85c8edd3ec2aef, 0xffffffffffffffffffffffffffffffffffffffffffffffffc7634d81f4372ddf581a0db248b0a77aecec196accc52973, 0xaa87ca22be8b05378eb1c71ef320ad746e1d3b628ba79b9859f741e082542a385502f25dbf55296c3a545e3872760ab7, 0x3617de4a96262c6f5d9e98bf9292dc29f8f41dbd289a147ce9da3113b5f0b8c00a60b1ce1d7e819d7a431d7c90ea0e5f⟩
end Go.Proofs.Ytmmmcbklgmjalaa

/- Structures in blocks: what is stored, loaded and handed back; a curve's domain, a point, a point by ratios. -/
set_option linter.unusedVariables false
set_option linter.unusedSimpArgs false
namespace Go.Proofs.Ytmmmcbklgmjalaa
open Go.RowKit

theorem Nu.one {w : World} {v : Value} {k : Nat} (h : Nu w v k) : v.oneCell' = true := by
  obtain ⟨xs, A, n, c, rfl, _⟩ := h
  rfl
theorem Nu.sl {w : World} {v : Value} {k : Nat} (h : Nu w v k) : ∃ A n c, v = .slice A n c := by
  obtain ⟨xs, A, n, c, e, _⟩ := h
  exact ⟨A, n, c, e⟩
theorem NumR.sl {w : World} {K p : Nat} {v : Value} (h : NumR w K p v) : ∃ A n c, v = .slice A n c := by
  obtain ⟨xs, A, n, c, e, _⟩ := h
  exact ⟨A, n, c, e⟩
theorem NumR.one {w : World} {K p : Nat} {v : Value} (h : NumR w K p v) : v.oneCell' = true := by
  obtain ⟨xs, A, n, c, rfl, _⟩ := h
  rfl
theorem Try.sizeDom : (Try.prog.info? 59).map (·.size) = some 7 := by kernel_rfl
theorem Try.sizePt : (Try.prog.info? 36).map (·.size) = some 3 := by kernel_rfl
theorem Try.sizeRt : (Try.prog.info? 68).map (·.size) = some 3 := by kernel_rfl
theorem results_dom {fn : Func} {q : Tmp} {w : World} (h : fn.results = #[.cell q 59]) (tmps : Array Value) (g : Nat) (vs : List Value) (hp : tmps.getD q undef = .pointer (some ⟨g, 0, none⟩)) (hr : RowV 59 w g vs) (hl : vs.length = 7) :
    (results fn tmps).run Try.prog w = .ok (.agg vs.toArray) w :=
  results_cell_row h tmps w g _ vs.toArray (0, 0) _ hp hr Try.underlying59 rfl (by rw [Try.sizeDom]; simp [hl])
theorem results_pt {fn : Func} {q : Tmp} {w : World} (h : fn.results = #[.cell q 36]) (tmps : Array Value) (g : Nat) (vs : List Value) (hp : tmps.getD q undef = .pointer (some ⟨g, 0, none⟩)) (hr : RowV 36 w g vs) (hl : vs.length = 3) :
    (results fn tmps).run Try.prog w = .ok (.agg vs.toArray) w :=
  results_cell_row h tmps w g _ vs.toArray (0, 0) _ hp hr Try.underlying36 rfl (by rw [Try.sizePt]; simp [hl])
theorem results_rt {fn : Func} {q : Tmp} {w : World} (h : fn.results = #[.cell q 68]) (tmps : Array Value) (g : Nat) (vs : List Value) (hp : tmps.getD q undef = .pointer (some ⟨g, 0, none⟩)) (hr : RowV 68 w g vs) (hl : vs.length = 3) :
    (results fn tmps).run Try.prog w = .ok (.agg vs.toArray) w :=
  results_cell_row h tmps w g _ vs.toArray (0, 0) _ hp hr Try.underlying68 rfl (by rw [Try.sizeRt]; simp [hl])
theorem results_dom2 {fn : Func} {q u : Tmp} {w : World} (h : fn.results = #[.cell q 59, .tmp u]) (tmps : Array Value) (g : Nat) (vs : List Value) (hp : tmps.getD q undef = .pointer (some ⟨g, 0, none⟩)) (hr : RowV 59 w g vs) (hl : vs.length = 7) :
    (results fn tmps).run Try.prog w = .ok (.tuple #[.agg vs.toArray, tmps.getD u undef]) w := by
  rw [results_cell_tmp h, hp]
  simp [asAddr, run_loadVar_row w g _ _ vs.toArray (0, 0) _ hr Try.underlying59 rfl (by rw [Try.sizeDom]; simp [hl])]
theorem results_pt2 {fn : Func} {q u : Tmp} {w : World} (h : fn.results = #[.cell q 36, .tmp u]) (tmps : Array Value) (g : Nat) (vs : List Value) (hp : tmps.getD q undef = .pointer (some ⟨g, 0, none⟩)) (hr : RowV 36 w g vs) (hl : vs.length = 3) :
    (results fn tmps).run Try.prog w = .ok (.tuple #[.agg vs.toArray, tmps.getD u undef]) w := by
  rw [results_cell_tmp h, hp]
  simp [asAddr, run_loadVar_row w g _ _ vs.toArray (0, 0) _ hr Try.underlying36 rfl (by rw [Try.sizePt]; simp [hl])]
/-- a whole structure is written -/
theorem wlS_store {P : Program} {w : World} {ops : Array Oper} {rest : List Oper} {o : Oper} {a : Act} {Q : Exit → Act → World → Prop} (hgd : o.guard = none) (ty n : Nat) (hi : (P.info? ty).map (·.size) = some n) (x y : Operand) (ho : o.op = .store ty x y) (g : Nat) (vs' : List Value) (hx : a.eval x = .pointer (some ⟨g, 0, none⟩)) (hy : a.eval y = .agg vs'.toArray) (t : TypeId) (vs : List Value) (hr : RowV t w g vs) (hl : vs.length = n) (hl' : vs'.length = n) (h1 : Ones vs')
    (h : ∀ w', RowV t w' g vs' → w.grownBy w' (some g) → w'.heap.size = w.heap.size → wpList P ops Q rest (a.put o.dst undef) w') : wpList P ops Q (o :: rest) a w := by
  refine wpList_store_row hgd ty x y ho g vs'.toArray hx hy t vs.toArray hr (by rw [hi, ← hl']; simp) (by simp; omega) (by simp; exact fun v hv => h1 v hv) ?_
  exact h _ (setRow_heap w g _ vs'.toArray t _ hr) ⟨rfl, rfl, rfl, by simp [World.setRow], fun i hi hn => setRow_other w g i _ (fun e => hn (by rw [e]))⟩ (by simp [World.setRow])
theorem exec_store {P : Program} {w : World} {o : Oper} {a : Act} (ty n : Nat) (hi : (P.info? ty).map (·.size) = some n) (x y : Operand) (ho : o.op = .store ty x y) (g : Nat) (vs' : List Value) (hx : a.eval x = .pointer (some ⟨g, 0, none⟩)) (hy : a.eval y = .agg vs'.toArray) (t : TypeId) (vs : List Value) (hr : RowV t w g vs) (hl : vs.length = n) (hl' : vs'.length = n) (h1 : Ones vs') :
    ∃ w', (execOp a.eval o).run P w = .ok .skip w' ∧ RowV t w' g vs' ∧ w.grownBy w' (some g) := by
  refine ⟨w.setRow g vs'.toArray, ?_, setRow_heap w g _ vs'.toArray t _ hr, ⟨rfl, rfl, rfl, by simp [World.setRow], fun i hi hn => setRow_other w g i _ (fun e => hn (by rw [e]))⟩⟩
  unfold execOp
  simp only [ho, hx, hy, Instr.storeAt, Instr.sureAddr, Sem.run_bind, Sem.run_pure, Result.andThen_ok, run_storeVar_row w g t ty vs.toArray vs'.toArray hr (by rw [hi, ← hl']; simp) (by simp; omega) (by simp; exact fun v hv => h1 v hv)]
theorem exec_load {P : Program} {w : World} {o : Oper} {a : Act} (ty n : Nat) (d : TypeDesc) (hu : P.underlying ty = some d) (hd : (match d with | .struct _ | .array _ _ => true | _ => false) = true) (hi : (P.info? ty).map (·.size) = some n) (x : Operand) (ho : o.op = .load ty x) (g : Nat) (vs : List Value) (hx : a.eval x = .pointer (some ⟨g, 0, none⟩)) (t : TypeId) (hr : RowV t w g vs) (hl : vs.length = n) :
    (execOp a.eval o).run P w = .ok (.value (.agg vs.toArray)) w := by
  unfold execOp
  simp only [ho, hx, Instr.loadAt, Instr.sureAddr, Sem.run_bind, Sem.run_pure, Result.andThen_ok, run_loadVar_row w g t ty vs.toArray (0, 0) d hr hu hd (by rw [hi, ← hl]; simp)]
theorem RowV.grown {t : TypeId} {w w' : World} {g gr : Nat} {vs : List Value} (h : RowV t w g vs) (hg : w.grownBy w' (some gr)) (hne : g ≠ gr) : RowV t w' g vs := (hg.block g h.lt (fun e => by injection e with e; exact hne e)).trans h
theorem noU3 {a b c : Value} (ha : ∀ x, a ≠ .int .u64 x) (hb : ∀ x, b ≠ .int .u64 x) (hc : ∀ x, c ≠ .int .u64 x) : ∀ v ∈ [a, b, c], ∀ x, v ≠ .int .u64 x := by
  intro v hv x
  simp only [List.mem_cons, List.not_mem_nil, or_false] at hv
  rcases hv with rfl | rfl | rfl
  · exact ha x
  · exact hb x
  · exact hc x
theorem ones3 {a b c : Value} (ha : a.oneCell' = true) (hb : b.oneCell' = true) (hc : c.oneCell' = true) : Ones [a, b, c] := by
  intro v hv
  simp only [List.mem_cons, List.not_mem_nil, or_false] at hv
  rcases hv with rfl | rfl | rfl
  · exact ha
  · exact hb
  · exact hc
theorem NoU.of_row {t : TypeId} {w : World} {g : Nat} {vs : List Value} (hr : RowV t w g vs) (h : ∀ v ∈ vs, ∀ x, v ≠ .int .u64 x) : NoU w g := by
  intro off x hx
  rw [hr.cell] at hx
  exact h _ (List.mem_of_getElem? hx) x rfl
theorem below_grown {a w w' : World} {B g : Nat} (h : Below B a w) (hg : w.grownBy w' (some g)) (hB : B ≤ g) (hs : B ≤ w.heap.size) : Below B a w' :=
  h.trans ⟨hg.os, hg.tape, hg.output, hg.size, fun i hi => hg.block i (by omega) (fun e => by injection e; omega)⟩
/-- a block of structures's value -/
theorem newS (w : World) (t : TypeId) (vs : List Value) (arr : Array Value) (he : vs.toArray = arr) : ∃ W, w.alloc (.cells arr t) = W ∧ RowV t W w.heap.size vs ∧ Below w.heap.size w W ∧ W.heap.size = w.heap.size + 1 := newV w t vs arr he
/-- a value is a curve's domain -/
def Dm (w : World) (v : Value) (D : Crv) : Prop := ∃ vp vb vn vx vy, v = .agg #[.int .i64 (D.size : Int), vp, vb, vn, .bool false, vx, vy] ∧ Nu w vp D.p ∧ Nu w vb D.b ∧ Nu w vn D.n ∧ Nu w vx D.gx ∧ Nu w vy D.gy
theorem Dm.sb {w w' : World} {v : Value} {D : Crv} (h : Dm w v D) (hb : Sb w w') : Dm w' v D := by
  obtain ⟨vp, vb, vn, vx, vy, e, h1, h2, h3, h4, h5⟩ := h
  exact ⟨vp, vb, vn, vx, vy, e, h1.sb hb, h2.sb hb, h3.sb hb, h4.sb hb, h5.sb hb⟩
theorem Dm.later {w w' : World} {v : Value} {D : Crv} (h : Dm w v D) (hb : Below w.heap.size w w') : Dm w' v D := h.sb (Sb.of_below hb)
/-- .. a point by ratios -/
def Rt (w : World) (v : Value) (T : Nat × Nat × Nat) : Prop := ∃ a b c, v = .agg #[a, b, c] ∧ Nu w a T.1 ∧ Nu w b T.2.1 ∧ Nu w c T.2.2
theorem Rt.sb {w w' : World} {v : Value} {T : Nat × Nat × Nat} (h : Rt w v T) (hb : Sb w w') : Rt w' v T := by
  obtain ⟨a, b, c, e, h1, h2, h3⟩ := h
  exact ⟨a, b, c, e, h1.sb hb, h2.sb hb, h3.sb hb⟩
theorem Rt.later {w w' : World} {v : Value} {T : Nat × Nat × Nat} (h : Rt w v T) (hb : Below w.heap.size w w') : Rt w' v T := h.sb (Sb.of_below hb)
/-- .. a point in normal form: at infinity with noughts -/
def Pt (w : World) (v : Value) : Option (Nat × Nat) → Prop
  | none => ∃ a b, v = .agg #[.bool true, a, b] ∧ Nu w a 0 ∧ Nu w b 0
  | some (x, y) => ∃ a b, v = .agg #[.bool false, a, b] ∧ Nu w a x ∧ Nu w b y
theorem Pt.sb {w w' : World} {v : Value} {P : Option (Nat × Nat)} (h : Pt w v P) (hb : Sb w w') : Pt w' v P := by
  rcases P with _ | ⟨x, y⟩
  · obtain ⟨a, b, e, h1, h2⟩ := h
    exact ⟨a, b, e, h1.sb hb, h2.sb hb⟩
  · obtain ⟨a, b, e, h1, h2⟩ := h
    exact ⟨a, b, e, h1.sb hb, h2.sb hb⟩
theorem Pt.later {w w' : World} {v : Value} {P : Option (Nat × Nat)} (h : Pt w v P) (hb : Below w.heap.size w w') : Pt w' v P := h.sb (Sb.of_below hb)
/-- .. a point as it comes: X and Y of at most 64 limbs; at infinity they are anything -/
def Pg (w : World) (v : Value) : Option (Nat × Nat) → Prop
  | none => ∃ a b, v = .agg #[.bool true, a, b] ∧ a.oneCell' = true ∧ b.oneCell' = true
  | some (x, y) => ∃ a b, v = .agg #[.bool false, a, b] ∧ NumR w 64 x a ∧ NumR w 64 y b
theorem Pg.sb {w w' : World} {v : Value} {P : Option (Nat × Nat)} (h : Pg w v P) (hb : Sb w w') : Pg w' v P := by
  rcases P with _ | ⟨x, y⟩
  · exact h
  · obtain ⟨a, b, e, h1, h2⟩ := h
    exact ⟨a, b, e, h1.sb hb, h2.sb hb⟩
theorem Pg.later {w w' : World} {v : Value} {P : Option (Nat × Nat)} (h : Pg w v P) (hb : Below w.heap.size w w') : Pg w' v P := h.sb (Sb.of_below hb)
theorem Pt.pg {w : World} {v : Value} {P : Option (Nat × Nat)} (h : Pt w v P) : Pg w v P := by
  rcases P with _ | ⟨x, y⟩
  · obtain ⟨a, b, e, h1, h2⟩ := h
    exact ⟨a, b, e, h1.one, h2.one⟩
  · obtain ⟨a, b, e, h1, h2⟩ := h
    exact ⟨a, b, e, h1.gu, h2.gu⟩
end Go.Proofs.Ytmmmcbklgmjalaa

/- curve: the two curves' numbers; domainOf. -/
set_option linter.unusedVariables false
set_option linter.unusedSimpArgs false
namespace Go.Proofs.Ytmmmcbklgmjalaa
open Go.RowKit

theorem numb_lit (w : World) (n : Nat) (xs : List Nat) (arr : Array Value) (ha : arr = (xs.map U).toArray) (k : Nat) (hn : n = xs.length) (hn0 : 0 < n) (hn1 : n ≤ 60) (hk : Nm b64 (rvk n xs (n / 2)) k) :
    Calls Try.prog 60 #[.slice (some ⟨w.heap.size, 0, none⟩) n n] (w.alloc (.cells arr 49)) fun e w' => RetU w k e w' := by
  subst ha
  have hr := RowV.new w 49 (xs.map U)
  have hb : Below w.heap.size w (w.alloc (.cells (xs.map U).toArray 49)) := (Below.refl _ w).alloc (Nat.le_refl _) _
  have hs := hr.sl (by simp; omega)
  rw [List.length_map, ← hn] at hs
  refine (numb_any _ _ (Nat.le_refl _) _ n n xs hs hn hn0 hn1).mono ?_
  rintro e w' ⟨A, c', rfl, hs', hB⟩
  exact ⟨_, rfl, ⟨_, A, n, c', rfl, hs', hk, by omega⟩, hb.trans (hB.mono hb.size)⟩
theorem nm_of {xs : List Nat} {k : Nat} (h : (xs.all fun x => decide (x < b64)) = true) (h2 : (match xs.getLast? with | some x => decide (x ≠ 0) | none => true) = true) (h3 : V b64 xs = k) : Nm b64 xs k := by
  refine ⟨fun x hx => by simpa using List.all_eq_true.1 h x hx, fun x hx => ?_, h3⟩
  rw [hx] at h2
  simpa using h2

set_option maxRecDepth 100000 in
set_option maxHeartbeats 1600000 in
theorem p256_any (w : World) : Calls Try.prog 41 #[] w fun e w' => ∃ v, e = .returned v ∧ Dm w' v crv256 ∧ Below w.heap.size w w' := by
  have hlit : ∀ (W : World) (xs : List Nat) (arr : Array Value) (k : Nat), arr = (xs.map U).toArray → xs.length = 4 → Nm b64 (rvk 4 xs (4 / 2)) k →
      Calls Try.prog 60 #[.slice (some ⟨W.heap.size, 0, none⟩) 4 4] (W.alloc (.cells arr 49)) fun e w' => RetU W k e w' :=
    fun W xs arr k h1 h2 h3 => numb_lit W 4 xs arr h1 k h2.symm (by decide) (by decide) h3
  obtain ⟨W0, e0, r0, b0, z0⟩ : ∃ W, w.alloc (.cells #[.int .i64 0, .slice none 0 0, .slice none 0 0, .slice none 0 0, .bool false, .slice none 0 0, .slice none 0 0] 59) = W ∧
      RowV 59 W w.heap.size [.int .i64 0, .slice none 0 0, .slice none 0 0, .slice none 0 0, .bool false, .slice none 0 0, .slice none 0 0] ∧ Below w.heap.size w W ∧ W.heap.size = w.heap.size + 1 :=
    ⟨_, rfl, RowV.new w _ [.int .i64 0, .slice none 0 0, .slice none 0 0, .slice none 0 0, .bool false, .slice none 0 0, .slice none 0 0], (Below.refl _ w).alloc (Nat.le_refl _) _, by simp⟩
  have HB0 := Lib.hid b0
  have HR := Lib.hid r0
  have HLIT := Lib.hid hlit
  have HZ := Lib.hid z0
  clear b0 r0 hlit z0
  go_enter Try.func41, Try.ntmps41
  go_wp2_with fail
  refine (HLIT.out W0 [18446744069414584321, 0, 4294967295, 18446744073709551615] _ 0xffffffff00000001000000000000000000000000ffffffffffffffffffffffff rfl rfl (nm_of (by decide +kernel) (by decide +kernel) (by decide +kernel))).mono ?_
  rintro e w1 ⟨v1, rfl, hv1, hb1⟩
  have HV1 := Lib.hid hv1
  have HB1 := Lib.hid hb1
  clear hv1 hb1
  go_wp2_with fail
  refine (HLIT.out w1 [6540974713487397863, 12964664127075681980, 7285987128567378166, 4309448131093880907] _ 0x5ac635d8aa3a93e7b3ebbd55769886bc651d06b0cc53b0f63bce3c3e27d2604b rfl rfl (nm_of (by decide +kernel) (by decide +kernel) (by decide +kernel))).mono ?_
  rintro e w2 ⟨v2, rfl, hv2, hb2⟩
  have HV1 := Lib.hid (HV1.out.later hb2)
  have HV2 := Lib.hid hv2
  have HB2 := Lib.hid (HB1.out.trans (hb2.mono HB1.out.size))
  clear hv2 hb2
  go_wp2_with fail
  refine (HLIT.out w2 [18446744069414584320, 18446744073709551615, 13611842547513532036, 17562291160714782033] _ 0xffffffff00000000ffffffffffffffffbce6faada7179e84f3b9cac2fc632551 rfl rfl (nm_of (by decide +kernel) (by decide +kernel) (by decide +kernel))).mono ?_
  rintro e w3 ⟨v3, rfl, hv3, hb3⟩
  have HV1 := Lib.hid (HV1.out.later hb3)
  have HV2 := Lib.hid (HV2.out.later hb3)
  have HV3 := Lib.hid hv3
  have HB3 := Lib.hid (HB2.out.trans (hb3.mono HB2.out.size))
  clear hv3 hb3
  go_wp2_with fail
  refine (HLIT.out w3 [7716867327612699207, 17923454489921339634, 8575836109218198432, 17627433388654248598] _ 0x6b17d1f2e12c4247f8bce6e563a440f277037d812deb33a0f4a13945d898c296 rfl rfl (nm_of (by decide +kernel) (by decide +kernel) (by decide +kernel))).mono ?_
  rintro e w4 ⟨v4, rfl, hv4, hb4⟩
  have HV1 := Lib.hid (HV1.out.later hb4)
  have HV2 := Lib.hid (HV2.out.later hb4)
  have HV3 := Lib.hid (HV3.out.later hb4)
  have HV4 := Lib.hid hv4
  have HB4 := Lib.hid (HB3.out.trans (hb4.mono HB3.out.size))
  clear hv4 hb4
  go_wp2_with fail
  refine (HLIT.out w4 [5756518291402817435, 10297457778147434006, 3156516839386865358, 14678990851816772085] _ 0x4fe342e2fe1a7f9b8ee7eb4a7c0f9e162bce33576b315ececbb6406837bf51f5 rfl rfl (nm_of (by decide +kernel) (by decide +kernel) (by decide +kernel))).mono ?_
  rintro e w5 ⟨v5, rfl, hv5, hb5⟩
  have HV1 := Lib.hid (HV1.out.later hb5)
  have HV2 := Lib.hid (HV2.out.later hb5)
  have HV3 := Lib.hid (HV3.out.later hb5)
  have HV4 := Lib.hid (HV4.out.later hb5)
  have HV5 := Lib.hid hv5
  have HB5 := Lib.hid (HB4.out.trans (hb5.mono HB4.out.size))
  clear hv5 hb5
  have hRW := HR.out.later HB5.out
  obtain ⟨gr, hgr⟩ : ∃ g, w.heap.size = g := ⟨_, rfl⟩
  rw [hgr] at hRW ⊢
  have HGR := Lib.hid hgr
  clear e0
  obtain ⟨A1, n1, c1, rfl⟩ := HV1.out.sl
  obtain ⟨A2, n2, c2, rfl⟩ := HV2.out.sl
  obtain ⟨A3, n3, c3, rfl⟩ := HV3.out.sl
  obtain ⟨A4, n4, c4, rfl⟩ := HV4.out.sl
  obtain ⟨A5, n5, c5, rfl⟩ := HV5.out.sl
  have hones : Ones [.int .i64 32, .slice A1 n1 c1, .slice A2 n2 c2, .slice A3 n3 c3, .bool false, .slice A4 n4 c4, .slice A5 n5 c5] := by
    intro v hv
    simp only [List.mem_cons, List.not_mem_nil, or_false] at hv
    rcases hv with rfl | rfl | rfl | rfl | rfl | rfl | rfl <;> rfl
  go_wp2_with ((with_reducible show wpList _ _ _ (⟨none, _, _, _, _, _⟩ :: _) _ _); refine wlS_store rfl 59 7 Try.sizeDom _ _ rfl gr [.int .i64 32, .slice A1 n1 c1, .slice A2 n2 c2, .slice A3 n3 c3, .bool false, .slice A4 n4 c4, .slice A5 n5 c5] rfl rfl 59 _ hRW rfl rfl hones ?_; intro w6 hr6 hg6 hz6)
  refine ⟨rfl, _, results_dom rfl _ gr _ rfl hr6 rfl, ?_⟩
  have hbw := HB0.out.trans (HB5.out.mono HB0.out.size)
  have hs6 : Sb w5 w6 := ⟨gr, NoU.of_row hRW (by intro v hv x; simp only [List.mem_cons, List.not_mem_nil, or_false] at hv; rcases hv with rfl | rfl | rfl | rfl | rfl | rfl | rfl <;> (intro h; cases h)), hg6⟩
  · exact ⟨_, rfl, ⟨_, _, _, _, _, rfl, HV1.out.sb hs6, HV2.out.sb hs6, HV3.out.sb hs6, HV4.out.sb hs6, HV5.out.sb hs6⟩, below_grown hbw hg6 (by rw [HGR.out]; exact Nat.le_refl _) hbw.size⟩

set_option maxRecDepth 100000 in
set_option maxHeartbeats 1600000 in
theorem p384_any (w : World) : Calls Try.prog 42 #[] w fun e w' => ∃ v, e = .returned v ∧ Dm w' v crv384 ∧ Below w.heap.size w w' := by
  have hlit : ∀ (W : World) (xs : List Nat) (arr : Array Value) (k : Nat), arr = (xs.map U).toArray → xs.length = 6 → Nm b64 (rvk 6 xs (6 / 2)) k →
      Calls Try.prog 60 #[.slice (some ⟨W.heap.size, 0, none⟩) 6 6] (W.alloc (.cells arr 49)) fun e w' => RetU W k e w' :=
    fun W xs arr k h1 h2 h3 => numb_lit W 6 xs arr h1 k h2.symm (by decide) (by decide) h3
  obtain ⟨W0, e0, r0, b0, z0⟩ : ∃ W, w.alloc (.cells #[.int .i64 0, .slice none 0 0, .slice none 0 0, .slice none 0 0, .bool false, .slice none 0 0, .slice none 0 0] 59) = W ∧
      RowV 59 W w.heap.size [.int .i64 0, .slice none 0 0, .slice none 0 0, .slice none 0 0, .bool false, .slice none 0 0, .slice none 0 0] ∧ Below w.heap.size w W ∧ W.heap.size = w.heap.size + 1 :=
    ⟨_, rfl, RowV.new w _ [.int .i64 0, .slice none 0 0, .slice none 0 0, .slice none 0 0, .bool false, .slice none 0 0, .slice none 0 0], (Below.refl _ w).alloc (Nat.le_refl _) _, by simp⟩
  have HB0 := Lib.hid b0
  have HR := Lib.hid r0
  have HLIT := Lib.hid hlit
  have HZ := Lib.hid z0
  clear b0 r0 hlit z0
  go_enter Try.func42, Try.ntmps42
  go_wp2_with fail
  refine (HLIT.out W0 [18446744073709551615, 18446744073709551615, 18446744073709551615, 18446744073709551614, 18446744069414584320, 4294967295] _ 0xfffffffffffffffffffffffffffffffffffffffffffffffffffffffffffffffeffffffff0000000000000000ffffffff rfl rfl (nm_of (by decide +kernel) (by decide +kernel) (by decide +kernel))).mono ?_
  rintro e w1 ⟨v1, rfl, hv1, hb1⟩
  have HV1 := Lib.hid hv1
  have HB1 := Lib.hid hb1
  clear hv1 hb1
  go_wp2_with fail
  refine (HLIT.out w1 [12912154004749740004, 10992729701402291481, 1737717031765098770, 221811693264799578, 14291673747578343837, 3064076045283764975] _ 0xb3312fa7e23ee7e4988e056be3f82d19181d9c6efe8141120314088f5013875ac656398d8a2ed19d2a85c8edd3ec2aef rfl rfl (nm_of (by decide +kernel) (by decide +kernel) (by decide +kernel))).mono ?_
  rintro e w2 ⟨v2, rfl, hv2, hb2⟩
  have HV1 := Lib.hid (HV1.out.later hb2)
  have HV2 := Lib.hid hv2
  have HB2 := Lib.hid (HB1.out.trans (hb2.mono HB1.out.size))
  clear hv2 hb2
  go_wp2_with fail
  refine (HLIT.out w2 [18446744073709551615, 18446744073709551615, 18446744073709551615, 14367412456785391071, 6348401684107011962, 17072048233947408755] _ 0xffffffffffffffffffffffffffffffffffffffffffffffffc7634d81f4372ddf581a0db248b0a77aecec196accc52973 rfl rfl (nm_of (by decide +kernel) (by decide +kernel) (by decide +kernel))).mono ?_
  rintro e w3 ⟨v3, rfl, hv3, hb3⟩
  have HV1 := Lib.hid (HV1.out.later hb3)
  have HV2 := Lib.hid (HV2.out.later hb3)
  have HV3 := Lib.hid hv3
  have HB3 := Lib.hid (HB2.out.trans (hb3.mono HB2.out.size))
  clear hv3 hb3
  go_wp2_with fail
  refine (HLIT.out w3 [12288012358878168375, 10282218360005504372, 7934563412932533144, 6482722621138151992, 6125724927633205612, 4203087948775033527] _ 0xaa87ca22be8b05378eb1c71ef320ad746e1d3b628ba79b9859f741e082542a385502f25dbf55296c3a545e3872760ab7 rfl rfl (nm_of (by decide +kernel) (by decide +kernel) (by decide +kernel))).mono ?_
  rintro e w4 ⟨v4, rfl, hv4, hb4⟩
  have HV1 := Lib.hid (HV1.out.later hb4)
  have HV2 := Lib.hid (HV2.out.later hb4)
  have HV3 := Lib.hid (HV3.out.later hb4)
  have HV4 := Lib.hid hv4
  have HB4 := Lib.hid (HB3.out.trans (hb4.mono HB3.out.size))
  clear hv4 hb4
  go_wp2_with fail
  refine (HLIT.out w4 [3897828414440483951, 6745997240412855337, 17938995913990739068, 16850834916486723776, 747793036959711645, 8809917716911230559] _ 0x3617de4a96262c6f5d9e98bf9292dc29f8f41dbd289a147ce9da3113b5f0b8c00a60b1ce1d7e819d7a431d7c90ea0e5f rfl rfl (nm_of (by decide +kernel) (by decide +kernel) (by decide +kernel))).mono ?_
  rintro e w5 ⟨v5, rfl, hv5, hb5⟩
  have HV1 := Lib.hid (HV1.out.later hb5)
  have HV2 := Lib.hid (HV2.out.later hb5)
  have HV3 := Lib.hid (HV3.out.later hb5)
  have HV4 := Lib.hid (HV4.out.later hb5)
  have HV5 := Lib.hid hv5
  have HB5 := Lib.hid (HB4.out.trans (hb5.mono HB4.out.size))
  clear hv5 hb5
  have hRW := HR.out.later HB5.out
  obtain ⟨gr, hgr⟩ : ∃ g, w.heap.size = g := ⟨_, rfl⟩
  rw [hgr] at hRW ⊢
  have HGR := Lib.hid hgr
  clear e0
  obtain ⟨A1, n1, c1, rfl⟩ := HV1.out.sl
  obtain ⟨A2, n2, c2, rfl⟩ := HV2.out.sl
  obtain ⟨A3, n3, c3, rfl⟩ := HV3.out.sl
  obtain ⟨A4, n4, c4, rfl⟩ := HV4.out.sl
  obtain ⟨A5, n5, c5, rfl⟩ := HV5.out.sl
  have hones : Ones [.int .i64 48, .slice A1 n1 c1, .slice A2 n2 c2, .slice A3 n3 c3, .bool false, .slice A4 n4 c4, .slice A5 n5 c5] := by
    intro v hv
    simp only [List.mem_cons, List.not_mem_nil, or_false] at hv
    rcases hv with rfl | rfl | rfl | rfl | rfl | rfl | rfl <;> rfl
  go_wp2_with ((with_reducible show wpList _ _ _ (⟨none, _, _, _, _, _⟩ :: _) _ _); refine wlS_store rfl 59 7 Try.sizeDom _ _ rfl gr [.int .i64 48, .slice A1 n1 c1, .slice A2 n2 c2, .slice A3 n3 c3, .bool false, .slice A4 n4 c4, .slice A5 n5 c5] rfl rfl 59 _ hRW rfl rfl hones ?_; intro w6 hr6 hg6 hz6)
  refine ⟨rfl, _, results_dom rfl _ gr _ rfl hr6 rfl, ?_⟩
  have hbw := HB0.out.trans (HB5.out.mono HB0.out.size)
  have hs6 : Sb w5 w6 := ⟨gr, NoU.of_row hRW (by intro v hv x; simp only [List.mem_cons, List.not_mem_nil, or_false] at hv; rcases hv with rfl | rfl | rfl | rfl | rfl | rfl | rfl <;> (intro h; cases h)), hg6⟩
  · exact ⟨_, rfl, ⟨_, _, _, _, _, rfl, HV1.out.sb hs6, HV2.out.sb hs6, HV3.out.sb hs6, HV4.out.sb hs6, HV5.out.sb hs6⟩, below_grown hbw hg6 (by rw [HGR.out]; exact Nat.le_refl _) hbw.size⟩

/-- the curve that a number names -/
def crvOf (c : Int) : Option Crv := if c = 1 then some crv256 else if c = 2 then some crv384 else none
/-- no curve's value -/
abbrev dom0 : Value := .agg #[.int .i64 0, .slice none 0 0, .slice none 0 0, .slice none 0 0, .bool false, .slice none 0 0, .slice none 0 0]
set_option maxRecDepth 100000 in
set_option maxHeartbeats 1600000 in
theorem domOf_no (w : World) (c : Int) (h : crvOf c = none) : Calls Try.prog 25 #[.int .i64 c] w fun e w' => e = .returned (.tuple #[dom0, .bool false]) ∧ Below w.heap.size w w' := by
  have h1 : c ≠ 1 := by rintro rfl; cases h
  have h2 : c ≠ 2 := by rintro rfl; cases h
  obtain ⟨W0, e0, r0, b0, z0⟩ := newS w 59 [.int .i64 0, .slice none 0 0, .slice none 0 0, .slice none 0 0, .bool false, .slice none 0 0, .slice none 0 0] _ rfl
  obtain ⟨gr, hgr⟩ : ∃ g, w.heap.size = g := ⟨_, rfl⟩
  have HGR := Lib.hid hgr
  rw [hgr] at r0
  go_enter Try.func25, Try.ntmps25
  go_wp2_with ((with_reducible show wpList _ _ _ (⟨none, _, _, _, _, _⟩ :: _) _ _); refine wlS_store rfl 59 7 Try.sizeDom _ _ rfl gr [.int .i64 0, .slice none 0 0, .slice none 0 0, .slice none 0 0, .bool false, .slice none 0 0, .slice none 0 0] rfl rfl 59 _ r0 rfl rfl (by intro v hv; simp only [List.mem_cons, List.not_mem_nil, or_false] at hv; rcases hv with rfl | rfl | rfl | rfl | rfl | rfl | rfl <;> rfl) ?_; intro w6 hr6 hg6 hz6)
  refine ⟨rfl, _, results_dom2 rfl _ gr _ rfl hr6 rfl, rfl, below_grown b0 hg6 (by rw [HGR.out]; exact Nat.le_refl _) b0.size⟩
set_option maxRecDepth 100000 in
set_option maxHeartbeats 1600000 in
theorem domOf_yes (w : World) (c : Int) (D : Crv) (h : crvOf c = some D) : Calls Try.prog 25 #[.int .i64 c] w fun e w' => ∃ v, e = .returned (.tuple #[v, .bool true]) ∧ Dm w' v D ∧ Below w.heap.size w w' := by
  have hD : (c = 1 ∧ D = crv256) ∨ (c = 2 ∧ D = crv384) := by
    unfold crvOf at h
    split at h
    · exact .inl ⟨by assumption, (Option.some.inj h).symm⟩
    · split at h
      · exact .inr ⟨by assumption, (Option.some.inj h).symm⟩
      · cases h
  obtain ⟨W0, e0, r0, b0, z0⟩ := newS w 59 [.int .i64 0, .slice none 0 0, .slice none 0 0, .slice none 0 0, .bool false, .slice none 0 0, .slice none 0 0] _ rfl
  obtain ⟨gr, hgr⟩ : ∃ g, w.heap.size = g := ⟨_, rfl⟩
  have HGR := Lib.hid hgr
  have HB0 := Lib.hid b0
  rw [hgr] at r0
  clear h b0 z0
  rcases hD with ⟨rfl, rfl⟩ | ⟨rfl, rfl⟩
  · have HP := Lib.hid (p256_any W0)
    go_enter Try.func25, Try.ntmps25
    go_wp2_with fail
    refine HP.out.mono ?_
    rintro e w1 ⟨v, rfl, hv, hb⟩
    have HV := Lib.hid hv
    have hr1 := r0.later hb
    have HB1 := Lib.hid hb
    obtain ⟨vp, vb, vn, vx, vy, rfl, k1, k2, k3, k4, k5⟩ := hv
    have h1 := k1.one; have h2 := k2.one; have h3 := k3.one; have h4 := k4.one; have h5 := k5.one
    have hones : Ones [.int .i64 ((crv256.size : Nat) : Int), vp, vb, vn, .bool false, vx, vy] := by
      intro v hv
      simp only [List.mem_cons, List.not_mem_nil, or_false] at hv
      rcases hv with rfl | rfl | rfl | rfl | rfl | rfl | rfl
      · rfl
      · exact h1
      · exact h2
      · exact h3
      · rfl
      · exact h4
      · exact h5
    clear k1 k2 k3 k4 k5 h1 h2 h3 h4 h5 hb
    go_wp2_with ((with_reducible show wpList _ _ _ (⟨none, _, _, _, _, _⟩ :: _) _ _); refine wlS_store rfl 59 7 Try.sizeDom _ _ rfl gr [.int .i64 ((crv256.size : Nat) : Int), vp, vb, vn, .bool false, vx, vy] rfl rfl 59 _ hr1 rfl rfl hones ?_; intro w6 hr6 hg6 hz6)
    have hbw := HB0.out.trans (HB1.out.mono HB0.out.size)
    refine ⟨rfl, _, results_dom2 rfl _ gr _ rfl hr6 rfl, _, rfl, HV.out.sb ⟨gr, NoU.of_row hr1 (by intro v hv x; simp only [List.mem_cons, List.not_mem_nil, or_false] at hv; rcases hv with rfl | rfl | rfl | rfl | rfl | rfl | rfl <;> (intro h; cases h)), hg6⟩, below_grown hbw hg6 (by rw [HGR.out]; exact Nat.le_refl _) hbw.size⟩
  · have HP := Lib.hid (p384_any W0)
    go_enter Try.func25, Try.ntmps25
    go_wp2_with fail
    refine HP.out.mono ?_
    rintro e w1 ⟨v, rfl, hv, hb⟩
    have HV := Lib.hid hv
    have hr1 := r0.later hb
    have HB1 := Lib.hid hb
    obtain ⟨vp, vb, vn, vx, vy, rfl, k1, k2, k3, k4, k5⟩ := hv
    have h1 := k1.one; have h2 := k2.one; have h3 := k3.one; have h4 := k4.one; have h5 := k5.one
    have hones : Ones [.int .i64 ((crv384.size : Nat) : Int), vp, vb, vn, .bool false, vx, vy] := by
      intro v hv
      simp only [List.mem_cons, List.not_mem_nil, or_false] at hv
      rcases hv with rfl | rfl | rfl | rfl | rfl | rfl | rfl
      · rfl
      · exact h1
      · exact h2
      · exact h3
      · rfl
      · exact h4
      · exact h5
    clear k1 k2 k3 k4 k5 h1 h2 h3 h4 h5 hb
    go_wp2_with ((with_reducible show wpList _ _ _ (⟨none, _, _, _, _, _⟩ :: _) _ _); refine wlS_store rfl 59 7 Try.sizeDom _ _ rfl gr [.int .i64 ((crv384.size : Nat) : Int), vp, vb, vn, .bool false, vx, vy] rfl rfl 59 _ hr1 rfl rfl hones ?_; intro w6 hr6 hg6 hz6)
    have hbw := HB0.out.trans (HB1.out.mono HB0.out.size)
    refine ⟨rfl, _, results_dom2 rfl _ gr _ rfl hr6 rfl, _, rfl, HV.out.sb ⟨gr, NoU.of_row hr1 (by intro v hv x; simp only [List.mem_cons, List.not_mem_nil, or_false] at hv; rcases hv with rfl | rfl | rfl | rfl | rfl | rfl | rfl <;> (intro h; cases h)), hg6⟩, below_grown hbw hg6 (by rw [HGR.out]; exact Nat.le_refl _) hbw.size⟩

end Go.Proofs.Ytmmmcbklgmjalaa
