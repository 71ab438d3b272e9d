/- Boxes: variables that live in a block of their own. -/
import Derived.Test.YtabhdkjepbkooaaMem
import Derived.RangeFuncBox
set_option linter.unusedVariables false
set_option linter.unusedSimpArgs false
namespace Go.Proofs.Ytabhdkjepbkooaa
open Go.RowKit

theorem newboxE (w : World) (t : TypeId) (v : Value) : ∃ W, w.alloc (.cells #[v] t) = W ∧ Below w.heap.size w W ∧ W.cell? ⟨w.heap.size, 0, none⟩ = some v ∧ W.frozen? ⟨w.heap.size, 0, none⟩ = false ∧ W.heap.size = w.heap.size + 1 :=
  ⟨_, rfl, (Below.refl _ _).alloc (Nat.le_refl _) _, (Boxed.new w t v).cell, (Boxed.new w t v).frozen, by simp⟩
/-- a box below the heap's end holds v -/
def BxE (b : Nat) (v : Value) (W : World) : Prop := W.cell? ⟨b, 0, none⟩ = some v ∧ W.frozen? ⟨b, 0, none⟩ = false ∧ b < W.heap.size
theorem BxE.later {b : Nat} {v : Value} {W W' : World} (h : BxE b v W) (hb : Below W.heap.size W W') : BxE b v W' :=
  ⟨(hb.cell (p := ⟨b, 0, none⟩) h.2.2).trans h.1, (hb.frozen (p := ⟨b, 0, none⟩) h.2.2).trans h.2.1, Nat.lt_of_lt_of_le h.2.2 hb.size⟩

theorem newBox (w : World) (t : TypeId) (v : Value) : ∃ W, w.alloc (.cells #[v] t) = W ∧ Below w.heap.size w W ∧ BxE w.heap.size v W ∧ W.heap.size = w.heap.size + 1 := by
  obtain ⟨W, e, h, h1, h2, h3⟩ := newboxE w t v
  exact ⟨W, e, h, ⟨h1, h2, by omega⟩, h3⟩
theorem below_drewR (B : Nat) (w : World) (n : Nat) : Below B w (w.drewN n) := ⟨rfl, rfl, rfl, Nat.le_refl _, fun _ _ => rfl⟩
theorem below_box {B : Nat} {a w : World} (h : Below B a w) {b : Nat} (hb : B ≤ b) (u : Value) : Below B a (w.setCell ⟨b, 0, none⟩ u) := h.setCell (p := ⟨b, 0, none⟩) hb u
theorem BxE.set {b : Nat} {v : Value} {W : World} (h : BxE b v W) (u : Value) : BxE b u (W.setCell ⟨b, 0, none⟩ u) :=
  ⟨World.cell?_setCell_same' _ _ _ (by rw [h.1]; rfl), by rw [World.frozen?_setCell]; exact h.2.1, by have := h.2.2; simpa [World.setCell] using this⟩
theorem BxE.far {b b' : Nat} {v : Value} {W : World} (h : BxE b v W) (hn : b' ≠ b) (u : Value) : BxE b v (W.setCell ⟨b', 0, none⟩ u) :=
  ⟨by rw [World.cell?_setCell_other _ _ _ _ (fun e => hn (by injection e))]; exact h.1, by rw [World.frozen?_setCell]; exact h.2.1, by have := h.2.2; simpa [World.setCell] using this⟩
theorem BxE.kept {b : Nat} {v : Value} {A B' : World} (h : BxE b v A) {row : Option Nat} (hg : A.grownBy B' row) (hr : ∀ r, row = some r → ∃ o : Obj, A.heap[r]? = some o ∧ o.isCells = false) : BxE b v B' :=
  ⟨cell_kept h.1 hg hr, (frozen_kept h.1 hg hr).trans h.2.1, Nat.lt_of_lt_of_le h.2.2 hg.size⟩
theorem BxE.new (w : World) (t : TypeId) (v : Value) : BxE w.heap.size v (w.alloc (.cells #[v] t)) := by
  obtain ⟨W, rfl, _, h1, h2, h3⟩ := newboxE w t v
  exact ⟨h1, h2, by omega⟩
theorem BxE.drewN {b : Nat} {v : Value} {W : World} (h : BxE b v W) (n : Nat) : BxE b v (W.drewN n) := h
theorem SlV.setFar {w : World} {B n c : Nat} {A : Option Addr} {vs : List Value} (h : SlV w B A n c vs) {b : Nat} (hb : B ≤ b) (u : Value) : SlV (w.setCell ⟨b, 0, none⟩ u) B A n c vs :=
  h.below ((Below.refl B w).setCell (p := ⟨b, 0, none⟩) hb u)
end Go.Proofs.Ytabhdkjepbkooaa
