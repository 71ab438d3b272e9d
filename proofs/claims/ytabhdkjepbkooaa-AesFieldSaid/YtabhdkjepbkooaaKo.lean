/- Nothing but one block has turned (what the hash texts have). -/
import Derived.Test.YtabhdkjepbkooaaMem
import Derived.Test.YtabhdkjepbkooaaKr
set_option linter.unusedVariables false
set_option linter.unusedSimpArgs false
namespace Go.Proofs.Ytabhdkjepbkooaa
open Go.RowKit

/-- nothing but block g (and what is new) has turned -/
abbrev OnlyV (w w' : World) (g : Nat) : Prop := w.grownBy w' (some g)
theorem OnlyV.refl (w : World) (g : Nat) : OnlyV w w g := World.grownBy.refl w _
theorem OnlyV.trans {a b c : World} {g : Nat} (h : OnlyV a b g) (k : OnlyV b c g) : OnlyV a c g :=
  ⟨k.os.trans h.os, k.tape.trans h.tape, k.output.trans h.output, Nat.le_trans h.size k.size, fun i hi hn => (k.block i (Nat.lt_of_lt_of_le hi h.size) hn).trans (h.block i hi hn)⟩
theorem OnlyV.of_below {a w : World} (h : Below a.heap.size a w) (g : Nat) : OnlyV a w g := ⟨h.os, h.tape, h.output, h.size, fun i hi _ => h.block i hi⟩
theorem OnlyV.drewN {a w : World} {g : Nat} (h : OnlyV a w g) (n : Nat) : OnlyV a (w.drewN n) g := ⟨h.os, h.tape, h.output, h.size, h.block⟩
theorem OnlyV.below {a w : World} {g B : Nat} (h : OnlyV a w g) (hB : B ≤ g) (hs : B ≤ a.heap.size) : Below B a w :=
  ⟨h.os, h.tape, h.output, h.size, fun i hi => h.block i (by omega) (fun e => by injection e; omega)⟩
theorem OnlyV.set {a w : World} {g : Nat} (h : OnlyV a w g) (i : Nat) (u : Value) : OnlyV a (w.setCell ⟨g, i, none⟩ u) g :=
  h.trans ⟨rfl, rfl, rfl, by simp [World.setCell], fun k _ hn => Below.heap_setCell _ _ _ _ (fun e => hn (by rw [e]))⟩
theorem OnlyV.sets {a : World} {g : Nat} : ∀ (ys : List Value) (o : Nat) (w : World), OnlyV a w g → OnlyV a (w.setCells g o ys) g
  | [], _, _, h => h
  | y :: r, o, _, h => OnlyV.sets r (o + 1) _ (h.set o y)

theorem OnlyV.grown {a w w' : World} {g : Nat} (h : OnlyV a w g) {row : Option Nat} (hg : w.grownBy w' row) (hr : ∀ r, row = some r → a.heap.size ≤ r) : OnlyV a w' g :=
  ⟨hg.os.trans h.os, hg.tape.trans h.tape, hg.output.trans h.output, Nat.le_trans h.size hg.size, fun i hi hn => (hg.block i (Nat.lt_of_lt_of_le hi h.size) (fun e => by have := hr i e.symm; omega)).trans (h.block i hi hn)⟩
theorem RowV.only {t : TypeId} {A B : World} {g ex : Nat} {vs : List Value} (h : RowV t A g vs) (hk : OnlyV A B ex) (h1 : g ≠ ex) : RowV t B g vs := (hk.block g h.lt (fun e => h1 (by injection e))).trans h
end Go.Proofs.Ytabhdkjepbkooaa
