/- Words for memory: slices of uint64 that read as lists of natural numbers. -/
import Derived.Test.YtfiakaenenbhpaaRows
import Derived.Test.YtfiakaenenbhpaaMath
import Derived.WalkKit
import Derived.WalkLawsBesides
import Derived.WalkSpells
import Derived.Deep.QuietTactic
import Derived.BigQuiet
import Derived.Lib.Hide
import Derived.Deep.DeepFit
import Derived.OpenShut
namespace Go.Proofs.Ytfiakaenenbhpaa
open Go.RowKit

/-- a uint64 -/
abbrev U (x : Nat) : Value := .int .u64 (x : Int)

/-- from the address A on, in a block below B, lie the numbers xs -/
def Rd (w : World) (B : Nat) (A : Option Addr) (xs : List Nat) : Prop :=
  xs ≠ [] → ∃ b off, A = some ⟨b, off, none⟩ ∧ b < B ∧ ∀ (k x : Nat), xs[k]? = some x → w.cell? ⟨b, off + k, none⟩ = some (.int .u64 (x : Int))

theorem Rd.below {w w' : World} {B : Nat} {A : Option Addr} {xs : List Nat} (h : Rd w B A xs) (hb : Below B w w') : Rd w' B A xs := fun hn => by
  obtain ⟨b, off, e, hlt, hc⟩ := h hn
  exact ⟨b, off, e, hlt, fun k x hx => (hb.cell (p := ⟨b, off + k, none⟩) hlt).trans (hc k x hx)⟩
theorem Rd.more {w : World} {B B' : Nat} {A : Option Addr} {xs : List Nat} (h : Rd w B A xs) (hB : B ≤ B') : Rd w B' A xs := fun hn => by
  obtain ⟨b, off, e, hlt, hc⟩ := h hn
  exact ⟨b, off, e, Nat.lt_of_lt_of_le hlt hB, hc⟩
/-- behind a call that turned nothing: read up to the new size -/
theorem Rd.later {w w' : World} {B : Nat} {A : Option Addr} {xs : List Nat} (h : Rd w w.heap.size A xs) (hb : Below w.heap.size w w') (hB : w'.heap.size ≤ B) : Rd w' B A xs :=
  (h.below hb).more (Nat.le_trans hb.size hB)
theorem Rd.nil (w : World) (B : Nat) (A : Option Addr) : Rd w B A [] := fun h => absurd rfl h
theorem Rd.take {w : World} {B : Nat} {A : Option Addr} {xs : List Nat} (h : Rd w B A xs) (n : Nat) : Rd w B A (xs.take n) := fun hn => by
  obtain ⟨b, off, e, hlt, hc⟩ := h (fun e => hn (by rw [e]; simp))
  refine ⟨b, off, e, hlt, fun k x hx => hc k x ?_⟩
  rw [List.getElem?_take] at hx
  split at hx
  · exact hx
  · cases hx
theorem Rd.at_ {w : World} {B : Nat} {A : Option Addr} {xs : List Nat} (h : Rd w B A xs) {k : Nat} (hk : k < xs.length) :
    ∃ b off x, A = some ⟨b, off, none⟩ ∧ b < B ∧ xs[k]? = some x ∧ w.cell? ⟨b, off + k, none⟩ = some (.int .u64 (x : Int)) := by
  obtain ⟨b, off, e, hlt, hc⟩ := h (by intro e; subst e; simp at hk)
  exact ⟨b, off, xs[k], e, hlt, List.getElem?_eq_getElem hk, hc k _ (List.getElem?_eq_getElem hk)⟩
theorem Rd.drewN {w : World} {B : Nat} {A : Option Addr} {xs : List Nat} (h : Rd w B A xs) (n : Nat) : Rd (w.drewN n) B A xs := h

/-- block g is, whole, the numbers zs -/
def Row (w : World) (g : Nat) (zs : List Nat) : Prop := w.heap[g]? = some (.cells (zs.map U).toArray 58 (0, 0))

theorem Row.lt {w : World} {g : Nat} {zs : List Nat} (h : Row w g zs) : g < w.heap.size := (Array.getElem?_eq_some_iff.1 h).1
theorem Row.cell {w : World} {g : Nat} {zs : List Nat} (h : Row w g zs) (i : Nat) : w.cell? ⟨g, i, none⟩ = (zs[i]?).map U := by
  rw [cell_of_row w g i _ _ (0, 0) h]; simp
theorem Row.at_ {w : World} {g : Nat} {zs : List Nat} (h : Row w g zs) {i x : Nat} (hx : zs[i]? = some x) : w.cell? ⟨g, i, none⟩ = some (.int .u64 (x : Int)) := by
  rw [h.cell, hx]; rfl
theorem Row.frozen {w : World} {g : Nat} {zs : List Nat} (h : Row w g zs) (i : Nat) : w.frozen? ⟨g, i, none⟩ = false := by
  unfold Row at h
  simp [World.frozen?, h]
theorem Row.set {w : World} {g : Nat} {zs : List Nat} (h : Row w g zs) (i x : Nat) : Row (w.setCell ⟨g, i, none⟩ (U x)) g (zs.set i x) := by
  unfold Row at h ⊢
  simp [World.setCell, Array.getElem?_modify, h, List.map_set]
theorem Row.below {w w' : World} {g B : Nat} {zs : List Nat} (h : Row w g zs) (hb : Below B w w') (hg : g < B) : Row w' g zs := (hb.block g hg).trans h
theorem Row.far {w : World} {g : Nat} {zs : List Nat} (h : Row w g zs) {p : Addr} (hp : g ≠ p.block) (u : Value) : Row (w.setCell p u) g zs := (Below.heap_setCell w p u g hp).trans h
theorem Row.rd {w : World} {g : Nat} {zs : List Nat} (h : Row w g zs) (off : Nat) (xs : List Nat) (hx : ∀ (k x : Nat), xs[k]? = some x → zs[off + k]? = some x) : Rd w w.heap.size (some ⟨g, off, none⟩) xs :=
  fun _ => ⟨g, off, rfl, h.lt, fun k x hk => h.at_ (hx k x hk)⟩
theorem Row.rd0 {w : World} {g : Nat} {zs : List Nat} (h : Row w g zs) : Rd w w.heap.size (some ⟨g, 0, none⟩) zs := h.rd 0 zs (by simp)

/-- nothing but block g (and what is new) has turned -/
abbrev Only (w w' : World) (g : Nat) : Prop := w.grownBy w' (some g)
theorem Only.refl (w : World) (g : Nat) : Only w w g := World.grownBy.refl w _
theorem Only.trans {a b c : World} {g : Nat} (h : Only a b g) (k : Only b c g) : Only a c g :=
  ⟨k.os.trans h.os, k.tape.trans h.tape, k.output.trans h.output, Nat.le_trans h.size k.size, fun i hi hn => (k.block i (Nat.lt_of_lt_of_le hi h.size) hn).trans (h.block i hi hn)⟩
theorem Only.set {a w : World} {g : Nat} (h : Only a w g) (i : Nat) (u : Value) : Only a (w.setCell ⟨g, i, none⟩ u) g :=
  h.trans ⟨rfl, rfl, rfl, by simp [World.setCell], fun k _ hn => Below.heap_setCell _ _ _ _ (fun e => hn (by rw [e]))⟩
theorem Only.of_below {a w : World} (h : Below a.heap.size a w) (g : Nat) : Only a w g := ⟨h.os, h.tape, h.output, h.size, fun i hi _ => h.block i hi⟩
theorem Only.drewN {a w : World} {g : Nat} (h : Only a w g) (n : Nat) : Only a (w.drewN n) g := ⟨h.os, h.tape, h.output, h.size, h.block⟩
/-- what lies below g has not turned -/
theorem Only.below {a w : World} {g B : Nat} (h : Only a w g) (hB : B ≤ g) (hs : B ≤ a.heap.size) : Below B a w :=
  ⟨h.os, h.tape, h.output, h.size, fun i hi => h.block i (by omega) (fun e => by injection e; omega)⟩
theorem below_drewN {B : Nat} {a w : World} (h : Below B a w) (n : Nat) : Below B a (w.drewN n) := ⟨h.os, h.tape, h.output, h.size, h.block⟩
theorem Row.drewN {w : World} {g : Nat} {zs : List Nat} (h : Row w g zs) (n : Nat) : Row (w.drewN n) g zs := h

/-- the slice from A on, of length n and capacity c, in a block below B, reads xs -/
def Sl (w : World) (B : Nat) (A : Option Addr) (n c : Nat) (xs : List Nat) : Prop :=
  n = xs.length ∧ n ≤ c ∧ c ≤ 9223372036854775807 ∧ Rd w B A xs
theorem Sl.len {w : World} {B n c : Nat} {A : Option Addr} {xs : List Nat} (h : Sl w B A n c xs) : n = xs.length := h.1
theorem Sl.cap {w : World} {B n c : Nat} {A : Option Addr} {xs : List Nat} (h : Sl w B A n c xs) : n ≤ c := h.2.1
theorem Sl.max {w : World} {B n c : Nat} {A : Option Addr} {xs : List Nat} (h : Sl w B A n c xs) : c ≤ 9223372036854775807 := h.2.2.1
theorem Sl.rd {w : World} {B n c : Nat} {A : Option Addr} {xs : List Nat} (h : Sl w B A n c xs) : Rd w B A xs := h.2.2.2
theorem Sl.below {w w' : World} {B n c : Nat} {A : Option Addr} {xs : List Nat} (h : Sl w B A n c xs) (hb : Below B w w') : Sl w' B A n c xs := ⟨h.1, h.2.1, h.2.2.1, h.rd.below hb⟩
theorem Sl.more {w : World} {B B' n c : Nat} {A : Option Addr} {xs : List Nat} (h : Sl w B A n c xs) (hB : B ≤ B') : Sl w B' A n c xs := ⟨h.1, h.2.1, h.2.2.1, h.rd.more hB⟩
theorem Sl.later {w w' : World} {B n c : Nat} {A : Option Addr} {xs : List Nat} (h : Sl w w.heap.size A n c xs) (hb : Below w.heap.size w w') (hB : w'.heap.size ≤ B) : Sl w' B A n c xs := ⟨h.1, h.2.1, h.2.2.1, h.rd.later hb hB⟩
theorem Sl.drewN {w : World} {B n c : Nat} {A : Option Addr} {xs : List Nat} (h : Sl w B A n c xs) (k : Nat) : Sl (w.drewN k) B A n c xs := h
theorem Sl.at_ {w : World} {B n c : Nat} {A : Option Addr} {xs : List Nat} (h : Sl w B A n c xs) {k : Nat} (hk : k < n) :
    ∃ b off x, A = some ⟨b, off, none⟩ ∧ b < B ∧ xs[k]? = some x ∧ w.cell? ⟨b, off + k, none⟩ = some (.int .u64 (x : Int)) := h.rd.at_ (by have := h.1; omega)
theorem Sl.nil (w : World) (B : Nat) (A : Option Addr) {c : Nat} (h : c ≤ 9223372036854775807) : Sl w B A 0 c [] := ⟨rfl, Nat.zero_le _, h, Rd.nil _ _ _⟩
theorem Sl.take {w : World} {B n c : Nat} {A : Option Addr} {xs : List Nat} (h : Sl w B A n c xs) {k : Nat} (hk : k ≤ n) : Sl w B A k c (xs.take k) :=
  ⟨by rw [List.length_take]; have := h.1; omega, by have := h.2.1; omega, h.2.2.1, h.rd.take k⟩
theorem Row.sl {w : World} {g : Nat} {zs : List Nat} (h : Row w g zs) (hz : zs.length ≤ 9223372036854775807) : Sl w w.heap.size (some ⟨g, 0, none⟩) zs.length zs.length zs :=
  ⟨rfl, Nat.le_refl _, hz, h.rd0⟩

/-- the function returns a slice that reads xs, all else being as it was -/
def RetS (w : World) (xs : List Nat) (e : Ending) (w' : World) : Prop :=
  ∃ A n c, e = .returned (.slice A n c) ∧ Sl w' w'.heap.size A n c xs ∧ Below w.heap.size w w'
/-- .. that reads the normal form of k in base B -/
def RetN (B : Nat) (w : World) (k : Nat) (e : Ending) (w' : World) : Prop :=
  ∃ xs, Nm B xs k ∧ RetS w xs e w'
end Go.Proofs.Ytfiakaenenbhpaa
