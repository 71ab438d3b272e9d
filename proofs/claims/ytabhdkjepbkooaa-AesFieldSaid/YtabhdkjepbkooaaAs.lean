/- Rows of arrays: make, and stores of many cells. -/
import Derived.Test.YtabhdkjepbkooaaKa
import Derived.Deep.MidRow
set_option linter.unusedVariables false
set_option linter.unusedSimpArgs false
namespace Go.Proofs.Ytabhdkjepbkooaa
open Go.RowKit

theorem made_cells (z : Value) (m n : Nat) (hm : 0 < m) : (madeCells (Array.replicate m z) n).toList = List.replicate n z := by
  apply List.ext_getElem?
  intro j
  by_cases hj : j < n
  · have h := Nat.mod_lt j hm
    simp [madeCells, hj, h]
  · simp [madeCells, hj]
/-- 'make([][m]T, n)' -/
theorem wlv_makeA {P : Program} {w : World} {ops : Array Oper} {rest : List Oper} {o : Oper} {a : Act} {Q : Exit → Act → World → Prop} (hg : o.guard = none) (t e : TypeId) (i : TypeInfo) (zv z : Value) (m : Nat) (ht : P.underlying t = some (.slice e)) (hi : P.info? e = some i) (hz : i.zero = some zv) (hzc : zv.cells = Array.replicate m z) (hm : 0 < m) (his : i.size = m) (hib : i.bytes ≤ 8 * m) (hmb : m ≤ 65536) (l : Operand)
    (hop : o.op = Op.makeSlice t l l) (N : Int) (n : Nat) (hl : a.eval l = .int .i64 N) (hN : N = n) (hn : n ≤ 16777216)
    (h : ∀ w', RowV e w' w.heap.size (List.replicate (n * m) z) → Below w.heap.size w w' → w'.heap.size = w.heap.size + 1 → wpList P ops Q rest (a.put o.dst (.slice (some ⟨w.heap.size, 0, none⟩) n n)) w') :
    wpList P ops Q (o :: rest) a w := by
  subst hN
  refine wpList_plain hg fun K hK => ?_
  have hb : (i.bytes : Int) * (n : Int) ≤ 281474976710656 := by
    have h1 : i.bytes * n ≤ (8 * m) * n := Nat.mul_le_mul_right _ hib
    have h2 : (8 * m) * n ≤ (8 * 65536) * 16777216 := Nat.mul_le_mul (Nat.mul_le_mul_left _ hmb) hn
    have h3 : ((i.bytes * n : Nat) : Int) ≤ 281474976710656 := by omega
    rwa [Int.natCast_mul] at h3
  have hr := run_make (P := P) w t e i zv ht hi hz .i64 .i64 n n (by omega) (by omega) hb (by omega)
  simp only [Int.toNat_natCast] at hr
  unfold Oper.wp
  simp [execOp, hop, hl, hr, Result.andThen]
  refine hK _ _ (h _ ?_ ((Below.refl _ _).alloc (Nat.le_refl _) _) (by simp))
  unfold RowV
  rw [heap_alloc_new, hzc, his]
  have e : madeCells (Array.replicate m z) (n * m) = (List.replicate (n * m) z).toArray := by
    apply Array.ext'
    rw [made_cells _ _ _ hm]
  rw [e]
theorem RowV.setMany {t : TypeId} {g : Nat} : ∀ (ys : List Value) (o : Nat) (w : World) (vs : List Value), RowV t w g vs → o + ys.length ≤ vs.length → RowV t (w.setCells g o ys) g (vs.take o ++ (ys ++ vs.drop (o + ys.length)))
  | [], o, w, vs, h, _ => by simpa [World.setCells] using h
  | y :: r, o, w, vs, h, hl => by
    rw [World.setCells]
    have hl2 : o < vs.length := by simp at hl; omega
    have h2 := RowV.setMany r (o + 1) _ _ (h.set o y) (by simp at hl ⊢; omega)
    have e : (vs.set o y).take (o + 1) ++ (r ++ (vs.set o y).drop (o + 1 + r.length)) = vs.take o ++ (y :: r ++ vs.drop (o + (y :: r).length)) := by
      rw [List.take_set, List.drop_set_of_lt (by omega), List.take_succ_eq_append_getElem hl2, List.set_append_right _ _ (by rw [List.length_take]; omega), show o - (vs.take o).length = 0 by simp; omega, List.set_cons_zero]
      simp [Nat.add_assoc, Nat.add_comm 1]
    rwa [e] at h2
theorem below_setMany {B : Nat} {g : Nat} (hg : B ≤ g) : ∀ (ys : List Value) (o : Nat) (a w : World), Below B a w → Below B a (w.setCells g o ys)
  | [], _, _, _, h => h
  | y :: r, o, a, w, h => below_setMany hg r (o + 1) a _ (below_setV h hg o y)
theorem RowV.there {t : TypeId} {w : World} {g : Nat} {vs : List Value} (h : RowV t w g vs) (o n : Nat) (hl : o + n ≤ vs.length) : w.there g o n := fun j hj =>
  ⟨by rw [h.cell, List.getElem?_eq_getElem (by omega)]; rfl, h.frozen _⟩
theorem RowV.range {t : TypeId} {w : World} {g : Nat} {vs : List Value} (h : RowV t w g vs) (o n : Nat) : w.rangeAt g o ((vs.drop o).take n) := fun j v hv => by
  rw [List.getElem?_take] at hv
  split at hv
  · rw [List.getElem?_drop] at hv; exact h.at_ hv
  · cases hv
theorem repl_start (Wh : List (BitVec 8)) (C : Nat) : List.replicate (C * 16) (W8 0) = (Wh.take (16 * 0) ++ List.replicate (16 * (C - 0)) (0 : BitVec 8)).map W8 := by
  simp [Nat.mul_comm]
end Go.Proofs.Ytabhdkjepbkooaa
