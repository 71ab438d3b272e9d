/- hashes: words in arrays. -/
import Derived.Test.YtabhdkjepbkooaaBv
set_option linter.unusedVariables false
set_option linter.unusedSimpArgs false
namespace Go.Proofs.Ytabhdkjepbkooaa
open Go.RowKit

section
variable {P : Program} {w : World} {ops : Array Oper} {rest : List Oper} {o : Oper} {a : Act} {Q : Exit → Act → World → Prop}
/-- a whole array is read -/
theorem wlv_load (hgd : o.guard = none) (ty n e : Nat) (hu : P.underlying ty = some (.array n e)) (hi : (P.info? ty).map (·.size) = some n) (x : Operand) (ho : o.op = .load ty x) (g : Nat) (hx : a.eval x = .pointer (some ⟨g, 0, none⟩)) (t : TypeId) (vs : List Value) (hr : RowV t w g vs) (hl : vs.length = n)
    (h : wpList P ops Q rest (a.put o.dst (.agg vs.toArray)) w) : wpList P ops Q (o :: rest) a w :=
  wpList_load_row hgd ty x ho g hx t vs.toArray (0, 0) _ hr hu rfl (by rw [hi, ← hl]; simp) h
/-- a whole array is written -/
theorem wlv_store (hgd : o.guard = none) (ty n : Nat) (hi : (P.info? ty).map (·.size) = some n) (x y : Operand) (ho : o.op = .store ty x y) (g : Nat) (vs' : List Value) (hx : a.eval x = .pointer (some ⟨g, 0, none⟩)) (hy : a.eval y = .agg vs'.toArray) (t : TypeId) (vs : List Value) (hr : RowV t w g vs) (hl : vs.length = n) (hl' : vs'.length = n) (h1 : Ones vs')
    (h : ∀ w', RowV t w' g vs' → (∀ B W, Below B W w → B ≤ g → Below B W w') → w'.heap.size = w.heap.size → wpList P ops Q rest (a.put o.dst undef) w') : wpList P ops Q (o :: rest) a w := by
  refine wpList_store_row hgd ty x y ho g vs'.toArray hx hy t vs.toArray hr (by rw [hi, ← hl']; simp) (by simp; omega) (by simp; exact fun v hv => h1 v hv) ?_
  refine h _ ?_ ?_ ?_
  · have := setRow_heap w g _ vs'.toArray t _ hr
    exact this
  · intro B W hb hB
    exact below_setRow hb hB _
  · simp [World.setRow]
theorem results_rowV {fn : Func} {p : Tmp} {ty n e : Nat} (h : fn.results = #[.cell p ty]) (tmps : Array Value) (g : Nat) (t : TypeId) (vs : List Value) (hp : tmps.getD p undef = .pointer (some ⟨g, 0, none⟩)) (hr : RowV t w g vs)
    (hu : P.underlying ty = some (.array n e)) (hi : (P.info? ty).map (·.size) = some n) (hl : vs.length = n) : (results fn tmps).run P w = .ok (.agg vs.toArray) w :=
  results_cell_row h tmps w g t vs.toArray (0, 0) _ hp hr hu rfl (by rw [hi, ← hl]; simp)
/-- 'a[i]', a an array by value -/
theorem run_indexV (ty n e : Nat) (hu : P.underlying ty = some (.array n e)) (he : (P.info? e).map (·.size) = some 1) (hp : ∀ cs i, (part e cs i).run P w = (match cs[i]? with | some v => .ok v w | none => (part e cs i).run P w)) (vs : List Value) (hl : vs.length = n) (k : Nat) (v : Value) (hk : vs[k]? = some v) :
    (Instr.index ty (.agg vs.toArray) (.int .i64 (k : Int))).run P w = .ok v w := by
  have hkn : k < n := by rw [← hl]; exact (List.getElem?_eq_some_iff.1 hk).1
  have h0 : (0 : Int) ≤ k := by omega
  have h1 : ¬ n ≤ k := by omega
  cases hq : P.info? e with
  | none => simp [hq] at he
  | some i =>
    have hs : i.size = 1 := by simpa [hq] using he
    have := hp vs.toArray k
    simp [hk] at this
    simp [Instr.index, run_underlying hu, asIntOf, h0, h1, sizeOf, typeInfo, hq, hs, this]
end
theorem ones32 (xs : List (BitVec 32)) : Ones (xs.map W32) := fun v hv => by obtain ⟨_, _, rfl⟩ := List.mem_map.1 hv; rfl
theorem ones64 (xs : List (BitVec 64)) : Ones (xs.map W64) := fun v hv => by obtain ⟨_, _, rfl⟩ := List.mem_map.1 hv; rfl
theorem ones8 (xs : List (BitVec 8)) : Ones (xs.map W8) := fun v hv => by obtain ⟨_, _, rfl⟩ := List.mem_map.1 hv; rfl

theorem fill_set {α : Type} (ys : List α) (z : α) (k : Nat) (y : α) (hy : ys[k]? = some y) : (ys.take k ++ List.replicate (ys.length - k) z).set k y = ys.take (k + 1) ++ List.replicate (ys.length - (k + 1)) z := by
  have hk : k < ys.length := (List.getElem?_eq_some_iff.1 hy).1
  have h1 : (ys.take k).length = k := by rw [List.length_take]; omega
  rw [List.set_append_right _ _ (by omega), h1, Nat.sub_self, show ys.length - k = (ys.length - (k + 1)) + 1 by omega, List.replicate_succ, List.set_cons_zero, List.take_add_one, hy]
  simp
theorem fill_get {α : Type} (ys : List α) (z : α) (k : Nat) (h : k < ys.length) : (ys.take k ++ List.replicate (ys.length - k) z)[k]? = some z := by
  have h1 : (ys.take k).length = k := by rw [List.length_take]; omega
  rw [List.getElem?_append_right (by omega), h1, Nat.sub_self, List.getElem?_replicate, if_pos (by omega)]
theorem fill_zero {α : Type} (ys : List α) (z : α) : ys.take 0 ++ List.replicate (ys.length - 0) z = List.replicate ys.length z := by simp
theorem fill_all {α : Type} (ys : List α) (z : α) (k : Nat) (h : k = ys.length) : ys.take k ++ List.replicate (ys.length - k) z = ys := by subst h; simp
/-- a new row -/
theorem newV (w : World) (t : TypeId) (vs : List Value) (arr : Array Value) (he : vs.toArray = arr) : ∃ W, w.alloc (.cells arr t) = W ∧ RowV t W w.heap.size vs ∧ Below w.heap.size w W ∧ W.heap.size = w.heap.size + 1 := by
  subst he
  exact ⟨_, rfl, RowV.new w t vs, (Below.refl _ w).alloc (Nat.le_refl _) _, by simp⟩
theorem below_setV {B : Nat} {a w : World} (h : Below B a w) {g : Nat} (hg : B ≤ g) (i : Nat) (v : Value) : Below B a (w.setCell ⟨g, i, none⟩ v) := h.setCell (p := ⟨g, i, none⟩) hg v

def lowL (xs : List (BitVec 64)) : List (BitVec 32) := xs.map (fun x => x.setWidth 32)

end Go.Proofs.Ytabhdkjepbkooaa
