/- Words for memory: slices and rows of one-cell values of whatever kind. -/
import Derived.Test.YtabhdkjepbkooaaRows
import Derived.WalkKit
import Derived.WalkLawsBesides
import Derived.WalkSpells
import Derived.Deep.QuietTactic
import Derived.BigQuiet
import Derived.Lib.Hide
import Derived.Deep.DeepFit
import Derived.OpenShut
import Derived.Laws.CopyOwn
import Derived.Laws.AppendOwnNone
import Derived.RangeFuncNested
set_option linter.unusedVariables false
set_option linter.unusedSimpArgs false
namespace Go.Proofs.Ytabhdkjepbkooaa
open Go.RowKit

/-- each is one cell -/
def Ones (vs : List Value) : Prop := ∀ v ∈ vs, v.oneCell' = true
theorem Ones.append {a b : List Value} (h : Ones a) (k : Ones b) : Ones (a ++ b) := fun v hv => (List.mem_append.1 hv).elim (h v) (k v)
theorem Ones.take {a : List Value} (h : Ones a) (n : Nat) : Ones (a.take n) := fun v hv => h v (List.mem_of_mem_take hv)
theorem Ones.drop {a : List Value} (h : Ones a) (n : Nat) : Ones (a.drop n) := fun v hv => h v (List.mem_of_mem_drop hv)

/-- block g is, whole, the cells vs -/
def RowV (t : TypeId) (w : World) (g : Nat) (vs : List Value) : Prop := w.heap[g]? = some (.cells vs.toArray t (0, 0))
theorem RowV.lt {t : TypeId} {w : World} {g : Nat} {vs : List Value} (h : RowV t w g vs) : g < w.heap.size := (Array.getElem?_eq_some_iff.1 h).1
theorem RowV.cell {t : TypeId} {w : World} {g : Nat} {vs : List Value} (h : RowV t w g vs) (i : Nat) : w.cell? ⟨g, i, none⟩ = vs[i]? := by
  rw [cell_of_row w g i _ _ (0, 0) h]; simp
theorem RowV.at_ {t : TypeId} {w : World} {g : Nat} {vs : List Value} (h : RowV t w g vs) {i : Nat} {v : Value} (hv : vs[i]? = some v) : w.cell? ⟨g, i, none⟩ = some v := (h.cell i).trans hv
theorem RowV.frozen {t : TypeId} {w : World} {g : Nat} {vs : List Value} (h : RowV t w g vs) (i : Nat) : w.frozen? ⟨g, i, none⟩ = false := by
  unfold RowV at h
  simp [World.frozen?, h]
theorem RowV.set {t : TypeId} {w : World} {g : Nat} {vs : List Value} (h : RowV t w g vs) (i : Nat) (v : Value) : RowV t (w.setCell ⟨g, i, none⟩ v) g (vs.set i v) := by
  unfold RowV at h ⊢
  simp [World.setCell, Array.getElem?_modify, h]
theorem RowV.below {t : TypeId} {w w' : World} {g B : Nat} {vs : List Value} (h : RowV t w g vs) (hb : Below B w w') (hg : g < B) : RowV t w' g vs := (hb.block g hg).trans h
theorem RowV.later {t : TypeId} {w w' : World} {g : Nat} {vs : List Value} (h : RowV t w g vs) (hb : Below w.heap.size w w') : RowV t w' g vs := h.below hb h.lt
theorem RowV.far {t : TypeId} {w : World} {g : Nat} {vs : List Value} (h : RowV t w g vs) {p : Addr} (hp : g ≠ p.block) (u : Value) : RowV t (w.setCell p u) g vs := (Below.heap_setCell w p u g hp).trans h
theorem RowV.new (w : World) (t : TypeId) (vs : List Value) : RowV t (w.alloc (.cells vs.toArray t (0, 0))) w.heap.size vs := by
  unfold RowV
  rw [heap_alloc_new]
theorem RowV.kept {t : TypeId} {A B' : World} {g : Nat} {vs : List Value} (h : RowV t A g vs) {row : Option Nat} (hg : A.grownBy B' row) (hr : ∀ r, row = some r → ∃ o : Obj, A.heap[r]? = some o ∧ o.isCells = false) : RowV t B' g vs := by
  refine (hg.block g h.lt fun e => ?_).trans h
  obtain ⟨o, ho, hc⟩ := hr g e.symm
  rw [show A.heap[g]? = _ from h] at ho
  cases ho
  cases hc

/-- the slice from A on, of length n and capacity c, in a block below B, reads vs -/
def SlV (w : World) (B : Nat) (A : Option Addr) (n c : Nat) (vs : List Value) : Prop :=
  n = vs.length ∧ n ≤ c ∧ c ≤ 9223372036854775807 ∧ (vs ≠ [] → ∃ b off, A = some ⟨b, off, none⟩ ∧ b < B ∧ ∀ (k : Nat) (v : Value), vs[k]? = some v → w.cell? ⟨b, off + k, none⟩ = some v)
theorem SlV.len {w : World} {B n c : Nat} {A : Option Addr} {vs : List Value} (h : SlV w B A n c vs) : n = vs.length := h.1
theorem SlV.cap {w : World} {B n c : Nat} {A : Option Addr} {vs : List Value} (h : SlV w B A n c vs) : n ≤ c := h.2.1
theorem SlV.max {w : World} {B n c : Nat} {A : Option Addr} {vs : List Value} (h : SlV w B A n c vs) : c ≤ 9223372036854775807 := h.2.2.1
theorem SlV.below {w w' : World} {B n c : Nat} {A : Option Addr} {vs : List Value} (h : SlV w B A n c vs) (hb : Below B w w') : SlV w' B A n c vs := ⟨h.1, h.2.1, h.2.2.1, fun hn => by
  obtain ⟨b, off, e, hlt, hc⟩ := h.2.2.2 hn
  exact ⟨b, off, e, hlt, fun k x hx => (hb.cell (p := ⟨b, off + k, none⟩) hlt).trans (hc k x hx)⟩⟩
theorem SlV.more {w : World} {B B' n c : Nat} {A : Option Addr} {vs : List Value} (h : SlV w B A n c vs) (hB : B ≤ B') : SlV w B' A n c vs := ⟨h.1, h.2.1, h.2.2.1, fun hn => by
  obtain ⟨b, off, e, hlt, hc⟩ := h.2.2.2 hn
  exact ⟨b, off, e, Nat.lt_of_lt_of_le hlt hB, hc⟩⟩
theorem SlV.later {w w' : World} {B n c : Nat} {A : Option Addr} {vs : List Value} (h : SlV w w.heap.size A n c vs) (hb : Below w.heap.size w w') (hB : w'.heap.size ≤ B) : SlV w' B A n c vs := (h.below hb).more (Nat.le_trans hb.size hB)
theorem SlV.at_ {w : World} {B n c : Nat} {A : Option Addr} {vs : List Value} (h : SlV w B A n c vs) {k : Nat} (hk : k < n) :
    ∃ b off v, A = some ⟨b, off, none⟩ ∧ b < B ∧ vs[k]? = some v ∧ w.cell? ⟨b, off + k, none⟩ = some v := by
  have hl := h.1
  obtain ⟨b, off, e, hlt, hc⟩ := h.2.2.2 (by intro e; subst e; simp at hl; omega)
  exact ⟨b, off, vs[k]'(by omega), e, hlt, List.getElem?_eq_getElem (by omega), hc k _ (List.getElem?_eq_getElem (by omega))⟩
theorem SlV.nil (w : World) (B : Nat) (A : Option Addr) {c : Nat} (h : c ≤ 9223372036854775807) : SlV w B A 0 c [] := ⟨rfl, Nat.zero_le _, h, fun h => absurd rfl h⟩
theorem SlV.take {w : World} {B n c : Nat} {A : Option Addr} {vs : List Value} (h : SlV w B A n c vs) {k : Nat} (hk : k ≤ n) : SlV w B A k c (vs.take k) :=
  ⟨by rw [List.length_take]; have := h.1; omega, by have := h.2.1; omega, h.2.2.1, fun hn => by
    obtain ⟨b, off, e, hlt, hc⟩ := h.2.2.2 (fun e => hn (by rw [e]; simp))
    refine ⟨b, off, e, hlt, fun k x hx => hc k x ?_⟩
    rw [List.getElem?_take] at hx
    split at hx
    · exact hx
    · cases hx⟩
/-- 's[k:]' -/
theorem SlV.drop {w : World} {B n c b off : Nat} {vs : List Value} (h : SlV w B (some ⟨b, off, none⟩) n c vs) {k : Nat} (hk : k ≤ n) : SlV w B (some ⟨b, off + k, none⟩) (n - k) (c - k) (vs.drop k) :=
  ⟨by rw [List.length_drop]; have := h.1; omega, by have := h.2.1; omega, by have := h.2.2.1; omega, fun hn => by
    obtain ⟨b', off', e, hlt, hc⟩ := h.2.2.2 (fun e => hn (by rw [e]; simp))
    injection e with e
    injection e with e1 e2
    subst e1 e2
    refine ⟨b, off + k, rfl, hlt, fun j x hx => ?_⟩
    rw [List.getElem?_drop] at hx
    have := hc (k + j) x hx
    rwa [← Nat.add_assoc] at this⟩
theorem SlV.kept {A B' : World} {B n c : Nat} {p : Option Addr} {vs : List Value} (h : SlV A B p n c vs) {row : Option Nat} (hg : A.grownBy B' row) (hr : ∀ r, row = some r → ∃ o : Obj, A.heap[r]? = some o ∧ o.isCells = false) : SlV B' B p n c vs :=
  ⟨h.1, h.2.1, h.2.2.1, fun hn => by
    obtain ⟨b, off, e, hlt, hc⟩ := h.2.2.2 hn
    exact ⟨b, off, e, hlt, fun k x hx => cell_kept (hc k x hx) hg hr⟩⟩
theorem RowV.slOff {t : TypeId} {w : World} {g : Nat} {vs : List Value} (h : RowV t w g vs) (off m : Nat) (hl : off + m ≤ vs.length) (hz : vs.length ≤ 9223372036854775807) : SlV w w.heap.size (some ⟨g, off, none⟩) m (vs.length - off) ((vs.drop off).take m) :=
  ⟨by simp; omega, by omega, by omega, fun _ => ⟨g, off, rfl, h.lt, fun k v hv => h.at_ (by
    rw [List.getElem?_take] at hv
    split at hv
    · rwa [List.getElem?_drop] at hv
    · cases hv)⟩⟩
theorem RowV.sl {t : TypeId} {w : World} {g : Nat} {vs : List Value} (h : RowV t w g vs) (hz : vs.length ≤ 9223372036854775807) : SlV w w.heap.size (some ⟨g, 0, none⟩) vs.length vs.length vs :=
  ⟨rfl, Nat.le_refl _, hz, fun _ => ⟨g, 0, rfl, h.lt, fun k v hv => by rw [Nat.zero_add]; exact h.at_ hv⟩⟩

/-- an element type: one cell each -/
structure Elem (P : Program) (t e : TypeId) (z : Value) (by_ : Nat) : Prop where
  sl : P.underlying t = some (.slice e)
  info : (P.info? e).map (fun i => (i.zero, i.size, i.bytes)) = some (some z, 1, by_)
  one : z.cells = #[z]
  oc : z.oneCell' = true
  b8 : by_ ≤ 8

/-- the call's own slice: v, of n elements vs -/
theorem SlV.of_own {w : World} {base : Nat} {e : TypeId} {v : Value} {n : Nat} {vs : List Value} (h : w.ownsRow base e 1 v n vs) :
    ∃ A c, v = .slice A n c ∧ SlV w w.heap.size A n c vs ∧ (∀ b off s, A = some ⟨b, off, s⟩ → base ≤ b) ∧ (A = none → n = 0) := by
  have hl : vs.length = n := by simpa using h.1
  rcases h.2 with ⟨rfl, rfl⟩ | ⟨g, cap, cur, rfl, hbase, hh, hnc, hcm, _, _⟩
  · obtain rfl : vs = [] := List.eq_nil_of_length_eq_zero hl
    exact ⟨none, 0, rfl, SlV.nil _ _ _ (by omega), fun _ _ _ h => (by cases h), fun _ => rfl⟩
  · subst hl
    refine ⟨some ⟨g, 0, none⟩, cap, rfl, ⟨rfl, hnc, by simpa [maxLen] using hcm, fun _ => ⟨g, 0, rfl, (Array.getElem?_eq_some_iff.1 hh).1, fun k v hv => ?_⟩⟩, fun b off s hh => by injection hh with hh; injection hh with h1 _; omega, fun h => by cases h⟩
    have hc := h.cells (g := g) rfl k v (by simpa using hv)
    rw [Addr.add_lit] at hc
    exact hc

section
variable {P : Program} {t e : TypeId} {z : Value} {sz : Nat} {w : World} {ops : Array Oper} {rest : List Oper} {o : Oper} {a : Act} {Q : Exit → Act → World → Prop}
/-- 'append(s, x...)', s the call's own -/
theorem wlv_append (E : Elem P t e z sz) (hgd : o.guard = none) (s x : Operand)
    (ho : o.op = .call { callee := .builtin .append, args := #[s, x], argTypes := #[t, t] })
    (base : Nat) (v : Value) (k : Nat) (ys : List Value) (hs : a.eval s = v) (hown : w.ownsRow base e 1 v k ys) (A : Option Addr) (m c : Nat) (xs : List Value) (hx : a.eval x = .slice A m c) (hnil : A = none → c = 0) (B : Nat) (hsl : SlV w B A m c xs) (h1 : Ones xs)
    (hk : k + m ≤ 17592186044416) (hbase : base ≤ w.heap.size)
    (h : ∀ v' w', w'.ownsRow base e 1 v' (k + m) (ys ++ xs) → w.grownBy w' v.ownBlock → wpList P ops Q rest (a.put o.dst v') w') : wpList P ops Q (o :: rest) a w := by
  obtain ⟨i0, hi, hz0, hz1, hz2⟩ := info_parts E.info
  have hm := hsl.len
  cases A with
  | none =>
    have hm0 : xs = [] := by
      apply Classical.byContradiction
      intro hn
      obtain ⟨b, off, e, _⟩ := hsl.2.2.2 hn
      cases e
    subst hm0
    obtain rfl : m = 0 := hm
    obtain rfl := hnil rfl
    refine wpList_append_own_none hgd s x t ho base e i0 1 E.sl hi v k ys hs hown hx ?_
    exact h v w (by simpa using hown) ⟨rfl, rfl, rfl, Nat.le_refl _, fun _ _ _ => rfl⟩
  | some ad =>
    have hc : ∀ j u, xs[j]? = some u → w.cell? (ad.add j) = some u := fun j u hu => by
      obtain ⟨b, off, e, _, hc⟩ := hsl.2.2.2 (by intro e; subst e; simp at hu)
      injection e with e
      subst e
      rw [Addr.add_lit]
      exact hc j u hu
    have hb : (k + m) * sz ≤ 140737488355328 := Nat.le_trans (Nat.mul_le_mul hk E.b8) (by decide)
    refine wpList_append_own (w := w) hgd s x t ho base e i0 z 1 sz E.sl hi hz0 hz1 hz2 (by rw [E.one]; rfl) (by decide) v k ys hs hown ad m c xs hx (by omega) hc h1 (by simp only [maxLen]; omega) hb hbase ?_
    intro v' w' hown' hg _
    exact h v' w' hown' hg

/-- 'make(T, n)' -/
theorem wlv_make (E : Elem P t e z sz) (hg : o.guard = none) (l : Operand)
    (hop : o.op = Op.makeSlice t l l) (N : Int) (n : Nat) (hl : a.eval l = .int .i64 N) (hN : N = n) (hn : n ≤ 17592186044416)
    (h : ∀ w', RowV e w' w.heap.size (List.replicate n z) → Below w.heap.size w w' → w'.heap.size = w.heap.size + 1 → wpList P ops Q rest (a.put o.dst (.slice (some ⟨w.heap.size, 0, none⟩) n n)) w') :
    wpList P ops Q (o :: rest) a w := by
  obtain ⟨i0, hi, hz0, hz1, hz2⟩ := info_parts E.info
  subst hN
  refine wpList_plain hg fun K hK => ?_
  have hb : (i0.bytes : Int) * (n : Int) ≤ 281474976710656 := by
    rw [hz2]
    have h1 : sz * n ≤ 8 * 17592186044416 := Nat.mul_le_mul E.b8 hn
    have h2 : ((sz * n : Nat) : Int) ≤ 8 * 17592186044416 := by omega
    rw [Int.natCast_mul] at h2
    omega
  have hr := run_make (P := P) w t e i0 z E.sl hi hz0 .i64 .i64 n n (by omega) (by omega) hb (by omega)
  simp only [Int.toNat_natCast] at hr
  unfold Oper.wp
  simp [execOp, hop, hl, hr, Result.andThen]
  refine hK _ _ (h _ ?_ ((Below.refl _ _).alloc (Nat.le_refl _) _) (by simp))
  unfold RowV
  rw [heap_alloc_new, hz1, Nat.mul_one]
  have e : madeCells z.cells n = (List.replicate n z).toArray := by
    apply Array.ext'
    rw [E.one, toList_madeCells_one]
  rw [e]
end
end Go.Proofs.Ytabhdkjepbkooaa
