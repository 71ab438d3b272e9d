/- Parts of one proof, joined: Mem, Bv, Ha, Hb, Reg2, Pure. -/
import Derived.Test.YtnpaidieijlkkaaDoorRows
import Derived.WalkKit
import Derived.WalkLawsBesides
import Derived.WalkSpells
import Derived.Deep.QuietTactic
import Derived.BigQuiet
import Derived.Lib.Hide
import Derived.Deep.DeepFit
import Derived.OpenShut
import Derived.Laws.CopyOwn
import Derived.Laws.AppendOwnNone
import Derived.RangeFuncNested
import Derived.Laws.BitsAll
import Derived.OrdersIn
import Derived.OwnWalkIn
import Derived.RangeFuncCalls
import Derived.RangeFuncLeaves
import Derived.RangeFuncBox
import Derived.Shelf.Abstract
import Derived.RegionIn
import Derived.TacticsInMore
import Derived.Deep.RegionHeld3

/- Words for memory: slices and rows of one-cell values of whatever kind. -/
set_option linter.unusedVariables false
set_option linter.unusedSimpArgs false
namespace Go.Proofs.YtnpaidieijlkkaaDoor
open Go.RowKit

/-- each is one cell -/
def Ones (vs : List Value) : Prop := ∀ v ∈ vs, v.oneCell' = true
theorem Ones.append {a b : List Value} (h : Ones a) (k : Ones b) : Ones (a ++ b) := fun v hv => (List.mem_append.1 hv).elim (h v) (k v)
theorem Ones.take {a : List Value} (h : Ones a) (n : Nat) : Ones (a.take n) := fun v hv => h v (List.mem_of_mem_take hv)
theorem Ones.drop {a : List Value} (h : Ones a) (n : Nat) : Ones (a.drop n) := fun v hv => h v (List.mem_of_mem_drop hv)

/-- block g is, whole, the cells vs -/
def RowV (t : TypeId) (w : World) (g : Nat) (vs : List Value) : Prop := w.heap[g]? = some (.cells vs.toArray t (0, 0))
theorem RowV.lt {t : TypeId} {w : World} {g : Nat} {vs : List Value} (h : RowV t w g vs) : g < w.heap.size := (Array.getElem?_eq_some_iff.1 h).1
theorem RowV.cell {t : TypeId} {w : World} {g : Nat} {vs : List Value} (h : RowV t w g vs) (i : Nat) : w.cell? ⟨g, i, none⟩ = vs[i]? := by
  rw [cell_of_row w g i _ _ (0, 0) h]; simp
theorem RowV.at_ {t : TypeId} {w : World} {g : Nat} {vs : List Value} (h : RowV t w g vs) {i : Nat} {v : Value} (hv : vs[i]? = some v) : w.cell? ⟨g, i, none⟩ = some v := (h.cell i).trans hv
theorem RowV.frozen {t : TypeId} {w : World} {g : Nat} {vs : List Value} (h : RowV t w g vs) (i : Nat) : w.frozen? ⟨g, i, none⟩ = false := by
  unfold RowV at h
  simp [World.frozen?, h]
theorem RowV.set {t : TypeId} {w : World} {g : Nat} {vs : List Value} (h : RowV t w g vs) (i : Nat) (v : Value) : RowV t (w.setCell ⟨g, i, none⟩ v) g (vs.set i v) := by
  unfold RowV at h ⊢
  simp [World.setCell, Array.getElem?_modify, h]
theorem RowV.below {t : TypeId} {w w' : World} {g B : Nat} {vs : List Value} (h : RowV t w g vs) (hb : Below B w w') (hg : g < B) : RowV t w' g vs := (hb.block g hg).trans h
theorem RowV.later {t : TypeId} {w w' : World} {g : Nat} {vs : List Value} (h : RowV t w g vs) (hb : Below w.heap.size w w') : RowV t w' g vs := h.below hb h.lt
theorem RowV.far {t : TypeId} {w : World} {g : Nat} {vs : List Value} (h : RowV t w g vs) {p : Addr} (hp : g ≠ p.block) (u : Value) : RowV t (w.setCell p u) g vs := (Below.heap_setCell w p u g hp).trans h
theorem RowV.new (w : World) (t : TypeId) (vs : List Value) : RowV t (w.alloc (.cells vs.toArray t (0, 0))) w.heap.size vs := by
  unfold RowV
  rw [heap_alloc_new]
theorem RowV.kept {t : TypeId} {A B' : World} {g : Nat} {vs : List Value} (h : RowV t A g vs) {row : Option Nat} (hg : A.grownBy B' row) (hr : ∀ r, row = some r → ∃ o : Obj, A.heap[r]? = some o ∧ o.isCells = false) : RowV t B' g vs := by
  refine (hg.block g h.lt fun e => ?_).trans h
  obtain ⟨o, ho, hc⟩ := hr g e.symm
  rw [show A.heap[g]? = _ from h] at ho
  cases ho
  cases hc

/-- the slice from A on, of length n and capacity c, in a block below B, reads vs -/
def SlV (w : World) (B : Nat) (A : Option Addr) (n c : Nat) (vs : List Value) : Prop :=
  n = vs.length ∧ n ≤ c ∧ c ≤ 9223372036854775807 ∧ (vs ≠ [] → ∃ b off, A = some ⟨b, off, none⟩ ∧ b < B ∧ ∀ (k : Nat) (v : Value), vs[k]? = some v → w.cell? ⟨b, off + k, none⟩ = some v)
theorem SlV.len {w : World} {B n c : Nat} {A : Option Addr} {vs : List Value} (h : SlV w B A n c vs) : n = vs.length := h.1
theorem SlV.cap {w : World} {B n c : Nat} {A : Option Addr} {vs : List Value} (h : SlV w B A n c vs) : n ≤ c := h.2.1
theorem SlV.max {w : World} {B n c : Nat} {A : Option Addr} {vs : List Value} (h : SlV w B A n c vs) : c ≤ 9223372036854775807 := h.2.2.1
theorem SlV.below {w w' : World} {B n c : Nat} {A : Option Addr} {vs : List Value} (h : SlV w B A n c vs) (hb : Below B w w') : SlV w' B A n c vs := ⟨h.1, h.2.1, h.2.2.1, fun hn => by
  obtain ⟨b, off, e, hlt, hc⟩ := h.2.2.2 hn
  exact ⟨b, off, e, hlt, fun k x hx => (hb.cell (p := ⟨b, off + k, none⟩) hlt).trans (hc k x hx)⟩⟩
theorem SlV.more {w : World} {B B' n c : Nat} {A : Option Addr} {vs : List Value} (h : SlV w B A n c vs) (hB : B ≤ B') : SlV w B' A n c vs := ⟨h.1, h.2.1, h.2.2.1, fun hn => by
  obtain ⟨b, off, e, hlt, hc⟩ := h.2.2.2 hn
  exact ⟨b, off, e, Nat.lt_of_lt_of_le hlt hB, hc⟩⟩
theorem SlV.later {w w' : World} {B n c : Nat} {A : Option Addr} {vs : List Value} (h : SlV w w.heap.size A n c vs) (hb : Below w.heap.size w w') (hB : w'.heap.size ≤ B) : SlV w' B A n c vs := (h.below hb).more (Nat.le_trans hb.size hB)
theorem SlV.at_ {w : World} {B n c : Nat} {A : Option Addr} {vs : List Value} (h : SlV w B A n c vs) {k : Nat} (hk : k < n) :
    ∃ b off v, A = some ⟨b, off, none⟩ ∧ b < B ∧ vs[k]? = some v ∧ w.cell? ⟨b, off + k, none⟩ = some v := by
  have hl := h.1
  obtain ⟨b, off, e, hlt, hc⟩ := h.2.2.2 (by intro e; subst e; simp at hl; omega)
  exact ⟨b, off, vs[k]'(by omega), e, hlt, List.getElem?_eq_getElem (by omega), hc k _ (List.getElem?_eq_getElem (by omega))⟩
theorem SlV.nil (w : World) (B : Nat) (A : Option Addr) {c : Nat} (h : c ≤ 9223372036854775807) : SlV w B A 0 c [] := ⟨rfl, Nat.zero_le _, h, fun h => absurd rfl h⟩
theorem SlV.take {w : World} {B n c : Nat} {A : Option Addr} {vs : List Value} (h : SlV w B A n c vs) {k : Nat} (hk : k ≤ n) : SlV w B A k c (vs.take k) :=
  ⟨by rw [List.length_take]; have := h.1; omega, by have := h.2.1; omega, h.2.2.1, fun hn => by
    obtain ⟨b, off, e, hlt, hc⟩ := h.2.2.2 (fun e => hn (by rw [e]; simp))
    refine ⟨b, off, e, hlt, fun k x hx => hc k x ?_⟩
    rw [List.getElem?_take] at hx
    split at hx
    · exact hx
    · cases hx⟩
/-- 's[k:]' -/
theorem SlV.drop {w : World} {B n c b off : Nat} {vs : List Value} (h : SlV w B (some ⟨b, off, none⟩) n c vs) {k : Nat} (hk : k ≤ n) : SlV w B (some ⟨b, off + k, none⟩) (n - k) (c - k) (vs.drop k) :=
  ⟨by rw [List.length_drop]; have := h.1; omega, by have := h.2.1; omega, by have := h.2.2.1; omega, fun hn => by
    obtain ⟨b', off', e, hlt, hc⟩ := h.2.2.2 (fun e => hn (by rw [e]; simp))
    injection e with e
    injection e with e1 e2
    subst e1 e2
    refine ⟨b, off + k, rfl, hlt, fun j x hx => ?_⟩
    rw [List.getElem?_drop] at hx
    have := hc (k + j) x hx
    rwa [← Nat.add_assoc] at this⟩
theorem SlV.kept {A B' : World} {B n c : Nat} {p : Option Addr} {vs : List Value} (h : SlV A B p n c vs) {row : Option Nat} (hg : A.grownBy B' row) (hr : ∀ r, row = some r → ∃ o : Obj, A.heap[r]? = some o ∧ o.isCells = false) : SlV B' B p n c vs :=
  ⟨h.1, h.2.1, h.2.2.1, fun hn => by
    obtain ⟨b, off, e, hlt, hc⟩ := h.2.2.2 hn
    exact ⟨b, off, e, hlt, fun k x hx => cell_kept (hc k x hx) hg hr⟩⟩
theorem RowV.slOff {t : TypeId} {w : World} {g : Nat} {vs : List Value} (h : RowV t w g vs) (off m : Nat) (hl : off + m ≤ vs.length) (hz : vs.length ≤ 9223372036854775807) : SlV w w.heap.size (some ⟨g, off, none⟩) m (vs.length - off) ((vs.drop off).take m) :=
  ⟨by simp; omega, by omega, by omega, fun _ => ⟨g, off, rfl, h.lt, fun k v hv => h.at_ (by
    rw [List.getElem?_take] at hv
    split at hv
    · rwa [List.getElem?_drop] at hv
    · cases hv)⟩⟩
theorem RowV.sl {t : TypeId} {w : World} {g : Nat} {vs : List Value} (h : RowV t w g vs) (hz : vs.length ≤ 9223372036854775807) : SlV w w.heap.size (some ⟨g, 0, none⟩) vs.length vs.length vs :=
  ⟨rfl, Nat.le_refl _, hz, fun _ => ⟨g, 0, rfl, h.lt, fun k v hv => by rw [Nat.zero_add]; exact h.at_ hv⟩⟩

/-- an element type: one cell each -/
structure Elem (P : Program) (t e : TypeId) (z : Value) (by_ : Nat) : Prop where
  sl : P.underlying t = some (.slice e)
  info : (P.info? e).map (fun i => (i.zero, i.size, i.bytes)) = some (some z, 1, by_)
  one : z.cells = #[z]
  oc : z.oneCell' = true
  b8 : by_ ≤ 8

/-- the call's own slice: v, of n elements vs -/
theorem SlV.of_own {w : World} {base : Nat} {e : TypeId} {v : Value} {n : Nat} {vs : List Value} (h : w.ownsRow base e 1 v n vs) :
    ∃ A c, v = .slice A n c ∧ SlV w w.heap.size A n c vs ∧ (∀ b off s, A = some ⟨b, off, s⟩ → base ≤ b) ∧ (A = none → n = 0) := by
  have hl : vs.length = n := by simpa using h.1
  rcases h.2 with ⟨rfl, rfl⟩ | ⟨g, cap, cur, rfl, hbase, hh, hnc, hcm, _, _⟩
  · obtain rfl : vs = [] := List.eq_nil_of_length_eq_zero hl
    exact ⟨none, 0, rfl, SlV.nil _ _ _ (by omega), fun _ _ _ h => (by cases h), fun _ => rfl⟩
  · subst hl
    refine ⟨some ⟨g, 0, none⟩, cap, rfl, ⟨rfl, hnc, by simpa [maxLen] using hcm, fun _ => ⟨g, 0, rfl, (Array.getElem?_eq_some_iff.1 hh).1, fun k v hv => ?_⟩⟩, fun b off s hh => by injection hh with hh; injection hh with h1 _; omega, fun h => by cases h⟩
    have hc := h.cells (g := g) rfl k v (by simpa using hv)
    rw [Addr.add_lit] at hc
    exact hc

section
variable {P : Program} {t e : TypeId} {z : Value} {sz : Nat} {w : World} {ops : Array Oper} {rest : List Oper} {o : Oper} {a : Act} {Q : Exit → Act → World → Prop}
/-- 'append(s, x...)', s the call's own -/
theorem wlv_append (E : Elem P t e z sz) (hgd : o.guard = none) (s x : Operand)
    (ho : o.op = .call { callee := .builtin .append, args := #[s, x], argTypes := #[t, t] })
    (base : Nat) (v : Value) (k : Nat) (ys : List Value) (hs : a.eval s = v) (hown : w.ownsRow base e 1 v k ys) (A : Option Addr) (m c : Nat) (xs : List Value) (hx : a.eval x = .slice A m c) (hnil : A = none → c = 0) (B : Nat) (hsl : SlV w B A m c xs) (h1 : Ones xs)
    (hk : k + m ≤ 17592186044416) (hbase : base ≤ w.heap.size)
    (h : ∀ v' w', w'.ownsRow base e 1 v' (k + m) (ys ++ xs) → w.grownBy w' v.ownBlock → wpList P ops Q rest (a.put o.dst v') w') : wpList P ops Q (o :: rest) a w := by
  obtain ⟨i0, hi, hz0, hz1, hz2⟩ := info_parts E.info
  have hm := hsl.len
  cases A with
  | none =>
    have hm0 : xs = [] := by
      apply Classical.byContradiction
      intro hn
      obtain ⟨b, off, e, _⟩ := hsl.2.2.2 hn
      cases e
    subst hm0
    obtain rfl : m = 0 := hm
    obtain rfl := hnil rfl
    refine wpList_append_own_none hgd s x t ho base e i0 1 E.sl hi v k ys hs hown hx ?_
    exact h v w (by simpa using hown) ⟨rfl, rfl, rfl, Nat.le_refl _, fun _ _ _ => rfl⟩
  | some ad =>
    have hc : ∀ j u, xs[j]? = some u → w.cell? (ad.add j) = some u := fun j u hu => by
      obtain ⟨b, off, e, _, hc⟩ := hsl.2.2.2 (by intro e; subst e; simp at hu)
      injection e with e
      subst e
      rw [Addr.add_lit]
      exact hc j u hu
    have hb : (k + m) * sz ≤ 140737488355328 := Nat.le_trans (Nat.mul_le_mul hk E.b8) (by decide)
    refine wpList_append_own (w := w) hgd s x t ho base e i0 z 1 sz E.sl hi hz0 hz1 hz2 (by rw [E.one]; rfl) (by decide) v k ys hs hown ad m c xs hx (by omega) hc h1 (by simp only [maxLen]; omega) hb hbase ?_
    intro v' w' hown' hg _
    exact h v' w' hown' hg

/-- 'make(T, n)' -/
theorem wlv_make (E : Elem P t e z sz) (hg : o.guard = none) (l : Operand)
    (hop : o.op = Op.makeSlice t l l) (N : Int) (n : Nat) (hl : a.eval l = .int .i64 N) (hN : N = n) (hn : n ≤ 17592186044416)
    (h : ∀ w', RowV e w' w.heap.size (List.replicate n z) → Below w.heap.size w w' → w'.heap.size = w.heap.size + 1 → wpList P ops Q rest (a.put o.dst (.slice (some ⟨w.heap.size, 0, none⟩) n n)) w') :
    wpList P ops Q (o :: rest) a w := by
  obtain ⟨i0, hi, hz0, hz1, hz2⟩ := info_parts E.info
  subst hN
  refine wpList_plain hg fun K hK => ?_
  have hb : (i0.bytes : Int) * (n : Int) ≤ 281474976710656 := by
    rw [hz2]
    have h1 : sz * n ≤ 8 * 17592186044416 := Nat.mul_le_mul E.b8 hn
    have h2 : ((sz * n : Nat) : Int) ≤ 8 * 17592186044416 := by omega
    rw [Int.natCast_mul] at h2
    omega
  have hr := run_make (P := P) w t e i0 z E.sl hi hz0 .i64 .i64 n n (by omega) (by omega) hb (by omega)
  simp only [Int.toNat_natCast] at hr
  unfold Oper.wp
  simp [execOp, hop, hl, hr, Result.andThen]
  refine hK _ _ (h _ ?_ ((Below.refl _ _).alloc (Nat.le_refl _) _) (by simp))
  unfold RowV
  rw [heap_alloc_new, hz1, Nat.mul_one]
  have e : madeCells z.cells n = (List.replicate n z).toArray := by
    apply Array.ext'
    rw [E.one, toList_madeCells_one]
  rw [e]
end
end Go.Proofs.YtnpaidieijlkkaaDoor

/- Unsigned numbers as bit vectors. -/
set_option linter.unusedVariables false
namespace Go.Proofs.YtnpaidieijlkkaaDoor
open Go.RowKit

/-- the numbers, in words that simp leaves alone -/
def i8 (x : BitVec 8) : Int := (x.toNat : Int)
def i32 (x : BitVec 32) : Int := (x.toNat : Int)
def i64 (x : BitVec 64) : Int := (x.toNat : Int)
abbrev W8 (x : BitVec 8) : Value := .int .u8 (i8 x)
abbrev W32 (x : BitVec 32) : Value := .int .u32 (i32 x)
abbrev W64 (x : BitVec 64) : Value := .int .u64 (i64 x)

theorem b32_and (x y : BitVec 32) : bits .and .u32 (i32 x) (i32 y) = i32 (x &&& y) := by
  unfold i32; rw [u32_and_nat _ _ x.isLt y.isLt, BitVec.toNat_and]
theorem b32_or (x y : BitVec 32) : bits .or .u32 (i32 x) (i32 y) = i32 (x ||| y) := by
  unfold i32; rw [u32_or_nat _ _ x.isLt y.isLt, BitVec.toNat_or]
theorem b32_xor (x y : BitVec 32) : bits .xor .u32 (i32 x) (i32 y) = i32 (x ^^^ y) := by
  unfold i32; rw [u32_xor_nat _ _ x.isLt y.isLt, BitVec.toNat_xor]
theorem b32_not (x : BitVec 32) : bits .xor .u32 IntKind.u32.max (i32 x) = i32 (~~~x) := by
  have h : IntKind.u32.max = i32 (BitVec.allOnes 32) := by decide
  rw [h, b32_xor, BitVec.allOnes_xor]
theorem b32_add' (x y : BitVec 32) : (i32 x + i32 y) % 4294967296 = i32 (x + y) := by
  unfold i32; rw [BitVec.toNat_add]; omega
theorem b32_add (x y : BitVec 32) : IntKind.u32.wrap (i32 x + i32 y) = i32 (x + y) := by rw [IntKind.wrap_u32', b32_add']
theorem b32_shl' (x : BitVec 32) (s : Nat) : i32 x * 2 ^ s % 4294967296 = i32 (x <<< s) := by
  unfold i32; rw [BitVec.toNat_shiftLeft, Nat.shiftLeft_eq]; simp
theorem b32_shl (x : BitVec 32) (s : Nat) : IntKind.u32.wrap (i32 x * 2 ^ s) = i32 (x <<< s) := by rw [IntKind.wrap_u32', b32_shl']
theorem b32_shr (x : BitVec 32) (s : Nat) : i32 x / 2 ^ s = i32 (x >>> s) := by
  unfold i32; rw [BitVec.toNat_ushiftRight, Nat.shiftRight_eq_div_pow]; simp
theorem b64_and (x y : BitVec 64) : bits .and .u64 (i64 x) (i64 y) = i64 (x &&& y) := by
  unfold i64; rw [u64_and_nat _ _ x.isLt y.isLt, BitVec.toNat_and]
theorem b64_or (x y : BitVec 64) : bits .or .u64 (i64 x) (i64 y) = i64 (x ||| y) := by
  unfold i64; rw [u64_or_nat _ _ x.isLt y.isLt, BitVec.toNat_or]
theorem b64_xor (x y : BitVec 64) : bits .xor .u64 (i64 x) (i64 y) = i64 (x ^^^ y) := by
  unfold i64; rw [u64_xor_nat _ _ x.isLt y.isLt, BitVec.toNat_xor]
theorem b64_not (x : BitVec 64) : bits .xor .u64 IntKind.u64.max (i64 x) = i64 (~~~x) := by
  have h : IntKind.u64.max = i64 (BitVec.allOnes 64) := by decide
  rw [h, b64_xor, BitVec.allOnes_xor]
theorem b64_add (x y : BitVec 64) : IntKind.u64.wrap (i64 x + i64 y) = i64 (x + y) := by
  unfold i64; rw [IntKind.wrap_u64, BitVec.toNat_add]; omega
theorem b64_shl (x : BitVec 64) (s : Nat) : IntKind.u64.wrap (i64 x * 2 ^ s) = i64 (x <<< s) := by
  unfold i64; rw [IntKind.wrap_u64, BitVec.toNat_shiftLeft, Nat.shiftLeft_eq]; simp
theorem b64_shr (x : BitVec 64) (s : Nat) : i64 x / 2 ^ s = i64 (x >>> s) := by
  unfold i64; rw [BitVec.toNat_ushiftRight, Nat.shiftRight_eq_div_pow]; simp
theorem b8_xor (x y : BitVec 8) : bits .xor .u8 (i8 x) (i8 y) = i8 (x ^^^ y) := by
  unfold i8; rw [u8_xor_nat _ _ x.isLt y.isLt, BitVec.toNat_xor]
/-- conversions -/
theorem c8_32 (x : BitVec 8) : IntKind.u32.wrap (i8 x) = i32 (x.setWidth 32) := by
  unfold i8 i32; rw [IntKind.wrap_u32', BitVec.toNat_setWidth]; simp
theorem c8_32' (x : BitVec 8) : i8 x % 4294967296 = i32 (x.setWidth 32) := by rw [← c8_32, IntKind.wrap_u32']
theorem c8_32'' (x : BitVec 8) : i8 x = i32 (x.setWidth 32) := by
  unfold i8 i32; rw [BitVec.toNat_setWidth]; have := x.isLt; omega
theorem c8_64 (x : BitVec 8) : IntKind.u64.wrap (i8 x) = i64 (x.setWidth 64) := by
  unfold i8 i64; rw [IntKind.wrap_u64, BitVec.toNat_setWidth]; simp
theorem c8_64'' (x : BitVec 8) : i8 x = i64 (x.setWidth 64) := by
  unfold i8 i64; rw [BitVec.toNat_setWidth]; have := x.isLt; omega
theorem c64_32 (x : BitVec 64) : IntKind.u32.wrap (i64 x) = i32 (x.setWidth 32) := by
  unfold i32 i64; rw [IntKind.wrap_u32', BitVec.toNat_setWidth]; simp
theorem c64_32' (x : BitVec 64) : i64 x % 4294967296 = i32 (x.setWidth 32) := by rw [← c64_32, IntKind.wrap_u32']
theorem c32_64 (x : BitVec 32) : IntKind.u64.wrap (i32 x) = i64 (x.setWidth 64) := by
  unfold i32 i64; rw [IntKind.wrap_u64, BitVec.toNat_setWidth]; simp
theorem c32_64'' (x : BitVec 32) : i32 x = i64 (x.setWidth 64) := by
  unfold i32 i64; rw [BitVec.toNat_setWidth]; have := x.isLt; omega
theorem c64_8 (x : BitVec 64) : IntKind.u8.wrap (i64 x) = i8 (x.setWidth 8) := by
  unfold i8 i64; rw [IntKind.wrap_u8', BitVec.toNat_setWidth]; simp
theorem c64_8' (x : BitVec 64) : i64 x % 256 = i8 (x.setWidth 8) := by rw [← c64_8, IntKind.wrap_u8']
theorem c32_8' (x : BitVec 32) : i32 x % 256 = i8 (x.setWidth 8) := by
  unfold i8 i32; rw [BitVec.toNat_setWidth]; simp
theorem i8_lt (x : BitVec 8) : 0 ≤ i8 x ∧ i8 x < 256 := by unfold i8; have := x.isLt; omega
theorem i32_lt (x : BitVec 32) : 0 ≤ i32 x ∧ i32 x < 4294967296 := by unfold i32; have := x.isLt; omega
theorem i64_lt (x : BitVec 64) : 0 ≤ i64 x ∧ i64 x < 18446744073709551616 := by unfold i64; have := x.isLt; omega

set_option maxHeartbeats 400000 in
theorem choose32_any (w : World) (x y z : BitVec 32) : Calls Tryd.prog 149 #[W32 x, W32 y, W32 z] w fun e w' => e = .returned (W32 ((x &&& y) ^^^ (~~~x &&& z))) ∧ w = w' := by
  go_enter Tryd.func149, Tryd.ntmps149
  go_wp2
  go_ret
  exact ⟨by rw [b32_not, b32_and, b32_and, b32_xor]; rfl, rfl⟩
set_option maxHeartbeats 400000 in
theorem choose64_any (w : World) (x y z : BitVec 64) : Calls Tryd.prog 153 #[W64 x, W64 y, W64 z] w fun e w' => e = .returned (W64 ((x &&& y) ^^^ (~~~x &&& z))) ∧ w = w' := by
  go_enter Tryd.func153, Tryd.ntmps153
  go_wp2
  go_ret
  exact ⟨by rw [b64_not, b64_and, b64_and, b64_xor]; rfl, rfl⟩
set_option maxHeartbeats 400000 in
theorem majority32_any (w : World) (x y z : BitVec 32) : Calls Tryd.prog 150 #[W32 x, W32 y, W32 z] w fun e w' => e = .returned (W32 ((x &&& y) ^^^ (x &&& z) ^^^ (y &&& z))) ∧ w = w' := by
  go_enter Tryd.func150, Tryd.ntmps150
  go_wp2
  go_ret
  exact ⟨by rw [b32_and, b32_and, b32_and, b32_xor, b32_xor]; rfl, rfl⟩
set_option maxHeartbeats 400000 in
theorem majority64_any (w : World) (x y z : BitVec 64) : Calls Tryd.prog 154 #[W64 x, W64 y, W64 z] w fun e w' => e = .returned (W64 ((x &&& y) ^^^ (x &&& z) ^^^ (y &&& z))) ∧ w = w' := by
  go_enter Tryd.func154, Tryd.ntmps154
  go_wp2
  go_ret
  exact ⟨by rw [b64_and, b64_and, b64_and, b64_xor, b64_xor]; rfl, rfl⟩

/-- turned to the left -/
def rl32 (s : Nat) (x : BitVec 32) : BitVec 32 := x <<< s ||| x >>> (32 - s)
def rl64 (s : Nat) (x : BitVec 64) : BitVec 64 := x <<< s ||| x >>> (64 - s)
set_option linter.unusedSimpArgs false in
set_option maxHeartbeats 400000 in
theorem rot32_any (w : World) (x : BitVec 32) (k : Int) (s : Nat) (hs : s ≤ 32) (hk : bits .and .u64 (IntKind.u64.wrap k) 31 = (s : Int)) : Calls Tryd.prog 145 #[W32 x, .int .i64 k] w fun e w' => e = .returned (W32 (rl32 s x)) ∧ w = w' := by
  have h0 : (0 : Int) ≤ (s : Int) := by omega
  have h1 : IntKind.u64.wrap (32 - (s : Int)) = ((32 - s : Nat) : Int) := by rw [IntKind.wrap_u64]; omega
  have h2 : (0 : Int) ≤ ((32 - s : Nat) : Int) := by omega
  go_enter Tryd.func145, Tryd.ntmps145
  go_wp2
  go_ret
  refine ⟨?_, rfl⟩
  have e1 : min s IntKind.u32.bits = s := by show min s 32 = s; omega
  have e2 : min (32 - s) IntKind.u32.bits = 32 - s := by show min (32 - s) 32 = 32 - s; omega
  simp only [Int.toNat_natCast, e1, e2]
  rw [b32_shl', b32_shr, b32_or]
  rfl
set_option linter.unusedSimpArgs false in
set_option maxHeartbeats 400000 in
theorem rot64_any (w : World) (x : BitVec 64) (k : Int) (s : Nat) (hs : s ≤ 64) (hk : bits .and .u64 (IntKind.u64.wrap k) 63 = (s : Int)) : Calls Tryd.prog 151 #[W64 x, .int .i64 k] w fun e w' => e = .returned (W64 (rl64 s x)) ∧ w = w' := by
  have h0 : (0 : Int) ≤ (s : Int) := by omega
  have h1 : IntKind.u64.wrap (64 - (s : Int)) = ((64 - s : Nat) : Int) := by rw [IntKind.wrap_u64]; omega
  have h2 : (0 : Int) ≤ ((64 - s : Nat) : Int) := by omega
  go_enter Tryd.func151, Tryd.ntmps151
  go_wp2
  go_ret
  refine ⟨?_, rfl⟩
  have e1 : min s IntKind.u64.bits = s := by show min s 64 = s; omega
  have e2 : min (64 - s) IntKind.u64.bits = 64 - s := by show min (64 - s) 64 = 64 - s; omega
  simp only [Int.toNat_natCast, e1, e2]
  rw [b64_shl, b64_shr, b64_or]
  rfl
end Go.Proofs.YtnpaidieijlkkaaDoor

/- hashes: words in arrays. -/
set_option linter.unusedVariables false
set_option linter.unusedSimpArgs false
namespace Go.Proofs.YtnpaidieijlkkaaDoor
open Go.RowKit

section
variable {P : Program} {w : World} {ops : Array Oper} {rest : List Oper} {o : Oper} {a : Act} {Q : Exit → Act → World → Prop}
/-- a whole array is read -/
theorem wlv_load (hgd : o.guard = none) (ty n e : Nat) (hu : P.underlying ty = some (.array n e)) (hi : (P.info? ty).map (·.size) = some n) (x : Operand) (ho : o.op = .load ty x) (g : Nat) (hx : a.eval x = .pointer (some ⟨g, 0, none⟩)) (t : TypeId) (vs : List Value) (hr : RowV t w g vs) (hl : vs.length = n)
    (h : wpList P ops Q rest (a.put o.dst (.agg vs.toArray)) w) : wpList P ops Q (o :: rest) a w :=
  wpList_load_row hgd ty x ho g hx t vs.toArray (0, 0) _ hr hu rfl (by rw [hi, ← hl]; simp) h
/-- a whole array is written -/
theorem wlv_store (hgd : o.guard = none) (ty n : Nat) (hi : (P.info? ty).map (·.size) = some n) (x y : Operand) (ho : o.op = .store ty x y) (g : Nat) (vs' : List Value) (hx : a.eval x = .pointer (some ⟨g, 0, none⟩)) (hy : a.eval y = .agg vs'.toArray) (t : TypeId) (vs : List Value) (hr : RowV t w g vs) (hl : vs.length = n) (hl' : vs'.length = n) (h1 : Ones vs')
    (h : ∀ w', RowV t w' g vs' → (∀ B W, Below B W w → B ≤ g → Below B W w') → w'.heap.size = w.heap.size → wpList P ops Q rest (a.put o.dst undef) w') : wpList P ops Q (o :: rest) a w := by
  refine wpList_store_row hgd ty x y ho g vs'.toArray hx hy t vs.toArray hr (by rw [hi, ← hl']; simp) (by simp; omega) (by simp; exact fun v hv => h1 v hv) ?_
  refine h _ ?_ ?_ ?_
  · have := setRow_heap w g _ vs'.toArray t _ hr
    exact this
  · intro B W hb hB
    exact below_setRow hb hB _
  · simp [World.setRow]
theorem results_rowV {fn : Func} {p : Tmp} {ty n e : Nat} (h : fn.results = #[.cell p ty]) (tmps : Array Value) (g : Nat) (t : TypeId) (vs : List Value) (hp : tmps.getD p undef = .pointer (some ⟨g, 0, none⟩)) (hr : RowV t w g vs)
    (hu : P.underlying ty = some (.array n e)) (hi : (P.info? ty).map (·.size) = some n) (hl : vs.length = n) : (results fn tmps).run P w = .ok (.agg vs.toArray) w :=
  results_cell_row h tmps w g t vs.toArray (0, 0) _ hp hr hu rfl (by rw [hi, ← hl]; simp)
/-- 'a[i]', a an array by value -/
theorem run_indexV (ty n e : Nat) (hu : P.underlying ty = some (.array n e)) (he : (P.info? e).map (·.size) = some 1) (hp : ∀ cs i, (part e cs i).run P w = (match cs[i]? with | some v => .ok v w | none => (part e cs i).run P w)) (vs : List Value) (hl : vs.length = n) (k : Nat) (v : Value) (hk : vs[k]? = some v) :
    (Instr.index ty (.agg vs.toArray) (.int .i64 (k : Int))).run P w = .ok v w := by
  have hkn : k < n := by rw [← hl]; exact (List.getElem?_eq_some_iff.1 hk).1
  have h0 : (0 : Int) ≤ k := by omega
  have h1 : ¬ n ≤ k := by omega
  cases hq : P.info? e with
  | none => simp [hq] at he
  | some i =>
    have hs : i.size = 1 := by simpa [hq] using he
    have := hp vs.toArray k
    simp [hk] at this
    simp [Instr.index, run_underlying hu, asIntOf, h0, h1, sizeOf, typeInfo, hq, hs, this]
end
theorem Tryd.arr64 : (Tryd.prog.info? 122).map (·.size) = some 8 := by kernel_rfl
theorem Tryd.arr32 : (Tryd.prog.info? 167).map (·.size) = some 8 := by kernel_rfl
theorem ones32 (xs : List (BitVec 32)) : Ones (xs.map W32) := fun v hv => by obtain ⟨_, _, rfl⟩ := List.mem_map.1 hv; rfl
theorem ones64 (xs : List (BitVec 64)) : Ones (xs.map W64) := fun v hv => by obtain ⟨_, _, rfl⟩ := List.mem_map.1 hv; rfl
theorem ones8 (xs : List (BitVec 8)) : Ones (xs.map W8) := fun v hv => by obtain ⟨_, _, rfl⟩ := List.mem_map.1 hv; rfl

theorem run_index8 (w : World) (xs : List (BitVec 64)) (hl : xs.length = 8) (k : Nat) (x : BitVec 64) (hk : xs[k]? = some x) : (Instr.index 122 (.agg (xs.map W64).toArray) (.int .i64 (k : Int))).run Tryd.prog w = .ok (W64 x) w := by
  have hkn : k < 8 := by rw [← hl]; exact (List.getElem?_eq_some_iff.1 hk).1
  have h0 : (0 : Int) ≤ k := by omega
  have h1 : ¬ 8 ≤ k := by omega
  simp [Instr.index, run_underlying Tryd.underlying122, asIntOf, part, h0, h1, hk, go_sem]
theorem run_index832 (w : World) (xs : List (BitVec 32)) (hl : xs.length = 8) (k : Nat) (x : BitVec 32) (hk : xs[k]? = some x) : (Instr.index 167 (.agg (xs.map W32).toArray) (.int .i64 (k : Int))).run Tryd.prog w = .ok (W32 x) w := by
  have hkn : k < 8 := by rw [← hl]; exact (List.getElem?_eq_some_iff.1 hk).1
  have h0 : (0 : Int) ≤ k := by omega
  have h1 : ¬ 8 ≤ k := by omega
  simp [Instr.index, run_underlying Tryd.underlying167, asIntOf, part, h0, h1, hk, go_sem]

theorem fill_set {α : Type} (ys : List α) (z : α) (k : Nat) (y : α) (hy : ys[k]? = some y) : (ys.take k ++ List.replicate (ys.length - k) z).set k y = ys.take (k + 1) ++ List.replicate (ys.length - (k + 1)) z := by
  have hk : k < ys.length := (List.getElem?_eq_some_iff.1 hy).1
  have h1 : (ys.take k).length = k := by rw [List.length_take]; omega
  rw [List.set_append_right _ _ (by omega), h1, Nat.sub_self, show ys.length - k = (ys.length - (k + 1)) + 1 by omega, List.replicate_succ, List.set_cons_zero, List.take_add_one, hy]
  simp
theorem fill_get {α : Type} (ys : List α) (z : α) (k : Nat) (h : k < ys.length) : (ys.take k ++ List.replicate (ys.length - k) z)[k]? = some z := by
  have h1 : (ys.take k).length = k := by rw [List.length_take]; omega
  rw [List.getElem?_append_right (by omega), h1, Nat.sub_self, List.getElem?_replicate, if_pos (by omega)]
theorem fill_zero {α : Type} (ys : List α) (z : α) : ys.take 0 ++ List.replicate (ys.length - 0) z = List.replicate ys.length z := by simp
theorem fill_all {α : Type} (ys : List α) (z : α) (k : Nat) (h : k = ys.length) : ys.take k ++ List.replicate (ys.length - k) z = ys := by subst h; simp
/-- a new row -/
theorem newV (w : World) (t : TypeId) (vs : List Value) (arr : Array Value) (he : vs.toArray = arr) : ∃ W, w.alloc (.cells arr t) = W ∧ RowV t W w.heap.size vs ∧ Below w.heap.size w W ∧ W.heap.size = w.heap.size + 1 := by
  subst he
  exact ⟨_, rfl, RowV.new w t vs, (Below.refl _ w).alloc (Nat.le_refl _) _, by simp⟩
theorem below_setV {B : Nat} {a w : World} (h : Below B a w) {g : Nat} (hg : B ≤ g) (i : Nat) (v : Value) : Below B a (w.setCell ⟨g, i, none⟩ v) := h.setCell (p := ⟨g, i, none⟩) hg v

def lowL (xs : List (BitVec 64)) : List (BitVec 32) := xs.map (fun x => x.setWidth 32)

set_option maxHeartbeats 800000 in
theorem lower_any (w : World) (xs : List (BitVec 64)) (hl : xs.length = 8) : Calls Tryd.prog 146 #[.agg (xs.map W64).toArray] w fun e w' => e = .returned (.agg ((lowL xs).map W32).toArray) ∧ Below w.heap.size w w' := by
  have hlm : (xs.map W64).length = 8 := by simpa using hl
  obtain ⟨W1, e1, r1, b1, z1⟩ := newV w 122 (xs.map W64) _ rfl
  obtain ⟨W2, e2, r2, b2, z2⟩ := newV W1 167 ((List.replicate 8 (0 : BitVec 32)).map W32) #[.int .u32 0, .int .u32 0, .int .u32 0, .int .u32 0, .int .u32 0, .int .u32 0, .int .u32 0, .int .u32 0] rfl
  obtain ⟨g, hg⟩ : ∃ g, w.heap.size = g := ⟨_, rfl⟩
  obtain ⟨g2, hg2⟩ : ∃ g, W1.heap.size = g := ⟨_, rfl⟩
  have r1 := r1.later b2
  have hB : Below w.heap.size w W2 := b1.trans (b2.mono b1.size)
  rw [hg2] at r2
  rw [hg] at r1 hB
  have hgg : g ≤ g2 := by omega
  have HG := Lib.hid hg
  have hll : (lowL xs).length = 8 := by simp [lowL, hl]
  clear b1 b2 z1 z2
  go_enter Tryd.func146, Tryd.ntmps146
  go_wp2_with (refine wlv_load rfl 122 8 _ Tryd.underlying122 Tryd.arr64 _ rfl g rfl _ _ r1 hlm ?_)
  clear e1 e2 hg hg2
  go_loopw [6] (fun i wr => ∃ k : Nat, k ≤ 8 ∧ i = .int .i64 (k : Nat) ∧ RowV 167 wr g2 (((lowL xs).take k ++ List.replicate ((lowL xs).length - k) 0).map W32) ∧ Below g w wr) (fun i _ => 8 - (intOf i).toNat)
  case atStart => exact ⟨0, by decide, rfl, by rw [fill_zero, hll]; exact r2, hB⟩
  case round =>
    obtain ⟨k, hk, rfl, hr, hBr⟩ := hrel
    by_cases hk8 : k = 8
    · subst hk8
      rw [fill_all _ _ _ hll.symm] at hr
      have hlw : ((lowL xs).map W32).length = 8 := by simpa using hll
      go_wp2_with (first | refine wlv_load rfl 167 8 _ Tryd.underlying167 Tryd.arr32 _ rfl g2 rfl _ _ hr hlw ?_ | (refine wlv_store rfl 167 8 Tryd.arr32 _ _ rfl g2 _ rfl rfl _ _ hr hlw hlw (ones32 _) ?_; intro w2 hr2 hb2 hz2))
      refine ⟨rfl, _, results_rowV rfl _ g2 _ _ rfl hr2 Tryd.underlying167 Tryd.arr32 hlw, rfl, ?_⟩
      rw [HG.out]
      exact hb2 _ _ hBr hgg
    · have hki : (k : Int) < 8 := by omega
      obtain ⟨x, hx⟩ : ∃ x, xs[k]? = some x := ⟨_, List.getElem?_eq_getElem (by omega)⟩
      have hix := run_index8 wr xs hl k x hx
      have hy : (lowL xs)[k]? = some (x.setWidth 32) := by simp [lowL, hx]
      have hcv := c64_32' x
      have hfz := hr.frozen k
      have hcl : wr.cell? ⟨g2, k, none⟩ = some (.int .u32 0) := hr.at_ (by rw [List.getElem?_map, fill_get _ _ _ (by omega)]; rfl)
      have hr2 := hr.set k (W32 (x.setWidth 32))
      rw [← List.map_set, fill_set _ _ _ _ hy] at hr2
      have hB2 := below_setV hBr hgg k (W32 (x.setWidth 32))
      have HR := Lib.hid hr2
      have HB := Lib.hid hB2
      clear hr2 hB2 hr hBr
      go_wp2
      go_roundw
      case rel => exact ⟨k + 1, by omega, by go_num, HR.out, HB.out⟩
      case measure => simp [intOf]; omega
end Go.Proofs.YtnpaidieijlkkaaDoor

/- hashes: read32, read64, add32, bend. -/
set_option linter.unusedVariables false
set_option linter.unusedSimpArgs false
namespace Go.Proofs.YtnpaidieijlkkaaDoor
open Go.RowKit

theorem b32_d3 (x : BitVec 32) : i32 x / 8 = i32 (x >>> 3) := b32_shr x 3
theorem b32_d10 (x : BitVec 32) : i32 x / 1024 = i32 (x >>> 10) := b32_shr x 10
theorem b64_d7 (x : BitVec 64) : i64 x / 128 = i64 (x >>> 7) := b64_shr x 7
theorem b64_d6 (x : BitVec 64) : i64 x / 64 = i64 (x >>> 6) := b64_shr x 6
theorem b64_d32 (x : BitVec 64) : i64 x / 4294967296 = i64 (x >>> 32) := b64_shr x 32
/-- the bytes, the first one the greatest -/
def fold32 (bs : List (BitVec 8)) : BitVec 32 := bs.foldl (fun w b => w <<< 8 ||| b.setWidth 32) 0
def fold64 (bs : List (BitVec 8)) : BitVec 64 := bs.foldl (fun w b => w <<< 8 ||| b.setWidth 64) 0
def rd32 (bs : List (BitVec 8)) (i : Nat) : BitVec 32 := fold32 ((bs.drop (4 * i)).take 4)
def rd64 (bs : List (BitVec 8)) (i : Nat) : BitVec 64 := fold64 ((bs.drop (8 * i)).take 8)
theorem fold32_succ (bs : List (BitVec 8)) (k : Nat) (b : BitVec 8) (h : bs[k]? = some b) : fold32 (bs.take (k + 1)) = fold32 (bs.take k) <<< 8 ||| b.setWidth 32 := by
  rw [List.take_add_one, h]; simp [fold32]
theorem fold64_succ (bs : List (BitVec 8)) (k : Nat) (b : BitVec 8) (h : bs[k]? = some b) : fold64 (bs.take (k + 1)) = fold64 (bs.take k) <<< 8 ||| b.setWidth 64 := by
  rw [List.take_add_one, h]; simp [fold64]
theorem i32_zero : i32 0 = 0 := rfl
theorem i64_zero : i64 0 = 0 := rfl


def bendV (t : Nat) (x y z : BitVec 32) : BitVec 32 :=
  match t / 20 with
  | 0 => ((x &&& y) ^^^ (~~~x &&& z)) + 0x5a827999
  | 1 => (x ^^^ y ^^^ z) + 0x6ed9eba1
  | 2 => ((x &&& y) ^^^ (x &&& z) ^^^ (y &&& z)) + 0x8f1bbcdc
  | _ => (x ^^^ y ^^^ z) + 0xca62c1d6
set_option maxRecDepth 100000 in
set_option maxHeartbeats 1600000 in
theorem read32_any (w : World) (B b off n c : Nat) (bs : List (BitVec 8)) (hs : SlV w B (some ⟨b, off, none⟩) n c (bs.map W8)) (i : Nat) (hi : 4 * i + 4 ≤ n) (hn : n ≤ 17592186044416) :
    Calls Tryd.prog 144 #[.slice (some ⟨b, off, none⟩) n c, .int .i64 (i : Int)] w fun e w' => e = .returned (W32 (rd32 bs i)) ∧ w = w' := by
  have hc := hs.cap
  have hm := hs.max
  have hl : n = bs.length := by simpa using hs.len
  obtain ⟨q, hq⟩ : ∃ q, (bs.drop (4 * i)).take 4 = q := ⟨_, rfl⟩
  have hql : q.length = 4 := by rw [← hq]; simp; omega
  have hsq : SlV w B (some ⟨b, off + 4 * i, none⟩) 4 (c - 4 * i) (q.map W8) := by
    have h := (hs.drop (k := 4 * i) (by omega)).take (k := 4) (by omega)
    rw [← List.map_drop, ← List.map_take, hq] at h
    exact h
  have e5 : 4 * i + 4 - 4 * i = 4 := by omega
  have HQ := Lib.hid (show rd32 bs i = fold32 q by unfold rd32; rw [hq])
  have o32 := b32_or
  have s32 : ∀ x : BitVec 32, IntKind.u32.wrap (i32 x * 256) = i32 (x <<< 8) := fun x => b32_shl x 8
  have s32' : ∀ x : BitVec 32, i32 x * 256 % 4294967296 = i32 (x <<< 8) := fun x => b32_shl' x 8
  have e4 : (4 * (i : Int)).toNat = 4 * i := by omega
  clear hq
  go_enter Tryd.func144, Tryd.ntmps144
  go_wp2
  go_loopw [4, 15] (fun x j wr => ∃ k : Nat, k ≤ 4 ∧ j = .int .i64 (k : Nat) ∧ x = W32 (fold32 (q.take k)) ∧ wr = w) (fun _ j _ => 4 - (intOf j).toNat)
  case atStart => exact ⟨0, by decide, rfl, rfl, rfl⟩
  case round =>
    obtain ⟨k, hk, rfl, rfl, rfl⟩ := hrel
    by_cases hk4 : k = 4
    · subst hk4
      rw [List.take_of_length_le (by omega)]
      go_wp2
      go_ret
      exact ⟨by rw [HQ.out]; rfl, rfl⟩
    · have hki : (k : Int) < 4 := by omega
      obtain ⟨b2, o2, v, e1, hb, hv, hcl⟩ := hsq.at_ (k := k) (by omega)
      injection e1 with e1
      injection e1 with e1 e2
      subst e1 e2
      rw [List.getElem?_map, Option.map_eq_some_iff] at hv
      obtain ⟨x, hx, rfl⟩ := hv
      have hst := fold32_succ q k x hx
      have h8 := i8_lt x
      have hcv : i8 x = i32 (x.setWidth 32) := c8_32'' x
      have HST := Lib.hid hst
      clear hst hx
      go_wp2
      go_roundw
      case rel => exact ⟨k + 1, by omega, by go_num, by rw [HST.out], by first | rfl | trivial⟩
      case measure => simp [intOf]; omega
set_option maxRecDepth 100000 in
set_option maxHeartbeats 1600000 in
theorem read64_any (w : World) (B b off n c : Nat) (bs : List (BitVec 8)) (hs : SlV w B (some ⟨b, off, none⟩) n c (bs.map W8)) (i : Nat) (hi : 8 * i + 8 ≤ n) (hn : n ≤ 17592186044416) :
    Calls Tryd.prog 152 #[.slice (some ⟨b, off, none⟩) n c, .int .i64 (i : Int)] w fun e w' => e = .returned (W64 (rd64 bs i)) ∧ w = w' := by
  have hc := hs.cap
  have hm := hs.max
  have hl : n = bs.length := by simpa using hs.len
  obtain ⟨q, hq⟩ : ∃ q, (bs.drop (8 * i)).take 8 = q := ⟨_, rfl⟩
  have hql : q.length = 8 := by rw [← hq]; simp; omega
  have hsq : SlV w B (some ⟨b, off + 8 * i, none⟩) 8 (c - 8 * i) (q.map W8) := by
    have h := (hs.drop (k := 8 * i) (by omega)).take (k := 8) (by omega)
    rw [← List.map_drop, ← List.map_take, hq] at h
    exact h
  have e5 : 8 * i + 8 - 8 * i = 8 := by omega
  have HQ := Lib.hid (show rd64 bs i = fold64 q by unfold rd64; rw [hq])
  have o32 := b64_or
  have s32 : ∀ x : BitVec 64, IntKind.u64.wrap (i64 x * 256) = i64 (x <<< 8) := fun x => b64_shl x 8
  have e4 : (8 * (i : Int)).toNat = 8 * i := by omega
  clear hq
  go_enter Tryd.func152, Tryd.ntmps152
  go_wp2
  go_loopw [4, 15] (fun x j wr => ∃ k : Nat, k ≤ 8 ∧ j = .int .i64 (k : Nat) ∧ x = W64 (fold64 (q.take k)) ∧ wr = w) (fun _ j _ => 8 - (intOf j).toNat)
  case atStart => exact ⟨0, by decide, rfl, rfl, rfl⟩
  case round =>
    obtain ⟨k, hk, rfl, rfl, rfl⟩ := hrel
    by_cases hk8 : k = 8
    · subst hk8
      rw [List.take_of_length_le (by omega)]
      go_wp2
      go_ret
      exact ⟨by rw [HQ.out]; rfl, rfl⟩
    · have hki : (k : Int) < 8 := by omega
      obtain ⟨b2, o2, v, e1, hb, hv, hcl⟩ := hsq.at_ (k := k) (by omega)
      injection e1 with e1
      injection e1 with e1 e2
      subst e1 e2
      rw [List.getElem?_map, Option.map_eq_some_iff] at hv
      obtain ⟨x, hx, rfl⟩ := hv
      have hst := fold64_succ q k x hx
      have h8 := i8_lt x
      have hcv : i8 x = i64 (x.setWidth 64) := c8_64'' x
      have HST := Lib.hid hst
      clear hst hx
      go_wp2
      go_roundw
      case rel => exact ⟨k + 1, by omega, by go_num, by rw [HST.out], by first | rfl | trivial⟩
      case measure => simp [intOf]; omega

theorem c32_1 : i32 0x5a827999 = 1518500249 := by decide
theorem c32_2 : i32 0x6ed9eba1 = 1859775393 := by decide
theorem c32_3 : i32 0x8f1bbcdc = 2400959708 := by decide
theorem c32_4 : i32 0xca62c1d6 = 3395469782 := by decide
set_option maxRecDepth 100000 in
set_option maxHeartbeats 800000 in
theorem bend_any (w : World) (t : Nat) (ht : t < 80) (x y z : BitVec 32) :
    Calls Tryd.prog 147 #[.int .i64 (t : Int), W32 x, W32 y, W32 z] w fun e w' => e = .returned (W32 (bendV t x y z)) ∧ w = w' := by
  have hch := choose32_any w x y z
  have hmj := majority32_any w x y z
  have a32 := b32_add'
  have o32 := b32_xor
  have HCH := Lib.hid hch
  have HMJ := Lib.hid hmj
  have k1 : ∀ q : BitVec 32, (i32 q + 1518500249) % 4294967296 = i32 (q + 0x5a827999) := fun q => by rw [← b32_add', c32_1]
  have k2 : ∀ q : BitVec 32, (i32 q + 1859775393) % 4294967296 = i32 (q + 0x6ed9eba1) := fun q => by rw [← b32_add', c32_2]
  have k3 : ∀ q : BitVec 32, (i32 q + 2400959708) % 4294967296 = i32 (q + 0x8f1bbcdc) := fun q => by rw [← b32_add', c32_3]
  have k4 : ∀ q : BitVec 32, (i32 q + 3395469782) % 4294967296 = i32 (q + 0xca62c1d6) := fun q => by rw [← b32_add', c32_4]
  clear hch hmj
  obtain ⟨p, hp⟩ : ∃ p, t / 20 = p := ⟨_, rfl⟩
  have hdv : (t : Int).tdiv 20 = (p : Int) := by rw [Int.tdiv_eq_ediv_of_nonneg (by omega)]; omega
  have hp4 : p = 0 ∨ p = 1 ∨ p = 2 ∨ p = 3 := by omega
  have HP := Lib.hid hp
  clear hp
  rcases hp4 with h | h | h | h
  all_goals
    subst h
    go_enter Tryd.func147, Tryd.ntmps147
  · go_wp2_with fail
    refine HCH.out.mono ?_
    rintro e w' ⟨rfl, rfl⟩
    go_wp2
    go_ret
    exact ⟨by simp only [bendV, HP.out, k1]; rfl, rfl⟩
  · go_wp2
    go_ret
    exact ⟨by simp only [bendV, HP.out, k2]; rfl, rfl⟩
  · go_wp2_with fail
    refine HMJ.out.mono ?_
    rintro e w' ⟨rfl, rfl⟩
    go_wp2
    go_ret
    exact ⟨by simp only [bendV, HP.out, k3]; rfl, rfl⟩
  · go_wp2
    go_ret
    exact ⟨by simp only [bendV, HP.out, k4]; rfl, rfl⟩

def addL (xs ys : List (BitVec 32)) : List (BitVec 64) := (xs.zip ys).map (fun p => (p.1 + p.2).setWidth 64)
set_option maxRecDepth 100000 in
set_option maxHeartbeats 1600000 in
theorem add32_any (w : World) (xs ys : List (BitVec 32)) (hl : xs.length = 8) (hl2 : ys.length = 8) : Calls Tryd.prog 148 #[.agg (xs.map W32).toArray, .agg (ys.map W32).toArray] w fun e w' => e = .returned (.agg ((addL xs ys).map W64).toArray) ∧ Below w.heap.size w w' := by
  have hlm : (xs.map W32).length = 8 := by simpa using hl
  have hlm2 : (ys.map W32).length = 8 := by simpa using hl2
  obtain ⟨W1, e1, r1, b1, z1⟩ := newV w 167 (xs.map W32) _ rfl
  obtain ⟨W2, e2, r2, b2, z2⟩ := newV W1 167 (ys.map W32) _ rfl
  obtain ⟨W3, e3, r3, b3, z3⟩ := newV W2 122 ((List.replicate 8 (0 : BitVec 64)).map W64) #[.int .u64 0, .int .u64 0, .int .u64 0, .int .u64 0, .int .u64 0, .int .u64 0, .int .u64 0, .int .u64 0] rfl
  obtain ⟨g, hg⟩ : ∃ g, w.heap.size = g := ⟨_, rfl⟩
  obtain ⟨g2, hg2⟩ : ∃ g, W1.heap.size = g := ⟨_, rfl⟩
  obtain ⟨g3, hg3⟩ : ∃ g, W2.heap.size = g := ⟨_, rfl⟩
  have r1 := (r1.later b2).later b3
  have r2 := r2.later b3
  have hB : Below w.heap.size w W3 := b1.trans ((b2.trans (b3.mono b2.size)).mono b1.size)
  rw [hg3] at r3
  rw [hg2] at r2
  rw [hg] at r1 hB
  have hgg : g2 < g3 := by omega
  have hg0 : g ≤ g3 := by omega
  have HG := Lib.hid hg
  have hll : (addL xs ys).length = 8 := by simp [addL, hl, hl2]
  clear b1 b2 b3 z1 z2 z3
  go_enter Tryd.func148, Tryd.ntmps148
  go_wp2_with (refine wlv_load rfl 167 8 _ Tryd.underlying167 Tryd.arr32 _ rfl g rfl _ _ r1 hlm ?_)
  clear e1 e2 e3 hg hg2 hg3
  go_loopw [8] (fun i wr => ∃ k : Nat, k ≤ 8 ∧ i = .int .i64 (k : Nat) ∧ RowV 122 wr g3 (((addL xs ys).take k ++ List.replicate ((addL xs ys).length - k) 0).map W64) ∧ RowV 167 wr g2 (ys.map W32) ∧ Below g w wr) (fun i _ => 8 - (intOf i).toNat)
  case atStart => exact ⟨0, by decide, rfl, by rw [fill_zero, hll]; exact r3, r2, hB⟩
  case round =>
    obtain ⟨k, hk, rfl, hr, hr2, hBr⟩ := hrel
    by_cases hk8 : k = 8
    · subst hk8
      rw [fill_all _ _ _ hll.symm] at hr
      have hlw : ((addL xs ys).map W64).length = 8 := by simpa using hll
      go_wp2_with (first | refine wlv_load rfl 122 8 _ Tryd.underlying122 Tryd.arr64 _ rfl g3 rfl _ _ hr hlw ?_ | (refine wlv_store rfl 122 8 Tryd.arr64 _ _ rfl g3 _ rfl rfl _ _ hr hlw hlw (ones64 _) ?_; intro w2 hr3 hb2 hz2))
      refine ⟨rfl, _, results_rowV rfl _ g3 _ _ rfl hr3 Tryd.underlying122 Tryd.arr64 hlw, rfl, ?_⟩
      rw [HG.out]
      exact hb2 _ _ hBr hg0
    · have hki : (k : Int) < 8 := by omega
      obtain ⟨x, hx⟩ : ∃ x, xs[k]? = some x := ⟨_, List.getElem?_eq_getElem (by omega)⟩
      obtain ⟨y, hy⟩ : ∃ x, ys[k]? = some x := ⟨_, List.getElem?_eq_getElem (by omega)⟩
      have hix := run_index832 wr xs hl k x hx
      have hcy : wr.cell? ⟨g2, k, none⟩ = some (W32 y) := hr2.at_ (by rw [List.getElem?_map, hy]; rfl)
      have hzz : (xs.zip ys)[k]? = some (x, y) := List.getElem?_zip_eq_some.2 ⟨hx, hy⟩
      have hz : (addL xs ys)[k]? = some ((x + y).setWidth 64) := by rw [addL, List.getElem?_map, hzz]; rfl
      have a32 := b32_add' x y
      have hcv := c32_64'' (x + y)
      have hfz := hr.frozen k
      have hcl : wr.cell? ⟨g3, k, none⟩ = some (.int .u64 0) := hr.at_ (by rw [List.getElem?_map, fill_get _ _ _ (by omega)]; rfl)
      have hr3 := hr.set k (W64 ((x + y).setWidth 64))
      rw [← List.map_set, fill_set _ _ _ _ hz] at hr3
      have hr4 := hr2.far (p := ⟨g3, k, none⟩) (by show g2 ≠ g3; omega) (W64 ((x + y).setWidth 64))
      have hB2 := below_setV hBr hg0 k (W64 ((x + y).setWidth 64))
      have HR := Lib.hid hr3
      have HR2 := Lib.hid hr4
      have HB := Lib.hid hB2
      clear hr3 hr4 hB2 hr hr2 hBr
      go_wp2
      go_roundw
      case rel => exact ⟨k + 1, by omega, by go_num, HR.out, HR2.out, HB.out⟩
      case measure => simp [intOf]; omega
end Go.Proofs.YtnpaidieijlkkaaDoor

/- Regions that draw their order, by an invariant. -/
set_option linter.unusedVariables false
set_option linter.unusedSimpArgs false
namespace Go.Proofs.YtnpaidieijlkkaaDoor
open Go.RowKit Go.Shelf

theorem wpAnyIn_inv {F : Fence} {n : Nat} {P : Program} {ops : Array Oper} {Q : Exit → Act → World → Prop} {md : Region.Mode} (Inv : Array Bool → Act → World → Prop)
    (hstep : ∀ L a w, Inv L a w → ∀ i ∈ Region.ready md ops L, wpOpIn F n P ops Q i (fun a' w' => Inv (L.setIfInBounds i true) a' w') a w)
    (hend : ∀ L a w, Inv L a w → Region.ready md ops L = [] → Q .normal a w) (hfuel : ∀ L a w, Inv L a w → L.size = ops.size) :
    ∀ (fuel : Nat) (L : Array Bool) (a : Act) (w : World), Inv L a w → (L.toList.count false ≤ fuel) → wpAnyIn F n P md ops Q fuel L a w := by
  intro fuel
  induction fuel with
  | zero =>
    intro L a w h hc
    have hr : Region.ready md ops L = [] := by
      rw [List.eq_nil_iff_forall_not_mem]
      intro i hi
      obtain ⟨h1, o, ho, _⟩ := mem_ready.1 hi
      have hi' : i < L.size := by rw [hfuel L a w h]; exact (Array.getElem?_eq_some_iff.1 ho).1
      have : false ∈ L.toList := by
        rw [Array.getD_eq_getD_getElem?, Array.getElem?_eq_getElem hi'] at h1
        simp at h1
        rw [← h1]
        exact Array.getElem_mem_toList ..
      have := List.count_pos_iff.2 this
      omega
    exact ⟨hr, hend L a w h hr⟩
  | succ fuel ih =>
    intro L a w h hc
    refine ⟨hend L a w h, fun i hi => wpOpIn_mono (fun a' w' h' => ih _ _ _ h' ?_) (hstep L a w h i hi)⟩
    obtain ⟨h1, o, ho, _⟩ := mem_ready.1 hi
    have hi' : i < L.size := by rw [hfuel L a w h]; exact (Array.getElem?_eq_some_iff.1 ho).1
    have hf : L[i] = false := by
      rw [Array.getD_eq_getD_getElem?, Array.getElem?_eq_getElem hi'] at h1
      simpa using h1
    have e : (L.setIfInBounds i true).toList = L.toList.set i true := by simp
    rw [e, List.count_set (by simpa using hi')]
    have hct : List.count false L.toList = L.count false := Array.count_toList
    simp [hf]
    omega

/-- where the operations listed have written -/
def wrote (ops : Array Oper) (vals : Nat → Value) (L : Array Bool) (t0 : Array Value) : Nat → Array Value
  | 0 => t0
  | k + 1 => if L.getD k false then ({ tmps := wrote ops vals L t0 k, defers := [] } : Act).put ((ops[k]?).bind (·.dst)) (vals k) |>.tmps else wrote ops vals L t0 k

def Distinct (ops : Array Oper) : Prop := ∀ (i j : Nat) (oi oj : Oper) (d : Tmp), ops[i]? = some oi → ops[j]? = some oj → oi.dst = some d → oj.dst = some d → i = j

theorem wrote_set (ops : Array Oper) (vals : Nat → Value) (L : Array Bool) (t0 : Array Value) (hd : Distinct ops) {i : Nat} {oi : Oper} (hoi : ops[i]? = some oi) (hL : i < L.size) (hf : L.getD i false = false) :
    ∀ k, wrote ops vals (L.setIfInBounds i true) t0 k = if i < k then (({ tmps := wrote ops vals L t0 k, defers := [] } : Act).put oi.dst (vals i)).tmps else wrote ops vals L t0 k := by
  intro k
  induction k with
  | zero => simp [wrote]
  | succ k ih =>
    simp only [wrote]
    by_cases hk : k = i
    · subst hk
      have : (L.setIfInBounds k true).getD k false = true := by simp [Array.getD_eq_getD_getElem?, hL]
      rw [if_pos this, if_pos (show k < k + 1 from Nat.lt_succ_self k), ih, if_neg (Nat.lt_irrefl k), hf, hoi]
      simp
    · have e : (L.setIfInBounds i true).getD k false = L.getD k false := by
        simp only [Array.getD_eq_getD_getElem?]
        rw [Array.getElem?_setIfInBounds_ne (by omega)]
      rw [e, ih]
      by_cases hik : i < k
      · rw [if_pos hik, if_pos (show i < k + 1 by omega)]
        by_cases hLk : L.getD k false = true
        · simp only [hLk, if_true]
          cases hok : ops[k]? with
          | none => rfl
          | some ok =>
            simp only [Option.bind_some]
            unfold Act.put
            cases hdk : ok.dst with
            | none => rfl
            | some dk =>
              cases hdi : oi.dst with
              | none => rfl
              | some di =>
                have hne : di ≠ dk := fun e => hk (hd k i ok oi dk hok hoi hdk (by rw [hdi, e]))
                simp only
                exact Array.setIfInBounds_comm _ _ hne
        · have hLk' : L.getD k false = false := by simpa using hLk
          simp only [hLk', Bool.false_eq_true, if_false]
      · rw [if_neg hik, if_neg (show ¬ i < k + 1 by omega)]

theorem put_getD_ne (a : Act) (dst : Option Tmp) (v : Value) (t : Tmp) (h : dst ≠ some t) : (a.put dst v).tmps.getD t undef = a.tmps.getD t undef := by
  unfold Act.put
  cases dst with
  | none => rfl
  | some d =>
    have : d ≠ t := fun e => h (by rw [e])
    simp only [Array.getD_eq_getD_getElem?]
    rw [Array.getElem?_setIfInBounds_ne this]
theorem wrote_size (ops : Array Oper) (vals : Nat → Value) (L : Array Bool) (t0 : Array Value) : ∀ k, (wrote ops vals L t0 k).size = t0.size := by
  intro k
  induction k with
  | zero => rfl
  | succ k ih =>
    simp only [wrote]
    split
    · unfold Act.put
      cases (ops[k]?).bind (·.dst) <;> simp [ih]
    · exact ih
/-- a slot that no operation writes -/
theorem wrote_old (ops : Array Oper) (vals : Nat → Value) (L : Array Bool) (t0 : Array Value) (t : Tmp) (h : ∀ (i : Nat) (oi : Oper), ops[i]? = some oi → oi.dst ≠ some t) : ∀ k, (wrote ops vals L t0 k).getD t undef = t0.getD t undef := by
  intro k
  induction k with
  | zero => rfl
  | succ k ih =>
    simp only [wrote]
    split
    · rw [put_getD_ne, ih]
      intro e
      obtain ⟨o, ho, e'⟩ := Option.bind_eq_some_iff.1 e
      exact h k o ho e'
    · exact ih
/-- a slot that an operation listed has written -/
theorem wrote_new (ops : Array Oper) (vals : Nat → Value) (L : Array Bool) (t0 : Array Value) (hd : Distinct ops) {j : Nat} {oj : Oper} {t : Tmp} (hj : ops[j]? = some oj) (hjt : oj.dst = some t) (hL : L.getD j false = true) (ht : t < t0.size) :
    ∀ k, j < k → (wrote ops vals L t0 k).getD t undef = vals j := by
  intro k
  induction k with
  | zero => intro h; omega
  | succ k ih =>
    intro h
    simp only [wrote]
    by_cases hk : k = j
    · subst hk
      rw [if_pos hL, hj]
      simp only [Option.bind_some, hjt, Act.put]
      have := wrote_size ops vals L t0 k
      simp [Array.getD_eq_getD_getElem?, this, ht]
    · by_cases hLk : L.getD k false = true
      · rw [if_pos hLk, put_getD_ne, ih (by omega)]
        intro e
        obtain ⟨o, ho, e'⟩ := Option.bind_eq_some_iff.1 e
        exact hk (hd k j o oj t ho hj e' hjt)
      · rw [if_neg hLk]
        exact ih (by omega)

/-- THE REGION: each operation, when its turn comes, yields its one value; the world goes by what has been listed. -/
theorem wpIn_region_inv {F : Fence} {n : Nat} {P : Program} {id : Nat} {ops : Array Oper} {Q : Exit → Act → World → Prop} {a : Act} {w : World} (hm : P.follows .mixedOrders = true) (hd : Distinct ops)
    (vals : Nat → Value) (wor : Array Bool → World) (hw0 : ∃ q, { w with drawn := w.drawn + 1 } = (wor (Array.replicate ops.size false)).drewN q)
    (hstep : ∀ (L : Array Bool) (a' : Act), L.size = ops.size → a'.defers = a.defers → (∀ (j : Nat) (oj : Oper), ops[j]? = some oj → L.getD j false = true → ∀ e ∈ oj.after, Region.binds .any e = true → L.getD e.on false = true) →
      (∀ t, (∀ (i : Nat) (oi : Oper), ops[i]? = some oi → oi.dst ≠ some t) → a'.tmps.getD t undef = a.tmps.getD t undef) →
      (∀ (j : Nat) (oj : Oper) t, ops[j]? = some oj → oj.dst = some t → L.getD j false = true → t < a.tmps.size → a'.tmps.getD t undef = vals j) →
      ∀ i ∈ Region.ready .any ops L, ∀ oi, ops[i]? = some oi → ∀ (q0 : Nat) (K : Act → World → Prop), (∀ q, K (a'.put oi.dst (vals i)) ((wor (L.setIfInBounds i true)).drewN q)) → wpOpIn F n P ops Q i K a' ((wor L).drewN q0))
    (hend : ∀ (L : Array Bool) (q : Nat), (∀ i, i < ops.size → L.getD i false = true) → Q .normal { tmps := wrote ops vals (Array.replicate ops.size true) a.tmps ops.size, defers := a.defers } ((wor L).drewN q))
    (hacyc : ∀ L : Array Bool, L.size = ops.size → Region.ready .any ops L = [] → ∀ i, i < ops.size → L.getD i false = true) : (Code.region id ops true).wpIn F n P Q a w := by
  refine wpIn_region_any hm ?_
  obtain ⟨q0, hq0⟩ := hw0
  rw [hq0]
  refine wpAnyIn_inv (fun L a' w' => (L.size = ops.size ∧ ∀ (j : Nat) (oj : Oper), ops[j]? = some oj → L.getD j false = true → ∀ e ∈ oj.after, Region.binds .any e = true → L.getD e.on false = true) ∧ a' = { tmps := wrote ops vals L a.tmps ops.size, defers := a.defers } ∧ ∃ q, w' = (wor L).drewN q) ?_ ?_ (fun L a w h => h.1.1) _ _ _ _ ⟨⟨by simp, ?_⟩, ?_, ⟨_, rfl⟩⟩ ?_
  · rintro L a' w' ⟨⟨hs, hcl⟩, rfl, q, rfl⟩ i hi
    obtain ⟨h1, o, ho, hdep⟩ := mem_ready.1 hi
    have hi' : i < L.size := by rw [hs]; exact (Array.getElem?_eq_some_iff.1 ho).1
    have hf : L.getD i false = false := by
      rw [Array.getD_eq_getD_getElem?, Array.getElem?_eq_getElem hi'] at h1 ⊢
      simpa using h1
    refine hstep L { tmps := wrote ops vals L a.tmps ops.size, defers := a.defers } hs rfl hcl (fun t ht => wrote_old ops vals L a.tmps t ht _) (fun j oj t hj hjt hL ht => wrote_new ops vals L a.tmps hd hj hjt hL ht _ (Array.getElem?_eq_some_iff.1 hj).1) i hi o ho _ _ fun q' => ⟨⟨by simp [hs], ?_⟩, ?_, ⟨q', rfl⟩⟩
    · have hmono : ∀ t, L.getD t false = true → (L.setIfInBounds i true).getD t false = true := by
        intro t ht
        by_cases e : t = i
        · subst e; simp [Array.getD_eq_getD_getElem?, hi']
        · simp only [Array.getD_eq_getD_getElem?] at ht ⊢
          rw [Array.getElem?_setIfInBounds_ne (fun h => e h.symm)]; exact ht
      intro j oj hj hLj e he hb
      by_cases hji : j = i
      · subst hji
        obtain rfl : o = oj := Option.some.inj (ho.symm.trans hj)
        exact hmono _ (hdep e he hb)
      · refine hmono _ (hcl j oj hj ?_ e he hb)
        simp only [Array.getD_eq_getD_getElem?] at hLj ⊢
        rw [Array.getElem?_setIfInBounds_ne (fun h => hji h.symm)] at hLj
        exact hLj
    rw [wrote_set ops vals L a.tmps hd ho hi' hf, if_pos (by rw [← hs]; exact hi')]
    unfold Act.put
    cases o.dst <;> rfl
  · rintro L a' w' ⟨⟨hs, _⟩, rfl, q, rfl⟩ hr
    have hall := hacyc L hs hr
    have e : L = Array.replicate ops.size true := by
      apply Array.ext
      · simp [hs]
      · intro i h1 h2
        have := hall i (by omega)
        rw [Array.getD_eq_getD_getElem?, Array.getElem?_eq_getElem h1] at this
        simpa using this
    have h := hend L q hall
    rw [e] at h ⊢
    exact h
  · intro j oj _ hLj
    exfalso
    rw [Array.getD_eq_getD_getElem?, Array.getElem?_replicate] at hLj
    split at hLj <;> simp at hLj
  · have : ∀ k, wrote ops vals (Array.replicate ops.size false) a.tmps k = a.tmps := by
      intro k
      induction k with
      | zero => rfl
      | succ k ih =>
        simp only [wrote]
        rw [if_neg (by rw [Array.getD_eq_getD_getElem?, Array.getElem?_replicate]; split <;> simp)]
        exact ih
    rw [this]
  · simp

theorem in_value {F : Fence} {n : Nat} {P : Program} {ops : Array Oper} {Q : Exit → Act → World → Prop} {i : Nat} {o : Oper} {K : Act → World → Prop} {a : Act} {w w' : World} {v : Value} (ho : ops[i]? = some o) (hg : o.guard = none) (hdf : ∀ c, o.op ≠ .defer c)
    (hab : ∀ f, o.about P w a.eval = some f → F.fn f) (hrun : (execOp a.eval o).run P w = .ok (.value v) w') (h : K (a.put o.dst v) w') : wpOpIn F n P ops Q i K a w := by
  unfold wpOpIn
  simp only [ho, Region.wanted, hg, if_true]
  refine ⟨hab, ?_⟩
  rw [Oper.semAt_plain F _ _ hdf, hrun]
  exact h
theorem in_skip {F : Fence} {n : Nat} {P : Program} {ops : Array Oper} {Q : Exit → Act → World → Prop} {i : Nat} {o : Oper} {K : Act → World → Prop} {a : Act} {w w' : World} (ho : ops[i]? = some o) (hg : o.guard = none) (hdf : ∀ c, o.op ≠ .defer c)
    (hab : ∀ f, o.about P w a.eval = some f → F.fn f) (hrun : (execOp a.eval o).run P w = .ok .skip w') (h : K (a.put o.dst undef) w') : wpOpIn F n P ops Q i K a w := by
  unfold wpOpIn
  simp only [ho, Region.wanted, hg, if_true]
  refine ⟨hab, ?_⟩
  rw [Oper.semAt_plain F _ _ hdf, hrun]
  exact h
theorem in_call {F : Fence} {n : Nat} {P : Program} {ops : Array Oper} {Q : Exit → Act → World → Prop} {i : Nat} {o : Oper} {K : Act → World → Prop} {a : Act} {w : World} {v : Value} {f : FuncId} {args : Array Value} (ho : ops[i]? = some o) (hg : o.guard = none) (hdf : ∀ c, o.op ≠ .defer c) (hF : F.depth = none)
    (hab : ∀ f, o.about P w a.eval = some f → F.fn f) (hrun : (execOp a.eval o).run P w = .ok (.enter f args) w) (hc : CallsIn F (n - 1) P f args w fun e w' => e = .returned v ∧ ∃ q, w' = w.drewN q) (h : ∀ q, K (a.put o.dst v) (w.drewN q)) : wpOpIn F n P ops Q i K a w := by
  unfold wpOpIn
  simp only [ho, Region.wanted, hg, if_true]
  refine ⟨hab, ?_⟩
  rw [Oper.semAt_plain F _ _ hdf, hrun]
  refine ⟨(fun h => by (rw [hF] at h; cases h)), hc.mono ?_⟩
  rintro e w' ⟨rfl, q, rfl⟩
  exact h q

def distinctB (ops : Array Oper) : Bool := (List.range ops.size).all fun i => (List.range ops.size).all fun j => i == j || match (ops[i]?).bind (·.dst), (ops[j]?).bind (·.dst) with | some a, some b => a != b | _, _ => true
theorem distinct_of {ops : Array Oper} (h : distinctB ops = true) : Distinct ops := by
  intro i j oi oj d hi hj hdi hdj
  simp only [distinctB, List.all_eq_true, List.mem_range] at h
  have := h i (Array.getElem?_eq_some_iff.1 hi).1 j (Array.getElem?_eq_some_iff.1 hj).1
  simp only [hi, hj, Option.bind_some, hdi, hdj, bne_self_eq_false, Bool.or_false, beq_iff_eq] at this
  exact this
def freeB (ops : Array Oper) (t : Tmp) : Bool := ops.all fun o => o.dst != some t
theorem free_of {ops : Array Oper} {t : Tmp} (h : freeB ops t = true) : ∀ (i : Nat) (oi : Oper), ops[i]? = some oi → oi.dst ≠ some t := by
  intro i oi hi e
  have h' := Array.all_eq_true.1 h i (Array.getElem?_eq_some_iff.1 hi).1
  rw [(Array.getElem?_eq_some_iff.1 hi).2, e] at h'
  simp at h'
def orderedB (ops : Array Oper) : Bool := (List.range ops.size).all fun i => match ops[i]? with | some o => o.after.all fun e => !Region.binds .any e || decide (e.on < i) | none => true
theorem acyclic_of {ops : Array Oper} (h : orderedB ops = true) (L : Array Bool) (hs : L.size = ops.size) (hr : Region.ready .any ops L = []) : ∀ i, i < ops.size → L.getD i false = true := by
  intro i
  induction i using Nat.strongRecOn with
  | _ i ih =>
    intro hi
    apply Classical.byContradiction
    intro hne
    have hf : L.getD i false = false := by simpa using hne
    have : i ∈ Region.ready .any ops L := by
      refine mem_ready.2 ⟨?_, ops[i], Array.getElem?_eq_getElem hi, fun e he hb => ?_⟩
      · have hi' : i < L.size := by omega
        rw [Array.getD_eq_getD_getElem?, Array.getElem?_eq_getElem hi'] at hf ⊢
        simpa using hf
      · simp only [orderedB, List.all_eq_true, List.mem_range] at h
        have h1 := h i hi
        rw [Array.getElem?_eq_getElem hi] at h1
        simp only [Array.all_eq_true'] at h1
        have h2 := h1 e he
        simp only [hb, Bool.not_true, Bool.false_or, decide_eq_true_eq] at h2
        exact ih e.on h2 (by omega)
    rw [hr] at this
    cases this

theorem getD_set_other (L : Array Bool) {i j : Nat} (h : i ≠ j) : (L.setIfInBounds i true).getD j false = L.getD j false := by
  simp only [Array.getD_eq_getD_getElem?]
  rw [Array.getElem?_setIfInBounds_ne h]
theorem getD_set_self (L : Array Bool) {i : Nat} (h : i < L.size) : (L.setIfInBounds i true).getD i false = true := by
  simp [Array.getD_eq_getD_getElem?, h]
theorem unlisted {L : Array Bool} {i : Nat} (h : L.getD i true = false) : L.getD i false = false := by
  rcases Nat.lt_or_ge i L.size with h' | h'
  · rw [Array.getD_eq_getD_getElem?, Array.getElem?_eq_getElem h'] at h ⊢
    simpa using h
  · rw [Array.getD_eq_getD_getElem?, Array.getElem?_eq_none h']; rfl
/-- two stores, one behind the other, among the operations: places i and j -/
def wor2 (w : World) (i j : Nat) (p q : Addr) (u v : Value) (L : Array Bool) : World :=
  if L.getD j false then (w.setCell p u).setCell q v else if L.getD i false then w.setCell p u else w
theorem wor2_other {w : World} {i j : Nat} {p q : Addr} {u v : Value} (L : Array Bool) {k : Nat} (h1 : k ≠ i) (h2 : k ≠ j) : wor2 w i j p q u v (L.setIfInBounds k true) = wor2 w i j p q u v L := by
  unfold wor2
  rw [getD_set_other L h1, getD_set_other L h2]
theorem wor2_none {w : World} {i j : Nat} {p q : Addr} {u v : Value} {L : Array Bool} (h1 : L.getD i false = false) (h2 : L.getD j false = false) : wor2 w i j p q u v L = w := by
  unfold wor2; rw [h1, h2]; rfl
theorem wor2_first {w : World} {i j : Nat} {p q : Addr} {u v : Value} {L : Array Bool} (h1 : L.getD i false = true) (h2 : L.getD j false = false) : wor2 w i j p q u v L = w.setCell p u := by
  unfold wor2; rw [h1, h2]; rfl
theorem wor2_both {w : World} {i j : Nat} {p q : Addr} {u v : Value} {L : Array Bool} (h2 : L.getD j false = true) : wor2 w i j p q u v L = (w.setCell p u).setCell q v := by
  unfold wor2; rw [h2]; rfl
theorem wor2_cell {w : World} {i j : Nat} {p q : Addr} {u v : Value} (L : Array Bool) {a : Addr} (h1 : p ≠ a) (h2 : q ≠ a) : (wor2 w i j p q u v L).cell? a = w.cell? a := by
  unfold wor2
  split
  · rw [World.cell?_setCell_other _ _ _ _ h2, World.cell?_setCell_other _ _ _ _ h1]
  · split
    · rw [World.cell?_setCell_other _ _ _ _ h1]
    · rfl

theorem in_call_any {F : Fence} {n : Nat} {P : Program} {ops : Array Oper} {Q : Exit → Act → World → Prop} {i : Nat} {o : Oper} {K : Act → World → Prop} {a : Act} {w : World} {f : FuncId} {args : Array Value} (ho : ops[i]? = some o) (hg : o.guard = none) (hdf : ∀ c, o.op ≠ .defer c) (hF : F.depth = none)
    (hab : ∀ f, o.about P w a.eval = some f → F.fn f) (hrun : (execOp a.eval o).run P w = .ok (.enter f args) w) (hc : CallsIn F (n - 1) P f args w fun e w' => ∃ v, e = .returned v ∧ K (a.put o.dst v) w') : wpOpIn F n P ops Q i K a w := by
  unfold wpOpIn
  simp only [ho, Region.wanted, hg, if_true]
  refine ⟨hab, ?_⟩
  rw [Oper.semAt_plain F _ _ hdf, hrun]
  refine ⟨(fun h => by (rw [hF] at h; cases h)), hc.mono ?_⟩
  rintro e w' ⟨v, rfl, h⟩
  exact h
section
variable {F : Fence} {n : Nat} {P : Program} {md : Region.Mode} {ops : Array Oper} {Q : Exit → Act → World → Prop} {fuel : Nat} {L : Array Bool} {a : Act} {w : World}
theorem any0 (hr : Region.ready md ops L = []) (h : Q .normal a w) : wpAnyIn F n P md ops Q 0 L a w := ⟨hr, h⟩
theorem any1 {i : Nat} (hr : Region.ready md ops L = [i]) (h : wpOpIn F n P ops Q i (wpAnyIn F n P md ops Q fuel (L.setIfInBounds i true)) a w) : wpAnyIn F n P md ops Q (fuel + 1) L a w :=
  ⟨(fun e => by (rw [hr] at e; cases e)), fun j hj => by (rw [hr] at hj; simp at hj; subst hj; exact h)⟩
theorem any2 {i j : Nat} (hr : Region.ready md ops L = [i, j]) (hi : wpOpIn F n P ops Q i (wpAnyIn F n P md ops Q fuel (L.setIfInBounds i true)) a w) (hj : wpOpIn F n P ops Q j (wpAnyIn F n P md ops Q fuel (L.setIfInBounds j true)) a w) : wpAnyIn F n P md ops Q (fuel + 1) L a w :=
  ⟨(fun e => by (rw [hr] at e; cases e)), fun k hk => by
    rw [hr] at hk
    simp at hk
    rcases hk with rfl | rfl
    · exact hi
    · exact hj⟩
end
end Go.Proofs.YtnpaidieijlkkaaDoor

/- A region that draws its order and whose operations, but for a last store, leave memory alone: one pass over the operations serves every order. -/
set_option linter.unusedVariables false
set_option linter.unusedSimpArgs false
namespace Go.Proofs.YtnpaidieijlkkaaDoor
open Go.RowKit Go.Shelf

/-- the operands that an operation reads -/
def usesOp : Op → Option (List Operand)
  | .move x | .assign x => some [x]
  | .load _ x => some [x]
  | .store _ x y => some [x, y]
  | .binOp _ _ x y _ => some [x, y]
  | .unOp _ _ x => some [x]
  | .convert _ _ x => some [x]
  | .indexAddr _ x y | .index _ x y => some [x, y]
  | .extract x _ => some [x]
  | .slice _ x lo hi mx => some (x :: (lo.toList ++ (hi.toList ++ mx.toList)))
  | .fieldAddr _ x _ | .field _ x _ => some [x]
  | .nilCheck x => some [x]
  | .build _ parts => some (parts.toList.map (·.2))
  | .call c => match c.callee with
    | .value f => some (f :: c.args.toList)
    | .builtin _ => some c.args.toList
    | .invoke _ _ => none
  | _ => none
theorem map_option_congr {α β : Type} {f g : α → β} (o : Option α) (h : ∀ x ∈ o.toList, f x = g x) : o.map f = o.map g := by
  cases o with
  | none => rfl
  | some x => simp [h x (by simp)]
theorem map_array_congr {α β : Type} {f g : α → β} (o : Array α) (h : ∀ x ∈ o.toList, f x = g x) : o.map f = o.map g := by
  apply Array.ext'
  simp only [Array.toList_map]
  exact List.map_congr_left h
theorem resolve_congr {ρ ρ' : Operand → Value} (c : Call) (t : TypeId) {l : List Operand} (h : usesOp (.call c) = some l) (ha : ∀ x ∈ l, ρ x = ρ' x) : resolve ρ c t = resolve ρ' c t := by
  unfold resolve
  simp only [usesOp] at h
  cases hc : c.callee with
  | builtin b =>
    rw [hc] at h
    cases h
    simp only [map_array_congr c.args ha]
  | value f =>
    rw [hc] at h
    cases h
    simp only [map_array_congr c.args (fun x hx => ha x (List.mem_cons_of_mem _ hx)), ha f (List.mem_cons_self ..)]
  | invoke r nm => rw [hc] at h; cases h
theorem exec_congr {ρ ρ' : Operand → Value} {o : Oper} {l : List Operand} (h : usesOp o.op = some l) (ha : ∀ x ∈ l, ρ x = ρ' x) : execOp ρ o = execOp ρ' o := by
  unfold execOp
  cases ho : o.op <;> rw [ho] at h <;> simp only [usesOp] at h <;> try cases h
  case call c =>
    simp only [resolve_congr c o.type h ha]
  case slice t x lo hi mx =>
    simp only [ha x (by simp), map_option_congr lo (fun y hy => ha y (by simp at hy ⊢; simp [hy])), map_option_congr hi (fun y hy => ha y (by simp at hy ⊢; simp [hy])), map_option_congr mx (fun y hy => ha y (by simp at hy ⊢; simp [hy]))]
  case build t parts =>
    have e : (parts.map fun (i, x) => (i, ρ x)) = (parts.map fun (i, x) => (i, ρ' x)) := map_array_congr parts (fun p hp => by
      have := ha p.2 (List.mem_map.2 ⟨p, hp, rfl⟩)
      simp [this])
    simp only [e]
  all_goals simp [ha]
theorem about_congr {P : Program} {w : World} {ρ ρ' : Operand → Value} {o : Oper} {l : List Operand} (h : usesOp o.op = some l) (ha : ∀ x ∈ l, ρ x = ρ' x) : o.about P w ρ = o.about P w ρ' := by
  unfold Oper.about
  cases ho : o.op <;> try rfl
  rename_i c
  rw [ho] at h
  simp only [resolve_congr c o.type h ha]

/-- a slot's value: what the region lays there, else what lay there -/
def evP (asg : List (Nat × Value)) (a : Act) : Operand → Value
  | .tmp t => match asg.lookup t with
    | some v => v
    | none => a.eval (.tmp t)
  | x => a.eval x
def valP (ops : Array Oper) (asg : List (Nat × Value)) (i : Nat) : Value :=
  match (ops[i]?).bind (·.dst) with
  | some t => (asg.lookup t).getD undef
  | none => undef
/-- closed checks: every operation's reads are known; whoever reads a slot comes behind whoever lays it; every slot laid is listed -/
def depsB (ops : Array Oper) (asg : List Nat) : Bool := (List.range ops.size).all fun i => match ops[i]? with
  | none => true
  | some o => o.guard.isNone && (match o.dst with | some t => asg.contains t | none => true) && match usesOp o.op with
    | none => false
    | some l => l.all fun x => match x with
      | .tmp t => (asg.contains t == false) || (List.range ops.size).all fun j => match (ops[j]?).bind (·.dst) with
        | some t' => t' != t || o.after.any fun e => e.on == j && Region.binds .any e
        | none => true
      | _ => true
/-- every slot listed is laid by one of the region -/
def onlyB (ops : Array Oper) (asg : List Nat) : Bool := asg.all fun t => (List.range ops.size).any fun j => match (ops[j]?).bind (·.dst) with
  | some t' => t' == t
  | none => false
/-- each but the last has one behind it -/
def rootB (ops : Array Oper) (s : Nat) : Bool := (List.range s).all fun i => (List.range (s + 1)).any fun j => decide (i < j) && match ops[j]? with
  | some o => o.after.any fun e => e.on == i && Region.binds .any e
  | none => false

/-- one operation, run where the others' slots hold what they will hold -/
def PureOk (F : Fence) (n : Nat) (P : Program) (W : World) (ρ : Operand → Value) (o : Oper) (v : Value) : Prop :=
  (∀ c, o.op ≠ .defer c) ∧ ∀ q, (∀ f, o.about P (W.drewN q) ρ = some f → F.fn f) ∧
    ((execOp ρ o).run P (W.drewN q) = .ok (.value v) (W.drewN q) ∨
      ∃ f args, (execOp ρ o).run P (W.drewN q) = .ok (.enter f args) (W.drewN q) ∧ CallsIn F (n - 1) P f args (W.drewN q) fun e w' => e = .returned v ∧ ∃ q', w' = (W.drewN q).drewN q')

theorem lookup_none_of {asg : List (Nat × Value)} {t : Nat} (h : (asg.map (·.1)).contains t = false) : asg.lookup t = none := by
  induction asg with
  | nil => rfl
  | cons p l ih =>
    simp only [List.map_cons, List.contains_cons, Bool.or_eq_false_iff] at h
    rw [List.lookup_cons, h.1]
    exact ih h.2
theorem lookup_some_of {asg : List (Nat × Value)} {t : Nat} (h : (asg.map (·.1)).contains t = true) : ∃ v, asg.lookup t = some v := by
  induction asg with
  | nil => simp at h
  | cons p l ih =>
    rw [List.lookup_cons]
    cases hp : t == p.1 with
    | true => exact ⟨p.2, rfl⟩
    | false =>
      simp only [List.map_cons, List.contains_cons, hp, Bool.false_or] at h
      exact ih h

theorem drewN_add (w : World) (a b : Nat) : (w.drewN a).drewN b = w.drewN (a + b) := by simp [World.drewN, Nat.add_assoc]
/-- every order lays the same -/
theorem wpIn_region_pure {F : Fence} {n : Nat} {P : Program} {id : Nat} {ops : Array Oper} {Q : Exit → Act → World → Prop} {a : Act} {w : World} (hF : F.depth = none) (hm : P.follows .mixedOrders = true)
    (asg : List (Nat × Value)) (hd : distinctB ops = true) (hdep : depsB ops (asg.map (·.1)) = true) (hon : onlyB ops (asg.map (·.1)) = true) (hord : orderedB ops = true) (hsz : (asg.map (·.1)).all (fun t => decide (t < a.tmps.size)) = true)
    (s : Nat) (W2 : World) (hs : s + 1 = ops.size) (hroot : rootB ops s = true)
    (hops : ∀ i o, i < s → ops[i]? = some o → PureOk F n P w (evP asg a) o (valP ops asg i))
    (hlast : ∀ o, ops[s]? = some o → (∀ c, o.op ≠ .defer c) ∧ ∀ q, (∀ f, o.about P (w.drewN q) (evP asg a) = some f → F.fn f) ∧ ((execOp (evP asg a) o).run P (w.drewN q) = .ok .skip (W2.drewN q) ∧ valP ops asg s = undef ∨ (execOp (evP asg a) o).run P (w.drewN q) = .ok (.value (valP ops asg s)) (W2.drewN q)))
    (hend : ∀ q, Q .normal { tmps := wrote ops (valP ops asg) (Array.replicate ops.size true) a.tmps ops.size, defers := a.defers } (W2.drewN q)) : (Code.region id ops true).wpIn F n P Q a w := by
  have hd' := distinct_of hd
  have hclose : ∀ (L : Array Bool), L.size = ops.size → (∀ (j : Nat) (oj : Oper), ops[j]? = some oj → L.getD j false = true → ∀ e ∈ oj.after, Region.binds .any e = true → L.getD e.on false = true) → L.getD s false = true → ∀ k i, i + k = s → L.getD i false = true := by
    intro L hsz hcl hL k
    induction k using Nat.strongRecOn with
    | _ k ih =>
      intro i hik
      rcases Nat.eq_zero_or_pos k with h0 | h0
      · obtain rfl : i = s := by omega
        exact hL
      · simp only [rootB, List.all_eq_true, List.mem_range] at hroot
        have h1 := hroot i (by omega)
        rw [List.any_eq_true] at h1
        obtain ⟨j, hj, h2⟩ := h1
        rw [List.mem_range] at hj
        rw [Bool.and_eq_true, decide_eq_true_eq] at h2
        have hjl := ih (s - j) (by omega) j (by omega)
        cases ho : ops[j]? with
        | none => rw [ho] at h2; simp at h2
        | some o =>
          rw [ho] at h2
          obtain ⟨e, he, he2⟩ := Array.any_eq_true'.1 h2.2
          rw [Bool.and_eq_true, beq_iff_eq] at he2
          have := hcl j o ho hjl e he he2.2
          rwa [he2.1] at this
  refine wpIn_region_inv hm hd' (valP ops asg) (fun L => if L.getD s false then W2 else w) ⟨1, ?_⟩ ?_ ?_ (acyclic_of hord)
  · have : (Array.replicate ops.size false).getD s false = false := by
      rw [Array.getD_eq_getD_getElem?, Array.getElem?_replicate]; split <;> rfl
    simp only [this, Bool.false_eq_true, if_false]
    rfl
  · intro L a' hLs hdf hcl hold hnew i hi o ho q0 K hK
    obtain ⟨h1, o2, ho2, hde⟩ := mem_ready.1 hi
    obtain rfl : o = o2 := Option.some.inj (ho.symm.trans ho2)
    have hnl := unlisted h1
    have his : i ≤ s := by have := (Array.getElem?_eq_some_iff.1 ho).1; omega
    have hLf : L.getD s false = false := by
      apply Classical.byContradiction
      intro h
      have := hclose L hLs hcl (by simpa using h) (s - i) i (by omega)
      rw [hnl] at this
      cases this
    simp only [hLf, Bool.false_eq_true, if_false]
    -- the operands hold what they will hold
    have hdi : ∃ l, usesOp o.op = some l ∧ o.guard = none ∧ ∀ x ∈ l, a'.eval x = evP asg a x := by
      simp only [depsB, List.all_eq_true, List.mem_range] at hdep
      have h2 := hdep i (by omega)
      rw [ho] at h2
      simp only [Bool.and_eq_true] at h2
      cases hu : usesOp o.op with
      | none => rw [hu] at h2; simp at h2
      | some l =>
        rw [hu] at h2
        refine ⟨l, rfl, by simpa using h2.1.1, fun x hx => ?_⟩
        have h3 := List.all_eq_true.1 h2.2 x hx
        cases x with
        | tmp t =>
          simp only [Bool.or_eq_true, beq_iff_eq] at h3
          rcases h3 with h3 | h3
          · have hno := lookup_none_of h3
            have e1 : evP asg a (.tmp t) = a.tmps.getD t undef := by simp [evP, hno, Act.eval]
            have e2 : a'.eval (.tmp t) = a'.tmps.getD t undef := by simp [Act.eval]
            rw [e1, e2]
            refine hold t fun j oj hj e => ?_
            have h4 := hdep j (by have := (Array.getElem?_eq_some_iff.1 hj).1; omega)
            rw [hj] at h4
            simp only [Bool.and_eq_true, e] at h4
            rw [h3] at h4
            exact absurd h4.1.2 (by simp)
          · cases hl : (asg.map (·.1)).contains t with
            | false =>
              have hno := lookup_none_of hl
              have e1 : evP asg a (.tmp t) = a.tmps.getD t undef := by simp [evP, hno, Act.eval]
              have e2 : a'.eval (.tmp t) = a'.tmps.getD t undef := by simp [Act.eval]
              rw [e1, e2]
              refine hold t fun j oj hj e => ?_
              have h4 := hdep j (by have := (Array.getElem?_eq_some_iff.1 hj).1; omega)
              rw [hj] at h4
              simp only [Bool.and_eq_true, e] at h4
              rw [hl] at h4
              exact absurd h4.1.2 (by simp)
            | true =>
              obtain ⟨v, hv⟩ := lookup_some_of hl
              have e1 : evP asg a (.tmp t) = v := by simp [evP, hv]
              have e2 : a'.eval (.tmp t) = a'.tmps.getD t undef := by simp [Act.eval]
              rw [e1, e2]
              -- who lays it
              have h5 := List.all_eq_true.1 hon t (by simpa using hl)
              rw [List.any_eq_true] at h5
              obtain ⟨j, hj, h6⟩ := h5
              rw [List.mem_range] at hj
              have hoj : ops[j]? = some ops[j] := Array.getElem?_eq_getElem hj
              rw [hoj] at h6
              simp only [Option.bind_some] at h6
              cases hdj : ops[j].dst with
              | none => rw [hdj] at h6; cases h6
              | some t' =>
                rw [hdj] at h6
                obtain rfl : t' = t := by simpa using h6
                have h7 := List.all_eq_true.1 h3 j (List.mem_range.2 hj)
                rw [hoj] at h7
                simp only [Option.bind_some, hdj, bne_self_eq_false, Bool.false_or] at h7
                obtain ⟨e, he, he2⟩ := Array.any_eq_true'.1 h7
                rw [Bool.and_eq_true, beq_iff_eq] at he2
                have hLj := hde e he he2.2
                rw [he2.1] at hLj
                have htl : t' < a.tmps.size := by
                  have := List.all_eq_true.1 hsz t' (by simpa using hl)
                  simpa using this
                have h8 := hnew j _ t' hoj hdj hLj htl
                rw [h8]
                simp [valP, hoj, hdj, hv]
        | _ => rfl
    obtain ⟨l, hu, hg, hev⟩ := hdi
    have hex := exec_congr hu hev
    have hab : ∀ W : World, o.about P W a'.eval = o.about P W (evP asg a) := fun W => about_congr hu hev
    rcases Nat.lt_or_ge i s with his' | his'
    · obtain ⟨hdef, hok⟩ := hops i o his' ho
      obtain ⟨hf, hrun⟩ := hok q0
      have hwor : (if (L.setIfInBounds i true).getD s false = true then W2 else w) = w := by
        rw [getD_set_other L (by omega : i ≠ s), hLf]; rfl
      rcases hrun with hrun | ⟨f, args, hrun, hcall⟩
      · refine in_value ho hg hdef (fun f hf' => hf f (by rw [← hab]; exact hf')) (by rw [hex]; exact hrun) ?_
        have := hK q0
        rw [hwor] at this
        exact this
      · refine in_call_any ho hg hdef hF (fun f hf' => hf f (by rw [← hab]; exact hf')) (by rw [hex]; exact hrun) (hcall.mono ?_)
        rintro e w' ⟨rfl, q', rfl⟩
        refine ⟨_, rfl, ?_⟩
        have := hK (q0 + q')
        rw [hwor] at this
        rw [drewN_add]
        exact this
    · obtain rfl : i = s := by omega
      obtain ⟨hdef, hok⟩ := hlast o ho
      obtain ⟨hf, hrun⟩ := hok q0
      have hwor : (if (L.setIfInBounds i true).getD i false = true then W2 else w) = W2 := by
        rw [getD_set_self L (by omega)]; rfl
      have hk := hK q0
      rw [hwor] at hk
      rcases hrun with ⟨hrun, hv⟩ | hrun
      · rw [hv] at hk
        exact in_skip ho hg hdef (fun f hf' => hf f (by rw [← hab]; exact hf')) (by rw [hex]; exact hrun) hk
      · exact in_value ho hg hdef (fun f hf' => hf f (by rw [← hab]; exact hf')) (by rw [hex]; exact hrun) hk
  · intro L q hL
    have : L.getD s false = true := hL s (by omega)
    rw [if_pos this]
    exact hend q
/-- .. where nothing is stored -/
theorem wpIn_region_pure0 {F : Fence} {n : Nat} {P : Program} {id : Nat} {ops : Array Oper} {Q : Exit → Act → World → Prop} {a : Act} {w : World} (hF : F.depth = none) (hm : P.follows .mixedOrders = true)
    (asg : List (Nat × Value)) (hd : distinctB ops = true) (hdep : depsB ops (asg.map (·.1)) = true) (hon : onlyB ops (asg.map (·.1)) = true) (hord : orderedB ops = true) (hsz : (asg.map (·.1)).all (fun t => decide (t < a.tmps.size)) = true)
    (hops : ∀ i o, i < ops.size → ops[i]? = some o → PureOk F n P w (evP asg a) o (valP ops asg i))
    (hend : ∀ q, Q .normal { tmps := wrote ops (valP ops asg) (Array.replicate ops.size true) a.tmps ops.size, defers := a.defers } (w.drewN q)) : (Code.region id ops true).wpIn F n P Q a w := by
  have hd' := distinct_of hd
  refine wpIn_region_inv hm hd' (valP ops asg) (fun _ => w) ⟨1, rfl⟩ ?_ ?_ (acyclic_of hord)
  · intro L a' hLs hdf hcl hold hnew i hi o ho q0 K hK
    obtain ⟨h1, o2, ho2, hde⟩ := mem_ready.1 hi
    obtain rfl : o = o2 := Option.some.inj (ho.symm.trans ho2)
    have hnl := unlisted h1
    have his : i < ops.size := (Array.getElem?_eq_some_iff.1 ho).1
    -- the operands hold what they will hold
    have hdi : ∃ l, usesOp o.op = some l ∧ o.guard = none ∧ ∀ x ∈ l, a'.eval x = evP asg a x := by
      simp only [depsB, List.all_eq_true, List.mem_range] at hdep
      have h2 := hdep i (by omega)
      rw [ho] at h2
      simp only [Bool.and_eq_true] at h2
      cases hu : usesOp o.op with
      | none => rw [hu] at h2; simp at h2
      | some l =>
        rw [hu] at h2
        refine ⟨l, rfl, by simpa using h2.1.1, fun x hx => ?_⟩
        have h3 := List.all_eq_true.1 h2.2 x hx
        cases x with
        | tmp t =>
          simp only [Bool.or_eq_true, beq_iff_eq] at h3
          rcases h3 with h3 | h3
          · have hno := lookup_none_of h3
            have e1 : evP asg a (.tmp t) = a.tmps.getD t undef := by simp [evP, hno, Act.eval]
            have e2 : a'.eval (.tmp t) = a'.tmps.getD t undef := by simp [Act.eval]
            rw [e1, e2]
            refine hold t fun j oj hj e => ?_
            have h4 := hdep j (by have := (Array.getElem?_eq_some_iff.1 hj).1; omega)
            rw [hj] at h4
            simp only [Bool.and_eq_true, e] at h4
            rw [h3] at h4
            exact absurd h4.1.2 (by simp)
          · cases hl : (asg.map (·.1)).contains t with
            | false =>
              have hno := lookup_none_of hl
              have e1 : evP asg a (.tmp t) = a.tmps.getD t undef := by simp [evP, hno, Act.eval]
              have e2 : a'.eval (.tmp t) = a'.tmps.getD t undef := by simp [Act.eval]
              rw [e1, e2]
              refine hold t fun j oj hj e => ?_
              have h4 := hdep j (by have := (Array.getElem?_eq_some_iff.1 hj).1; omega)
              rw [hj] at h4
              simp only [Bool.and_eq_true, e] at h4
              rw [hl] at h4
              exact absurd h4.1.2 (by simp)
            | true =>
              obtain ⟨v, hv⟩ := lookup_some_of hl
              have e1 : evP asg a (.tmp t) = v := by simp [evP, hv]
              have e2 : a'.eval (.tmp t) = a'.tmps.getD t undef := by simp [Act.eval]
              rw [e1, e2]
              -- who lays it
              have h5 := List.all_eq_true.1 hon t (by simpa using hl)
              rw [List.any_eq_true] at h5
              obtain ⟨j, hj, h6⟩ := h5
              rw [List.mem_range] at hj
              have hoj : ops[j]? = some ops[j] := Array.getElem?_eq_getElem hj
              rw [hoj] at h6
              simp only [Option.bind_some] at h6
              cases hdj : ops[j].dst with
              | none => rw [hdj] at h6; cases h6
              | some t' =>
                rw [hdj] at h6
                obtain rfl : t' = t := by simpa using h6
                have h7 := List.all_eq_true.1 h3 j (List.mem_range.2 hj)
                rw [hoj] at h7
                simp only [Option.bind_some, hdj, bne_self_eq_false, Bool.false_or] at h7
                obtain ⟨e, he, he2⟩ := Array.any_eq_true'.1 h7
                rw [Bool.and_eq_true, beq_iff_eq] at he2
                have hLj := hde e he he2.2
                rw [he2.1] at hLj
                have htl : t' < a.tmps.size := by
                  have := List.all_eq_true.1 hsz t' (by simpa using hl)
                  simpa using this
                have h8 := hnew j _ t' hoj hdj hLj htl
                rw [h8]
                simp [valP, hoj, hdj, hv]
        | _ => rfl
    obtain ⟨l, hu, hg, hev⟩ := hdi
    have hex := exec_congr hu hev
    have hab : ∀ W : World, o.about P W a'.eval = o.about P W (evP asg a) := fun W => about_congr hu hev
    obtain ⟨hdef, hok⟩ := hops i o his ho
    obtain ⟨hf, hrun⟩ := hok q0
    rcases hrun with hrun | ⟨f, args, hrun, hcall⟩
    · exact in_value ho hg hdef (fun f hf' => hf f (by rw [← hab]; exact hf')) (by rw [hex]; exact hrun) (hK q0)
    · refine in_call_any ho hg hdef hF (fun f hf' => hf f (by rw [← hab]; exact hf')) (by rw [hex]; exact hrun) (hcall.mono ?_)
      rintro e w' ⟨rfl, q', rfl⟩
      refine ⟨_, rfl, ?_⟩
      rw [drewN_add]
      exact hK (q0 + q')
  · intro L q hL
    exact hend q
end Go.Proofs.YtnpaidieijlkkaaDoor
