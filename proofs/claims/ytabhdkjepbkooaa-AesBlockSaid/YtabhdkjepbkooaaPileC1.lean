/- Parts of one proof, joined: Mem, Bv, Ha, Ka, As, Af, Ag, Ah, Ak, Al, Box. -/
import Derived.Test.YtabhdkjepbkooaaRows
import Derived.WalkKit
import Derived.WalkLawsBesides
import Derived.WalkSpells
import Derived.Deep.QuietTactic
import Derived.BigQuiet
import Derived.Lib.Hide
import Derived.Deep.DeepFit
import Derived.OpenShut
import Derived.Laws.CopyOwn
import Derived.Laws.AppendOwnNone
import Derived.RangeFuncNested
import Derived.Laws.BitsAll
import Derived.Lib.AppendZeros
import Derived.Deep.MidRow
import Derived.RangeFuncBox

/- Words for memory: slices and rows of one-cell values of whatever kind. -/
set_option linter.unusedVariables false
set_option linter.unusedSimpArgs false
namespace Go.Proofs.Ytabhdkjepbkooaa
open Go.RowKit

/-- each is one cell -/
def Ones (vs : List Value) : Prop := ∀ v ∈ vs, v.oneCell' = true
theorem Ones.append {a b : List Value} (h : Ones a) (k : Ones b) : Ones (a ++ b) := fun v hv => (List.mem_append.1 hv).elim (h v) (k v)
theorem Ones.take {a : List Value} (h : Ones a) (n : Nat) : Ones (a.take n) := fun v hv => h v (List.mem_of_mem_take hv)
theorem Ones.drop {a : List Value} (h : Ones a) (n : Nat) : Ones (a.drop n) := fun v hv => h v (List.mem_of_mem_drop hv)

/-- block g is, whole, the cells vs -/
def RowV (t : TypeId) (w : World) (g : Nat) (vs : List Value) : Prop := w.heap[g]? = some (.cells vs.toArray t (0, 0))
theorem RowV.lt {t : TypeId} {w : World} {g : Nat} {vs : List Value} (h : RowV t w g vs) : g < w.heap.size := (Array.getElem?_eq_some_iff.1 h).1
theorem RowV.cell {t : TypeId} {w : World} {g : Nat} {vs : List Value} (h : RowV t w g vs) (i : Nat) : w.cell? ⟨g, i, none⟩ = vs[i]? := by
  rw [cell_of_row w g i _ _ (0, 0) h]; simp
theorem RowV.at_ {t : TypeId} {w : World} {g : Nat} {vs : List Value} (h : RowV t w g vs) {i : Nat} {v : Value} (hv : vs[i]? = some v) : w.cell? ⟨g, i, none⟩ = some v := (h.cell i).trans hv
theorem RowV.frozen {t : TypeId} {w : World} {g : Nat} {vs : List Value} (h : RowV t w g vs) (i : Nat) : w.frozen? ⟨g, i, none⟩ = false := by
  unfold RowV at h
  simp [World.frozen?, h]
theorem RowV.set {t : TypeId} {w : World} {g : Nat} {vs : List Value} (h : RowV t w g vs) (i : Nat) (v : Value) : RowV t (w.setCell ⟨g, i, none⟩ v) g (vs.set i v) := by
  unfold RowV at h ⊢
  simp [World.setCell, Array.getElem?_modify, h]
theorem RowV.below {t : TypeId} {w w' : World} {g B : Nat} {vs : List Value} (h : RowV t w g vs) (hb : Below B w w') (hg : g < B) : RowV t w' g vs := (hb.block g hg).trans h
theorem RowV.later {t : TypeId} {w w' : World} {g : Nat} {vs : List Value} (h : RowV t w g vs) (hb : Below w.heap.size w w') : RowV t w' g vs := h.below hb h.lt
theorem RowV.far {t : TypeId} {w : World} {g : Nat} {vs : List Value} (h : RowV t w g vs) {p : Addr} (hp : g ≠ p.block) (u : Value) : RowV t (w.setCell p u) g vs := (Below.heap_setCell w p u g hp).trans h
theorem RowV.new (w : World) (t : TypeId) (vs : List Value) : RowV t (w.alloc (.cells vs.toArray t (0, 0))) w.heap.size vs := by
  unfold RowV
  rw [heap_alloc_new]
theorem RowV.kept {t : TypeId} {A B' : World} {g : Nat} {vs : List Value} (h : RowV t A g vs) {row : Option Nat} (hg : A.grownBy B' row) (hr : ∀ r, row = some r → ∃ o : Obj, A.heap[r]? = some o ∧ o.isCells = false) : RowV t B' g vs := by
  refine (hg.block g h.lt fun e => ?_).trans h
  obtain ⟨o, ho, hc⟩ := hr g e.symm
  rw [show A.heap[g]? = _ from h] at ho
  cases ho
  cases hc

/-- the slice from A on, of length n and capacity c, in a block below B, reads vs -/
def SlV (w : World) (B : Nat) (A : Option Addr) (n c : Nat) (vs : List Value) : Prop :=
  n = vs.length ∧ n ≤ c ∧ c ≤ 9223372036854775807 ∧ (vs ≠ [] → ∃ b off, A = some ⟨b, off, none⟩ ∧ b < B ∧ ∀ (k : Nat) (v : Value), vs[k]? = some v → w.cell? ⟨b, off + k, none⟩ = some v)
theorem SlV.len {w : World} {B n c : Nat} {A : Option Addr} {vs : List Value} (h : SlV w B A n c vs) : n = vs.length := h.1
theorem SlV.cap {w : World} {B n c : Nat} {A : Option Addr} {vs : List Value} (h : SlV w B A n c vs) : n ≤ c := h.2.1
theorem SlV.max {w : World} {B n c : Nat} {A : Option Addr} {vs : List Value} (h : SlV w B A n c vs) : c ≤ 9223372036854775807 := h.2.2.1
theorem SlV.below {w w' : World} {B n c : Nat} {A : Option Addr} {vs : List Value} (h : SlV w B A n c vs) (hb : Below B w w') : SlV w' B A n c vs := ⟨h.1, h.2.1, h.2.2.1, fun hn => by
  obtain ⟨b, off, e, hlt, hc⟩ := h.2.2.2 hn
  exact ⟨b, off, e, hlt, fun k x hx => (hb.cell (p := ⟨b, off + k, none⟩) hlt).trans (hc k x hx)⟩⟩
theorem SlV.more {w : World} {B B' n c : Nat} {A : Option Addr} {vs : List Value} (h : SlV w B A n c vs) (hB : B ≤ B') : SlV w B' A n c vs := ⟨h.1, h.2.1, h.2.2.1, fun hn => by
  obtain ⟨b, off, e, hlt, hc⟩ := h.2.2.2 hn
  exact ⟨b, off, e, Nat.lt_of_lt_of_le hlt hB, hc⟩⟩
theorem SlV.later {w w' : World} {B n c : Nat} {A : Option Addr} {vs : List Value} (h : SlV w w.heap.size A n c vs) (hb : Below w.heap.size w w') (hB : w'.heap.size ≤ B) : SlV w' B A n c vs := (h.below hb).more (Nat.le_trans hb.size hB)
theorem SlV.at_ {w : World} {B n c : Nat} {A : Option Addr} {vs : List Value} (h : SlV w B A n c vs) {k : Nat} (hk : k < n) :
    ∃ b off v, A = some ⟨b, off, none⟩ ∧ b < B ∧ vs[k]? = some v ∧ w.cell? ⟨b, off + k, none⟩ = some v := by
  have hl := h.1
  obtain ⟨b, off, e, hlt, hc⟩ := h.2.2.2 (by intro e; subst e; simp at hl; omega)
  exact ⟨b, off, vs[k]'(by omega), e, hlt, List.getElem?_eq_getElem (by omega), hc k _ (List.getElem?_eq_getElem (by omega))⟩
theorem SlV.nil (w : World) (B : Nat) (A : Option Addr) {c : Nat} (h : c ≤ 9223372036854775807) : SlV w B A 0 c [] := ⟨rfl, Nat.zero_le _, h, fun h => absurd rfl h⟩
theorem SlV.take {w : World} {B n c : Nat} {A : Option Addr} {vs : List Value} (h : SlV w B A n c vs) {k : Nat} (hk : k ≤ n) : SlV w B A k c (vs.take k) :=
  ⟨by rw [List.length_take]; have := h.1; omega, by have := h.2.1; omega, h.2.2.1, fun hn => by
    obtain ⟨b, off, e, hlt, hc⟩ := h.2.2.2 (fun e => hn (by rw [e]; simp))
    refine ⟨b, off, e, hlt, fun k x hx => hc k x ?_⟩
    rw [List.getElem?_take] at hx
    split at hx
    · exact hx
    · cases hx⟩
/-- 's[k:]' -/
theorem SlV.drop {w : World} {B n c b off : Nat} {vs : List Value} (h : SlV w B (some ⟨b, off, none⟩) n c vs) {k : Nat} (hk : k ≤ n) : SlV w B (some ⟨b, off + k, none⟩) (n - k) (c - k) (vs.drop k) :=
  ⟨by rw [List.length_drop]; have := h.1; omega, by have := h.2.1; omega, by have := h.2.2.1; omega, fun hn => by
    obtain ⟨b', off', e, hlt, hc⟩ := h.2.2.2 (fun e => hn (by rw [e]; simp))
    injection e with e
    injection e with e1 e2
    subst e1 e2
    refine ⟨b, off + k, rfl, hlt, fun j x hx => ?_⟩
    rw [List.getElem?_drop] at hx
    have := hc (k + j) x hx
    rwa [← Nat.add_assoc] at this⟩
theorem SlV.kept {A B' : World} {B n c : Nat} {p : Option Addr} {vs : List Value} (h : SlV A B p n c vs) {row : Option Nat} (hg : A.grownBy B' row) (hr : ∀ r, row = some r → ∃ o : Obj, A.heap[r]? = some o ∧ o.isCells = false) : SlV B' B p n c vs :=
  ⟨h.1, h.2.1, h.2.2.1, fun hn => by
    obtain ⟨b, off, e, hlt, hc⟩ := h.2.2.2 hn
    exact ⟨b, off, e, hlt, fun k x hx => cell_kept (hc k x hx) hg hr⟩⟩
theorem RowV.slOff {t : TypeId} {w : World} {g : Nat} {vs : List Value} (h : RowV t w g vs) (off m : Nat) (hl : off + m ≤ vs.length) (hz : vs.length ≤ 9223372036854775807) : SlV w w.heap.size (some ⟨g, off, none⟩) m (vs.length - off) ((vs.drop off).take m) :=
  ⟨by simp; omega, by omega, by omega, fun _ => ⟨g, off, rfl, h.lt, fun k v hv => h.at_ (by
    rw [List.getElem?_take] at hv
    split at hv
    · rwa [List.getElem?_drop] at hv
    · cases hv)⟩⟩
theorem RowV.sl {t : TypeId} {w : World} {g : Nat} {vs : List Value} (h : RowV t w g vs) (hz : vs.length ≤ 9223372036854775807) : SlV w w.heap.size (some ⟨g, 0, none⟩) vs.length vs.length vs :=
  ⟨rfl, Nat.le_refl _, hz, fun _ => ⟨g, 0, rfl, h.lt, fun k v hv => by rw [Nat.zero_add]; exact h.at_ hv⟩⟩

/-- an element type: one cell each -/
structure Elem (P : Program) (t e : TypeId) (z : Value) (by_ : Nat) : Prop where
  sl : P.underlying t = some (.slice e)
  info : (P.info? e).map (fun i => (i.zero, i.size, i.bytes)) = some (some z, 1, by_)
  one : z.cells = #[z]
  oc : z.oneCell' = true
  b8 : by_ ≤ 8

/-- the call's own slice: v, of n elements vs -/
theorem SlV.of_own {w : World} {base : Nat} {e : TypeId} {v : Value} {n : Nat} {vs : List Value} (h : w.ownsRow base e 1 v n vs) :
    ∃ A c, v = .slice A n c ∧ SlV w w.heap.size A n c vs ∧ (∀ b off s, A = some ⟨b, off, s⟩ → base ≤ b) ∧ (A = none → n = 0) := by
  have hl : vs.length = n := by simpa using h.1
  rcases h.2 with ⟨rfl, rfl⟩ | ⟨g, cap, cur, rfl, hbase, hh, hnc, hcm, _, _⟩
  · obtain rfl : vs = [] := List.eq_nil_of_length_eq_zero hl
    exact ⟨none, 0, rfl, SlV.nil _ _ _ (by omega), fun _ _ _ h => (by cases h), fun _ => rfl⟩
  · subst hl
    refine ⟨some ⟨g, 0, none⟩, cap, rfl, ⟨rfl, hnc, by simpa [maxLen] using hcm, fun _ => ⟨g, 0, rfl, (Array.getElem?_eq_some_iff.1 hh).1, fun k v hv => ?_⟩⟩, fun b off s hh => by injection hh with hh; injection hh with h1 _; omega, fun h => by cases h⟩
    have hc := h.cells (g := g) rfl k v (by simpa using hv)
    rw [Addr.add_lit] at hc
    exact hc

section
variable {P : Program} {t e : TypeId} {z : Value} {sz : Nat} {w : World} {ops : Array Oper} {rest : List Oper} {o : Oper} {a : Act} {Q : Exit → Act → World → Prop}
/-- 'append(s, x...)', s the call's own -/
theorem wlv_append (E : Elem P t e z sz) (hgd : o.guard = none) (s x : Operand)
    (ho : o.op = .call { callee := .builtin .append, args := #[s, x], argTypes := #[t, t] })
    (base : Nat) (v : Value) (k : Nat) (ys : List Value) (hs : a.eval s = v) (hown : w.ownsRow base e 1 v k ys) (A : Option Addr) (m c : Nat) (xs : List Value) (hx : a.eval x = .slice A m c) (hnil : A = none → c = 0) (B : Nat) (hsl : SlV w B A m c xs) (h1 : Ones xs)
    (hk : k + m ≤ 17592186044416) (hbase : base ≤ w.heap.size)
    (h : ∀ v' w', w'.ownsRow base e 1 v' (k + m) (ys ++ xs) → w.grownBy w' v.ownBlock → wpList P ops Q rest (a.put o.dst v') w') : wpList P ops Q (o :: rest) a w := by
  obtain ⟨i0, hi, hz0, hz1, hz2⟩ := info_parts E.info
  have hm := hsl.len
  cases A with
  | none =>
    have hm0 : xs = [] := by
      apply Classical.byContradiction
      intro hn
      obtain ⟨b, off, e, _⟩ := hsl.2.2.2 hn
      cases e
    subst hm0
    obtain rfl : m = 0 := hm
    obtain rfl := hnil rfl
    refine wpList_append_own_none hgd s x t ho base e i0 1 E.sl hi v k ys hs hown hx ?_
    exact h v w (by simpa using hown) ⟨rfl, rfl, rfl, Nat.le_refl _, fun _ _ _ => rfl⟩
  | some ad =>
    have hc : ∀ j u, xs[j]? = some u → w.cell? (ad.add j) = some u := fun j u hu => by
      obtain ⟨b, off, e, _, hc⟩ := hsl.2.2.2 (by intro e; subst e; simp at hu)
      injection e with e
      subst e
      rw [Addr.add_lit]
      exact hc j u hu
    have hb : (k + m) * sz ≤ 140737488355328 := Nat.le_trans (Nat.mul_le_mul hk E.b8) (by decide)
    refine wpList_append_own (w := w) hgd s x t ho base e i0 z 1 sz E.sl hi hz0 hz1 hz2 (by rw [E.one]; rfl) (by decide) v k ys hs hown ad m c xs hx (by omega) hc h1 (by simp only [maxLen]; omega) hb hbase ?_
    intro v' w' hown' hg _
    exact h v' w' hown' hg

/-- 'make(T, n)' -/
theorem wlv_make (E : Elem P t e z sz) (hg : o.guard = none) (l : Operand)
    (hop : o.op = Op.makeSlice t l l) (N : Int) (n : Nat) (hl : a.eval l = .int .i64 N) (hN : N = n) (hn : n ≤ 17592186044416)
    (h : ∀ w', RowV e w' w.heap.size (List.replicate n z) → Below w.heap.size w w' → w'.heap.size = w.heap.size + 1 → wpList P ops Q rest (a.put o.dst (.slice (some ⟨w.heap.size, 0, none⟩) n n)) w') :
    wpList P ops Q (o :: rest) a w := by
  obtain ⟨i0, hi, hz0, hz1, hz2⟩ := info_parts E.info
  subst hN
  refine wpList_plain hg fun K hK => ?_
  have hb : (i0.bytes : Int) * (n : Int) ≤ 281474976710656 := by
    rw [hz2]
    have h1 : sz * n ≤ 8 * 17592186044416 := Nat.mul_le_mul E.b8 hn
    have h2 : ((sz * n : Nat) : Int) ≤ 8 * 17592186044416 := by omega
    rw [Int.natCast_mul] at h2
    omega
  have hr := run_make (P := P) w t e i0 z E.sl hi hz0 .i64 .i64 n n (by omega) (by omega) hb (by omega)
  simp only [Int.toNat_natCast] at hr
  unfold Oper.wp
  simp [execOp, hop, hl, hr, Result.andThen]
  refine hK _ _ (h _ ?_ ((Below.refl _ _).alloc (Nat.le_refl _) _) (by simp))
  unfold RowV
  rw [heap_alloc_new, hz1, Nat.mul_one]
  have e : madeCells z.cells n = (List.replicate n z).toArray := by
    apply Array.ext'
    rw [E.one, toList_madeCells_one]
  rw [e]
end
end Go.Proofs.Ytabhdkjepbkooaa

/- Unsigned numbers as bit vectors. -/
set_option linter.unusedVariables false
namespace Go.Proofs.Ytabhdkjepbkooaa
open Go.RowKit

/-- the numbers, in words that simp leaves alone -/
def i8 (x : BitVec 8) : Int := (x.toNat : Int)
def i32 (x : BitVec 32) : Int := (x.toNat : Int)
def i64 (x : BitVec 64) : Int := (x.toNat : Int)
abbrev W8 (x : BitVec 8) : Value := .int .u8 (i8 x)
abbrev W32 (x : BitVec 32) : Value := .int .u32 (i32 x)
abbrev W64 (x : BitVec 64) : Value := .int .u64 (i64 x)

theorem b32_and (x y : BitVec 32) : bits .and .u32 (i32 x) (i32 y) = i32 (x &&& y) := by
  unfold i32; rw [u32_and_nat _ _ x.isLt y.isLt, BitVec.toNat_and]
theorem b32_or (x y : BitVec 32) : bits .or .u32 (i32 x) (i32 y) = i32 (x ||| y) := by
  unfold i32; rw [u32_or_nat _ _ x.isLt y.isLt, BitVec.toNat_or]
theorem b32_xor (x y : BitVec 32) : bits .xor .u32 (i32 x) (i32 y) = i32 (x ^^^ y) := by
  unfold i32; rw [u32_xor_nat _ _ x.isLt y.isLt, BitVec.toNat_xor]
theorem b32_not (x : BitVec 32) : bits .xor .u32 IntKind.u32.max (i32 x) = i32 (~~~x) := by
  have h : IntKind.u32.max = i32 (BitVec.allOnes 32) := by decide
  rw [h, b32_xor, BitVec.allOnes_xor]
theorem b32_add' (x y : BitVec 32) : (i32 x + i32 y) % 4294967296 = i32 (x + y) := by
  unfold i32; rw [BitVec.toNat_add]; omega
theorem b32_add (x y : BitVec 32) : IntKind.u32.wrap (i32 x + i32 y) = i32 (x + y) := by rw [IntKind.wrap_u32', b32_add']
theorem b32_shl' (x : BitVec 32) (s : Nat) : i32 x * 2 ^ s % 4294967296 = i32 (x <<< s) := by
  unfold i32; rw [BitVec.toNat_shiftLeft, Nat.shiftLeft_eq]; simp
theorem b32_shl (x : BitVec 32) (s : Nat) : IntKind.u32.wrap (i32 x * 2 ^ s) = i32 (x <<< s) := by rw [IntKind.wrap_u32', b32_shl']
theorem b32_shr (x : BitVec 32) (s : Nat) : i32 x / 2 ^ s = i32 (x >>> s) := by
  unfold i32; rw [BitVec.toNat_ushiftRight, Nat.shiftRight_eq_div_pow]; simp
theorem b64_and (x y : BitVec 64) : bits .and .u64 (i64 x) (i64 y) = i64 (x &&& y) := by
  unfold i64; rw [u64_and_nat _ _ x.isLt y.isLt, BitVec.toNat_and]
theorem b64_or (x y : BitVec 64) : bits .or .u64 (i64 x) (i64 y) = i64 (x ||| y) := by
  unfold i64; rw [u64_or_nat _ _ x.isLt y.isLt, BitVec.toNat_or]
theorem b64_xor (x y : BitVec 64) : bits .xor .u64 (i64 x) (i64 y) = i64 (x ^^^ y) := by
  unfold i64; rw [u64_xor_nat _ _ x.isLt y.isLt, BitVec.toNat_xor]
theorem b64_not (x : BitVec 64) : bits .xor .u64 IntKind.u64.max (i64 x) = i64 (~~~x) := by
  have h : IntKind.u64.max = i64 (BitVec.allOnes 64) := by decide
  rw [h, b64_xor, BitVec.allOnes_xor]
theorem b64_add (x y : BitVec 64) : IntKind.u64.wrap (i64 x + i64 y) = i64 (x + y) := by
  unfold i64; rw [IntKind.wrap_u64, BitVec.toNat_add]; omega
theorem b64_shl (x : BitVec 64) (s : Nat) : IntKind.u64.wrap (i64 x * 2 ^ s) = i64 (x <<< s) := by
  unfold i64; rw [IntKind.wrap_u64, BitVec.toNat_shiftLeft, Nat.shiftLeft_eq]; simp
theorem b64_shr (x : BitVec 64) (s : Nat) : i64 x / 2 ^ s = i64 (x >>> s) := by
  unfold i64; rw [BitVec.toNat_ushiftRight, Nat.shiftRight_eq_div_pow]; simp
theorem b8_xor (x y : BitVec 8) : bits .xor .u8 (i8 x) (i8 y) = i8 (x ^^^ y) := by
  unfold i8; rw [u8_xor_nat _ _ x.isLt y.isLt, BitVec.toNat_xor]
/-- conversions -/
theorem c8_32 (x : BitVec 8) : IntKind.u32.wrap (i8 x) = i32 (x.setWidth 32) := by
  unfold i8 i32; rw [IntKind.wrap_u32', BitVec.toNat_setWidth]; simp
theorem c8_32' (x : BitVec 8) : i8 x % 4294967296 = i32 (x.setWidth 32) := by rw [← c8_32, IntKind.wrap_u32']
theorem c8_32'' (x : BitVec 8) : i8 x = i32 (x.setWidth 32) := by
  unfold i8 i32; rw [BitVec.toNat_setWidth]; have := x.isLt; omega
theorem c8_64 (x : BitVec 8) : IntKind.u64.wrap (i8 x) = i64 (x.setWidth 64) := by
  unfold i8 i64; rw [IntKind.wrap_u64, BitVec.toNat_setWidth]; simp
theorem c8_64'' (x : BitVec 8) : i8 x = i64 (x.setWidth 64) := by
  unfold i8 i64; rw [BitVec.toNat_setWidth]; have := x.isLt; omega
theorem c64_32 (x : BitVec 64) : IntKind.u32.wrap (i64 x) = i32 (x.setWidth 32) := by
  unfold i32 i64; rw [IntKind.wrap_u32', BitVec.toNat_setWidth]; simp
theorem c64_32' (x : BitVec 64) : i64 x % 4294967296 = i32 (x.setWidth 32) := by rw [← c64_32, IntKind.wrap_u32']
theorem c32_64 (x : BitVec 32) : IntKind.u64.wrap (i32 x) = i64 (x.setWidth 64) := by
  unfold i32 i64; rw [IntKind.wrap_u64, BitVec.toNat_setWidth]; simp
theorem c32_64'' (x : BitVec 32) : i32 x = i64 (x.setWidth 64) := by
  unfold i32 i64; rw [BitVec.toNat_setWidth]; have := x.isLt; omega
theorem c64_8 (x : BitVec 64) : IntKind.u8.wrap (i64 x) = i8 (x.setWidth 8) := by
  unfold i8 i64; rw [IntKind.wrap_u8', BitVec.toNat_setWidth]; simp
theorem c64_8' (x : BitVec 64) : i64 x % 256 = i8 (x.setWidth 8) := by rw [← c64_8, IntKind.wrap_u8']
theorem c32_8' (x : BitVec 32) : i32 x % 256 = i8 (x.setWidth 8) := by
  unfold i8 i32; rw [BitVec.toNat_setWidth]; simp
theorem i8_lt (x : BitVec 8) : 0 ≤ i8 x ∧ i8 x < 256 := by unfold i8; have := x.isLt; omega
theorem i32_lt (x : BitVec 32) : 0 ≤ i32 x ∧ i32 x < 4294967296 := by unfold i32; have := x.isLt; omega
theorem i64_lt (x : BitVec 64) : 0 ≤ i64 x ∧ i64 x < 18446744073709551616 := by unfold i64; have := x.isLt; omega

/-- turned to the left -/
def rl32 (s : Nat) (x : BitVec 32) : BitVec 32 := x <<< s ||| x >>> (32 - s)
def rl64 (s : Nat) (x : BitVec 64) : BitVec 64 := x <<< s ||| x >>> (64 - s)
end Go.Proofs.Ytabhdkjepbkooaa

/- hashes: words in arrays. -/
set_option linter.unusedVariables false
set_option linter.unusedSimpArgs false
namespace Go.Proofs.Ytabhdkjepbkooaa
open Go.RowKit

section
variable {P : Program} {w : World} {ops : Array Oper} {rest : List Oper} {o : Oper} {a : Act} {Q : Exit → Act → World → Prop}
/-- a whole array is read -/
theorem wlv_load (hgd : o.guard = none) (ty n e : Nat) (hu : P.underlying ty = some (.array n e)) (hi : (P.info? ty).map (·.size) = some n) (x : Operand) (ho : o.op = .load ty x) (g : Nat) (hx : a.eval x = .pointer (some ⟨g, 0, none⟩)) (t : TypeId) (vs : List Value) (hr : RowV t w g vs) (hl : vs.length = n)
    (h : wpList P ops Q rest (a.put o.dst (.agg vs.toArray)) w) : wpList P ops Q (o :: rest) a w :=
  wpList_load_row hgd ty x ho g hx t vs.toArray (0, 0) _ hr hu rfl (by rw [hi, ← hl]; simp) h
/-- a whole array is written -/
theorem wlv_store (hgd : o.guard = none) (ty n : Nat) (hi : (P.info? ty).map (·.size) = some n) (x y : Operand) (ho : o.op = .store ty x y) (g : Nat) (vs' : List Value) (hx : a.eval x = .pointer (some ⟨g, 0, none⟩)) (hy : a.eval y = .agg vs'.toArray) (t : TypeId) (vs : List Value) (hr : RowV t w g vs) (hl : vs.length = n) (hl' : vs'.length = n) (h1 : Ones vs')
    (h : ∀ w', RowV t w' g vs' → (∀ B W, Below B W w → B ≤ g → Below B W w') → w'.heap.size = w.heap.size → wpList P ops Q rest (a.put o.dst undef) w') : wpList P ops Q (o :: rest) a w := by
  refine wpList_store_row hgd ty x y ho g vs'.toArray hx hy t vs.toArray hr (by rw [hi, ← hl']; simp) (by simp; omega) (by simp; exact fun v hv => h1 v hv) ?_
  refine h _ ?_ ?_ ?_
  · have := setRow_heap w g _ vs'.toArray t _ hr
    exact this
  · intro B W hb hB
    exact below_setRow hb hB _
  · simp [World.setRow]
theorem results_rowV {fn : Func} {p : Tmp} {ty n e : Nat} (h : fn.results = #[.cell p ty]) (tmps : Array Value) (g : Nat) (t : TypeId) (vs : List Value) (hp : tmps.getD p undef = .pointer (some ⟨g, 0, none⟩)) (hr : RowV t w g vs)
    (hu : P.underlying ty = some (.array n e)) (hi : (P.info? ty).map (·.size) = some n) (hl : vs.length = n) : (results fn tmps).run P w = .ok (.agg vs.toArray) w :=
  results_cell_row h tmps w g t vs.toArray (0, 0) _ hp hr hu rfl (by rw [hi, ← hl]; simp)
/-- 'a[i]', a an array by value -/
theorem run_indexV (ty n e : Nat) (hu : P.underlying ty = some (.array n e)) (he : (P.info? e).map (·.size) = some 1) (hp : ∀ cs i, (part e cs i).run P w = (match cs[i]? with | some v => .ok v w | none => (part e cs i).run P w)) (vs : List Value) (hl : vs.length = n) (k : Nat) (v : Value) (hk : vs[k]? = some v) :
    (Instr.index ty (.agg vs.toArray) (.int .i64 (k : Int))).run P w = .ok v w := by
  have hkn : k < n := by rw [← hl]; exact (List.getElem?_eq_some_iff.1 hk).1
  have h0 : (0 : Int) ≤ k := by omega
  have h1 : ¬ n ≤ k := by omega
  cases hq : P.info? e with
  | none => simp [hq] at he
  | some i =>
    have hs : i.size = 1 := by simpa [hq] using he
    have := hp vs.toArray k
    simp [hk] at this
    simp [Instr.index, run_underlying hu, asIntOf, h0, h1, sizeOf, typeInfo, hq, hs, this]
end
theorem ones32 (xs : List (BitVec 32)) : Ones (xs.map W32) := fun v hv => by obtain ⟨_, _, rfl⟩ := List.mem_map.1 hv; rfl
theorem ones64 (xs : List (BitVec 64)) : Ones (xs.map W64) := fun v hv => by obtain ⟨_, _, rfl⟩ := List.mem_map.1 hv; rfl
theorem ones8 (xs : List (BitVec 8)) : Ones (xs.map W8) := fun v hv => by obtain ⟨_, _, rfl⟩ := List.mem_map.1 hv; rfl

theorem fill_set {α : Type} (ys : List α) (z : α) (k : Nat) (y : α) (hy : ys[k]? = some y) : (ys.take k ++ List.replicate (ys.length - k) z).set k y = ys.take (k + 1) ++ List.replicate (ys.length - (k + 1)) z := by
  have hk : k < ys.length := (List.getElem?_eq_some_iff.1 hy).1
  have h1 : (ys.take k).length = k := by rw [List.length_take]; omega
  rw [List.set_append_right _ _ (by omega), h1, Nat.sub_self, show ys.length - k = (ys.length - (k + 1)) + 1 by omega, List.replicate_succ, List.set_cons_zero, List.take_add_one, hy]
  simp
theorem fill_get {α : Type} (ys : List α) (z : α) (k : Nat) (h : k < ys.length) : (ys.take k ++ List.replicate (ys.length - k) z)[k]? = some z := by
  have h1 : (ys.take k).length = k := by rw [List.length_take]; omega
  rw [List.getElem?_append_right (by omega), h1, Nat.sub_self, List.getElem?_replicate, if_pos (by omega)]
theorem fill_zero {α : Type} (ys : List α) (z : α) : ys.take 0 ++ List.replicate (ys.length - 0) z = List.replicate ys.length z := by simp
theorem fill_all {α : Type} (ys : List α) (z : α) (k : Nat) (h : k = ys.length) : ys.take k ++ List.replicate (ys.length - k) z = ys := by subst h; simp
/-- a new row -/
theorem newV (w : World) (t : TypeId) (vs : List Value) (arr : Array Value) (he : vs.toArray = arr) : ∃ W, w.alloc (.cells arr t) = W ∧ RowV t W w.heap.size vs ∧ Below w.heap.size w W ∧ W.heap.size = w.heap.size + 1 := by
  subst he
  exact ⟨_, rfl, RowV.new w t vs, (Below.refl _ w).alloc (Nat.le_refl _) _, by simp⟩
theorem below_setV {B : Nat} {a w : World} (h : Below B a w) {g : Nat} (hg : B ≤ g) (i : Nat) (v : Value) : Below B a (w.setCell ⟨g, i, none⟩ v) := h.setCell (p := ⟨g, i, none⟩) hg v

def lowL (xs : List (BitVec 64)) : List (BitVec 32) := xs.map (fun x => x.setWidth 32)

end Go.Proofs.Ytabhdkjepbkooaa

/- Slices of bytes: Clone, Grow, Concat (what the hash texts have, without the hashes). -/
set_option linter.unusedVariables false
set_option linter.unusedSimpArgs false
namespace Go.Proofs.Ytabhdkjepbkooaa
open Go.RowKit

theorem Try.elem8 : Elem Try.prog 22 5 (.int .u8 0) 1 := ⟨Try.underlying22, by kernel_rfl, rfl, rfl, by decide⟩

theorem clone_nil (w : World) : Calls Try.prog 32 #[.slice none 0 0] w fun e w' => e = .returned (.slice none 0 0) ∧ w = w' := by
  have q22 : ∀ (w : World) (a : Option Addr) (n c n' c' : Nat), (binOp .eql 22 (.slice a n c) (.slice none n' c')).run Try.prog w = .ok (.bool a.isNone) w := fun w a n c n' c' => Lib.run_eql_slice_nil w _ _ a n c n' c' Try.underlying22
  go_enter Try.func32, Try.ntmps32
  go_wp2
  go_ret
  exact ⟨rfl, rfl⟩
theorem own_empty (w : World) (e : TypeId) : (w.alloc (.cells #[] e (0, 0))).ownsRow w.heap.size e 1 (.slice (some ⟨w.heap.size, 0, none⟩) 0 0) 0 [] :=
  ⟨rfl, .inr ⟨w.heap.size, 0, #[], rfl, Nat.le_refl _, heap_alloc_new w _, Nat.le_refl _, by decide, rfl, rfl⟩⟩
set_option maxRecDepth 100000 in
set_option maxHeartbeats 1000000 in
theorem clone_any (w : World) (B : Nat) (p : Addr) (n c : Nat) (bs : List (BitVec 8)) (hs : SlV w B (some p) n c (bs.map W8)) (hB : B ≤ w.heap.size) (hn : n ≤ 17592186044416) :
    Calls Try.prog 32 #[.slice (some p) n c] w fun e w' => ∃ v, e = .returned v ∧ w'.ownsRow w.heap.size 5 1 v n (bs.map W8) ∧ Below w.heap.size w w' := by
  obtain ⟨W1, e1, r1, b1, z1⟩ := newV w 5 [] #[] rfl
  have ho := own_empty w 5
  rw [e1] at ho
  have hs1 := hs.below (b1.mono hB)
  obtain ⟨g, hg⟩ : ∃ g, w.heap.size = g := ⟨_, rfl⟩
  rw [hg] at ho b1 hB
  have hgz : g ≤ W1.heap.size := by omega
  have HG := Lib.hid hg
  have HB := Lib.hid b1
  clear hs r1 b1
  have q22 : ∀ (w : World) (a : Option Addr) (n c n' c' : Nat), (binOp .eql 22 (.slice a n c) (.slice none n' c')).run Try.prog w = .ok (.bool a.isNone) w := fun w a n c n' c' => Lib.run_eql_slice_nil w _ _ a n c n' c' Try.underlying22
  go_enter Try.func32, Try.ntmps32
  go_wp2_with (at_builtin; refine wlv_append Try.elem8 rfl _ _ rfl g _ 0 [] rfl ho (some p) n c (bs.map W8) rfl (by intro h; cases h) B hs1 (ones8 bs) (by omega) hgz ?_; intro v' w2 hown hgr)
  go_ret
  refine ⟨v', rfl, ?_, by rw [HG.out]; exact HB.out.grown hgr hgz (fun k hk => by injection hk with hk; first | omega | exact Nat.le_of_eq hk | exact Nat.le_of_eq hk.symm)⟩
  rw [HG.out]
  simpa using hown

/-- an own slice's head, of no elements -/
theorem own_head {w : World} {base : Nat} {e : TypeId} {v : Value} {n : Nat} {vs : List Value} (h : w.ownsRow base e 1 v n vs) (hn : 0 < n) :
    ∃ g cap, v = .slice (some ⟨g, 0, none⟩) n cap ∧ n ≤ cap ∧ cap ≤ 9223372036854775807 ∧ w.ownsRow base e 1 (.slice (some ⟨g, 0, none⟩) 0 cap) 0 [] := by
  rcases h.2 with ⟨_, h0⟩ | ⟨g, cap, cur, rfl, hbase, hh, hnc, hcm, hcs, _⟩
  · omega
  · exact ⟨g, cap, rfl, hnc, by simpa [maxLen] using hcm, ⟨rfl, .inr ⟨g, cap, cur, rfl, hbase, hh, Nat.zero_le _, hcm, hcs, by simp⟩⟩⟩
def catL (xs ys : List (BitVec 8)) : Nat → List (BitVec 8)
  | 0 => []
  | 1 => xs
  | _ => xs ++ ys
def lenK (n1 n : Nat) : Nat → Nat
  | 0 => 0
  | 1 => n1
  | _ => n
/-- what Clone hands out -/
theorem clone_all (w : World) (B : Nat) (A : Option Addr) (n c : Nat) (bs : List (BitVec 8)) (hs : SlV w B A n c (bs.map W8)) (hz : A = none → c = 0) (hB : B ≤ w.heap.size) (hn : n ≤ 17592186044416) :
    Calls Try.prog 32 #[.slice A n c] w fun e w' => ∃ v, e = .returned v ∧ w'.ownsRow w.heap.size 5 1 v n (bs.map W8) ∧ Below w.heap.size w w' := by
  cases A with
  | some p => exact clone_any w B p n c bs hs hB hn
  | none =>
    obtain rfl := hz rfl
    obtain rfl : n = 0 := by have := hs.cap; omega
    have hl := hs.len
    obtain rfl : bs = [] := List.eq_nil_of_length_eq_zero (by simpa using hl.symm)
    refine (clone_nil w).mono ?_
    rintro e w' ⟨rfl, rfl⟩
    exact ⟨_, rfl, ⟨rfl, .inl ⟨rfl, rfl⟩⟩, Below.refl _ _⟩
theorem own_keep {w w' : World} {base : Nat} {e : TypeId} {v : Value} {n : Nat} {vs : List Value} (h : w.ownsRow base e 1 v n vs) (hk : ∀ q, v.ownBlock = some q → w'.heap[q]? = w.heap[q]?) : w'.ownsRow base e 1 v n vs :=
  ⟨h.1, h.2.imp id (fun ⟨g, cap, cur, hv, hb, hh, r⟩ => ⟨g, cap, cur, hv, hb, (hk g (by rw [hv]; rfl)).trans hh, r⟩)⟩
theorem SlV.of_own' {w : World} {base : Nat} {e : TypeId} {v : Value} {n : Nat} {vs : List Value} (h : w.ownsRow base e 1 v n vs) :
    ∃ A c, v = .slice A n c ∧ SlV w w.heap.size A n c vs ∧ (∀ b off s, A = some ⟨b, off, s⟩ → base ≤ b) ∧ (A = none → c = 0) := by
  obtain ⟨A, c, rfl, h1, h2, _⟩ := SlV.of_own h
  refine ⟨A, c, rfl, h1, h2, fun e => ?_⟩
  subst e
  rcases h.2 with ⟨e, _⟩ | ⟨g, cap, cur, e, _⟩
  · cases e; rfl
  · cases e
theorem own_form {w : World} {base : Nat} {e : TypeId} {v : Value} {n : Nat} {xs : List Value} (h : w.ownsRow base e 1 v n xs) : ∃ A c, v = .slice A n c := by
  rcases h.2 with ⟨rfl, rfl⟩ | ⟨g, cap, cur, rfl, _⟩
  · exact ⟨none, 0, rfl⟩
  · exact ⟨_, _, rfl⟩
theorem own_form0 {w : World} {base : Nat} {e : TypeId} {v : Value} {n : Nat} {xs : List Value} (h : w.ownsRow base e 1 v n xs) (hn : 0 < n) : ∃ g c, v = .slice (some ⟨g, 0, none⟩) n c ∧ base ≤ g ∧ SlV w w.heap.size (some ⟨g, 0, none⟩) n c xs := by
  obtain ⟨A, c, rfl, h1, h2, h3⟩ := SlV.of_own h
  rcases h.2 with ⟨e, h4⟩ | ⟨g, cap, cur, e, h4, _⟩
  · omega
  · injection e with e1 e2 e3
    subst e1
    exact ⟨g, c, rfl, h4, h1⟩
theorem own_base {w : World} {base b0 : Nat} {e : TypeId} {v : Value} {n : Nat} {xs : List Value} (h : w.ownsRow base e 1 v n xs) (hb : b0 ≤ base) : w.ownsRow b0 e 1 v n xs :=
  ⟨h.1, h.2.imp id (fun ⟨g, cap, cur, h1, h2, h3⟩ => ⟨g, cap, cur, h1, Nat.le_trans hb h2, h3⟩)⟩
theorem own_later {w w' : World} {base : Nat} {e : TypeId} {v : Value} {n : Nat} {vs : List Value} (h : w.ownsRow base e 1 v n vs) (hb : Below w.heap.size w w') : w'.ownsRow base e 1 v n vs := own_keep h (fun q hq => hb.block q (h.lt q hq).2)
end Go.Proofs.Ytabhdkjepbkooaa

/- Rows of arrays: make, and stores of many cells. -/
set_option linter.unusedVariables false
set_option linter.unusedSimpArgs false
namespace Go.Proofs.Ytabhdkjepbkooaa
open Go.RowKit

theorem made_cells (z : Value) (m n : Nat) (hm : 0 < m) : (madeCells (Array.replicate m z) n).toList = List.replicate n z := by
  apply List.ext_getElem?
  intro j
  by_cases hj : j < n
  · have h := Nat.mod_lt j hm
    simp [madeCells, hj, h]
  · simp [madeCells, hj]
/-- 'make([][m]T, n)' -/
theorem wlv_makeA {P : Program} {w : World} {ops : Array Oper} {rest : List Oper} {o : Oper} {a : Act} {Q : Exit → Act → World → Prop} (hg : o.guard = none) (t e : TypeId) (i : TypeInfo) (zv z : Value) (m : Nat) (ht : P.underlying t = some (.slice e)) (hi : P.info? e = some i) (hz : i.zero = some zv) (hzc : zv.cells = Array.replicate m z) (hm : 0 < m) (his : i.size = m) (hib : i.bytes ≤ 8 * m) (hmb : m ≤ 65536) (l : Operand)
    (hop : o.op = Op.makeSlice t l l) (N : Int) (n : Nat) (hl : a.eval l = .int .i64 N) (hN : N = n) (hn : n ≤ 16777216)
    (h : ∀ w', RowV e w' w.heap.size (List.replicate (n * m) z) → Below w.heap.size w w' → w'.heap.size = w.heap.size + 1 → wpList P ops Q rest (a.put o.dst (.slice (some ⟨w.heap.size, 0, none⟩) n n)) w') :
    wpList P ops Q (o :: rest) a w := by
  subst hN
  refine wpList_plain hg fun K hK => ?_
  have hb : (i.bytes : Int) * (n : Int) ≤ 281474976710656 := by
    have h1 : i.bytes * n ≤ (8 * m) * n := Nat.mul_le_mul_right _ hib
    have h2 : (8 * m) * n ≤ (8 * 65536) * 16777216 := Nat.mul_le_mul (Nat.mul_le_mul_left _ hmb) hn
    have h3 : ((i.bytes * n : Nat) : Int) ≤ 281474976710656 := by omega
    rwa [Int.natCast_mul] at h3
  have hr := run_make (P := P) w t e i zv ht hi hz .i64 .i64 n n (by omega) (by omega) hb (by omega)
  simp only [Int.toNat_natCast] at hr
  unfold Oper.wp
  simp [execOp, hop, hl, hr, Result.andThen]
  refine hK _ _ (h _ ?_ ((Below.refl _ _).alloc (Nat.le_refl _) _) (by simp))
  unfold RowV
  rw [heap_alloc_new, hzc, his]
  have e : madeCells (Array.replicate m z) (n * m) = (List.replicate (n * m) z).toArray := by
    apply Array.ext'
    rw [made_cells _ _ _ hm]
  rw [e]
theorem RowV.setMany {t : TypeId} {g : Nat} : ∀ (ys : List Value) (o : Nat) (w : World) (vs : List Value), RowV t w g vs → o + ys.length ≤ vs.length → RowV t (w.setCells g o ys) g (vs.take o ++ (ys ++ vs.drop (o + ys.length)))
  | [], o, w, vs, h, _ => by simpa [World.setCells] using h
  | y :: r, o, w, vs, h, hl => by
    rw [World.setCells]
    have hl2 : o < vs.length := by simp at hl; omega
    have h2 := RowV.setMany r (o + 1) _ _ (h.set o y) (by simp at hl ⊢; omega)
    have e : (vs.set o y).take (o + 1) ++ (r ++ (vs.set o y).drop (o + 1 + r.length)) = vs.take o ++ (y :: r ++ vs.drop (o + (y :: r).length)) := by
      rw [List.take_set, List.drop_set_of_lt (by omega), List.take_succ_eq_append_getElem hl2, List.set_append_right _ _ (by rw [List.length_take]; omega), show o - (vs.take o).length = 0 by simp; omega, List.set_cons_zero]
      simp [Nat.add_assoc, Nat.add_comm 1]
    rwa [e] at h2
theorem below_setMany {B : Nat} {g : Nat} (hg : B ≤ g) : ∀ (ys : List Value) (o : Nat) (a w : World), Below B a w → Below B a (w.setCells g o ys)
  | [], _, _, _, h => h
  | y :: r, o, a, w, h => below_setMany hg r (o + 1) a _ (below_setV h hg o y)
theorem RowV.there {t : TypeId} {w : World} {g : Nat} {vs : List Value} (h : RowV t w g vs) (o n : Nat) (hl : o + n ≤ vs.length) : w.there g o n := fun j hj =>
  ⟨by rw [h.cell, List.getElem?_eq_getElem (by omega)]; rfl, h.frozen _⟩
theorem RowV.range {t : TypeId} {w : World} {g : Nat} {vs : List Value} (h : RowV t w g vs) (o n : Nat) : w.rangeAt g o ((vs.drop o).take n) := fun j v hv => by
  rw [List.getElem?_take] at hv
  split at hv
  · rw [List.getElem?_drop] at hv; exact h.at_ hv
  · cases hv
theorem repl_start (Wh : List (BitVec 8)) (C : Nat) : List.replicate (C * 16) (W8 0) = (Wh.take (16 * 0) ++ List.replicate (16 * (C - 0)) (0 : BitVec 8)).map W8 := by
  simp [Nat.mul_comm]
end Go.Proofs.Ytabhdkjepbkooaa

/- GF(2^128), numbers alone: products commute. -/
set_option linter.unusedVariables false
set_option linter.unusedSimpArgs false
namespace Go.Proofs.Ytabhdkjepbkooaa

/-- the product with x: the most significant bit is the coefficient of the lowest power -/
def raiseV (v : BitVec 128) : BitVec 128 := (v >>> 1) ^^^ (if v.getLsbD 0 then 0xe1000000000000000000000000000000#128 else 0)
def raiseN : Nat → BitVec 128 → BitVec 128
  | 0, v => v
  | n + 1, v => raiseV (raiseN n v)
def xsum : Nat → (Nat → BitVec 128) → BitVec 128
  | 0, _ => 0
  | n + 1, g => xsum n g ^^^ g n
/-- the product -/
def timesV (e f : BitVec 128) : BitVec 128 := xsum 128 (fun i => if e.getMsbD i then raiseN i f else 0)
theorem xor4 (a b c d : BitVec 128) : (a ^^^ b) ^^^ (c ^^^ d) = (a ^^^ c) ^^^ (b ^^^ d) := by
  rw [BitVec.xor_assoc, ← BitVec.xor_assoc b c d, BitVec.xor_comm b c, BitVec.xor_assoc c b d, ← BitVec.xor_assoc]
theorem raiseV_zero : raiseV 0 = 0 := by decide
theorem raiseV_xor (a b : BitVec 128) : raiseV (a ^^^ b) = raiseV a ^^^ raiseV b := by
  unfold raiseV
  rw [BitVec.ushiftRight_xor_distrib, BitVec.getLsbD_xor, xor4]
  congr 1
  cases a.getLsbD 0 <;> cases b.getLsbD 0 <;> decide
theorem raiseN_zero : ∀ n, raiseN n 0 = 0
  | 0 => rfl
  | n + 1 => by rw [raiseN, raiseN_zero n, raiseV_zero]
theorem raiseN_xor (a b : BitVec 128) : ∀ n, raiseN n (a ^^^ b) = raiseN n a ^^^ raiseN n b
  | 0 => rfl
  | n + 1 => by rw [raiseN, raiseN_xor a b n, raiseV_xor]; rfl
theorem raiseN_add (v : BitVec 128) (j : Nat) : ∀ i, raiseN i (raiseN j v) = raiseN (i + j) v
  | 0 => by rw [Nat.zero_add]; rfl
  | i + 1 => by rw [raiseN, raiseN_add v j i, show i + 1 + j = (i + j) + 1 by omega, raiseN]
theorem raiseN_xsum (i : Nat) (g : Nat → BitVec 128) : ∀ n, raiseN i (xsum n g) = xsum n (fun j => raiseN i (g j))
  | 0 => raiseN_zero i
  | n + 1 => by rw [xsum, raiseN_xor, raiseN_xsum i g n]; rfl
theorem xsum_congr {n : Nat} {g h : Nat → BitVec 128} (e : ∀ i, i < n → g i = h i) : xsum n g = xsum n h := by
  induction n with
  | zero => rfl
  | succ n ih => rw [xsum, xsum, ih (fun i hi => e i (by omega)), e n (by omega)]
theorem xsum_zero : ∀ n, xsum n (fun _ => 0) = 0
  | 0 => rfl
  | n + 1 => by rw [xsum, xsum_zero n]; rfl
theorem xsum_xor (g h : Nat → BitVec 128) : ∀ n, xsum n (fun i => g i ^^^ h i) = xsum n g ^^^ xsum n h
  | 0 => by show (0 : BitVec 128) = 0 ^^^ 0; decide
  | n + 1 => by rw [xsum, xsum, xsum, xsum_xor g h n, xor4]
theorem xsum_swap (g : Nat → Nat → BitVec 128) (m : Nat) : ∀ n, xsum n (fun i => xsum m (fun j => g i j)) = xsum m (fun j => xsum n (fun i => g i j))
  | 0 => by
    show (0 : BitVec 128) = xsum m (fun _ => 0)
    rw [xsum_zero]
  | n + 1 => by rw [xsum, xsum_swap g m n, ← xsum_xor]; rfl
/-- the number 1 of the field -/
def oneV : BitVec 128 := 0x80000000000000000000000000000000#128
theorem oneV_bit (j k : Nat) (hj : j < 128) (hk : k < 128) : (oneV >>> j).getMsbD k = decide (k = j) := by
  have ho : oneV = BitVec.twoPow 128 127 := by decide
  rw [BitVec.getMsbD_eq_getLsbD, BitVec.getLsbD_ushiftRight, ho, BitVec.getLsbD_twoPow]
  by_cases h : k = j
  · subst h; simp; omega
  · simp [h]; omega
theorem raiseN_one : ∀ j, j < 128 → raiseN j oneV = oneV >>> j
  | 0, _ => by rw [BitVec.ushiftRight_zero]; rfl
  | j + 1, h => by
    rw [raiseN, raiseN_one j (by omega), raiseV]
    have hb : (oneV >>> j).getLsbD 0 = false := by
      have h2 := oneV_bit j 127 (by omega) (by omega)
      rw [BitVec.getMsbD_eq_getLsbD] at h2
      simp at h2
      rw [decide_eq_false (by omega)] at h2
      simpa using h2
    rw [hb, if_neg (by simp)]
    show oneV >>> j >>> 1 ^^^ 0#128 = _
    rw [BitVec.xor_zero, ← BitVec.shiftRight_add]
theorem bits_of (f : BitVec 128) (k : Nat) (hk : k < 128) : ∀ n, n ≤ 128 → (xsum n (fun j => if f.getMsbD j then oneV >>> j else 0)).getMsbD k = (decide (k < n) && f.getMsbD k)
  | 0, _ => by simp [xsum]
  | n + 1, h => by
    rw [xsum, BitVec.getMsbD_xor, bits_of f k hk n (by omega)]
    cases hf : f.getMsbD n with
    | false =>
      simp only [Bool.false_eq_true, if_false]
      rw [show (0 : BitVec 128).getMsbD k = false by simp, Bool.xor_false]
      by_cases e : k = n
      · subst e; simp [hf]
      · rw [show decide (k < n + 1) = decide (k < n) by simp; omega]
    | true =>
      rw [if_pos rfl, oneV_bit n k (by omega) hk]
      by_cases e : k = n
      · subst e; simp [hf]
      · rw [show decide (k < n + 1) = decide (k < n) by simp; omega, decide_eq_false e, Bool.xor_false]
theorem expand (f : BitVec 128) : f = xsum 128 (fun j => if f.getMsbD j then oneV >>> j else 0) := by
  apply BitVec.eq_of_getMsbD_eq
  intro k hk
  rw [bits_of f k hk 128 (Nat.le_refl _), decide_eq_true hk, Bool.true_and]
theorem timesV_two (e f : BitVec 128) : timesV e f = xsum 128 (fun i => xsum 128 (fun j => if e.getMsbD i && f.getMsbD j then raiseN (i + j) oneV else 0)) := by
  unfold timesV
  refine xsum_congr fun i hi => ?_
  cases he : e.getMsbD i with
  | false =>
    simp only [Bool.false_and, Bool.false_eq_true, if_false]
    rw [xsum_zero]
  | true =>
    simp only [Bool.true_and, if_true]
    conv => lhs; rw [expand f]
    rw [raiseN_xsum]
    refine xsum_congr fun j hj => ?_
    cases f.getMsbD j with
    | false => simp only [Bool.false_eq_true, if_false]; exact raiseN_zero i
    | true => simp only [if_true]; rw [← raiseN_one j hj, raiseN_add]
theorem timesV_comm (e f : BitVec 128) : timesV e f = timesV f e := by
  rw [timesV_two, timesV_two, xsum_swap]
  refine xsum_congr fun j _ => xsum_congr fun i _ => ?_
  rw [Bool.and_comm, Nat.add_comm]
end Go.Proofs.Ytabhdkjepbkooaa

/- AES's columns, numbers alone: mixed four times a column is what it was. -/
set_option linter.unusedVariables false
set_option linter.unusedSimpArgs false
namespace Go.Proofs.Ytabhdkjepbkooaa

/-- the product with x in GF(2^8) -/
def dblV (b : BitVec 8) : BitVec 8 := (b <<< 1) ^^^ ((b >>> 7) * 0x1b#8)
theorem dblV_xor (a b : BitVec 8) : dblV (a ^^^ b) = dblV a ^^^ dblV b := by
  revert a b
  decide +kernel
structure Col where
  v : BitVec 8
  w : BitVec 8
  x : BitVec 8
  y : BitVec 8
/-- MixColumns on a column, as the program reckons it -/
def mixV (c : Col) : Col :=
  ⟨c.v ^^^ (dblV (c.v ^^^ c.w) ^^^ (c.v ^^^ c.w ^^^ c.x ^^^ c.y)), c.w ^^^ (dblV (c.w ^^^ c.x) ^^^ (c.v ^^^ c.w ^^^ c.x ^^^ c.y)),
   c.x ^^^ (dblV (c.x ^^^ c.y) ^^^ (c.v ^^^ c.w ^^^ c.x ^^^ c.y)), c.y ^^^ (dblV (c.y ^^^ c.v) ^^^ (c.v ^^^ c.w ^^^ c.x ^^^ c.y))⟩
theorem xself (a b : BitVec 8) : a ^^^ (a ^^^ b) = b := by rw [← BitVec.xor_assoc, BitVec.xor_self, BitVec.zero_xor]
theorem xleft (a b c : BitVec 8) : a ^^^ (b ^^^ c) = b ^^^ (a ^^^ c) := by rw [← BitVec.xor_assoc, BitVec.xor_comm a b, BitVec.xor_assoc]
theorem mixV_two (v w x y : BitVec 8) : mixV (mixV ⟨v, w, x, y⟩) = ⟨v ^^^ (dblV (dblV v) ^^^ dblV (dblV x)), w ^^^ (dblV (dblV w) ^^^ dblV (dblV y)), x ^^^ (dblV (dblV x) ^^^ dblV (dblV v)), y ^^^ (dblV (dblV y) ^^^ dblV (dblV w))⟩ := by
  simp only [mixV, dblV_xor, Col.mk.injEq]
  generalize dblV (dblV v) = vv
  generalize dblV (dblV w) = ww
  generalize dblV (dblV x) = xx
  generalize dblV (dblV y) = yy
  generalize dblV v = v1
  generalize dblV w = w1
  generalize dblV x = x1
  generalize dblV y = y1
  refine ⟨?_, ?_, ?_, ?_⟩ <;> simp [BitVec.xor_assoc, BitVec.xor_comm, xleft, xself, BitVec.xor_self]
theorem mixV_four (c : Col) : mixV (mixV (mixV (mixV c))) = c := by
  obtain ⟨v, w, x, y⟩ := c
  rw [mixV_two, mixV_two]
  simp only [dblV_xor, Col.mk.injEq]
  generalize dblV (dblV (dblV (dblV v))) = v4
  generalize dblV (dblV (dblV (dblV w))) = w4
  generalize dblV (dblV (dblV (dblV x))) = x4
  generalize dblV (dblV (dblV (dblV y))) = y4
  generalize dblV (dblV v) = vv
  generalize dblV (dblV w) = ww
  generalize dblV (dblV x) = xx
  generalize dblV (dblV y) = yy
  refine ⟨?_, ?_, ?_, ?_⟩ <;> simp [BitVec.xor_assoc, BitVec.xor_comm, xleft, xself, BitVec.xor_self]
end Go.Proofs.Ytabhdkjepbkooaa

/- AES's rounds on lists, numbers alone: decrypting undoes encrypting, and the other way round. -/
set_option linter.unusedVariables false
set_option linter.unusedSimpArgs false
namespace Go.Proofs.Ytabhdkjepbkooaa

def boxL : List (BitVec 8) := [99, 124, 119, 123, 242, 107, 111, 197, 48, 1, 103, 43, 254, 215, 171, 118, 202, 130, 201, 125, 250, 89, 71, 240, 173, 212, 162, 175, 156, 164, 114, 192, 183, 253, 147, 38, 54, 63, 247, 204, 52, 165, 229, 241, 113, 216, 49, 21, 4, 199, 35, 195, 24, 150, 5, 154, 7, 18, 128, 226, 235, 39, 178, 117, 9, 131, 44, 26, 27, 110, 90, 160, 82, 59, 214, 179, 41, 227, 47, 132, 83, 209, 0, 237, 32, 252, 177, 91, 106, 203, 190, 57, 74, 76, 88, 207, 208, 239, 170, 251, 67, 77, 51, 133, 69, 249, 2, 127, 80, 60, 159, 168, 81, 163, 64, 143, 146, 157, 56, 245, 188, 182, 218, 33, 16, 255, 243, 210, 205, 12, 19, 236, 95, 151, 68, 23, 196, 167, 126, 61, 100, 93, 25, 115, 96, 129, 79, 220, 34, 42, 144, 136, 70, 238, 184, 20, 222, 94, 11, 219, 224, 50, 58, 10, 73, 6, 36, 92, 194, 211, 172, 98, 145, 149, 228, 121, 231, 200, 55, 109, 141, 213, 78, 169, 108, 86, 244, 234, 101, 122, 174, 8, 186, 120, 37, 46, 28, 166, 180, 198, 232, 221, 116, 31, 75, 189, 139, 138, 112, 62, 181, 102, 72, 3, 246, 14, 97, 53, 87, 185, 134, 193, 29, 158, 225, 248, 152, 17, 105, 217, 142, 148, 155, 30, 135, 233, 206, 85, 40, 223, 140, 161, 137, 13, 191, 230, 66, 104, 65, 153, 45, 15, 176, 84, 187, 22]
def invL : List (BitVec 8) := [82, 9, 106, 213, 48, 54, 165, 56, 191, 64, 163, 158, 129, 243, 215, 251, 124, 227, 57, 130, 155, 47, 255, 135, 52, 142, 67, 68, 196, 222, 233, 203, 84, 123, 148, 50, 166, 194, 35, 61, 238, 76, 149, 11, 66, 250, 195, 78, 8, 46, 161, 102, 40, 217, 36, 178, 118, 91, 162, 73, 109, 139, 209, 37, 114, 248, 246, 100, 134, 104, 152, 22, 212, 164, 92, 204, 93, 101, 182, 146, 108, 112, 72, 80, 253, 237, 185, 218, 94, 21, 70, 87, 167, 141, 157, 132, 144, 216, 171, 0, 140, 188, 211, 10, 247, 228, 88, 5, 184, 179, 69, 6, 208, 44, 30, 143, 202, 63, 15, 2, 193, 175, 189, 3, 1, 19, 138, 107, 58, 145, 17, 65, 79, 103, 220, 234, 151, 242, 207, 206, 240, 180, 230, 115, 150, 172, 116, 34, 231, 173, 53, 133, 226, 249, 55, 232, 28, 117, 223, 110, 71, 241, 26, 113, 29, 41, 197, 137, 111, 183, 98, 14, 170, 24, 190, 27, 252, 86, 62, 75, 198, 210, 121, 32, 154, 219, 192, 254, 120, 205, 90, 244, 31, 221, 168, 51, 136, 7, 199, 49, 177, 18, 16, 89, 39, 128, 236, 95, 96, 81, 127, 169, 25, 181, 74, 13, 45, 229, 122, 159, 147, 201, 156, 239, 160, 224, 59, 77, 174, 42, 245, 176, 200, 235, 187, 60, 131, 83, 153, 97, 23, 43, 4, 126, 186, 119, 214, 38, 225, 105, 20, 99, 85, 33, 12, 125]
def boxAt (l : List (BitVec 8)) (x : BitVec 8) : BitVec 8 := l.getD x.toNat 0
theorem box_inv : ∀ x : BitVec 8, boxAt invL (boxAt boxL x) = x := by decide +kernel
theorem inv_box : ∀ x : BitVec 8, boxAt boxL (boxAt invL x) = x := by decide +kernel
/-- a state off a function of the place -/
def st16 (f : Nat → BitVec 8) : List (BitVec 8) := (List.range 16).map f
theorem st16_length (f : Nat → BitVec 8) : (st16 f).length = 16 := by simp [st16]
theorem st16_get (f : Nat → BitVec 8) (i : Nat) (h : i < 16) : (st16 f).getD i 0 = f i := by
  rw [st16, List.getD_eq_getElem?_getD, List.getElem?_map, List.getElem?_range h]; rfl
theorem st16_of (s : List (BitVec 8)) (h : s.length = 16) : st16 (fun i => s.getD i 0) = s := by
  refine List.ext_getElem (by rw [st16_length, h]) fun i h1 h2 => ?_
  simp [st16, List.getD_eq_getElem?_getD, List.getElem?_eq_getElem h2]
theorem st16_congr {f g : Nat → BitVec 8} (h : ∀ i, i < 16 → f i = g i) : st16 f = st16 g := by
  unfold st16
  exact List.map_congr_left fun i hi => h i (List.mem_range.1 hi)
theorem replL (f : Nat → BitVec 8) : (st16 f).length = 16 := st16_length f
def addV (s k : List (BitVec 8)) : List (BitVec 8) := st16 (fun i => s.getD i 0 ^^^ k.getD i 0)
def replV (s : List (BitVec 8)) : List (BitVec 8) := st16 (fun i => boxAt boxL (s.getD (5 * i % 16) 0))
def putV (s : List (BitVec 8)) : List (BitVec 8) := st16 (fun i => boxAt invL (s.getD (13 * i % 16) 0))
def colV (s : List (BitVec 8)) (c : Nat) : Col := ⟨s.getD (4 * c) 0, s.getD (4 * c + 1) 0, s.getD (4 * c + 2) 0, s.getD (4 * c + 3) 0⟩
def Col.at_ (c : Col) (r : Nat) : BitVec 8 := if r = 0 then c.v else if r = 1 then c.w else if r = 2 then c.x else c.y
def mixS (s : List (BitVec 8)) : List (BitVec 8) := st16 (fun i => (mixV (colV s (i / 4))).at_ (i % 4))
theorem add_twice (s k : List (BitVec 8)) (h : s.length = 16) : addV (addV s k) k = s := by
  rw [← st16_of s h]
  unfold addV
  refine st16_congr fun i hi => ?_
  rw [st16_get _ i hi, st16_get _ i hi, BitVec.xor_assoc, BitVec.xor_self, BitVec.xor_zero]
theorem put_repl (s : List (BitVec 8)) (h : s.length = 16) : putV (replV s) = s := by
  conv => rhs; rw [← st16_of s h]
  unfold putV replV
  refine st16_congr fun i hi => ?_
  rw [st16_get _ _ (Nat.mod_lt _ (by decide)), box_inv, show 5 * (13 * i % 16) % 16 = i by omega]
theorem repl_put (s : List (BitVec 8)) (h : s.length = 16) : replV (putV s) = s := by
  conv => rhs; rw [← st16_of s h]
  unfold putV replV
  refine st16_congr fun i hi => ?_
  rw [st16_get _ _ (Nat.mod_lt _ (by decide)), inv_box, show 13 * (5 * i % 16) % 16 = i by omega]
theorem col_mix (s : List (BitVec 8)) (c : Nat) (hc : c < 4) : colV (mixS s) c = mixV (colV s c) := by
  rw [colV, mixS]
  rw [st16_get _ _ (by omega), st16_get _ _ (by omega), st16_get _ _ (by omega), st16_get _ _ (by omega)]
  rw [show 4 * c / 4 = c by omega, show (4 * c + 1) / 4 = c by omega, show (4 * c + 2) / 4 = c by omega, show (4 * c + 3) / 4 = c by omega, show 4 * c % 4 = 0 by omega, show (4 * c + 1) % 4 = 1 by omega, show (4 * c + 2) % 4 = 2 by omega, show (4 * c + 3) % 4 = 3 by omega]
  rfl
theorem col_at (s : List (BitVec 8)) (i : Nat) (h : i < 16) : (colV s (i / 4)).at_ (i % 4) = s.getD i 0 := by
  have hr : i % 4 = 0 ∨ i % 4 = 1 ∨ i % 4 = 2 ∨ i % 4 = 3 := by omega
  rcases hr with hr | hr | hr | hr <;> rw [hr]
  · show s.getD (4 * (i / 4)) 0 = _
    rw [show 4 * (i / 4) = i by omega]
  · show s.getD (4 * (i / 4) + 1) 0 = _
    rw [show 4 * (i / 4) + 1 = i by omega]
  · show s.getD (4 * (i / 4) + 2) 0 = _
    rw [show 4 * (i / 4) + 2 = i by omega]
  · show s.getD (4 * (i / 4) + 3) 0 = _
    rw [show 4 * (i / 4) + 3 = i by omega]
theorem mix_four (s : List (BitVec 8)) (h : s.length = 16) : mixS (mixS (mixS (mixS s))) = s := by
  conv => rhs; rw [← st16_of s h]
  rw [mixS]
  refine st16_congr fun i hi => ?_
  rw [col_mix _ _ (by omega), col_mix _ _ (by omega), col_mix _ _ (by omega), mixV_four, col_at s i hi]
/-- a round of Encrypt with its round key, and of Decrypt -/
def encR (last i : Nat) (k s : List (BitVec 8)) : List (BitVec 8) :=
  addV (if 0 < i then (if i < last then mixS (replV s) else replV s) else s) k
def decR (last i : Nat) (k s : List (BitVec 8)) : List (BitVec 8) :=
  if 0 < i then (if i < last then putV (mixS (mixS (mixS (addV s k)))) else putV (addV s k)) else addV s k
theorem addV_length (s k : List (BitVec 8)) : (addV s k).length = 16 := st16_length _
theorem mixS_length (s : List (BitVec 8)) : (mixS s).length = 16 := st16_length _
theorem replV_length (s : List (BitVec 8)) : (replV s).length = 16 := st16_length _
theorem encR_length (last i : Nat) (k s : List (BitVec 8)) : (encR last i k s).length = 16 := addV_length _ _
theorem decR_length (last i : Nat) (k s : List (BitVec 8)) : (decR last i k s).length = 16 := by
  unfold decR putV addV
  split
  · split <;> exact st16_length _
  · exact st16_length _
theorem dec_enc (last i : Nat) (k s : List (BitVec 8)) (h : s.length = 16) : decR last i k (encR last i k s) = s := by
  unfold decR encR
  by_cases h0 : 0 < i
  · rw [if_pos h0, if_pos h0]
    by_cases h1 : i < last
    · rw [if_pos h1, if_pos h1, add_twice (mixS (replV s)) k (mixS_length _), mix_four (replV s) (replV_length _), put_repl s h]
    · rw [if_neg h1, if_neg h1, add_twice (replV s) k (replV_length _), put_repl s h]
  · rw [if_neg h0, if_neg h0, add_twice s k h]
theorem enc_dec (last i : Nat) (k s : List (BitVec 8)) (h : s.length = 16) : encR last i k (decR last i k s) = s := by
  unfold decR encR
  by_cases h0 : 0 < i
  · rw [if_pos h0, if_pos h0]
    by_cases h1 : i < last
    · rw [if_pos h1, if_pos h1, repl_put (mixS (mixS (mixS (addV s k)))) (mixS_length _), mix_four (addV s k) (addV_length _ _), add_twice s k h]
    · rw [if_neg h1, if_neg h1, repl_put (addV s k) (addV_length _ _), add_twice s k h]
  · rw [if_neg h0, if_neg h0, add_twice s k h]
/-- the rounds from i on, with their keys -/
def encL (last : Nat) : Nat → List (List (BitVec 8)) → List (BitVec 8) → List (BitVec 8)
  | _, [], s => s
  | i, k :: ks, s => encL last (i + 1) ks (encR last i k s)
def decL (last : Nat) : Nat → List (List (BitVec 8)) → List (BitVec 8) → List (BitVec 8)
  | _, [], s => s
  | i, k :: ks, s => decR last i k (decL last (i + 1) ks s)
theorem decL_length (last : Nat) : ∀ (ks : List (List (BitVec 8))) (i : Nat) (s : List (BitVec 8)), s.length = 16 → (decL last i ks s).length = 16
  | [], _, _, h => h
  | k :: ks, i, s, h => decR_length _ _ _ _
theorem decL_encL (last : Nat) : ∀ (ks : List (List (BitVec 8))) (i : Nat) (s : List (BitVec 8)), s.length = 16 → decL last i ks (encL last i ks s) = s
  | [], _, _, _ => rfl
  | k :: ks, i, s, h => by
    rw [encL, decL, decL_encL last ks (i + 1) _ (encR_length _ _ _ _), dec_enc last i k s h]
theorem encL_decL (last : Nat) : ∀ (ks : List (List (BitVec 8))) (i : Nat) (s : List (BitVec 8)), s.length = 16 → encL last i ks (decL last i ks s) = s
  | [], _, _, _ => rfl
  | k :: ks, i, s, h => by
    rw [decL, encL, enc_dec last i k _ (decL_length last ks (i + 1) s h), encL_decL last ks (i + 1) s h]
end Go.Proofs.Ytabhdkjepbkooaa

/- GHASH's blocks as bit vectors, numbers alone. -/
set_option linter.unusedVariables false
set_option linter.unusedSimpArgs false
namespace Go.Proofs.Ytabhdkjepbkooaa

/-- the bytes as one number, the first one the greatest -/
def foldQ (bs : List (BitVec 8)) : BitVec 64 := bs.foldl (fun w b => w <<< 8 ||| b.setWidth 64) 0
theorem foldQ_bit (bs : List (BitVec 8)) : ∀ i, i < 64 → (foldQ bs).getLsbD i = (bs.reverse.getD (i / 8) 0).getLsbD (i % 8) := by
  unfold foldQ
  rw [← List.foldr_reverse]
  generalize bs.reverse = l
  induction l with
  | nil => intro i hi; simp
  | cons b l ih =>
    intro i hi
    rw [List.foldr_cons, BitVec.getLsbD_or, BitVec.getLsbD_shiftLeft, BitVec.getLsbD_setWidth]
    by_cases h : i < 8
    · rw [show i / 8 = 0 by omega, show i % 8 = i by omega]
      simp [h, hi]
    · obtain ⟨j, rfl⟩ : ∃ j, i = j + 8 := ⟨i - 8, by omega⟩
      rw [show (j + 8) / 8 = j / 8 + 1 by omega, show (j + 8) % 8 = j % 8 by omega, List.getD_cons_succ, ← ih j (by omega)]
      simp [h, hi]
/-- a block as an element: missing bytes are 0 -/
def elV (bs : List (BitVec 8)) : BitVec 128 := foldQ ((List.range 8).map (fun i => bs.getD i 0)) ++ foldQ ((List.range 8).map (fun i => bs.getD (8 + i) 0))
theorem range8_rev (f : Nat → BitVec 8) (k : Nat) (h : k < 8) : ((List.range 8).map f).reverse.getD k 0 = f (7 - k) := by
  have hk : k = 0 ∨ k = 1 ∨ k = 2 ∨ k = 3 ∨ k = 4 ∨ k = 5 ∨ k = 6 ∨ k = 7 := by omega
  rcases hk with rfl | rfl | rfl | rfl | rfl | rfl | rfl | rfl <;> rfl
theorem elV_bit (bs : List (BitVec 8)) (i : Nat) (hi : i < 128) : (elV bs).getLsbD i = (bs.getD (15 - i / 8) 0).getLsbD (i % 8) := by
  unfold elV
  rw [BitVec.getLsbD_append]
  by_cases h : i < 64
  · rw [if_pos h, foldQ_bit _ i h, range8_rev _ _ (by omega), show 8 + (7 - i / 8) = 15 - i / 8 by omega]
  · rw [if_neg h, foldQ_bit _ (i - 64) (by omega), range8_rev _ _ (by omega), show 7 - (i - 64) / 8 = 15 - i / 8 by omega, show (i - 64) % 8 = i % 8 by omega]
/-- the block of an element -/
def byV (v : BitVec 128) : List (BitVec 8) := st16 (fun k => (v >>> (120 - 8 * k)).setWidth 8)
theorem byV_bit (v : BitVec 128) (k j : Nat) (hk : k < 16) (hj : j < 8) : ((byV v).getD k 0).getLsbD j = v.getLsbD (120 - 8 * k + j) := by
  unfold byV
  rw [st16_get _ k hk, BitVec.getLsbD_setWidth, BitVec.getLsbD_ushiftRight]
  simp [hj]
theorem byV_length (v : BitVec 128) : (byV v).length = 16 := st16_length _
theorem elV_byV (v : BitVec 128) : elV (byV v) = v := by
  apply BitVec.eq_of_getLsbD_eq
  intro i hi
  rw [elV_bit _ i hi, byV_bit _ _ _ (by omega) (by omega), show 120 - 8 * (15 - i / 8) + i % 8 = i by omega]
theorem byte_ext {a b : BitVec 8} (h : ∀ j, j < 8 → a.getLsbD j = b.getLsbD j) : a = b := BitVec.eq_of_getLsbD_eq h
theorem byV_elV (bs : List (BitVec 8)) (h : bs.length = 16) : byV (elV bs) = bs := by
  rw [← st16_of bs h]
  conv => lhs; unfold byV
  refine st16_congr fun k hk => byte_ext fun j hj => ?_
  rw [BitVec.getLsbD_setWidth, BitVec.getLsbD_ushiftRight, elV_bit _ _ (by omega), show 15 - (120 - 8 * k + j) / 8 = k by omega, show (120 - 8 * k + j) % 8 = j by omega, st16_get _ k hk]
  simp [hj]
theorem byV_inj {u v : BitVec 128} (h : byV u = byV v) : u = v := by rw [← elV_byV u, h, elV_byV]
theorem byV_xor (u v : BitVec 128) : byV (u ^^^ v) = addV (byV u) (byV v) := by
  unfold addV
  conv => lhs; unfold byV
  refine st16_congr fun k hk => byte_ext fun j hj => ?_
  rw [BitVec.getLsbD_xor, byV_bit _ k j hk hj, byV_bit _ k j hk hj, BitVec.getLsbD_setWidth, BitVec.getLsbD_ushiftRight, BitVec.getLsbD_xor]
  simp [hj]
theorem elV_xor (a b : List (BitVec 8)) (ha : a.length = 16) (hb : b.length = 16) : elV (addV a b) = elV a ^^^ elV b := by
  apply byV_inj
  rw [byV_xor, byV_elV a ha, byV_elV b hb, byV_elV _ (addV_length _ _)]
/-- the program's halves -/
theorem byV_halves (hi lo : BitVec 64) : byV (hi ++ lo) = (List.range 8).map (fun k => (hi >>> (56 - 8 * k)).setWidth 8) ++ (List.range 8).map (fun k => (lo >>> (56 - 8 * k)).setWidth 8) := by
  have e : (List.range 8).map (fun k => (hi >>> (56 - 8 * k)).setWidth 8) ++ (List.range 8).map (fun k => (lo >>> (56 - 8 * k)).setWidth 8) = st16 (fun k => if k < 8 then (hi >>> (56 - 8 * k)).setWidth 8 else (lo >>> (56 - 8 * (k - 8))).setWidth 8) := rfl
  rw [e]
  unfold byV
  refine st16_congr fun k hk => byte_ext fun j hj => ?_
  rw [BitVec.getLsbD_setWidth, BitVec.getLsbD_ushiftRight, BitVec.getLsbD_append]
  by_cases h : k < 8
  · rw [if_pos h, if_neg (by omega), BitVec.getLsbD_setWidth, BitVec.getLsbD_ushiftRight, show 120 - 8 * k + j - 64 = 56 - 8 * k + j by omega]
  · rw [if_neg h, if_pos (by omega), BitVec.getLsbD_setWidth, BitVec.getLsbD_ushiftRight, show 120 - 8 * k + j = 56 - 8 * (k - 8) + j by omega]
theorem raise_halves (hi lo : BitVec 64) : raiseV (hi ++ lo) = (hi >>> 1 ^^^ ((lo &&& 1) * 0xe1) <<< 56) ++ (hi <<< 63 ||| lo >>> 1) := by
  have hand : lo &&& 1 = if lo.getLsbD 0 then 1 else 0 := by
    apply BitVec.eq_of_getLsbD_eq
    intro i hi
    rw [BitVec.getLsbD_and]
    by_cases h : i = 0
    · subst h; cases lo.getLsbD 0 <;> simp
    · cases lo.getLsbD 0 <;> simp [h, BitVec.getLsbD_one]
  have hsh : (hi ++ lo) >>> 1 = (hi >>> 1) ++ (hi <<< 63 ||| lo >>> 1) := by
    apply BitVec.eq_of_getLsbD_eq
    intro i hi2
    rw [BitVec.getLsbD_ushiftRight, BitVec.getLsbD_append, BitVec.getLsbD_append, BitVec.getLsbD_or, BitVec.getLsbD_shiftLeft, BitVec.getLsbD_ushiftRight, BitVec.getLsbD_ushiftRight]
    by_cases h : i < 63
    · rw [if_pos (by omega), if_pos (by omega)]; simp [h]
    · by_cases h2 : i = 63
      · subst h2
        simp
      · rw [if_neg (by omega), if_neg (by omega), show 1 + i - 64 = 1 + (i - 64) by omega]
  have h0 : (hi ++ lo).getLsbD 0 = lo.getLsbD 0 := by rw [BitVec.getLsbD_append]; simp
  have hx : ∀ a b c d : BitVec 64, (a ^^^ b) ++ (c ^^^ d) = (a ++ c) ^^^ (b ++ d) := fun a b c d => by
    apply BitVec.eq_of_getLsbD_eq
    intro i hi
    rw [BitVec.getLsbD_xor, BitVec.getLsbD_append, BitVec.getLsbD_append, BitVec.getLsbD_append]
    split <;> rw [BitVec.getLsbD_xor]
  unfold raiseV
  rw [h0, hsh, hand]
  have := hx (hi >>> 1) (((if lo.getLsbD 0 = true then (1 : BitVec 64) else 0) * 0xe1) <<< 56) (hi <<< 63 ||| lo >>> 1) 0#64
  rw [BitVec.xor_zero] at this
  rw [this]
  congr 1
  cases lo.getLsbD 0 <;> decide
/-- the reference's shift by bytes -/
def shrL (s : List (BitVec 8)) : List (BitVec 8) := st16 (fun k => (s.getD k 0) >>> 1 ^^^ (if 0 < k ∧ (s.getD (k - 1) 0).getLsbD 0 then 0x80 else 0) ^^^ (if k = 0 ∧ (s.getD 15 0).getLsbD 0 then 0xe1 else 0))
theorem shrL_byV (v : BitVec 128) : shrL (byV v) = byV (raiseV v) := by
  unfold shrL
  conv => rhs; unfold byV
  refine st16_congr fun k hk => byte_ext fun j hj => ?_
  have hl : ((byV v).getD 15 0).getLsbD 0 = v.getLsbD 0 := byV_bit v 15 0 (by decide) (by decide)
  rw [BitVec.getLsbD_xor, BitVec.getLsbD_xor, BitVec.getLsbD_ushiftRight, BitVec.getLsbD_setWidth, BitVec.getLsbD_ushiftRight, hl]
  unfold raiseV
  rw [BitVec.getLsbD_xor, BitVec.getLsbD_ushiftRight]
  have hE : ∀ i, i < 128 → (0xe1000000000000000000000000000000#128).getLsbD i = (decide (120 ≤ i) && (0xe1#8).getLsbD (i - 120)) := by decide +kernel
  have h80 : ∀ j, j < 8 → (0x80#8).getLsbD j = decide (j = 7) := by decide
  by_cases hj7 : j = 7
  · subst hj7
    rw [show ((byV v).getD k 0).getLsbD (1 + 7) = false from BitVec.getLsbD_of_ge _ _ (by decide)]
    by_cases h0 : k = 0
    · subst h0
      rw [if_neg (by simp), show v.getLsbD (1 + (120 - 8 * 0 + 7)) = false from BitVec.getLsbD_of_ge _ _ (by decide)]
      cases v.getLsbD 0 <;> simp
    · have hp : ((byV v).getD (k - 1) 0).getLsbD 0 = v.getLsbD (1 + (120 - 8 * k + 7)) := by
        rw [byV_bit _ _ _ (by omega) (by omega)]; congr 1; omega
      rw [hp, if_neg (show ¬ (k = 0 ∧ _) by intro h; exact h0 h.1)]
      have hz : (if v.getLsbD 0 = true then 0xe1000000000000000000000000000000#128 else 0).getLsbD (120 - 8 * k + 7) = false := by
        cases v.getLsbD 0
        · simp
        · rw [if_pos rfl, hE _ (by omega), decide_eq_false (by omega), Bool.false_and]
      rw [hz]
      have hk0 : 0 < k := by omega
      cases v.getLsbD (1 + (120 - 8 * k + 7)) <;> simp [h0, hk0]
  · rw [byV_bit _ _ _ hk (by omega), show 120 - 8 * k + (1 + j) = 1 + (120 - 8 * k + j) by omega]
    have h8 : (if 0 < k ∧ ((byV v).getD (k - 1) 0).getLsbD 0 = true then (0x80 : BitVec 8) else 0).getLsbD j = false := by
      split
      · rw [show (0x80 : BitVec 8) = 0x80#8 from rfl, h80 j hj, decide_eq_false hj7]
      · simp
    rw [h8, Bool.xor_false]
    have hz : (if v.getLsbD 0 = true then 0xe1000000000000000000000000000000#128 else 0).getLsbD (120 - 8 * k + j) = (if k = 0 ∧ v.getLsbD 0 = true then (0xe1 : BitVec 8) else 0).getLsbD j := by
      cases v.getLsbD 0
      · simp
      · rw [if_pos rfl, hE _ (by omega)]
        by_cases h0 : k = 0
        · subst h0
          rw [decide_eq_true (by omega), show 120 - 8 * 0 + j - 120 = j by omega]; simp
        · rw [decide_eq_false (by omega)]; simp [h0]
    rw [hz]
    simp [hj]
end Go.Proofs.Ytabhdkjepbkooaa

/- Products of blocks and round keys, numbers alone. -/
set_option linter.unusedVariables false
set_option linter.unusedSimpArgs false
namespace Go.Proofs.Ytabhdkjepbkooaa

/-- the first n terms of a product -/
def partV (e f : BitVec 128) (n : Nat) : BitVec 128 := xsum n (fun i => if e.getMsbD i then raiseN i f else 0)
theorem partV_zero (e f : BitVec 128) : partV e f 0 = 0 := rfl
theorem partV_succ (e f : BitVec 128) (n : Nat) : partV e f (n + 1) = if e.getMsbD n then partV e f n ^^^ raiseN n f else partV e f n := by
  show partV e f n ^^^ (if e.getMsbD n then raiseN n f else 0) = _
  cases e.getMsbD n
  · rw [if_neg (by simp), if_neg (by simp)]; exact BitVec.xor_zero
  · rfl
theorem partV_all (e f : BitVec 128) : partV e f 128 = timesV e f := rfl
theorem top_bit (w : BitVec 64) (i : Nat) (hi : i < 64) : (w <<< i) >>> 63 = if w.getMsbD i then 1 else 0 := by
  apply BitVec.eq_of_getLsbD_eq
  intro k hk
  rw [BitVec.getLsbD_ushiftRight, BitVec.getLsbD_shiftLeft, BitVec.getMsbD_eq_getLsbD]
  by_cases h : k = 0
  · subst h
    rw [show 63 + 0 - i = 64 - 1 - i by omega]
    cases hb : w.getLsbD (64 - 1 - i) <;> simp [hi] <;> omega
  · cases hb : decide (i < 64) && w.getLsbD (64 - 1 - i)
    · simp; omega
    · simp [h, BitVec.getLsbD_one]; omega
theorem elV_msb (bs : List (BitVec 8)) (i : Nat) (hi : i < 128) : (elV bs).getMsbD i = (bs.getD (i / 8) 0).getLsbD (7 - i % 8) := by
  rw [BitVec.getMsbD_eq_getLsbD, decide_eq_true hi, Bool.true_and, elV_bit _ _ (by omega), show 15 - (128 - 1 - i) / 8 = i / 8 by omega, show (128 - 1 - i) % 8 = 7 - i % 8 by omega]

/-- the word that is added to the one a key's length ahead -/
def subW (n : Nat) (ws : List (BitVec 8)) (mark : BitVec 8) (j : Nat) : BitVec 8 :=
  let x := fun k => ws.getD (ws.length - 4 + k) 0
  if ws.length % n = 0 then boxAt boxL (x ((j + 1) % 4)) ^^^ (if j = 0 then mark else 0)
  else if ws.length % n = 16 ∧ n = 32 then boxAt boxL (x j) else x j
/-- a word more -/
def expS (n : Nat) (p : List (BitVec 8) × BitVec 8) : List (BitVec 8) × BitVec 8 :=
  (p.1 ++ (List.range 4).map (fun j => subW n p.1 p.2 j ^^^ p.1.getD (p.1.length - n + j) 0), if p.1.length % n = 0 then dblV p.2 else p.2)
def expN (n : Nat) (p : List (BitVec 8) × BitVec 8) : Nat → List (BitVec 8) × BitVec 8
  | 0 => p
  | k + 1 => expS n (expN n p k)
theorem expN_length (n : Nat) (p : List (BitVec 8) × BitVec 8) : ∀ k, (expN n p k).1.length = p.1.length + 4 * k
  | 0 => rfl
  | k + 1 => by rw [expN, expS, List.length_append, expN_length n p k]; simp; omega
/-- the number of round keys -/
def cntL (n : Nat) : Nat := n / 4 + 7
/-- all of them, one behind the other -/
def wholeL (key : List (BitVec 8)) : List (BitVec 8) := (expN key.length (key, 1) (4 * cntL key.length - key.length / 4)).1
def keysL (key : List (BitVec 8)) : List (List (BitVec 8)) := (List.range (cntL key.length)).map (fun i => ((wholeL key).drop (16 * i)).take 16)
theorem wholeL_length (key : List (BitVec 8)) (h : key.length = 16 ∨ key.length = 24 ∨ key.length = 32) : (wholeL key).length = 16 * cntL key.length := by
  unfold wholeL
  rw [expN_length]
  unfold cntL
  rcases h with h | h | h <;> rw [h]
theorem keysL_length (key : List (BitVec 8)) : (keysL key).length = cntL key.length := by simp [keysL]
theorem keysL_get (key : List (BitVec 8)) (i : Nat) (hi : i < cntL key.length) : (keysL key)[i]? = some (((wholeL key).drop (16 * i)).take 16) := by
  simp [keysL, hi]
/-- the cipher of a key -/
def encA (key b : List (BitVec 8)) : List (BitVec 8) := encL (cntL key.length - 1) 0 (keysL key) b
def decA (key b : List (BitVec 8)) : List (BitVec 8) := decL (cntL key.length - 1) 0 (keysL key) b
theorem encL_length (last : Nat) : ∀ (ks : List (List (BitVec 8))) (i : Nat) (s : List (BitVec 8)), s.length = 16 → (encL last i ks s).length = 16
  | [], _, _, h => h
  | k :: ks, i, s, h => encL_length last ks (i + 1) _ (encR_length _ _ _ _)
theorem encA_length (key b : List (BitVec 8)) (h : b.length = 16) : (encA key b).length = 16 := encL_length _ _ _ _ h
theorem decA_length (key b : List (BitVec 8)) (h : b.length = 16) : (decA key b).length = 16 := decL_length _ _ _ _ h
theorem decA_encA (key b : List (BitVec 8)) (h : b.length = 16) : decA key (encA key b) = b := decL_encL _ _ _ _ h
theorem encA_decA (key b : List (BitVec 8)) (h : b.length = 16) : encA key (decA key b) = b := encL_decL _ _ _ _ h
/-- round by round: encrypting from the front, decrypting from the back -/
theorem encL_snoc (last : Nat) : ∀ (ks : List (List (BitVec 8))) (i : Nat) (k s : List (BitVec 8)), encL last i (ks ++ [k]) s = encR last (i + ks.length) k (encL last i ks s)
  | [], i, k, s => rfl
  | x :: ks, i, k, s => by
    rw [List.cons_append, encL, encL_snoc last ks (i + 1) k, encL, List.length_cons, show i + 1 + ks.length = i + (ks.length + 1) by omega]
theorem decL_drop (last : Nat) (ks : List (List (BitVec 8))) (s : List (BitVec 8)) (i : Nat) (k : List (BitVec 8)) (h : ks[i]? = some k) : decL last i (ks.drop i) s = decR last i k (decL last (i + 1) (ks.drop (i + 1)) s) := by
  have hi := (List.getElem?_eq_some_iff.1 h).1
  rw [List.drop_eq_getElem_cons hi, decL]
  rw [List.getElem?_eq_getElem hi] at h
  injection h with h
  rw [h]
/-- FIPS 197's example -/
theorem enc_example : encA [0, 1, 2, 3, 4, 5, 6, 7, 8, 9, 10, 11, 12, 13, 14, 15] [0, 0x11, 0x22, 0x33, 0x44, 0x55, 0x66, 0x77, 0x88, 0x99, 0xaa, 0xbb, 0xcc, 0xdd, 0xee, 0xff] = [0x69, 0xc4, 0xe0, 0xd8, 0x6a, 0x7b, 0x04, 0x30, 0xd8, 0xcd, 0xb7, 0x80, 0x70, 0xb4, 0xc5, 0x5a] := by decide +kernel
end Go.Proofs.Ytabhdkjepbkooaa

/- Boxes: variables that live in a block of their own. -/
set_option linter.unusedVariables false
set_option linter.unusedSimpArgs false
namespace Go.Proofs.Ytabhdkjepbkooaa
open Go.RowKit

theorem newboxE (w : World) (t : TypeId) (v : Value) : ∃ W, w.alloc (.cells #[v] t) = W ∧ Below w.heap.size w W ∧ W.cell? ⟨w.heap.size, 0, none⟩ = some v ∧ W.frozen? ⟨w.heap.size, 0, none⟩ = false ∧ W.heap.size = w.heap.size + 1 :=
  ⟨_, rfl, (Below.refl _ _).alloc (Nat.le_refl _) _, (Boxed.new w t v).cell, (Boxed.new w t v).frozen, by simp⟩
/-- a box below the heap's end holds v -/
def BxE (b : Nat) (v : Value) (W : World) : Prop := W.cell? ⟨b, 0, none⟩ = some v ∧ W.frozen? ⟨b, 0, none⟩ = false ∧ b < W.heap.size
theorem BxE.later {b : Nat} {v : Value} {W W' : World} (h : BxE b v W) (hb : Below W.heap.size W W') : BxE b v W' :=
  ⟨(hb.cell (p := ⟨b, 0, none⟩) h.2.2).trans h.1, (hb.frozen (p := ⟨b, 0, none⟩) h.2.2).trans h.2.1, Nat.lt_of_lt_of_le h.2.2 hb.size⟩

theorem newBox (w : World) (t : TypeId) (v : Value) : ∃ W, w.alloc (.cells #[v] t) = W ∧ Below w.heap.size w W ∧ BxE w.heap.size v W ∧ W.heap.size = w.heap.size + 1 := by
  obtain ⟨W, e, h, h1, h2, h3⟩ := newboxE w t v
  exact ⟨W, e, h, ⟨h1, h2, by omega⟩, h3⟩
theorem below_drewR (B : Nat) (w : World) (n : Nat) : Below B w (w.drewN n) := ⟨rfl, rfl, rfl, Nat.le_refl _, fun _ _ => rfl⟩
theorem below_box {B : Nat} {a w : World} (h : Below B a w) {b : Nat} (hb : B ≤ b) (u : Value) : Below B a (w.setCell ⟨b, 0, none⟩ u) := h.setCell (p := ⟨b, 0, none⟩) hb u
theorem BxE.set {b : Nat} {v : Value} {W : World} (h : BxE b v W) (u : Value) : BxE b u (W.setCell ⟨b, 0, none⟩ u) :=
  ⟨World.cell?_setCell_same' _ _ _ (by rw [h.1]; rfl), by rw [World.frozen?_setCell]; exact h.2.1, by have := h.2.2; simpa [World.setCell] using this⟩
theorem BxE.far {b b' : Nat} {v : Value} {W : World} (h : BxE b v W) (hn : b' ≠ b) (u : Value) : BxE b v (W.setCell ⟨b', 0, none⟩ u) :=
  ⟨by rw [World.cell?_setCell_other _ _ _ _ (fun e => hn (by injection e))]; exact h.1, by rw [World.frozen?_setCell]; exact h.2.1, by have := h.2.2; simpa [World.setCell] using this⟩
theorem BxE.kept {b : Nat} {v : Value} {A B' : World} (h : BxE b v A) {row : Option Nat} (hg : A.grownBy B' row) (hr : ∀ r, row = some r → ∃ o : Obj, A.heap[r]? = some o ∧ o.isCells = false) : BxE b v B' :=
  ⟨cell_kept h.1 hg hr, (frozen_kept h.1 hg hr).trans h.2.1, Nat.lt_of_lt_of_le h.2.2 hg.size⟩
theorem BxE.new (w : World) (t : TypeId) (v : Value) : BxE w.heap.size v (w.alloc (.cells #[v] t)) := by
  obtain ⟨W, rfl, _, h1, h2, h3⟩ := newboxE w t v
  exact ⟨h1, h2, by omega⟩
theorem BxE.drewN {b : Nat} {v : Value} {W : World} (h : BxE b v W) (n : Nat) : BxE b v (W.drewN n) := h
theorem SlV.setFar {w : World} {B n c : Nat} {A : Option Addr} {vs : List Value} (h : SlV w B A n c vs) {b : Nat} (hb : B ≤ b) (u : Value) : SlV (w.setCell ⟨b, 0, none⟩ u) B A n c vs :=
  h.below ((Below.refl B w).setCell (p := ⟨b, 0, none⟩) hb u)
end Go.Proofs.Ytabhdkjepbkooaa
