/- Parts of one proof, joined: Math, Base, Trim, Laws, RefA, RefB, MathB, RefC, RefD, RefE, RefF, Bits, LimbA, LimbB, Shelf, LimbC, LimbD. -/
import Derived.Test.YtbejcollbkeedaaGreatRows
import Derived.WalkKit
import Derived.WalkLawsBesides
import Derived.WalkSpells
import Derived.Deep.QuietTactic
import Derived.BigQuiet
import Derived.Lib.Hide
import Derived.Deep.DeepFit
import Derived.OpenShut
import Derived.Laws.CopyOwn
import Derived.Laws.AppendOwnNone
import Derived.Laws.Externs
import Derived.Shelf.Small.Bits
import Derived.Shelf.Small.Wraps
import Derived.Shelf.Strconv.Itoa0
import Derived.Shelf.Bits.Mul64
import Derived.Test.YtbejcollbkeedaaGreatProg
set_option linter.unusedVariables false
set_option linter.unusedSimpArgs false
set_option linter.unusedSectionVars false
set_option maxRecDepth 100000
set_option maxHeartbeats 8000000
open Go.Lib (hid)
namespace Go.Proofs.YtbejcollbkeedaaGreat
def V (B : Nat) : List Nat → Nat
 | [] => 0
 | x :: r => x + B * V B r
def Dg (B : Nat) (xs : List Nat) : Prop := ∀ x ∈ xs, x < B
def Nz (xs : List Nat) : Prop := ∀ x, xs.getLast? = some x → x ≠ 0
def Nm (B : Nat) (xs : List Nat) (n : Nat) : Prop := Dg B xs ∧ Nz xs ∧ V B xs = n
theorem V_nil (B : Nat) : V B [] = 0 := rfl
theorem V_cons (B x : Nat) (r : List Nat) : V B (x :: r) = x + B * V B r := rfl
theorem V_append (B : Nat) (a b : List Nat) : V B (a ++ b) = V B a + B ^ a.length * V B b := by
 induction a with
 | nil => simp [V]
 | cons x r ih => simp only [List.cons_append, V, ih, List.length_cons, Nat.pow_succ]; rw [Nat.mul_add, ← Nat.mul_assoc, Nat.mul_comm B (B ^ _)]; omega
theorem V_lt {B : Nat} (xs : List Nat) (h : Dg B xs) : V B xs < B ^ xs.length := by
 induction xs with
 | nil => simp [V]
 | cons x r ih =>
  have h1 := ih fun y hy => h y (by simp [hy])
  have h2 := h x (by simp)
  simp only [V, List.length_cons, Nat.pow_succ]
  have h3 : B * (V B r + 1) ≤ B * B ^ r.length := Nat.mul_le_mul_left _ h1
  rw [Nat.mul_add, Nat.mul_one] at h3
  rw [Nat.mul_comm (B ^ _) B]
  omega
theorem Dg.append {B : Nat} {a b : List Nat} (ha : Dg B a) (hb : Dg B b) : Dg B (a ++ b) := fun x hx => by
 rcases List.mem_append.1 hx with h | h
 ·exact ha x h
 ·exact hb x h
theorem Dg.take {B : Nat} {a : List Nat} (ha : Dg B a) (n : Nat) : Dg B (a.take n) := fun x hx => ha x (List.mem_of_mem_take hx)
theorem Dg.drop {B : Nat} {a : List Nat} (ha : Dg B a) (n : Nat) : Dg B (a.drop n) := fun x hx => ha x (List.mem_of_mem_drop hx)
theorem Dg.get {B : Nat} {a : List Nat} (ha : Dg B a) {k x : Nat} (h : a[k]? = some x) : x < B := ha x (List.mem_of_getElem? h)
theorem Dg.set {B : Nat} {a : List Nat} (ha : Dg B a) (i : Nat) {x : Nat} (hx : x < B) : Dg B (a.set i x) := fun y hy => by
 rcases List.mem_or_eq_of_mem_set hy with h | h
 ·exact ha y h
 ·exact h ▸ hx
theorem V_replicate (B n : Nat) : V B (List.replicate n 0) = 0 := by
 induction n with
 | zero => rfl
 | succ n ih => simp [List.replicate_succ, V, ih]
theorem V_zeros {B : Nat} (a : List Nat) (n : Nat) : V B (a ++ List.replicate n 0) = V B a := by rw [V_append, V_replicate]; simp
theorem V_take_succ {B : Nat} {a : List Nat} {k x : Nat} (h : a[k]? = some x) : V B (a.take (k + 1)) = V B (a.take k) + B ^ k * x := by
 have hk : k < a.length := (List.getElem?_eq_some_iff.1 h).1
 rw [List.take_add_one, h, V_append]
 simp [V, Nat.min_eq_left (Nat.le_of_lt hk)]
theorem V_split {B : Nat} (a : List Nat) (k : Nat) : V B a = V B (a.take k) + B ^ (min k a.length) * V B (a.drop k) := by
 conv => lhs; rw [← List.take_append_drop k a]
 rw [V_append, List.length_take]
theorem V_eq_zero {B : Nat} {a : List Nat} (hB : 0 < B) (h : V B a = 0) : ∀ x ∈ a, x = 0 := by
 induction a with
 | nil => intro x hx; cases hx
 | cons y r ih =>
  simp only [V] at h
  have h2 : V B r = 0 := by
   rcases Nat.mul_eq_zero.1 (show B * V B r = 0 by omega) with h | h
   ·omega
   ·exact h
  intro x hx
  rcases List.mem_cons.1 hx with h3 | h3
  ·omega
  ·exact ih h2 x h3
theorem nm_unique {B : Nat} (hB : 1 < B) : ∀ {a b : List Nat} {n : Nat}, Nm B a n → Nm B b n → a = b := by
 intro a
 induction a with
 | nil =>
  intro b n ha hb
  cases b with
  | nil => rfl
  | cons y r =>
   exfalso
   have h0 : V B (y :: r) = 0 := by rw [hb.2.2, ← ha.2.2]; rfl
   have hz := V_eq_zero (by omega) h0
   obtain ⟨l, hl⟩ : ∃ l, (y :: r).getLast? = some l := ⟨_, List.getLast?_cons⟩
   exact hb.2.1 l hl (hz l (List.mem_of_getLast? hl))
 | cons x a ih =>
  intro b n ha hb
  cases b with
  | nil =>
   exfalso
   have h0 : V B (x :: a) = 0 := by rw [ha.2.2, ← hb.2.2]; rfl
   have hz := V_eq_zero (by omega) h0
   obtain ⟨l, hl⟩ : ∃ l, (x :: a).getLast? = some l := ⟨_, List.getLast?_cons⟩
   exact ha.2.1 l hl (hz l (List.mem_of_getLast? hl))
  | cons y b =>
   have hx := ha.1 x (by simp)
   have hy := hb.1 y (by simp)
   have e : x + B * V B a = y + B * V B b := by have h1 := ha.2.2; have h2 := hb.2.2; simp only [V] at h1 h2; omega
   have exy : x = y := by
    have h1 := congrArg (· % B) e
    simpa [Nat.add_mul_mod_self_left, Nat.mod_eq_of_lt hx, Nat.mod_eq_of_lt hy] using h1
   have ev : V B a = V B b := by
    have : B * V B a = B * V B b := by omega
    exact Nat.eq_of_mul_eq_mul_left (by omega) this
   have na : Nm B a (V B a) := ⟨fun z hz => ha.1 z (by simp [hz]), fun l hl => by
    cases a with
    | nil => cases hl
    | cons u a => exact ha.2.1 l (by rw [List.getLast?_cons_cons]; exact hl), rfl⟩
   have nb : Nm B b (V B a) := ⟨fun z hz => hb.1 z (by simp [hz]), fun l hl => by
    cases b with
    | nil => cases hl
    | cons u b => exact hb.2.1 l (by rw [List.getLast?_cons_cons]; exact hl), ev.symm⟩
   rw [exy, ih na nb]
theorem V_ge {B : Nat} {a : List Nat} (hz : Nz a) (hn : a ≠ []) : B ^ (a.length - 1) ≤ V B a := by
 induction a with
 | nil => exact absurd rfl hn
 | cons x r ih =>
  cases r with
  | nil =>
   have := hz x (by simp)
   simp [V]; omega
  | cons y r =>
   have h1 := ih (fun l hl => hz l (by rw [List.getLast?_cons_cons]; exact hl)) (by simp)
   simp only [V, List.length_cons, Nat.add_sub_cancel] at h1 ⊢
   rw [Nat.pow_succ, Nat.mul_comm]
   have := Nat.mul_le_mul_left B h1
   omega
theorem lt_of_length {B : Nat} {a b : List Nat} (ha : Dg B a) (hB : 1 < B) (hz : Nz b) (h : a.length < b.length) : V B a < V B b := by
 have h1 := V_lt a ha
 have h2 := V_ge (B := B) hz (by intro e; subst e; simp at h)
 have h3 : B ^ a.length ≤ B ^ (b.length - 1) := Nat.pow_le_pow_right (by omega) (by omega)
 omega
def trimL (xs : List Nat) : Nat → Nat
 | 0 => 0
 | n + 1 => if xs[n]?.getD 0 = 0 then trimL xs n else n + 1
theorem trimL_le (xs : List Nat) (n : Nat) : trimL xs n ≤ n := by
 induction n with
 | zero => exact Nat.le_refl _
 | succ n ih => simp only [trimL]; split <;> omega
theorem trimL_zero {xs : List Nat} {n : Nat} (h : xs[n]? = some 0) : trimL xs (n + 1) = trimL xs n := by simp [trimL, h]
theorem trimL_pos {xs : List Nat} {n x : Nat} (h : xs[n]? = some x) (hx : x ≠ 0) : trimL xs (n + 1) = n + 1 := by simp [trimL, h, hx]
theorem V_trim (B : Nat) (xs : List Nat) : ∀ n, n ≤ xs.length → V B (xs.take (trimL xs n)) = V B (xs.take n) := by
 intro n
 induction n with
 | zero => intro _; rfl
 | succ n ih =>
  intro h
  obtain ⟨x, hx⟩ : ∃ x, xs[n]? = some x := ⟨_, List.getElem?_eq_getElem (by omega)⟩
  by_cases h0 : x = 0
  ·subst h0
   rw [trimL_zero hx, ih (by omega), V_take_succ hx]; simp
  ·rw [trimL_pos hx h0]
theorem Nz_trim (xs : List Nat) : ∀ n, n ≤ xs.length → Nz (xs.take (trimL xs n)) := by
 intro n
 induction n with
 | zero => intro _ x hx; simp [trimL] at hx
 | succ n ih =>
  intro h
  obtain ⟨x, hx⟩ : ∃ x, xs[n]? = some x := ⟨_, List.getElem?_eq_getElem (by omega)⟩
  by_cases h0 : x = 0
  ·subst h0
   rw [trimL_zero hx]; exact ih (by omega)
  ·rw [trimL_pos hx h0]
   intro y hy
   rw [List.take_add_one, hx] at hy
   simp at hy
   omega
def trimmed (xs : List Nat) : List Nat := xs.take (trimL xs xs.length)
theorem trimmed_nm {B : Nat} {xs : List Nat} (h : Dg B xs) : Nm B (trimmed xs) (V B xs) :=
 ⟨h.take _, Nz_trim xs _ (Nat.le_refl _), by unfold trimmed; rw [V_trim B xs _ (Nat.le_refl _), List.take_length]⟩
theorem trimmed_length (xs : List Nat) : (trimmed xs).length = trimL xs xs.length := by
 unfold trimmed; rw [List.length_take]; exact Nat.min_eq_left (trimL_le _ _)
theorem trimmed_get {xs : List Nat} {k x : Nat} (h : (trimmed xs)[k]? = some x) : xs[k]? = some x := by
 unfold trimmed at h
 rw [List.getElem?_take] at h
 split at h
 ·exact h
 ·cases h
def b32 : Nat := 4294967296
def b64 : Nat := 18446744073709551616
theorem b32_eq : b32 = 4294967296 := rfl
theorem b64_eq : b64 = b32 * b32 := by decide
theorem b32_pos : 0 < b32 := by decide
theorem b64_pos : 0 < b64 := by decide
theorem lt32 {x : Nat} : x < b32 ↔ x < 4294967296 := Iff.rfl
theorem lt64 {x : Nat} : x < b64 ↔ x < 18446744073709551616 := Iff.rfl
theorem take_set_le {zs : List Nat} {i k : Nat} (x : Nat) (h : k ≤ i) : (zs.set i x).take k = zs.take k := by
 apply List.ext_getElem?
 intro j
 rw [List.getElem?_take, List.getElem?_take]
 split
 ·rw [List.getElem?_set_ne (by omega)]
 ·rfl
theorem V_set_take {B : Nat} {zs : List Nat} {k : Nat} (x : Nat) (h : k < zs.length) : V B ((zs.set k x).take (k + 1)) = V B (zs.take k) + B ^ k * x := by
 rw [V_take_succ (x := x) (by simp [h]), take_set_le x (Nat.le_refl _)]
theorem set_get {zs : List Nat} {i : Nat} (x : Nat) (h : i < zs.length) : (zs.set i x)[i]? = some x := by simp [h]
theorem get_lt {zs : List Nat} {k : Nat} (h : k < zs.length) : ∃ x, zs[k]? = some x := ⟨_, List.getElem?_eq_getElem h⟩
theorem Nz_of_ge {B : Nat} {a : List Nat} (hd : Dg B a) (h : B ^ (a.length - 1) ≤ V B a) : Nz a := by
 intro x hx e
 subst e
 obtain ⟨r, rfl⟩ : ∃ r, a = r ++ [0] := by
  exact List.getLast?_eq_some_iff.1 hx
 rw [V_append] at h
 simp [V] at h
 have := V_lt r (fun y hy => hd y (by simp [hy]))
 omega
theorem Nm.length_le {B : Nat} {a : List Nat} {n k : Nat} (hB : 1 < B) (h : Nm B a n) (hn : n < B ^ k) : a.length ≤ k := by
 rcases Nat.lt_or_ge k a.length with hlt | hge
 ·exfalso
  have h1 := V_ge (B := B) h.2.1 (by intro e; subst e; simp at hlt)
  rw [h.2.2] at h1
  have h2 : B ^ k ≤ B ^ (a.length - 1) := Nat.pow_le_pow_right (by omega) (by omega)
  omega
 ·exact hge
end Go.Proofs.YtbejcollbkeedaaGreat
namespace Go.Proofs.YtbejcollbkeedaaGreat
open Go.RowKit
abbrev U (x : Nat) : Value := .int .u64 (x : Int)
def Rd (w : World) (B : Nat) (A : Option Addr) (xs : List Nat) : Prop :=
 xs ≠ [] → ∃ b off, A = some ⟨b, off, none⟩ ∧ b < B ∧ ∀ (k x : Nat), xs[k]? = some x → w.cell? ⟨b, off + k, none⟩ = some (.int .u64 (x : Int))
theorem Rd.below {w w' : World} {B : Nat} {A : Option Addr} {xs : List Nat} (h : Rd w B A xs) (hb : Below B w w') : Rd w' B A xs := fun hn => by
 obtain ⟨b, off, e, hlt, hc⟩ := h hn
 exact ⟨b, off, e, hlt, fun k x hx => (hb.cell (p := ⟨b, off + k, none⟩) hlt).trans (hc k x hx)⟩
theorem Rd.more {w : World} {B B' : Nat} {A : Option Addr} {xs : List Nat} (h : Rd w B A xs) (hB : B ≤ B') : Rd w B' A xs := fun hn => by
 obtain ⟨b, off, e, hlt, hc⟩ := h hn
 exact ⟨b, off, e, Nat.lt_of_lt_of_le hlt hB, hc⟩
theorem Rd.later {w w' : World} {B : Nat} {A : Option Addr} {xs : List Nat} (h : Rd w w.heap.size A xs) (hb : Below w.heap.size w w') (hB : w'.heap.size ≤ B) : Rd w' B A xs :=
 (h.below hb).more (Nat.le_trans hb.size hB)
theorem Rd.nil (w : World) (B : Nat) (A : Option Addr) : Rd w B A [] := fun h => absurd rfl h
theorem Rd.take {w : World} {B : Nat} {A : Option Addr} {xs : List Nat} (h : Rd w B A xs) (n : Nat) : Rd w B A (xs.take n) := fun hn => by
 obtain ⟨b, off, e, hlt, hc⟩ := h (fun e => hn (by rw [e]; simp))
 refine ⟨b, off, e, hlt, fun k x hx => hc k x ?_⟩
 rw [List.getElem?_take] at hx
 split at hx
 ·exact hx
 ·cases hx
theorem Rd.at_ {w : World} {B : Nat} {A : Option Addr} {xs : List Nat} (h : Rd w B A xs) {k : Nat} (hk : k < xs.length) :
  ∃ b off x, A = some ⟨b, off, none⟩ ∧ b < B ∧ xs[k]? = some x ∧ w.cell? ⟨b, off + k, none⟩ = some (.int .u64 (x : Int)) := by
 obtain ⟨b, off, e, hlt, hc⟩ := h (by intro e; subst e; simp at hk)
 exact ⟨b, off, xs[k], e, hlt, List.getElem?_eq_getElem hk, hc k _ (List.getElem?_eq_getElem hk)⟩
def Row (w : World) (g : Nat) (zs : List Nat) : Prop := w.heap[g]? = some (.cells (zs.map U).toArray 63 (0, 0))
theorem Row.lt {w : World} {g : Nat} {zs : List Nat} (h : Row w g zs) : g < w.heap.size := (Array.getElem?_eq_some_iff.1 h).1
theorem Row.cell {w : World} {g : Nat} {zs : List Nat} (h : Row w g zs) (i : Nat) : w.cell? ⟨g, i, none⟩ = (zs[i]?).map U := by
 rw [cell_of_row w g i _ _ (0, 0) h]; simp
theorem Row.at_ {w : World} {g : Nat} {zs : List Nat} (h : Row w g zs) {i x : Nat} (hx : zs[i]? = some x) : w.cell? ⟨g, i, none⟩ = some (.int .u64 (x : Int)) := by
 rw [h.cell, hx]; rfl
theorem Row.frozen {w : World} {g : Nat} {zs : List Nat} (h : Row w g zs) (i : Nat) : w.frozen? ⟨g, i, none⟩ = false := by
 unfold Row at h
 simp [World.frozen?, h]
theorem Row.set {w : World} {g : Nat} {zs : List Nat} (h : Row w g zs) (i x : Nat) : Row (w.setCell ⟨g, i, none⟩ (U x)) g (zs.set i x) := by
 unfold Row at h ⊢
 simp [World.setCell, Array.getElem?_modify, h, List.map_set]
theorem Row.below {w w' : World} {g B : Nat} {zs : List Nat} (h : Row w g zs) (hb : Below B w w') (hg : g < B) : Row w' g zs := (hb.block g hg).trans h
theorem Row.far {w : World} {g : Nat} {zs : List Nat} (h : Row w g zs) {p : Addr} (hp : g ≠ p.block) (u : Value) : Row (w.setCell p u) g zs := (Below.heap_setCell w p u g hp).trans h
theorem Row.rd {w : World} {g : Nat} {zs : List Nat} (h : Row w g zs) (off : Nat) (xs : List Nat) (hx : ∀ (k x : Nat), xs[k]? = some x → zs[off + k]? = some x) : Rd w w.heap.size (some ⟨g, off, none⟩) xs :=
 fun _ => ⟨g, off, rfl, h.lt, fun k x hk => h.at_ (hx k x hk)⟩
theorem Row.rd0 {w : World} {g : Nat} {zs : List Nat} (h : Row w g zs) : Rd w w.heap.size (some ⟨g, 0, none⟩) zs := h.rd 0 zs (by simp)
abbrev Only (w w' : World) (g : Nat) : Prop := w.grownBy w' (some g)
theorem Only.refl (w : World) (g : Nat) : Only w w g := World.grownBy.refl w _
theorem Only.trans {a b c : World} {g : Nat} (h : Only a b g) (k : Only b c g) : Only a c g :=
 ⟨k.os.trans h.os, k.tape.trans h.tape, k.output.trans h.output, Nat.le_trans h.size k.size, fun i hi hn => (k.block i (Nat.lt_of_lt_of_le hi h.size) hn).trans (h.block i hi hn)⟩
theorem Only.set {a w : World} {g : Nat} (h : Only a w g) (i : Nat) (u : Value) : Only a (w.setCell ⟨g, i, none⟩ u) g :=
 h.trans ⟨rfl, rfl, rfl, by simp [World.setCell], fun k _ hn => Below.heap_setCell _ _ _ _ (fun e => hn (by rw [e]))⟩
theorem Only.of_below {a w : World} (h : Below a.heap.size a w) (g : Nat) : Only a w g := ⟨h.os, h.tape, h.output, h.size, fun i hi _ => h.block i hi⟩
theorem Only.drewN {a w : World} {g : Nat} (h : Only a w g) (n : Nat) : Only a (w.drewN n) g := ⟨h.os, h.tape, h.output, h.size, h.block⟩
theorem Only.below {a w : World} {g B : Nat} (h : Only a w g) (hB : B ≤ g) (hs : B ≤ a.heap.size) : Below B a w :=
 ⟨h.os, h.tape, h.output, h.size, fun i hi => h.block i (by omega) (fun e => by injection e; omega)⟩
theorem below_drewN {B : Nat} {a w : World} (h : Below B a w) (n : Nat) : Below B a (w.drewN n) := ⟨h.os, h.tape, h.output, h.size, h.block⟩
theorem Row.drewN {w : World} {g : Nat} {zs : List Nat} (h : Row w g zs) (n : Nat) : Row (w.drewN n) g zs := h
def Sl (w : World) (B : Nat) (A : Option Addr) (n c : Nat) (xs : List Nat) : Prop :=
 n = xs.length ∧ n ≤ c ∧ c ≤ 9223372036854775807 ∧ Rd w B A xs
theorem Sl.len {w : World} {B n c : Nat} {A : Option Addr} {xs : List Nat} (h : Sl w B A n c xs) : n = xs.length := h.1
theorem Sl.cap {w : World} {B n c : Nat} {A : Option Addr} {xs : List Nat} (h : Sl w B A n c xs) : n ≤ c := h.2.1
theorem Sl.max {w : World} {B n c : Nat} {A : Option Addr} {xs : List Nat} (h : Sl w B A n c xs) : c ≤ 9223372036854775807 := h.2.2.1
theorem Sl.rd {w : World} {B n c : Nat} {A : Option Addr} {xs : List Nat} (h : Sl w B A n c xs) : Rd w B A xs := h.2.2.2
theorem Sl.below {w w' : World} {B n c : Nat} {A : Option Addr} {xs : List Nat} (h : Sl w B A n c xs) (hb : Below B w w') : Sl w' B A n c xs := ⟨h.1, h.2.1, h.2.2.1, h.rd.below hb⟩
theorem Sl.more {w : World} {B B' n c : Nat} {A : Option Addr} {xs : List Nat} (h : Sl w B A n c xs) (hB : B ≤ B') : Sl w B' A n c xs := ⟨h.1, h.2.1, h.2.2.1, h.rd.more hB⟩
theorem Sl.later {w w' : World} {B n c : Nat} {A : Option Addr} {xs : List Nat} (h : Sl w w.heap.size A n c xs) (hb : Below w.heap.size w w') (hB : w'.heap.size ≤ B) : Sl w' B A n c xs := ⟨h.1, h.2.1, h.2.2.1, h.rd.later hb hB⟩
theorem Sl.drewN {w : World} {B n c : Nat} {A : Option Addr} {xs : List Nat} (h : Sl w B A n c xs) (k : Nat) : Sl (w.drewN k) B A n c xs := h
theorem Sl.at_ {w : World} {B n c : Nat} {A : Option Addr} {xs : List Nat} (h : Sl w B A n c xs) {k : Nat} (hk : k < n) :
  ∃ b off x, A = some ⟨b, off, none⟩ ∧ b < B ∧ xs[k]? = some x ∧ w.cell? ⟨b, off + k, none⟩ = some (.int .u64 (x : Int)) := h.rd.at_ (by have := h.1; omega)
theorem Sl.nil (w : World) (B : Nat) (A : Option Addr) {c : Nat} (h : c ≤ 9223372036854775807) : Sl w B A 0 c [] := ⟨rfl, Nat.zero_le _, h, Rd.nil _ _ _⟩
theorem Sl.take {w : World} {B n c : Nat} {A : Option Addr} {xs : List Nat} (h : Sl w B A n c xs) {k : Nat} (hk : k ≤ n) : Sl w B A k c (xs.take k) :=
 ⟨by rw [List.length_take]; have := h.1; omega, by have := h.2.1; omega, h.2.2.1, h.rd.take k⟩
theorem Row.sl {w : World} {g : Nat} {zs : List Nat} (h : Row w g zs) (hz : zs.length ≤ 9223372036854775807) : Sl w w.heap.size (some ⟨g, 0, none⟩) zs.length zs.length zs :=
 ⟨rfl, Nat.le_refl _, hz, h.rd0⟩
def RetS (w : World) (xs : List Nat) (e : Ending) (w' : World) : Prop :=
 ∃ A n c, e = .returned (.slice A n c) ∧ Sl w' w'.heap.size A n c xs ∧ Below w.heap.size w w'
def RetN (B : Nat) (w : World) (k : Nat) (e : Ending) (w' : World) : Prop :=
 ∃ xs, Nm B xs k ∧ RetS w xs e w'
def lenOf : Value → Nat | .slice _ n _ => n | _ => 0
theorem ltrim_any (w : World) (B : Nat) (A : Option Addr) (N c : Nat) (xs : List Nat) (hs : Sl w B A N c xs) :
  Calls Tryz.prog 74 #[.slice A N c] w fun e w' => e = .returned (.slice A (trimL xs N) c) ∧ w = w' := by
 have hlc := hs.cap
 have hm := hs.max
 have HL := hid hs.len
 go_enter Tryz.func74, Tryz.ntmps74
 go_wp2
 go_loop [0] (fun s => ∃ n, n ≤ N ∧ s = .slice A n c ∧ trimL xs n = trimL xs N) (fun s => lenOf s)
 case atStart => exact ⟨_, Nat.le_refl _, rfl, rfl⟩
 case round =>
  obtain ⟨n, hn, rfl, ht⟩ := hrel
  have HT := hid ht
  clear ht
  by_cases h0 : n = 0
  ·subst h0
   go_wp2
   go_ret
   have := HT.out
   simp only [trimL] at this
   rw [← this]
   exact ⟨rfl, rfl⟩
  ·obtain ⟨m, rfl⟩ : ∃ m, n = m + 1 := ⟨n - 1, by omega⟩
   obtain ⟨b, off, x, rfl, _, hx, hc⟩ := hs.at_ (k := m) (by omega)
   have hp : (0 : Int) < ((m + 1 : Nat) : Int) := by omega
   have HX := hid hx
   clear hx
   by_cases hz : x = 0
   ·have hzb : (((x : Nat) : Int) == 0) = true := by simpa using hz
    have HZ := hid hz
    clear hz
    go_wp2
    go_round
    case rel => exact ⟨m, by omega, rfl, by rw [← HT.out, trimL_zero (by rw [HX.out, HZ.out])]⟩
    case measure => simp [lenOf]
   ·have hzb : (((x : Nat) : Int) == 0) = false := by simpa using hz
    have HZ := hid hz
    clear hz
    go_wp2
    go_ret
    have h := HT.out
    rw [trimL_pos HX.out HZ.out] at h
    rw [← h]
    exact ⟨rfl, rfl⟩
theorem rtrim_any (w : World) (B : Nat) (A : Option Addr) (N c : Nat) (xs : List Nat) (hs : Sl w B A N c xs) :
  Calls Tryz.prog 60 #[.slice A N c] w fun e w' => e = .returned (.slice A (trimL xs N) (trimL xs N)) ∧ w = w' := by
 have hlc := hs.cap
 have hm := hs.max
 have HL := hid hs.len
 go_enter Tryz.func60, Tryz.ntmps60
 go_wp2
 go_loop [3] (fun s => ∃ n : Nat, n ≤ N ∧ s = .int .i64 n ∧ trimL xs n = trimL xs N) (fun s => (intOf s).toNat)
 case atStart => exact ⟨_, Nat.le_refl _, rfl, rfl⟩
 case round =>
  obtain ⟨n, hn, rfl, ht⟩ := hrel
  have HT := hid ht
  clear ht
  by_cases h0 : n = 0
  ·subst h0
   go_wp2
   go_ret
   have := HT.out
   simp only [trimL] at this
   rw [← this]
   exact ⟨rfl, rfl⟩
  ·obtain ⟨m, rfl⟩ : ∃ m, n = m + 1 := ⟨n - 1, by omega⟩
   obtain ⟨b, off, x, rfl, _, hx, hc⟩ := hs.at_ (k := m) (by omega)
   have hp : (0 : Int) < ((m + 1 : Nat) : Int) := by omega
   have HX := hid hx
   clear hx
   by_cases hz : x = 0
   ·have hzb : (((x : Nat) : Int) == 0) = true := by simpa using hz
    have HZ := hid hz
    clear hz
    go_wp2
    go_round
    case rel => exact ⟨m, by omega, rfl, by rw [← HT.out, trimL_zero (by rw [HX.out, HZ.out])]⟩
    case measure => simp [intOf]
   ·have hzb : (((x : Nat) : Int) == 0) = false := by simpa using hz
    have HZ := hid hz
    clear hz
    go_wp2
    go_ret
    have h := HT.out
    rw [trimL_pos HX.out HZ.out] at h
    rw [← h]
    exact ⟨rfl, rfl⟩
theorem sl_trim {w : World} {B N c : Nat} {A : Option Addr} {xs : List Nat} (hs : Sl w B A N c xs) : Sl w B A (trimL xs N) c (trimmed xs) := by
 have h := hs.take (k := trimL xs N) (trimL_le _ _)
 unfold trimmed
 rw [← hs.len]
 exact h
theorem sl_trim2 {w : World} {B N c : Nat} {A : Option Addr} {xs : List Nat} (hs : Sl w B A N c xs) : Sl w B A (trimL xs N) (trimL xs N) (trimmed xs) := by
 have h := sl_trim hs
 exact ⟨h.len, Nat.le_refl _, Nat.le_trans h.cap h.max, h.rd⟩
theorem ltrim_sl (w : World) (B : Nat) (A : Option Addr) (N c : Nat) (xs : List Nat) (hs : Sl w B A N c xs) :
  Calls Tryz.prog 74 #[.slice A N c] w fun e w' => ∃ m, e = .returned (.slice A m c) ∧ Sl w B A m c (trimmed xs) ∧ m ≤ N ∧ w = w' :=
 (ltrim_any w B A N c xs hs).mono fun _ _ ⟨he, hw⟩ => ⟨_, he, sl_trim hs, trimL_le _ _, hw⟩
theorem rtrim_sl (w : World) (B : Nat) (A : Option Addr) (N c : Nat) (xs : List Nat) (hs : Sl w B A N c xs) :
  Calls Tryz.prog 60 #[.slice A N c] w fun e w' => ∃ m, e = .returned (.slice A m m) ∧ Sl w B A m m (trimmed xs) ∧ m ≤ N ∧ w = w' :=
 (rtrim_any w B A N c xs hs).mono fun _ _ ⟨he, hw⟩ => ⟨_, he, sl_trim2 hs, trimL_le _ _, hw⟩
theorem Tryz.infoU : (Tryz.prog.info? 63).map (fun i => (i.zero, i.size, i.bytes)) = some (some (.int .u64 0), 1, 8) := by kernel_rfl
theorem oneCellU (xs : List Nat) : ∀ u ∈ xs.map U, u.oneCell' = true := by
 intro u hu
 obtain ⟨_, _, rfl⟩ := List.mem_map.1 hu
 rfl
theorem Sl.of_own {w : World} {base : Nat} {v : Value} {n : Nat} {xs : List Nat} (h : w.ownsRow base 63 1 v n (xs.map U)) :
  ∃ A c, v = .slice A n c ∧ Sl w w.heap.size A n c xs := by
 have hl : xs.length = n := by simpa using h.1
 rcases h.2 with ⟨rfl, rfl⟩ | ⟨g, cap, cur, rfl, _, hh, hnc, hcm, _, _⟩
 ·obtain rfl : xs = [] := List.eq_nil_of_length_eq_zero hl
  exact ⟨none, 0, rfl, Sl.nil _ _ _ (by omega)⟩
 ·subst hl
  refine ⟨some ⟨g, 0, none⟩, cap, rfl, rfl, hnc, by simpa [maxLen] using hcm, fun _ => ⟨g, 0, rfl, (Array.getElem?_eq_some_iff.1 hh).1, fun k x hx => ?_⟩⟩
  have hc := h.cells (g := g) rfl k (U x) (by simp [hx])
  rw [Addr.add_lit] at hc
  exact hc
theorem wl_append_nil {w : World} {ops : Array Oper} {rest : List Oper} {o : Oper} {a : Act} {Q : Exit → Act → World → Prop} (hgd : o.guard = none) (x : Operand) (t : TypeId) (ht : Tryz.prog.underlying t = some (.slice 63))
  (ho : o.op = .call { callee := .builtin .append, args := #[.const (.slice none 0 0), x], argTypes := #[t, t] })
  (A : Option Addr) (m c : Nat) (xs : List Nat) (hx : a.eval x = .slice A m c) (B : Nat) (hs : Sl w B A m c xs) (hb : m ≤ 17592186044416)
  (h : ∀ A' c' w', Sl w' w'.heap.size A' m c' xs → Below w.heap.size w w' → wpList Tryz.prog ops Q rest (a.put o.dst (.slice A' m c')) w') : wpList Tryz.prog ops Q (o :: rest) a w := by
 obtain ⟨i0, hi, hz0, hz1, hz2⟩ := info_parts Tryz.infoU
 have hr := hs.rd
 have hm := hs.len
 subst hm
 have go : ∀ ad, A = some ad → (∀ j u, (xs.map U)[j]? = some u → w.cell? (ad.add j) = some u) → wpList Tryz.prog ops Q (o :: rest) a w := by
  rintro ad rfl hc
  refine wpList_append_own (w := w) hgd _ _ t ho w.heap.size 63 i0 (.int .u64 0) 1 8 ht hi hz0 hz1 hz2 rfl (by decide) (.slice none 0 0) 0 [] rfl (World.ownsRow_nil _ _ _ _)
   ad xs.length c (xs.map U) hx (by simp) hc (oneCellU xs) (by simp [maxLen]; omega) (by omega) (Nat.le_refl _) ?_
  intro v' w' hown hg _
  simp only [Nat.zero_add, List.nil_append] at hown
  obtain ⟨A', c', rfl, h1⟩ := Sl.of_own hown
  exact h A' c' w' h1 ((Below.refl _ _).grown hg (Nat.le_refl _) (fun k e => by simp [Value.ownBlock] at e))
 by_cases hn : xs = []
 ·subst hn
  cases A with
  | none =>
   refine wpList_plain hgd fun K hK => ?_
   unfold Oper.wp
   have hrun : (Builtin.append_ #[t, t] o.type #[.slice none 0 0, .slice none 0 c]).run Tryz.prog w = .ok (.slice none 0 0) w := by
    simp [Builtin.append_, run_underlying ht, sizeOf, typeInfo, hi, Builtin.lenOf, Builtin.firstCells]
   simp only [List.length_nil] at hx
   have hev : a.eval (.const (.slice none 0 0)) = .slice none 0 0 := rfl
   simp [execOp, ho, resolve, invoke, builtin, hx, hev, hrun, Result.andThen]
   exact hK _ _ (h none 0 w (Sl.nil _ _ _ (by omega)) (Below.refl _ _))
  | some ad => exact go ad rfl (by simp)
 ·obtain ⟨b, off, rfl, _, hc⟩ := hr hn
  refine go _ rfl (fun j u hu => ?_)
  rw [Addr.add_lit]
  simp only [List.getElem?_map, Option.map_eq_some_iff] at hu
  obtain ⟨y, hy, rfl⟩ := hu
  exact hc j y hy
theorem wl_append_one {w : World} {ops : Array Oper} {rest : List Oper} {o : Oper} {a : Act} {Q : Exit → Act → World → Prop} (hgd : o.guard = none) (s x : Operand) (t : TypeId) (ht : Tryz.prog.underlying t = some (.slice 63))
  (ho : o.op = .call { callee := .builtin .append, args := #[s, x], argTypes := #[t, t] })
  (base : Nat) (v : Value) (k : Nat) (ys : List Nat) (hs : a.eval s = v) (hown : w.ownsRow base 63 1 v k (ys.map U)) (ad : Addr) (c : Nat) (y : Nat) (hx : a.eval x = .slice (some ad) 1 c) (hc : w.cell? ad = some (.int .u64 (y : Int)))
  (hk : k + 1 ≤ 17592186044416) (hbase : base ≤ w.heap.size)
  (h : ∀ v' w', w'.ownsRow base 63 1 v' (k + 1) ((ys ++ [y]).map U) → (∀ B a, Below B a w → B ≤ base → Below B a w') → wpList Tryz.prog ops Q rest (a.put o.dst v') w') : wpList Tryz.prog ops Q (o :: rest) a w := by
 obtain ⟨i0, hi, hz0, hz1, hz2⟩ := info_parts Tryz.infoU
 have h63 : k + 1 ≤ maxLen := by simp only [maxLen]; omega
 have h64 : (k + 1) * 8 ≤ 140737488355328 := by omega
 refine wpList_append_own (w := w) hgd _ _ t ho base 63 i0 (.int .u64 0) 1 8 ht hi hz0 hz1 hz2 rfl (by decide) v k _ hs hown ad 1 c [U y] hx (by simp) ?_ (by simp [Value.oneCell']) h63 h64 hbase ?_
 ·intro j u hj
  match j, hj with
  | 0, hj => simp at hj; subst hj; simpa [Addr.add] using hc
 ·intro v' w' hown' hg _
  refine h v' w' (by simpa using hown') fun B a hb hB => hb.grown hg (Nat.le_trans hB hbase) fun j e => ?_
  have := (hown.lt j e).1
  omega
theorem wl_make {w : World} {ops : Array Oper} {rest : List Oper} {o : Oper} {a : Act} {Q : Exit → Act → World → Prop} (hg : o.guard = none) (l : Operand) (t : TypeId) (ht : Tryz.prog.underlying t = some (.slice 63))
  (hop : o.op = Op.makeSlice t l l) (N : Int) (n : Nat) (hl : a.eval l = .int .i64 N) (hN : N = n) (hn : n ≤ 35184372088832)
  (h : ∀ w', Row w' w.heap.size (List.replicate n 0) → Below w.heap.size w w' → w'.heap.size = w.heap.size + 1 → wpList Tryz.prog ops Q rest (a.put o.dst (.slice (some ⟨w.heap.size, 0, none⟩) n n)) w') :
  wpList Tryz.prog ops Q (o :: rest) a w := by
 obtain ⟨i0, hi, hz0, hz1, hz2⟩ := info_parts Tryz.infoU
 subst hN
 refine wpList_plain hg fun K hK => ?_
 have hb : (i0.bytes : Int) * (n : Int) ≤ 281474976710656 := by rw [hz2]; omega
 have hr := run_make (P := Tryz.prog) w t 63 i0 (.int .u64 0) ht hi hz0 .i64 .i64 n n (by omega) (by omega) hb (by omega)
 simp only [Int.toNat_natCast] at hr
 unfold Oper.wp
 simp [execOp, hop, hl, hr, Result.andThen]
 refine hK _ _ (h _ ?_ ((Below.refl _ _).alloc (Nat.le_refl _) _) (by simp))
 unfold Row
 rw [heap_alloc_new, hz1, Nat.mul_one]
 have e : madeCells (Value.int IntKind.u64 0).cells n = (List.map U (List.replicate n 0)).toArray := by
  apply Array.ext'
  rw [show (Value.int IntKind.u64 0).cells = #[Value.int IntKind.u64 0] from rfl, toList_madeCells_one]
  simp [U]
 rw [e]
theorem splice_map (zs ys : List Nat) (off : Nat) : splice (zs.map U) off (ys.map U) = (splice zs off ys).map U := by simp [splice]
theorem wl_copy {w : World} {ops : Array Oper} {rest : List Oper} {o : Oper} {a : Act} {Q : Exit → Act → World → Prop} (hgd : o.guard = none) (d s : Operand) (dT sT : TypeId) (hu : Tryz.prog.underlying dT = some (.slice 63))
  (ho : o.op = .call { callee := .builtin .copy, args := #[d, s], argTypes := #[dT, sT] })
  (g off dLen dCap : Nat) (sp : Option Addr) (sLen sCap : Nat) (hd : a.eval d = .slice (some ⟨g, off, none⟩) dLen dCap) (hs : a.eval s = .slice sp sLen sCap)
  (zs ys : List Nat) (hg : Row w g zs) (B : Nat) (hsl : Sl w B sp sLen sCap ys) (hfit : off + dLen ≤ zs.length) (hle : sLen ≤ dLen)
  (h : ∀ w', Row w' g (splice zs off ys) → Only w w' g → w'.heap.size = w.heap.size → ∀ v, wpList Tryz.prog ops Q rest (a.put o.dst v) w') :
  wpList Tryz.prog ops Q (o :: rest) a w := by
 have hsz : (Tryz.prog.info? 63).map (·.size) = some 1 := by
  obtain ⟨i0, hi, hz0, hz1, hz2⟩ := info_parts Tryz.infoU
  rw [hi]; simp [hz1]
 have hr := hsl.rd
 have hl := hsl.len
 subst hl
 have hmin : Nat.min ys.length dLen = ys.length := Nat.min_eq_left hle
 by_cases hn : ys = []
 ·subst hn
  refine wpList_copy_nothing hgd d s dT sT ho 63 hu hsz _ sp dLen dCap _ sCap hd hs (by simp) ?_
  exact h w (by simpa [splice] using hg) (Only.refl _ _) rfl _
 ·obtain ⟨b, o', rfl, _, hc⟩ := hr hn
  refine wpList_copy_own hgd d s dT sT ho 63 hu hsz g off dLen dCap _ _ sCap hd hs _ _ hg (ys.map U) (by simp [hmin]) (fun j u hu => ?_) (by simp; omega) (oneCellU ys) ?_
  ·rw [Addr.add_lit]
   simp only [List.getElem?_map, Option.map_eq_some_iff] at hu
   obtain ⟨y, hy, rfl⟩ := hu
   exact hc j y hy
  ·refine h (w.setRow g _) ?_ ⟨rfl, rfl, rfl, by simp [World.setRow], fun k _ hk => setRow_other w g k _ (fun e => hk (by rw [e]))⟩ (by simp [World.setRow]) _
   have := setRow_heap w g _ (((zs.map U).toArray).toList.take off ++ (ys.map U ++ ((zs.map U).toArray).toList.drop (off + (ys.map U).length))).toArray _ _ hg
   unfold Row
   rw [this, ← splice_map]
   simp [splice]
theorem from_step {zs xs : List Nat} {k x n : Nat} (hz : zs.length = 2 * n) (hd : Dg b32 zs) (hv : V b32 (zs.take (2 * k)) = V b64 (xs.take k)) (hx : xs[k]? = some x) (hlt : x < b64) (hk : k < n) :
  ((zs.set (2 * k) (x % 4294967296)).set (2 * k + 1) (x / 4294967296)).length = 2 * n ∧ Dg b32 ((zs.set (2 * k) (x % 4294967296)).set (2 * k + 1) (x / 4294967296)) ∧
   V b32 (((zs.set (2 * k) (x % 4294967296)).set (2 * k + 1) (x / 4294967296)).take (2 * (k + 1))) = V b64 (xs.take (k + 1)) := by
 refine ⟨by simp [hz], (hd.set _ (Nat.mod_lt _ (by decide))).set _ (Nat.div_lt_of_lt_mul (by rw [b64_eq] at hlt; exact hlt)), ?_⟩
 rw [show 2 * (k + 1) = 2 * k + 1 + 1 by omega, V_set_take _ (by simp [hz]; omega), V_set_take _ (by omega), hv, V_take_succ hx, Nat.add_assoc]
 congr 1
 rw [b64_eq, Nat.mul_pow, ← Nat.pow_add, ← Nat.two_mul, Nat.pow_succ, Nat.mul_assoc, ← Nat.mul_add]
 congr 1
 have := Nat.mod_add_div x 4294967296
 unfold b32; omega
theorem from_any (w : World) (B : Nat) (hB : B ≤ w.heap.size) (A : Option Addr) (n c : Nat) (xs : List Nat) (hs : Sl w B A n c xs) (hd : Dg b64 xs) (hn : n ≤ 1000000000) :
  Calls Tryz.prog 22 #[.slice A n c] w fun e w' => RetN b32 w (V b64 xs) e w' := by
 have hlc := hs.cap
 have hm := hs.max
 have HL := hid hs.len
 go_enter Tryz.func22, Tryz.ntmps22
 go_wp2_with (at_make; refine wl_make rfl _ _ Tryz.underlying28 rfl _ (2 * n) rfl (by omega) (by omega) ?_; intro w1 hR hB1 hz1)
 obtain ⟨g, hg⟩ : ∃ g, g = w.heap.size := ⟨_, rfl⟩
 rw [← hg] at hR ⊢
 have HG := hid hg
 have HZ1 := hid hz1
 clear hg hz1
 go_loopw [4] (fun i wr => ∃ k zs, k ≤ n ∧ i = .int .i64 (k : Nat) ∧ Row wr g zs ∧ Only w1 wr g ∧ wr.heap.size = w1.heap.size ∧ zs.length = 2 * n ∧ Dg b32 zs ∧ V b32 (zs.take (2 * k)) = V b64 (xs.take k)) (fun i _ => n - (intOf i).toNat)
 case atStart => exact ⟨0, _, Nat.zero_le _, rfl, hR, Only.refl _ _, rfl, by simp, fun x hx => by rw [List.eq_of_mem_replicate hx]; decide, rfl⟩
 case round =>
  obtain ⟨k, zs, hk, rfl, hr, ho, hz, hzl, hdz, hv⟩ := hrel
  have HZ := hid hz
  have HZL := hid hzl
  have HV := hid hv
  clear hz hzl hv
  by_cases hlt : k < n
  ·have hsr : Sl wr B A n c xs := (hs.below (hB1.mono hB)).below (ho.below (by rw [HG.out]; exact hB) (by rw [HZ1.out]; omega))
   obtain ⟨b, off, x, rfl, hb, hx, hc⟩ := hsr.at_ hlt
   have hxl := hd.get hx
   have HX := hid hx
   have hx64 : (x : Int) < 18446744073709551616 := by have := lt64.1 hxl; omega
   have HXL := hid hxl
   clear hx hxl
   have hf := hr.frozen
   obtain ⟨y, hy⟩ := get_lt (zs := zs) (k := 2 * k) (by rw [HZL.out]; omega)
   have hcy := hr.at_ hy
   obtain ⟨y', hy'⟩ := get_lt (zs := zs) (k := 2 * k + 1) (by rw [HZL.out]; omega)
   have hcy' := hr.at_ hy'
   clear hy hy'
   have hbg : b ≠ g := by have := HG.out; omega
   have hbg' : g ≠ b := fun e => hbg e.symm
   have hkn : (k : Int) < n := by omega
   go_wp2
   go_roundw
   case rel =>
    have hst := from_step HZL.out hdz HV.out HX.out HXL.out hlt
    exact ⟨k + 1, (zs.set (2 * k) (x % 4294967296)).set (2 * k + 1) (x / 4294967296), by omega, by go_num, (hr.set _ _).set _ _, (ho.set _ _).set _ _, by simpa [World.setCell] using HZ.out, hst.1, hst.2.1, hst.2.2⟩
   case measure => simp [intOf]; omega
  ·obtain rfl : k = n := by omega
   have hz0 : zs.length ≤ 9223372036854775807 := by rw [HZL.out]; omega
   have hsl := hr.sl hz0
   rw [HZL.out] at hsl
   have hbel : Below w.heap.size w wr := hB1.trans (ho.below (by rw [HG.out]; exact Nat.le_refl _) (by rw [HZ1.out]; omega))
   go_wp2_with (go_at_call 60; refine (rtrim_sl _ _ _ _ _ zs hsl).mono ?_; rintro e w2 ⟨m, rfl, h1, h2, rfl⟩)
   go_ret
   refine ⟨_, ?_, _, _, _, rfl, h1, hbel⟩
   have hnm := trimmed_nm (B := b32) hdz
   have hv := HV.out
   rw [← HZL.out, List.take_length, HL.out, List.take_length] at hv
   rw [hv] at hnm
   exact hnm
theorem to_pair {ds ys : List Nat} {k x y : Nat} (hl : ys.length = k) (hv : V b64 ys = V b32 (ds.take (2 * k))) (hx : ds[2 * k]? = some x) (hy : ds[2 * k + 1]? = some y) :
  V b64 (ys ++ [x + y * b32]) = V b32 (ds.take (2 * (k + 1))) := by
 rw [show 2 * (k + 1) = 2 * k + 1 + 1 by omega, V_take_succ hy, V_take_succ hx, V_append, hv, hl, Nat.add_assoc]
 rw [V_cons, V_nil, Nat.mul_zero, Nat.add_zero, b64_eq, Nat.mul_pow, ← Nat.pow_add, ← Nat.two_mul, Nat.pow_succ, Nat.mul_assoc, ← Nat.mul_add, Nat.mul_comm y]
theorem to_one {ds ys : List Nat} {k x : Nat} (hl : ys.length = k) (hv : V b64 ys = V b32 (ds.take (2 * k))) (hx : ds[2 * k]? = some x) (hn : 2 * k + 1 = ds.length) :
  V b64 (ys ++ [x]) = V b32 (ds.take (2 * (k + 1))) := by
 rw [List.take_of_length_le (i := 2 * (k + 1)) (by omega), ← List.take_length (l := ds), ← hn, V_take_succ hx, V_append, hv, hl]
 simp only [V, Nat.mul_zero, Nat.add_zero]
 rw [b64_eq, Nat.mul_pow, ← Nat.pow_add, ← Nat.two_mul]
theorem to_end {ds ys : List Nat} {k N : Nat} (hl : ys.length = k) (hd : Dg b64 ys) (hv : V b64 ys = V b32 (ds.take (2 * k))) (h1 : ds.length ≤ 2 * k) (h2 : 2 * k ≤ ds.length + 1) (hN : Nm b32 ds N) : Nm b64 ys N := by
 rw [List.take_of_length_le h1, hN.2.2] at hv
 by_cases hz : ys = []
 ·subst hz
  exact ⟨hd, fun x hx => by simp at hx, hv⟩
 refine ⟨hd, Nz_of_ge hd ?_, hv⟩
 by_cases h0 : ds = []
 ·subst h0
  have : ys.length = 0 := by simp at h2; omega
  obtain rfl : ys = [] := List.eq_nil_of_length_eq_zero this
  simp at hz
 ·have := V_ge (B := b32) hN.2.1 h0
  rw [hN.2.2] at this
  rw [hv, hl, b64_eq, Nat.mul_pow, ← Nat.pow_add, ← Nat.two_mul]
  have hp : 0 < ds.length := List.length_pos_iff.2 h0
  exact Nat.le_trans (Nat.pow_le_pow_right b32_pos (by omega)) this
theorem to_any (w : World) (B : Nat) (hB : B ≤ w.heap.size) (A : Option Addr) (n c : Nat) (ds : List Nat) (hs : Sl w B A n c ds) (N : Nat) (hN : Nm b32 ds N) (hn : n ≤ 1000000000) :
  Calls Tryz.prog 30 #[.slice A n c] w fun e w' => RetN b64 w N e w' := by
 have hlc := hs.cap
 have hm := hs.max
 have HL := hid hs.len
 have hd := hN.1
 go_enter Tryz.func30, Tryz.ntmps30
 go_wp2
 go_loopw [3, 4] (fun v i wr => ∃ j k ys, j = 2 * k ∧ j ≤ n + 1 ∧ i = .int .i64 (j : Nat) ∧ wr.ownsRow w.heap.size 63 1 v k (ys.map U) ∧ Below w.heap.size w wr ∧ ys.length = k ∧ Dg b64 ys ∧ V b64 ys = V b32 (ds.take (2 * k))) (fun _ i _ => n + 1 - (intOf i).toNat)
 case atStart => exact ⟨0, 0, [], rfl, Nat.zero_le _, rfl, World.ownsRow_nil _ _ _ _, Below.refl _ _, rfl, (fun x hx => by cases hx), rfl⟩
 case round =>
  obtain ⟨j, k, ys, hj, hjn, rfl, hown, hb, hyl, hdy, hv⟩ := hrel
  have hkj : k ≤ j := by omega
  have HJ := hid hj
  have HYL := hid hyl
  have HV := hid hv
  clear hyl hv hj
  by_cases hlt : j < n
  ·have hsr := hs.below (hb.mono hB)
   obtain ⟨b, off, x, rfl, hbB, hx, hc⟩ := hsr.at_ hlt
   have hxl : (x : Int) < 4294967296 := by have := lt32.1 (hd.get hx); omega
   have HX := hid hx
   clear hx
   by_cases hlt2 : j + 1 < n
   ·obtain ⟨b', off', y, he, hbB', hy, hc'⟩ := hsr.at_ hlt2
    simp only [Option.some.injEq, Addr.mk.injEq, and_true] at he
    obtain ⟨rfl, rfl⟩ := he
    have hyl : (y : Int) < 4294967296 := by have := lt32.1 (hd.get hy); omega
    have HY := hid hy
    clear hy
    have hl3 : (j : Int) + 1 < n := by omega
    go_wp2_with (at_builtin; refine wl_append_one rfl _ _ 23 Tryz.underlying23 rfl w.heap.size _ k ys rfl (hown.alloc _) ⟨wr.heap.size, 0, none⟩ 1 (x + y * b32) rfl (by simp [b32]) (by omega) (by have := hb.size; simp; omega) ?_; intro v' w1 hown' hk')
    go_wp2
    go_roundw
    case rel => exact ⟨j + 2, k + 1, ys ++ [x + y * b32], by have := HJ.out; omega, by omega, by go_num, hown', hk' _ _ (hb.alloc hb.size _) (Nat.le_refl _), by simp [HYL.out], hdy.append (fun z hz => by simp at hz; subst hz; rw [lt64]; unfold b32; omega), to_pair HYL.out HV.out (by rw [← HJ.out]; exact HX.out) (by rw [← HJ.out]; exact HY.out)⟩
    case measure => simp [intOf]; omega
   ·have hl3 : ¬ (j : Int) + 1 < n := by omega
    go_wp2_with (at_builtin; refine wl_append_one rfl _ _ 23 Tryz.underlying23 rfl w.heap.size _ k ys rfl (hown.alloc _) ⟨wr.heap.size, 0, none⟩ 1 x rfl (by simp) (by omega) (by have := hb.size; simp; omega) ?_; intro v' w1 hown' hk')
    go_wp2
    go_roundw
    case rel => exact ⟨j + 2, k + 1, ys ++ [x], by have := HJ.out; omega, by omega, by go_num, hown', hk' _ _ (hb.alloc hb.size _) (Nat.le_refl _), by simp [HYL.out], hdy.append (fun z hz => by simp at hz; subst hz; rw [lt64]; omega), to_one HYL.out HV.out (by rw [← HJ.out]; exact HX.out) (by rw [← HJ.out, ← HL.out]; omega)⟩
    case measure => simp [intOf]; omega
  ·obtain ⟨A', c', rfl, h1⟩ := Sl.of_own hown
   go_wp2
   go_ret
   exact ⟨ys, to_end HYL.out hdy HV.out (by rw [← HJ.out, ← HL.out]; omega) (by rw [← HJ.out, ← HL.out]; omega) hN, _, _, _, rfl, h1, hb⟩
end Go.Proofs.YtbejcollbkeedaaGreat
namespace Go.Proofs.YtbejcollbkeedaaGreat
theorem V_take_get {B : Nat} (xs : List Nat) (k : Nat) : V B (xs.take (k + 1)) = V B (xs.take k) + B ^ k * (xs[k]?.getD 0) := by
 rcases Nat.lt_or_ge k xs.length with h | h
 ·obtain ⟨x, hx⟩ := get_lt h
  rw [V_take_succ hx, hx]; rfl
 ·rw [List.take_of_length_le (by omega), List.take_of_length_le (by omega), List.getElem?_eq_none h]; simp
theorem add_step {B : Nat} {zs xs ys : List Nat} {k c x y : Nat} (hz : k < zs.length) (hv : V B (zs.take k) + B ^ k * c = V B (xs.take k) + V B (ys.take k)) (hx : xs[k]?.getD 0 = x) (hy : ys[k]?.getD 0 = y) :
  V B ((zs.set k ((c + x + y) % B)).take (k + 1)) + B ^ (k + 1) * ((c + x + y) / B) = V B (xs.take (k + 1)) + V B (ys.take (k + 1)) := by
 rw [V_set_take _ hz, V_take_get xs, V_take_get ys, hx, hy, Nat.pow_succ, Nat.mul_assoc, Nat.add_assoc, ← Nat.mul_add, Nat.mod_add_div, Nat.mul_add, Nat.mul_add]
 omega
theorem sub_step {B : Nat} {zs xs ys : List Nat} {k c d z x y : Nat} (hz : k < zs.length) (hv : V B (zs.take k) + V B (ys.take k) = V B (xs.take k) + B ^ k * c) (hx : xs[k]?.getD 0 = x) (hy : ys[k]?.getD 0 = y)
  (he : z + (y + c) = x + B * d) :
  V B ((zs.set k z).take (k + 1)) + V B (ys.take (k + 1)) = V B (xs.take (k + 1)) + B ^ (k + 1) * d := by
 rw [V_set_take _ hz, V_take_get xs, V_take_get ys, hx, hy, Nat.pow_succ, Nat.mul_assoc]
 have h1 : B ^ k * z + (B ^ k * y + B ^ k * c) = B ^ k * x + B ^ k * (B * d) := by rw [← Nat.mul_add, ← Nat.mul_add, he, Nat.mul_add]
 omega
theorem V_set {B : Nat} {zs : List Nat} {i old : Nat} (x : Nat) (h : zs[i]? = some old) : V B (zs.set i x) + B ^ i * old = V B zs + B ^ i * x := by
 induction zs generalizing i with
 | nil => simp at h
 | cons y r ih =>
  cases i with
  | zero => simp at h; subst h; simp [V]; omega
  | succ i =>
   have h1 := ih (i := i) (by simpa using h)
   simp only [List.set_cons_succ, V, Nat.pow_succ]
   have h2 : B * V B (r.set i x) + B ^ i * B * old = B * V B r + B ^ i * B * x := by
    have := congrArg (B * ·) h1
    simp only [Nat.mul_add] at this
    rw [show B ^ i * B * old = B * (B ^ i * old) by rw [Nat.mul_comm (B ^ i), Nat.mul_assoc], show B ^ i * B * x = B * (B ^ i * x) by rw [Nat.mul_comm (B ^ i), Nat.mul_assoc]]
    exact this
   omega
theorem mul_step {B : Nat} {zs ys : List Nat} {i j c d x y E : Nat} (hd : zs[i + j]? = some d) (hy : ys[j]? = some y) (hv : V B zs + B ^ (i + j) * c = E + B ^ i * (x * V B (ys.take j))) :
  V B (zs.set (i + j) ((c + (d + x * y)) % B)) + B ^ (i + (j + 1)) * ((c + (d + x * y)) / B) = E + B ^ i * (x * V B (ys.take (j + 1))) := by
 have h1 := V_set (B := B) ((c + (d + x * y)) % B) hd
 have h2 : B ^ (i + (j + 1)) * ((c + (d + x * y)) / B) + B ^ (i + j) * ((c + (d + x * y)) % B) = B ^ (i + j) * (c + (d + x * y)) := by
  rw [show i + (j + 1) = (i + j) + 1 by omega, Nat.pow_succ, Nat.mul_assoc, ← Nat.mul_add]
  congr 1
  have := Nat.mod_add_div (c + (d + x * y)) B
  omega
 rw [V_take_succ hy, Nat.mul_add, Nat.mul_add]
 have h3 : B ^ i * (x * (B ^ j * y)) = B ^ (i + j) * (x * y) := by
  rw [Nat.pow_add, Nat.mul_assoc, ← Nat.mul_assoc x, Nat.mul_comm x, Nat.mul_assoc]
 rw [Nat.mul_add, Nat.mul_add] at h2
 rw [h3]
 omega
theorem mul_le32 {x y : Nat} (hx : x < 4294967296) (hy : y < 4294967296) : x * y ≤ 18446744065119617025 := by
 have := Nat.mul_le_mul (Nat.le_of_lt_succ hx) (Nat.le_of_lt_succ hy)
 simpa using this
theorem cmp_lt {B : Nat} {xs ys : List Nat} {m x y : Nat} (hd : Dg B xs) (hl : xs.length = ys.length) (hx : xs[m]? = some x) (hy : ys[m]? = some y) (he : xs.drop (m + 1) = ys.drop (m + 1)) (h : x < y) : V B xs < V B ys := by
 have hm : m < xs.length := (List.getElem?_eq_some_iff.1 hx).1
 have e1 := V_split (B := B) xs (m + 1)
 have e2 := V_split (B := B) ys (m + 1)
 rw [V_take_succ hx, Nat.min_eq_left (by omega)] at e1
 rw [V_take_succ hy, Nat.min_eq_left (by omega), ← he] at e2
 have h1 := V_lt (xs.take m) (hd.take m)
 rw [List.length_take, Nat.min_eq_left (by omega)] at h1
 have h2 : B ^ m * (x + 1) ≤ B ^ m * y := Nat.mul_le_mul_left _ h
 rw [Nat.mul_add, Nat.mul_one] at h2
 omega
theorem drop_eq_of {xs ys : List Nat} {m x : Nat} (hx : xs[m]? = some x) (hy : ys[m]? = some x) (he : xs.drop (m + 1) = ys.drop (m + 1)) : xs.drop m = ys.drop m := by
 rw [List.drop_eq_getElem_cons (List.getElem?_eq_some_iff.1 hx).1, List.drop_eq_getElem_cons (List.getElem?_eq_some_iff.1 hy).1, he, (List.getElem?_eq_some_iff.1 hx).2, (List.getElem?_eq_some_iff.1 hy).2]
def ncmp (a b : Nat) : Int := if a < b then -1 else if b < a then 1 else 0
theorem ncmp_lt {a b : Nat} (h : a < b) : ncmp a b = -1 := by simp [ncmp, h]
theorem ncmp_gt {a b : Nat} (h : b < a) : ncmp a b = 1 := by unfold ncmp; rw [if_neg (by omega), if_pos h]
theorem ncmp_eq (a : Nat) : ncmp a a = 0 := by simp [ncmp]
theorem add_end {B : Nat} (hB : 2 ≤ B) {xs ys zs : List Nat} {c n : Nat} (hd : Dg B xs) (hd2 : Dg B ys) (h1 : xs.length ≤ n) (h2 : ys.length ≤ n) (hz : zs.length = n + 1) (hv : V B (zs.take (n + 1)) + B ^ (n + 1) * c = V B (xs.take (n + 1)) + V B (ys.take (n + 1))) :
  V B zs = V B xs + V B ys := by
 rw [List.take_of_length_le (by omega), List.take_of_length_le (by omega), List.take_of_length_le (by omega)] at hv
 have a1 := V_lt xs hd
 have a2 := V_lt ys hd2
 have a3 : B ^ xs.length ≤ B ^ n := Nat.pow_le_pow_right (show 0 < B by omega) h1
 have a4 : B ^ ys.length ≤ B ^ n := Nat.pow_le_pow_right (show 0 < B by omega) h2
 have a5 : B ^ (n + 1) = B ^ n * B := Nat.pow_succ ..
 have a6 : B ^ n * 2 ≤ B ^ n * B := Nat.mul_le_mul_left _ hB
 have hc : c = 0 := by
  rcases Nat.eq_zero_or_pos c with h | h
  ·exact h
  ·have := Nat.mul_le_mul_left (B ^ (n + 1)) h
   omega
 subst hc
 omega
theorem sub_end {B : Nat} {xs ys zs : List Nat} {c n : Nat} (hd : Dg B zs) (h1 : xs.length = n) (h2 : ys.length ≤ n) (hz : zs.length = n) (hle : V B ys ≤ V B xs) (hv : V B (zs.take n) + V B (ys.take n) = V B (xs.take n) + B ^ n * c) :
  V B zs = V B xs - V B ys := by
 rw [List.take_of_length_le (by omega), List.take_of_length_le (by omega), List.take_of_length_le (by omega)] at hv
 have a1 := V_lt zs hd
 rw [hz] at a1
 have hc : c = 0 := by
  rcases Nat.eq_zero_or_pos c with h | h
  ·exact h
  ·have := Nat.mul_le_mul_left (B ^ n) h
   omega
 subst hc
 omega
theorem mul_row {B : Nat} {zs xs ys : List Nat} {k m c x E : Nat} (hz : zs[k + m]? = some 0) (hm : m = ys.length) (hx : xs[k]? = some x) (hE : E = V B (xs.take k) * V B ys) (hv : V B zs + B ^ (k + m) * c = E + B ^ k * (x * V B (ys.take m))) :
  V B (zs.set (k + m) c) = V B (xs.take (k + 1)) * V B ys := by
 have h1 := V_set (B := B) c hz
 rw [List.take_of_length_le (by omega)] at hv
 rw [V_take_succ hx, Nat.add_mul, ← hE, Nat.mul_assoc]
 omega
theorem addTo_step {B : Nat} {zs ys : List Nat} {o k c s c' old y E : Nat} (hz : zs[o + k]? = some old) (hy : ys[k]? = some y) (hv : V B zs + B ^ (o + k) * c = E + B ^ o * V B (ys.take k)) (he : s + B * c' = old + y + c) :
  V B (zs.set (o + k) s) + B ^ (o + (k + 1)) * c' = E + B ^ o * V B (ys.take (k + 1)) := by
 have h1 := V_set (B := B) s hz
 have h2 : B ^ (o + k) * s + B ^ (o + k) * (B * c') = B ^ (o + k) * old + B ^ (o + k) * y + B ^ (o + k) * c := by rw [← Nat.mul_add, he, Nat.mul_add, Nat.mul_add]
 rw [V_take_succ hy, Nat.mul_add, ← Nat.mul_assoc, ← Nat.pow_add, show o + (k + 1) = (o + k) + 1 by omega, Nat.pow_succ, Nat.mul_assoc]
 omega
theorem addMul_step {B : Nat} {zs ys : List Nat} {o k c s c' old y d E : Nat} (hz : zs[o + k]? = some old) (hy : ys[k]? = some y) (hv : V B zs + B ^ (o + k) * c = E + B ^ o * (V B (ys.take k) * d)) (he : s + B * c' = old + y * d + c) :
  V B (zs.set (o + k) s) + B ^ (o + (k + 1)) * c' = E + B ^ o * (V B (ys.take (k + 1)) * d) := by
 have h1 := V_set (B := B) s hz
 have h2 : B ^ (o + k) * s + B ^ (o + k) * (B * c') = B ^ (o + k) * old + B ^ (o + k) * (y * d) + B ^ (o + k) * c := by rw [← Nat.mul_add, he, Nat.mul_add, Nat.mul_add]
 rw [V_take_succ hy, Nat.add_mul, Nat.mul_add, Nat.mul_assoc (B ^ k), ← Nat.mul_assoc (B ^ o) (B ^ k), ← Nat.pow_add, show o + (k + 1) = (o + k) + 1 by omega, Nat.pow_succ, Nat.mul_assoc]
 omega
theorem mul_lt_sq {B x y : Nat} (hx : x < B) (hy : y < B) : x * y + 2 * B ≤ B * B + 1 := by
 obtain ⟨b, rfl⟩ : ∃ b, B = b + 1 := ⟨B - 1, by omega⟩
 have := Nat.mul_le_mul (Nat.le_of_lt_succ hx) (Nat.le_of_lt_succ hy)
 rw [Nat.add_mul, Nat.mul_add b, Nat.one_mul]; omega
theorem lt_of_mul_lt_sq {B x : Nat} (h : B * x < B * B) : x < B := Nat.lt_of_mul_lt_mul_left h
theorem amul_bound1 {B hi lo y d sum c1 old : Nat} (h : B * hi + lo = y * d) (hy : y < B) (hd : d < B) (h1 : sum + B * c1 = lo + old) (ho : old < B) : hi + c1 < B := by
 apply lt_of_mul_lt_sq (B := B)
 have := mul_lt_sq hy hd
 rw [Nat.mul_add]; omega
theorem amul_bound2 {B hi lo y d sum c1 old s c2 c : Nat} (h : B * hi + lo = y * d) (hy : y < B) (hd : d < B) (h1 : sum + B * c1 = lo + old) (ho : old < B) (h2 : s + B * c2 = sum + c) (hc : c < B) : hi + c1 + c2 < B := by
 apply lt_of_mul_lt_sq (B := B)
 have := mul_lt_sq hy hd
 rw [Nat.mul_add, Nat.mul_add]; omega
theorem amul_eq {B hi lo y d sum c1 old s c2 c : Nat} (h : B * hi + lo = y * d) (h1 : sum + B * c1 = lo + old) (h2 : s + B * c2 = sum + c) : s + B * (hi + c1 + c2) = old + y * d + c := by
 rw [Nat.mul_add, Nat.mul_add]; omega
theorem lmul_row {B : Nat} {zs zs' xs ys : List Nat} {k m c x : Nat} (hz : zs'[k + m]? = some 0) (hx : xs[k]? = some x) (hE : V B zs = V B (xs.take k) * V B ys) (hv : V B zs' + B ^ (k + m) * c = V B zs + B ^ k * (V B ys * x)) :
  V B (zs'.set (k + m) c) = V B (xs.take (k + 1)) * V B ys := by
 have h1 := V_set (B := B) c hz
 rw [V_take_succ hx, Nat.add_mul, ← hE, Nat.mul_assoc, Nat.mul_comm x]
 omega
end Go.Proofs.YtbejcollbkeedaaGreat
namespace Go.Proofs.YtbejcollbkeedaaGreat
open Go.RowKit
def RetV (w : World) (v : Value) (e : Ending) (w' : World) : Prop := e = .returned v ∧ Below w.heap.size w w'
theorem is_any (w : World) (B : Nat) (hB : B ≤ w.heap.size) (A1 : Option Addr) (n1 c1 : Nat) (xs : List Nat) (hs1 : Sl w B A1 n1 c1 xs) (A : Option Addr) (n c : Nat) (ds : List Nat) (hs : Sl w B A n c ds) (N : Nat) (hX : Nm b64 xs N) (hN : Nm b32 ds N) (hn : n ≤ 1000000000) :
  Calls Tryz.prog 51 #[.slice A1 n1 c1, .slice A n c] w fun e w' => RetV w (.bool true) e w' := by
 have hlc1 := hs1.cap
 have hm1 := hs1.max
 go_enter Tryz.func51, Tryz.ntmps51
 go_wp2_with (go_at_call 30; refine (to_any _ B hB _ _ _ ds hs N hN hn).mono ?_; rintro e w1 ⟨ys, hY, A2, n2, c2, rfl, hs2, hb⟩; obtain rfl := nm_unique (by decide) hY hX; have hn12 : n2 = n1 := (by rw [hs1.len, hs2.len]); subst hn12)
 have hs1' := hs1.below (hb.mono hB)
 have hlc2 := hs2.cap
 have hm2 := hs2.max
 go_wp2
 go_loopw [6] (fun i wr => ∃ k q : Nat, k ≤ n2 ∧ i = .int .i64 (k : Nat) ∧ wr = w1.drewN q) (fun i _ => n2 - (intOf i).toNat)
 case atStart => exact ⟨0, 0, Nat.zero_le _, rfl, rfl⟩
 case round =>
  obtain ⟨k, q, hk, rfl, rfl⟩ := hrel
  by_cases hlt : k < n2
  ·obtain ⟨b, off, x, rfl, _, hx, hc⟩ := hs1'.at_ hlt
   obtain ⟨b', off', x', rfl, _, hx', hc'⟩ := hs2.at_ hlt
   rw [hx] at hx'
   injection hx' with hx'
   subst hx'
   clear hx
   have hkn : (k : Int) < n2 := by omega
   have hk0 : (0 : Int) ≤ k := by omega
   go_wp2
   go_quiet (fail)
   go_wp2
   go_roundw
   case rel => exact ⟨k + 1, _, by omega, by go_num, rfl⟩
   case measure => simp [intOf]; omega
  ·go_wp2
   go_ret
   exact ⟨rfl, below_drewN hb _⟩
theorem rcmp_any (w : World) (B : Nat) (A1 : Option Addr) (n1 c1 : Nat) (xs : List Nat) (hs1 : Sl w B A1 n1 c1 xs) (B2 : Nat) (A2 : Option Addr) (n2 c2 : Nat) (ys : List Nat) (hs2 : Sl w B2 A2 n2 c2 ys) (N M : Nat) (hN : Nm b32 xs N) (hM : Nm b32 ys M) :
  Calls Tryz.prog 47 #[.slice A1 n1 c1, .slice A2 n2 c2] w fun e w' => e = .returned (.int .i64 (ncmp N M)) ∧ ∃ q, w' = w.drewN q := by
 have hlc1 := hs1.cap
 have hm1 := hs1.max
 have hlc2 := hs2.cap
 have hm2 := hs2.max
 have hD := hN.1
 have hD2 := hM.1
 by_cases hne : n1 = n2
 ·subst hne
  have HL : Hid (xs.length = ys.length) := by rw [← hs1.len, ← hs2.len]; exact rfl
  have hL1 := hid hs1.len
  have hnn : ((n1 : Int) != n1) = false := by simp
  go_enter Tryz.func47, Tryz.ntmps47
  go_wp2
  go_loopw [5] (fun i wr => ∃ k q : Nat, k ≤ n1 ∧ i = .int .i64 ((k : Int) - 1) ∧ xs.drop k = ys.drop k ∧ wr = w.drewN q) (fun i _ => (intOf i + 1).toNat)
  case atStart => exact ⟨n1, 0, Nat.le_refl _, rfl, by rw [List.drop_of_length_le (by rw [hL1.out]; omega), List.drop_of_length_le (by rw [← HL.out, hL1.out]; omega)], rfl⟩
  case round =>
   obtain ⟨k, q, hk, rfl, he, rfl⟩ := hrel
   have HE := hid he
   clear he
   by_cases h0 : k = 0
   ·subst h0
    have he := HE.out
    simp only [List.drop_zero] at he
    have e0 : Hid (ncmp N M = 0) := by show _ = _; rw [← hN.2.2, ← hM.2.2, he, ncmp_eq]
    go_wp2
    go_ret
    exact ⟨by rw [e0.out]; rfl, _, by first | rfl | (simp only [World.drewN_drewN]; rfl)⟩
   ·obtain ⟨m, rfl⟩ : ∃ m, k = m + 1 := ⟨k - 1, by omega⟩
    obtain ⟨b, off, x, rfl, _, hx, hc⟩ := hs1.at_ (k := m) (by omega)
    obtain ⟨b', off', y, rfl, _, hy, hc'⟩ := hs2.at_ (k := m) (by omega)
    have HX := hid hx
    have HY := hid hy
    clear hx hy
    have hmn : (m : Int) < n1 := by omega
    have hm0 : (0 : Int) ≤ m := by omega
    have hmm : (0 : Int) ≤ ((m + 1 : Nat) : Int) - 1 := by omega
    rcases Nat.lt_trichotomy x y with h | h | h
    ·have e0 : Hid (ncmp N M = -1) := ncmp_lt (by rw [← hN.2.2, ← hM.2.2]; exact cmp_lt hD HL.out HX.out HY.out HE.out h)
     have hxy : (x : Int) < y := by omega
     go_wp2
     go_quiet (fail)
     go_wp2
     go_ret
     exact ⟨by rw [e0.out]; rfl, _, by first | rfl | (simp only [World.drewN_drewN]; rfl)⟩
    ·subst h
     go_wp2
     go_quiet (fail)
     go_wp2
     go_quiet (fail)
     go_wp2
     go_roundw
     case rel => exact ⟨m, _, by omega, by go_num, drop_eq_of HX.out HY.out HE.out, rfl⟩
     case measure => simp [intOf]
    ·have e0 : Hid (ncmp N M = 1) := ncmp_gt (by rw [← hN.2.2, ← hM.2.2]; exact cmp_lt hD2 HL.out.symm HY.out HX.out HE.out.symm h)
     have hxy : (y : Int) < x := by omega
     have hxy' : ¬ (x : Int) < y := by omega
     go_wp2
     go_quiet (fail)
     go_wp2
     go_quiet (fail)
     go_wp2
     go_ret
     exact ⟨by rw [e0.out]; rfl, _, by first | rfl | (simp only [World.drewN_drewN]; rfl)⟩
 ·rcases Nat.lt_or_gt_of_ne hne with h | h
  ·have e0 : ncmp N M = -1 := ncmp_lt (by rw [← hN.2.2, ← hM.2.2]; exact lt_of_length hD (by decide) hM.2.1 (by rw [← hs1.len, ← hs2.len]; exact h))
   rw [e0]
   have hni : ((n1 : Int) != n2) = true := by simp; omega
   have hlt : (n1 : Int) < n2 := by omega
   go_enter Tryz.func47, Tryz.ntmps47
   go_wp2
   go_ret
   exact ⟨rfl, 0, rfl⟩
  ·have e0 : ncmp N M = 1 := ncmp_gt (by rw [← hN.2.2, ← hM.2.2]; exact lt_of_length hD2 (by decide) hN.2.1 (by rw [← hs1.len, ← hs2.len]; exact h))
   rw [e0]
   have hni : ((n1 : Int) != n2) = true := by simp; omega
   have hlt : ¬ (n1 : Int) < n2 := by omega
   go_enter Tryz.func47, Tryz.ntmps47
   go_wp2
   go_ret
   exact ⟨rfl, 0, rfl⟩
theorem dg_zeros {B : Nat} (hB : 0 < B) (n : Nat) : Dg B (List.replicate n 0) := fun x hx => by rw [List.eq_of_mem_replicate hx]; exact hB
theorem retN_trim {B : Nat} {w w' : World} {b m : Nat} {A : Option Addr} {zs : List Nat} {N : Nat} (h : Sl w' w'.heap.size A m b (trimmed zs)) (hd : Dg B zs) (hv : V B zs = N) (hb : Below w.heap.size w w') :
  RetN B w N (.returned (.slice A m b)) w' := ⟨_, hv ▸ trimmed_nm hd, _, _, _, rfl, h, hb⟩
theorem radd_any (w : World) (B : Nat) (hB : B ≤ w.heap.size) (A1 : Option Addr) (n1 c1 : Nat) (xs : List Nat) (hs1 : Sl w B A1 n1 c1 xs) (A2 : Option Addr) (n2 c2 : Nat) (ys : List Nat) (hs2 : Sl w B A2 n2 c2 ys)
  (hd : Dg b32 xs) (hd2 : Dg b32 ys) (h1 : n1 ≤ 1000000000) (h2 : n2 ≤ 1000000000) :
  Calls Tryz.prog 32 #[.slice A1 n1 c1, .slice A2 n2 c2] w fun e w' => RetN b32 w (V b32 xs + V b32 ys) e w' := by
 have hlc1 := hs1.cap
 have hm1 := hs1.max
 have hlc2 := hs2.cap
 have hm2 := hs2.max
 by_cases hgt : n1 < n2
 ·have hgi : (n1 : Int) < n2 := by omega
  obtain ⟨n, hn⟩ : ∃ n, n = n2 := ⟨_, rfl⟩
  have hn1 : n1 ≤ n := by omega
  have hn2 : n2 ≤ n := by omega
  have HN := hid hn
  clear hn
  go_enter Tryz.func32, Tryz.ntmps32
  go_wp2_with (at_make; refine wl_make rfl _ _ Tryz.underlying28 rfl _ (n2 + 1) rfl (by omega) (by omega) ?_; intro w1 hR hB1 hz1; obtain ⟨g, hg⟩ : ∃ g, g = w.heap.size := ⟨_, rfl⟩; rw [← hg] at hR ⊢; have HG := hid hg; have HZ1 := hid hz1; clear hg hz1)
  go_loopw [7, 8] (fun cv i wr => ∃ k c zs, k ≤ n2 + 1 ∧ i = .int .i64 (k : Nat) ∧ cv = .int .u64 ((c : Nat) : Int) ∧ c ≤ 1 ∧ Row wr g zs ∧ Only w1 wr g ∧ wr.heap.size = w1.heap.size ∧ zs.length = n2 + 1 ∧ Dg b32 zs ∧ V b32 (zs.take k) + b32 ^ k * c = V b32 (xs.take k) + V b32 (ys.take k)) (fun _ i _ => n2 + 1 - (intOf i).toNat)
  case atStart => exact ⟨0, 0, _, Nat.zero_le _, rfl, rfl, by omega, hR, Only.refl _ _, rfl, by simp, dg_zeros b32_pos _, rfl⟩
  case round =>
   obtain ⟨k, c, zs, hk, rfl, rfl, hc1, hr, ho, hz, hzl, hdz, hv⟩ := hrel
   have HZ := hid hz
   have HZL := hid hzl
   have HV := hid hv
   clear hz hzl hv
   have hbel : Below w.heap.size w wr := hB1.trans (ho.below (by rw [HG.out]; exact Nat.le_refl _) (by rw [HZ1.out]; omega))
   by_cases hle : k ≤ n2
   ·have hs1r := hs1.below (hbel.mono hB)
    have hs2r := hs2.below (hbel.mono hB)
    have hf := hr.frozen
    obtain ⟨y0, hy0⟩ := get_lt (zs := zs) (k := k) (by rw [HZL.out]; omega)
    have hcy := hr.at_ hy0
    clear hy0
    have hki : (k : Int) ≤ n2 := by omega
    obtain ⟨x, hx⟩ : ∃ x, xs[k]?.getD 0 = x := ⟨_, rfl⟩
    obtain ⟨y, hy⟩ : ∃ y, ys[k]?.getD 0 = y := ⟨_, rfl⟩
    have hst := add_step (B := b32) (zs := zs) (k := k) (c := c) (x := x) (y := y) (by rw [HZL.out]; omega) HV.out hx hy
    have HST := hid hst
    clear hst
    by_cases hx1 : k < n1
    ·obtain ⟨b, off, x', rfl, hb1, hx', hc⟩ := hs1r.at_ hx1
     rw [hx'] at hx
     simp only [Option.getD_some] at hx
     subst hx
     have hxl : (x' : Int) < 4294967296 := by have := lt32.1 (hd.get hx'); omega
     clear hx'
     have hx1i : (k : Int) < n1 := by omega
     have hbg : b ≠ g := by have := HG.out; omega
     have hbg' : g ≠ b := fun e => hbg e.symm
     by_cases hx2 : k < n2
     ·obtain ⟨b2, off2, y', rfl, hb2, hy', hc2⟩ := hs2r.at_ hx2
      rw [hy'] at hy
      simp only [Option.getD_some] at hy
      subst hy
      have hyl : (y' : Int) < 4294967296 := by have := lt32.1 (hd2.get hy'); omega
      clear hy'
      have hx2i : (k : Int) < n2 := by omega
      have hbg2 : b2 ≠ g := by have := HG.out; omega
      have hbg2' : g ≠ b2 := fun e => hbg2 e.symm
      go_wp2
      go_roundw
      case rel => exact ⟨k + 1, (c + x' + y') / 4294967296, zs.set k ((c + x' + y') % 4294967296), by omega, by go_num, by go_num, by omega, hr.set _ _, ho.set _ _, by simpa [World.setCell] using HZ.out, by simp [HZL.out], hdz.set _ (Nat.mod_lt _ (by decide)), HST.out⟩
      case measure => simp [intOf]; omega
     ·exfalso; omega
    ·have hx1i : ¬ (k : Int) < n1 := by omega
     rw [List.getElem?_eq_none (by rw [← hs1.len]; omega)] at hx
     simp only [Option.getD_none] at hx
     subst hx
     by_cases hx2 : k < n2
     ·obtain ⟨b2, off2, y', rfl, hb2, hy', hc2⟩ := hs2r.at_ hx2
      rw [hy'] at hy
      simp only [Option.getD_some] at hy
      subst hy
      have hyl : (y' : Int) < 4294967296 := by have := lt32.1 (hd2.get hy'); omega
      clear hy'
      have hx2i : (k : Int) < n2 := by omega
      have hbg2 : b2 ≠ g := by have := HG.out; omega
      have hbg2' : g ≠ b2 := fun e => hbg2 e.symm
      go_wp2
      go_roundw
      case rel => exact ⟨k + 1, (c + 0 + y') / 4294967296, zs.set k ((c + 0 + y') % 4294967296), by omega, by go_num, by go_num, by omega, hr.set _ _, ho.set _ _, by simpa [World.setCell] using HZ.out, by simp [HZL.out], hdz.set _ (Nat.mod_lt _ (by decide)), HST.out⟩
      case measure => simp [intOf]; omega
     ·have hx2i : ¬ (k : Int) < n2 := by omega
      rw [List.getElem?_eq_none (by rw [← hs2.len]; omega)] at hy
      simp only [Option.getD_none] at hy
      subst hy
      go_wp2
      exact ⟨⟨k + 1, c / 4294967296, zs.set k (c % 4294967296), by omega, by go_num, by go_num, by omega, hr.set _ _, ho.set _ _, by simpa [World.setCell] using HZ.out, by simp [HZL.out], hdz.set _ (Nat.mod_lt _ (by decide)), HST.out⟩, by simp [intOf]; omega⟩
   ·obtain rfl : k = n2 + 1 := by omega
    have hsl := hr.sl (by rw [HZL.out]; omega)
    rw [HZL.out] at hsl
    have hki : ¬ ((n2 + 1 : Nat) : Int) ≤ n2 := by omega
    go_wp2_with (go_at_call 60; refine (rtrim_sl _ _ _ _ _ zs hsl).mono ?_; rintro e w2 ⟨m, rfl, h1, h2, rfl⟩)
    go_ret
    exact retN_trim h1 hdz (add_end (by decide) hd hd2 (by rw [← hs1.len]; omega) (by rw [← hs2.len]; omega) HZL.out HV.out) hbel
 ·have hgi : ¬ (n1 : Int) < n2 := by omega
  obtain ⟨n, hn⟩ : ∃ n, n = n1 := ⟨_, rfl⟩
  have hn1 : n1 ≤ n := by omega
  have hn2 : n2 ≤ n := by omega
  have HN := hid hn
  clear hn
  go_enter Tryz.func32, Tryz.ntmps32
  go_wp2_with (at_make; refine wl_make rfl _ _ Tryz.underlying28 rfl _ (n1 + 1) rfl (by omega) (by omega) ?_; intro w1 hR hB1 hz1; obtain ⟨g, hg⟩ : ∃ g, g = w.heap.size := ⟨_, rfl⟩; rw [← hg] at hR ⊢; have HG := hid hg; have HZ1 := hid hz1; clear hg hz1)
  go_loopw [7, 8] (fun cv i wr => ∃ k c zs, k ≤ n1 + 1 ∧ i = .int .i64 (k : Nat) ∧ cv = .int .u64 ((c : Nat) : Int) ∧ c ≤ 1 ∧ Row wr g zs ∧ Only w1 wr g ∧ wr.heap.size = w1.heap.size ∧ zs.length = n1 + 1 ∧ Dg b32 zs ∧ V b32 (zs.take k) + b32 ^ k * c = V b32 (xs.take k) + V b32 (ys.take k)) (fun _ i _ => n1 + 1 - (intOf i).toNat)
  case atStart => exact ⟨0, 0, _, Nat.zero_le _, rfl, rfl, by omega, hR, Only.refl _ _, rfl, by simp, dg_zeros b32_pos _, rfl⟩
  case round =>
   obtain ⟨k, c, zs, hk, rfl, rfl, hc1, hr, ho, hz, hzl, hdz, hv⟩ := hrel
   have HZ := hid hz
   have HZL := hid hzl
   have HV := hid hv
   clear hz hzl hv
   have hbel : Below w.heap.size w wr := hB1.trans (ho.below (by rw [HG.out]; exact Nat.le_refl _) (by rw [HZ1.out]; omega))
   by_cases hle : k ≤ n1
   ·have hs1r := hs1.below (hbel.mono hB)
    have hs2r := hs2.below (hbel.mono hB)
    have hf := hr.frozen
    obtain ⟨y0, hy0⟩ := get_lt (zs := zs) (k := k) (by rw [HZL.out]; omega)
    have hcy := hr.at_ hy0
    clear hy0
    have hki : (k : Int) ≤ n1 := by omega
    obtain ⟨x, hx⟩ : ∃ x, xs[k]?.getD 0 = x := ⟨_, rfl⟩
    obtain ⟨y, hy⟩ : ∃ y, ys[k]?.getD 0 = y := ⟨_, rfl⟩
    have hst := add_step (B := b32) (zs := zs) (k := k) (c := c) (x := x) (y := y) (by rw [HZL.out]; omega) HV.out hx hy
    have HST := hid hst
    clear hst
    by_cases hx1 : k < n1
    ·obtain ⟨b, off, x', rfl, hb1, hx', hc⟩ := hs1r.at_ hx1
     rw [hx'] at hx
     simp only [Option.getD_some] at hx
     subst hx
     have hxl : (x' : Int) < 4294967296 := by have := lt32.1 (hd.get hx'); omega
     clear hx'
     have hx1i : (k : Int) < n1 := by omega
     have hbg : b ≠ g := by have := HG.out; omega
     have hbg' : g ≠ b := fun e => hbg e.symm
     by_cases hx2 : k < n2
     ·obtain ⟨b2, off2, y', rfl, hb2, hy', hc2⟩ := hs2r.at_ hx2
      rw [hy'] at hy
      simp only [Option.getD_some] at hy
      subst hy
      have hyl : (y' : Int) < 4294967296 := by have := lt32.1 (hd2.get hy'); omega
      clear hy'
      have hx2i : (k : Int) < n2 := by omega
      have hbg2 : b2 ≠ g := by have := HG.out; omega
      have hbg2' : g ≠ b2 := fun e => hbg2 e.symm
      go_wp2
      go_roundw
      case rel => exact ⟨k + 1, (c + x' + y') / 4294967296, zs.set k ((c + x' + y') % 4294967296), by omega, by go_num, by go_num, by omega, hr.set _ _, ho.set _ _, by simpa [World.setCell] using HZ.out, by simp [HZL.out], hdz.set _ (Nat.mod_lt _ (by decide)), HST.out⟩
      case measure => simp [intOf]; omega
     ·have hx2i : ¬ (k : Int) < n2 := by omega
      rw [List.getElem?_eq_none (by rw [← hs2.len]; omega)] at hy
      simp only [Option.getD_none] at hy
      subst hy
      go_wp2
      go_roundw
      case rel => exact ⟨k + 1, (c + x' + 0) / 4294967296, zs.set k ((c + x' + 0) % 4294967296), by omega, by go_num, by go_num, by omega, hr.set _ _, ho.set _ _, by simpa [World.setCell] using HZ.out, by simp [HZL.out], hdz.set _ (Nat.mod_lt _ (by decide)), HST.out⟩
      case measure => simp [intOf]; omega
    ·have hx1i : ¬ (k : Int) < n1 := by omega
     rw [List.getElem?_eq_none (by rw [← hs1.len]; omega)] at hx
     simp only [Option.getD_none] at hx
     subst hx
     by_cases hx2 : k < n2
     ·exfalso; omega
     ·have hx2i : ¬ (k : Int) < n2 := by omega
      rw [List.getElem?_eq_none (by rw [← hs2.len]; omega)] at hy
      simp only [Option.getD_none] at hy
      subst hy
      go_wp2
      exact ⟨⟨k + 1, c / 4294967296, zs.set k (c % 4294967296), by omega, by go_num, by go_num, by omega, hr.set _ _, ho.set _ _, by simpa [World.setCell] using HZ.out, by simp [HZL.out], hdz.set _ (Nat.mod_lt _ (by decide)), HST.out⟩, by simp [intOf]; omega⟩
   ·obtain rfl : k = n1 + 1 := by omega
    have hsl := hr.sl (by rw [HZL.out]; omega)
    rw [HZL.out] at hsl
    have hki : ¬ ((n1 + 1 : Nat) : Int) ≤ n1 := by omega
    go_wp2_with (go_at_call 60; refine (rtrim_sl _ _ _ _ _ zs hsl).mono ?_; rintro e w2 ⟨m, rfl, h1, h2, rfl⟩)
    go_ret
    exact retN_trim h1 hdz (add_end (by decide) hd hd2 (by rw [← hs1.len]; omega) (by rw [← hs2.len]; omega) HZL.out HV.out) hbel
theorem Row.set_ {w : World} {g : Nat} {zs : List Nat} (h : Row w g zs) {i x : Nat} {z : Int} (e : z = (x : Int)) : Row (w.setCell ⟨g, i, none⟩ (.int .u64 z)) g (zs.set i x) := by subst e; exact h.set i x
theorem rsub_any (w : World) (B : Nat) (hB : B ≤ w.heap.size) (A1 : Option Addr) (n1 c1 : Nat) (xs : List Nat) (hs1 : Sl w B A1 n1 c1 xs) (A2 : Option Addr) (n2 c2 : Nat) (ys : List Nat) (hs2 : Sl w B A2 n2 c2 ys)
  (hd : Dg b32 xs) (hd2 : Dg b32 ys) (h1 : n1 ≤ 1000000000) (h2 : n2 ≤ n1) (hle : V b32 ys ≤ V b32 xs) :
  Calls Tryz.prog 31 #[.slice A1 n1 c1, .slice A2 n2 c2] w fun e w' => RetN b32 w (V b32 xs - V b32 ys) e w' := by
 have hlc1 := hs1.cap
 have hm1 := hs1.max
 have hlc2 := hs2.cap
 have hm2 := hs2.max
 go_enter Tryz.func31, Tryz.ntmps31
 go_wp2_with (at_make; refine wl_make rfl _ _ Tryz.underlying28 rfl _ n1 rfl (by omega) (by omega) ?_; intro w1 hR hB1 hz1; obtain ⟨g, hg⟩ : ∃ g, g = w.heap.size := ⟨_, rfl⟩; rw [← hg] at hR ⊢; have HG := hid hg; have HZ1 := hid hz1; clear hg hz1)
 go_loopw [6, 7] (fun cv i wr => ∃ k c zs, k ≤ n1 ∧ i = .int .i64 (k : Nat) ∧ cv = .int .u64 ((c : Nat) : Int) ∧ c ≤ 1 ∧ Row wr g zs ∧ Only w1 wr g ∧ wr.heap.size = w1.heap.size ∧ zs.length = n1 ∧ Dg b32 zs ∧ V b32 (zs.take k) + V b32 (ys.take k) = V b32 (xs.take k) + b32 ^ k * c) (fun _ i _ => n1 - (intOf i).toNat)
 case atStart => exact ⟨0, 0, _, Nat.zero_le _, rfl, rfl, by omega, hR, Only.refl _ _, rfl, by simp, dg_zeros b32_pos _, rfl⟩
 case round =>
  obtain ⟨k, c, zs, hk, rfl, rfl, hc1, hr, ho, hz, hzl, hdz, hv⟩ := hrel
  have HZ := hid hz
  have HZL := hid hzl
  have HV := hid hv
  clear hz hzl hv
  have hbel : Below w.heap.size w wr := hB1.trans (ho.below (by rw [HG.out]; exact Nat.le_refl _) (by rw [HZ1.out]; omega))
  by_cases hlt : k < n1
  ·have hs1r := hs1.below (hbel.mono hB)
   have hs2r := hs2.below (hbel.mono hB)
   have hf := hr.frozen
   obtain ⟨y0, hy0⟩ := get_lt (zs := zs) (k := k) (by rw [HZL.out]; omega)
   have hcy := hr.at_ hy0
   clear hy0
   have hki : (k : Int) < n1 := by omega
   obtain ⟨b, off, x', rfl, hb1, hx', hc⟩ := hs1r.at_ hlt
   have hxl : (x' : Int) < 4294967296 := by have := lt32.1 (hd.get hx'); omega
   have HX := hid hx'
   clear hx'
   have hbg : b ≠ g := by have := HG.out; omega
   have hbg' : g ≠ b := fun e => hbg e.symm
   obtain ⟨y, hy⟩ : ∃ y, ys[k]?.getD 0 = y := ⟨_, rfl⟩
   by_cases hx2 : k < n2
   ·obtain ⟨b2, off2, y', rfl, hb2, hy', hc2⟩ := hs2r.at_ hx2
    rw [hy'] at hy
    simp only [Option.getD_some] at hy
    subst hy
    have HY : Hid (ys[k]?.getD 0 = y') := by show _ = _; rw [hy']; rfl
    have hyl : (y' : Int) < 4294967296 := by have := lt32.1 (hd2.get hy'); omega
    clear hy'
    have hx2i : (k : Int) < n2 := by omega
    have hbg2 : b2 ≠ g := by have := HG.out; omega
    have hbg2' : g ≠ b2 := fun e => hbg2 e.symm
    by_cases hlt : x' < c + y'
    ·have hli : (x' : Int) < (c : Int) + y' := by omega
     have hst := sub_step (B := b32) (zs := zs) (k := k) (c := c) (d := 1) (z := x' + 4294967296 - (c + y')) (x := x') (y := y') (by rw [HZL.out]; omega) HV.out (by rw [HX.out]; rfl) HY.out (by rw [b32_eq]; omega)
     have HST := hid hst
     clear hst
     go_wp2
     go_roundw
     case rel => exact ⟨k + 1, 1, zs.set k (x' + 4294967296 - (c + y')), by omega, by go_num, by go_num, by omega, hr.set_ (by omega), (ho.set _ _), by simpa [World.setCell] using HZ.out, by simp [HZL.out], hdz.set _ (by rw [lt32]; omega), HST.out⟩
     case measure => simp [intOf]; omega
    ·have hli : ¬ (x' : Int) < (c : Int) + y' := by omega
     have hst := sub_step (B := b32) (zs := zs) (k := k) (c := c) (d := 0) (z := x' - (c + y')) (x := x') (y := y') (by rw [HZL.out]; omega) HV.out (by rw [HX.out]; rfl) HY.out (by omega)
     have HST := hid hst
     clear hst
     go_wp2
     go_roundw
     case rel => exact ⟨k + 1, 0, zs.set k (x' - (c + y')), by omega, by go_num, by go_num, by omega, hr.set_ (by omega), (ho.set _ _), by simpa [World.setCell] using HZ.out, by simp [HZL.out], hdz.set _ (by rw [lt32]; omega), HST.out⟩
     case measure => simp [intOf]; omega
   ·have hx2i : ¬ (k : Int) < n2 := by omega
    rw [List.getElem?_eq_none (by rw [← hs2.len]; omega)] at hy
    simp only [Option.getD_none] at hy
    subst hy
    have HY : Hid (ys[k]?.getD 0 = 0) := by show _ = _; rw [List.getElem?_eq_none (by rw [← hs2.len]; omega)]; rfl
    by_cases hlt : x' < c
    ·have hli : (x' : Int) < (c : Int) := by omega
     have hst := sub_step (B := b32) (zs := zs) (k := k) (c := c) (d := 1) (z := x' + 4294967296 - (c)) (x := x') (y := 0) (by rw [HZL.out]; omega) HV.out (by rw [HX.out]; rfl) HY.out (by rw [b32_eq]; omega)
     have HST := hid hst
     clear hst
     go_wp2
     go_roundw
     case rel => exact ⟨k + 1, 1, zs.set k (x' + 4294967296 - (c)), by omega, by go_num, by go_num, by omega, hr.set_ (by omega), (ho.set _ _), by simpa [World.setCell] using HZ.out, by simp [HZL.out], hdz.set _ (by rw [lt32]; omega), HST.out⟩
     case measure => simp [intOf]; omega
    ·have hli : ¬ (x' : Int) < (c : Int) := by omega
     have hst := sub_step (B := b32) (zs := zs) (k := k) (c := c) (d := 0) (z := x' - (c)) (x := x') (y := 0) (by rw [HZL.out]; omega) HV.out (by rw [HX.out]; rfl) HY.out (by omega)
     have HST := hid hst
     clear hst
     go_wp2
     go_roundw
     case rel => exact ⟨k + 1, 0, zs.set k (x' - (c)), by omega, by go_num, by go_num, by omega, hr.set_ (by omega), (ho.set _ _), by simpa [World.setCell] using HZ.out, by simp [HZL.out], hdz.set _ (by rw [lt32]; omega), HST.out⟩
     case measure => simp [intOf]; omega
  ·obtain rfl : k = n1 := by omega
   have hsl := hr.sl (by rw [HZL.out]; omega)
   rw [HZL.out] at hsl
   go_wp2_with (go_at_call 60; refine (rtrim_sl _ _ _ _ _ zs hsl).mono ?_; rintro e w2 ⟨m, rfl, h1, h2, rfl⟩)
   go_ret
   exact retN_trim h1 hdz (sub_end hdz hs1.len.symm (by rw [← hs2.len]; omega) HZL.out hle HV.out) hbel
theorem rmul_any (w : World) (B : Nat) (hB : B ≤ w.heap.size) (A1 : Option Addr) (n1 c1 : Nat) (xs : List Nat) (hs1 : Sl w B A1 n1 c1 xs) (A2 : Option Addr) (n2 c2 : Nat) (ys : List Nat) (hs2 : Sl w B A2 n2 c2 ys)
  (hd : Dg b32 xs) (hd2 : Dg b32 ys) (h1 : n1 ≤ 1000000000) (h2 : n2 ≤ 1000000000) :
  Calls Tryz.prog 82 #[.slice A1 n1 c1, .slice A2 n2 c2] w fun e w' => RetN b32 w (V b32 xs * V b32 ys) e w' := by
 have hlc1 := hs1.cap
 have hm1 := hs1.max
 have hlc2 := hs2.cap
 have hm2 := hs2.max
 go_enter Tryz.func82, Tryz.ntmps82
 go_wp2_with (at_make; refine wl_make rfl _ _ Tryz.underlying28 rfl _ (n1 + n2) rfl (by omega) (by omega) ?_; intro w1 hR hB1 hz1; obtain ⟨g, hg⟩ : ∃ g, g = w.heap.size := ⟨_, rfl⟩; rw [← hg] at hR ⊢; have HG := hid hg; have HZ1 := hid hz1; clear hg hz1)
 go_loopw [6] (fun i wr => ∃ k zs, k ≤ n1 ∧ i = .int .i64 (k : Nat) ∧ Row wr g zs ∧ Only w1 wr g ∧ wr.heap.size = w1.heap.size ∧ zs.length = n1 + n2 ∧ Dg b32 zs ∧ (∀ t, k + n2 ≤ t → t < n1 + n2 → zs[t]? = some 0) ∧ V b32 zs = V b32 (xs.take k) * V b32 ys) (fun i _ => n1 - (intOf i).toNat)
 case atStart => exact ⟨0, _, Nat.zero_le _, rfl, hR, Only.refl _ _, rfl, by simp, dg_zeros b32_pos _, fun t _ ht => by simp [ht], by rw [V_replicate]; simp [V]⟩
 case round =>
  obtain ⟨k, zs, hk, rfl, hr, ho, hz, hzl, hdz, hzz, hv⟩ := hrel
  obtain ⟨wo, rfl⟩ : ∃ wo : World, wo = wr := ⟨_, rfl⟩
  have HZ := hid hz
  have HZL := hid hzl
  have HV := hid hv
  have HZZ := hid hzz
  clear hz hzl hv hzz
  have hbel : Below w.heap.size w wo := hB1.trans (ho.below (by rw [HG.out]; exact Nat.le_refl _) (by rw [HZ1.out]; omega))
  by_cases hlt : k < n1
  ·have hs1r := hs1.below (hbel.mono hB)
   have hki : (k : Int) < n1 := by omega
   obtain ⟨b, off, x, rfl, hb1, hx, hc⟩ := hs1r.at_ hlt
   have hxl : (x : Int) < 4294967296 := by have := lt32.1 (hd.get hx); omega
   have HX := hid hx
   clear hx
   go_wp2
   go_loopw [7, 9] (fun cv j wr => ∃ t c zs', t ≤ n2 ∧ j = .int .i64 (t : Nat) ∧ cv = .int .u64 ((c : Nat) : Int) ∧ c < 4294967296 ∧ Row wr g zs' ∧ Only w1 wr g ∧ wr.heap.size = w1.heap.size ∧ zs'.length = n1 + n2 ∧ Dg b32 zs' ∧ (∀ t, k + n2 ≤ t → t < n1 + n2 → zs'[t]? = some 0) ∧ V b32 zs' + b32 ^ (k + t) * c = V b32 zs + b32 ^ k * (x * V b32 (ys.take t))) (fun _ j _ => n2 - (intOf j).toNat)
   case atStart => exact ⟨0, 0, zs, Nat.zero_le _, rfl, rfl, by omega, hr, ho, HZ.out, HZL.out, hdz, HZZ.out, by simp [V]⟩
   case round =>
    obtain ⟨t, c, zs', ht, rfl, rfl, hc1, hr', ho', hz', hzl', hdz', hzz', hv'⟩ := hrel
    have HZ' := hid hz'
    have HZL' := hid hzl'
    have HV' := hid hv'
    have HZZ' := hid hzz'
    clear hz' hzl' hv' hzz'
    have hf := hr'.frozen
    have hbel' : Below w.heap.size w wr := hB1.trans (ho'.below (by rw [HG.out]; exact Nat.le_refl _) (by rw [HZ1.out]; omega))
    by_cases hlt2 : t < n2
    ·have hs2r := hs2.below (hbel'.mono hB)
     have hti : (t : Int) < n2 := by omega
     obtain ⟨b2, off2, y, rfl, hb2, hy, hc2⟩ := hs2r.at_ hlt2
     have hyl : (y : Int) < 4294967296 := by have := lt32.1 (hd2.get hy); omega
     have HY := hid hy
     clear hy
     have hbg2 : b2 ≠ g := by have := HG.out; omega
     have hbg2' : g ≠ b2 := fun e => hbg2 e.symm
     obtain ⟨d, hd0⟩ := get_lt (zs := zs') (k := k + t) (by rw [HZL'.out]; omega)
     have hcy := hr'.at_ hd0
     have hdl : (d : Int) < 4294967296 := by have := lt32.1 (hdz'.get hd0); omega
     have hst := mul_step (B := b32) (i := k) (j := t) (c := c) (x := x) hd0 HY.out HV'.out
     have HST := hid hst
     clear hst hd0
     have hxy : (x : Int) * (y : Int) ≤ 18446744065119617025 := by have h := mul_le32 (x := x) (y := y) (by omega) (by omega); rw [← Int.natCast_mul]; omega
     have hxy0 : (0 : Int) ≤ (x : Int) * (y : Int) := Int.mul_nonneg (by omega) (by omega)
     have hkt : (0 : Int) ≤ (k : Int) + t := by omega
     have hkt2 : (k : Int) + t < n1 + n2 := by omega
     go_wp2
     go_quiet (fail)
     go_wp2
     have hxyN : ((x * y : Nat) : Int) = (x : Int) * y := Int.natCast_mul ..
     have hlast : (c + (d + x * y)) / 4294967296 < 4294967296 := by have h := mul_le32 (x := x) (y := y) (by omega) (by omega); omega
     go_roundw
     case rel => exact ⟨t + 1, (c + (d + x * y)) / 4294967296, zs'.set (k + t) ((c + (d + x * y)) % 4294967296), by omega, by go_num, by go_num, hlast, (hr'.drewN _).set_ (by omega), ((ho'.drewN _).set _ _), by simpa [World.setCell] using HZ'.out, by simp [HZL'.out], hdz'.set _ (Nat.mod_lt _ (by decide)), fun u hu1 hu2 => by rw [List.getElem?_set_ne (by omega)]; exact HZZ'.out u hu1 hu2, HST.out⟩
     case measure => simp [intOf]; omega
    ·obtain rfl : t = n2 := by omega
     have hcy := hr'.at_ (HZZ'.out (k + t) (Nat.le_refl _) (by omega))
     have hkt : (0 : Int) ≤ (k : Int) + t := by omega
     have hkt2 : (k : Int) + t < n1 + t := by omega
     go_wp2
     go_roundw
     case rel => exact ⟨k + 1, zs'.set (k + t) c, by omega, by go_num, hr'.set _ _, ho'.set _ _, by simpa [World.setCell] using HZ'.out, by simp [HZL'.out], hdz'.set _ (by rw [lt32]; omega), fun u hu1 hu2 => by rw [List.getElem?_set_ne (by omega)]; exact HZZ'.out u (by omega) hu2, mul_row (HZZ'.out _ (Nat.le_refl _) (by omega)) hs2.len HX.out HV.out HV'.out⟩
     case measure => simp [intOf]; omega
  ·obtain rfl : k = n1 := by omega
   have hsl := hr.sl (by rw [HZL.out]; omega)
   rw [HZL.out] at hsl
   go_wp2_with (go_at_call 60; refine (rtrim_sl _ _ _ _ _ zs hsl).mono ?_; rintro e w2 ⟨m, rfl, h1, h2, rfl⟩)
   go_ret
   exact retN_trim h1 hdz (by rw [HV.out, List.take_of_length_le (by rw [← hs1.len]; omega)]) hbel
theorem callAdd64 (x y c : Nat) (hc : c ≤ 1) (w : World) :
  (callFunc 105 #[.int .u64 x, .int .u64 y, .int .u64 c]).run Tryz.prog w =
   .ok (.value (.tuple #[.int .u64 (((x + y + c) % 18446744073709551616 : Nat) : Int), .int .u64 (((x + y + c) / 18446744073709551616 : Nat) : Int)])) w := by
 rw [run_callFunc_extern Tryz.func105 (by kernel_rfl) (by kernel_rfl) (by kernel_rfl) (e := add64Entry) (by kernel_rfl), run_add64 x y c (by omega) (by omega) (by omega) (by omega)]
 simp only [Result.andThen]
 congr 5 <;> omega
def sub64E : Array Value → Sem Value := fun args => do
 let (x, y, b) ← Extern.MathBitsCarry.three "Sub64" args
 pure (Extern.MathBitsCarry.pair ((x + Extern.MathBitsCarry.m64 - y - b) % Extern.MathBitsCarry.m64) (if x < y + b then 1 else 0))
theorem run_sub64E (x y b : Nat) (hb : b ≤ 1) (w : World) :
  (sub64E #[.int .u64 x, .int .u64 y, .int .u64 b]).run Tryz.prog w =
   .ok (.tuple #[.int .u64 (((x + 18446744073709551616 - y - b) % 18446744073709551616 : Nat) : Int), .int .u64 ((if x < y + b then 1 else 0 : Nat) : Int)]) w := by
 have : b = 0 ∨ b = 1 := by omega
 rcases this with rfl | rfl <;> rfl
theorem callSub64 (x y b : Nat) (hb : b ≤ 1) (w : World) :
  (callFunc 92 #[.int .u64 x, .int .u64 y, .int .u64 b]).run Tryz.prog w =
   .ok (.value (.tuple #[.int .u64 (((x + 18446744073709551616 - y - b) % 18446744073709551616 : Nat) : Int), .int .u64 ((if x < y + b then 1 else 0 : Nat) : Int)])) w := by
 rw [run_callFunc_extern Tryz.func92 (by kernel_rfl) (by kernel_rfl) (by kernel_rfl) (e := sub64E) (by kernel_rfl), run_sub64E x y b hb]
 rfl
theorem wl_add64 {w : World} {ops : Array Oper} {rest : List Oper} {o : Oper} {a : Act} {Q : Exit → Act → World → Prop} (hgd : o.guard = none) (p q r : Operand)
  (ho : o.op = .call { callee := .value (.func 105), args := #[p, q, r], argTypes := #[63, 63, 63] })
  (x y c : Nat) (hp : a.eval p = .int .u64 x) (hq : a.eval q = .int .u64 y) (hr : a.eval r = .int .u64 c) (hx : x < b64) (hy : y < b64) (hc : c ≤ 1)
  (h : ∀ s c' : Nat, s + b64 * c' = x + y + c → s < b64 → c' ≤ 1 → wpList Tryz.prog ops Q rest (a.put o.dst (.tuple #[.int .u64 (s : Int), .int .u64 (c' : Int)])) w) : wpList Tryz.prog ops Q (o :: rest) a w := by
 obtain ⟨s, c', hrun, h1, h2, h3⟩ : ∃ s c' : Nat, (callFunc 105 #[.int .u64 x, .int .u64 y, .int .u64 c]).run Tryz.prog w = .ok (.value (.tuple #[.int .u64 (s : Int), .int .u64 (c' : Int)])) w ∧ s + b64 * c' = x + y + c ∧ s < b64 ∧ c' ≤ 1 :=
  ⟨_, _, callAdd64 x y c hc w, by unfold b64; omega, by rw [lt64]; omega, by rw [lt64] at hx hy; omega⟩
 have h' := h s c' h1 h2 h3
 refine wpList_plain hgd fun K hK => ?_
 have hev : a.eval (.func 105) = .func (.func 105) #[] #[] := rfl
 unfold Oper.wp
 simp [execOp, ho, resolve, invoke, hev, hp, hq, hr, hrun, Deferred.ofValue]
 exact hK _ _ h'
theorem wl_sub64 {w : World} {ops : Array Oper} {rest : List Oper} {o : Oper} {a : Act} {Q : Exit → Act → World → Prop} (hgd : o.guard = none) (p q r : Operand)
  (ho : o.op = .call { callee := .value (.func 92), args := #[p, q, r], argTypes := #[63, 63, 63] })
  (x y c : Nat) (hp : a.eval p = .int .u64 x) (hq : a.eval q = .int .u64 y) (hr : a.eval r = .int .u64 c) (hx : x < b64) (hy : y < b64) (hc : c ≤ 1)
  (h : ∀ s c' : Nat, s + (y + c) = x + b64 * c' → s < b64 → c' ≤ 1 → wpList Tryz.prog ops Q rest (a.put o.dst (.tuple #[.int .u64 (s : Int), .int .u64 (c' : Int)])) w) : wpList Tryz.prog ops Q (o :: rest) a w := by
 obtain ⟨s, c', hrun, h1, h2, h3⟩ : ∃ s c' : Nat, (callFunc 92 #[.int .u64 x, .int .u64 y, .int .u64 c]).run Tryz.prog w = .ok (.value (.tuple #[.int .u64 (s : Int), .int .u64 (c' : Int)])) w ∧ s + (y + c) = x + b64 * c' ∧ s < b64 ∧ c' ≤ 1 := by
  refine ⟨_, _, callSub64 x y c hc w, ?_, by rw [lt64]; omega, by split <;> omega⟩
  rw [lt64] at hx hy
  unfold b64
  split <;> omega
 have h' := h s c' h1 h2 h3
 refine wpList_plain hgd fun K hK => ?_
 have hev : a.eval (.func 92) = .func (.func 92) #[] #[] := rfl
 unfold Oper.wp
 simp [execOp, ho, resolve, invoke, hev, hp, hq, hr, hrun, Deferred.ofValue]
 exact hK _ _ h'
def RetAdd (w : World) (g off n : Nat) (zs : List Nat) (v : Nat) (e : Ending) (w' : World) : Prop :=
 ∃ c zs', e = .returned (.int .u64 ((c : Nat) : Int)) ∧ c ≤ 1 ∧ Row w' g zs' ∧ Only w w' g ∧ w'.heap.size = w.heap.size ∧ zs'.length = zs.length ∧ Dg b64 zs' ∧
  (∀ t, t < off ∨ off + n ≤ t → zs'[t]? = zs[t]?) ∧ V b64 zs' + b64 ^ (off + n) * c = V b64 zs + b64 ^ off * v
theorem addTo_any (w : World) (g off nz cz : Nat) (zs : List Nat) (hr : Row w g zs) (B : Nat) (A : Option Addr) (n c : Nat) (ys : List Nat) (hs : Sl w B A n c ys) (hB : B ≤ g)
  (hfit : off + n ≤ zs.length) (hnz : n ≤ nz) (hd : Dg b64 zs) (hd2 : Dg b64 ys) :
  Calls Tryz.prog 93 #[.slice (some ⟨g, off, none⟩) nz cz, .slice A n c] w fun e w' => RetAdd w g off n zs (V b64 ys) e w' := by
 have hlc := hs.cap
 have hm := hs.max
 have hgs : g < w.heap.size := hr.lt
 go_enter Tryz.func93, Tryz.ntmps93
 go_wp2
 go_loopw [5, 10] (fun cv i wr => ∃ k c zs', k ≤ n ∧ i = .int .i64 (k : Nat) ∧ cv = .int .u64 ((c : Nat) : Int) ∧ c ≤ 1 ∧ Row wr g zs' ∧ Only w wr g ∧ wr.heap.size = w.heap.size ∧ zs'.length = zs.length ∧ Dg b64 zs' ∧
  (∀ t, t < off ∨ off + n ≤ t → zs'[t]? = zs[t]?) ∧ V b64 zs' + b64 ^ (off + k) * c = V b64 zs + b64 ^ off * V b64 (ys.take k)) (fun _ i _ => n - (intOf i).toNat)
 case atStart => exact ⟨0, 0, zs, Nat.zero_le _, rfl, rfl, by omega, hr, Only.refl _ _, rfl, rfl, hd, fun _ _ => rfl, by simp [V]⟩
 case round =>
  obtain ⟨k, c', zs', hk, rfl, rfl, hc1, hr', ho, hz, hzl, hdz, hzz, hv⟩ := hrel
  have HZ := hid hz
  have HZL := hid hzl
  have HV := hid hv
  have HZZ := hid hzz
  clear hz hzl hv hzz
  by_cases hlt : k < n
  ·have hsr := hs.below (ho.below hB (by omega))
   have hf := hr'.frozen
   have hki : (k : Int) < n := by omega
   obtain ⟨b, off', y, rfl, hb, hy, hc⟩ := hsr.at_ hlt
   have hyl := hd2.get hy
   have HY := hid hy
   clear hy
   obtain ⟨old, hold⟩ := get_lt (zs := zs') (k := off + k) (by rw [HZL.out]; omega)
   have hcy := hr'.at_ hold
   have hol := hdz.get hold
   have HO := hid hold
   clear hold
   have hkz : (k : Int) < nz := by omega
   go_wp2_with (with_reducible show wpList _ _ _ _ _ _; refine wl_add64 (o := ⟨some 24, _, _, _, _, _⟩) rfl _ _ _ rfl old y c' rfl rfl rfl hol hyl hc1 ?_; intro s c2 hs1 hs2 hs3; have HS := hid hs1; have HS2 := hid hs2; clear hs1 hs2)
   go_roundw
   case rel => exact ⟨k + 1, c2, zs'.set (off + k) s, by omega, by go_num, by go_num, hs3, hr'.set _ _, ho.set _ _, by simpa [World.setCell] using HZ.out, by simp [HZL.out], hdz.set _ HS2.out, fun t ht => by rw [List.getElem?_set_ne (by omega)]; exact HZZ.out t ht, addTo_step HO.out HY.out HV.out HS.out⟩
   case measure => simp [intOf]; omega
  ·obtain rfl : k = n := by omega
   go_wp2
   go_ret
   have hv := HV.out
   rw [List.take_of_length_le (by rw [← hs.len]; omega)] at hv
   exact ⟨c', zs', rfl, hc1, hr', ho, HZ.out, HZL.out, hdz, HZZ.out, hv⟩
theorem norm_any (w : World) (B : Nat) (A : Option Addr) (n c : Nat) (xs : List Nat) (hs : Sl w B A n c xs) (hd : Dg b64 xs) (hn : n ≤ 17592186044416) :
  Calls Tryz.prog 43 #[.slice A n c] w fun e w' => RetN b64 w (V b64 xs) e w' := by
 have hlc := hs.cap
 have hm := hs.max
 go_enter Tryz.func43, Tryz.ntmps43
 go_wp2_with (first | (go_at_call 74; refine (ltrim_sl w B A n c xs hs).mono ?_; rintro e w1 ⟨m, rfl, h1, h2, rfl⟩) | (at_builtin; refine wl_append_nil rfl _ _ Tryz.underlying23 rfl A m c (trimmed xs) rfl B h1 (by omega) ?_; intro A' c' w1 h3 h4))
 go_ret
 exact ⟨_, trimmed_nm hd, _, _, _, rfl, h3, h4⟩
theorem copy_V {zs ys : List Nat} {B n : Nat} (hz : zs = List.replicate n 0) (hl : ys.length ≤ n) : V B (splice zs 0 ys) = V B ys ∧ (splice zs 0 ys).length = n ∧ (∀ t, ys.length ≤ t → t < n → (splice zs 0 ys)[t]? = some 0) := by
 subst hz
 have e : splice (List.replicate n 0) 0 ys = ys ++ List.replicate (n - ys.length) 0 := by simp [splice]
 rw [e]
 refine ⟨V_zeros ys _, by simp; omega, fun t h1 h2 => ?_⟩
 rw [List.getElem?_append_right h1, List.getElem?_replicate]
 simp; omega
theorem copy_Dg {zs ys : List Nat} {B : Nat} (hz : Dg B zs) (hy : Dg B ys) (o : Nat) : Dg B (splice zs o ys) := (hz.take _).append (hy.append (hz.drop _))
theorem ladd_any (w : World) (B : Nat) (hB : B ≤ w.heap.size) (A1 : Option Addr) (n1 c1 : Nat) (xs : List Nat) (hs1 : Sl w B A1 n1 c1 xs) (A2 : Option Addr) (n2 c2 : Nat) (ys : List Nat) (hs2 : Sl w B A2 n2 c2 ys)
  (hd : Dg b64 xs) (hd2 : Dg b64 ys) (h1 : n1 ≤ 17592186044416) (h2 : n2 ≤ 17592186044416) :
  Calls Tryz.prog 76 #[.slice A1 n1 c1, .slice A2 n2 c2] w fun e w' => RetN b64 w (V b64 xs + V b64 ys) e w' := by
 go_enter Tryz.func76, Tryz.ntmps76
 go_wp2_with fail
 refine (ltrim_sl w B A1 n1 c1 xs hs1).mono ?_; rintro e w1 ⟨m1, rfl, h3, h4, rfl⟩
 go_wp2_with fail
 refine (ltrim_sl w B A2 n2 c2 ys hs2).mono ?_; rintro e w1 ⟨m2, rfl, h5, h6, rfl⟩
 by_cases hlt : m1 < m2
 ·have hli : (m1 : Int) < m2 := by omega
  go_wp2_with (first | (at_make; refine wl_make rfl _ _ Tryz.underlying23 rfl _ (m2 + 1) rfl (by omega) (by omega) ?_; intro w1 hR hB1 hz1; obtain ⟨g, hg⟩ : ∃ g, g = w.heap.size := ⟨_, rfl⟩; rw [← hg] at hR ⊢; have HG := hid hg; have HZ1 := hid hz1; clear hg hz1; have hy1 := h3.below (hB1.mono hB); have hx1 := h5.below (hB1.mono hB); have hz0 : Hid ((List.replicate (m2 + 1) 0).length = m2 + 1) := (by show _ = _; simp)) | (with_reducible show wpList _ _ _ _ _ _; refine wl_copy (o := ⟨some 25, _, _, _, _, _⟩) rfl _ _ _ _ Tryz.underlying23 rfl g 0 _ _ A1 m1 c1 rfl rfl _ (trimmed xs) hR B hy1 (by rw [hz0.out]; omega) (by omega) ?_; intro w2 hR2 ho2 hs2' v2; have HS2 := hid hs2'; clear hs2'))
  have hgB : B ≤ g := by rw [HG.out]; exact hB
  have hcp := copy_V (B := b64) (zs := List.replicate (m2 + 1) 0) (ys := trimmed xs) rfl (by rw [← h3.len]; omega)
  obtain ⟨zs2, hzs2⟩ : ∃ zs2, zs2 = splice (List.replicate (m2 + 1) 0) 0 (trimmed xs) := ⟨_, rfl⟩
  have hdz2 := copy_Dg (dg_zeros b64_pos (m2 + 1)) (trimmed_nm hd).1 0
  rw [← hzs2] at hR2 hcp hdz2
  clear hzs2
  have hx2 := hx1.below (ho2.below hgB (by rw [HZ1.out]; omega))
  have HC := hid hcp
  clear hcp
  go_wp2_with (go_at_call 93; refine (addTo_any w2 g 0 _ _ zs2 hR2 B A2 m2 c2 (trimmed ys) hx2 hgB (by rw [HC.out.2.1]; omega) (by omega) hdz2 (trimmed_nm hd2).1).mono ?_; rintro e w3 ⟨c, zs3, rfl, hc1, hR3, ho3, hsz3, hl3, hd3, hzz3, hv3⟩; have HZ3 := hid hsz3; have HL3 := hid hl3; have HV3 := hid hv3; have HZZ3 := hid hzz3; clear hsz3 hl3 hv3 hzz3; have h0 : Hid (zs3[m2]? = some 0) := (by show _ = _; rw [HZZ3.out m2 (by omega)]; exact HC.out.2.2 m2 (by rw [← h3.len]; omega) (by omega)); have hcell := hR3.at_ h0.out; have hf3 := hR3.frozen; have hmi : (0 : Int) ≤ m2 := (by omega))
  have hR4 := hR3.set m2 c
  have hl4 : (zs3.set m2 c).length = m2 + 1 := by rw [List.length_set, HL3.out]; exact HC.out.2.1
  have hsl := hR4.sl (by rw [hl4]; omega)
  rw [hl4] at hsl
  have hbel : Below w.heap.size w (w3.setCell ⟨g, m2, none⟩ (.int .u64 ((c : Nat) : Int))) := hB1.trans ((ho2.trans (ho3.set m2 _)).below (by rw [HG.out]; exact Nat.le_refl _) (by rw [HZ1.out]; omega))
  have hcl : c < b64 := by rw [lt64]; omega
  have hval : V b64 (zs3.set m2 c) = V b64 xs + V b64 ys := by
   have e1 := V_set (B := b64) c h0.out
   have e2 := HV3.out
   rw [HC.out.1, (trimmed_nm hd).2.2, (trimmed_nm hd2).2.2] at e2
   rw [Nat.zero_add, Nat.pow_zero, Nat.one_mul] at e2
   rw [Nat.mul_zero, Nat.add_zero] at e1
   rw [e1, e2]
  have HVAL := hid hval
  clear hval
  go_wp2_with (go_at_call 74; refine (ltrim_sl _ _ _ _ _ _ hsl).mono ?_; rintro e w4 ⟨m, rfl, h7, h8, rfl⟩)
  go_ret
  exact retN_trim h7 (hd3.set _ hcl) HVAL.out hbel
 ·have hli : ¬ (m1 : Int) < m2 := by omega
  go_wp2_with (first | (at_make; refine wl_make rfl _ _ Tryz.underlying23 rfl _ (m1 + 1) rfl (by omega) (by omega) ?_; intro w1 hR hB1 hz1; obtain ⟨g, hg⟩ : ∃ g, g = w.heap.size := ⟨_, rfl⟩; rw [← hg] at hR ⊢; have HG := hid hg; have HZ1 := hid hz1; clear hg hz1; have hy1 := h5.below (hB1.mono hB); have hx1 := h3.below (hB1.mono hB); have hz0 : Hid ((List.replicate (m1 + 1) 0).length = m1 + 1) := (by show _ = _; simp)) | (with_reducible show wpList _ _ _ _ _ _; refine wl_copy (o := ⟨some 25, _, _, _, _, _⟩) rfl _ _ _ _ Tryz.underlying23 rfl g 0 _ _ A2 m2 c2 rfl rfl _ (trimmed ys) hR B hy1 (by rw [hz0.out]; omega) (by omega) ?_; intro w2 hR2 ho2 hs2' v2; have HS2 := hid hs2'; clear hs2'))
  have hgB : B ≤ g := by rw [HG.out]; exact hB
  have hcp := copy_V (B := b64) (zs := List.replicate (m1 + 1) 0) (ys := trimmed ys) rfl (by rw [← h5.len]; omega)
  obtain ⟨zs2, hzs2⟩ : ∃ zs2, zs2 = splice (List.replicate (m1 + 1) 0) 0 (trimmed ys) := ⟨_, rfl⟩
  have hdz2 := copy_Dg (dg_zeros b64_pos (m1 + 1)) (trimmed_nm hd2).1 0
  rw [← hzs2] at hR2 hcp hdz2
  clear hzs2
  have hx2 := hx1.below (ho2.below hgB (by rw [HZ1.out]; omega))
  have HC := hid hcp
  clear hcp
  go_wp2_with (go_at_call 93; refine (addTo_any w2 g 0 _ _ zs2 hR2 B A1 m1 c1 (trimmed xs) hx2 hgB (by rw [HC.out.2.1]; omega) (by omega) hdz2 (trimmed_nm hd).1).mono ?_; rintro e w3 ⟨c, zs3, rfl, hc1, hR3, ho3, hsz3, hl3, hd3, hzz3, hv3⟩; have HZ3 := hid hsz3; have HL3 := hid hl3; have HV3 := hid hv3; have HZZ3 := hid hzz3; clear hsz3 hl3 hv3 hzz3; have h0 : Hid (zs3[m1]? = some 0) := (by show _ = _; rw [HZZ3.out m1 (by omega)]; exact HC.out.2.2 m1 (by rw [← h5.len]; omega) (by omega)); have hcell := hR3.at_ h0.out; have hf3 := hR3.frozen; have hmi : (0 : Int) ≤ m1 := (by omega))
  have hR4 := hR3.set m1 c
  have hl4 : (zs3.set m1 c).length = m1 + 1 := by rw [List.length_set, HL3.out]; exact HC.out.2.1
  have hsl := hR4.sl (by rw [hl4]; omega)
  rw [hl4] at hsl
  have hbel : Below w.heap.size w (w3.setCell ⟨g, m1, none⟩ (.int .u64 ((c : Nat) : Int))) := hB1.trans ((ho2.trans (ho3.set m1 _)).below (by rw [HG.out]; exact Nat.le_refl _) (by rw [HZ1.out]; omega))
  have hcl : c < b64 := by rw [lt64]; omega
  have hval : V b64 (zs3.set m1 c) = V b64 xs + V b64 ys := by
   have e1 := V_set (B := b64) c h0.out
   have e2 := HV3.out
   rw [HC.out.1, (trimmed_nm hd).2.2, (trimmed_nm hd2).2.2] at e2
   rw [Nat.zero_add, Nat.pow_zero, Nat.one_mul] at e2
   rw [Nat.mul_zero, Nat.add_zero] at e1
   rw [e1, e2]
   exact Nat.add_comm _ _
  have HVAL := hid hval
  clear hval
  go_wp2_with (go_at_call 74; refine (ltrim_sl _ _ _ _ _ _ hsl).mono ?_; rintro e w4 ⟨m, rfl, h7, h8, rfl⟩)
  go_ret
  exact retN_trim h7 (hd3.set _ hcl) HVAL.out hbel
end Go.Proofs.YtbejcollbkeedaaGreat
namespace Go.Proofs
open Go.Shelf
def Tryz.lays134_ren : Go.Shelf.Ren := ⟨fun | 134 => 112 | 129 => 83 | n => n, fun | 53 => 63 | 3 => 3 | 4 => 4 | 46 => 98 | 5 => 5 | 9 => 9 | n => n, fun | n => n⟩
theorem Tryz.lays134 : Go.Proofs.Lays.n134 Tryz.prog Tryz.lays134_ren := {
 mixed := by kernel_rfl
 f129 := Tryz.func83.trans (congrArg some (by kernel_rfl))
 f134 := Tryz.func112.trans (congrArg some (by kernel_rfl))
 t3 := Tryz.underlying3
 a3 := Tryz.isAgg3
 z3 := Tryz.sizeOf3
 v3 := Tryz.zeroValue3
 t4 := Tryz.underlying4
 a4 := Tryz.isAgg4
 z4 := Tryz.sizeOf4
 v4 := Tryz.zeroValue4
 t5 := Tryz.underlying5
 a5 := Tryz.isAgg5
 z5 := Tryz.sizeOf5
 v5 := Tryz.zeroValue5
 t9 := Tryz.underlying9
 a9 := Tryz.isAgg9
 z9 := Tryz.sizeOf9
 v9 := Tryz.zeroValue9
 t46 := Tryz.underlying98
 a46 := Tryz.isAgg98
 z46 := Tryz.sizeOf98
 v46 := Tryz.zeroValue98
 t53 := Tryz.underlying63
 a53 := Tryz.isAgg63
 z53 := Tryz.sizeOf63
 v53 := Tryz.zeroValue63 }
theorem Tryz.bits_LeadingZeros64 (x : Int) (w : World) (h0 : 0 ≤ x) (h1 : x ≤ 18446744073709551615) :
  Calls Tryz.prog 112 #[.int .u64 x] w fun e w' => e = .returned (.int .i64 (64 - (Lib.bitLen x.toNat : Int))) ∧ w' = w := Any.bits_LeadingZeros64 Tryz.lays134 x w h0 h1
def Tryz.lays122_ren : Go.Shelf.Ren := ⟨fun | 122 => 95 | 215 => 108 | n => n, fun | 3 => 3 | 4 => 4 | n => n, fun | n => n⟩
theorem Tryz.lays122 : Go.Proofs.Lays.n122 Tryz.prog Tryz.lays122_ren := {
 mixed := by kernel_rfl
 f122 := Tryz.func95.trans (congrArg some (by kernel_rfl))
 f215 := Tryz.func108.trans (congrArg some (by kernel_rfl))
 t3 := Tryz.underlying3
 a3 := Tryz.isAgg3
 z3 := Tryz.sizeOf3
 v3 := Tryz.zeroValue3
 t4 := Tryz.underlying4
 a4 := Tryz.isAgg4
 z4 := Tryz.sizeOf4
 v4 := Tryz.zeroValue4 }
open Go.RowKit in
theorem Tryz.cmp_Compare_int (x y : Int) (w : World) :
  Calls Tryz.prog 95 #[.int .i64 x, .int .i64 y] w fun e w' => e = .returned (.int .i64 (Lib.compareInt x y)) ∧ w' = w := Any.cmp_Compare_int Tryz.lays122 x y w
def Tryz.lays129_ren : Go.Shelf.Ren := ⟨fun | 129 => 83 | n => n, fun | 53 => 63 | 3 => 3 | 4 => 4 | 46 => 98 | 5 => 5 | 9 => 9 | n => n, fun | n => n⟩
theorem Tryz.lays129 : Go.Proofs.Lays.n129 Tryz.prog Tryz.lays129_ren := {
 mixed := by kernel_rfl
 f129 := Tryz.func83.trans (congrArg some (by kernel_rfl))
 t3 := Tryz.underlying3
 a3 := Tryz.isAgg3
 z3 := Tryz.sizeOf3
 v3 := Tryz.zeroValue3
 t4 := Tryz.underlying4
 a4 := Tryz.isAgg4
 z4 := Tryz.sizeOf4
 v4 := Tryz.zeroValue4
 t5 := Tryz.underlying5
 a5 := Tryz.isAgg5
 z5 := Tryz.sizeOf5
 v5 := Tryz.zeroValue5
 t9 := Tryz.underlying9
 a9 := Tryz.isAgg9
 z9 := Tryz.sizeOf9
 v9 := Tryz.zeroValue9
 t46 := Tryz.underlying98
 a46 := Tryz.isAgg98
 z46 := Tryz.sizeOf98
 v46 := Tryz.zeroValue98
 t53 := Tryz.underlying63
 a53 := Tryz.isAgg63
 z53 := Tryz.sizeOf63
 v53 := Tryz.zeroValue63 }
theorem Tryz.bits_Len64 (x : Int) (w : World) (h0 : 0 ≤ x) (h1 : x ≤ 18446744073709551615) :
  Calls Tryz.prog 83 #[.int .u64 x] w fun e w' => e = .returned (.int .i64 (Lib.bitLen x.toNat)) ∧ w' = w := Any.bits_Len64 Tryz.lays129 x w h0 h1
def Tryz.lays264_ren : Go.Shelf.Ren := ⟨fun | 264 => 119 | n => n, fun | 53 => 63 | 46 => 98 | n => n, fun | n => n⟩
theorem Tryz.lays264 : Go.Proofs.Lays.n264 Tryz.prog Tryz.lays264_ren := {
 mixed := by kernel_rfl
 f264 := Tryz.func119.trans (congrArg some (by kernel_rfl))
 t46 := Tryz.underlying98
 a46 := Tryz.isAgg98
 z46 := Tryz.sizeOf98
 v46 := Tryz.zeroValue98
 t53 := Tryz.underlying63
 a53 := Tryz.isAgg63
 z53 := Tryz.sizeOf63
 v53 := Tryz.zeroValue63 }
open Go.RowKit Go.Lib in
theorem Tryz.bits_Mul64 (x y : Nat) (hx : x < 18446744073709551616) (hy : y < 18446744073709551616) (w : World) :
  Calls Tryz.prog 119 #[.int .u64 x, .int .u64 y] w fun e w' => e = .returned (.tuple #[.int .u64 ((x * y / 18446744073709551616 : Nat) : Int), .int .u64 ((x * y % 18446744073709551616 : Nat) : Int)]) ∧ w' = w := Any.bits_Mul64 Tryz.lays264 x y hx hy w
end Go.Proofs
namespace Go.Proofs.YtbejcollbkeedaaGreat
open Go.RowKit
theorem mul64_any (x y : Nat) (hx : x < b64) (hy : y < b64) (w : World) :
  Calls Tryz.prog 119 #[.int .u64 x, .int .u64 y] w fun e w' => ∃ hi lo : Nat, e = .returned (.tuple #[.int .u64 (hi : Int), .int .u64 (lo : Int)]) ∧ b64 * hi + lo = x * y ∧ hi < b64 ∧ lo < b64 ∧ w = w' := by
 refine (Tryz.bits_Mul64 x y (lt64.1 hx) (lt64.1 hy) w).mono fun e w' ⟨he, hw⟩ => ⟨_, _, he, ?_, ?_, ?_, hw.symm⟩
 ·have := Nat.div_add_mod (x * y) 18446744073709551616
  exact this
 ·apply lt_of_mul_lt_sq (B := b64)
  have h1 := mul_lt_sq hx hy
  have h2 : b64 * (x * y / 18446744073709551616) ≤ x * y := Nat.mul_div_le _ _
  have h3 := b64_pos
  omega
 ·exact Nat.mod_lt _ b64_pos
theorem addMul_any (w : World) (g off nz cz : Nat) (zs : List Nat) (hr : Row w g zs) (B : Nat) (A : Option Addr) (n c : Nat) (ys : List Nat) (hs : Sl w B A n c ys) (hB : B ≤ g)
  (hfit : off + n ≤ zs.length) (hnz : n ≤ nz) (hd : Dg b64 zs) (hd2 : Dg b64 ys) (d : Nat) (hdd : d < b64) :
  Calls Tryz.prog 116 #[.slice (some ⟨g, off, none⟩) nz cz, .slice A n c, .int .u64 d] w fun e w' =>
   ∃ c zs', e = .returned (.int .u64 ((c : Nat) : Int)) ∧ c < b64 ∧ Row w' g zs' ∧ Only w w' g ∧ w'.heap.size = w.heap.size ∧ zs'.length = zs.length ∧ Dg b64 zs' ∧
    (∀ t, t < off ∨ off + n ≤ t → zs'[t]? = zs[t]?) ∧ V b64 zs' + b64 ^ (off + n) * c = V b64 zs + b64 ^ off * (V b64 ys * d) := by
 have hlc := hs.cap
 have hm := hs.max
 have hgs : g < w.heap.size := hr.lt
 go_enter Tryz.func116, Tryz.ntmps116
 go_wp2
 go_loopw [7, 16] (fun cv i wr => ∃ k c zs', k ≤ n ∧ i = .int .i64 (k : Nat) ∧ cv = .int .u64 ((c : Nat) : Int) ∧ c < b64 ∧ Row wr g zs' ∧ Only w wr g ∧ wr.heap.size = w.heap.size ∧ zs'.length = zs.length ∧ Dg b64 zs' ∧
  (∀ t, t < off ∨ off + n ≤ t → zs'[t]? = zs[t]?) ∧ V b64 zs' + b64 ^ (off + k) * c = V b64 zs + b64 ^ off * (V b64 (ys.take k) * d)) (fun _ i _ => n - (intOf i).toNat)
 case atStart => exact ⟨0, 0, zs, Nat.zero_le _, rfl, rfl, b64_pos, hr, Only.refl _ _, rfl, rfl, hd, fun _ _ => rfl, by simp [V]⟩
 case round =>
  obtain ⟨k, c', zs', hk, rfl, rfl, hc1, hr', ho, hz, hzl, hdz, hzz, hv⟩ := hrel
  have HZ := hid hz
  have HZL := hid hzl
  have HV := hid hv
  have HZZ := hid hzz
  clear hz hzl hv hzz
  by_cases hlt : k < n
  ·have hsr := hs.below (ho.below hB (by omega))
   have hf := hr'.frozen
   have hki : (k : Int) < n := by omega
   obtain ⟨b, off', y, rfl, hb, hy, hc⟩ := hsr.at_ hlt
   have hyl := hd2.get hy
   have HY := hid hy
   clear hy
   obtain ⟨old, hold⟩ := get_lt (zs := zs') (k := off + k) (by rw [HZL.out]; omega)
   have hcy := hr'.at_ hold
   have hol := hdz.get hold
   have HO := hid hold
   clear hold
   have hkz : (k : Int) < nz := by omega
   go_wp2_with (first | (go_at_call 119; refine (mul64_any y d hyl hdd _).mono ?_; rintro e w1 ⟨hi, lo, rfl, hmu, hhi, hlo, rfl⟩; have HMU := hid hmu; have HHI := hid hhi; clear hmu hhi) | (with_reducible show wpList _ _ _ _ _ _; refine wl_add64 (o := ⟨some 33, _, _, _, _, _⟩) rfl _ _ _ rfl lo old 0 rfl rfl rfl hlo hol (Nat.zero_le _) ?_; intro sum c1 hs1 hs2 hs3; simp only [Nat.add_zero] at hs1; have HS := hid hs1; have hb1 : (hi : Int) + c1 < 18446744073709551616 := (by have := lt64.1 (amul_bound1 HMU.out hyl hdd HS.out hol); omega); have hs2' := hs2; clear hs1) | (with_reducible show wpList _ _ _ _ _ _; refine wl_add64 (o := ⟨some 44, _, _, _, _, _⟩) rfl _ _ _ rfl sum c' 0 rfl rfl rfl hs2' hc1 (Nat.zero_le _) ?_; intro s c2 ht1 ht2 ht3; simp only [Nat.add_zero] at ht1; have HT := hid ht1; have hb2 : (hi : Int) + c1 + c2 < 18446744073709551616 := (by have := lt64.1 (amul_bound2 HMU.out hyl hdd HS.out hol HT.out hc1); omega); have HT2 := hid ht2; clear ht1))
   go_roundw
   case rel => exact ⟨k + 1, hi + c1 + c2, zs'.set (off + k) s, by omega, by go_num, by go_num, amul_bound2 HMU.out hyl hdd HS.out hol HT.out hc1, hr'.set _ _, ho.set _ _, by simpa [World.setCell] using HZ.out, by simp [HZL.out], hdz.set _ HT2.out, fun t ht => by rw [List.getElem?_set_ne (by omega)]; exact HZZ.out t ht, addMul_step HO.out HY.out HV.out (amul_eq HMU.out HS.out HT.out)⟩
   case measure => simp [intOf]; omega
  ·obtain rfl : k = n := by omega
   go_wp2
   go_ret
   have hv := HV.out
   rw [List.take_of_length_le (by rw [← hs.len]; omega)] at hv
   exact ⟨c', zs', rfl, hc1, hr', ho, HZ.out, HZL.out, hdz, HZZ.out, hv⟩
theorem lmul_any (w : World) (B : Nat) (hB : B ≤ w.heap.size) (A1 : Option Addr) (n1 c1 : Nat) (xs : List Nat) (hs1 : Sl w B A1 n1 c1 xs) (A2 : Option Addr) (n2 c2 : Nat) (ys : List Nat) (hs2 : Sl w B A2 n2 c2 ys)
  (hd : Dg b64 xs) (hd2 : Dg b64 ys) (h1 : n1 ≤ 17592186044416) (h2 : n2 ≤ 17592186044416) :
  Calls Tryz.prog 103 #[.slice A1 n1 c1, .slice A2 n2 c2] w fun e w' => RetN b64 w (V b64 xs * V b64 ys) e w' := by
 go_enter Tryz.func103, Tryz.ntmps103
 go_wp2_with fail
 refine (ltrim_sl w B A1 n1 c1 xs hs1).mono ?_; rintro e w1 ⟨m1, rfl, h3, h4, rfl⟩
 go_wp2_with fail
 refine (ltrim_sl w B A2 n2 c2 ys hs2).mono ?_; rintro e w1 ⟨m2, rfl, h5, h6, rfl⟩
 have hlc1 := h3.cap
 have hm1 := h3.max
 have hlc2 := h5.cap
 have hm2 := h5.max
 go_wp2_with (at_make; refine wl_make rfl _ _ Tryz.underlying23 rfl _ (m1 + m2) rfl (by omega) (by omega) ?_; intro w1 hR hB1 hz1; obtain ⟨g, hg⟩ : ∃ g, g = w.heap.size := ⟨_, rfl⟩; rw [← hg] at hR ⊢; have HG := hid hg; have HZ1 := hid hz1; clear hg hz1)
 have hdx := (trimmed_nm hd).1
 have hdy := (trimmed_nm hd2).1
 go_loopw [22] (fun i wr => ∃ k zs, k ≤ m1 ∧ i = .int .i64 (k : Nat) ∧ Row wr g zs ∧ Only w1 wr g ∧ wr.heap.size = w1.heap.size ∧ zs.length = m1 + m2 ∧ Dg b64 zs ∧ (∀ t, k + m2 ≤ t → t < m1 + m2 → zs[t]? = some 0) ∧ V b64 zs = V b64 ((trimmed xs).take k) * V b64 (trimmed ys)) (fun i _ => m1 - (intOf i).toNat)
 case atStart => exact ⟨0, _, Nat.zero_le _, rfl, hR, Only.refl _ _, rfl, by simp, dg_zeros b64_pos _, fun t _ ht => by simp [ht], by rw [V_replicate]; simp [V]⟩
 case round =>
  obtain ⟨k, zs, hk, rfl, hr, ho, hz, hzl, hdz, hzz, hv⟩ := hrel
  have HZ := hid hz
  have HZL := hid hzl
  have HV := hid hv
  have HZZ := hid hzz
  clear hz hzl hv hzz
  have hgB : B ≤ g := by rw [HG.out]; exact hB
  have hbw : Below w.heap.size w1 wr := ho.below (by rw [HG.out]; exact Nat.le_refl _) (by rw [HZ1.out]; omega)
  have hbel : Below w.heap.size w wr := hB1.trans hbw
  by_cases hlt : k < m1
  ·have hs1r := h3.below (hbel.mono hB)
   have hs2r := h5.below (hbel.mono hB)
   have hki : (k : Int) < m1 := by omega
   obtain ⟨b, off, x, rfl, hb1, hx, hc⟩ := hs1r.at_ hlt
   have hxl := hdx.get hx
   have HX := hid hx
   clear hx
   have hki2 : (k : Int) ≤ m1 + m2 := by omega
   have hki3 : (0 : Int) ≤ k := by omega
   have hkm2 : (k : Int) + m2 < m1 + m2 := by omega
   have hne : ¬ (m1 + m2 = k) := by omega
   go_wp2_with (go_at_call 116; refine (addMul_any wr g k _ _ zs hr B A2 m2 c2 (trimmed ys) hs2r hgB (by rw [HZL.out]; omega) (by omega) hdz hdy x hxl).mono ?_; rintro e w3 ⟨c, zs3, rfl, hc1, hR3, ho3, hsz3, hl3, hd3, hzz3, hv3⟩; have HZ3 := hid hsz3; have HL3 := hid hl3; have HV3 := hid hv3; have HZZ3 := hid hzz3; clear hsz3 hl3 hv3 hzz3; have h0 : Hid (zs3[k + m2]? = some 0) := (by show _ = _; rw [HZZ3.out (k + m2) (by omega)]; exact HZZ.out (k + m2) (Nat.le_refl _) (by omega)); have hcell := hR3.at_ h0.out; have hf3 := hR3.frozen)
   go_roundw
   case rel => exact ⟨k + 1, zs3.set (k + m2) c, by omega, by go_num, hR3.set _ _, (ho.trans ho3).set _ _, by simpa [World.setCell] using HZ3.out.trans HZ.out, by simp [HL3.out, HZL.out], hd3.set _ hc1, fun t ht1 ht2 => by rw [List.getElem?_set_ne (by omega), HZZ3.out t (by omega)]; exact HZZ.out t (by omega) ht2, lmul_row h0.out HX.out HV.out HV3.out⟩
   case measure => simp [intOf]; omega
  ·obtain rfl : k = m1 := by omega
   have hsl := hr.sl (by rw [HZL.out]; omega)
   rw [HZL.out] at hsl
   go_wp2_with (go_at_call 74; refine (ltrim_sl _ _ _ _ _ _ hsl).mono ?_; rintro e w4 ⟨m, rfl, h7, h8, rfl⟩)
   go_ret
   exact retN_trim h7 hdz (by rw [HV.out, List.take_of_length_le (by rw [← h3.len]; omega), (trimmed_nm hd).2.2, (trimmed_nm hd2).2.2]) hbel
end Go.Proofs.YtbejcollbkeedaaGreat
