/- slices.Chunk of bytes: what it hands out. -/
import Derived.Test.YtabhdkjepbkooaaBd
import Derived.Test.YtabhdkjepbkooaaAu
import Derived.BigQuiet
set_option linter.unusedVariables false
set_option linter.unusedSimpArgs false
namespace Go.Proofs.Ytabhdkjepbkooaa
open Go.RowKit
attribute [local go_sem] Oper.semAt_some

/-- what Chunk hands out: the i-th piece, in the slice's own memory -/
structure CkX where
  i : Nat
  A : Option Addr
  n : Nat
  c : Nat
abbrev encCk : CkX → Array Value := fun x => #[.slice x.A x.n x.c]
def pieceK (bs : List (BitVec 8)) (k i : Nat) : List (BitVec 8) := (bs.drop (k * i)).take k
def CkR (bs : List (BitVec 8)) (k b off : Nat) (pre : List CkX) (x : CkX) (_ : World) : Prop :=
  x.i = pre.length ∧ k * pre.length < bs.length ∧ x.A = some ⟨b, off + k * pre.length, none⟩ ∧ x.n = min k (bs.length - k * pre.length) ∧ x.c = x.n
theorem CkR.own (bs : List (BitVec 8)) (k b off B : Nat) (pre : List CkX) : OwnFrom B (CkR bs k b off pre) := fun _ _ _ _ hs _ _ => hs
set_option maxRecDepth 100000 in
set_option maxHeartbeats 1600000 in
theorem chunk_any (w : World) (v : Value) (k : Nat) (hk : 1 ≤ k) (A : Option Addr) (n c : Nat) (hv : v = .slice A n c) : Calls Try.prog 38 #[v, .int .i64 (k : Int)] w fun e w' =>
    ∃ g1 g2, e = .returned (.func (.func 46) #[] #[.pointer (some ⟨g1, 0, none⟩), .pointer (some ⟨g2, 0, none⟩)]) ∧ w.heap.size ≤ g1 ∧ w.heap.size ≤ g2 ∧ RowV 22 w' g1 [.slice A n c] ∧ RowV 3 w' g2 [.int .i64 (k : Int)] ∧ Below w.heap.size w w' := by
  subst hv
  obtain ⟨W1, e1, r1, b1, z1⟩ := newV w 22 [.slice A n c] #[.slice A n c] rfl
  obtain ⟨W2, e2, r2, b2, z2⟩ := newV W1 3 [.int .i64 (k : Int)] #[.int .i64 (k : Int)] rfl
  obtain ⟨g1, hg1⟩ : ∃ x, w.heap.size = x := ⟨_, rfl⟩
  have hb : Below g1 w W2 := by rw [← hg1]; exact b1.trans (b2.mono b1.size)
  have r1 := r1.later b2
  obtain ⟨g2, hg2⟩ : ∃ x, W1.heap.size = x := ⟨_, rfl⟩
  rw [hg1] at r1
  rw [hg2] at r2
  have l2 : g1 < g2 := by omega
  have c2 := r2.at_ (i := 0) (v := .int .i64 (k : Int)) rfl
  have hki : (1 : Int) ≤ k := by omega
  have HH := Lib.hid (And.intro r1 (And.intro r2 hb))
  have HG := Lib.hid hg1
  clear r1 r2 hb b1 b2 z1 z2
  go_enter Try.func38, Try.ntmps38
  go_wp2
  go_ret
  refine ⟨g1, g2, rfl, by rw [HG.out]; exact Nat.le_refl _, by rw [HG.out]; omega, HH.out.1, HH.out.2.1, ?_⟩
  rw [HG.out]; exact HH.out.2.2
end Go.Proofs.Ytabhdkjepbkooaa
