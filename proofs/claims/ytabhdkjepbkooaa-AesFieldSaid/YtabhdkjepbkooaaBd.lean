/- aescore: Times. -/
import Derived.Test.YtabhdkjepbkooaaBc
set_option linter.unusedVariables false
set_option linter.unusedSimpArgs false
namespace Go.Proofs.Ytabhdkjepbkooaa
open Go.RowKit

set_option maxRecDepth 100000 in
set_option maxHeartbeats 1600000 in
theorem times_any (w : World) (B b1 o1 c1 b2 o2 c2 : Nat) (x y : List (BitVec 8)) (hx : SlV w B (some ⟨b1, o1, none⟩) 16 c1 (x.map W8)) (hy : SlV w B (some ⟨b2, o2, none⟩) 16 c2 (y.map W8)) (hB : B ≤ w.heap.size) :
    Calls Try.prog 15 #[.slice (some ⟨b1, o1, none⟩) 16 c1, .slice (some ⟨b2, o2, none⟩) 16 c2] w fun e w' => ∃ g, e = .returned (.slice (some ⟨g, 0, none⟩) 16 16) ∧ w.heap.size ≤ g ∧ RowV 5 w' g ((byV (timesV (elV x) (elV y))).map W8) ∧ Below w.heap.size w w' := by
  have hxl : x.length = 16 := by have := hx.len; simp at this; omega
  have hyl : y.length = 16 := by have := hy.len; simp at this; omega
  have HX := Lib.hid hx
  have HY := Lib.hid hy
  clear hx hy
  go_enter Try.func15, Try.ntmps15
  go_wp2_with fail
  refine (toElement_any w B b1 o1 16 c1 x HX.out hB (by decide) (by decide)).mono ?_
  rintro e W1 ⟨rfl, h1⟩
  go_wp2_with fail
  refine (toElement_any W1 B b2 o2 16 c2 y (HY.out.below (h1.mono hB)) (Nat.le_trans hB h1.size) (by decide) (by decide)).mono ?_
  rintro e W2 ⟨rfl, h2⟩
  go_wp2_with fail
  refine (etimes_any W2 _ _ _ _).mono ?_
  rintro e W3 ⟨zh, zl, rfl, hz, h3⟩
  go_wp2_with fail
  refine (ebytes_any W3 zh zl).mono ?_
  rintro e W4 ⟨g, rfl, hg, hr, h4⟩
  have hB4 : Below w.heap.size w W4 := h1.trans ((h2.mono h1.size).trans ((h3.mono (Nat.le_trans h1.size h2.size)).trans (h4.mono (Nat.le_trans h1.size (Nat.le_trans h2.size h3.size)))))
  have hgw : w.heap.size ≤ g := Nat.le_trans h1.size (Nat.le_trans h2.size (Nat.le_trans h3.size hg))
  rw [hz, ← elV_halves x (by omega), ← elV_halves y (by omega)] at hr
  have HR := Lib.hid (And.intro hr (And.intro hB4 hgw))
  clear hr hB4 hgw h1 h2 h3 h4 hg hz
  go_wp2
  go_ret
  exact ⟨g, rfl, HR.out.2.2, HR.out.1, HR.out.2.1⟩
set_option maxHeartbeats 1600000 in
theorem times_no (w : World) (A1 : Option Addr) (n1 c1 : Nat) (A2 : Option Addr) (n2 c2 : Nat) (h : ¬ (n1 = 16 ∧ n2 = 16)) :
    Calls Try.prog 15 #[.slice A1 n1 c1, .slice A2 n2 c2] w fun e w' => e = .returned (.slice none 0 0) ∧ w = w' := by
  by_cases h1 : n1 = 16
  · have h2 : ¬ (n2 : Int) = 16 := fun e => h ⟨h1, by omega⟩
    subst h1
    clear h
    go_enter Try.func15, Try.ntmps15
    go_wp2
    go_ret
    exact ⟨rfl, rfl⟩
  · have h2 : ¬ (n1 : Int) = 16 := fun e => h1 (by omega)
    clear h h1
    go_enter Try.func15, Try.ntmps15
    go_wp2
    go_ret
    exact ⟨rfl, rfl⟩
end Go.Proofs.Ytabhdkjepbkooaa
