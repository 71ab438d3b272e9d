/- aescore: a Cipher in its block; New, takes. -/
import Derived.Test.YtabhdkjepbkooaaArb
set_option linter.unusedVariables false
set_option linter.unusedSimpArgs false
namespace Go.Proofs.Ytabhdkjepbkooaa
open Go.RowKit

theorem expand_all (w : World) (B : Nat) (A : Option Addr) (n c : Nat) (key : List (BitVec 8)) (hs : SlV w B A n c (key.map W8)) (hz : A = none → c = 0) (hB : B ≤ w.heap.size) (hn : n = 16 ∨ n = 24 ∨ n = 32) : Calls Try.prog 19 #[.slice A n c] w fun e w' =>
    ∃ gk, e = .returned (.slice (some ⟨gk, 0, none⟩) (cntL n) (cntL n)) ∧ w.heap.size ≤ gk ∧ RowV 49 w' gk ((wholeL key).map W8) ∧ Below w.heap.size w w' := by
  rcases hn with hn | hn | rfl
  · exact expand_any w B A n c key hs hz hB (.inl hn)
  · exact expand_any w B A n c key hs hz hB (.inr hn)
  · exact expand32_any w B A c key hs hz hB
def KeyLen (n : Nat) : Prop := n = 16 ∨ n = 24 ∨ n = 32
instance (n : Nat) : Decidable (KeyLen n) := by unfold KeyLen; infer_instance
/-- the Cipher of a key in block g -/
structure CipherR (w : World) (g : Nat) (key : List (BitVec 8)) : Prop where
  len : KeyLen key.length
  rows : ∃ gk, RowV 42 w g [.slice (some ⟨gk, 0, none⟩) (cntL key.length) (cntL key.length)] ∧ RowV 49 w gk ((wholeL key).map W8)
theorem CipherR.later {w w' : World} {g : Nat} {key : List (BitVec 8)} (h : CipherR w g key) (hb : Below w.heap.size w w') : CipherR w' g key :=
  ⟨h.len, h.rows.imp fun _ ⟨h1, h2⟩ => ⟨h1.later hb, h2.later hb⟩⟩
theorem CipherR.lt {w : World} {g : Nat} {key : List (BitVec 8)} (h : CipherR w g key) : g < w.heap.size := by
  obtain ⟨_, h1, _⟩ := h.rows
  exact h1.lt

set_option maxRecDepth 100000 in
set_option maxHeartbeats 1600000 in
theorem new_any (w : World) (B : Nat) (A : Option Addr) (n c : Nat) (key : List (BitVec 8)) (hs : SlV w B A n c (key.map W8)) (hz : A = none → c = 0) (hB : B ≤ w.heap.size) (hn : KeyLen n) : Calls Try.prog 8 #[.slice A n c] w fun e w' =>
    ∃ g, e = .returned (.pointer (some ⟨g, 0, none⟩)) ∧ w.heap.size ≤ g ∧ CipherR w' g key ∧ Below w.heap.size w w' := by
  have hkl : key.length = n := by have := hs.len; simpa using this.symm
  have hex := expand_all w B A n c key hs hz hB hn
  obtain ⟨C, hC⟩ : ∃ C, cntL n = C := ⟨_, rfl⟩
  rw [hC] at hex
  have HEX := Lib.hid hex
  have HC := Lib.hid hC
  have HN := Lib.hid hn
  have HKL := Lib.hid hkl
  clear hex hkl hs hz hB hC
  rcases hn with rfl | rfl | rfl
  all_goals
    go_enter Try.func8, Try.ntmps8
    go_wp2_with fail
    refine HEX.out.mono ?_
    rintro e V1 ⟨gk, rfl, hgk, hrk, hb⟩
    obtain ⟨V2, e2, r2, b2, z2⟩ := newV V1 42 [.slice (some ⟨gk, 0, none⟩) C C] _ rfl
    have hrk2 := hrk.later b2
    have hsz := hb.size
    have HH := Lib.hid (And.intro hgk (And.intro hrk2 (And.intro hb (And.intro b2 r2))))
    clear hgk hrk2 hb b2 r2 hrk
    go_wp2
    go_ret
    refine ⟨V1.heap.size, rfl, hsz, ⟨by rw [HKL.out]; exact HN.out, gk, ?_, HH.out.2.1⟩, HH.out.2.2.1.trans (HH.out.2.2.2.1.mono hsz)⟩
    rw [HKL.out, HC.out]
    exact HH.out.2.2.2.2
set_option maxHeartbeats 1600000 in
theorem new_no (w : World) (A : Option Addr) (n c : Nat) (hn : ¬ KeyLen n) : Calls Try.prog 8 #[.slice A n c] w fun e w' => e = .returned (.pointer none) ∧ w = w' := by
  have h1 : ¬ (n : Int) = 16 := fun h => hn (.inl (by omega))
  have h2 : ¬ (n : Int) = 24 := fun h => hn (.inr (.inl (by omega)))
  have h3 : ¬ (n : Int) = 32 := fun h => hn (.inr (.inr (by omega)))
  go_enter Try.func8, Try.ntmps8
  go_wp2
  go_ret
  exact ⟨rfl, rfl⟩
set_option maxHeartbeats 1600000 in
theorem takes_any (w : World) (g : Nat) (key : List (BitVec 8)) (h : CipherR w g key) (A : Option Addr) (n c : Nat) (hn : n = 16) : Calls Try.prog 22 #[.pointer (some ⟨g, 0, none⟩), .slice A n c] w fun e w' => e = .returned (.bool true) ∧ w = w' := by
  obtain ⟨gk, hr, _⟩ := h.rows
  have hc := hr.at_ (i := 0) (v := .slice (some ⟨gk, 0, none⟩) (cntL key.length) (cntL key.length)) rfl
  obtain ⟨C, hC⟩ : ∃ C, cntL key.length = C := ⟨_, rfl⟩
  have hC0 : (0 : Int) < C := by rw [← hC]; unfold cntL; omega
  rw [hC] at hc
  subst hn
  clear hr hC h
  go_enter Try.func22, Try.ntmps22
  go_wp2
  go_ret
  exact ⟨rfl, rfl⟩
set_option maxHeartbeats 1600000 in
theorem takes_no (w : World) (g : Nat) (key : List (BitVec 8)) (h : CipherR w g key) (A : Option Addr) (n c : Nat) (hn : n ≠ 16) : Calls Try.prog 22 #[.pointer (some ⟨g, 0, none⟩), .slice A n c] w fun e w' => e = .returned (.bool false) ∧ w = w' := by
  obtain ⟨gk, hr, _⟩ := h.rows
  have hc := hr.at_ (i := 0) (v := .slice (some ⟨gk, 0, none⟩) (cntL key.length) (cntL key.length)) rfl
  obtain ⟨C, hC⟩ : ∃ C, cntL key.length = C := ⟨_, rfl⟩
  have hC0 : (0 : Int) < C := by rw [← hC]; unfold cntL; omega
  have h1 : ¬ (n : Int) = 16 := fun h => hn (by omega)
  have h2 : ((n : Int) == 16) = false := by simp; omega
  rw [hC] at hc
  clear hr hC h hn
  go_enter Try.func22, Try.ntmps22
  go_wp2
  go_ret
  exact ⟨rfl, rfl⟩
set_option maxHeartbeats 1600000 in
theorem takes_nil (w : World) (A : Option Addr) (n c : Nat) : Calls Try.prog 22 #[.pointer none, .slice A n c] w fun e w' => e = .returned (.bool false) ∧ w = w' := by
  go_enter Try.func22, Try.ntmps22
  go_wp2
  go_ret
  exact ⟨rfl, rfl⟩
end Go.Proofs.Ytabhdkjepbkooaa
