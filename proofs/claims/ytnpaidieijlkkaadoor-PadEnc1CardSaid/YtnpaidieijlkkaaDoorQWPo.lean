/- PadOAEP, walked. -/
import Derived.Test.YtnpaidieijlkkaaDoorQPdV
import Derived.Test.YtnpaidieijlkkaaDoorQWPi
set_option linter.unusedVariables false
set_option linter.unusedSimpArgs false
namespace Go.Proofs.YtnpaidieijlkkaaDoor
open Go.RowKit Go.Shelf

def oeR (k n : Int) (n2 n3 : Nat) : Int := if 65536 < n ∨ okB k n2 = false then 7 else if n < 2 * sizeV k + 2 ∨ n - (2 * sizeV k + 2) < n3 then 33 else 0
def oeL (k n : Int) (label seed m : List (BitVec 8)) : List (BitVec 8) := if oeR k n seed.length m.length = 0 then oaepL k (n.toNat - (2 * szN k + 2) - m.length) label seed m else []
theorem oe_cases (k n : Int) (label seed m : List (BitVec 8)) : ((65536 < n ∨ okB k seed.length = false) ∧ oeR k n seed.length m.length = 7 ∧ oeL k n label seed m = []) ∨ (n ≤ 65536 ∧ okB k seed.length = true ∧ (n < 2 * sizeV k + 2 ∨ n - (2 * sizeV k + 2) < m.length) ∧ oeR k n seed.length m.length = 33 ∧ oeL k n label seed m = []) ∨
    (∃ (N Z : Nat), n = N ∧ N ≤ 65536 ∧ okB k seed.length = true ∧ m.length + (2 * szN k + 2) + Z = N ∧ oeR k n seed.length m.length = 0 ∧ oeL k n label seed m = oaepL k Z label seed m) := by
  by_cases h1 : 65536 < n ∨ okB k seed.length = false
  · have e : oeR k n seed.length m.length = 7 := by rw [oeR, if_pos h1]
    exact .inl ⟨h1, e, by rw [oeL, e, if_neg (by decide)]⟩
  · have h65 : n ≤ 65536 := by
      rcases Int.lt_or_le 65536 n with h | h
      · exact absurd (.inl h) h1
      · exact h
    have hok : okB k seed.length = true := by
      cases h : okB k seed.length with
      | true => rfl
      | false => exact absurd (.inr h) h1
    by_cases h2 : n < 2 * sizeV k + 2 ∨ n - (2 * sizeV k + 2) < m.length
    · have e : oeR k n seed.length m.length = 33 := by rw [oeR, if_neg h1, if_pos h2]
      exact .inr (.inl ⟨h65, hok, h2, e, by rw [oeL, e, if_neg (by decide)]⟩)
    · have e : oeR k n seed.length m.length = 0 := by rw [oeR, if_neg h1, if_neg h2]
      obtain ⟨hk, _⟩ := okB_kind hok
      have hz := szN_eq hk
      rw [hz] at h2
      exact .inr (.inr ⟨n.toNat, n.toNat - (2 * szN k + 2) - m.length, by omega, by omega, hok, by omega, e, by rw [oeL, e, if_pos rfl]⟩)
theorem pencoaep_all (w : World) (k : Int) (hGS : StartsG w) (hGR : RootsG w) (n : Int) (h0 : -9223372036854775808 ≤ n) (A1 : Option Addr) (n1 c1 : Nat) (label : List (BitVec 8)) (h1 : SlV w w.heap.size A1 n1 c1 (label.map W8)) (z1 : A1 = none → c1 = 0) (hn1 : n1 ≤ 1000000)
    (A2 : Option Addr) (n2 c2 : Nat) (seed : List (BitVec 8)) (h2 : SlV w w.heap.size A2 n2 c2 (seed.map W8)) (z2 : A2 = none → c2 = 0) (A3 : Option Addr) (n3 c3 : Nat) (m : List (BitVec 8)) (h3 : SlV w w.heap.size A3 n3 c3 (m.map W8)) (z3 : A3 = none → c3 = 0) :
    Calls Tryd.prog 27 #[.int .i64 k, .int .i64 n, .slice A1 n1 c1, .slice A2 n2 c2, .slice A3 n3 c3] w fun e w' => ∃ v, e = .returned (.tuple #[v, .int .i64 (oeR k n seed.length m.length)]) ∧ FreshV w' w.heap.size v (oeL k n label seed m) ∧ Below w.heap.size w w' := by
  have hl2 : seed.length = n2 := by simpa using h2.len.symm
  have hl3 : m.length = n3 := by simpa using h3.len.symm
  rcases oe_cases k n label seed m with ⟨hc, e1, e2⟩ | ⟨hc, hok, hd, e1, e2⟩ | ⟨N, Z, rfl, hc, hok, hd, e1, e2⟩
  · rw [e1, e2]
    refine (pencoaep_no1 w k n _ A2 n2 c2 _ (by rw [← hl2]; exact hc)).mono ?_
    rintro e w' ⟨rfl, rfl⟩
    exact ⟨_, rfl, FreshV.nil_ _ _, Below.refl _ _⟩
  · rw [e1, e2]
    refine (pencoaep_no2 w k n _ A2 n2 c2 A3 n3 c3 h0 hc (by rw [← hl2]; exact hok) (by rw [← hl3]; exact hd)).mono ?_
    rintro e w' ⟨rfl, rfl⟩
    exact ⟨_, rfl, FreshV.nil_ _ _, Below.refl _ _⟩
  · rw [e1, e2]
    exact pencoaep_ok w k hGS hGR N hc _ A1 n1 c1 label h1 z1 A2 n2 c2 seed h2 z2 (by rw [← hl2]; exact hok) A3 n3 c3 m h3 z3 (Nat.le_refl _) hn1 Z (by rw [← hl3]; exact hd)
theorem rencoaep_all (w : World) (k : Int) (n : Int) (h0 : -9223372036854775808 ≤ n) (hn : n ≤ 200 ∨ 65536 < n) (A1 : Option Addr) (n1 c1 : Nat) (label : List (BitVec 8)) (h1 : SlV w w.heap.size A1 n1 c1 (label.map W8)) (z1 : A1 = none → c1 = 0) (hn1 : n1 ≤ 1000000)
    (A2 : Option Addr) (n2 c2 : Nat) (seed : List (BitVec 8)) (h2 : SlV w w.heap.size A2 n2 c2 (seed.map W8)) (z2 : A2 = none → c2 = 0) (A3 : Option Addr) (n3 c3 : Nat) (m : List (BitVec 8)) (h3 : SlV w w.heap.size A3 n3 c3 (m.map W8)) (z3 : A3 = none → c3 = 0) :
    Calls Tryd.prog 28 #[.int .i64 k, .int .i64 n, .slice A1 n1 c1, .slice A2 n2 c2, .slice A3 n3 c3] w fun e w' => ∃ v, e = .returned (.tuple #[v, .int .i64 (oeR k n seed.length m.length)]) ∧ FreshV w' w.heap.size v (oeL k n label seed m) ∧ Below w.heap.size w w' := by
  have hl2 : seed.length = n2 := by simpa using h2.len.symm
  have hl3 : m.length = n3 := by simpa using h3.len.symm
  rcases oe_cases k n label seed m with ⟨hc, e1, e2⟩ | ⟨hc, hok, hd, e1, e2⟩ | ⟨N, Z, rfl, hc, hok, hd, e1, e2⟩
  · rw [e1, e2]
    refine (rencoaep_no1 w k n _ A2 n2 c2 _ (by rw [← hl2]; exact hc)).mono ?_
    rintro e w' ⟨rfl, rfl⟩
    exact ⟨_, rfl, FreshV.nil_ _ _, Below.refl _ _⟩
  · rw [e1, e2]
    refine (rencoaep_no2 w k n _ A2 n2 c2 A3 n3 c3 h0 hc (by rw [← hl2]; exact hok) (by rw [← hl3]; exact hd)).mono ?_
    rintro e w' ⟨rfl, rfl⟩
    exact ⟨_, rfl, FreshV.nil_ _ _, Below.refl _ _⟩
  · rw [e1, e2]
    exact rencoaep_ok w k N (by omega) _ A1 n1 c1 label h1 z1 A2 n2 c2 seed h2 z2 (by rw [← hl2]; exact hok) A3 n3 c3 m h3 z3 (Nat.le_refl _) hn1 Z (by rw [← hl3]; exact hd)
open Classical in
noncomputable def odR (k : Int) (label em : List (BitVec 8)) : Int := if KindOk k then (if em.length < 2 * szN k + 2 ∨ em.head? ≠ some 0 then 64 else if decOk k label em then 0 else 64) else 7
open Classical in
noncomputable def odL (k : Int) (label em : List (BitVec 8)) : List (BitVec 8) := if KindOk k then (if em.length < 2 * szN k + 2 ∨ em.head? ≠ some 0 then [] else if decOk k label em then decMsg k label em else []) else []
theorem pdecoaep_all (w : World) (k : Int) (hGS : StartsG w) (hGR : RootsG w) (A1 : Option Addr) (n1 c1 : Nat) (label : List (BitVec 8)) (h1 : SlV w w.heap.size A1 n1 c1 (label.map W8)) (z1 : A1 = none → c1 = 0) (hn1 : n1 ≤ 1000000)
    (A : Option Addr) (n c : Nat) (em : List (BitVec 8)) (hs : SlV w w.heap.size A n c (em.map W8)) (hn : n ≤ 500) :
    Calls Tryd.prog 29 #[.int .i64 k, .slice A1 n1 c1, .slice A n c] w fun e w' => ∃ v, e = .returned (.tuple #[v, .int .i64 (odR k label em)]) ∧ FreshV w' w.heap.size v (odL k label em) ∧ Below w.heap.size w w' := by
  have hl : em.length = n := by simpa using hs.len.symm
  by_cases hk : KindOk k
  · by_cases h : em.length < 2 * szN k + 2 ∨ em.head? ≠ some 0
    · rw [odR, odL, if_pos hk, if_pos h, if_pos hk, if_pos h]
      refine (pdecoaep_no2 w k _ _ A n c em hs hk (by rcases h with h | h; exact .inl (by omega); exact .inr (.inr h))).mono ?_
      rintro e w' ⟨rfl, rfl⟩
      exact ⟨_, rfl, FreshV.nil_ _ _, Below.refl _ _⟩
    · rw [odR, odL, if_pos hk, if_neg h, if_pos hk, if_neg h]
      have ha : 2 * szN k + 2 ≤ n := by
        rcases Nat.lt_or_ge em.length (2 * szN k + 2) with h3 | h3
        · exact absurd (.inl h3) h
        · omega
      have hb : em.head? = some 0 := Classical.byContradiction fun h3 => h (.inr h3)
      exact pdecoaep_run w k hk hGS hGR _ A1 n1 c1 label h1 z1 hn1 A n c em hs (Nat.le_refl _) ha (by omega) hb
  · rw [odR, odL, if_neg hk, if_neg hk]
    refine (pdecoaep_no1 w k _ _ hk).mono ?_
    rintro e w' ⟨rfl, rfl⟩
    exact ⟨_, rfl, FreshV.nil_ _ _, Below.refl _ _⟩
theorem rdecoaep_all (w : World) (k : Int) (A1 : Option Addr) (n1 c1 : Nat) (label : List (BitVec 8)) (h1 : SlV w w.heap.size A1 n1 c1 (label.map W8)) (z1 : A1 = none → c1 = 0) (hn1 : n1 ≤ 1000000)
    (A : Option Addr) (n c : Nat) (em : List (BitVec 8)) (hs : SlV w w.heap.size A n c (em.map W8)) (hn : n ≤ 500) :
    Calls Tryd.prog 30 #[.int .i64 k, .slice A1 n1 c1, .slice A n c] w fun e w' => ∃ v, e = .returned (.tuple #[v, .int .i64 (odR k label em)]) ∧ FreshV w' w.heap.size v (odL k label em) ∧ Below w.heap.size w w' := by
  have hl : em.length = n := by simpa using hs.len.symm
  by_cases hk : KindOk k
  · by_cases h : em.length < 2 * szN k + 2 ∨ em.head? ≠ some 0
    · rw [odR, odL, if_pos hk, if_pos h, if_pos hk, if_pos h]
      refine (rdecoaep_no2 w k _ _ A n c em hs hk hn (by rcases h with h | h; exact .inl (by omega); exact .inr h)).mono ?_
      rintro e w' ⟨rfl, rfl⟩
      exact ⟨_, rfl, FreshV.nil_ _ _, Below.refl _ _⟩
    · rw [odR, odL, if_pos hk, if_neg h, if_pos hk, if_neg h]
      have ha : 2 * szN k + 2 ≤ n := by
        rcases Nat.lt_or_ge em.length (2 * szN k + 2) with h3 | h3
        · exact absurd (.inl h3) h
        · omega
      have hb : em.head? = some 0 := Classical.byContradiction fun h3 => h (.inr h3)
      exact rdecoaep_run w k hk _ A1 n1 c1 label h1 z1 hn1 A n c em hs (Nat.le_refl _) ha hn hb
  · rw [odR, odL, if_neg hk, if_neg hk]
    refine (rdecoaep_no1 w k _ _ hk).mono ?_
    rintro e w' ⟨rfl, rfl⟩
    exact ⟨_, rfl, FreshV.nil_ _ _, Below.refl _ _⟩
theorem od_back (k n : Int) (label seed m : List (BitVec 8)) (hn : n ≤ 200 ∨ 65536 < n) (h : oeR k n seed.length m.length = 0) : odR k label (oeL k n label seed m) = 0 ∧ odL k label (oeL k n label seed m) = m ∧ (oeL k n label seed m).length ≤ 200 := by
  rcases oe_cases k n label seed m with ⟨hc, e1, e2⟩ | ⟨hc, hok, hd, e1, e2⟩ | ⟨N, Z, rfl, hc, hok, hd, e1, e2⟩
  · rw [e1] at h; cases h
  · rw [e1] at h; cases h
  · obtain ⟨hk, hsl⟩ := okB_kind hok
    obtain ⟨b1, b2⟩ := oaep_back hk Z label seed m hsl
    have hlen := oaepL_length hk Z label seed m hsl
    have hno : ¬ ((oaepL k Z label seed m).length < 2 * szN k + 2 ∨ (oaepL k Z label seed m).head? ≠ some 0) := by
      rintro (h3 | h3)
      · omega
      · exact h3 rfl
    rw [e2]
    refine ⟨?_, ?_, by omega⟩
    · rw [odR, if_pos hk, if_neg hno, b1, if_pos rfl]
    · rw [odL, if_pos hk, if_neg hno, b1, if_pos rfl, b2]
end Go.Proofs.YtnpaidieijlkkaaDoor
