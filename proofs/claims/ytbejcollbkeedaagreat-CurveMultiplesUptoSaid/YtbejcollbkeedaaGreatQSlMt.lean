/- How what came in is opened. -/
import Derived.Test.YtbejcollbkeedaaGreatQWCMt
import Derived.OpenShut
set_option linter.unusedVariables false
namespace Go.Proofs.YtbejcollbkeedaaGreat
open Go.RowKit
theorem sl_of_row {w : World} {a : Option Addr} {len cap : Nat} {zs : List Int}
    (h : (a = none ∧ len = 0 ∧ cap = 0 ∧ zs = []) ∨ ∃ x, a = some x ∧ len ≤ cap ∧ cap ≤ maxLen ∧ zs.length = cap ∧ (∀ i, i < zs.length → w.cell? (x.add i) = some (.int .u64 (zs.getD i 0))) ∧ ∀ n ∈ zs, (Lit.int .u64 n).wf = true) :
    ∃ xs, Sl w w.heap.size a len cap xs ∧ Dg b64 xs := by
  rcases h with ⟨rfl, rfl, rfl, rfl⟩ | ⟨x, rfl, hl, hm, hz, hc, hwf⟩
  · exact ⟨[], Sl.nil _ _ _ (by omega), fun x hx => by cases hx⟩
  · have hb : ∀ n ∈ zs, 0 ≤ n ∧ n ≤ 18446744073709551615 := fun n hn => bounds_u64 (hwf n hn)
    refine ⟨(zs.take len).map Int.toNat, ⟨by simp; omega, hl, by simpa [maxLen] using hm, fun hne => ?_⟩, fun y hy => ?_⟩
    · have hlen : 0 < len := by
        rcases Nat.eq_zero_or_pos len with h | h
        · subst h; simp at hne
        · exact h
      obtain ⟨b, off, spot⟩ := x
      have h0 := hc 0 (by omega)
      have hsp : spot = none := by simpa [Addr.add] using World.cell?_spot h0
      subst hsp
      refine ⟨b, off, rfl, World.block_lt_of_cell? w _ (by simpa [Addr.add] using h0), fun k y hy => ?_⟩
      rw [List.getElem?_map, Option.map_eq_some_iff] at hy
      obtain ⟨z, hzk, rfl⟩ := hy
      rw [List.getElem?_take] at hzk
      split at hzk
      · rename_i hkl
        have h1 := hc k (by omega)
        rw [Addr.add_lit, List.getD_eq_getElem?_getD, hzk] at h1
        have := hb z (List.mem_of_getElem? hzk)
        rw [Int.toNat_of_nonneg this.1]
        exact h1
      · cases hzk
    · obtain ⟨z, hz, rfl⟩ := List.mem_map.1 hy
      have := hb z (List.mem_of_mem_take hz)
      rw [lt64]
      omega
end Go.Proofs.YtbejcollbkeedaaGreat
