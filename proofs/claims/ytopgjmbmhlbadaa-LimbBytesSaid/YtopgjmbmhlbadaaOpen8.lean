/- Bytes that came in; bytes as text; the number of bytes. -/
import Derived.Test.YtopgjmbmhlbadaaOpen
import Derived.Test.YtopgjmbmhlbadaaRefI
namespace Go.Proofs.Ytopgjmbmhlbadaa
open Go.RowKit

theorem sl8_of_row {w : World} {a : Option Addr} {len cap : Nat} {zs : List Int}
    (h : (a = none ∧ len = 0 ∧ cap = 0 ∧ zs = []) ∨ ∃ x, a = some x ∧ len ≤ cap ∧ cap ≤ maxLen ∧ zs.length = cap ∧ (∀ i, i < zs.length → w.cell? (x.add i) = some (.int .u8 (zs.getD i 0))) ∧ ∀ n ∈ zs, (Lit.int .u8 n).wf = true) :
    ∃ bs, Sl8 w w.heap.size a len cap bs := by
  rcases h with ⟨rfl, rfl, rfl, rfl⟩ | ⟨x, rfl, hl, hm, hz, hc, hwf⟩
  · exact ⟨[], rfl, Nat.le_refl _, by omega, (fun x hx => by cases hx), fun h => absurd rfl h⟩
  · have hb : ∀ n ∈ zs, 0 ≤ n ∧ n ≤ 255 := fun n hn => bounds_u8 (hwf n hn)
    refine ⟨(zs.take len).map Int.toNat, by simp; omega, hl, by simpa [maxLen] using hm, fun y hy => ?_, fun hne => ?_⟩
    · obtain ⟨z, hz, rfl⟩ := List.mem_map.1 hy
      have := hb z (List.mem_of_mem_take hz)
      omega
    · have hlen : 0 < len := by
        rcases Nat.eq_zero_or_pos len with h | h
        · subst h; simp at hne
        · exact h
      obtain ⟨b, off, spot⟩ := x
      have h0 := hc 0 (by omega)
      have hsp : spot = none := by simpa [Addr.add] using World.cell?_spot h0
      subst hsp
      refine ⟨b, off, rfl, World.block_lt_of_cell? w _ (by simpa [Addr.add] using h0), fun k y hy => ?_⟩
      rw [List.getElem?_map, Option.map_eq_some_iff] at hy
      obtain ⟨z, hzk, rfl⟩ := hy
      rw [List.getElem?_take] at hzk
      split at hzk
      · rename_i hkl
        have h1 := hc k (by omega)
        rw [Addr.add_lit, List.getD_eq_getElem?_getD, hzk] at h1
        have := hb z (List.mem_of_getElem? hzk)
        rw [Int.toNat_of_nonneg this.1]
        exact h1
      · cases hzk
theorem Sl8.take {w : World} {B n c : Nat} {A : Option Addr} {bs : List Nat} (h : Sl8 w B A n c bs) {k : Nat} (hk : k ≤ n) : Sl8 w B A k c (bs.take k) := by
  have h1 := h.1
  refine ⟨by rw [List.length_take]; omega, by have := h.2.1; omega, h.2.2.1, fun x hx => h.2.2.2.1 x (List.mem_of_mem_take hx), fun hn => ?_⟩
  obtain ⟨b, off, e, hlt, hc⟩ := h.2.2.2.2 (by intro e; subst e; simp at hn)
  refine ⟨b, off, e, hlt, fun j x hx => hc j x ?_⟩
  rw [List.getElem?_take] at hx
  split at hx
  · exact hx
  · cases hx

theorem le_value (m N : Nat) : V 256 ((List.range m).map fun i => N / 256 ^ i % 256) = N % 256 ^ m := by
  induction m with
  | zero => simp [V, Nat.mod_one]
  | succ m ih =>
    rw [List.range_succ, List.map_append, V_append, ih, List.length_map, List.length_range, Nat.mod_pow_succ]
    simp [V]
theorem be_rev (m N : Nat) : (be m N).reverse = (List.range m).map fun i => N / 256 ^ i % 256 := by
  apply List.ext_getElem?
  intro t
  rcases Nat.lt_or_ge t m with h | h
  · rw [List.getElem?_reverse (by rw [be_length]; exact h), be_length, be_get (by omega), show m - 1 - (m - 1 - t) = t by omega]
    simp [h]
  · rw [List.getElem?_eq_none (by rw [List.length_reverse, be_length]; exact h), List.getElem?_eq_none (by simp [h])]
theorem be_value {m N : Nat} (h : N < 256 ^ m) : V 256 (be m N).reverse = N := by rw [be_rev, le_value, Nat.mod_eq_of_lt h]
theorem rev_lt {bs : List Nat} {k : Nat} (hb : ∀ x ∈ bs, x < 256) (hk : bs.length ≤ 4 * k) : V 256 bs.reverse < b32 ^ k := by
  have h1 := V_lt (B := 256) bs.reverse (fun x hx => hb x (List.mem_reverse.1 hx))
  have h2 : 256 ^ bs.reverse.length ≤ 256 ^ (4 * k) := Nat.pow_le_pow_right (by decide) (by rw [List.length_reverse]; exact hk)
  rw [show b32 = 256 ^ 4 from rfl, ← Nat.pow_mul]
  omega

theorem conv_row {W : World} {g m : Nat} {zs : List Nat} (h : Row8 W g zs) (hl : zs.length = m) (hb : ∀ x ∈ zs, x < 256) :
    (convert 51 9 (.slice (some ⟨g, 0, none⟩) m m)).run Try.prog W = .ok (.string ⟨(zs.map UInt8.ofNat).toArray⟩) W := by
  have e : m = (zs.map UInt8.ofNat).length := by rw [List.length_map, hl]
  have hr := run_convert_bytes_back (P := Try.prog) W 51 9 5 ⟨g, 0, none⟩ m (zs.map UInt8.ofNat) Try.underlying51 Try.underlying5 Try.underlying9 (fun j hj => ?_)
  · rw [← e] at hr
    exact hr
  · rw [Addr.add_lit, Nat.zero_add]
    have hj' : j < zs.length := by simpa using hj
    rw [h.at_ (List.getElem?_eq_getElem hj'), List.getElem_map]
    have := hb _ (List.getElem_mem hj')
    rw [UInt8.toNat_ofNat', Nat.mod_eq_of_lt this]
theorem conv_nil (W : World) : (convert 51 9 (.slice none 0 0)).run Try.prog W = .ok (.string ⟨#[]⟩) W := by
  rw [run_convert_bytes_string W 51 9 5 none 0 0 Try.underlying51 Try.underlying5 Try.underlying9]
  rfl
end Go.Proofs.Ytopgjmbmhlbadaa
