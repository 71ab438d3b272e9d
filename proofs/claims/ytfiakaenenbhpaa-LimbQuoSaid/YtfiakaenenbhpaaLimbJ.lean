/- limb.Bytes. -/
import Derived.Test.YtfiakaenenbhpaaBase8
namespace Go.Proofs.Ytfiakaenenbhpaa
open Go.RowKit

set_option maxHeartbeats 400000 in
theorem place_any (i : Nat) (hi : i ≤ 1000000) (w : World) :
    Calls Try.prog 52 #[.int .i64 (i : Int)] w fun e w' => e = .returned (.tuple #[.int .i64 ((i / 8 : Nat) : Int), .int .i64 ((i % 8 * 8 : Nat) : Int)]) ∧ w = w' := by
  go_enter Try.func52, Try.ntmps52
  go_wp2
  go_ret2
  exact ⟨rfl, rfl⟩

theorem div_pow_digits {B : Nat} (hB : 0 < B) (xs : List Nat) (hd : Dg B xs) (L : Nat) : V B xs / B ^ L = xs[L]?.getD 0 + B * V B (xs.drop (L + 1)) := by
  rcases Nat.lt_or_ge L xs.length with h | h
  · obtain ⟨x, hx⟩ := get_lt h
    have hv := V_split (B := B) xs L
    rw [Nat.min_eq_left (by omega)] at hv
    have hl := V_lt (xs.take L) (hd.take L)
    rw [List.length_take, Nat.min_eq_left (by omega)] at hl
    rw [hv, Nat.add_comm, Nat.mul_comm, Nat.add_comm, Nat.add_mul_div_right _ _ (Nat.pow_pos hB), Nat.div_eq_of_lt hl, Nat.zero_add, List.drop_eq_getElem_cons h, V_cons, hx]
    have := (List.getElem?_eq_some_iff.1 hx).2
    simp [this]
  · have hl := V_lt xs hd
    have h2 : B ^ xs.length ≤ B ^ L := Nat.pow_le_pow_right hB h
    rw [Nat.div_eq_of_lt (by omega), List.getElem?_eq_none h, List.drop_of_length_le (by omega)]
    simp [V]

/-- a byte of a number, out of its limb -/
theorem byte_of {xs : List Nat} {N j x : Nat} (h : V b64 xs = N) (hd : Dg b64 xs) (hx : xs[j / 8]?.getD 0 = x) : N / 256 ^ j % 256 = x / 2 ^ (j % 8 * 8) % 256 := by
  have e1 : 256 ^ j = b64 ^ (j / 8) * 256 ^ (j % 8) := by
    rw [show b64 = 256 ^ 8 from rfl, ← Nat.pow_mul, ← Nat.pow_add]
    congr 1
    omega
  have e2 : 2 ^ (j % 8 * 8) = 256 ^ (j % 8) := by rw [show (256 : Nat) = 2 ^ 8 from rfl, ← Nat.pow_mul, Nat.mul_comm]
  have e3 : b64 = 256 ^ (j % 8) * (256 * 256 ^ (7 - j % 8)) := by
    rw [← Nat.pow_succ', ← Nat.pow_add, show j % 8 + (7 - j % 8 + 1) = 8 by omega]
    rfl
  rw [e1, e2, ← Nat.div_div_eq_div_mul, ← h, div_pow_digits b64_pos xs hd, hx]
  generalize V b64 (xs.drop (j / 8 + 1)) = T
  rw [e3, Nat.mul_assoc, Nat.mul_comm (256 ^ (j % 8)), Nat.add_mul_div_right _ _ (Nat.pow_pos (by decide)), Nat.mul_assoc, Nat.add_mul_mod_self_left]

set_option maxRecDepth 100000 in
set_option maxHeartbeats 1600000 in
theorem bytes_yes (w : World) (B : Nat) (hB : B ≤ w.heap.size) (A : Option Addr) (n c : Nat) (xs : List Nat) (hs : Sl w B A n c xs) (hd : Dg b64 xs) (hn : n ≤ 17592186044416) (m : Nat) (hm : m ≤ 65536) (hlt : V b64 xs < 256 ^ m) :
    Calls Try.prog 31 #[.slice A n c, .int .i64 (m : Int)] w fun e w' => ∃ g, e = .returned (.tuple #[.slice (some ⟨g, 0, none⟩) m m, .bool true]) ∧ Row8 w' g (be m (V b64 xs)) ∧ Below w.heap.size w w' := by
  have hX := trimmed_nm hd
  have HX := Lib.hid hX
  clear hX
  have hlb : ∀ k, IsBits (V b64 xs) k → k ≤ 8 * m := by
    intro k hk
    apply Classical.byContradiction
    intro h
    have h1 := hk.2 (by omega)
    have h2 : 2 ^ (8 * m) ≤ 2 ^ (k - 1) := Nat.pow_le_pow_right (by decide) (by omega)
    rw [show (256 : Nat) = 2 ^ 8 from rfl, ← Nat.pow_mul] at hlt
    omega
  have HLB := Lib.hid hlb
  have HLT := Lib.hid hlt
  clear hlb hlt
  have hm0 : ¬ (m : Int) < 0 := by omega
  have hm1 : ¬ (65536 : Int) < m := by omega
  go_enter Try.func31, Try.ntmps31
  go_wp2_with fail
  refine (bits_any w B A n c xs hs hd hn).mono ?_
  rintro e w1 ⟨k, rfl, hk, rfl⟩
  have hkb := HLB.out k hk
  have hkb' : ¬ 8 * (m : Int) < (k : Int) := by omega
  clear hkb hk
  go_wp2_with (first | (go_at_call 38; refine (ltrim_sl w B A n c xs hs).mono ?_; rintro e w1 ⟨t, rfl, h3, h4, rfl⟩) | (at_make; refine wl_make8 rfl _ _ Try.underlying51 rfl _ m rfl rfl (by omega) ?_; intro w1 hR hB1 hz1; obtain ⟨g, hg⟩ : ∃ g, g = w.heap.size := ⟨_, rfl⟩; rw [← hg] at hR ⊢; have HG := Lib.hid hg; have HZ1 := Lib.hid hz1; clear hg hz1))
  have hlc := h3.cap
  have hmx := h3.max
  have hgw : w.heap.size ≤ g := by rw [HG.out]; exact Nat.le_refl _
  go_loopw [30] (fun i wr => ∃ k zs, k ≤ m ∧ i = .int .i64 (k : Nat) ∧ Row8 wr g zs ∧ Only w1 wr g ∧ wr.heap.size = w1.heap.size ∧ zs.length = m ∧ (∀ t, t < k → zs[t]? = (be m (V b64 xs))[t]?) ∧ (∀ t, k ≤ t → t < m → zs[t]? = some 0)) (fun i _ => m - (intOf i).toNat)
  case atStart => exact ⟨0, _, Nat.zero_le _, rfl, hR, Only.refl _ _, rfl, by simp, fun t h => absurd h (by omega), fun t _ ht => by simp [ht]⟩
  case round =>
    obtain ⟨k, zs, hk, rfl, hr, ho, hz, hzl, hz1, hz2⟩ := hrel
    have HZ := Lib.hid hz
    have HZL := Lib.hid hzl
    have HZ1' := Lib.hid hz1
    have HZ2 := Lib.hid hz2
    clear hz hzl hz1 hz2
    have hbw : Below w.heap.size w1 wr := ho.below hgw (by rw [HZ1.out]; omega)
    have hbel : Below w.heap.size w wr := hB1.trans hbw
    by_cases hlt : k < m
    · have hsr := h3.below (hbel.mono hB)
      have hf := hr.frozen
      have hki : (k : Int) < m := by omega
      obtain ⟨j, hj⟩ : ∃ j, j = m - 1 - k := ⟨_, rfl⟩
      have hjm : j + k + 1 = m := by omega
      have hjk : (m : Int) - 1 - k = (j : Int) := by omega
      have hcy := hr.at_ (HZ2.out k (Nat.le_refl _) hlt)
      have hbe : (be m (V b64 xs))[k]? = some (V b64 xs / 256 ^ j % 256) := by rw [hj]; exact be_get hlt
      have HBE := Lib.hid hbe
      have HJ := Lib.hid hj
      have HJM := Lib.hid hjm
      clear hbe hj
      have hj6 : j ≤ 1000000 := by omega
      clear hjm
      obtain ⟨L, hL⟩ : ∃ L, j / 8 = L := ⟨_, rfl⟩
      obtain ⟨sh, hsh⟩ : ∃ sh, j % 8 * 8 = sh := ⟨_, rfl⟩
      have hsh64 : (sh : Int) < 64 := by omega
      have hpl := place_any j hj6
      rw [hL, hsh] at hpl
      have HPL := Lib.hid hpl
      have HL := Lib.hid hL
      have HSH := Lib.hid hsh
      clear hpl hL hsh
      by_cases hLt : L < t
      · obtain ⟨b, off, x, rfl, hb, hx, hc⟩ := hsr.at_ hLt
        have HXX := Lib.hid hx
        clear hx
        have hLi : (L : Int) < t := by omega
        go_wp2_with (go_at_call 52; refine (HPL.out _).mono ?_; rintro e w2 ⟨rfl, rfl⟩)
        have hbyte : V b64 xs / 256 ^ j % 256 = x / 2 ^ sh % 256 := by
          rw [← HSH.out]
          exact byte_of HX.out.2.2 HX.out.1 (by rw [HL.out, HXX.out]; rfl)
        refine ⟨⟨k + 1, zs.set k (x / 2 ^ sh % 256), by omega, by go_num, hr.set_ (by rw [Int.natCast_emod, Int.natCast_ediv, Int.natCast_pow]; rfl), ho.set _ _, by simpa [World.setCell] using HZ.out, by simp [HZL.out], fun t ht => ?_, fun t ht1 ht2 => by rw [List.getElem?_set_ne (by omega)]; exact HZ2.out t (by omega) ht2⟩, by simp [intOf]; omega⟩
        by_cases htk : t = k
        · subst htk
          rw [HBE.out, hbyte, set_get _ (by rw [HZL.out]; exact hlt)]
        · rw [List.getElem?_set_ne (by omega)]; exact HZ1'.out t (by omega)
      · have hLi : ¬ (L : Int) < t := by omega
        go_wp2_with (go_at_call 52; refine (HPL.out _).mono ?_; rintro e w2 ⟨rfl, rfl⟩)
        have hbyte : V b64 xs / 256 ^ j % 256 = 0 := by
          rw [byte_of (x := 0) HX.out.2.2 HX.out.1 (by rw [HL.out, List.getElem?_eq_none (by rw [← h3.len]; omega)]; rfl)]
          simp
        refine ⟨⟨k + 1, zs, by omega, by go_num, hr, ho, HZ.out, HZL.out, fun t ht => ?_, fun t ht1 ht2 => HZ2.out t (by omega) ht2⟩, by simp [intOf]; omega⟩
        by_cases htk : t = k
        · subst htk
          rw [HBE.out, hbyte]
          exact HZ2.out t (Nat.le_refl _) hlt
        · exact HZ1'.out t (by omega)
    · obtain rfl : k = m := by omega
      go_wp2
      go_ret2
      have he : zs = be k (V b64 xs) := by
        apply List.ext_getElem?
        intro t
        rcases Nat.lt_or_ge t k with h | h
        · exact HZ1'.out t h
        · rw [List.getElem?_eq_none (by rw [HZL.out]; exact h), List.getElem?_eq_none (by rw [be_length]; exact h)]
      exact ⟨g, rfl, he ▸ hr, hbel⟩

set_option maxRecDepth 100000 in
set_option maxHeartbeats 800000 in
theorem bytes_no (w : World) (B : Nat) (A : Option Addr) (n c : Nat) (xs : List Nat) (hs : Sl w B A n c xs) (hd : Dg b64 xs) (hn : n ≤ 17592186044416) (m : Int) (hm : m < 0 ∨ 65536 < m ∨ (0 ≤ m ∧ m ≤ 65536 ∧ 256 ^ m.toNat ≤ V b64 xs)) :
    Calls Try.prog 31 #[.slice A n c, .int .i64 m] w fun e w' => e = .returned (.tuple #[.slice none 0 0, .bool false]) ∧ w = w' := by
  rcases hm with hm | hm | ⟨hm0, hm1, hge⟩
  · go_enter Try.func31, Try.ntmps31
    go_wp2_with fail
    go_ret2
    exact ⟨rfl, rfl⟩
  · have hm0 : ¬ m < 0 := by omega
    go_enter Try.func31, Try.ntmps31
    go_wp2_with fail
    go_ret2
    exact ⟨rfl, rfl⟩
  · obtain ⟨m, rfl⟩ := Int.eq_ofNat_of_zero_le hm0
    rw [Int.toNat_natCast] at hge
    have hlb : ∀ k, IsBits (V b64 xs) k → 8 * m < k := by
      intro k hk
      apply Classical.byContradiction
      intro h
      have h1 := hk.1
      have h2 : 2 ^ k ≤ 2 ^ (8 * m) := Nat.pow_le_pow_right (by decide) (by omega)
      rw [show (256 : Nat) = 2 ^ 8 from rfl, ← Nat.pow_mul] at hge
      omega
    have HLB := Lib.hid hlb
    clear hlb hge
    have hm2 : ¬ (m : Int) < 0 := by omega
    have hm3 : ¬ (65536 : Int) < m := by omega
    go_enter Try.func31, Try.ntmps31
    go_wp2_with fail
    refine (bits_any w B A n c xs hs hd hn).mono ?_
    rintro e w1 ⟨k, rfl, hk, rfl⟩
    have hkb := HLB.out k hk
    have hkb' : 8 * (m : Int) < (k : Int) := by omega
    clear hkb hk
    go_wp2_with fail
    go_ret2
    exact ⟨rfl, rfl⟩
end Go.Proofs.Ytfiakaenenbhpaa
