/- limb.Shr. -/
import Derived.Test.YtfiakaenenbhpaaLimbN
namespace Go.Proofs.Ytfiakaenenbhpaa
open Go.RowKit

theorem le_valueB {B : Nat} (m N : Nat) : V B ((List.range m).map fun i => N / B ^ i % B) = N % B ^ m := by
  induction m with
  | zero => simp [V, Nat.mod_one]
  | succ m ih =>
    rw [List.range_succ, List.map_append, V_append, ih, List.length_map, List.length_range, Nat.mod_pow_succ]
    simp [V]
theorem V_digits {B M m : Nat} {zs : List Nat} (hl : zs.length = m) (h : ∀ t, t < m → zs[t]? = some (M / B ^ t % B)) (hM : M < B ^ m) : V B zs = M := by
  have e : zs = (List.range m).map fun i => M / B ^ i % B := by
    apply List.ext_getElem?
    intro t
    rcases Nat.lt_or_ge t m with h1 | h1
    · rw [h t h1]; simp [h1]
    · rw [List.getElem?_eq_none (by rw [hl]; exact h1), List.getElem?_eq_none (by simp [h1])]
  rw [e, le_valueB, Nat.mod_eq_of_lt hM]
/-- a limb of the number moved down -/
theorem shr_digit {xs : List Nat} {N wh p i x y : Nat} (hp : p < 64) (h : V b64 xs = N) (hd : Dg b64 xs) (hx : xs[wh + i]?.getD 0 = x) (hy : xs[wh + i + 1]?.getD 0 = y) :
    N / (b64 ^ wh * 2 ^ p) / b64 ^ i % b64 = x / 2 ^ p + y * 2 ^ (64 - p) % b64 ∧ x / 2 ^ p ||| y * 2 ^ (64 - p) % b64 = x / 2 ^ p + y * 2 ^ (64 - p) % b64 := by
  have e64 : b64 = 2 ^ p * 2 ^ (64 - p) := by rw [← Nat.pow_add, show p + (64 - p) = 64 by omega]; rfl
  have hxl : x < b64 := by
    rw [← hx]
    cases hg : xs[wh + i]? with
    | none => exact b64_pos
    | some z => exact hd.get hg
  have hxp : x / 2 ^ p < 2 ^ (64 - p) := by
    refine Nat.div_lt_of_lt_mul ?_
    rw [← e64]; exact hxl
  have hm : y * 2 ^ (64 - p) % b64 = 2 ^ (64 - p) * (y % 2 ^ p) := by
    rw [e64, Nat.mul_comm y, Nat.mul_comm (2 ^ p), Nat.mul_mod_mul_left]
  have hsum : x / 2 ^ p + y * 2 ^ (64 - p) % b64 < b64 := by
    rw [hm]
    have h1 : y % 2 ^ p < 2 ^ p := Nat.mod_lt _ (Nat.pow_pos (by decide))
    have h2 := Nat.mul_le_mul_left (2 ^ (64 - p)) h1
    rw [Nat.mul_succ, Nat.mul_comm (2 ^ (64 - p)) (2 ^ p), ← e64] at h2
    omega
  refine ⟨?_, ?_⟩
  · have e1 : N / (b64 ^ wh * 2 ^ p) / b64 ^ i = N / b64 ^ (wh + i) / 2 ^ p := by
      rw [Nat.div_div_eq_div_mul, Nat.div_div_eq_div_mul, Nat.pow_add]
      congr 1
      rw [Nat.mul_assoc, Nat.mul_assoc, Nat.mul_comm (2 ^ p)]
    have e2 : V b64 (xs.drop (wh + i + 1)) = y + b64 * V b64 (xs.drop (wh + i + 1 + 1)) := by
      have h3 := div_pow_digits b64_pos (xs.drop (wh + i + 1)) (hd.drop _) 0
      rw [Nat.pow_zero, Nat.div_one, List.getElem?_drop, Nat.add_zero, hy, List.drop_drop] at h3
      rw [h3, Nat.zero_add]
    rw [e1, ← h, div_pow_digits b64_pos xs hd, hx, e2]
    generalize V b64 (xs.drop (wh + i + 1 + 1)) = T
    have e3 : x + b64 * (y + b64 * T) = x + 2 ^ p * (2 ^ (64 - p) * y + b64 * (2 ^ (64 - p) * T)) := by
      rw [Nat.mul_add (2 ^ p), ← Nat.mul_assoc (2 ^ p), ← e64, Nat.mul_left_comm (2 ^ p) b64, ← Nat.mul_assoc (2 ^ p) (2 ^ (64 - p)), ← e64, ← Nat.mul_add]
    rw [e3, Nat.add_mul_div_left _ _ (Nat.pow_pos (by decide)), ← Nat.add_assoc, Nat.add_mul_mod_self_left, Nat.mul_comm (2 ^ (64 - p)) y, Nat.add_mod, Nat.mod_eq_of_lt (show x / 2 ^ p < b64 from Nat.lt_of_le_of_lt (Nat.div_le_self _ _) hxl), Nat.mod_eq_of_lt hsum]
  · rw [hm, Nat.or_comm, ← Nat.two_pow_add_eq_or_of_lt hxp, Nat.add_comm]

set_option maxHeartbeats 800000 in
theorem shr_no (w : World) (B : Nat) (A : Option Addr) (n c : Nat) (xs : List Nat) (hs : Sl w B A n c xs) (s : Int) (hs1 : s < 0) :
    Calls Try.prog 23 #[.slice A n c, .int .i64 s] w fun e w' => e = .returned (.slice none 0 0) ∧ w = w' := by
  go_enter Try.func23, Try.ntmps23
  go_wp2_with fail
  refine (ltrim_sl w B A n c xs hs).mono ?_; rintro e w1 ⟨m, rfl, h3, h4, rfl⟩
  go_wp2
  go_ret
  exact ⟨rfl, rfl⟩

theorem nil_retN {w : World} {B : Nat} : RetN B w 0 (.returned (.slice none 0 0)) w :=
  ⟨[], ⟨fun x hx => (by cases hx), fun x hx => (by cases hx), rfl⟩, _, _, _, rfl, Sl.nil _ _ _ (by omega), Below.refl _ _⟩

set_option maxRecDepth 100000 in
set_option maxHeartbeats 1600000 in
theorem shr_any (w : World) (B : Nat) (hB : B ≤ w.heap.size) (A : Option Addr) (n c : Nat) (xs : List Nat) (hs : Sl w B A n c xs) (hd : Dg b64 xs) (hn : n ≤ 1000000000) (s : Nat) (hs1 : s ≤ 9223372036854775807) :
    Calls Try.prog 23 #[.slice A n c, .int .i64 (s : Int)] w fun e w' => RetN b64 w (V b64 xs / 2 ^ s) e w' := by
  have hX := trimmed_nm hd
  have HX := Lib.hid hX
  clear hX
  have hs0 : ¬ (s : Int) < 0 := by omega
  obtain ⟨wh, hwh⟩ : ∃ wh, s / 64 = wh := ⟨_, rfl⟩
  obtain ⟨p, hp⟩ : ∃ p, s % 64 = p := ⟨_, rfl⟩
  have hwi : (s : Int) / 64 = (wh : Int) := by omega
  have hpi : (s : Int) % 64 = (p : Int) := by omega
  have hp64 : p < 64 := by omega
  have hsn : 2 ^ s = b64 ^ wh * 2 ^ p := by
    rw [show b64 = 2 ^ 64 from rfl, ← Nat.pow_mul, ← Nat.pow_add]
    congr 1
    omega
  have HSN := Lib.hid hsn
  clear hsn hwh hp
  go_enter Try.func23, Try.ntmps23
  go_wp2_with fail
  refine (ltrim_sl w B A n c xs hs).mono ?_; rintro e w1 ⟨m, rfl, h3, h4, rfl⟩
  have hlc := h3.cap
  have hmx := h3.max
  by_cases hge : m ≤ wh
  · have hgi : (m : Int) ≤ (wh : Int) := by omega
    go_wp2
    go_ret
    have h1 := V_lt (trimmed xs) HX.out.1
    rw [HX.out.2.2, ← h3.len] at h1
    have h2 : b64 ^ m ≤ b64 ^ wh := Nat.pow_le_pow_right b64_pos hge
    have h5 : b64 ^ wh ≤ b64 ^ wh * 2 ^ p := Nat.le_mul_of_pos_right _ (Nat.pow_pos (by decide))
    have h6 : V b64 xs / 2 ^ s = 0 := by
      rw [HSN.out]
      exact Nat.div_eq_of_lt (Nat.lt_of_lt_of_le h1 (Nat.le_trans h2 h5))
    rw [h6]
    exact nil_retN
  · have hgi : ¬ (m : Int) ≤ (wh : Int) := by omega
    obtain ⟨l, hl⟩ : ∃ l, m = wh + l := ⟨m - wh, by omega⟩
    have hli : (m : Int) - (wh : Int) = (l : Int) := by omega
    have HL := Lib.hid hl
    have hl9 : l ≤ 1000000000 := by omega
    clear hl
    obtain ⟨r, hr64⟩ : ∃ r, 64 - p = r := ⟨_, rfl⟩
    have hri : (64 : Int) - p = (r : Int) := by omega
    have HR := Lib.hid hr64
    clear hr64
    go_wp2_with (at_make; refine wl_make rfl _ _ Try.underlying23 rfl _ l rfl (by omega) (by omega) ?_; intro w1 hR hB1 hz1; obtain ⟨g, hg⟩ : ∃ g, g = w.heap.size := ⟨_, rfl⟩; rw [← hg] at hR ⊢; have HG := Lib.hid hg; have HZ1 := Lib.hid hz1; clear hg hz1)
    obtain ⟨M, hM⟩ : ∃ M, V b64 xs / (b64 ^ wh * 2 ^ p) = M := ⟨_, rfl⟩
    have hMl : M < b64 ^ l := by
      have h1 := V_lt (trimmed xs) HX.out.1
      rw [HX.out.2.2, ← h3.len, HL.out, Nat.pow_add] at h1
      rw [← hM, ← Nat.div_div_eq_div_mul]
      exact Nat.lt_of_le_of_lt (Nat.div_le_self _ _) (Nat.div_lt_of_lt_mul h1)
    have HM := Lib.hid hM
    have HML := Lib.hid hMl
    clear hM hMl
    go_loopw [32] (fun i wr => ∃ k zs, k ≤ l ∧ i = .int .i64 (k : Nat) ∧ Row wr g zs ∧ Only w1 wr g ∧ wr.heap.size = w1.heap.size ∧ zs.length = l ∧ Dg b64 zs ∧ (∀ t, t < k → zs[t]? = some (M / b64 ^ t % b64))) (fun i _ => l - (intOf i).toNat)
    case atStart => exact ⟨0, _, Nat.zero_le _, rfl, hR, Only.refl _ _, rfl, by simp, dg_zeros b64_pos _, fun t h => absurd h (by omega)⟩
    case round =>
      obtain ⟨k, zs, hk, rfl, hr, ho, hz, hzl, hdz, hzz⟩ := hrel
      have HZ := Lib.hid hz
      have HZL := Lib.hid hzl
      have HZZ := Lib.hid hzz
      clear hz hzl hzz
      have hbel : Below w.heap.size w wr := hB1.trans (ho.below (by rw [HG.out]; exact Nat.le_refl _) (by rw [HZ1.out]; omega))
      by_cases hlt : k < l
      · have hsr := h3.below (hbel.mono hB)
        have hki : (k : Int) < l := by omega
        have hwm : wh + k < m := by have := HL.out; omega
        obtain ⟨b, off, x, rfl, hb1, hx, hc⟩ := hsr.at_ hwm
        have hbg : b ≠ g := by have := HG.out; omega
        have hbg' : g ≠ b := fun e => hbg e.symm
        have hfz := hr.frozen
        obtain ⟨z0, hz0⟩ := get_lt (zs := zs) (k := k) (by rw [HZL.out]; exact hlt)
        have hcz := hr.at_ hz0
        clear hz0
        have hwi2 : (wh : Int) + k < m := by omega
        have hwi0 : (0 : Int) ≤ (wh : Int) + k := by omega
        have h1 : (x : Int) / 2 ^ p = ((x / 2 ^ p : Nat) : Int) := by rw [Int.natCast_ediv, Int.natCast_pow]; rfl
        have H1 := Lib.hid h1
        clear h1
        have fin : ∀ (v : Nat) (W : World), v = M / b64 ^ k % b64 → Row W g (zs.set k v) → Only w1 W g → W.heap.size = w1.heap.size →
            ∃ k1 zs, k1 ≤ l ∧ Value.int IntKind.i64 (((k + 1 : Nat)) : Int) = .int .i64 (k1 : Nat) ∧ Row W g zs ∧ Only w1 W g ∧ W.heap.size = w1.heap.size ∧ zs.length = l ∧ Dg b64 zs ∧ (∀ t, t < k1 → zs[t]? = some (M / b64 ^ t % b64)) := by
          rintro v W rfl hW hO hS
          refine ⟨k + 1, _, by omega, rfl, hW, hO, hS, by simp [HZL.out], hdz.set _ (Nat.mod_lt _ b64_pos), fun t ht => ?_⟩
          by_cases htk : t = k
          · subst htk; exact set_get _ (by rw [HZL.out]; exact hlt)
          · rw [List.getElem?_set_ne (fun e => htk e.symm)]; exact HZZ.out t (by omega)
        have FIN := Lib.hid fin
        clear fin
        by_cases hlast : wh + k + 1 < m
        · obtain ⟨b', off', y, hA, hb', hy, hc'⟩ := hsr.at_ hlast
          obtain ⟨rfl, rfl⟩ : b = b' ∧ off = off' := by injection hA with h; injection h with h1 h2; exact ⟨h1, h2⟩
          have hsd := shr_digit (i := k) hp64 HX.out.2.2 HX.out.1 (by rw [hx, Option.getD_some]) (by rw [hy, Option.getD_some])
          rw [HM.out, HR.out] at hsd
          have hxl := lt64.1 (HX.out.1.get hx)
          have hor : bits BinOp.or IntKind.u64 ((x : Int) / 2 ^ p) (IntKind.u64.wrap ((y : Int) * 2 ^ r)) = ((x / 2 ^ p + y * 2 ^ r % b64 : Nat) : Int) := by
            have e : (y : Int) * 2 ^ r = ((y * 2 ^ r : Nat) : Int) := by rw [Int.natCast_mul, Int.natCast_pow]; rfl
            rw [e, H1.out, wrap_mod64, or_nat64 (Nat.lt_of_le_of_lt (Nat.div_le_self _ _) hxl) (Nat.mod_lt _ (by decide))]
            exact congrArg Nat.cast hsd.2
          have HOR := Lib.hid hor
          have HSD := Lib.hid hsd
          clear hor hsd hx hy hA
          have hla : (wh : Int) + k + 1 < m := by omega
          have hla0 : (0 : Int) ≤ (wh : Int) + k + 1 := by omega
          go_wp2
          go_region
          rw [HOR.out]
          go_wp2
          go_roundw
          case rel =>
            have hr1 := hr.set_ (i := k) H1.out
            have hr2 := hr1.set_ (i := k) (x := x / 2 ^ p + y * 2 ^ r % b64) rfl
            rw [List.set_set] at hr2
            exact FIN.out _ _ HSD.out.1.symm (hr2.drewN 1) (((ho.set _ _).set _ _).drewN 1) (by simpa [World.setCell] using HZ.out)
          case measure => simp [intOf]; omega
        · have hsd := shr_digit (i := k) (y := 0) hp64 HX.out.2.2 HX.out.1 (by rw [hx, Option.getD_some]) (by rw [List.getElem?_eq_none (by rw [← h3.len]; omega)]; rfl)
          rw [HM.out, Nat.zero_mul, Nat.zero_mod, Nat.add_zero] at hsd
          have HSD := Lib.hid hsd
          clear hsd hx
          have hla : ¬ (wh : Int) + k + 1 < m := by omega
          go_wp2
          go_roundw
          case rel =>
            have hr1 := hr.set_ (i := k) H1.out
            exact FIN.out _ _ HSD.out.1.symm hr1 (ho.set _ _) (by simpa [World.setCell] using HZ.out)
          case measure => simp [intOf]; omega
      · obtain rfl : k = l := by omega
        have hsl := hr.sl (by rw [HZL.out]; omega)
        rw [HZL.out] at hsl
        go_wp2_with (go_at_call 38; refine (ltrim_sl _ _ _ _ _ zs hsl).mono ?_; rintro e w2 ⟨m, rfl, h1, h2, rfl⟩)
        go_ret
        exact retN_trim h1 hdz (by rw [V_digits HZL.out HZZ.out HML.out, HSN.out, HM.out]) hbel
end Go.Proofs.Ytfiakaenenbhpaa
