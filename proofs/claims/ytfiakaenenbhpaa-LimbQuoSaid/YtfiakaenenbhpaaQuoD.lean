/- math/bits.Div64 of any words; limb.subMul. -/
import Derived.Test.YtfiakaenenbhpaaDivW
namespace Go.Proofs.Ytfiakaenenbhpaa
open Go.RowKit

theorem div64_any (hi lo d : Nat) (hh : hi < d) (hlo : lo < b64) (hd : d < b64) (w : World) :
    Calls Try.prog 58 #[.int .u64 (hi : Int), .int .u64 (lo : Int), .int .u64 (d : Int)] w fun e w' =>
      e = .returned (.tuple #[.int .u64 (((hi * b64 + lo) / d : Nat) : Int), .int .u64 (((hi * b64 + lo) % d : Nat) : Int)]) ∧ ∃ q, w' = w.drewN q := by
  rcases Nat.eq_zero_or_pos hi with h | h
  · subst h
    have h := div64_zero lo d hlo hh w
    rw [Nat.zero_mul, Nat.zero_add]
    exact h
  · exact div64_pos hi lo d hh h hlo hd w

theorem subMul_step {B : Nat} {zs zr ys : List Nat} {o k c bo c1 bo' hi lo sum s old y d : Nat} (hz : zr[o + k]? = some old) (hy : ys[k]? = some y)
    (hv : V B zr + B ^ o * (V B (ys.take k) * d) = V B zs + B ^ (o + k) * (c + bo)) (h1 : B * hi + lo = y * d) (h2 : sum + B * c1 = lo + c) (h3 : s + (sum + bo) = old + B * bo') :
    V B (zr.set (o + k) s) + B ^ o * (V B (ys.take (k + 1)) * d) = V B zs + B ^ (o + (k + 1)) * (hi + c1 + bo') := by
  have e1 := V_set (B := B) s hz
  rw [V_take_succ hy, show o + (k + 1) = (o + k) + 1 by omega, Nat.pow_succ]
  rw [Nat.pow_add] at *
  obtain ⟨E, hE⟩ : ∃ E, B ^ o = E := ⟨_, rfl⟩
  obtain ⟨K, hK⟩ : ∃ K, B ^ k = K := ⟨_, rfl⟩
  obtain ⟨X, hX⟩ : ∃ X, V B (zr.set (o + k) s) = X := ⟨_, rfl⟩
  obtain ⟨Y, hY⟩ : ∃ X, V B (ys.take k) = X := ⟨_, rfl⟩
  obtain ⟨Z, hZ⟩ : ∃ X, V B zr = X := ⟨_, rfl⟩
  obtain ⟨W, hW⟩ : ∃ X, V B zs = X := ⟨_, rfl⟩
  rw [hE, hK, hX, hZ] at e1
  rw [hE, hK, hZ, hY, hW] at hv
  rw [hE, hK, hX, hY, hW]
  have h4 : s + y * d + c + bo = old + B * (hi + c1 + bo') := by rw [← h1]; grind
  have h5 : E * K * (s + y * d + c + bo) = E * K * (old + B * (hi + c1 + bo')) := by rw [h4]
  clear h1 h2 h3 h4
  grind
theorem subMul_last {B : Nat} {zs zr : List Nat} {o n c bo bo' s old T : Nat} (hz : zr[o + n]? = some old)
    (hv : V B zr + B ^ o * T = V B zs + B ^ (o + n) * (c + bo)) (h3 : s + (c + bo) = old + B * bo') :
    V B (zr.set (o + n) s) + B ^ o * T = V B zs + B ^ (o + n + 1) * bo' := by
  have e1 := V_set (B := B) s hz
  rw [Nat.pow_succ]
  have h5 : B ^ (o + n) * (s + (c + bo)) = B ^ (o + n) * (old + B * bo') := by rw [h3]
  grind
theorem carry_bound {B hi lo y d sum c1 c : Nat} (h : B * hi + lo = y * d) (hy : y < B) (hd : d < B) (h1 : sum + B * c1 = lo + c) (hc : c < B) : hi + c1 < B :=
  amul_bound1 h hy hd h1 hc

def RetSub (w : World) (g off n : Nat) (zs : List Nat) (T : Nat) (e : Ending) (w' : World) : Prop :=
  ∃ bo zs', (bo = 0 ∧ e = .returned (.bool false) ∨ bo = 1 ∧ e = .returned (.bool true)) ∧ Row w' g zs' ∧ Only w w' g ∧ w'.heap.size = w.heap.size ∧ zs'.length = zs.length ∧ Dg b64 zs' ∧
    (∀ t, t < off ∨ off + n + 1 ≤ t → zs'[t]? = zs[t]?) ∧ V b64 zs' + b64 ^ off * T = V b64 zs + b64 ^ (off + n + 1) * bo

set_option maxRecDepth 100000 in
set_option maxHeartbeats 1600000 in
theorem subMul_any (w : World) (g off cz : Nat) (zs : List Nat) (hr : Row w g zs) (B : Nat) (A : Option Addr) (n c : Nat) (ys : List Nat) (hs : Sl w B A n c ys) (hB : B ≤ g)
    (hfit : off + n + 1 ≤ zs.length) (hmax : zs.length ≤ 1000000000) (hd : Dg b64 zs) (hd2 : Dg b64 ys) (d : Nat) (hdd : d < b64) :
    Calls Try.prog 63 #[.slice (some ⟨g, off, none⟩) (n + 1) cz, .slice A n c, .int .u64 (d : Int)] w fun e w' => RetSub w g off n zs (V b64 ys * d) e w' := by
  have hlc := hs.cap
  have hm := hs.max
  have hgs : g < w.heap.size := hr.lt
  have hn9 : n ≤ 1000000000 := by omega
  go_enter Try.func63, Try.ntmps63
  go_wp2
  go_loopw [7, 8, 17] (fun cv bv i wr => ∃ k c bo zs', k ≤ n ∧ i = .int .i64 (k : Nat) ∧ cv = .int .u64 ((c : Nat) : Int) ∧ bv = .int .u64 ((bo : Nat) : Int) ∧ c < b64 ∧ bo ≤ 1 ∧ Row wr g zs' ∧ Only w wr g ∧ wr.heap.size = w.heap.size ∧ zs'.length = zs.length ∧ Dg b64 zs' ∧
    (∀ t, t < off ∨ off + n + 1 ≤ t → zs'[t]? = zs[t]?) ∧ V b64 zs' + b64 ^ off * (V b64 (ys.take k) * d) = V b64 zs + b64 ^ (off + k) * (c + bo)) (fun _ _ i _ => n - (intOf i).toNat)
  case atStart => exact ⟨0, 0, 0, zs, Nat.zero_le _, rfl, rfl, rfl, b64_pos, by omega, hr, Only.refl _ _, rfl, rfl, hd, fun _ _ => rfl, by simp [V]⟩
  case round =>
    obtain ⟨k, c', bo, zs', hk, rfl, rfl, rfl, hc1, hbo, hr', ho, hz, hzl, hdz, hzz, hv⟩ := hrel
    have HZ := Lib.hid hz
    have HZL := Lib.hid hzl
    have HV := Lib.hid hv
    have HZZ := Lib.hid hzz
    clear hz hzl hv hzz
    have hf := hr'.frozen
    by_cases hlt : k < n
    · have hsr := hs.below (ho.below hB (by omega))
      have hki : (k : Int) < n := by omega
      obtain ⟨b, off', y, rfl, hb, hy, hc⟩ := hsr.at_ hlt
      have hyl := hd2.get hy
      have HY := Lib.hid hy
      clear hy
      obtain ⟨old, hold⟩ := get_lt (zs := zs') (k := off + k) (by rw [HZL.out]; omega)
      have hcy := hr'.at_ hold
      have hol := hdz.get hold
      have HO := Lib.hid hold
      clear hold
      have hkz : (k : Int) < n + 1 := by omega
      have hkz2 : (k : Int) < ((n + 1 : Nat) : Int) := by omega
      go_wp2_with (first | (go_at_call 54; refine (mul64_any y d hyl hdd _).mono ?_; rintro e w1 ⟨hi, lo, rfl, hmu, hhi, hlo, rfl⟩; have HMU := Lib.hid hmu; have HHI := Lib.hid hhi; clear hmu hhi) | (with_reducible show wpList _ _ _ _ _ _; refine wl_add64 (o := ⟨some 31, _, _, _, _, _⟩) rfl _ _ _ rfl lo c' 0 rfl rfl rfl hlo hc1 (Nat.zero_le _) ?_; intro sum c1 hs1 hs2 hs3; simp only [Nat.add_zero] at hs1; have HS := Lib.hid hs1; have hb1 : (hi : Int) + c1 < 18446744073709551616 := (by have := lt64.1 (carry_bound HMU.out hyl hdd HS.out hc1); omega); have hs2' := hs2; clear hs1) | (with_reducible show wpList _ _ _ _ _ _; refine wl_sub64 (o := ⟨some 46, _, _, _, _, _⟩) rfl _ _ _ rfl old sum bo rfl rfl rfl hol hs2' hbo ?_; intro s b2 ht1 ht2 ht3; have HT := Lib.hid ht1; have HT2 := Lib.hid ht2; clear ht1 ht2))
      go_roundw
      case rel => exact ⟨k + 1, hi + c1, b2, zs'.set (off + k) s, by omega, by go_num, by go_num, by go_num, carry_bound HMU.out hyl hdd HS.out hc1, ht3, hr'.set _ _, ho.set _ _, by simpa [World.setCell] using HZ.out, by simp [HZL.out], hdz.set _ HT2.out, fun t ht => by rw [List.getElem?_set_ne (by omega)]; exact HZZ.out t ht, subMul_step HO.out HY.out HV.out HMU.out HS.out HT.out⟩
      case measure => simp [intOf]; omega
    · obtain rfl : k = n := by omega
      obtain ⟨old, hold⟩ := get_lt (zs := zs') (k := off + k) (by rw [HZL.out]; omega)
      have hcy := hr'.at_ hold
      have hol := hdz.get hold
      have HO := Lib.hid hold
      clear hold
      have hkz : (k : Int) < k + 1 := by omega
      have hkz2 : (k : Int) < ((k + 1 : Nat) : Int) := by omega
      have hv := HV.out
      rw [List.take_of_length_le (by rw [← hs.len]; omega)] at hv
      have HV2 := Lib.hid hv
      clear hv
      go_wp2_with ((with_reducible show wpList _ _ _ _ _ _); refine wl_sub64 (o := ⟨some 62, _, _, _, _, _⟩) rfl _ _ _ rfl old c' bo rfl rfl rfl hol hc1 hbo ?_; intro s b2 ht1 ht2 ht3; have HT := Lib.hid ht1; have HT2 := Lib.hid ht2; clear ht1 ht2)
      have fin : ∀ e, (b2 = 0 ∧ e = Ending.returned (.bool false) ∨ b2 = 1 ∧ e = .returned (.bool true)) → RetSub w g off k zs (V b64 ys * d) e (wr.setCell ⟨g, off + k, none⟩ (.int .u64 (s : Int))) := fun e he =>
        ⟨b2, zs'.set (off + k) s, he, hr'.set _ _, ho.set _ _, by simpa [World.setCell] using HZ.out, by simp [HZL.out], hdz.set _ HT2.out, fun t ht => by rw [List.getElem?_set_ne (by omega)]; exact HZZ.out t (by omega), subMul_last HO.out HV2.out HT.out⟩
      have FIN := Lib.hid fin
      clear fin
      have h01 : b2 = 0 ∨ b2 = 1 := by omega
      rcases h01 with h | h
      · subst h
        go_wp2
        go_ret
        exact FIN.out (.returned (.bool false)) (.inl ⟨by trivial, rfl⟩)
      · subst h
        go_wp2
        go_ret
        exact FIN.out (.returned (.bool true)) (.inr ⟨by trivial, rfl⟩)
end Go.Proofs.Ytfiakaenenbhpaa
