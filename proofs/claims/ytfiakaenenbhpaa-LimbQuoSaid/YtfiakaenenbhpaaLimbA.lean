/- limb.addTo. -/
import Derived.Test.YtfiakaenenbhpaaRefF
import Derived.Test.YtfiakaenenbhpaaBits
namespace Go.Proofs.Ytfiakaenenbhpaa
open Go.RowKit

/-- the slice from off on, of length n, within block g -/
def RetAdd (w : World) (g off n : Nat) (zs : List Nat) (v : Nat) (e : Ending) (w' : World) : Prop :=
  ∃ c zs', e = .returned (.int .u64 ((c : Nat) : Int)) ∧ c ≤ 1 ∧ Row w' g zs' ∧ Only w w' g ∧ w'.heap.size = w.heap.size ∧ zs'.length = zs.length ∧ Dg b64 zs' ∧
    (∀ t, t < off ∨ off + n ≤ t → zs'[t]? = zs[t]?) ∧ V b64 zs' + b64 ^ (off + n) * c = V b64 zs + b64 ^ off * v

set_option maxRecDepth 100000 in
set_option maxHeartbeats 800000 in
theorem addTo_any (w : World) (g off nz cz : Nat) (zs : List Nat) (hr : Row w g zs) (B : Nat) (A : Option Addr) (n c : Nat) (ys : List Nat) (hs : Sl w B A n c ys) (hB : B ≤ g)
    (hfit : off + n ≤ zs.length) (hnz : n ≤ nz) (hd : Dg b64 zs) (hd2 : Dg b64 ys) :
    Calls Try.prog 39 #[.slice (some ⟨g, off, none⟩) nz cz, .slice A n c] w fun e w' => RetAdd w g off n zs (V b64 ys) e w' := by
  have hlc := hs.cap
  have hm := hs.max
  have hgs : g < w.heap.size := hr.lt
  go_enter Try.func39, Try.ntmps39
  go_wp2
  go_loopw [5, 10] (fun cv i wr => ∃ k c zs', k ≤ n ∧ i = .int .i64 (k : Nat) ∧ cv = .int .u64 ((c : Nat) : Int) ∧ c ≤ 1 ∧ Row wr g zs' ∧ Only w wr g ∧ wr.heap.size = w.heap.size ∧ zs'.length = zs.length ∧ Dg b64 zs' ∧
    (∀ t, t < off ∨ off + n ≤ t → zs'[t]? = zs[t]?) ∧ V b64 zs' + b64 ^ (off + k) * c = V b64 zs + b64 ^ off * V b64 (ys.take k)) (fun _ i _ => n - (intOf i).toNat)
  case atStart => exact ⟨0, 0, zs, Nat.zero_le _, rfl, rfl, by omega, hr, Only.refl _ _, rfl, rfl, hd, fun _ _ => rfl, by simp [V]⟩
  case round =>
    obtain ⟨k, c', zs', hk, rfl, rfl, hc1, hr', ho, hz, hzl, hdz, hzz, hv⟩ := hrel
    have HZ := Lib.hid hz
    have HZL := Lib.hid hzl
    have HV := Lib.hid hv
    have HZZ := Lib.hid hzz
    clear hz hzl hv hzz
    by_cases hlt : k < n
    · have hsr := hs.below (ho.below hB (by omega))
      have hf := hr'.frozen
      have hki : (k : Int) < n := by omega
      obtain ⟨b, off', y, rfl, hb, hy, hc⟩ := hsr.at_ hlt
      have hyl := hd2.get hy
      have HY := Lib.hid hy
      clear hy
      obtain ⟨old, hold⟩ := get_lt (zs := zs') (k := off + k) (by rw [HZL.out]; omega)
      have hcy := hr'.at_ hold
      have hol := hdz.get hold
      have HO := Lib.hid hold
      clear hold
      have hkz : (k : Int) < nz := by omega
      go_wp2_with (with_reducible show wpList _ _ _ _ _ _; refine wl_add64 (o := ⟨some 24, _, _, _, _, _⟩) rfl _ _ _ rfl old y c' rfl rfl rfl hol hyl hc1 ?_; intro s c2 hs1 hs2 hs3; have HS := Lib.hid hs1; have HS2 := Lib.hid hs2; clear hs1 hs2)
      go_roundw
      case rel => exact ⟨k + 1, c2, zs'.set (off + k) s, by omega, by go_num, by go_num, hs3, hr'.set _ _, ho.set _ _, by simpa [World.setCell] using HZ.out, by simp [HZL.out], hdz.set _ HS2.out, fun t ht => by rw [List.getElem?_set_ne (by omega)]; exact HZZ.out t ht, addTo_step HO.out HY.out HV.out HS.out⟩
      case measure => simp [intOf]; omega
    · obtain rfl : k = n := by omega
      go_wp2
      go_ret
      have hv := HV.out
      rw [List.take_of_length_le (by rw [← hs.len]; omega)] at hv
      exact ⟨c', zs', rfl, hc1, hr', ho, HZ.out, HZL.out, hdz, HZZ.out, hv⟩
end Go.Proofs.Ytfiakaenenbhpaa
