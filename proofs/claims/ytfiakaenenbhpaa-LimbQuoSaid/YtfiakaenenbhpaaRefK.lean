/- The reference's less. -/
import Derived.Test.YtfiakaenenbhpaaRefJ
namespace Go.Proofs.Ytfiakaenenbhpaa
open Go.RowKit

theorem Only.row {w w' : World} {g h : Nat} {zs : List Nat} (ho : Only w w' g) (hr : Row w h zs) (hne : h ≠ g) : Row w' h zs := (ho.block h hr.lt (fun e => by injection e with e; omega)).trans hr

theorem less_step {zs uw : List Nat} {i g c y x bo off wi bo' gv gv' : Nat} (hl : i < zs.length) (hx : uw[i]? = some x) (hoff : off = (c + y * g) % 4294967296 + bo) (hwi : off + wi = x + 4294967296 * bo') (hg : gv' = gv + b32 ^ i * (y * g))
    (h : V b32 (zs.take i) + gv = V b32 (uw.take i) + b32 ^ i * (bo + c)) :
    V b32 ((zs.set i wi).take (i + 1)) + gv' = V b32 (uw.take (i + 1)) + b32 ^ (i + 1) * (bo' + (c + y * g) / 4294967296) := by
  rw [V_set_take _ hl, V_take_succ hx, hg, Nat.pow_succ]
  have h1 := Nat.div_add_mod (c + y * g) 4294967296
  have e : bo + c + wi + y * g = x + 4294967296 * (bo' + (c + y * g) / 4294967296) := by omega
  have h2 : b32 ^ i * (bo + c) + b32 ^ i * wi + b32 ^ i * (y * g) = b32 ^ i * x + b32 ^ i * b32 * (bo' + (c + y * g) / 4294967296) := by
    rw [← Nat.mul_add, ← Nat.mul_add, Nat.mul_assoc, ← Nat.mul_add]
    exact congrArg _ e
  omega

theorem splice_V {us zs : List Nat} {k n1 gv : Nat} (hl : zs.length = n1) (hk : k + n1 ≤ us.length) (h : V b32 zs + gv = V b32 ((us.drop k).take n1)) : V b32 (splice us k zs) + b32 ^ k * gv = V b32 us := by
  have e1 : V b32 us = V b32 (us.take k) + b32 ^ k * (V b32 ((us.drop k).take n1) + b32 ^ n1 * V b32 ((us.drop k).drop n1)) := by
    have h1 := V_split (B := b32) us k
    rw [Nat.min_eq_left (by omega)] at h1
    have h2 := V_split (B := b32) (us.drop k) n1
    rw [Nat.min_eq_left (by rw [List.length_drop]; omega)] at h2
    rw [h1, ← h2]
  have e2 : V b32 (splice us k zs) = V b32 (us.take k) + b32 ^ k * (V b32 zs + b32 ^ n1 * V b32 ((us.drop k).drop n1)) := by
    unfold splice
    rw [V_append, V_append, List.length_take, Nat.min_eq_left (by omega), hl, List.drop_drop]
  rw [e1, e2, ← h, Nat.mul_add, Nat.mul_add, Nat.mul_add]
  omega

set_option maxRecDepth 100000 in
set_option maxHeartbeats 2000000 in
theorem less_any (w : World) (gu gv gw : Nat) (us vs ws : List Nat) (hu : Row w gu us) (hv : Row w gv vs) (hw : Row w gw ws) (hdu : Dg b32 us) (hdv : Dg b32 vs) (hdw : Dg b32 ws) (_huv : gu ≠ gv) (huw : gu ≠ gw) (hvw : gv ≠ gw)
    (nu n cv k g : Nat) (hnu : us.length = nu) (hnv : n ≤ vs.length) (hnw : ws.length = n + 1) (hk : k + n + 1 ≤ nu) (hmax : nu ≤ 1000000000) (_hcv : n ≤ cv) (hg : g < 4294967296) :
    Calls Try.prog 49 #[.slice (some ⟨gu, 0, none⟩) nu nu, .slice (some ⟨gv, 0, none⟩) n cv, .slice (some ⟨gw, 0, none⟩) ((n + 1 : Nat) : Nat) ((n + 1 : Nat) : Nat), .int .i64 (k : Int), .int .u64 (g : Int)] w fun e w' =>
      ∃ wm, Only w wm gw ∧ wm.heap.size = w.heap.size ∧ ∃ zs, Row wm gw zs ∧ zs.length = n + 1 ∧ Dg b32 zs ∧
        ((e = .returned (.bool false) ∧ V b32 ((us.drop k).take (n + 1)) < g * V b32 (vs.take n) ∧ wm = w') ∨
         (e = .returned (.bool true) ∧ V b32 zs + g * V b32 (vs.take n) = V b32 ((us.drop k).take (n + 1)) ∧ Only wm w' gu ∧ Row w' gu (splice us k zs) ∧ w'.heap.size = w.heap.size)) := by
  have HNU := Lib.hid hnu
  have HNV := Lib.hid hnv
  have HNW := Lib.hid hnw
  clear hnu hnv hnw
  go_enter Try.func49, Try.ntmps49
  go_wp2_with fail
  go_loopw [12, 13, 14] (fun cv bv iv wr => ∃ (i c bo : Nat) (zs : List Nat), i ≤ n + 1 ∧ iv = .int .i64 (i : Nat) ∧ cv = .int .u64 ((c : Nat) : Int) ∧ bv = .int .u64 ((bo : Nat) : Int) ∧ c < 4294967296 ∧ bo ≤ 1 ∧ (i = n + 1 → c = 0) ∧ Row wr gw zs ∧ Only w wr gw ∧ wr.heap.size = w.heap.size ∧ zs.length = n + 1 ∧ Dg b32 zs ∧
    V b32 (zs.take i) + g * V b32 ((vs.take n).take i) = V b32 ((us.drop k).take i) + b32 ^ i * (bo + c)) (fun _ _ iv _ => n + 1 - (intOf iv).toNat)
  case atStart => exact ⟨0, 0, 0, ws, by omega, rfl, rfl, rfl, by omega, by omega, fun h => absurd h (by omega), hw, Only.refl _ _, rfl, HNW.out, hdw, by simp [V]⟩
  case round =>
    obtain ⟨i, c, bo, zs, hi, rfl, rfl, rfl, hc1, hbo, hlast, hr, ho, hz, hzl, hdz, hvz⟩ := hrel
    have hru := ho.row hu huw
    have hrv := ho.row hv hvw
    have HZ := Lib.hid hz
    have HZL := Lib.hid hzl
    have HV := Lib.hid hvz
    have HLAST := Lib.hid hlast
    clear hz hzl hvz hlast
    by_cases hle : i ≤ n
    · have hli : (i : Int) ≤ n := by omega
      obtain ⟨x, hx⟩ := get_lt (zs := us) (k := k + i) (by rw [HNU.out]; omega)
      have hxc := hru.at_ hx
      have hxl := lt32.1 (hdu.get hx)
      have hux : (us.drop k)[i]? = some x := by rw [List.getElem?_drop]; exact hx
      obtain ⟨z0, hz0⟩ := get_lt (zs := zs) (k := i) (by rw [HZL.out]; omega)
      have hzc := hr.at_ hz0
      have hf := hr.frozen
      have hki : (k : Int) + i < nu := by omega
      have hki0 : (0 : Int) ≤ (k : Int) + i := by omega
      have HUX := Lib.hid hux
      clear hx hz0 hux
      obtain ⟨y, hy9, hyl, hgv⟩ : ∃ y, ((i < n ∧ vs[i]? = some y) ∨ (i = n ∧ y = 0)) ∧ y < 4294967296 ∧ g * V b32 ((vs.take n).take (i + 1)) = g * V b32 ((vs.take n).take i) + b32 ^ i * (y * g) := by
        by_cases h : i < n
        · obtain ⟨y, hy⟩ := get_lt (zs := vs) (k := i) (by have := HNV.out; omega)
          refine ⟨y, .inl ⟨h, hy⟩, lt32.1 (hdv.get hy), ?_⟩
          rw [V_take_succ (x := y) (by rw [List.getElem?_take, if_pos h]; exact hy), Nat.mul_add, Nat.mul_left_comm, Nat.mul_comm g y]
        · have : i = n := by omega
          refine ⟨0, .inr ⟨this, rfl⟩, by omega, ?_⟩
          rw [List.take_of_length_le (l := vs.take n) (i := i + 1) (by rw [List.length_take]; omega), List.take_of_length_le (l := vs.take n) (i := i) (by rw [List.length_take]; omega)]
          simp
      have hyg := mul_le32 (x := y) (y := g) (by omega) (by omega)
      obtain ⟨cn, hcn⟩ : ∃ cn, c + y * g = cn := ⟨_, rfl⟩
      have hcni : (c : Int) + (y : Int) * g = (cn : Int) := by rw [← Int.natCast_mul]; omega
      have hcn64 : (cn : Int) < 18446744073709551616 := by omega
      have hygi : (y : Int) * g < 18446744073709551616 := by rw [← Int.natCast_mul]; omega
      have hyg0 : (0 : Int) ≤ (y : Int) * g := Int.mul_nonneg (by omega) (by omega)
      have hcd : cn / 4294967296 < 4294967296 := by omega
      obtain ⟨off, hoff⟩ : ∃ off, off = cn % 4294967296 + bo := ⟨_, rfl⟩
      have hoffi : (cn : Int) % 4294967296 + bo = (off : Int) := by omega
      have hoffl : off ≤ 4294967296 := by omega
      have hstep := fun (wi bo' : Nat) (h : off + wi = x + 4294967296 * bo') => less_step (zs := zs) (i := i) (g := g) (c := c) (y := y) (bo := bo) (bo' := bo') (by rw [HZL.out]; omega) HUX.out (by rw [hcn]; exact hoff) h hgv HV.out
      rw [hcn] at hstep
      have HST := Lib.hid hstep
      have hl0 : i + 1 = n + 1 → cn / 4294967296 = 0 := by
        intro h
        rcases hy9 with ⟨h1, _⟩ | ⟨h1, h2⟩
        · omega
        · subst h2; omega
      have HL0 := Lib.hid hl0
      have HY9 := Lib.hid hy9
      clear hstep hl0 hy9 hgv hyg hcn hoff
      have fin : ∀ (wi bo' : Nat) (W : World), off + wi = x + 4294967296 * bo' → bo' ≤ 1 → wi < 4294967296 → Row W gw (zs.set i wi) → Only w W gw → W.heap.size = w.heap.size →
          ∃ (i1 c1 bo1 : Nat) (zs1 : List Nat), i1 ≤ n + 1 ∧ Value.int IntKind.i64 (((i + 1 : Nat)) : Int) = .int .i64 (i1 : Nat) ∧ Value.int IntKind.u64 ((cn / 4294967296 : Nat) : Int) = .int .u64 ((c1 : Nat) : Int) ∧ Value.int IntKind.u64 ((bo' : Nat) : Int) = .int .u64 ((bo1 : Nat) : Int) ∧ c1 < 4294967296 ∧ bo1 ≤ 1 ∧ (i1 = n + 1 → c1 = 0) ∧ Row W gw zs1 ∧ Only w W gw ∧ W.heap.size = w.heap.size ∧ zs1.length = n + 1 ∧ Dg b32 zs1 ∧
            V b32 (zs1.take i1) + g * V b32 ((vs.take n).take i1) = V b32 ((us.drop k).take i1) + b32 ^ i1 * (bo1 + c1) := by
        intro wi bo' W h1 h2 h3 hW hO hS
        exact ⟨i + 1, cn / 4294967296, bo', _, by omega, rfl, rfl, rfl, hcd, h2, HL0.out, hW, hO, hS, by simp [HZL.out], hdz.set _ (lt32.2 h3), HST.out wi bo' h1⟩
      have FIN := Lib.hid fin
      clear fin
      by_cases hin : i < n
      · have hini : (i : Int) < n := by omega
        have hy : vs[i]? = some y := (HY9.out.resolve_right (fun h => by have := h.1; omega)).2
        have hyc := hrv.at_ hy
        clear hy
        by_cases hxo : x < off
        · have hxoi : (x : Int) < off := by omega
          go_wp2
          go_roundw
          case rel => exact FIN.out (x + 4294967296 - off) 1 _ (by omega) (by omega) (by omega) (hr.set_ (by omega)) (ho.set _ _) (by simpa [World.setCell] using HZ.out)
          case measure => simp [intOf]; omega
        · have hxoi : ¬ (x : Int) < off := by omega
          go_wp2
          go_roundw
          case rel => exact FIN.out (x - off) 0 _ (by omega) (by omega) (by omega) (hr.set_ (by omega)) (ho.set _ _) (by simpa [World.setCell] using HZ.out)
          case measure => simp [intOf]; omega
      · have hini : ¬ (i : Int) < n := by omega
        have hy0 : y = 0 := (HY9.out.resolve_left (fun h => by have := h.1; omega)).2
        subst hy0
        have hcc : c = cn := by omega
        subst hcc
        by_cases hxo : x < off
        · have hxoi : (x : Int) < off := by omega
          go_wp2
          go_roundw
          case rel => exact FIN.out (x + 4294967296 - off) 1 _ (by omega) (by omega) (by omega) (hr.set_ (by omega)) (ho.set _ _) (by simpa [World.setCell] using HZ.out)
          case measure => simp [intOf]; omega
        · have hxoi : ¬ (x : Int) < off := by omega
          go_wp2
          go_roundw
          case rel => exact FIN.out (x - off) 0 _ (by omega) (by omega) (by omega) (hr.set_ (by omega)) (ho.set _ _) (by simpa [World.setCell] using HZ.out)
          case measure => simp [intOf]; omega
    · obtain rfl : i = n + 1 := by omega
      have hv := HV.out
      have hc0 := HLAST.out rfl
      rw [hc0, Nat.add_zero, List.take_of_length_le (by rw [HZL.out]; exact Nat.le_refl _), List.take_of_length_le (l := vs.take n) (by rw [List.length_take]; omega)] at hv
      have hzlt := V_lt zs hdz
      rw [HZL.out] at hzlt
      have HV2 := Lib.hid hv
      have HZLT := Lib.hid hzlt
      clear hv hzlt
      by_cases hb : bo = 0
      · subst hb
        have hsw := hr.sl (by rw [HZL.out]; omega)
        rw [HZL.out] at hsw
        have hkn : (k : Int) ≤ nu := by omega
        obtain ⟨dn, hdn⟩ : ∃ dn, k + dn = nu := ⟨nu - k, by omega⟩
        have hdni : (nu : Int) - k = (dn : Int) := by omega
        go_wp2_with (with_reducible show wpList _ _ _ _ _ _; refine wl_copy (o := ⟨some 64, _, _, _, _, _⟩) rfl _ _ _ _ Try.underlying26 rfl gu k _ _ _ _ _ rfl rfl _ zs hru _ hsw (by rw [HNU.out]; omega) (by omega) ?_; intro w2 hR2 ho2 hs2' v2; have HS2 := Lib.hid hs2'; clear hs2')
        go_ret
        have h1 := HV2.out
        rw [Nat.mul_zero, Nat.add_zero] at h1
        exact ⟨wr, ho, HZ.out, zs, hr, HZL.out, hdz, .inr ⟨rfl, h1, ho2, hR2, HS2.out.trans HZ.out⟩⟩
      · obtain rfl : bo = 1 := by omega
        go_wp2
        go_ret
        refine ⟨wr, ho, HZ.out, zs, hr, HZL.out, hdz, .inl ⟨rfl, ?_, rfl⟩⟩
        have h1 := HV2.out
        have h2 := HZLT.out
        rw [Nat.mul_one] at h1
        omega
end Go.Proofs.Ytfiakaenenbhpaa
