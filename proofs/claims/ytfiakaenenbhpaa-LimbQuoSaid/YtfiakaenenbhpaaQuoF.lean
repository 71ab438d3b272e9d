/- limb.digit. -/
import Derived.Test.YtfiakaenenbhpaaQuoE
import Derived.Test.YtfiakaenenbhpaaQuoM
import Derived.Deep.RegionHeld3
namespace Go.Proofs.Ytfiakaenenbhpaa
open Go.RowKit

theorem upper_zero {B k : Nat} {xs : List Nat} (hB : 0 < B) (h : V B xs < B ^ k) : ∀ t x, k ≤ t → xs[t]? = some x → x = 0 := by
  intro t x hkt hx
  have htl := (List.getElem?_eq_some_iff.1 hx).1
  have h1 := V_split (B := B) xs k
  rw [Nat.min_eq_left (by omega)] at h1
  have h2 : V B (xs.drop k) = 0 := by
    rcases Nat.eq_zero_or_pos (V B (xs.drop k)) with h0 | h0
    · exact h0
    · have := Nat.mul_le_mul_left (B ^ k) h0
      omega
  refine V_eq_zero hB h2 x ?_
  have h3 : (xs.drop k)[t - k]? = some x := by rw [List.getElem?_drop, show k + (t - k) = t by omega]; exact hx
  exact List.mem_of_getElem? h3
theorem lt_of_upper {B k : Nat} {xs : List Nat} (hB : 0 < B) (hd : Dg B xs) (h : ∀ t x, k ≤ t → xs[t]? = some x → x = 0) : V B xs < B ^ k := by
  have h1 := V_split (B := B) xs k
  have h2 : xs.drop k = List.replicate (xs.drop k).length 0 := by
    refine List.eq_replicate_of_mem fun x hx => ?_
    obtain ⟨i, hi, rfl⟩ := List.mem_iff_getElem.1 hx
    refine h (k + i) _ (by omega) ?_
    rw [← List.getElem?_drop, List.getElem?_eq_getElem hi]
  rw [h2, V_replicate, Nat.mul_zero, Nat.add_zero] at h1
  rw [h1]
  refine Nat.lt_of_lt_of_le (V_lt _ (hd.take k)) (Nat.pow_le_pow_right hB ?_)
  rw [List.length_take]; omega

/-- what the subtraction says: no borrow, the guess was right -/
theorem dig_right {B k n1 v W Q q us zs L : Nat} (hus : us = L + B ^ k * W) (hL : L < B ^ k) (hQ : W / v = Q) (hq1 : Q ≤ q) (h : zs + B ^ k * (v * q) = us + B ^ (k + n1) * 0) (hv : 0 < v) : q = Q := by
  refine Nat.le_antisymm ?_ hq1
  rw [← hQ]
  refine (Nat.le_div_iff_mul_le hv).2 ?_
  apply Classical.byContradiction
  intro hne
  have h1 := Nat.mul_le_mul_left (B ^ k) (show W + 1 ≤ v * q by rw [Nat.mul_comm v]; omega)
  rw [Nat.mul_add, Nat.mul_one] at h1
  omega
/-- .. a borrow: it was one too great -/
theorem dig_wrong {B k n1 v W Q q us zs L : Nat} (hus : us = L + B ^ k * W) (hQ : W / v = Q) (hq2 : q ≤ Q + 1) (h : zs + B ^ k * (v * q) = us + B ^ (k + n1) * 1) (hz : zs < B ^ (k + n1)) : q = Q + 1 := by
  refine Nat.le_antisymm hq2 ?_
  apply Classical.byContradiction
  intro hne
  have h1 : q ≤ W / v := by omega
  have h2 : v * q ≤ W := Nat.le_trans (Nat.mul_le_mul_left v h1) (Nat.mul_div_le _ _)
  have h3 := Nat.mul_le_mul_left (B ^ k) h2
  omega
theorem dig_back {B k n v W Q us zs z2 z3 L c c2 un s : Nat} (hus : us = L + B ^ k * W) (hQ : W / v = Q) (h : zs + B ^ k * (v * (Q + 1)) = us + B ^ (k + n + 1) * 1)
    (h2 : z2 + B ^ (k + n) * c = zs + B ^ k * v) (h3 : z3 + B ^ (k + n) * un = z2 + B ^ (k + n) * s) (h4 : s + B * c2 = un + c) (hc : c2 ≤ 1) (hz : z3 < B ^ (k + n + 1)) : z3 + B ^ k * (Q * v) = us := by
  have h5 : v * Q ≤ W := by rw [← hQ]; exact Nat.mul_div_le _ _
  have h6 := Nat.mul_le_mul_left (B ^ k) h5
  have h7 : B ^ (k + n) * s + B ^ (k + n + 1) * c2 = B ^ (k + n) * un + B ^ (k + n) * c := by
    rw [Nat.pow_succ, Nat.mul_assoc, ← Nat.mul_add, ← Nat.mul_add, h4]
  rw [Nat.mul_add v, Nat.mul_one, Nat.mul_add] at h
  rw [Nat.mul_comm Q]
  have h01 : c2 = 0 ∨ c2 = 1 := by omega
  rcases h01 with h8 | h8
  · subst h8; omega
  · subst h8; omega

theorem callAdd64_0 (x y : Nat) (w : World) :
    (callFunc 53 #[.int .u64 (x : Int), .int .u64 (y : Int), .int .u64 0]).run Try.prog w =
      .ok (.value (.tuple #[.int .u64 (((x + y) % 18446744073709551616 : Nat) : Int), .int .u64 (((x + y) / 18446744073709551616 : Nat) : Int)])) w := callAdd64 x y 0 (by decide) w

def RetDig (w : World) (g off : Nat) (us : List Nat) (Q v : Nat) (e : Ending) (w' : World) : Prop :=
  e = .returned (.int .u64 (Q : Int)) ∧ ∃ us2, Row w' g us2 ∧ Only w w' g ∧ w'.heap.size = w.heap.size ∧ us2.length = us.length ∧ Dg b64 us2 ∧ V b64 us2 + b64 ^ off * (Q * v) = V b64 us

set_option maxRecDepth 100000 in
set_option maxHeartbeats 400000 in
theorem digit_any (w : World) (g off cz : Nat) (us : List Nat) (hr : Row w g us) (B : Nat) (A : Option Addr) (n nu m c : Nat) (vs : List Nat) (hs : Sl w B A n c vs) (hB : B ≤ g) (hn : n = m + 2) (hnu : nu = n + 1)
    (hfit : off + n + 1 ≤ us.length) (hmax : us.length ≤ 1000000000) (hd : Dg b64 us) (hd2 : Dg b64 vs) (htop : ∀ x, vs[m + 1]? = some x → 9223372036854775808 ≤ x) (hlt : V b64 us < V b64 vs * b64 ^ (off + 1)) :
    Calls Try.prog 61 #[.slice (some ⟨g, off, none⟩) nu cz, .slice A n c] w fun e w' => RetDig w g off us (V b64 ((us.drop off).take (n + 1)) / V b64 vs) (V b64 vs) e w' := by
  have hvl : vs.length = m + 2 := by rw [← hs.len, hn]
  have hvb : V b64 vs * b64 ≤ b64 ^ (n + 1) := by
    have h1 := V_lt vs hd2
    rw [← hs.len] at h1
    rw [Nat.pow_succ]
    exact Nat.mul_le_mul_right _ (Nat.le_of_lt h1)
  obtain ⟨hwin, hwl⟩ := quo_win (n1 := n + 1) (k := off) (by omega) hlt hvb
  have hup := upper_zero (k := off + n + 1) b64_pos (by
    refine Nat.lt_of_lt_of_le hlt ?_
    have h1 := V_lt vs hd2
    rw [← hs.len] at h1
    have h2 := Nat.mul_le_mul_right (b64 ^ (off + 1)) (Nat.le_of_lt h1)
    rw [← Nat.pow_add, show n + (off + 1) = off + n + 1 by omega] at h2
    exact h2)
  have hLo := V_lt (us.take off) (hd.take off)
  rw [List.length_take, Nat.min_eq_left (by omega)] at hLo
  obtain ⟨win, hwinL⟩ : ∃ win, (us.drop off).take (n + 1) = win := ⟨_, rfl⟩
  rw [hwinL] at hwin hwl ⊢
  have hwlen : win.length = m + 3 := by rw [← hwinL, List.length_take, List.length_drop]; omega
  have hwd : Dg b64 win := by rw [← hwinL]; exact (hd.drop _).take _
  have hu : ∀ (k x : Nat), win[k]? = some x → w.cell? ⟨g, off + k, none⟩ = some (.int .u64 (x : Int)) := by
    intro k x hx
    rw [← hwinL, List.getElem?_take] at hx
    split at hx
    · rw [List.getElem?_drop] at hx; exact hr.at_ hx
    · cases hx
  obtain ⟨gv, ov, x0, hA, hgv, hx0, hcx0⟩ := hs.at_ (k := 0) (by omega)
  subst hA
  have hv : ∀ (k x : Nat), vs[k]? = some x → w.cell? ⟨gv, ov + k, none⟩ = some (.int .u64 (x : Int)) := by
    intro k x hx
    obtain ⟨b', o', x', hA', _, hx', hc'⟩ := hs.at_ (k := k) (by rw [hs.len]; exact (List.getElem?_eq_some_iff.1 hx).1)
    injection hA' with hA'
    injection hA' with e1 e2
    subst e1 e2
    rw [hx] at hx'
    rw [Option.some.inj hx']
    exact hc'
  have hest := estimate_any w g off cz gv ov c nu n (m + 1) m win vs hu hv rfl hn hnu hwlen hvl (by omega) hwd hd2
  have HC := Lib.hid (show V b64 win < V b64 vs * b64 ∧ ∀ x, vs[m + 1]? = some x → 9223372036854775808 ≤ x from ⟨hwl, htop⟩)
  obtain ⟨C, hC⟩ : ∃ C, (V b64 win < V b64 vs * b64 ∧ ∀ x, vs[m + 1]? = some x → 9223372036854775808 ≤ x) = C := ⟨_, rfl⟩
  rw [hC] at hest HC
  clear hC
  obtain ⟨Q, hQ⟩ : ∃ Q, V b64 win / V b64 vs = Q := ⟨_, rfl⟩
  rw [hQ] at hest ⊢
  have hvpos : 0 < V b64 vs := by
    rcases Nat.eq_zero_or_pos (V b64 vs) with h | h
    · rw [h] at hwl; omega
    · exact h
  obtain ⟨un, hun⟩ := get_lt (zs := us) (k := off + n) (by omega)
  have hQ64 : Q < b64 := by rw [← hQ]; exact Nat.div_lt_of_lt_mul hwl
  have HEST := Lib.hid hest
  have HQ := Lib.hid hQ
  have HN := Lib.hid hn
  have HNU := Lib.hid hnu
  have HWIN := Lib.hid hwin
  have HUP := Lib.hid hup
  have HLO := Lib.hid hLo
  have HVP := Lib.hid hvpos
  have HQ64 := Lib.hid hQ64
  have hnn : (n : Int) < nu := by omega
  have hn9 : (n : Int) ≤ 1000000000 := by omega
  have HFIT := Lib.hid hfit
  clear hest hQ hn hnu hwin hup hLo hu hv hwinL hwlen hwd hwl hvb hvl hvpos hlt htop hun un hx0 hcx0 x0 hQ64
  go_enter Try.func61, Try.ntmps61
  go_wp2_with fail
  refine HEST.out.mono ?_
  rintro e w1 ⟨q, kd, rfl, hq3, hq12, rfl⟩
  obtain ⟨hq1, hq2⟩ := hq12 HC.out
  clear hq12
  have HQ1 := Lib.hid hq1
  have HQ2 := Lib.hid hq2
  clear hq1 hq2
  go_wp2_with fail
  have hnu := HNU.out
  clear HNU
  subst hnu
  refine (subMul_any _ g off cz us (hr.drewN kd) B _ n c vs (hs.drewN kd) hB HFIT.out hmax hd hd2 q hq3).mono ?_
  rintro e w2 ⟨bo, zs, hbo, hr2, ho2, hz2, hl2, hd3, hzz, hV⟩
  have HV := Lib.hid hV
  have HZZ := Lib.hid hzz
  have HL2 := Lib.hid hl2
  have HZ2 := Lib.hid hz2
  have hzup : V b64 zs < b64 ^ (off + n + 1) := lt_of_upper b64_pos hd3 fun t x ht hx => HUP.out t x ht (by rw [← hzz t (.inr ht)]; exact hx)
  have HZUP := Lib.hid hzup
  clear hV hzz hl2 hz2 hzup
  rcases hbo with ⟨rfl, rfl⟩ | ⟨rfl, rfl⟩
  · obtain rfl : q = Q := dig_right (n1 := n + 1) HWIN.out HLO.out HQ.out HQ1.out HV.out HVP.out
    go_wp2
    go_ret
    refine ⟨rfl, zs, hr2, (Only.refl w g).drewN kd |>.trans ho2, HZ2.out, HL2.out, hd3, ?_⟩
    have := HV.out
    rw [Nat.mul_zero, Nat.add_zero, Nat.mul_comm (V b64 vs)] at this
    exact this
  · have hqe := dig_wrong (n1 := n + 1) HWIN.out HQ.out HQ2.out HV.out HZUP.out
    have hqm : (q : Int) - 1 = (Q : Int) := by omega
    obtain ⟨un, hun⟩ := get_lt (zs := zs) (k := off + n) (by rw [HL2.out]; have := HFIT.out; omega)
    have hcu := hr2.at_ hun
    have hul := hd3.get hun
    have hfz := hr2.frozen
    have hs2 := (hs.drewN kd).below (ho2.below hB (Nat.le_of_lt (Nat.lt_of_le_of_lt hB hr.lt)))
    have hr2' : Row w2.drew g zs := hr2
    have hs2' : Sl w2.drew B (some ⟨gv, ov, none⟩) n c vs := hs2
    have hadd := addTo_any w2.drew g off (n + 1) cz zs hr2' B _ n c vs hs2' hB (by rw [HL2.out]; have := HFIT.out; omega) (by omega) hd3 hd2
    have hcall := fun (y : Nat) (W : World) => callAdd64_0 un y W
    have hQi : (Q : Int) ≤ 18446744073709551615 := by have := lt64.1 HQ64.out; omega
    have hnn : (n : Int) < ((n + 1 : Nat) : Int) := by omega
    have hnn2 : (n : Int) < (n : Int) + 1 := by omega
    have HADD := Lib.hid hadd
    have HUN := Lib.hid hun
    have HQE := Lib.hid hqe
    clear hadd hun hqe
    go_wp2
    go_region_with ((go_at_call 39; refine HADD.out.mono ?_; rintro e w3 ⟨c1, z2, rfl, hc1, hr3, ho3, hz3, hl3, hd4, hzz3, hv3⟩; have hcu3 := hr3.at_ ((hzz3 _ (.inr (Nat.le_refl _))).trans HUN.out); have hfz3 := hr3.frozen; have HZZ3 := Lib.hid hzz3; have HV3 := Lib.hid hv3; have HL3 := Lib.hid hl3; have HZ3 := Lib.hid hz3; clear hzz3 hv3 hl3 hz3))
    all_goals
      go_wp2
      go_ret
      have hsi : (((un : Int) + (c1 : Int)) % 18446744073709551616) = (((un + c1) % 18446744073709551616 : Nat) : Int) := by omega
      have hs64 : (un + c1) % 18446744073709551616 < b64 := Nat.mod_lt _ (by decide)
      have h4 := hr3.set_ (i := off + n) hsi
      have hun3 := (HZZ3.out _ (.inr (Nat.le_refl _))).trans HUN.out
      have hd5 := hd4.set (off + n) hs64
      have hvset := V_set (B := b64) ((un + c1) % 18446744073709551616) hun3
      have hzup : V b64 (z2.set (off + n) ((un + c1) % 18446744073709551616)) < b64 ^ (off + n + 1) := lt_of_upper b64_pos hd5 fun t x ht hx => by
        rw [List.getElem?_set_ne (by omega)] at hx
        exact HUP.out t x ht (by rw [← HZZ.out t (.inr ht), ← HZZ3.out t (.inr (by omega))]; exact hx)
      refine ⟨rfl, _, h4, ((Only.refl w g).drewN kd |>.trans ho2).trans ((show Only w2 w2.drew g from (Only.refl w2 g).drewN 1).trans (ho3.set (off + n) _)), ?_, ?_, hd5, ?_⟩
      · have h1 := HZ3.out
        have h2 := HZ2.out
        simp [World.setCell] at *
        omega
      · rw [List.length_set, HL3.out, HL2.out]
      · have hq1 := HV.out
        rw [HQE.out] at hq1
        exact dig_back (B := b64) (n := n) (c := c1) (c2 := (un + c1) / 18446744073709551616) (un := un) (s := (un + c1) % 18446744073709551616) HWIN.out HQ.out hq1 HV3.out hvset (by have := Nat.div_add_mod (un + c1) 18446744073709551616; unfold b64; omega) (by have := lt64.1 hul; omega) hzup

/-- what digit does, whatever it is given; and what it says where it is given what it asks for -/
def RetDigC (w : World) (g off : Nat) (us : List Nat) (C : Prop) (Q v : Nat) (e : Ending) (w' : World) : Prop :=
  ∃ q us2, e = .returned (.int .u64 ((q : Nat) : Int)) ∧ q < b64 ∧ Row w' g us2 ∧ Only w w' g ∧ w'.heap.size = w.heap.size ∧ us2.length = us.length ∧ Dg b64 us2 ∧ (C → q = Q ∧ V b64 us2 + b64 ^ off * (Q * v) = V b64 us)

theorem wrap_pred (q : Nat) : ∃ q' : Nat, IntKind.u64.wrap ((q : Int) - 1) = (q' : Int) ∧ q' < b64 :=
  ⟨(q + 18446744073709551615) % 18446744073709551616, by rw [wrap_emod]; omega, Nat.mod_lt _ (by decide)⟩

set_option maxRecDepth 100000 in
set_option maxHeartbeats 400000 in
theorem digit_weak (w : World) (g off cz : Nat) (us : List Nat) (hr : Row w g us) (B : Nat) (A : Option Addr) (n nu m c : Nat) (vs : List Nat) (hs : Sl w B A n c vs) (hB : B ≤ g) (hn : n = m + 2) (hnu : nu = n + 1)
    (hfit : off + n + 1 ≤ us.length) (hmax : us.length ≤ 1000000000) (hd : Dg b64 us) (hd2 : Dg b64 vs) (Q : Nat) :
    Calls Try.prog 61 #[.slice (some ⟨g, off, none⟩) nu cz, .slice A n c] w fun e w' => RetDigC w g off us False Q (V b64 vs) e w' := by
  have hvl : vs.length = m + 2 := by rw [← hs.len, hn]
  obtain ⟨win, hwinL⟩ : ∃ win, (us.drop off).take (n + 1) = win := ⟨_, rfl⟩
  have hwlen : win.length = m + 3 := by rw [← hwinL, List.length_take, List.length_drop]; omega
  have hwd : Dg b64 win := by rw [← hwinL]; exact (hd.drop _).take _
  have hu : ∀ (k x : Nat), win[k]? = some x → w.cell? ⟨g, off + k, none⟩ = some (.int .u64 (x : Int)) := by
    intro k x hx
    rw [← hwinL, List.getElem?_take] at hx
    split at hx
    · rw [List.getElem?_drop] at hx; exact hr.at_ hx
    · cases hx
  obtain ⟨gv, ov, x0, hA, hgv, hx0, hcx0⟩ := hs.at_ (k := 0) (by omega)
  subst hA
  have hv : ∀ (k x : Nat), vs[k]? = some x → w.cell? ⟨gv, ov + k, none⟩ = some (.int .u64 (x : Int)) := by
    intro k x hx
    obtain ⟨b', o', x', hA', _, hx', hc'⟩ := hs.at_ (k := k) (by rw [hs.len]; exact (List.getElem?_eq_some_iff.1 hx).1)
    injection hA' with hA'
    injection hA' with e1 e2
    subst e1 e2
    rw [hx] at hx'
    rw [Option.some.inj hx']
    exact hc'
  have hest := estimate_any w g off cz gv ov c nu n (m + 1) m win vs hu hv rfl hn hnu hwlen hvl (by omega) hwd hd2
  obtain ⟨C, hC⟩ : ∃ C, (V b64 win < V b64 vs * b64 ∧ ∀ x, vs[m + 1]? = some x → 9223372036854775808 ≤ x) = C := ⟨_, rfl⟩
  obtain ⟨Q0, hQ0⟩ : ∃ Q, V b64 win / V b64 vs = Q := ⟨_, rfl⟩
  rw [hC, hQ0] at hest
  have HEST := Lib.hid hest
  have HNU := Lib.hid hnu
  have hnn : (n : Int) < nu := by omega
  have hn9 : (n : Int) ≤ 1000000000 := by omega
  have HFIT := Lib.hid hfit
  clear hest hn hnu hu hv hwinL hwlen hwd hvl hx0 hcx0 x0 hC hQ0
  go_enter Try.func61, Try.ntmps61
  go_wp2_with fail
  refine HEST.out.mono ?_
  rintro e w1 ⟨q, kd, rfl, hq3, hq12, rfl⟩
  clear hq12
  go_wp2_with fail
  have hnu := HNU.out
  clear HNU
  subst hnu
  refine (subMul_any _ g off cz us (hr.drewN kd) B _ n c vs (hs.drewN kd) hB HFIT.out hmax hd hd2 q hq3).mono ?_
  rintro e w2 ⟨bo, zs, hbo, hr2, ho2, hz2, hl2, hd3, hzz, hV⟩
  have HL2 := Lib.hid hl2
  have HZ2 := Lib.hid hz2
  clear hV hzz hl2 hz2
  rcases hbo with ⟨rfl, rfl⟩ | ⟨rfl, rfl⟩
  · go_wp2
    go_ret
    exact ⟨q, zs, rfl, hq3, hr2, (Only.refl w g).drewN kd |>.trans ho2, HZ2.out, HL2.out, hd3, fun h => h.elim⟩
  · obtain ⟨q', hq', hq4⟩ := wrap_pred q
    obtain ⟨un, hun⟩ := get_lt (zs := zs) (k := off + n) (by rw [HL2.out]; have := HFIT.out; omega)
    have hcu := hr2.at_ hun
    have hul := hd3.get hun
    have hfz := hr2.frozen
    have hs2 := (hs.drewN kd).below (ho2.below hB (Nat.le_of_lt (Nat.lt_of_le_of_lt hB hr.lt)))
    have hr2' : Row w2.drew g zs := hr2
    have hs2' : Sl w2.drew B (some ⟨gv, ov, none⟩) n c vs := hs2
    have hadd := addTo_any w2.drew g off (n + 1) cz zs hr2' B _ n c vs hs2' hB (by rw [HL2.out]; have := HFIT.out; omega) (by omega) hd3 hd2
    have hcall := fun (y : Nat) (W : World) => callAdd64_0 un y W
    have hnn : (n : Int) < ((n + 1 : Nat) : Int) := by omega
    have hnn2 : (n : Int) < (n : Int) + 1 := by omega
    have HADD := Lib.hid hadd
    have HUN := Lib.hid hun
    have HQ4 := Lib.hid hq4
    clear hadd hun hq4
    go_wp2
    go_region_with ((go_at_call 39; refine HADD.out.mono ?_; rintro e w3 ⟨c1, z2, rfl, hc1, hr3, ho3, hz3, hl3, hd4, hzz3, hv3⟩; have hcu3 := hr3.at_ ((hzz3 _ (.inr (Nat.le_refl _))).trans HUN.out); have hfz3 := hr3.frozen; have HL3 := Lib.hid hl3; have HZ3 := Lib.hid hz3; clear hzz3 hv3 hl3 hz3))
    all_goals
      go_wp2
      go_ret
      have hsi : (((un : Int) + (c1 : Int)) % 18446744073709551616) = (((un + c1) % 18446744073709551616 : Nat) : Int) := by omega
      have hs64 : (un + c1) % 18446744073709551616 < b64 := Nat.mod_lt _ (by decide)
      have h4 := hr3.set_ (i := off + n) hsi
      refine ⟨q', _, rfl, HQ4.out, h4, ((Only.refl w g).drewN kd |>.trans ho2).trans ((show Only w2 w2.drew g from (Only.refl w2 g).drewN 1).trans (ho3.set (off + n) _)), ?_, ?_, hd4.set (off + n) hs64, fun h => h.elim⟩
      · have h1 := HZ3.out
        have h2 := HZ2.out
        simp [World.setCell] at *
        omega
      · rw [List.length_set, HL3.out, HL2.out]

theorem digit_all (w : World) (g off cz : Nat) (us : List Nat) (hr : Row w g us) (B : Nat) (A : Option Addr) (n nu m c : Nat) (vs : List Nat) (hs : Sl w B A n c vs) (hB : B ≤ g) (hn : n = m + 2) (hnu : nu = n + 1)
    (hfit : off + n + 1 ≤ us.length) (hmax : us.length ≤ 1000000000) (hd : Dg b64 us) (hd2 : Dg b64 vs) (htop : ∀ x, vs[m + 1]? = some x → 9223372036854775808 ≤ x) :
    Calls Try.prog 61 #[.slice (some ⟨g, off, none⟩) nu cz, .slice A n c] w fun e w' => RetDigC w g off us (V b64 us < V b64 vs * b64 ^ (off + 1)) (V b64 ((us.drop off).take (n + 1)) / V b64 vs) (V b64 vs) e w' := by
  by_cases hlt : V b64 us < V b64 vs * b64 ^ (off + 1)
  · refine (digit_any w g off cz us hr B A n nu m c vs hs hB hn hnu hfit hmax hd hd2 htop hlt).mono ?_
    rintro e w' ⟨he, us2, h1, h2, h3, h4, h5, h6⟩
    refine ⟨_, us2, he, ?_, h1, h2, h3, h4, h5, fun _ => ⟨rfl, h6⟩⟩
    have hvb : V b64 vs * b64 ≤ b64 ^ (n + 1) := by
      have h1 := V_lt vs hd2
      rw [← hs.len] at h1
      rw [Nat.pow_succ]
      exact Nat.mul_le_mul_right _ (Nat.le_of_lt h1)
    exact Nat.div_lt_of_lt_mul (quo_win (n1 := n + 1) (k := off) (by omega) hlt hvb).2
  · refine (digit_weak w g off cz us hr B A n nu m c vs hs hB hn hnu hfit hmax hd hd2 0).mono ?_
    rintro e w' ⟨q, us2, h1, h2, h3, h4, h5, h6, h7, _⟩
    exact ⟨q, us2, h1, h2, h3, h4, h5, h6, h7, fun h => absurd h hlt⟩
end Go.Proofs.Ytfiakaenenbhpaa
