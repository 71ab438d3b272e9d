/- limb.Norm, Of, Add. -/
import Derived.Test.YtfiakaenenbhpaaLimbA
namespace Go.Proofs.Ytfiakaenenbhpaa
open Go.RowKit

set_option maxRecDepth 100000 in
set_option maxHeartbeats 800000 in
theorem norm_any (w : World) (B : Nat) (A : Option Addr) (n c : Nat) (xs : List Nat) (hs : Sl w B A n c xs) (hd : Dg b64 xs) (hn : n ≤ 17592186044416) :
    Calls Try.prog 16 #[.slice A n c] w fun e w' => RetN b64 w (V b64 xs) e w' := by
  have hlc := hs.cap
  have hm := hs.max
  go_enter Try.func16, Try.ntmps16
  go_wp2_with (first | (go_at_call 38; refine (ltrim_sl w B A n c xs hs).mono ?_; rintro e w1 ⟨m, rfl, h1, h2, rfl⟩) | (at_builtin; refine wl_append_nil rfl _ _ Try.underlying23 rfl A m c (trimmed xs) rfl B h1 (by omega) ?_; intro A' c' w1 h3 h4))
  go_ret
  exact ⟨_, trimmed_nm hd, _, _, _, rfl, h3, h4⟩

theorem copy_V {zs ys : List Nat} {B n : Nat} (hz : zs = List.replicate n 0) (hl : ys.length ≤ n) : V B (splice zs 0 ys) = V B ys ∧ (splice zs 0 ys).length = n ∧ (∀ t, ys.length ≤ t → t < n → (splice zs 0 ys)[t]? = some 0) := by
  subst hz
  have e : splice (List.replicate n 0) 0 ys = ys ++ List.replicate (n - ys.length) 0 := by simp [splice]
  rw [e]
  refine ⟨V_zeros ys _, by simp; omega, fun t h1 h2 => ?_⟩
  rw [List.getElem?_append_right h1, List.getElem?_replicate]
  simp; omega
theorem copy_Dg {zs ys : List Nat} {B : Nat} (hz : Dg B zs) (hy : Dg B ys) (o : Nat) : Dg B (splice zs o ys) := (hz.take _).append (hy.append (hz.drop _))

set_option maxRecDepth 100000 in
set_option maxHeartbeats 800000 in
theorem ladd_any (w : World) (B : Nat) (hB : B ≤ w.heap.size) (A1 : Option Addr) (n1 c1 : Nat) (xs : List Nat) (hs1 : Sl w B A1 n1 c1 xs) (A2 : Option Addr) (n2 c2 : Nat) (ys : List Nat) (hs2 : Sl w B A2 n2 c2 ys)
    (hd : Dg b64 xs) (hd2 : Dg b64 ys) (h1 : n1 ≤ 17592186044416) (h2 : n2 ≤ 17592186044416) :
    Calls Try.prog 12 #[.slice A1 n1 c1, .slice A2 n2 c2] w fun e w' => RetN b64 w (V b64 xs + V b64 ys) e w' := by
  go_enter Try.func12, Try.ntmps12
  go_wp2_with fail
  refine (ltrim_sl w B A1 n1 c1 xs hs1).mono ?_; rintro e w1 ⟨m1, rfl, h3, h4, rfl⟩
  go_wp2_with fail
  refine (ltrim_sl w B A2 n2 c2 ys hs2).mono ?_; rintro e w1 ⟨m2, rfl, h5, h6, rfl⟩
  by_cases hlt : m1 < m2
  · have hli : (m1 : Int) < m2 := by omega
    go_wp2_with (first | (at_make; refine wl_make rfl _ _ Try.underlying23 rfl _ (m2 + 1) rfl (by omega) (by omega) ?_; intro w1 hR hB1 hz1; obtain ⟨g, hg⟩ : ∃ g, g = w.heap.size := ⟨_, rfl⟩; rw [← hg] at hR ⊢; have HG := Lib.hid hg; have HZ1 := Lib.hid hz1; clear hg hz1; have hy1 := h3.below (hB1.mono hB); have hx1 := h5.below (hB1.mono hB); have hz0 : Hid ((List.replicate (m2 + 1) 0).length = m2 + 1) := (by show _ = _; simp)) | (with_reducible show wpList _ _ _ _ _ _; refine wl_copy (o := ⟨some 25, _, _, _, _, _⟩) rfl _ _ _ _ Try.underlying23 rfl g 0 _ _ A1 m1 c1 rfl rfl _ (trimmed xs) hR B hy1 (by rw [hz0.out]; omega) (by omega) ?_; intro w2 hR2 ho2 hs2' v2; have HS2 := Lib.hid hs2'; clear hs2'))
    have hgB : B ≤ g := by rw [HG.out]; exact hB
    have hcp := copy_V (B := b64) (zs := List.replicate (m2 + 1) 0) (ys := trimmed xs) rfl (by rw [← h3.len]; omega)
    obtain ⟨zs2, hzs2⟩ : ∃ zs2, zs2 = splice (List.replicate (m2 + 1) 0) 0 (trimmed xs) := ⟨_, rfl⟩
    have hdz2 := copy_Dg (dg_zeros b64_pos (m2 + 1)) (trimmed_nm hd).1 0
    rw [← hzs2] at hR2 hcp hdz2
    clear hzs2
    have hx2 := hx1.below (ho2.below hgB (by rw [HZ1.out]; omega))
    have HC := Lib.hid hcp
    clear hcp
    go_wp2_with (go_at_call 39; refine (addTo_any w2 g 0 _ _ zs2 hR2 B A2 m2 c2 (trimmed ys) hx2 hgB (by rw [HC.out.2.1]; omega) (by omega) hdz2 (trimmed_nm hd2).1).mono ?_; rintro e w3 ⟨c, zs3, rfl, hc1, hR3, ho3, hsz3, hl3, hd3, hzz3, hv3⟩; have HZ3 := Lib.hid hsz3; have HL3 := Lib.hid hl3; have HV3 := Lib.hid hv3; have HZZ3 := Lib.hid hzz3; clear hsz3 hl3 hv3 hzz3; have h0 : Hid (zs3[m2]? = some 0) := (by show _ = _; rw [HZZ3.out m2 (by omega)]; exact HC.out.2.2 m2 (by rw [← h3.len]; omega) (by omega)); have hcell := hR3.at_ h0.out; have hf3 := hR3.frozen; have hmi : (0 : Int) ≤ m2 := (by omega))
    have hR4 := hR3.set m2 c
    have hl4 : (zs3.set m2 c).length = m2 + 1 := by rw [List.length_set, HL3.out]; exact HC.out.2.1
    have hsl := hR4.sl (by rw [hl4]; omega)
    rw [hl4] at hsl
    have hbel : Below w.heap.size w (w3.setCell ⟨g, m2, none⟩ (.int .u64 ((c : Nat) : Int))) := hB1.trans ((ho2.trans (ho3.set m2 _)).below (by rw [HG.out]; exact Nat.le_refl _) (by rw [HZ1.out]; omega))
    have hcl : c < b64 := by rw [lt64]; omega
    have hval : V b64 (zs3.set m2 c) = V b64 xs + V b64 ys := by
      have e1 := V_set (B := b64) c h0.out
      have e2 := HV3.out
      rw [HC.out.1, (trimmed_nm hd).2.2, (trimmed_nm hd2).2.2] at e2
      rw [Nat.zero_add, Nat.pow_zero, Nat.one_mul] at e2
      rw [Nat.mul_zero, Nat.add_zero] at e1
      rw [e1, e2]
    have HVAL := Lib.hid hval
    clear hval
    go_wp2_with (go_at_call 38; refine (ltrim_sl _ _ _ _ _ _ hsl).mono ?_; rintro e w4 ⟨m, rfl, h7, h8, rfl⟩)
    go_ret
    exact retN_trim h7 (hd3.set _ hcl) HVAL.out hbel
  · have hli : ¬ (m1 : Int) < m2 := by omega
    go_wp2_with (first | (at_make; refine wl_make rfl _ _ Try.underlying23 rfl _ (m1 + 1) rfl (by omega) (by omega) ?_; intro w1 hR hB1 hz1; obtain ⟨g, hg⟩ : ∃ g, g = w.heap.size := ⟨_, rfl⟩; rw [← hg] at hR ⊢; have HG := Lib.hid hg; have HZ1 := Lib.hid hz1; clear hg hz1; have hy1 := h5.below (hB1.mono hB); have hx1 := h3.below (hB1.mono hB); have hz0 : Hid ((List.replicate (m1 + 1) 0).length = m1 + 1) := (by show _ = _; simp)) | (with_reducible show wpList _ _ _ _ _ _; refine wl_copy (o := ⟨some 25, _, _, _, _, _⟩) rfl _ _ _ _ Try.underlying23 rfl g 0 _ _ A2 m2 c2 rfl rfl _ (trimmed ys) hR B hy1 (by rw [hz0.out]; omega) (by omega) ?_; intro w2 hR2 ho2 hs2' v2; have HS2 := Lib.hid hs2'; clear hs2'))
    have hgB : B ≤ g := by rw [HG.out]; exact hB
    have hcp := copy_V (B := b64) (zs := List.replicate (m1 + 1) 0) (ys := trimmed ys) rfl (by rw [← h5.len]; omega)
    obtain ⟨zs2, hzs2⟩ : ∃ zs2, zs2 = splice (List.replicate (m1 + 1) 0) 0 (trimmed ys) := ⟨_, rfl⟩
    have hdz2 := copy_Dg (dg_zeros b64_pos (m1 + 1)) (trimmed_nm hd2).1 0
    rw [← hzs2] at hR2 hcp hdz2
    clear hzs2
    have hx2 := hx1.below (ho2.below hgB (by rw [HZ1.out]; omega))
    have HC := Lib.hid hcp
    clear hcp
    go_wp2_with (go_at_call 39; refine (addTo_any w2 g 0 _ _ zs2 hR2 B A1 m1 c1 (trimmed xs) hx2 hgB (by rw [HC.out.2.1]; omega) (by omega) hdz2 (trimmed_nm hd).1).mono ?_; rintro e w3 ⟨c, zs3, rfl, hc1, hR3, ho3, hsz3, hl3, hd3, hzz3, hv3⟩; have HZ3 := Lib.hid hsz3; have HL3 := Lib.hid hl3; have HV3 := Lib.hid hv3; have HZZ3 := Lib.hid hzz3; clear hsz3 hl3 hv3 hzz3; have h0 : Hid (zs3[m1]? = some 0) := (by show _ = _; rw [HZZ3.out m1 (by omega)]; exact HC.out.2.2 m1 (by rw [← h5.len]; omega) (by omega)); have hcell := hR3.at_ h0.out; have hf3 := hR3.frozen; have hmi : (0 : Int) ≤ m1 := (by omega))
    have hR4 := hR3.set m1 c
    have hl4 : (zs3.set m1 c).length = m1 + 1 := by rw [List.length_set, HL3.out]; exact HC.out.2.1
    have hsl := hR4.sl (by rw [hl4]; omega)
    rw [hl4] at hsl
    have hbel : Below w.heap.size w (w3.setCell ⟨g, m1, none⟩ (.int .u64 ((c : Nat) : Int))) := hB1.trans ((ho2.trans (ho3.set m1 _)).below (by rw [HG.out]; exact Nat.le_refl _) (by rw [HZ1.out]; omega))
    have hcl : c < b64 := by rw [lt64]; omega
    have hval : V b64 (zs3.set m1 c) = V b64 xs + V b64 ys := by
      have e1 := V_set (B := b64) c h0.out
      have e2 := HV3.out
      rw [HC.out.1, (trimmed_nm hd).2.2, (trimmed_nm hd2).2.2] at e2
      rw [Nat.zero_add, Nat.pow_zero, Nat.one_mul] at e2
      rw [Nat.mul_zero, Nat.add_zero] at e1
      rw [e1, e2]
      exact Nat.add_comm _ _
    have HVAL := Lib.hid hval
    clear hval
    go_wp2_with (go_at_call 38; refine (ltrim_sl _ _ _ _ _ _ hsl).mono ?_; rintro e w4 ⟨m, rfl, h7, h8, rfl⟩)
    go_ret
    exact retN_trim h7 (hd3.set _ hcl) HVAL.out hbel
end Go.Proofs.Ytfiakaenenbhpaa
