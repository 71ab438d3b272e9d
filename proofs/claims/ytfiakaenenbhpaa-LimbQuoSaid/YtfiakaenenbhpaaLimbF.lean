/- limb.Sub. -/
import Derived.Test.YtfiakaenenbhpaaLimbE
namespace Go.Proofs.Ytfiakaenenbhpaa
open Go.RowKit

theorem len_le_of {B : Nat} {a b : List Nat} {N M : Nat} (hB : 1 < B) (ha : Nm B a N) (hb : Nm B b M) (h : N ≤ M) : a.length ≤ b.length := by
  rcases Nat.lt_or_ge b.length a.length with hl | hl
  · have := lt_of_length hb.1 hB ha.2.1 hl
    rw [ha.2.2, hb.2.2] at this
    omega
  · exact hl

/-- a slice and true -/
def RetNB (B : Nat) (w : World) (k : Nat) (e : Ending) (w' : World) : Prop :=
  ∃ xs A n c, Nm B xs k ∧ e = .returned (.tuple #[.slice A n c, .bool true]) ∧ Sl w' w'.heap.size A n c xs ∧ Below w.heap.size w w'

set_option maxRecDepth 100000 in
set_option maxHeartbeats 800000 in
theorem lsub_no (w : World) (A1 : Option Addr) (n1 c1 : Nat) (xs : List Nat) (hs1 : Sl w w.heap.size A1 n1 c1 xs) (A2 : Option Addr) (n2 c2 : Nat) (ys : List Nat) (hs2 : Sl w w.heap.size A2 n2 c2 ys)
    (hd : Dg b64 xs) (hd2 : Dg b64 ys) (hlt : V b64 xs < V b64 ys) :
    Calls Try.prog 17 #[.slice A1 n1 c1, .slice A2 n2 c2] w fun e w' => e = .returned (.tuple #[.slice none 0 0, .bool false]) ∧ Below w.heap.size w w' := by
  have e0 := ncmp_lt hlt
  have HE := Lib.hid e0
  clear e0
  go_enter Try.func17, Try.ntmps17
  go_wp2_with (go_at_call 19; refine (lcmp_any w _ _ _ xs hs1 _ _ _ ys hs2 hd hd2).mono ?_; rw [HE.out]; rintro e w1 ⟨rfl, hb⟩)
  go_ret2
  exact ⟨rfl, hb⟩

set_option maxRecDepth 100000 in
set_option maxHeartbeats 1600000 in
theorem lsub_yes (w : World) (A1 : Option Addr) (n1 c1 : Nat) (xs : List Nat) (hs1 : Sl w w.heap.size A1 n1 c1 xs) (A2 : Option Addr) (n2 c2 : Nat) (ys : List Nat) (hs2 : Sl w w.heap.size A2 n2 c2 ys)
    (hd : Dg b64 xs) (hd2 : Dg b64 ys) (h1 : n1 ≤ 17592186044416) (hle : V b64 ys ≤ V b64 xs) :
    Calls Try.prog 17 #[.slice A1 n1 c1, .slice A2 n2 c2] w fun e w' => RetNB b64 w (V b64 xs - V b64 ys) e w' := by
  have e0 : ¬ ncmp (V b64 xs) (V b64 ys) < 0 := by
    unfold ncmp; rw [if_neg (by omega)]; split <;> omega
  obtain ⟨cv, hcv⟩ : ∃ cv, ncmp (V b64 xs) (V b64 ys) = cv := ⟨_, rfl⟩
  rw [hcv] at e0
  have HCV := Lib.hid hcv
  clear hcv
  have hX := trimmed_nm hd
  have hY := trimmed_nm hd2
  have hll := len_le_of (by decide) hY hX hle
  have HX := Lib.hid hX
  have HY := Lib.hid hY
  have HLL := Lib.hid hll
  clear hX hY hll
  go_enter Try.func17, Try.ntmps17
  go_wp2_with (go_at_call 19; refine (lcmp_any w _ _ _ xs hs1 _ _ _ ys hs2 hd hd2).mono ?_; rw [HCV.out]; rintro e w0 ⟨rfl, hb0⟩)
  refine (ltrim_sl w0 w.heap.size A1 n1 c1 xs (hs1.below hb0)).mono ?_; rintro e w1 ⟨m1, rfl, h3, h4, rfl⟩
  have hlc1 := h3.cap
  have hm1 := h3.max
  go_wp2_with (at_make; refine wl_make rfl _ _ Try.underlying23 rfl _ m1 rfl (by omega) (by omega) ?_; intro w1 hR hB1 hz1; obtain ⟨g, hg⟩ : ∃ g, g = w0.heap.size := ⟨_, rfl⟩; rw [← hg] at hR ⊢; have HG := Lib.hid hg; have HZ1 := Lib.hid hz1; clear hg hz1)
  have hgw : w.heap.size ≤ g := by rw [HG.out]; exact hb0.size
  have hb1 : Below w.heap.size w w1 := hb0.trans (hB1.mono hb0.size)
  refine (ltrim_sl w1 w.heap.size A2 n2 c2 ys (hs2.below hb1)).mono ?_; rintro e w2 ⟨m2, rfl, h5, h6, rfl⟩
  have h3' : Sl w1 w.heap.size A1 m1 c1 (trimmed xs) := h3.below (hB1.mono hb0.size)
  have hlc2 := h5.cap
  have hm2 := h5.max
  have hmm : m2 ≤ m1 := by rw [h5.len, h3.len]; exact HLL.out
  have hz0 : Hid ((List.replicate m1 0).length = m1) := by show _ = _; simp
  go_wp2_with (with_reducible show wpList _ _ _ _ _ _; refine wl_copy (o := ⟨some 23, _, _, _, _, _⟩) rfl _ _ _ _ Try.underlying23 rfl g 0 _ _ A2 m2 c2 rfl rfl _ (trimmed ys) hR w.heap.size h5 (by rw [hz0.out]; omega) (by omega) ?_; intro w2 hR2 ho2 hs2' v2; have HS2 := Lib.hid hs2'; clear hs2')
  have hcp := copy_V (B := b64) (zs := List.replicate m1 0) (ys := trimmed ys) rfl (by rw [← h5.len]; omega)
  obtain ⟨y0, hy0⟩ : ∃ y0, y0 = splice (List.replicate m1 0) 0 (trimmed ys) := ⟨_, rfl⟩
  have hdy := copy_Dg (dg_zeros b64_pos m1) HY.out.1 0
  rw [← hy0] at hR2 hcp hdy
  clear hy0
  have HC := Lib.hid hcp
  clear hcp
  have hdx := HX.out.1
  have h3'' : Sl w2 w.heap.size A1 m1 c1 (trimmed xs) := h3'.below (ho2.below hgw hb1.size)
  have hgs : g < w1.heap.size := by rw [HZ1.out, HG.out]; omega
  go_loopw [8, 26] (fun cv i wr => ∃ k c zs, k ≤ m1 ∧ i = .int .i64 (k : Nat) ∧ cv = .int .u64 ((c : Nat) : Int) ∧ c ≤ 1 ∧ Row wr g zs ∧ Only w2 wr g ∧ wr.heap.size = w2.heap.size ∧ zs.length = m1 ∧ Dg b64 zs ∧ (∀ t, k ≤ t → zs[t]? = y0[t]?) ∧ V b64 (zs.take k) + V b64 (y0.take k) = V b64 ((trimmed xs).take k) + b64 ^ k * c) (fun _ i _ => m1 - (intOf i).toNat)
  case atStart => exact ⟨0, 0, y0, Nat.zero_le _, rfl, rfl, by omega, hR2, Only.refl _ _, rfl, HC.out.2.1, hdy, fun _ _ => rfl, rfl⟩
  case round =>
    obtain ⟨k, c, zs, hk, rfl, rfl, hc1, hr, ho, hz, hzl, hdz, hzz, hv⟩ := hrel
    have HZ := Lib.hid hz
    have HZL := Lib.hid hzl
    have HV := Lib.hid hv
    have HZZ := Lib.hid hzz
    clear hz hzl hv hzz
    have hbw : Below w.heap.size w2 wr := ho.below hgw (by have := ho2.size; omega)
    by_cases hlt : k < m1
    · have hsr := h3''.below hbw
      have hf := hr.frozen
      have hki : (k : Int) < m1 := by omega
      obtain ⟨b, off, x, rfl, hb, hx, hc⟩ := hsr.at_ hlt
      have hxl := hdx.get hx
      have HXX := Lib.hid hx
      clear hx
      obtain ⟨old, hold⟩ := get_lt (zs := zs) (k := k) (by rw [HZL.out]; omega)
      have hcy := hr.at_ hold
      have hol := hdz.get hold
      have HO : Hid (y0[k]?.getD 0 = old) := by show _ = _; rw [← HZZ.out k (Nat.le_refl _), hold]; rfl
      have HKL : Hid (k < zs.length) := by show _ < _; rw [HZL.out]; exact hlt
      clear hold
      go_wp2_with (with_reducible show wpList _ _ _ _ _ _; refine wl_sub64 (o := ⟨some 40, _, _, _, _, _⟩) rfl _ _ _ rfl x old c rfl rfl rfl hxl hol hc1 ?_; intro s c2 hs1 hs2 hs3; have HS := Lib.hid hs1; have HS2 := Lib.hid hs2; clear hs1 hs2)
      go_roundw
      case rel => exact ⟨k + 1, c2, zs.set k s, by omega, by go_num, by go_num, hs3, hr.set _ _, ho.set _ _, by simpa [World.setCell] using HZ.out, by simp [HZL.out], hdz.set _ HS2.out, fun t ht => by rw [List.getElem?_set_ne (by omega)]; exact HZZ.out t (by omega), sub_step HKL.out HV.out (by rw [HXX.out]; rfl) HO.out HS.out⟩
      case measure => simp [intOf]; omega
    · obtain rfl : k = m1 := by omega
      have hsl := hr.sl (by rw [HZL.out]; omega)
      rw [HZL.out] at hsl
      have hbel : Below w.heap.size w wr := (hb1.trans (ho2.below hgw hb1.size)).trans hbw
      have hval : V b64 zs = V b64 xs - V b64 ys := by
        have h := sub_end (B := b64) hdz h3.len.symm (by rw [HC.out.2.1]; omega) HZL.out (by rw [HC.out.1, HX.out.2.2, HY.out.2.2]; exact hle) HV.out
        rw [h, HC.out.1, HX.out.2.2, HY.out.2.2]
      have HVAL := Lib.hid hval
      clear hval
      go_wp2_with (go_at_call 38; refine (ltrim_sl _ _ _ _ _ _ hsl).mono ?_; rintro e w4 ⟨m, rfl, h7, h8, rfl⟩)
      go_ret2
      exact ⟨_, _, _, _, HVAL.out ▸ trimmed_nm hdz, rfl, h7, hbel⟩
end Go.Proofs.Ytfiakaenenbhpaa
