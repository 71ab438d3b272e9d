/- limb.Mul once more: its result is new. 'append(T(nil), x...)': what it gives is the call's own. -/
import Derived.Test.YtopgjmbmhlbadaaLimbD
namespace Go.Proofs.Ytopgjmbmhlbadaa
open Go.RowKit

/-- 'append(T(nil), x...)' -/
theorem wl_append_own {w : World} {ops : Array Oper} {rest : List Oper} {o : Oper} {a : Act} {Q : Exit → Act → World → Prop} (hgd : o.guard = none) (x : Operand) (t : TypeId) (ht : Try.prog.underlying t = some (.slice 58))
    (ho : o.op = .call { callee := .builtin .append, args := #[.const (.slice none 0 0), x], argTypes := #[t, t] })
    (A : Option Addr) (m c : Nat) (xs : List Nat) (hx : a.eval x = .slice A m c) (B : Nat) (hs : Sl w B A m c xs) (hb : m ≤ 17592186044416)
    (h : ∀ v' w', w'.ownsRow w.heap.size 58 1 v' m (xs.map U) → Below w.heap.size w w' → wpList Try.prog ops Q rest (a.put o.dst v') w') : wpList Try.prog ops Q (o :: rest) a w := by
  obtain ⟨i0, hi, hz0, hz1, hz2⟩ := info_parts Try.infoU
  have hr := hs.rd
  have hm := hs.len
  subst hm
  have go : ∀ ad, A = some ad → (∀ j u, (xs.map U)[j]? = some u → w.cell? (ad.add j) = some u) → wpList Try.prog ops Q (o :: rest) a w := by
    rintro ad rfl hc
    refine wpList_append_own (w := w) hgd _ _ t ho w.heap.size 58 i0 (.int .u64 0) 1 8 ht hi hz0 hz1 hz2 rfl (by decide) (.slice none 0 0) 0 [] rfl (World.ownsRow_nil _ _ _ _)
      ad xs.length c (xs.map U) hx (by simp) hc (oneCellU xs) (by simp [maxLen]; omega) (by omega) (Nat.le_refl _) ?_
    intro v' w' hown hg _
    simp only [Nat.zero_add, List.nil_append] at hown
    exact h v' w' hown ((Below.refl _ _).grown hg (Nat.le_refl _) (fun k e => by simp [Value.ownBlock] at e))
  by_cases hn : xs = []
  · subst hn
    cases A with
    | none =>
      refine wpList_plain hgd fun K hK => ?_
      unfold Oper.wp
      have hrun : (Builtin.append_ #[t, t] o.type #[.slice none 0 0, .slice none 0 c]).run Try.prog w = .ok (.slice none 0 0) w := by
        simp [Builtin.append_, run_underlying ht, sizeOf, typeInfo, hi, Builtin.lenOf, Builtin.firstCells]
      simp only [List.length_nil] at hx
      have hev : a.eval (.const (.slice none 0 0)) = .slice none 0 0 := rfl
      simp [execOp, ho, resolve, invoke, builtin, hx, hev, hrun, Result.andThen]
      exact hK _ _ (h (.slice none 0 0) w (World.ownsRow_nil _ _ _ _) (Below.refl _ _))
    | some ad => exact go ad rfl (by simp)
  · obtain ⟨b, off, rfl, _, hc⟩ := hr hn
    refine go _ rfl (fun j u hu => ?_)
    rw [Addr.add_lit]
    simp only [List.getElem?_map, Option.map_eq_some_iff] at hu
    obtain ⟨y, hy, rfl⟩ := hu
    exact hc j y hy

set_option maxRecDepth 100000 in
set_option maxHeartbeats 1600000 in
theorem lmul_own (w : World) (B : Nat) (hB : B ≤ w.heap.size) (A1 : Option Addr) (n1 c1 : Nat) (xs : List Nat) (hs1 : Sl w B A1 n1 c1 xs) (A2 : Option Addr) (n2 c2 : Nat) (ys : List Nat) (hs2 : Sl w B A2 n2 c2 ys)
    (hd : Dg b64 xs) (hd2 : Dg b64 ys) (h1 : n1 ≤ 17592186044416) (h2 : n2 ≤ 17592186044416) :
    Calls Try.prog 14 #[.slice A1 n1 c1, .slice A2 n2 c2] w fun e w' => ∃ zs m c, e = .returned (.slice (some ⟨w.heap.size, 0, none⟩) m c) ∧ Row w' w.heap.size zs ∧ m ≤ zs.length ∧ zs.length ≤ n1 + n2 ∧ c ≤ zs.length ∧ Nm b64 (trimmed zs) (V b64 xs * V b64 ys) ∧ Sl w' w'.heap.size (some ⟨w.heap.size, 0, none⟩) m c (trimmed zs) ∧ Below w.heap.size w w' := by
  go_enter Try.func14, Try.ntmps14
  go_wp2_with fail
  refine (ltrim_sl w B A1 n1 c1 xs hs1).mono ?_; rintro e w1 ⟨m1, rfl, h3, h4, rfl⟩
  go_wp2_with fail
  refine (ltrim_sl w B A2 n2 c2 ys hs2).mono ?_; rintro e w1 ⟨m2, rfl, h5, h6, rfl⟩
  have hlc1 := h3.cap
  have hm1 := h3.max
  have hlc2 := h5.cap
  have hm2 := h5.max
  go_wp2_with (at_make; refine wl_make rfl _ _ Try.underlying23 rfl _ (m1 + m2) rfl (by omega) (by omega) ?_; intro w1 hR hB1 hz1; obtain ⟨g, hg⟩ : ∃ g, g = w.heap.size := ⟨_, rfl⟩; rw [← hg] at hR ⊢; have HG := Lib.hid hg; have HZ1 := Lib.hid hz1; clear hg hz1)
  have hdx := (trimmed_nm hd).1
  have hdy := (trimmed_nm hd2).1
  go_loopw [22] (fun i wr => ∃ k zs, k ≤ m1 ∧ i = .int .i64 (k : Nat) ∧ Row wr g zs ∧ Only w1 wr g ∧ wr.heap.size = w1.heap.size ∧ zs.length = m1 + m2 ∧ Dg b64 zs ∧ (∀ t, k + m2 ≤ t → t < m1 + m2 → zs[t]? = some 0) ∧ V b64 zs = V b64 ((trimmed xs).take k) * V b64 (trimmed ys)) (fun i _ => m1 - (intOf i).toNat)
  case atStart => exact ⟨0, _, Nat.zero_le _, rfl, hR, Only.refl _ _, rfl, by simp, dg_zeros b64_pos _, fun t _ ht => by simp [ht], by rw [V_replicate]; simp [V]⟩
  case round =>
    obtain ⟨k, zs, hk, rfl, hr, ho, hz, hzl, hdz, hzz, hv⟩ := hrel
    have HZ := Lib.hid hz
    have HZL := Lib.hid hzl
    have HV := Lib.hid hv
    have HZZ := Lib.hid hzz
    clear hz hzl hv hzz
    have hgB : B ≤ g := by rw [HG.out]; exact hB
    have hbw : Below w.heap.size w1 wr := ho.below (by rw [HG.out]; exact Nat.le_refl _) (by rw [HZ1.out]; omega)
    have hbel : Below w.heap.size w wr := hB1.trans hbw
    by_cases hlt : k < m1
    · have hs1r := h3.below (hbel.mono hB)
      have hs2r := h5.below (hbel.mono hB)
      have hki : (k : Int) < m1 := by omega
      obtain ⟨b, off, x, rfl, hb1, hx, hc⟩ := hs1r.at_ hlt
      have hxl := hdx.get hx
      have HX := Lib.hid hx
      clear hx
      have hki2 : (k : Int) ≤ m1 + m2 := by omega
      have hki3 : (0 : Int) ≤ k := by omega
      have hkm2 : (k : Int) + m2 < m1 + m2 := by omega
      have hne : ¬ (m1 + m2 = k) := by omega
      go_wp2_with (go_at_call 40; refine (addMul_any wr g k _ _ zs hr B A2 m2 c2 (trimmed ys) hs2r hgB (by rw [HZL.out]; omega) (by omega) hdz hdy x hxl).mono ?_; rintro e w3 ⟨c, zs3, rfl, hc1, hR3, ho3, hsz3, hl3, hd3, hzz3, hv3⟩; have HZ3 := Lib.hid hsz3; have HL3 := Lib.hid hl3; have HV3 := Lib.hid hv3; have HZZ3 := Lib.hid hzz3; clear hsz3 hl3 hv3 hzz3; have h0 : Hid (zs3[k + m2]? = some 0) := (by show _ = _; rw [HZZ3.out (k + m2) (by omega)]; exact HZZ.out (k + m2) (Nat.le_refl _) (by omega)); have hcell := hR3.at_ h0.out; have hf3 := hR3.frozen)
      go_roundw
      case rel => exact ⟨k + 1, zs3.set (k + m2) c, by omega, by go_num, hR3.set _ _, (ho.trans ho3).set _ _, by simpa [World.setCell] using HZ3.out.trans HZ.out, by simp [HL3.out, HZL.out], hd3.set _ hc1, fun t ht1 ht2 => by rw [List.getElem?_set_ne (by omega), HZZ3.out t (by omega)]; exact HZZ.out t (by omega) ht2, lmul_row h0.out HX.out HV.out HV3.out⟩
      case measure => simp [intOf]; omega
    · obtain rfl : k = m1 := by omega
      have hsl := hr.sl (by rw [HZL.out]; omega)
      rw [HZL.out] at hsl
      go_wp2_with (go_at_call 38; refine (ltrim_sl _ _ _ _ _ _ hsl).mono ?_; rintro e w4 ⟨m, rfl, h7, h8, rfl⟩)
      go_ret
      have hv9 : V b64 zs = V b64 xs * V b64 ys := by rw [HV.out, List.take_of_length_le (by rw [← h3.len]; omega), (trimmed_nm hd).2.2, (trimmed_nm hd2).2.2]
      rw [HG.out] at hr h7 ⊢
      exact ⟨zs, m, _, rfl, hr, by rw [HZL.out]; omega, by rw [HZL.out]; omega, by rw [HZL.out]; omega, hv9 ▸ trimmed_nm hdz, h7, hbel⟩
end Go.Proofs.Ytopgjmbmhlbadaa
