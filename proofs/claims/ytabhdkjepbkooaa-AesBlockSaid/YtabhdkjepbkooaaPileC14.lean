/- Parts of one proof, joined: Cd, WABlk. -/
import Derived.Test.YtabhdkjepbkooaaPileC11
import Derived.Test.YtabhdkjepbkooaaPileC12
import Derived.Test.YtabhdkjepbkooaaPileC13
import Derived.Test.YtabhdkjepbkooaaPileC8

/- aescore and its reference: what wrong lengths give. -/
set_option linter.unusedVariables false
set_option linter.unusedSimpArgs false
namespace Go.Proofs.Ytabhdkjepbkooaa
open Go.RowKit
attribute [local go_sem] Oper.semAt_some

theorem rnew_any (w : World) (B : Nat) (A : Option Addr) (n c : Nat) (key : List (BitVec 8)) (hs : SlV w B A n c (key.map W8)) (hB : B ≤ w.heap.size) (hn : KeyLen n) :
    Calls Try.prog 9 #[.slice A n c] w fun e w' => ∃ g, e = .returned (.pointer (some ⟨g, 0, none⟩)) ∧ w.heap.size ≤ g ∧ (∃ gK cK gs gt gw kr vr, RcR w' g key gK cK gs gt gw kr vr) ∧ Below w.heap.size w w' := by
  rcases hn with rfl | rfl | rfl
  · exact rnew16_any w B A c key hs hB
  · exact rnew24_any w B A c key hs hB
  · exact rnew32_any w B A c key hs hB
set_option maxRecDepth 100000 in
set_option maxHeartbeats 1600000 in
theorem rnew_no (w : World) (A : Option Addr) (n c : Nat) (hn : ¬ KeyLen n) : Calls Try.prog 9 #[.slice A n c] w fun e w' => e = .returned (.pointer none) ∧ w = w' := by
  have h1 : ¬ (n : Int) = 16 := fun h => hn (.inl (by omega))
  have h2 : ¬ (n : Int) = 24 := fun h => hn (.inr (.inl (by omega)))
  have h3 : ¬ (n : Int) = 32 := fun h => hn (.inr (.inr (by omega)))
  have h4 : ((n : Int) != 16) = true := by simp; omega
  have h5 : ((n : Int) != 24) = true := by simp; omega
  have h6 : ((n : Int) != 32) = true := by simp; omega
  go_enter Try.func9, Try.ntmps9
  go_wp2
  go_ret
  exact ⟨rfl, rfl⟩
set_option maxHeartbeats 1600000 in
theorem encrypt_no (w : World) (g : Nat) (key : List (BitVec 8)) (h : CipherR w g key) (A : Option Addr) (n c : Nat) (hn : n ≠ 16) : Calls Try.prog 10 #[.pointer (some ⟨g, 0, none⟩), .slice A n c] w fun e w' => e = .returned (.slice none 0 0) ∧ w = w' := by
  have HT := Lib.hid (takes_no w g key h A n c hn)
  clear h
  go_enter Try.func10, Try.ntmps10
  go_wp2_with fail
  refine HT.out.mono ?_
  rintro e w' ⟨rfl, rfl⟩
  go_wp2
  go_ret
  exact ⟨rfl, rfl⟩
set_option maxHeartbeats 1600000 in
theorem encrypt_nil (w : World) (A : Option Addr) (n c : Nat) : Calls Try.prog 10 #[.pointer none, .slice A n c] w fun e w' => e = .returned (.slice none 0 0) ∧ w = w' := by
  have HT := Lib.hid (takes_nil w A n c)
  go_enter Try.func10, Try.ntmps10
  go_wp2_with fail
  refine HT.out.mono ?_
  rintro e w' ⟨rfl, rfl⟩
  go_wp2
  go_ret
  exact ⟨rfl, rfl⟩
set_option maxHeartbeats 1600000 in
theorem decrypt_no (w : World) (g : Nat) (key : List (BitVec 8)) (h : CipherR w g key) (A : Option Addr) (n c : Nat) (hn : n ≠ 16) : Calls Try.prog 11 #[.pointer (some ⟨g, 0, none⟩), .slice A n c] w fun e w' => e = .returned (.slice none 0 0) ∧ w = w' := by
  have HT := Lib.hid (takes_no w g key h A n c hn)
  clear h
  go_enter Try.func11, Try.ntmps11
  go_wp2_with fail
  refine HT.out.mono ?_
  rintro e w' ⟨rfl, rfl⟩
  go_wp2
  go_ret
  exact ⟨rfl, rfl⟩
set_option maxHeartbeats 1600000 in
theorem decrypt_nil (w : World) (A : Option Addr) (n c : Nat) : Calls Try.prog 11 #[.pointer none, .slice A n c] w fun e w' => e = .returned (.slice none 0 0) ∧ w = w' := by
  have HT := Lib.hid (takes_nil w A n c)
  go_enter Try.func11, Try.ntmps11
  go_wp2_with fail
  refine HT.out.mono ?_
  rintro e w' ⟨rfl, rfl⟩
  go_wp2
  go_ret
  exact ⟨rfl, rfl⟩
end Go.Proofs.Ytabhdkjepbkooaa

/- AesBlock, walked. -/
set_option linter.unusedVariables false
set_option linter.unusedSimpArgs false
namespace Go.Proofs.Ytabhdkjepbkooaa
open Go.RowKit
attribute [local go_sem] shutOp Oper.semAt_some

set_option maxRecDepth 100000 in
set_option maxHeartbeats 8000000 in
theorem ablk_walk (w : World) (A1 : Option Addr) (n1 c1 : Nat) (key0 : List (BitVec 8)) (h1 : SlV w w.heap.size A1 n1 c1 (key0.map W8)) (z1 : A1 = none → c1 = 0) (A2 : Option Addr) (n2 c2 : Nat) (bs0 : List (BitVec 8)) (h2 : SlV w w.heap.size A2 n2 c2 (bs0.map W8)) (z2 : A2 = none → c2 = 0) :
    Calls Try.prog 3 #[.slice A1 n1 c1, .slice A2 n2 c2] w fun e w' => e = .returned (.bool true) ∧ Below w.heap.size w w' := by
  obtain ⟨z, hz⟩ : ∃ z, w.heap.size = z := ⟨_, rfl⟩
  rw [hz] at h1 h2
  obtain ⟨W0, e0, b0, x0, s0⟩ := newBox w 4 (.bool false)
  rw [hz] at b0 x0
  have hz0 : z ≤ W0.heap.size := by omega
  have HBG := Lib.hid (begun5_any W0)
  have HZ := Lib.hid hz
  have HH := Lib.hid (And.intro h1 h2)
  have HB0 := Lib.hid b0
  have HX0 := Lib.hid x0
  clear h1 h2 b0 x0 s0
  refine (callsIn_wide (n := 9)).1 ?_
  refine callsIn_of_wp_marks Try.func3 rfl trivial ?_ rfl
  simp only [Try.ntmps3, List.size_toArray, List.length_cons, List.length_nil, Nat.reduceAdd, Nat.reduceSub, Array.replicate_succ, Array.replicate_zero, List.push_toArray, List.append_toArray, List.nil_append, List.cons_append]
  gi_wp2_with fail
  clear e0
  refine ⟨trivial, (callsIn_wide.2 HBG.out).mono ?_⟩
  rintro e w1 ⟨rfl, hb1⟩
  have hB1 := HB0.out.trans (hb1.mono hz0)
  have hz1 : z ≤ w1.heap.size := by have := hb1.size; omega
  have hs1 := HH.out.1.below hB1
  have hs2 := HH.out.2.below hB1
  have HS1 := Lib.hid (short_any w1 z A1 n1 c1 key0 hs1 40 (by decide))
  have HS2 := Lib.hid (short_any w1 z A2 n2 c2 bs0 hs2 20 (by decide))
  have ht1 := hs1.take (k := min n1 40) (Nat.min_le_left _ _)
  have ht2 := hs2.take (k := min n2 20) (Nat.min_le_left _ _)
  rw [← List.map_take] at ht1 ht2
  obtain ⟨m1, hm1⟩ : ∃ m, min n1 40 = m := ⟨_, rfl⟩
  obtain ⟨m2, hm2⟩ : ∃ m, min n2 20 = m := ⟨_, rfl⟩
  obtain ⟨key, hkey⟩ : ∃ l, key0.take m1 = l := ⟨_, rfl⟩
  obtain ⟨bs, hbs⟩ : ∃ l, bs0.take m2 = l := ⟨_, rfl⟩
  rw [hm1] at ht1 HS1
  rw [hm2] at ht2 HS2
  rw [hkey] at ht1
  rw [hbs] at ht2
  have T1 := Lib.hid ht1
  have T2 := Lib.hid ht2
  have HB1 := Lib.hid hB1
  have HX1 := Lib.hid (HX0.out.later hb1)
  have hbl : bs.length = m2 := by simpa using ht2.len.symm
  have hkl : key.length = m1 := by simpa using ht1.len.symm
  have HBL := Lib.hid hbl
  have HKL := Lib.hid hkl
  clear hs1 hs2 ht1 ht2 hm1 hm2 hkey hbs hb1 hB1 hbl hkl
  gi_wp2_with fail
  refine ⟨trivial, (callsIn_wide.2 HS1.out).mono ?_⟩
  rintro e w' ⟨rfl, rfl⟩
  gi_wp2_with fail
  refine ⟨trivial, (callsIn_wide.2 HS2.out).mono ?_⟩
  rintro e w' ⟨rfl, rfl⟩
  by_cases hk : KeyLen m1
  · have HNW := Lib.hid (new_any w1 z A1 m1 c1 key T1.out z1 hz1 hk)
    have HK := Lib.hid hk
    clear hk
    gi_wp2_with fail
    refine ⟨trivial, (callsIn_wide.2 HNW.out).mono ?_⟩
    rintro e w2 ⟨g, rfl, hg, hc2, hb2⟩
    have hB2 := (Below.refl z w1).trans (hb2.mono hz1)
    have hz2 : z ≤ w2.heap.size := by have := hb2.size; omega
    have HRN := Lib.hid (rnew_any w2 z A1 m1 c1 key (T1.out.below hB2) hz2 HK.out)
    have HC2 := Lib.hid hc2
    have HB2 := Lib.hid hB2
    have HX2 := Lib.hid (HX1.out.later hb2)
    clear hB2 hc2 hb2 HNW hg
    gi_wp2_with fail
    refine ⟨trivial, (callsIn_wide.2 HRN.out).mono ?_⟩
    rintro e w3 ⟨gr, rfl, hgr, ⟨gK, cK, gs, gt, gw, kr, vr, hR3⟩, hb3⟩
    have hz3 : z ≤ w3.heap.size := by have := hb3.size; omega
    have hzl2 := HX2.out.2.2
    have hzgr : z ≠ gr := by omega
    have hzw3 : z < w3.heap.size := by have := hb3.size; omega
    obtain ⟨W4, e4, b4, x4, s4⟩ := newBox w3 27 (.pointer none)
    obtain ⟨xr, hxr⟩ : ∃ x, w3.heap.size = x := ⟨_, rfl⟩
    rw [hxr] at b4 x4
    have hzxr : z ≠ xr := by omega
    have q4 := x4.1
    have q4f := x4.2.1
    obtain ⟨W5, e5⟩ : ∃ V, W4.setCell ⟨xr, 0, none⟩ (.pointer (some ⟨gr, 0, none⟩)) = V := ⟨_, rfl⟩
    have x5 : BxE xr (.pointer (some ⟨gr, 0, none⟩)) W5 := by rw [← e5]; exact x4.set _
    have q5 := x5.1
    have b35 : Below w3.heap.size w3 W5 := by rw [hxr, ← e5]; exact below_box b4 (Nat.le_refl _) _
    have hc5 := (HC2.out.later hb3).later b35
    have hR5 := hR3.later b35
    have hB5 := HB2.out.trans ((hb3.mono hz2).trans (b35.mono hz3))
    have hz5 : z ≤ W5.heap.size := by have := b35.size; omega
    obtain ⟨gk, hrg, hrk⟩ := hc5.rows
    obtain ⟨C, hC⟩ : ∃ C, cntL key.length = C := ⟨_, rfl⟩
    have hCb : 11 ≤ C ∧ C ≤ 15 := by rw [← hC]; unfold cntL; rcases hc5.len with h | h | h <;> omega
    rw [hC] at hrg
    have hky := keys_any W5 g gk C hrg
    have HKY := Lib.hid hky
    have HC5 := Lib.hid hc5
    have HR5 := Lib.hid hR5
    have HB5 := Lib.hid hB5
    have HX5 := Lib.hid ((HX2.out.later hb3).later b35)
    have HXR := Lib.hid x5
    have HRG := Lib.hid hrg
    have HRK := Lib.hid hrk
    have HC := Lib.hid hC
    clear hky hc5 hR5 hR3 hB5 b35 b4 x4 x5 hb3 s4 hrg hrk HRN hgr hC
    gi_wp2_with fail
    refine ⟨trivial, (callsIn_wide.2 HKY.out).mono ?_⟩
    rintro e w6 ⟨g1, rfl, hg1, hr1, hb6⟩
    have hnf := keys_notNil g1
    obtain ⟨y5, hy5⟩ : ∃ y, W5.heap.size = y := ⟨_, rfl⟩
    have hzy : z ≤ y5 := by omega
    obtain ⟨W6, e6, b67, x6, s6⟩ := newBox w6 3 (.int .i64 0)
    obtain ⟨x, hx⟩ : ∃ x, w6.heap.size = x := ⟨_, rfl⟩
    rw [hx] at x6
    have hyx : y5 ≤ x := by have := hb6.size; omega
    have q6 := x6.1
    have q6f := x6.2.1
    obtain ⟨W7, e7⟩ : ∃ V, W6.setCell ⟨x, 0, none⟩ (.int .i64 0) = V := ⟨_, rfl⟩
    have x7 : BxE x (.int .i64 0) W7 := by rw [← e7]; exact x6.set _
    have b67' : Below w6.heap.size w6 W7 := by rw [← e7]; exact below_box b67 (by omega) _
    have b57 : Below W5.heap.size W5 W7 := hb6.trans (b67'.mono hb6.size)
    have hr17 := hr1.later b67'
    have hrk7 := HRK.out.later b57
    have hgkx : gk ≠ x := by have := HRK.out.lt; omega
    have hg1x : g1 ≠ x := by have := hr1.lt; omega
    have hseq := keys1_in 8 (by decide) W7 x g1 gk C (wholeL key) hr17 hrk7 (by rw [wholeL_length key HC5.out.len, HC.out]) hg1x hgkx (by omega)
    have HSEQ := Lib.hid hseq
    have HX7 := Lib.hid x7
    have HB57 := Lib.hid (show Below y5 W5 W7 by rw [← hy5]; exact b57)
    have hx7 : x < W7.heap.size := x7.2.2
    have HY5 := Lib.hid hy5
    have hyW7 : y5 ≤ W7.heap.size := by omega
    have hzl : z < y5 := by have := HX5.out.2.2; omega
    have hzx : z ≠ x := by omega
    clear hseq hr17 hrk7 b57 x7 b67 b67' x6 hb6 hr1 hg1 HKY s6 hy5 hgkx hg1x
    gi_wp2_with fail
    refine wpIn_rangeP rfl (by decide) (gf := 31) (lb := #[.pointer (some ⟨g1, 0, none⟩)]) rfl trivial (enters_of Try.func31 (by kernel_rfl) rfl)
      HSEQ.out (fun a b => a.trans b) (fun W l o o' hl ho _ _ => KpE.put hl ho) (fun _ => rfl)
      (BgI W7 x) (fun _ _ _ => False) (BgI.own _ _) (fun _ _ _ _ _ h _ _ => h.elim) (fun pre => KyR.own _ _ _ pre) ?hI0 ?a1x ?assign ?body ?done ?stop
    case hI0 => exact ⟨OnlyV.refl _ _, HX7.out⟩
    case assign =>
      intro l x W K hK
      gi_wp2
      exact hK
    case body =>
      rintro l pre ⟨i, Ap, np, cp⟩ W ⟨hO, hX⟩ ⟨hxi, hsx, hxn, hlow⟩ hpl
      dsimp only at hxi hsx hxn hlow
      subst hxi
      subst hxn
      have hBW : Below y5 W5 W := HB57.out.trans (hO.below hyx hyW7)
      have hRW := HR5.out.later (show Below W5.heap.size W5 W by rw [HY5.out]; exact hBW)
      have hrW := HXR.out.later (show Below W5.heap.size W5 W by rw [HY5.out]; exact hBW)
      have cr := hrW.1
      have cg := hRW.own.at_ (i := 0) rfl
      obtain ⟨ckk, kb, hkb, hkbl, hks⟩ := hRW.key_at pre.length (by rw [HC.out]; exact hpl)
      rw [HC.out] at cg
      have hke : keyAt (wholeL key) pre.length = kb := by
        have h := keysL_get key pre.length (by rw [HC.out]; exact hpl)
        rw [hkb] at h
        injection h with h
        exact h.symm
      rw [hke] at hsx
      obtain ⟨p16, hp16⟩ : ∃ p, 16 * pre.length = p := ⟨_, rfl⟩
      rw [hp16] at ckk hks
      obtain ⟨pl, hpll⟩ : ∃ x, pre.length = x := ⟨_, rfl⟩
      rw [hpll] at hX hpl ckk
      have HPL := Lib.hid hpll
      have cx := hX.1
      have fx := hX.2.1
      have hpi : (pl : Int) < C := by omega
      have hpi0 : (0 : Int) ≤ pl := by omega
      have hpi2 : decide ((C : Int) ≤ (pl : Int)) = false := by simp; omega
      have v1 : ∀ n, (convert 22 9 (.slice Ap 16 cp)).run Try.prog (W.drewN n) = .ok (strV kb) (W.drewN n) := fun n => conv_str (hsx.below (below_drewR _ W n))
      have v2 : ∀ n, (convert 22 9 (.slice (some ⟨gw, p16, none⟩) 16 16)).run Try.prog (W.drewN n) = .ok (strV kb) (W.drewN n) := fun n => conv_str (hks.below (below_drewR _ W n))
      have v3 : ∀ n, (binOp .neq 9 (strV kb) (strV kb)).run Try.prog (W.drewN n) = .ok (.bool false) (W.drewN n) := fun n => by rw [neq_str, decide_eq_true rfl]; rfl
      have v4 := fun (w : World) (t : TypeId) (x y : Operand) (a b : List (BitVec 8)) => eqGuard_str (P := Try.prog) w .neq t x y a b
      have HOW := Lib.hid hO
      have HXW := Lib.hid hX
      rw [hpll]
      clear hO hX hBW hRW hrW hsx hks hkb hkbl hke hlow hp16 hpll
      gi_wp2
      refine wpIn_region_quietR rfl (by kernel_rfl) (by rfl) ?_
      iterate 25 (quiet_step_in (fail))
      refine wpQuietIn_nil ?_
      intro _ hw'
      obtain ⟨nq, hw''⟩ := hw'
      subst hw''
      obtain ⟨V, eV⟩ : ∃ V, W.drewN nq = V := ⟨_, rfl⟩
      have cxV : V.cell? ⟨x, 0, none⟩ = some (.int .i64 (pl : Int)) := by rw [← eV]; exact cx
      have fxV : V.frozen? ⟨x, 0, none⟩ = false := by rw [← eV]; exact fx
      obtain ⟨Wa, eWa⟩ : ∃ V', V.setCell ⟨x, 0, none⟩ (.int .i64 ((pl : Int) + 1)) = V' := ⟨_, rfl⟩
      have hXa : BxE x (.int .i64 ((pl : Int) + 1)) Wa := by rw [← eWa, ← eV]; exact (HXW.out.drewN nq).set _
      have hOa : OnlyV W Wa x := by rw [← eWa, ← eV]; exact ((OnlyV.refl W x).drewN nq).set 0 _
      have HXA := Lib.hid hXa
      have HOA := Lib.hid hOa
      rw [eV]
      clear hXa hOa v1 v2 v3 cx fx cr cg ckk eV
      gi_wp2
      refine ⟨⟨HOA.out.size, fun k o hk hh _ => (HOA.out.block k (Array.getElem?_eq_some_iff.1 hh).1 (fun e => by injection e; omega)).trans hh⟩, KpE.only HOA.out HOW.out.size, HOW.out.trans HOA.out, ?_⟩
      rw [List.length_append, List.length_singleton, HPL.out]
      exact HXA.out
    case done =>
      rintro D ys W hD hys ⟨hO, hX⟩ hK
      rw [hys] at hX
      have hBW : Below y5 W5 W := HB57.out.trans (hO.below hyx hyW7)
      have hBWs : Below W5.heap.size W5 W := by rw [HY5.out]; exact hBW
      have hBz : Below z w1 W := HB5.out.trans (hBW.mono hzy)
      have hzW : z ≤ W.heap.size := by have h1 := hBW.size; have h2 := HY5.out; omega
      have hsb := T2.out.below hBz
      have hcells : ∀ W', Below W.heap.size W W' → W'.cell? ⟨x, 0, none⟩ = some (.int .i64 (C : Int)) ∧ W'.cell? ⟨xr, 0, none⟩ = some (.pointer (some ⟨gr, 0, none⟩)) ∧ W'.cell? ⟨gr, 0, none⟩ = some (.slice (some ⟨gK, 0, none⟩) C cK) ∧ W'.cell? ⟨z, 0, none⟩ = some (.bool false) ∧ W'.frozen? ⟨z, 0, none⟩ = false := fun W' hW' => by
        have h1 := hX.later hW'
        have h2 := (HXR.out.later hBWs).later hW'
        have h3 := ((HR5.out.later hBWs).later hW').own.at_ (i := 0) rfl
        have h4 := (HX5.out.later hBWs).later hW'
        rw [HC.out] at h3
        exact ⟨h1.1, h2.1, h3, h4.1, h4.2.1⟩
      have hcW := HC5.out.later hBWs
      have hRW := HR5.out.later hBWs
      have HCE := Lib.hid hcells
      have HCW := Lib.hid hcW
      have HRW := Lib.hid hRW
      have HSB := Lib.hid hsb
      have HBZ := Lib.hid hBz
      have HD := Lib.hid hD
      have hbd := (Below.refl W.heap.size W).drew
      have HBD := Lib.hid hbd
      obtain ⟨kx, kr2, kg, k4, f4⟩ := hcells _ hbd
      have hX4 := HX5.out.later hBWs
      have HX4 := Lib.hid hX4
      clear hO hX hBW hBWs hBz hsb hcells hcW hRW hD hbd hX4
      by_cases hm : m2 = 16
      · subst hm
        obtain ⟨bb, ob, _, rfl, _, _, _⟩ := HSB.out.at_ (k := 0) (by decide)
        obtain ⟨E, hE⟩ : ∃ l, encA key bs = l := ⟨_, rfl⟩
        obtain ⟨Dc, hDc⟩ : ∃ l, decA key bs = l := ⟨_, rfl⟩
        have hEl : E.length = 16 := by rw [← hE]; exact encA_length _ _ HBL.out
        have hDl : Dc.length = 16 := by rw [← hDc]; exact decA_length _ _ HBL.out
        have row : ∀ {w : World} {t : TypeId} {g : Nat} {l : List (BitVec 8)}, RowV t w g (l.map W8) → l.length = 16 → SlV w w.heap.size (some ⟨g, 0, none⟩) 16 16 (l.map W8) := fun {w t g l} h hl => by
          have h1 := h.sl (by rw [List.length_map, hl]; decide)
          rw [List.length_map, hl] at h1
          exact h1
        have hEn : ∀ V, Below W.heap.size W V → Calls Try.prog 10 #[.pointer (some ⟨g, 0, none⟩), .slice (some ⟨bb, ob, none⟩) 16 c2] V fun e w' => ∃ g', e = .returned (.slice (some ⟨g', 0, none⟩) 16 16) ∧ SlV w' w'.heap.size (some ⟨g', 0, none⟩) 16 16 (E.map W8) ∧ Below V.heap.size V w' := fun V hV => by
          refine (encrypt_any V g key (HCW.out.later hV) z _ 16 c2 bs (HSB.out.below (hV.mono hzW)) (Nat.le_trans hzW hV.size) rfl).mono ?_
          rintro e w' ⟨g', rfl, _, hr, hb⟩
          rw [hE] at hr
          exact ⟨g', rfl, row hr hEl, hb⟩
        have hDe : ∀ V, Below W.heap.size W V → Calls Try.prog 11 #[.pointer (some ⟨g, 0, none⟩), .slice (some ⟨bb, ob, none⟩) 16 c2] V fun e w' => ∃ g', e = .returned (.slice (some ⟨g', 0, none⟩) 16 16) ∧ SlV w' w'.heap.size (some ⟨g', 0, none⟩) 16 16 (Dc.map W8) ∧ Below V.heap.size V w' := fun V hV => by
          refine (decrypt_any V g key (HCW.out.later hV) z _ 16 c2 bs (HSB.out.below (hV.mono hzW)) (Nat.le_trans hzW hV.size) rfl).mono ?_
          rintro e w' ⟨g', rfl, _, hr, hb⟩
          rw [hDc] at hr
          exact ⟨g', rfl, row hr hDl, hb⟩
        have hRe : ∀ V, Below W.heap.size W V → Calls Try.prog 13 #[.pointer (some ⟨gr, 0, none⟩), .slice (some ⟨bb, ob, none⟩) 16 c2] V fun e w' => ∃ g', e = .returned (.slice (some ⟨g', 0, none⟩) 16 16) ∧ SlV w' w'.heap.size (some ⟨g', 0, none⟩) 16 16 (E.map W8) ∧ Below V.heap.size V w' := fun V hV => by
          refine (renc_any V gr key _ _ _ _ _ _ _ (HRW.out.later hV) z bb ob c2 bs (HSB.out.below (hV.mono hzW)) (Nat.le_trans hzW hV.size)).mono ?_
          rintro e w' ⟨g', rfl, _, hr, hb⟩
          rw [hE] at hr
          exact ⟨g', rfl, row hr hEl, hb⟩
        have hRd : ∀ V, Below W.heap.size W V → Calls Try.prog 14 #[.pointer (some ⟨gr, 0, none⟩), .slice (some ⟨bb, ob, none⟩) 16 c2] V fun e w' => ∃ g', e = .returned (.slice (some ⟨g', 0, none⟩) 16 16) ∧ SlV w' w'.heap.size (some ⟨g', 0, none⟩) 16 16 (Dc.map W8) ∧ Below V.heap.size V w' := fun V hV => by
          refine (rdec_any V gr key _ _ _ _ _ _ _ (HRW.out.later hV) z bb ob c2 bs (HSB.out.below (hV.mono hzW)) (Nat.le_trans hzW hV.size)).mono ?_
          rintro e w' ⟨g', rfl, _, hr, hb⟩
          rw [hDc] at hr
          exact ⟨g', rfl, row hr hDl, hb⟩
        have e1 := fun (w : World) (t : TypeId) (x y : Operand) (a b : List (BitVec 8)) => eqGuard_str (P := Try.prog) w .eql t x y a b
        have e2 : ∀ w', (binOp .eql 9 (strV E) (strV E)).run Try.prog w' = .ok (.bool true) w' := fun w' => by
          rw [eql_str w' _ E E, decide_eq_true rfl]
        have e3 : ∀ w', (binOp .eql 9 (strV Dc) (strV Dc)).run Try.prog w' = .ok (.bool true) w' := fun w' => by
          rw [eql_str w' _ Dc Dc, decide_eq_true rfl]
        have HEN := Lib.hid hEn
        have HDE := Lib.hid hDe
        have HRE := Lib.hid hRe
        have HRD := Lib.hid hRd
        clear hEn hDe hRe hRd row hE hDc hEl hDl
        gi_wp2_with fail
        refine wpIn_wide.2 ?_
        refine wp_region_noPanic ?_
        rw [shut_conv (some 121), shut_conv (some 125), shut_conv (some 132), shut_conv (some 136)]
        go_region_held3 (fun w' => w'.cell? ⟨x, 0, none⟩ = some (.int .i64 (C : Int)) ∧ w'.cell? ⟨xr, 0, none⟩ = some (.pointer (some ⟨gr, 0, none⟩)) ∧ w'.cell? ⟨gr, 0, none⟩ = some (.slice (some ⟨gK, 0, none⟩) C cK)) (first | exact ⟨kx, kr2, kg⟩ | exact ⟨kx11, kr11, kg11⟩ | exact ⟨kx12, kr12, kg12⟩ | exact ⟨kx13, kr13, kg13⟩ | exact ⟨kx14, kr14, kg14⟩ | exact ⟨by rw [World.cell?_setCell_other _ _ _ _ (fun e => hzx (by injection e))]; exact kx14, by rw [World.cell?_setCell_other _ _ _ _ (fun e => hzxr (by injection e))]; exact kr14, by rw [World.cell?_setCell_other _ _ _ _ (fun e => hzgr (by injection e))]; exact kg14⟩)
          (first | (go_at_call 10; (with_reducible refine (HEN.out _ HBD.out).mono ?_); rintro e w11 ⟨g11, rfl, hs11, hb11⟩; have hbA := HBD.out.trans (hb11.mono HBD.out.size); have cv11 := conv_str hs11; obtain ⟨kx11, kr11, kg11, k411, f411⟩ := HCE.out _ hbA) | (go_at_call 13; (with_reducible refine (HRE.out _ hbA).mono ?_); rintro e w12 ⟨g12, rfl, hs12, hb12⟩; have hbB := hbA.trans (hb12.mono hbA.size); have cv12 := conv_str hs12; have cv11' := conv_str (hs11.below hb12); obtain ⟨kx12, kr12, kg12, k412, f412⟩ := HCE.out _ hbB) | (go_at_call 11; (with_reducible refine (HDE.out _ hbB).mono ?_); rintro e w13 ⟨g13, rfl, hs13, hb13⟩; have hbC := hbB.trans (hb13.mono hbB.size); have cv13 := conv_str hs13; obtain ⟨kx13, kr13, kg13, k413, f413⟩ := HCE.out _ hbC) | (go_at_call 14; (with_reducible refine (HRD.out _ hbC).mono ?_); rintro e w14 ⟨g14, rfl, hs14, hb14⟩; have hbE := hbC.trans (hb14.mono hbC.size); have cv14 := conv_str hs14; have cv13' := conv_str (hs13.below hb14); obtain ⟨kx14, kr14, kg14, k414, f414⟩ := HCE.out _ hbE))
        all_goals
          refine NoPanic.normal ?_
          have hBE := HBZ.out.trans (hbE.mono hzW)
          have hX14 := HX4.out.later hbE
          have hKE : w14.heap[D]? = some (.deferred (some [])) := (hbE.block D (Array.getElem?_eq_some_iff.1 hK).1).trans hK
          have HBE := Lib.hid hBE
          have HX14 := Lib.hid hX14
          have HKE := Lib.hid hKE
          clear hBE hX14 hKE hbE hbC hbB hbA
          obtain ⟨WF, eWF⟩ : ∃ V, w14.setCell ⟨z, 0, none⟩ (.bool true) = V := ⟨_, rfl⟩
          have hxF : BxE z (.bool true) WF := by rw [← eWF]; exact HX14.out.set _
          have hKF : WF.heap[D]? = some (.deferred (some [])) := by
            rw [← eWF]
            exact (KeepsOthers.setCell w14 ⟨z, 0, none⟩ (.bool true)).same D _ HKE.out rfl
          have hBF : Below z w WF := by
            rw [← eWF]
            exact below_box (HB1.out.trans HBE.out) (Nat.le_refl _) _
          have HBF := Lib.hid hBF
          have HXF := Lib.hid hxF
          have hxFc := hxF.1
          clear hBF hxF
          gi_wp2
          try rw [eWF]
          refine ⟨by simp, .inl ⟨_, _, rfl, run_takeDeferred hKF, ?_⟩⟩
          have hgr := grownBy_putObj' WF D (.deferred none)
          have hnc : ∀ r, some D = some r → ∃ o : Obj, WF.heap[r]? = some o ∧ o.isCells = false := fun r e => by cases e; exact ⟨_, hKF, rfl⟩
          have hc5 := cell_kept hxFc hgr hnc
          refine ⟨.bool true, by simp [results, Try.f3, go_sem, hc5], rfl, ?_⟩
          rw [HZ.out]
          exact HBF.out.grown hgr (by have := HBF.out.size; have := HZ.out; omega) (fun r e => by cases e; have := HD.out; omega)
      · have hm1 : ¬ (m2 : Int) = 16 := fun e => hm (by omega)
        have hm3 : ((m2 : Int) == 16) = false := by simp; omega
        have HEN := Lib.hid (encrypt_no W.drew g key (HCW.out.later HBD.out) A2 m2 c2 hm)
        have HDE := Lib.hid (decrypt_no W.drew g key (HCW.out.later HBD.out) A2 m2 c2 hm)
        clear hm
        gi_wp2_with fail
        refine wpIn_wide.2 ?_
        refine wp_region_noPanic ?_
        go_region_held3 (fun w' => w'.cell? ⟨x, 0, none⟩ = some (.int .i64 (C : Int)) ∧ w'.cell? ⟨xr, 0, none⟩ = some (.pointer (some ⟨gr, 0, none⟩)) ∧ w'.cell? ⟨gr, 0, none⟩ = some (.slice (some ⟨gK, 0, none⟩) C cK)) (first | exact ⟨kx, kr2, kg⟩ | exact ⟨(World.cell?_setCell_other W _ _ _ (fun e => hzx (by injection e))).trans kx, (World.cell?_setCell_other W _ _ _ (fun e => hzxr (by injection e))).trans kr2, (World.cell?_setCell_other W _ _ _ (fun e => hzgr (by injection e))).trans kg⟩)
          (first | (go_at_call 10; (with_reducible refine HEN.out.mono ?_); rintro e w' ⟨rfl, rfl⟩) | (go_at_call 11; (with_reducible refine HDE.out.mono ?_); rintro e w' ⟨rfl, rfl⟩))
        all_goals
          refine NoPanic.normal ?_
          have hBE := HBZ.out.trans (HBD.out.mono hzW)
          have hX14 := HX4.out
          have hKE : W.drew.heap[D]? = some (.deferred (some [])) := (HBD.out.block D (Array.getElem?_eq_some_iff.1 hK).1).trans hK
          have HBE := Lib.hid hBE
          have HX14 := Lib.hid hX14
          have HKE := Lib.hid hKE
          clear hBE hX14 hKE
          obtain ⟨WF, eWF⟩ : ∃ V, (W.setCell ⟨z, 0, none⟩ (.bool true)).drew = V := ⟨_, rfl⟩
          have hxF : BxE z (.bool true) WF := by rw [← eWF]; exact ((show BxE z (.bool false) W from HX4.out).set _).drewN 1
          have hKF : WF.heap[D]? = some (.deferred (some [])) := by
            rw [← eWF]
            exact (KeepsOthers.setCell W ⟨z, 0, none⟩ (.bool true)).same D _ hK rfl
          have hBF : Below z w WF := by
            rw [← eWF]
            exact (below_box (HB1.out.trans HBZ.out) (Nat.le_refl _) _).drew
          have HBF := Lib.hid hBF
          have HXF := Lib.hid hxF
          have hxFc := hxF.1
          clear hBF hxF
          gi_wp2
          try rw [eWF]
          refine ⟨by simp, .inl ⟨_, _, rfl, run_takeDeferred hKF, ?_⟩⟩
          have hgr := grownBy_putObj' WF D (.deferred none)
          have hnc : ∀ r, some D = some r → ∃ o : Obj, WF.heap[r]? = some o ∧ o.isCells = false := fun r e => by cases e; exact ⟨_, hKF, rfl⟩
          have hc5 := cell_kept hxFc hgr hnc
          refine ⟨.bool true, by simp [results, Try.f3, go_sem, hc5], rfl, ?_⟩
          rw [HZ.out]
          exact HBF.out.grown hgr (by have := HBF.out.size; have := HZ.out; omega) (fun r e => by cases e; have := HD.out; omega)
    case stop =>
      intro D c pre W _ _ h
      exact h.elim
  · have HNW := Lib.hid (new_no w1 A1 m1 c1 hk)
    have HRN := Lib.hid (rnew_no w1 A1 m1 c1 hk)
    clear hk
    gi_wp2_with fail
    refine ⟨trivial, (callsIn_wide.2 HNW.out).mono ?_⟩
    rintro e w' ⟨rfl, rfl⟩
    gi_wp2_with fail
    refine ⟨trivial, (callsIn_wide.2 HRN.out).mono ?_⟩
    rintro e w' ⟨rfl, rfl⟩
    obtain ⟨W4, e4, b4, x4, s4⟩ := newBox w1 27 (.pointer none)
    obtain ⟨xr, hxr⟩ : ∃ x, w1.heap.size = x := ⟨_, rfl⟩
    rw [hxr] at x4
    have q4 := x4.1
    have q4f := x4.2.1
    obtain ⟨W5, e5⟩ : ∃ V, W4.setCell ⟨xr, 0, none⟩ (.pointer none) = V := ⟨_, rfl⟩
    have x5 : BxE xr (.pointer none) W5 := by rw [← e5]; exact x4.set _
    have q5 := x5.1
    have b35 : Below w1.heap.size w1 W5 := by rw [← e5]; exact below_box b4 (by omega) _
    have hX5 := HX1.out.later b35
    have c4 := hX5.1
    have f4 := hX5.2.1
    have HEN := Lib.hid (encrypt_nil W5 A2 m2 c2)
    have HDE := Lib.hid (decrypt_nil W5 A2 m2 c2)
    have HBE := Lib.hid (HB1.out.trans (b35.mono hz1))
    obtain ⟨WF, eWF⟩ : ∃ V, W5.setCell ⟨z, 0, none⟩ (.bool true) = V := ⟨_, rfl⟩
    have hxF : BxE z (.bool true) WF := by rw [← eWF]; exact hX5.set _
    have hxFc := hxF.1
    have hBF : Below z w WF := by
      rw [← eWF]
      exact below_box HBE.out (Nat.le_refl _) _
    have HBF := Lib.hid hBF
    clear hX5 b35 b4 x4 x5 hBF hxF s4
    gi_wp2_with fail
    refine ⟨trivial, (callsIn_wide.2 HEN.out).mono ?_⟩
    rintro e w' ⟨rfl, rfl⟩
    gi_wp2_with fail
    refine ⟨trivial, (callsIn_wide.2 HDE.out).mono ?_⟩
    rintro e w' ⟨rfl, rfl⟩
    gi_wp2
    try rw [eWF]
    refine ⟨.bool true, by simp [results, Try.f3, go_sem, hxFc], rfl, ?_⟩
    rw [HZ.out]
    exact HBF.out
end Go.Proofs.Ytabhdkjepbkooaa
