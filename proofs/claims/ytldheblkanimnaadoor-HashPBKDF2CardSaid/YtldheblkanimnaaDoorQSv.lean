/- hashes: PBKDF2, whole. -/
import Derived.Test.YtldheblkanimnaaDoorQSt
import Derived.Test.YtldheblkanimnaaDoorQSu
import Derived.Test.YtldheblkanimnaaDoorPileB9
set_option linter.unusedVariables false
set_option linter.unusedSimpArgs false
namespace Go.Proofs.YtldheblkanimnaaDoor
open Go.RowKit Go.Shelf

set_option maxRecDepth 100000 in
set_option maxHeartbeats 4000000 in
theorem pbk_any (w : World) (k : Int) (hk : KindOk k) (hGS : StartsG w) (hGR : RootsG w) (B : Nat) (A1 : Option Addr) (n1 c1 : Nat) (pin : List (BitVec 8)) (hs1 : SlV w B A1 n1 c1 (pin.map W8)) (hz1 : A1 = none → c1 = 0) (A2 : Option Addr) (n2 c2 : Nat) (salt : List (BitVec 8)) (hs2 : SlV w B A2 n2 c2 (salt.map W8)) (hz2 : A2 = none → c2 = 0) (hB : B ≤ w.heap.size) (hn1 : n1 ≤ 1000) (hn2 : n2 ≤ 1000) (R N : Nat) (hR1 : 1 ≤ R) (hR2 : R ≤ 65536) (hN1 : 1 ≤ N) (hN2 : N ≤ 65536) (h : R * ((N + szN k - 1) / szN k) ≤ 65536) :
    Calls Tryd.prog 26 #[.int .i64 k, .slice A1 n1 c1, .slice A2 n2 c2, .int .i64 (R : Int), .int .i64 (N : Int)] w fun e w' => ∃ v, e = .returned v ∧ FreshV w' w.heap.size v (pbkL k pin salt R N) ∧ Below w.heap.size w w' := by
  obtain ⟨W1, e1, hB1, b1, s1⟩ := newBox w 22 (.slice A2 n2 c2)
  obtain ⟨W2, e2, hB2, b2, s2⟩ := newBox W1 3 (.int .i64 (R : Int))
  obtain ⟨x1, hx1⟩ : ∃ b, w.heap.size = b := ⟨_, rfl⟩
  obtain ⟨x2, hx2⟩ : ∃ b, W1.heap.size = b := ⟨_, rfl⟩
  rw [hx1] at b1
  rw [hx2] at b2
  replace b1 := b1.later hB2
  have hB12 : Below w.heap.size w W2 := hB1.trans (hB2.mono hB1.size)
  have q2 := b2.1
  have HB12 := Lib.hid hB12
  have HX1 := Lib.hid b1
  have HX2 := Lib.hid b2
  have hv := valid_yes W2 k hk
  have hsz := size_any W2 k
  rw [szN_eq hk] at hsz
  obtain ⟨hs1', hs2'⟩ := szN_ok hk
  obtain ⟨s, hs⟩ : ∃ s, szN k = s := ⟨_, rfl⟩
  rw [hs] at hsz h hs1' hs2'
  obtain ⟨q, hq⟩ : ∃ q, (N + s - 1) / s = q := ⟨_, rfl⟩
  rw [hq] at h
  have hqI : ((N : Int) + (s : Int) - 1) / (s : Int) = (q : Int) := by rw [← hq, Int.natCast_ediv]; congr 1; omega
  have hqb : q ≤ 65600 := by rw [← hq]; exact Nat.le_trans (Nat.div_le_self _ _) (by omega)
  obtain ⟨p, hp⟩ : ∃ p, R * q = p := ⟨_, rfl⟩
  have hpI : (R : Int) * (q : Int) = (p : Int) := by rw [← hp]; simp
  rw [hp] at h
  have kR1 : (1 : Int) ≤ R := by omega
  have kR2 : (R : Int) ≤ 65536 := by omega
  have kN1 : (1 : Int) ≤ N := by omega
  have kN2 : (N : Int) ≤ 65536 := by omega
  have ks1 : (1 : Int) ≤ s := by omega
  have ks2 : (s : Int) ≤ 64 := by omega
  have kq2 : (q : Int) ≤ 65600 := by omega
  have kp : (p : Int) ≤ 65536 := by omega
  obtain ⟨f, hf⟩ : ∃ f : Nat → List (BitVec 8), (fun i => tL k pin (salt ++ counterL (i + 1)) (R - 1)) = f := ⟨_, rfl⟩
  have hfl : ∀ j, (f j).length = s := fun j => by rw [← hf, ← hs]; exact tL_length _ _ _ _
  have hff : fillL f N = pbkL k pin salt R N := by rw [← hf]; rfl
  have hwk : ∀ W, Below W2.heap.size W2 W → Calls Tryd.prog 43 #[.int .i64 k, .slice A1 n1 c1] W fun e w' => ∃ v, e = .returned v ∧ KeyedV w' W.heap.size v k pin ∧ Below W.heap.size W w' := fun W hW => by
    have hW2 : Below w.heap.size w W := hB12.trans (hW.mono hB12.size)
    exact withKey_any W k hk (hGS.later hW2) (hGR.later hW2) B A1 n1 c1 pin (hs1.below (hW2.mono hB)) hz1 (Nat.le_trans hB hW2.size) (by omega)
  have hpart : ∀ (W : World) (B0 gi go x5 : Nat), Below W2.heap.size W2 W → KeyedV W B0 (.agg #[.pointer (some ⟨gi, 0, none⟩), .pointer (some ⟨go, 0, none⟩)]) k pin → RowV 71 W x5 [.pointer (some ⟨gi, 0, none⟩), .pointer (some ⟨go, 0, none⟩)] → ∀ (j : Nat), j < 65536 → ∀ V, Below W.heap.size W V → Calls Tryd.prog 50 (#[.int .i64 (j : Int)] ++ #[.pointer (some ⟨x5, 0, none⟩), .pointer (some ⟨x2, 0, none⟩), .pointer (some ⟨x1, 0, none⟩)]) V fun e w' => ∃ b cp, e = .returned (.slice (some ⟨b, 0, none⟩) s cp) ∧ SlV w' w'.heap.size (some ⟨b, 0, none⟩) s cp ((f j).map W8) ∧ Below V.heap.size V w' := fun W B0 gi go x5 hW hkv hr j hj V hV => by
    have hWV : Below W2.heap.size W2 V := hW.trans (hV.mono hW.size)
    have hwV : Below w.heap.size w V := hB12.trans (hWV.mono hB12.size)
    have h := pbkPart_any V k hk (hGR.later hwV) B0 gi go pin (hkv.later hV) R hR1 hR2 x5 x2 x1 B A2 n2 c2 salt (hs2.below (hwV.mono hB)) hz2 (Nat.le_trans hB hwV.size) (by omega) (hr.later hV) (b2.later hWV) (b1.later hWV) j (by omega)
    rw [hs, show tL k pin (salt ++ counterL (j + 1)) (R - 1) = f j by rw [← hf]] at h
    exact h
  have HV := Lib.hid hv
  have HSZ := Lib.hid hsz
  have HWK := Lib.hid hwk
  have HPART := Lib.hid hpart
  have HFL := Lib.hid hfl
  have HFF := Lib.hid hff
  have HXX := Lib.hid hx1
  clear hB12 hB1 hB2 b1 b2 s1 s2 hv hsz hq hp hs hqb hwk hpart hfl hff hf hs1 hs2 hGS hGR
  go_enter Tryd.func26, Tryd.ntmps26
  go_wp2_with fail
  refine HV.out.mono ?_
  rintro e w' ⟨rfl, rfl⟩
  go_wp2_with fail
  refine HSZ.out.mono ?_
  rintro e w' ⟨rfl, rfl⟩
  go_wp2
  go_quiet (fail)
  have hbq : Below W2.heap.size W2 (W2.drewN nq) := below_drewN (Below.refl _ _) _
  obtain ⟨w4, hw4⟩ : ∃ V, W2.drewN nq = V := ⟨_, rfl⟩
  rw [hw4] at hbq ⊢
  have HBQ := Lib.hid hbq
  clear hbq hw4
  go_wp2_with fail
  refine (HWK.out w4 HBQ.out).mono ?_
  rintro e w5 ⟨v, rfl, ⟨gi, go, rfl, hbi, hig, hI, hO⟩, hb5⟩
  obtain ⟨W6, e6, r6, b6, z6⟩ := newV w5 71 [.pointer none, .pointer none] #[.pointer none, .pointer none] rfl
  obtain ⟨x5, hx5⟩ : ∃ b, w5.heap.size = b := ⟨_, rfl⟩
  have hIO : ∀ W, Below w5.heap.size w5 W → KeyedV W w4.heap.size (.agg #[.pointer (some ⟨gi, 0, none⟩), .pointer (some ⟨go, 0, none⟩)]) k pin := fun W hW => ⟨gi, go, rfl, hbi, hig, hI.later hW, hO.later hW⟩
  have hb25 : Below W2.heap.size W2 w5 := HBQ.out.trans (hb5.mono HBQ.out.size)
  have HIO := Lib.hid hIO
  have HB25 := Lib.hid hb25
  have HB6 := Lib.hid b6
  have HX5 := Lib.hid hx5
  have h1o : Ones [Value.pointer (some ⟨gi, 0, none⟩), Value.pointer (some ⟨go, 0, none⟩)] := fun v hv => by simp at hv; rcases hv with rfl | rfl <;> rfl
  rw [hx5] at r6
  clear hbi hig hI hO hb5 hIO hb25 b6 z6
  go_wp2_with (refine wlv_storeO rfl 71 2 Tryd.keyed2 _ _ rfl x5 [.pointer (some ⟨gi, 0, none⟩), .pointer (some ⟨go, 0, none⟩)] rfl rfl _ _ r6 rfl rfl h1o ?_; intro w7 r7 c7)
  have hb57 : Below w5.heap.size w5 w7 := HB6.out.trans (c7.below (by rw [HX5.out]; exact Nat.le_refl _) HB6.out.size)
  have hb27 : Below W2.heap.size W2 w7 := HB25.out.trans (hb57.mono HB25.out.size)
  have hfi := fillF_any w7 50 #[.pointer (some ⟨x5, 0, none⟩), .pointer (some ⟨x2, 0, none⟩), .pointer (some ⟨x1, 0, none⟩)] (enters_of Tryd.func50 (by kernel_rfl) rfl) f s HFL.out hs1' hs2' N hN1 hN2 (HPART.out w7 _ gi go x5 hb27 (HIO.out w7 hb57) r7)
  have HFI := Lib.hid hfi
  have HB27 := Lib.hid (HB12.out.trans (hb27.mono HB12.out.size))
  clear hfi hb27 hb57 r7 c7
  go_wp2_with fail
  refine HFI.out.mono ?_
  rintro e w8 ⟨v8, rfl, ho8, hb8⟩
  have HO8 := Lib.hid ho8
  have HB8 := Lib.hid hb8
  have h27z := HB27.out.size
  clear ho8 hb8
  go_wp2
  go_ret
  refine ⟨v8, rfl, ?_, HB27.out.trans (HB8.out.mono h27z)⟩
  rw [← HFF.out]
  exact (FreshV.of_own HO8.out).mono_ h27z
end Go.Proofs.YtldheblkanimnaaDoor
