/- HashHMAC, walked. -/
import Derived.Test.YtldheblkanimnaaDoorPileB9
set_option linter.unusedVariables false
set_option linter.unusedSimpArgs false
namespace Go.Proofs.YtldheblkanimnaaDoor
open Go.RowKit Go.Shelf
attribute [local go_sem] shutOp

set_option maxRecDepth 100000 in
set_option maxHeartbeats 4000000 in
theorem hhmac_walk (w : World) (hGS : StartsG w) (hGR : RootsG w) (k : Int) (A : Option Addr) (n c : Nat) (key : List (BitVec 8)) (hs : SlV w w.heap.size A n c (key.map W8)) (hz : A = none → c = 0) (A2 : Option Addr) (n2 c2 : Nat) (bs : List (BitVec 8)) (hs2 : SlV w w.heap.size A2 n2 c2 (bs.map W8)) (hz2 : A2 = none → c2 = 0) :
    Calls Tryd.prog 5 #[.int .i64 k, .slice A n c, .slice A2 n2 c2] w fun e w' => e = .returned (.bool true) ∧ Below w.heap.size w w' := by
  obtain ⟨b0, hb0⟩ : ∃ b, w.heap.size = b := ⟨_, rfl⟩
  have hbg := begun3_any w hGS hGR
  rw [hb0] at hbg hs hs2 ⊢
  have HBG := Lib.hid hbg
  have HG := Lib.hid (⟨hGS, hGR⟩ : StartsG w ∧ RootsG w)
  have HS := Lib.hid hs
  have HS2 := Lib.hid hs2
  have HB0 := Lib.hid hb0
  clear hbg hGS hGR hs hs2 hb0
  go_enter Tryd.func5, Tryd.ntmps5
  go_wp2_with fail
  refine HBG.out.mono ?_
  rintro e w1 ⟨rfl, hb1⟩
  have hs1 := HS.out.below hb1
  have hs21 := HS2.out.below hb1
  have hG1 : StartsG w1 ∧ RootsG w1 := by
    rw [← HB0.out] at hb1
    exact ⟨HG.out.1.later hb1, HG.out.2.later hb1⟩
  have sh1 := short_any w1 _ _ _ _ _ hs1 200 (by decide)
  have sh2 := short_any w1 _ _ _ _ _ hs21 200 (by decide)
  have ht1 := short_sl (m := 200) hs1
  have ht2 := short_sl (m := 200) hs21
  obtain ⟨m1, hm1⟩ : ∃ m, min n 200 = m := ⟨_, rfl⟩
  obtain ⟨m2, hm2⟩ : ∃ m, min n2 200 = m := ⟨_, rfl⟩
  obtain ⟨q1, hq1⟩ : ∃ q, key.take 200 = q := ⟨_, rfl⟩
  obtain ⟨q2, hq2⟩ : ∃ q, bs.take 200 = q := ⟨_, rfl⟩
  rw [hm1] at sh1 ht1
  rw [hm2] at sh2 ht2
  rw [hq1] at ht1
  rw [hq2] at ht2
  have hm1' : m1 ≤ 200 := by omega
  have hm2' : m2 ≤ 200 := by omega
  have hl2 : m2 = q2.length := by simpa using ht2.len
  have SH1 := Lib.hid sh1
  have SH2 := Lib.hid sh2
  have HB1 := Lib.hid hb1
  have hz1 := hb1.size
  have hb0w : b0 ≤ w1.heap.size := by have := HB0.out; omega
  obtain ⟨D, hD⟩ : ∃ D, hmacK k q1 q2 = D := ⟨_, rfl⟩
  have hP : ∀ (W : World) (g : Nat), Below w1.heap.size w1 W → RowV 22 W g [.slice A2 m2 c2] → Calls Tryd.prog 22 #[.int .i64 k, .slice A m1 c, .slice (some ⟨g, 0, none⟩) 1 1] W fun e w' => ∃ A' c', e = .returned (.slice A' D.length c') ∧ SlV w' w'.heap.size A' D.length c' (D.map W8) ∧ Below W.heap.size W w' := fun W g hW hr => by
    have h := hmacK_any W k (hG1.1.later hW) (hG1.2.later hW) W.heap.size A m1 c q1 (by have h0 := ht1.below (hW.mono hb0w); exact ⟨h0.1, h0.2.1, h0.2.2.1, fun hne => by obtain ⟨b', o', e, hb', hc'⟩ := h0.2.2.2 hne; exact ⟨b', o', e, by have := hW.size; omega, hc'⟩⟩) hz (Nat.le_refl _) (by omega) (some ⟨g, 0, none⟩) 1 1 [q2] (PartsV.single hr (by have h0 := ht2.below (hW.mono hb0w); exact ⟨h0.1, h0.2.1, h0.2.2.1, fun hne => by obtain ⟨b', o', e, hb', hc'⟩ := h0.2.2.2 hne; exact ⟨b', o', e, by have := hW.size; omega, hc'⟩⟩) hz2 hr.lt) (by decide) (by simp; omega)
    rw [show [q2].flatten = q2 by simp, hD] at h
    refine h.mono ?_
    rintro e w' ⟨v, rfl, ⟨A', c', rfl, h1, _, _⟩, h2⟩
    exact ⟨A', c', rfl, h1, h2⟩
  have hR : ∀ (W : World), Below w1.heap.size w1 W → Calls Tryd.prog 23 #[.int .i64 k, .slice A m1 c, .slice A2 m2 c2] W fun e w' => ∃ A' c', e = .returned (.slice A' D.length c') ∧ SlV w' w'.heap.size A' D.length c' (D.map W8) ∧ Below W.heap.size W w' := fun W hW => by
    have h := rhmacK_any W k b0 A m1 c q1 (ht1.below (hW.mono hb0w)) hz (Nat.le_trans hb0w hW.size) (by omega) A2 m2 c2 q2 (ht2.below (hW.mono hb0w)) hz2 (by omega)
    rw [hD] at h
    refine h.mono ?_
    rintro e w' ⟨v, rfl, ⟨A', c', rfl, h1, _, _⟩, h2⟩
    exact ⟨A', c', rfl, h1, h2⟩
  have HP := Lib.hid hP
  have HR := Lib.hid hR
  have e1 := fun (w : World) (t : TypeId) (x y : Operand) (a b : List (BitVec 8)) => eqGuard_str (P := Tryd.prog) w .eql t x y a b
  have e2 : ∀ w', (binOp .eql 9 (strV D) (strV D)).run Tryd.prog w' = .ok (.bool true) w' := fun w' => by
    rw [eql_str w' _ D D, decide_eq_true rfl]
  have bd : Below w1.heap.size w1 w1.drew := (Below.refl _ w1).drew
  have ba : ∀ (W : World) (o : Obj), Below w1.heap.size w1 W → Below w1.heap.size w1 (W.alloc o) := fun W o h => h.alloc h.size o
  have bdr : ∀ (W : World), Below w1.heap.size w1 W → Below w1.heap.size w1 W.drew := fun W h => h.drew
  clear hP hR hb1 hs1 hs21 hG1 sh1 sh2 ht1 ht2 hm1 hm2 hq1 hq2 hD hl2
  go_wp2_with fail
  refine SH1.out.mono ?_
  rintro e w' ⟨rfl, rfl⟩
  go_wp2_with fail
  refine SH2.out.mono ?_
  rintro e w' ⟨rfl, rfl⟩
  go_wp2_with fail
  rw [shut_conv (some 20), shut_conv (some 25)]
  have r0 : RowV 22 (w1.alloc (.cells #[.slice A2 m2 c2] 22)).drew w1.heap.size [.slice A2 m2 c2] := RowV.new w1 22 [.slice A2 m2 c2]
  have b0' := bdr _ (ba w1 (.cells #[.slice A2 m2 c2] 22) (Below.refl _ _))
  have HH := Lib.hid (HP.out _ _ b0' r0)
  have HBB := Lib.hid b0'
  clear r0 b0' bd ba bdr
  go_region_held3 (fun _ => True) (trivial)
    (first | (go_at_call 22; (with_reducible refine HH.out.mono ?_); rintro e w6 ⟨A6, c6, rfl, hs6, hb6⟩; have hb16 := HBB.out.trans (hb6.mono HBB.out.size); have cv6 := FreshV.conv hs6 (Below.refl _ _)) | (go_at_call 23; (with_reducible refine (HR.out _ hb16).mono ?_); rintro e w7 ⟨A7, c7, rfl, hs7, hb7⟩; have hb17 := hb16.trans (hb7.mono hb16.size); have cv7 := FreshV.conv hs7 (Below.refl _ _); have cv6' := FreshV.conv hs6 hb7))
  all_goals
    have HFIN := Lib.hid (HB1.out.trans (hb17.mono hb0w))
    clear hb17 hb16
    go_wp2
    go_ret
    exact ⟨rfl, HFIN.out⟩
end Go.Proofs.YtldheblkanimnaaDoor
