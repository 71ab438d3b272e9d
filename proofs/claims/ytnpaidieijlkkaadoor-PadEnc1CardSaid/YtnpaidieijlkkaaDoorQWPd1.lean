/- PadDec1, walked. -/
import Derived.Test.YtnpaidieijlkkaaDoorPileJ10
set_option linter.unusedVariables false
set_option linter.unusedSimpArgs false
namespace Go.Proofs.YtnpaidieijlkkaaDoor
open Go.RowKit Go.Shelf

theorem FreshV.cv {w : World} {B n c : Nat} {A : Option Addr} {l : List (BitVec 8)} (h : FreshV w B (.slice A n c) l) : (convert 22 9 (.slice A n c)).run Tryd.prog w = .ok (strV l) w := conv_str h.pc.sl.1
theorem strEq (L : List (BitVec 8)) : ∀ w', (binOp .eql 9 (strV L) (strV L)).run Tryd.prog w' = .ok (.bool true) w' := fun w' => by rw [eql_str w' _ L L, decide_eq_true rfl]
set_option maxRecDepth 100000 in
set_option maxHeartbeats 4000000 in
theorem pd1_walk (w : World) (hGS : StartsG w) (hGR : RootsG w) (A : Option Addr) (n c : Nat) (bs : List (BitVec 8)) (hs : SlV w w.heap.size A n c (bs.map W8)) (hz : A = none → c = 0) :
    Calls Tryd.prog 6 #[.slice A n c] w fun e w' => e = .returned (.bool true) ∧ Below w.heap.size w w' := by
  have hbg := begun8_any w hGS hGR
  have HBG := Lib.hid hbg
  have HS := Lib.hid hs
  have HZ := Lib.hid hz
  clear hbg hs hz hGS hGR
  go_enter Tryd.func6, Tryd.ntmps6
  go_wp2_with fail
  refine HBG.out.mono ?_
  rintro e w1 ⟨rfl, hb1⟩
  have hs1 := (HS.out.below hb1).more hb1.size
  have hsh := short_any w1 _ A n c bs hs1 200 (by decide)
  have hss := short_sl (m := 200) hs1
  obtain ⟨m, hm⟩ : ∃ m, min n 200 = m := ⟨_, rfl⟩
  obtain ⟨em, hem⟩ : ∃ l, bs.take 200 = l := ⟨_, rfl⟩
  rw [hm] at hsh hss
  rw [hem] at hss
  have hd := pdec1_any w1 _ A m c em hss HZ.out (Nat.le_refl _) (by omega)
  obtain ⟨V, hV⟩ : ∃ l, dec1V em = l := ⟨_, rfl⟩
  obtain ⟨R, hR⟩ : ∃ l, dec1R em = l := ⟨_, rfl⟩
  rw [hV, hR] at hd
  have hm2 : m ≤ 200 := by omega
  have HSH := Lib.hid hsh
  have HSS := Lib.hid hss
  have HD := Lib.hid hd
  have HV := Lib.hid (⟨hV, hR⟩ : dec1V em = V ∧ dec1R em = R)
  have HB1 := Lib.hid hb1
  clear hsh hss hd hV hR hb1 hs1 hm hem HBG
  go_wp2_with fail
  refine HSH.out.mono ?_
  rintro e w' ⟨rfl, rfl⟩
  go_wp2_with fail
  refine HD.out.mono ?_
  rintro e w2 ⟨v2, rfl, hf2, hb2⟩
  obtain ⟨A2, n2, c2, rfl⟩ := hf2.form
  have hd := rdec1_any w2 _ A m c em ((HSS.out.below hb2).more hb2.size) HZ.out (Nat.le_refl _) (by omega)
  rw [HV.out.1, HV.out.2] at hd
  have HD2 := Lib.hid hd
  have HF2 := Lib.hid hf2
  have HB2 := Lib.hid (HB1.out.trans (hb2.mono HB1.out.size))
  clear hd hf2 hb2 HSH HD HB1
  go_wp2_with fail
  refine HD2.out.mono ?_
  rintro e w3 ⟨v3, rfl, hf3, hb3⟩
  obtain ⟨A3, n3, c3, rfl⟩ := hf3.form
  have cv2 := (HF2.out.up hb3).cv
  have cv3 := hf3.cv
  have e1 := fun (w : World) (t : TypeId) (x y : Operand) (a b : List (BitVec 8)) => eqGuard_str (P := Tryd.prog) w .eql t x y a b
  have e2 := strEq V
  have kr : (R == R) = true := by simp
  have HB3 := Lib.hid (HB2.out.trans (hb3.mono HB2.out.size))
  clear hf3 hb3 HB2 HF2 HD2
  go_wp2
  go_ret
  exact ⟨rfl, HB3.out⟩
end Go.Proofs.YtnpaidieijlkkaaDoor
