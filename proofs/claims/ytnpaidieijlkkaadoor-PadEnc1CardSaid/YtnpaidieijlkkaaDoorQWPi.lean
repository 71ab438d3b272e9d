/- PadInfo, walked. -/
import Derived.Test.YtnpaidieijlkkaaDoorPileJ10
import Derived.Test.YtnpaidieijlkkaaDoorQPdS
import Derived.Test.YtnpaidieijlkkaaDoorQWPd1
set_option linter.unusedVariables false
set_option linter.unusedSimpArgs false
namespace Go.Proofs.YtnpaidieijlkkaaDoor
open Go.RowKit Go.Shelf

def infoV (k : Int) (hash : List (BitVec 8)) : List (BitVec 8) := if okB k hash.length then infoL k hash else []
theorem pinfo_all (w : World) (k : Int) (B : Nat) (A : Option Addr) (n c : Nat) (hash : List (BitVec 8)) (hs : SlV w B A n c (hash.map W8)) (hz : A = none → c = 0) (hB : B ≤ w.heap.size) :
    Calls Tryd.prog 18 #[.int .i64 k, .slice A n c] w fun e w' => ∃ v, e = .returned (.tuple #[v, .bool (okB k n)]) ∧ FreshV w' w.heap.size v (infoV k hash) ∧ Below w.heap.size w w' := by
  have hl : hash.length = n := by simpa using hs.len.symm
  cases h : okB k n with
  | false =>
    refine (pinfo_no w k A n c h).mono ?_
    rintro e w' ⟨rfl, rfl⟩
    exact ⟨_, rfl, by rw [infoV, hl, h]; exact FreshV.nil_ _ _, Below.refl _ _⟩
  | true =>
    refine (pinfo_ok w k B A n c hash hs hz hB h).mono ?_
    rintro e w' ⟨v, rfl, hf, hb⟩
    exact ⟨v, rfl, by rw [infoV, hl, h]; exact hf, hb⟩
theorem rinfo_all (w : World) (k : Int) (B : Nat) (A : Option Addr) (n c : Nat) (hash : List (BitVec 8)) (hs : SlV w B A n c (hash.map W8)) (hz : A = none → c = 0) (hB : B ≤ w.heap.size) :
    Calls Tryd.prog 19 #[.int .i64 k, .slice A n c] w fun e w' => ∃ v, e = .returned (.tuple #[v, .bool (okB k n)]) ∧ FreshV w' w.heap.size v (infoV k hash) ∧ Below w.heap.size w w' := by
  have hl : hash.length = n := by simpa using hs.len.symm
  cases h : okB k n with
  | false =>
    refine (rinfo_no w k A n c h).mono ?_
    rintro e w' ⟨rfl, rfl⟩
    exact ⟨_, rfl, by rw [infoV, hl, h]; exact FreshV.nil_ _ _, Below.refl _ _⟩
  | true =>
    refine (rinfo_ok w k B A n c hash hs hz hB h).mono ?_
    rintro e w' ⟨v, rfl, hf, hb⟩
    exact ⟨v, rfl, by rw [infoV, hl, h]; exact hf, hb⟩
def sgR (n : Int) (m : Nat) : Int := if 65536 < n then 7 else if n < 11 ∨ n - 11 < m then 33 else 0
def sgL (n : Int) (msg : List (BitVec 8)) : List (BitVec 8) := if sgR n msg.length = 0 then frameW 1 (List.replicate (n.toNat - msg.length - 3) 0xff) msg else []
theorem sg_cases (n : Int) (msg : List (BitVec 8)) : (65536 < n ∧ sgR n msg.length = 7 ∧ sgL n msg = []) ∨ (n ≤ 65536 ∧ (n < 11 ∨ n - 11 < msg.length) ∧ sgR n msg.length = 33 ∧ sgL n msg = []) ∨ (∃ N : Nat, n = N ∧ N ≤ 65536 ∧ msg.length + 11 ≤ N ∧ sgR n msg.length = 0 ∧ sgL n msg = frameW 1 (List.replicate (N - msg.length - 3) 0xff) msg) := by
  by_cases h1 : 65536 < n
  · have e : sgR n msg.length = 7 := by rw [sgR, if_pos h1]
    exact .inl ⟨h1, e, by rw [sgL, e, if_neg (by decide)]⟩
  · by_cases h2 : n < 11 ∨ n - 11 < msg.length
    · have e : sgR n msg.length = 33 := by rw [sgR, if_neg h1, if_pos h2]
      exact .inr (.inl ⟨by omega, h2, e, by rw [sgL, e, if_neg (by decide)]⟩)
    · have e : sgR n msg.length = 0 := by rw [sgR, if_neg h1, if_neg h2]
      refine .inr (.inr ⟨n.toNat, by omega, by omega, by omega, e, by rw [sgL, e, if_pos rfl]⟩)
theorem psign1_all (w : World) (n : Int) (h0 : -9223372036854775808 ≤ n) (B : Nat) (A : Option Addr) (m c : Nat) (msg : List (BitVec 8)) (hs : SlV w B A m c (msg.map W8)) (hB : B ≤ w.heap.size) :
    Calls Tryd.prog 20 #[.int .i64 n, .slice A m c] w fun e w' => ∃ v, e = .returned (.tuple #[v, .int .i64 (sgR n msg.length)]) ∧ FreshV w' w.heap.size v (sgL n msg) ∧ Below w.heap.size w w' := by
  have hl : msg.length = m := by simpa using hs.len.symm
  rcases sg_cases n msg with ⟨h1, e1, e2⟩ | ⟨h1, h2, e1, e2⟩ | ⟨N, rfl, h1, h2, e1, e2⟩
  · rw [e1, e2]
    refine (psign1_no w n A m c 7 (pframe_1 w n (W8 1) A m c h1)).mono ?_
    rintro e w' ⟨rfl, rfl⟩
    exact ⟨_, rfl, FreshV.nil_ _ _, Below.refl _ _⟩
  · rw [e1, e2]
    refine (psign1_no w n A m c 33 (pframe_2 w n (W8 1) A m c h0 h1 (by rw [← hl]; exact h2))).mono ?_
    rintro e w' ⟨rfl, rfl⟩
    exact ⟨_, rfl, FreshV.nil_ _ _, Below.refl _ _⟩
  · rw [e1, e2, hl]
    refine (psign1_ok w N h1 B A m c msg hs hB (by omega)).mono ?_
    rintro e w' ⟨v, rfl, hf, hb⟩
    exact ⟨v, rfl, hf, hb⟩
theorem rsign1_all (w : World) (n : Int) (h0 : -9223372036854775808 ≤ n) (B : Nat) (A : Option Addr) (m c : Nat) (msg : List (BitVec 8)) (hs : SlV w B A m c (msg.map W8)) (hz : A = none → c = 0) (hB : B ≤ w.heap.size) :
    Calls Tryd.prog 21 #[.int .i64 n, .slice A m c] w fun e w' => ∃ v, e = .returned (.tuple #[v, .int .i64 (sgR n msg.length)]) ∧ FreshV w' w.heap.size v (sgL n msg) ∧ Below w.heap.size w w' := by
  have hl : msg.length = m := by simpa using hs.len.symm
  rcases sg_cases n msg with ⟨h1, e1, e2⟩ | ⟨h1, h2, e1, e2⟩ | ⟨N, rfl, h1, h2, e1, e2⟩
  · rw [e1, e2]
    refine (rsign1_1 w n _ h1).mono ?_
    rintro e w' ⟨rfl, rfl⟩
    exact ⟨_, rfl, FreshV.nil_ _ _, Below.refl _ _⟩
  · rw [e1, e2]
    refine (rsign1_2 w n A m c h0 h1 (by rw [← hl]; exact h2)).mono ?_
    rintro e w' ⟨rfl, rfl⟩
    exact ⟨_, rfl, FreshV.nil_ _ _, Below.refl _ _⟩
  · rw [e1, e2, hl]
    refine (rsign1_ok w N h1 B A m c msg hs hz hB (by omega)).mono ?_
    rintro e w' ⟨v, rfl, hf, hb⟩
    exact ⟨v, rfl, hf, hb⟩
set_option maxRecDepth 100000 in
set_option maxHeartbeats 4000000 in
theorem pi_walk (w : World) (hGS : StartsG w) (hGR : RootsG w) (k n : Int) (h0 : -9223372036854775808 ≤ n) (h1 : n ≤ 9223372036854775807) (A : Option Addr) (m c : Nat) (bs : List (BitVec 8)) (hs : SlV w w.heap.size A m c (bs.map W8)) (hz : A = none → c = 0) :
    Calls Tryd.prog 4 #[.int .i64 k, .int .i64 n, .slice A m c] w fun e w' => e = .returned (.bool true) ∧ Below w.heap.size w w' := by
  have hbg := begun8_any w hGS hGR
  have hsz := fun V => size8_any V n h0 h1
  obtain ⟨s1, s2, _⟩ := size8_bd h0 h1
  obtain ⟨N, hN⟩ : ∃ N, size8 n = N := ⟨_, rfl⟩
  rw [hN] at hsz s1 s2
  have HBG := Lib.hid hbg
  have HSZ := Lib.hid hsz
  have HS := Lib.hid hs
  have HZ := Lib.hid hz
  clear hbg hs hz hGS hGR hsz hN h0 h1
  go_enter Tryd.func4, Tryd.ntmps4
  go_wp2_with fail
  refine HBG.out.mono ?_
  rintro e w1 ⟨rfl, hb1⟩
  have hs1 := (HS.out.below hb1).more hb1.size
  have hsh := short_any w1 _ A m c bs hs1 220 (by decide)
  have hss := short_sl (m := 220) hs1
  obtain ⟨q, hq⟩ : ∃ q, min m 220 = q := ⟨_, rfl⟩
  obtain ⟨t, ht⟩ : ∃ l, bs.take 220 = l := ⟨_, rfl⟩
  rw [hq] at hsh hss
  rw [ht] at hss
  have hd := pinfo_all w1 k _ A q c t hss HZ.out (Nat.le_refl _)
  obtain ⟨V, hV⟩ : ∃ l, infoV k t = l := ⟨_, rfl⟩
  obtain ⟨R, hR⟩ : ∃ l, okB k q = l := ⟨_, rfl⟩
  obtain ⟨V2, hV2⟩ : ∃ l, sgL N t = l := ⟨_, rfl⟩
  obtain ⟨R2, hR2⟩ : ∃ l, sgR N t.length = l := ⟨_, rfl⟩
  rw [hV, hR] at hd
  have HSH := Lib.hid hsh
  have HSS := Lib.hid hss
  have HD := Lib.hid hd
  have HV := Lib.hid (⟨hV, hR, hV2, hR2⟩ : infoV k t = V ∧ okB k q = R ∧ sgL N t = V2 ∧ sgR N t.length = R2)
  have HB1 := Lib.hid hb1
  clear hsh hss hd hV hR hV2 hR2 hb1 hs1 hq ht HBG
  go_wp2_with fail
  refine (HSZ.out _).mono ?_
  rintro e w' ⟨rfl, rfl⟩
  go_wp2_with fail
  refine HSH.out.mono ?_
  rintro e w' ⟨rfl, rfl⟩
  go_wp2_with fail
  refine HD.out.mono ?_
  rintro e w2 ⟨v2, rfl, hf2, hb2⟩
  obtain ⟨A2, n2, c2, rfl⟩ := hf2.form
  have hd := rinfo_all w2 k _ A q c t ((HSS.out.below hb2).more hb2.size) HZ.out (Nat.le_refl _)
  rw [HV.out.1, HV.out.2.1] at hd
  have HD2 := Lib.hid hd
  have HF2 := Lib.hid hf2
  have HB2 := Lib.hid (HB1.out.trans (hb2.mono HB1.out.size))
  have HSS2 := Lib.hid ((HSS.out.below hb2).more hb2.size)
  clear hd hf2 hb2 HSH HD HB1 HSS
  go_wp2_with fail
  refine HD2.out.mono ?_
  rintro e w3 ⟨v3, rfl, hf3, hb3⟩
  obtain ⟨A3, n3, c3, rfl⟩ := hf3.form
  have hd := psign1_all w3 N s1 _ A q c t ((HSS2.out.below hb3).more hb3.size) (Nat.le_refl _)
  rw [HV.out.2.2.1, HV.out.2.2.2] at hd
  have HD3 := Lib.hid hd
  have HF3 := Lib.hid hf3
  have HF23 := Lib.hid (HF2.out.up hb3)
  have HB3 := Lib.hid (HB2.out.trans (hb3.mono HB2.out.size))
  have HSS3 := Lib.hid ((HSS2.out.below hb3).more hb3.size)
  clear hd hf3 hb3 HD2 HB2 HSS2 HF2
  go_wp2_with fail
  refine HD3.out.mono ?_
  rintro e w4 ⟨v4, rfl, hf4, hb4⟩
  obtain ⟨A4, n4, c4, rfl⟩ := hf4.form
  have hd := rsign1_all w4 N s1 _ A q c t ((HSS3.out.below hb4).more hb4.size) HZ.out (Nat.le_refl _)
  rw [HV.out.2.2.1, HV.out.2.2.2] at hd
  have HD4 := Lib.hid hd
  have HF4 := Lib.hid hf4
  have HF24 := Lib.hid (HF23.out.up hb4)
  have HF34 := Lib.hid (HF3.out.up hb4)
  have HB4 := Lib.hid (HB3.out.trans (hb4.mono HB3.out.size))
  clear hd hf4 hb4 HD3 HB3 HSS3 HF23 HF3
  go_wp2_with fail
  refine HD4.out.mono ?_
  rintro e w5 ⟨v5, rfl, hf5, hb5⟩
  obtain ⟨A5, n5, c5, rfl⟩ := hf5.form
  have cv2 := (HF24.out.up hb5).cv
  have cv3 := (HF34.out.up hb5).cv
  have cv4 := (HF4.out.up hb5).cv
  have cv5 := hf5.cv
  have e1 := fun (w : World) (t : TypeId) (x y : Operand) (a b : List (BitVec 8)) => eqGuard_str (P := Tryd.prog) w .eql t x y a b
  have e2 := strEq V
  have e3 := strEq V2
  have kr : (R == R) = true := by simp
  have kr2 : (R2 == R2) = true := by simp
  have HB5 := Lib.hid (HB4.out.trans (hb5.mono HB4.out.size))
  clear hf5 hb5 HB4 HF24 HF34 HF4 HD4
  go_wp2
  go_ret
  exact ⟨rfl, HB5.out⟩
end Go.Proofs.YtnpaidieijlkkaaDoor
