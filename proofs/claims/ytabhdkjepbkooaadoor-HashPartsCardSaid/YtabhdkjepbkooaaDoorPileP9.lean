/- Parts of one proof, joined: Hy, Sh, Hmgf, Sw, Pa, WPar, Tabs3. -/
import Derived.Test.YtabhdkjepbkooaaDoorPileP5
import Derived.Test.YtabhdkjepbkooaaDoorPileP8
import Derived.Lib.SlBytesConst
import Derived.OpenShut
import Derived.Test.YtabhdkjepbkooaaDoorPileP3
import Derived.Lib.LaidTab
import Derived.Stop.LaidErr

/- baileylaw3: begun, its numbers. -/
set_option linter.unusedVariables false
set_option linter.unusedSimpArgs false
namespace Go.Proofs.YtabhdkjepbkooaaDoor
open Go.RowKit Go.Shelf
attribute [local go_sem] shutOp

def abcL : List (BitVec 8) := [0x61, 0x62, 0x63]
set_option maxRecDepth 100000 in
theorem sha_abc : (sumL 3 abcL).take 4 = [0xba, 0x78, 0x16, 0xbf] := by decide +kernel
/-- the bytes of a constant -/
theorem constSl (w : World) (l : List (BitVec 8)) (hl : l.length ≤ 9223372036854775807) (a b : Nat) : SlV (w.alloc (.cells (l.map W8).toArray 5 (a, b))) (w.heap.size + 1) (some ⟨w.heap.size, 0, none⟩) l.length l.length (l.map W8) :=
  ⟨by rw [List.length_map], Nat.le_refl _, hl, fun _ => ⟨w.heap.size, 0, rfl, by omega, fun k v hv => by
    rw [Nat.zero_add, World.cell?_alloc_mark]
    simpa using hv⟩⟩
theorem newFrozen (w : World) (C : Array Value) (a b : Nat) : ∃ W, w.alloc (.cells C 5 (a, b)) = W ∧ Below w.heap.size w W ∧ W.heap.size = w.heap.size + 1 := ⟨_, rfl, (Below.refl _ w).alloc (Nat.le_refl _) _, by simp⟩
theorem convConst (w : World) (C : Array Value) (n c : Nat) : (convert 23 23 (.slice (some ⟨w.heap.size, 0, none⟩) n c)).run Tryd.prog (w.alloc (.cells C 5)) = .ok (.slice (some ⟨w.heap.size, 0, none⟩) n c) (w.alloc (.cells C 5 (C.size, C.size + 1))) := Lib.run_convert_bytes_const w 23 5 C n c Tryd.underlying23 Tryd.underlying5
theorem ofConst (w : World) (hGS : StartsG w) (hGR : RootsG w) :
    Calls Tryd.prog 19 #[.int .i64 3, .slice (some ⟨w.heap.size + 1, 0, none⟩) 1 1] ((w.alloc (.cells #[.int .u8 97, .int .u8 98, .int .u8 99] 5 (3, 4))).alloc (.cells #[.slice (some ⟨w.heap.size, 0, none⟩) 3 3] 23)) fun e w' => ∃ b, e = .returned (.slice (some ⟨b, 0, none⟩) 32 32) ∧ (convert 23 9 (.slice (some ⟨b, 0, none⟩) 32 32)).run Tryd.prog w' = .ok (strV (sumL 3 abcL)) w' ∧ Below w.heap.size w w' := by
  have hk3 : KindOk 3 := by unfold KindOk; omega
  obtain ⟨W1, e1, b1, z1⟩ := newFrozen w #[.int .u8 97, .int .u8 98, .int .u8 99] 3 4
  have hs1 : SlV W1 (w.heap.size + 1) (some ⟨w.heap.size, 0, none⟩) 3 3 (abcL.map W8) := by rw [← e1]; exact constSl w abcL (by decide) 3 4
  obtain ⟨W2, e2, r2, b2, z2⟩ := newV W1 23 [.slice (some ⟨w.heap.size, 0, none⟩) 3 3] #[.slice (some ⟨w.heap.size, 0, none⟩) 3 3] rfl
  rw [e1, e2]
  have h12 : Below w.heap.size w W2 := b1.trans (b2.mono (by omega))
  have hpv : PartsV W2 W2.heap.size (some ⟨W1.heap.size, 0, none⟩) 1 1 [abcL] := ⟨[.slice (some ⟨w.heap.size, 0, none⟩) 3 3], r2.sl (by simp), rfl, fun i v ps hv hp => by
    cases i with
    | zero => cases hv; cases hp; exact ⟨_, 3, 3, rfl, (hs1.below (b2.mono (by omega))).more (by omega), by intro h; cases h⟩
    | succ i => simp at hv⟩
  have hof := hof_any W2 3 hk3 (hGS.later h12) (hGR.later h12) W2.heap.size _ _ _ _ hpv (Nat.le_refl _) (by decide) (by decide)
  rw [List.flatten_singleton, z1] at hof
  refine hof.mono ?_
  rintro e w3 ⟨b, rfl, hbb, hrow, hb3⟩
  have hDl : (sumL 3 abcL).length = 32 := by rw [sumL_length]; rfl
  have hsl := hrow.sl (by rw [List.length_map, hDl]; decide)
  rw [List.length_map, hDl] at hsl
  exact ⟨b, rfl, conv_str hsl, h12.trans (hb3.mono h12.size)⟩
theorem convConstD (w : World) (C : Array Value) (n c : Nat) : (convert 23 23 (.slice (some ⟨w.heap.size, 0, none⟩) n c)).run Tryd.prog (w.alloc (.cells C 5)).drew = .ok (.slice (some ⟨w.heap.size, 0, none⟩) n c) (w.alloc (.cells C 5 (C.size, C.size + 1))).drew := convConst w.drew C n c
theorem ofConstD (w : World) (hGS : StartsG w) (hGR : RootsG w) :
    Calls Tryd.prog 19 #[.int .i64 3, .slice (some ⟨w.heap.size + 1, 0, none⟩) 1 1] ((w.alloc (.cells #[.int .u8 97, .int .u8 98, .int .u8 99] 5 (3, 4))).alloc (.cells #[.slice (some ⟨w.heap.size, 0, none⟩) 3 3] 23)).drew fun e w' => ∃ b, e = .returned (.slice (some ⟨b, 0, none⟩) 32 32) ∧ (convert 23 9 (.slice (some ⟨b, 0, none⟩) 32 32)).run Tryd.prog w' = .ok (strV (sumL 3 abcL)) w' ∧ Below w.heap.size w w' := by
  refine (ofConst w.drew (hGS.later (Below.refl _ w).drew) (hGR.later (Below.refl _ w).drew)).mono ?_
  rintro e w' ⟨b, he, hc, hb⟩
  exact ⟨b, he, hc, ⟨hb.os, hb.tape, hb.output, hb.size, fun i hi => hb.block i hi⟩⟩
theorem hmacNil (w : World) (hGS : StartsG w) (hGR : RootsG w) :
    Calls Tryd.prog 21 #[.int .i64 3, .slice none 0 0, .slice none 0 0] w fun e w' => ∃ b, e = .returned (.slice (some ⟨b, 0, none⟩) 32 32) ∧ Below w.heap.size w w' := by
  have hk3 : KindOk 3 := by unfold KindOk; omega
  refine (hmac_any w 3 hk3 hGS hGR w.heap.size none 0 0 [] (SlV.nil _ _ _ (by decide)) (fun _ => rfl) (Nat.le_refl _) (by decide) none 0 0 [] (PartsV.nil _ _ _ (by decide)) (by decide) (by decide)).mono ?_
  rintro e w' ⟨b, rfl, _, _, hb⟩
  exact ⟨b, rfl, hb⟩
set_option maxRecDepth 100000 in
set_option maxHeartbeats 2000000 in
theorem begun3_any (w : World) (hGS : StartsG w) (hGR : RootsG w) :
    Calls Tryd.prog 5 #[] w fun e w' => e = .returned (.bool true) ∧ Below w.heap.size w w' := by
  have hk3 : KindOk 3 := by unfold KindOk; omega
  have hnw := new_is w 3 hk3 hGS
  obtain ⟨g, hg⟩ : ∃ g, w.heap.size = g := ⟨_, rfl⟩
  rw [hg] at hnw
  have hg1 : 1 < g := by have := hGR.1; omega
  have HNW := Lib.hid hnw
  have HGS := Lib.hid hGS
  have HGR := Lib.hid hGR
  have HG := Lib.hid hg
  have HK := Lib.hid hk3
  clear hnw hGS hGR hk3
  go_enter Tryd.func5, Tryd.ntmps5
  go_wp2_with fail
  refine HNW.out.mono ?_
  rintro e w1 ⟨rfl, hh1, hb1⟩
  have hgl := hh1.lt
  have h01 : Below w.heap.size w w1 := by rw [hg]; exact hb1
  have kc := fun (w : World) (C : Array Value) (n c : Nat) => convConst w C n c
  obtain ⟨W2, e2, b2, z2⟩ := newFrozen w1 #[.int .u8 97] 1 2
  have hs2 : SlV W2 (w1.heap.size + 1) (some ⟨w1.heap.size, 0, none⟩) 1 1 ([0x61].map W8) := by rw [← e2]; exact constSl w1 [0x61] (by decide) 1 2
  have h12 : Below g w1 W2 := b2.mono (by omega)
  have hw2 := write_any W2 g 3 HK.out [] [0x61] (hh1.later b2) _ _ _ _ hs2 (by intro h; cases h) (by omega) ((HGR.out.later h01).later b2) hg1 (by decide)
  have HW2 := Lib.hid hw2
  have H01 := Lib.hid h01
  have HB2 := Lib.hid b2
  clear hw2 h01 h12 b2 hs2 hb1 hh1 z2
  go_wp2_with fail
  refine HW2.out.mono ?_
  rintro e w3 ⟨rfl, hh3, ho3⟩
  have hl3 := hh3.lt
  have hG3 : RootsG w3 := ((HGR.out.later H01.out).later HB2.out).only ho3 hg1
  obtain ⟨W4, e4, b4, z4⟩ := newFrozen w3 #[.int .u8 98, .int .u8 99] 2 3
  have hs4 : SlV W4 (w3.heap.size + 1) (some ⟨w3.heap.size, 0, none⟩) 2 2 ([0x62, 0x63].map W8) := by rw [← e4]; exact constSl w3 [0x62, 0x63] (by decide) 2 3
  have hw4 := write_any W4 g 3 HK.out _ [0x62, 0x63] (hh3.later b4) _ _ _ _ hs4 (by intro h; cases h) (by omega) (hG3.later b4) hg1 (by decide)
  have HW4 := Lib.hid hw4
  have h03 : Below w.heap.size w w3 := H01.out.trans ((HB2.out.mono H01.out.size).trans (ho3.below (by have := HG.out; omega) (by have := H01.out.size; have := HB2.out.size; omega)))
  have H03 := Lib.hid h03
  have HG3 := Lib.hid hG3
  have HB4 := Lib.hid b4
  clear hw4 hG3 b4 hs4 hh3 ho3 h03 z4 hl3
  go_wp2_with fail
  refine HW4.out.mono ?_
  rintro e w5 ⟨rfl, hh5, ho5⟩
  have hG5 : RootsG w5 := (HG3.out.later HB4.out).only ho5 hg1
  have h05 : Below w.heap.size w w5 := H03.out.trans ((HB4.out.mono H03.out.size).trans (ho5.below (by have := HG.out; omega) (by have := H03.out.size; have := HB4.out.size; omega)))
  have hsm := sum_any w5 g 3 HK.out abcL hh5 hG5 (by decide)
  have HSM := Lib.hid hsm
  have H05 := Lib.hid h05
  have HG5 := Lib.hid hG5
  clear hsm h05 hG5 hh5 ho5
  go_wp2_with fail
  refine HSM.out.mono ?_
  rintro e w6 ⟨b, rfl, hbb, hrow, hb6⟩
  have hsz3 : szN 3 = 32 := rfl
  rw [hsz3]
  obtain ⟨D, hD⟩ : ∃ D, sumL 3 abcL = D := ⟨_, rfl⟩
  have hab := sha_abc
  rw [hD] at hrow hab
  have hDl : D.length = 32 := by rw [← hD, sumL_length]; rfl
  have hsl := hrow.sl (by rw [List.length_map, hDl]; decide)
  rw [List.length_map, hDl] at hsl
  have HG6 := Lib.hid (HG5.out.later hb6)
  have HS6 := Lib.hid (HGS.out.later (H05.out.trans (hb6.mono H05.out.size)))
  have H06 := Lib.hid (H05.out.trans (hb6.mono H05.out.size))
  have HSL := Lib.hid hsl
  have HAB := Lib.hid hab
  have HD := Lib.hid hD
  have h1 : ∀ w', Below w6.heap.size w6 w' → (convert 23 9 (.slice (some ⟨b, 0, none⟩) 32 32)).run Tryd.prog w' = .ok (strV D) w' := fun w' hb => conv_str (HSL.out.below hb)
  have h2 : ∀ w', Below w6.heap.size w6 w' → (convert 23 9 (.slice (some ⟨b, 0, none⟩) 4 32)).run Tryd.prog w' = .ok (strV (D.take 4)) w' := fun w' hb => conv_str (by have := (HSL.out.below hb).take (k := 4) (by decide); rwa [← List.map_take] at this)
  have h3 : ∀ w', (binOp .eql 9 (strV (D.take 4)) (.string { data := #[186, 120, 22, 191] })).run Tryd.prog w' = .ok (.bool true) w' := fun w' => by
    rw [HAB.out]
    exact eql_str w' _ [0xba, 0x78, 0x16, 0xbf] [0xba, 0x78, 0x16, 0xbf]
  have h4 : ∀ w', (binOp .eql 9 (strV D) (strV D)).run Tryd.prog w' = .ok (.bool true) w' := fun w' => by
    rw [eql_str w' _ D D, decide_eq_true rfl]
  have q1 := fun (w : World) (t : TypeId) (x y : Operand) (a b : List (BitVec 8)) => eqGuard_str (P := Tryd.prog) w .eql t x y a b
  have q2 := fun (w : World) (t : TypeId) (x y : Operand) (a : List (BitVec 8)) (s : ByteArray) => eqGuard_strc (P := Tryd.prog) w .eql t x y a s
  have H1 := Lib.hid h1
  have H2 := Lib.hid h2
  clear h1 h2 hab hD hDl hsl hb6 hrow
  go_wp2_with fail
  have c32 := H1.out _ (Below.refl _ w6).drew
  have c4 := H2.out _ (Below.refl _ w6).drew
  have hsd : StartsG w6.drew := HS6.out.later (Below.refl _ w6).drew
  have hrd : RootsG w6.drew := HG6.out.later (Below.refl _ w6).drew
  have HOF := Lib.hid (ofConstD w6 HS6.out HG6.out)
  have kd := fun (w : World) (C : Array Value) (n c : Nat) => convConstD w C n c
  have hba : ∀ (o : Obj), Below w6.heap.size w6 (w6.alloc o).drew := fun o => ((Below.refl _ w6).alloc (Nat.le_refl _) _).drew
  have hbb2 : ∀ (o o' : Obj), Below w6.heap.size w6 ((w6.alloc o).alloc o').drew := fun o o' => (((Below.refl _ w6).alloc (Nat.le_refl _) _).alloc (by simp) _).drew
  have HD' := Lib.hid HD.out
  clear hsd hrd
  rw [shut_conv (some 27), shut_conv (some 30)]
  go_region_held3 (fun w' => (convert 23 9 (.slice (some ⟨b, 0, none⟩) 32 32)).run Tryd.prog w' = .ok (strV D) w' ∧ (convert 23 9 (.slice (some ⟨b, 0, none⟩) 4 32)).run Tryd.prog w' = .ok (strV (D.take 4)) w') (first | exact ⟨c32, c4⟩ | exact ⟨H1.out _ (by first | assumption | exact hba _ | exact hbb2 _ _), H2.out _ (by first | assumption | exact hba _ | exact hbb2 _ _)⟩)
    (first | (go_at_call 19; refine HOF.out.mono ?_; rintro e w7 ⟨b7, rfl, hcv7, hb7⟩; have hb7 : Below w6.heap.size w6 w7 := ⟨hb7.os, hb7.tape, hb7.output, hb7.size, fun i hi => hb7.block i hi⟩; rw [HD.out] at hcv7) | (go_at_call 20; refine (size_any _ 1).mono ?_; rintro e w' ⟨rfl, rfl⟩) | (go_at_call 21; refine (hmacNil _ (HS6.out.later hb7) (HG6.out.later hb7)).mono ?_; rintro e w8 ⟨b8, rfl, hb8⟩; have hb68 : Below w6.heap.size w6 w8 := hb7.trans (hb8.mono hb7.size)))
  have HB68 := Lib.hid hb68
  clear hb68 hb7 hb8 hcv7 c32 c4
  go_wp2
  go_ret
  exact ⟨rfl, H06.out.trans (HB68.out.mono H06.out.size)⟩
end Go.Proofs.YtabhdkjepbkooaaDoor

/- baileylaw3: Short; and from a row of bytes that came in to a slice that reads bytes. -/
set_option linter.unusedVariables false
set_option linter.unusedSimpArgs false
namespace Go.Proofs.YtabhdkjepbkooaaDoor
open Go.RowKit Go.Shelf

theorem short_any (w : World) (B : Nat) (A : Option Addr) (n c : Nat) (bs : List (BitVec 8)) (hs : SlV w B A n c (bs.map W8)) (m : Nat) (hm : m ≤ 1000000) :
    Calls Tryd.prog 10 #[.slice A n c, .int .i64 (m : Int)] w fun e w' => e = .returned (.slice A (min n m) c) ∧ w = w' := by
  have h1 := hs.cap
  have h2 := hs.max
  have hmI : (m : Int) ≤ 1000000 := by omega
  have hm0 : (0 : Int) ≤ m := by omega
  have hnI : (n : Int) ≤ 9223372036854775807 := by omega
  by_cases h : m < n
  · obtain ⟨b, off, v, rfl, _, _, _⟩ := hs.at_ (k := 0) (by omega)
    have hI : (m : Int) < n := by omega
    have hmc : (m : Int) ≤ c := by omega
    have hmn : min n m = m := by omega
    have HMN := Lib.hid hmn
    clear hs h hmn
    go_enter Tryd.func10, Tryd.ntmps10
    go_wp2
    go_ret
    rw [HMN.out]
    exact ⟨rfl, rfl⟩
  · have hI : (n : Int) ≤ m := by omega
    have hmn : min n m = n := by omega
    have HMN := Lib.hid hmn
    clear hs h hmn
    go_enter Tryd.func10, Tryd.ntmps10
    go_wp2
    go_ret
    rw [HMN.out]
    exact ⟨rfl, rfl⟩

/-- a byte off a number -/
def toB (z : Int) : BitVec 8 := BitVec.ofInt 8 z
theorem W8_toB {z : Int} (h : (Lit.int .u8 z).wf = true) : W8 (toB z) = .int .u8 z := by
  have hb := bounds_u8 h
  have : ((BitVec.ofInt 8 z).toNat : Int) = z := by
    rw [BitVec.toNat_ofInt]
    omega
  show Value.int .u8 ((BitVec.ofInt 8 z).toNat : Int) = _
  rw [this]
theorem slV_of_row {w : World} {a : Option Addr} {len cap : Nat} {zs : List Int}
    (h : (a = none ∧ len = 0 ∧ cap = 0 ∧ zs = []) ∨ ∃ x, a = some x ∧ len ≤ cap ∧ cap ≤ maxLen ∧ zs.length = cap ∧ (∀ i, i < zs.length → w.cell? (x.add i) = some (.int .u8 (zs.getD i 0))) ∧ ∀ n ∈ zs, (Lit.int .u8 n).wf = true) :
    ∃ bs : List (BitVec 8), SlV w w.heap.size a len cap (bs.map W8) ∧ (a = none → cap = 0) := by
  rcases h with ⟨rfl, rfl, rfl, rfl⟩ | ⟨x, rfl, hl, hm, hz, hc, hwf⟩
  · exact ⟨[], SlV.nil _ _ _ (by decide), fun _ => rfl⟩
  · refine ⟨(zs.take len).map toB, ⟨by simp; omega, hl, by simpa [maxLen] using hm, fun hne => ?_⟩, fun h => by cases h⟩
    have hlen : 0 < len := by
      rcases Nat.eq_zero_or_pos len with h | h
      · subst h; simp at hne
      · exact h
    obtain ⟨b, off, spot⟩ := x
    have h0 := hc 0 (by omega)
    have hsp : spot = none := by simpa [Addr.add] using World.cell?_spot h0
    subst hsp
    refine ⟨b, off, rfl, World.block_lt_of_cell? w _ (by simpa [Addr.add] using h0), fun k v hv => ?_⟩
    rw [List.map_map, List.getElem?_map, Option.map_eq_some_iff] at hv
    obtain ⟨z, hzk, rfl⟩ := hv
    rw [List.getElem?_take] at hzk
    split at hzk
    · rename_i hkl
      have h1 := hc k (by omega)
      rw [Addr.add_lit] at h1
      rw [h1, List.getD_eq_getElem?_getD, hzk]
      show some (Value.int .u8 z) = some (W8 (toB z))
      rw [W8_toB (hwf z (List.mem_of_getElem? hzk))]
    · cases hzk
end Go.Proofs.YtabhdkjepbkooaaDoor

/- hashes: MGF1, whole. -/
set_option linter.unusedVariables false
set_option linter.unusedSimpArgs false
namespace Go.Proofs.YtabhdkjepbkooaaDoor
open Go.RowKit Go.Shelf

def mgfL (k : Int) (seed : List (BitVec 8)) (N : Nat) : List (BitVec 8) := fillL (fun i => sumL k (seed ++ counterL i)) N
theorem szN_ok {k : Int} (h : KindOk k) : 1 ≤ szN k ∧ szN k ≤ 64 := by have := szN_le h; omega
theorem mgfL_length {k : Int} (h : KindOk k) (seed : List (BitVec 8)) (N : Nat) : (mgfL k seed N).length = N := fillL_length _ (szN k) (fun _ => sumL_length _ _) (szN_ok h).1 N
end Go.Proofs.YtabhdkjepbkooaaDoor

/- The program's and the reference's Of and HMAC, of any kind. -/
set_option linter.unusedVariables false
set_option linter.unusedSimpArgs false
namespace Go.Proofs.YtabhdkjepbkooaaDoor
open Go.RowKit Go.Shelf

/-- the hash of a message; nothing of another kind -/
def sumK (k : Int) (msg : List (BitVec 8)) : List (BitVec 8) := if 1 ≤ k ∧ k ≤ 5 then sumL k msg else []
def hmacK (k : Int) (key msg : List (BitVec 8)) : List (BitVec 8) := if 1 ≤ k ∧ k ≤ 5 then hmacL k key msg else []
theorem sumK_le (k : Int) (msg : List (BitVec 8)) : (sumK k msg).length ≤ 64 := by
  unfold sumK
  split
  · rename_i h
    rw [sumL_length]
    exact (szN_le (k := k) h).2.2
  · simp
theorem FreshV.row_ {w : World} {B b n : Nat} {l : List (BitVec 8)} (h : RowV 5 w b (l.map W8)) (hb : B ≤ b) (hl : l.length = n) (hm : n ≤ 9223372036854775807) : FreshV w B (.slice (some ⟨b, 0, none⟩) n n) l := by
  have hs := h.sl (by rw [List.length_map]; omega)
  rw [List.length_map] at hs
  subst hl
  exact ⟨_, _, rfl, hs, (by intro h; cases h), (by intro a e; injection e with e; subst e; exact hb)⟩
theorem FreshV.nil_ (w : World) (B : Nat) : FreshV w B (.slice none 0 0) [] := ⟨none, 0, rfl, SlV.nil _ _ _ (by decide), fun _ => rfl, fun a h => by cases h⟩
theorem hofK_any (w : World) (k : Int) (hG : StartsG w) (hR : RootsG w) (B : Nat) (A : Option Addr) (n c : Nat) (pss : List (List (BitVec 8))) (hs : PartsV w B A n c pss) (hB : B ≤ w.heap.size) (hn : n ≤ 17592186044416) (hlen : pss.flatten.length + 256 ≤ 17592186044416) :
    Calls Tryd.prog 19 #[.int .i64 k, .slice A n c] w fun e w' => ∃ v, e = .returned v ∧ FreshV w' w.heap.size v (sumK k pss.flatten) ∧ Below w.heap.size w w' := by
  by_cases hk : KindOk k
  · refine (hof_any w k hk hG hR B A n c pss hs hB hn hlen).mono ?_
    rintro e w' ⟨b, rfl, hb, hr, hB'⟩
    refine ⟨_, rfl, ?_, hB'⟩
    rw [sumK, if_pos (show 1 ≤ k ∧ k ≤ 5 from hk)]
    exact FreshV.row_ hr hb (sumL_length _ _) (by have := (szN_le hk).2.2; omega)
  · refine (of_no w k hk B A n c pss hs hB hn).mono ?_
    rintro e w' ⟨rfl, hB'⟩
    refine ⟨_, rfl, ?_, hB'⟩
    rw [sumK, if_neg (show ¬ (1 ≤ k ∧ k ≤ 5) from hk)]
    exact FreshV.nil_ _ _
theorem rofK_any (w : World) (k : Int) (B : Nat) (A : Option Addr) (n c : Nat) (bs : List (BitVec 8)) (hs : SlV w B A n c (bs.map W8)) (hz : A = none → c = 0) (hB : B ≤ w.heap.size) (hn : n ≤ 1000000000) :
    Calls Tryd.prog 12 #[.int .i64 k, .slice A n c] w fun e w' => ∃ v, e = .returned v ∧ FreshV w' w.heap.size v (sumK k bs) ∧ Below w.heap.size w w' := by
  by_cases hk : KindOk k
  · refine (rof_any w k hk B A n c bs hs hz hB hn).mono ?_
    rintro e w' ⟨v, rfl, hf, hB'⟩
    refine ⟨_, rfl, ?_, hB'⟩
    rw [sumK, if_pos (show 1 ≤ k ∧ k ≤ 5 from hk)]
    exact hf
  · refine (rof_no w k hk A n c).mono ?_
    rintro e w' ⟨rfl, rfl⟩
    refine ⟨_, rfl, ?_, Below.refl _ _⟩
    rw [sumK, if_neg (show ¬ (1 ≤ k ∧ k ≤ 5) from hk)]
    exact FreshV.nil_ _ _
theorem hmacK_any (w : World) (k : Int) (hGS : StartsG w) (hGR : RootsG w) (B : Nat) (A : Option Addr) (n c : Nat) (key : List (BitVec 8)) (hs : SlV w B A n c (key.map W8)) (hz : A = none → c = 0) (hB : B ≤ w.heap.size) (hn : n + 256 ≤ 17592186044416)
    (A2 : Option Addr) (n2 c2 : Nat) (pss : List (List (BitVec 8))) (hp : PartsV w B A2 n2 c2 pss) (hn2 : n2 ≤ 17592186044416) (hlen : pss.flatten.length + 512 ≤ 17592186044416) :
    Calls Tryd.prog 21 #[.int .i64 k, .slice A n c, .slice A2 n2 c2] w fun e w' => ∃ v, e = .returned v ∧ FreshV w' w.heap.size v (hmacK k key pss.flatten) ∧ Below w.heap.size w w' := by
  by_cases hk : KindOk k
  · refine (hmac_any w k hk hGS hGR B A n c key hs hz hB hn A2 n2 c2 pss hp hn2 hlen).mono ?_
    rintro e w' ⟨b, rfl, hb, hr, hB'⟩
    refine ⟨_, rfl, ?_, hB'⟩
    rw [hmacK, if_pos (show 1 ≤ k ∧ k ≤ 5 from hk)]
    exact FreshV.row_ hr hb (hmacL_length _ _ _) (by have := (szN_le hk).2.2; omega)
  · refine (hmac_no w k hk _ _).mono ?_
    rintro e w' ⟨rfl, rfl⟩
    refine ⟨_, rfl, ?_, Below.refl _ _⟩
    rw [hmacK, if_neg (show ¬ (1 ≤ k ∧ k ≤ 5) from hk)]
    exact FreshV.nil_ _ _
theorem rhmacK_any (w : World) (k : Int) (B : Nat) (A : Option Addr) (n c : Nat) (key : List (BitVec 8)) (hs : SlV w B A n c (key.map W8)) (hz : A = none → c = 0) (hB : B ≤ w.heap.size) (hn : n ≤ 1000000)
    (A2 : Option Addr) (n2 c2 : Nat) (msg : List (BitVec 8)) (hs2 : SlV w B A2 n2 c2 (msg.map W8)) (hz2 : A2 = none → c2 = 0) (hn2 : n2 ≤ 1000000) :
    Calls Tryd.prog 59 #[.int .i64 k, .slice A n c, .slice A2 n2 c2] w fun e w' => ∃ v, e = .returned v ∧ FreshV w' w.heap.size v (hmacK k key msg) ∧ Below w.heap.size w w' := by
  by_cases hk : KindOk k
  · refine (rhmac_any w k hk B A n c key hs hz hB hn A2 n2 c2 msg hs2 hz2 hn2).mono ?_
    rintro e w' ⟨v, rfl, hf, hB'⟩
    refine ⟨_, rfl, ?_, hB'⟩
    rw [hmacK, if_pos (show 1 ≤ k ∧ k ≤ 5 from hk)]
    exact hf
  · refine (rhmac_no w k hk _ _).mono ?_
    rintro e w' ⟨rfl, rfl⟩
    refine ⟨_, rfl, ?_, Below.refl _ _⟩
    rw [hmacK, if_neg (show ¬ (1 ≤ k ∧ k ≤ 5) from hk)]
    exact FreshV.nil_ _ _
theorem PartsV.single {w : World} {g B : Nat} {A1 : Option Addr} {n1 c1 : Nat} {p1 : List (BitVec 8)} (h : RowV 23 w g [.slice A1 n1 c1]) (h1 : SlV w B A1 n1 c1 (p1.map W8)) (z1 : A1 = none → c1 = 0) (hg : g < B) :
    PartsV w B (some ⟨g, 0, none⟩) 1 1 [p1] := by
  refine ⟨[.slice A1 n1 c1], ⟨rfl, by decide, by decide, fun _ => ⟨g, 0, rfl, hg, fun k v hv => by rw [Nat.zero_add]; exact h.at_ hv⟩⟩, rfl, fun i v ps hv hp => ?_⟩
  match i with
  | 0 => cases hv; cases hp; exact ⟨_, _, _, rfl, h1, z1⟩
  | i + 1 => simp at hv
/-- 'b[:m]' of Short -/
theorem short_sl {w : World} {B n c m : Nat} {A : Option Addr} {bs : List (BitVec 8)} (h : SlV w B A n c (bs.map W8)) : SlV w B A (min n m) c ((bs.take m).map W8) := by
  have hl := h.len
  rw [List.length_map] at hl
  have h2 := h.take (k := min n m) (by omega)
  rw [← List.map_take] at h2
  have e : bs.take (min n m) = bs.take m := by
    by_cases hm : n ≤ m
    · rw [List.take_of_length_le (by omega), List.take_of_length_le (by omega)]
    · rw [show min n m = m by omega]
  rwa [e] at h2
/-- a result's string, here and later -/
theorem FreshV.conv {w w' : World} {c : Nat} {A : Option Addr} {l : List (BitVec 8)} (h : SlV w w.heap.size A l.length c (l.map W8)) (hb : Below w.heap.size w w') : (convert 23 9 (.slice A l.length c)).run Tryd.prog w' = .ok (strV l) w' := conv_str (h.below hb)
end Go.Proofs.YtabhdkjepbkooaaDoor

/- append to the call's own slice of bytes, nil or not: where the result lies. -/
set_option linter.unusedVariables false
set_option linter.unusedSimpArgs false
namespace Go.Proofs.YtabhdkjepbkooaaDoor
open Go.RowKit

section
variable {P : Program} {t e : TypeId} {z : Value} {sz : Nat} {w : World} {o : Oper} {a : Act}
theorem run_appA (E : Elem P t e z sz) (ty : TypeId) (base : Nat) (v : Value) (k : Nat) (ys : List Value) (hown : w.ownsRow base e 1 v k ys) (A : Option Addr) (m c : Nat) (xs : List Value) (hnil : A = none → c = 0) (B : Nat) (hsl : SlV w B A m c xs) (h1 : Ones xs)
    (hk : k + m ≤ 17592186044416) (hbase : base ≤ w.heap.size) :
    ∃ v' w', (Builtin.append_ #[t, t] ty #[v, .slice A m c]).run P w = .ok v' w' ∧ w'.ownsRow base e 1 v' (k + m) (ys ++ xs) ∧ w.grownBy w' v.ownBlock ∧ (∀ r, v'.ownBlock = some r → v.ownBlock = some r ∨ w.heap.size ≤ r) := by
  obtain ⟨i0, hi, hz0, hz1, hz2⟩ := info_parts E.info
  have hm : m = xs.length := hsl.len
  cases A with
  | none =>
    have hm0 : xs = [] := by
      apply Classical.byContradiction
      intro hn
      obtain ⟨b, off, e, _⟩ := hsl.2.2.2 hn
      cases e
    subst hm0
    obtain rfl : m = 0 := hm
    obtain rfl := hnil rfl
    exact ⟨v, w, run_append_owned_none (P := P) (w := w) base t ty e i0 1 E.sl hi v k ys hown, by simpa using hown, ⟨rfl, rfl, rfl, Nat.le_refl _, fun _ _ _ => rfl⟩, fun r hr => .inl hr⟩
  | some ad =>
    have hc : ∀ j u, xs[j]? = some u → w.cell? (ad.add j) = some u := fun j u hu => by
      obtain ⟨b, off, e, _, hc⟩ := hsl.2.2.2 (by intro e; subst e; simp at hu)
      injection e with e
      subst e
      rw [Addr.add_lit]
      exact hc j u hu
    have hb : (k + m) * sz ≤ 140737488355328 := Nat.le_trans (Nat.mul_le_mul hk E.b8) (by decide)
    have h63 : k + m ≤ maxLen := by simp only [maxLen]; omega
    rcases hown.2 with ⟨e0, e1⟩ | ⟨g0, cap0, cur, e0, hbg, hg, hnc, hcm, hcs, htake⟩
    · have hown' : w.ownsRow w.heap.size e 1 v k ys := ⟨hown.1, .inl ⟨e0, e1⟩⟩
      obtain ⟨v', w', hr, h2, h3, _⟩ := run_append_own (P := P) w w.heap.size t ty e i0 z 1 sz E.sl hi hz0 hz1 hz2 (by rw [E.one]; rfl) (by decide) v k ys hown' ad m c xs (by omega) hc h1 h63 hb (Nat.le_refl _)
      exact ⟨v', w', hr, ⟨h2.1, h2.2.imp id (fun ⟨g, cap, cur, h1, h2, h3⟩ => ⟨g, cap, cur, h1, Nat.le_trans hbase h2, h3⟩)⟩, h3, fun r hr => .inr (h2.lt r hr).1⟩
    · have hown2 : w.ownsRow base e i0.size v k ys := by rw [hz1]; exact hown
      obtain ⟨v', w', hr, h2, h3, _⟩ := run_append_own (P := P) w base t ty e i0 z 1 sz E.sl hi hz0 hz1 hz2 (by rw [E.one]; rfl) (by decide) v k ys hown ad m c xs (by omega) hc h1 h63 hb hbase
      refine ⟨v', w', hr, h2, h3, fun r hr' => ?_⟩
      subst e0
      by_cases hroom : k + m ≤ cap0
      · have hfit : k * i0.size + xs.length ≤ cur.size := by rw [hcs, hz1]; omega
        have hr2 := run_append_room (P := P) w t ty e i0 E.sl hi g0 k cap0 cur hg ad m c xs (by rw [hz1]; omega) hc h1 hroom hfit
        rw [hr] at hr2
        injection hr2 with hr2 _
        rw [hr2] at hr'
        exact .inl hr'
      · have holds : ∀ j u, ys[j]? = some u → w.cell? ((⟨g0, 0, none⟩ : Addr).add j) = some u := hown2.cells (g := g0) rfl
        have hr2 := run_append_grow (P := P) w t ty e i0 z E.sl hi hz0 ⟨g0, 0, none⟩ k cap0 ys hown2.1 holds ad m c xs (by rw [hz1]; omega) hc (by omega) (by omega) (growslice_fits (by omega) (by rw [hz2]; exact hb))
        rw [hr] at hr2
        injection hr2 with hr2 _
        rw [hr2] at hr'
        have hr3 : some w.heap.size = some r := hr'
        injection hr3 with hr3
        exact .inr (by omega)
theorem wp_appA {K : Act → World → Prop} {Q : Exit → Act → World → Prop} (E : Elem P t e z sz) (s x : Operand)
    (ho : o.op = .call { callee := .builtin .append, args := #[s, x], argTypes := #[t, t] })
    (base : Nat) (v : Value) (k : Nat) (ys : List Value) (hs : a.eval s = v) (hown : w.ownsRow base e 1 v k ys) (A : Option Addr) (m c : Nat) (xs : List Value) (hx : a.eval x = .slice A m c) (hnil : A = none → c = 0) (B : Nat) (hsl : SlV w B A m c xs) (h1 : Ones xs)
    (hk : k + m ≤ 17592186044416) (hbase : base ≤ w.heap.size)
    (h : ∀ v' w', w'.ownsRow base e 1 v' (k + m) (ys ++ xs) → w.grownBy w' v.ownBlock → (∀ r, v'.ownBlock = some r → v.ownBlock = some r ∨ w.heap.size ≤ r) → K (a.put o.dst v') w') : Oper.wp P o a w K Q := by
  obtain ⟨v', w', hr, h2, h3, h4⟩ := run_appA E o.type base v k ys hown A m c xs hnil B hsl h1 hk hbase
  unfold Oper.wp execOp
  simp only [ho, resolve, invoke, builtin, Sem.run_bind, Sem.run_pure, Result.andThen_ok, List.map_toArray, List.map_cons, List.map_nil, hs, hx, hr]
  exact h v' w' h2 h3 h4
theorem wlv_appA {ops : Array Oper} {rest : List Oper} {Q : Exit → Act → World → Prop} (E : Elem P t e z sz) (hgd : o.guard = none) (s x : Operand)
    (ho : o.op = .call { callee := .builtin .append, args := #[s, x], argTypes := #[t, t] })
    (base : Nat) (v : Value) (k : Nat) (ys : List Value) (hs : a.eval s = v) (hown : w.ownsRow base e 1 v k ys) (A : Option Addr) (m c : Nat) (xs : List Value) (hx : a.eval x = .slice A m c) (hnil : A = none → c = 0) (B : Nat) (hsl : SlV w B A m c xs) (h1 : Ones xs)
    (hk : k + m ≤ 17592186044416) (hbase : base ≤ w.heap.size)
    (h : ∀ v' w', w'.ownsRow base e 1 v' (k + m) (ys ++ xs) → w.grownBy w' v.ownBlock → (∀ r, v'.ownBlock = some r → v.ownBlock = some r ∨ w.heap.size ≤ r) → wpList P ops Q rest (a.put o.dst v') w') : wpList P ops Q (o :: rest) a w :=
  wpList_plain hgd fun K hK => wp_appA E s x ho base v k ys hs hown A m c xs hx hnil B hsl h1 hk hbase fun v' w' h2 h3 h4 => hK _ _ (h v' w' h2 h3 h4)
end
/-- at a step of a region that draws, under a guard that is open -/
theorem step_appA {P : Program} {t e : TypeId} {z : Value} {sz : Nat} {w : World} {o : Oper} {a : Act} {ops : Array Oper} {E0 : Prop} {K : Act → World → Prop} {Q : Exit → Act → World → Prop} (E : Elem P t e z sz) (hgd : Region.wanted o (yielded ops a.tmps) = true) (s x : Operand)
    (ho : o.op = .call { callee := .builtin .append, args := #[s, x], argTypes := #[t, t] })
    (base : Nat) (v : Value) (k : Nat) (ys : List Value) (hs : a.eval s = v) (hown : w.ownsRow base e 1 v k ys) (A : Option Addr) (m c : Nat) (xs : List Value) (hx : a.eval x = .slice A m c) (hnil : A = none → c = 0) (B : Nat) (hsl : SlV w B A m c xs) (h1 : Ones xs)
    (hk : k + m ≤ 17592186044416) (hbase : base ≤ w.heap.size)
    (h : ∀ v' w', w'.ownsRow base e 1 v' (k + m) (ys ++ xs) → w.grownBy w' v.ownBlock → (∀ r, v'.ownBlock = some r → v.ownBlock = some r ∨ w.heap.size ≤ r) → K (a.put o.dst v') w') :
    if Region.wanted o (yielded ops a.tmps) = true then Oper.wp P o a w K Q else E0 := by
  rw [if_pos hgd]
  exact wp_appA E s x ho base v k ys hs hown A m c xs hx hnil B hsl h1 hk hbase h
/-- the call's own bytes, as a block of their own -/
theorem own_rowV {w : World} {base : Nat} {e : TypeId} {v : Value} {n : Nat} {xs : List Value} (h : w.ownsRow base e 1 v n xs) (hn : 0 < n) :
    ∃ g c ys, v = .slice (some ⟨g, 0, none⟩) n c ∧ base ≤ g ∧ RowV e w g ys ∧ ys.length = c ∧ n ≤ c := by
  rcases h.2 with ⟨e0, h4⟩ | ⟨g, cap, cur, e0, h4, hg, hnc, _, hcs, _⟩
  · have := h.1; subst h4; simp at this; omega
  · exact ⟨g, cap, cur.toList, e0, h4, by unfold RowV; rw [hg], by simpa using hcs, hnc⟩
theorem own_only {w w' : World} {base g : Nat} {e : TypeId} {v : Value} {n : Nat} {xs : List Value} (h : w.ownsRow base e 1 v n xs) (ho : OnlyV w w' g) (hn : v.ownBlock ≠ some g) : w'.ownsRow base e 1 v n xs :=
  own_keep h fun q hq => ho.block q (h.lt q hq).2 (fun e => hn (by rw [hq, e]))
theorem OnlyV.setV {a w : World} {g : Nat} (h : OnlyV a w g) (i : Nat) (u : Value) : OnlyV a (w.setCell ⟨g, i, none⟩ u) g := h.set i u
theorem own_all {w : World} {base : Nat} {e : TypeId} {v : Value} {n : Nat} {xs : List Value} (h : w.ownsRow base e 1 v n xs) :
    ∃ A c, v = .slice A n c ∧ SlV w w.heap.size A n c xs ∧ (A = none → c = 0) := by
  obtain ⟨A, c, rfl, hs, h2, h3⟩ := SlV.of_own h
  refine ⟨A, c, rfl, hs, fun e => ?_⟩
  subst e
  rcases h.2 with ⟨e0, _⟩ | ⟨g, cap, cur, e0, _⟩
  · injection e0
  · injection e0 with e1 _ _
    cases e1
theorem own_sl {w : World} {base : Nat} {e : TypeId} {A : Option Addr} {n c : Nat} {xs : List Value} (h : w.ownsRow base e 1 (.slice A n c) n xs) : SlV w w.heap.size A n c xs := by
  obtain ⟨A', c', e0, hs, _⟩ := SlV.of_own h
  injection e0 with e1 e2 e3
  subst e1 e3
  exact hs
theorem own_later_ {w w' : World} {base : Nat} {e : TypeId} {v : Value} {n : Nat} {vs : List Value} (h : w.ownsRow base e 1 v n vs) (hb : Below w.heap.size w w') : w'.ownsRow base e 1 v n vs := own_keep h (fun q hq => hb.block q (h.lt q hq).2)
theorem HashIs.keep {w w' : World} {g : Nat} {k : Int} {msg : List (BitVec 8)} (h : HashIs w g k msg) (hk : w'.heap[g]? = w.heap[g]?) : HashIs w' g k msg := by
  obtain ⟨left, h1, h2⟩ := h
  exact ⟨left, ⟨hk.trans h1.row, h1.hw, h1.hl⟩, h2⟩
/-- a block of the call's own bytes, or a number that nothing bears -/
theorem own_place {w : World} {bp n c : Nat} {A : Option Addr} {e : TypeId} {xs : List Value} (h : w.ownsRow bp e 1 (.slice A n c) n xs) (lo : Nat) (hlo : lo ≤ bp) (hw : lo ≤ w.heap.size) :
    ∃ gp, lo ≤ gp ∧ (∀ r, r < w.heap.size → (Value.slice A n c).ownBlock ≠ some r → r ≠ gp) ∧ (0 < n → A = some ⟨gp, 0, none⟩ ∧ ∃ ys, RowV e w gp ys ∧ ys.length = c ∧ n ≤ c) := by
  by_cases hn : n = 0
  · exact ⟨w.heap.size, hw, fun r hr _ => by omega, fun h => by omega⟩
  · obtain ⟨g, c', ys, e0, hb, hr, hl, hle⟩ := own_rowV h (by omega)
    injection e0 with e1 e2 e3
    subst e1 e3
    exact ⟨g, by omega, fun r _ hne e => hne (by rw [e]; rfl), fun _ => ⟨rfl, ys, hr, hl, hle⟩⟩
end Go.Proofs.YtabhdkjepbkooaaDoor

/- HashParts, walked. -/
set_option linter.unusedVariables false
set_option linter.unusedSimpArgs false
namespace Go.Proofs.YtabhdkjepbkooaaDoor
open Go.RowKit Go.Shelf
attribute [local go_sem] shutOp

set_option maxRecDepth 100000 in
set_option maxHeartbeats 8000000 in
theorem hparts_walk (w : World) (hGS : StartsG w) (hGR : RootsG w) (k : Int) (PA : Option Addr) (pn pc : Nat) (pss : List (List (BitVec 8))) (hP : PartsV w w.heap.size PA pn pc pss) (MA : Option Addr) (mn mc : Nat) (ms : List (BitVec 8)) (hM : SlV w w.heap.size MA mn mc (ms.map W8)) (hMz : MA = none → mc = 0) :
    Calls Tryd.prog 3 #[.int .i64 k, .slice PA pn pc, .slice MA mn mc] w fun e w' => e = .returned (.bool true) ∧ Below w.heap.size w w' := by
  obtain ⟨b0, hb0⟩ : ∃ b, w.heap.size = b := ⟨_, rfl⟩
  have hbg := begun3_any w hGS hGR
  have hb1 : 1 < b0 := by have := hGR.1; omega
  rw [hb0] at hbg hP hM ⊢
  obtain ⟨pvs, hps, hpl, hpe⟩ := hP
  have hpn : pn = pss.length := by rw [← hpl]; exact hps.len
  have hpnI : (pn : Int) ≤ 9223372036854775807 := by have := hps.cap; have := hps.max; omega
  have hmnI : (mn : Int) ≤ 9223372036854775807 := by have := hM.cap; have := hM.max; omega
  have HBG := Lib.hid hbg
  have HG := Lib.hid (⟨hGS, hGR⟩ : StartsG w ∧ RootsG w)
  have HB0 := Lib.hid hb0
  have HPS := Lib.hid hps
  have HPE := Lib.hid hpe
  have HPN := Lib.hid hpn
  have HM := Lib.hid hM
  have HMZ := Lib.hid hMz
  have hgl : ∀ V, Below b0 w V → StartsG V ∧ RootsG V := fun V h => by
    rw [← hb0] at h
    exact ⟨hGS.later h, hGR.later h⟩
  have HGL := Lib.hid hgl
  clear hbg hGS hGR hb0 hps hpe hpl hpn hM hMz hgl
  by_cases hk : KindOk k
  · have HK := Lib.hid hk
    obtain ⟨sz, hsz⟩ : ∃ s, sizeV k = s := ⟨_, rfl⟩
    have hszp : 0 < sz := by rw [← hsz]; exact sizeV_pos hk
    have hsz0 : (sz == 0) = false := by simp; omega
    have hrs := fun W => rsize_any W k
    simp only [hsz] at hrs
    have HRS := Lib.hid hrs
    clear hrs hsz hk
    go_enter Tryd.func3, Tryd.ntmps3
    go_wp2_with fail
    refine HBG.out.mono ?_
    rintro e w1 ⟨rfl, hB1⟩
    obtain ⟨g, hg⟩ : ∃ g, w1.heap.size = g := ⟨_, rfl⟩
    have hnw := new_is w1 k HK.out (HGL.out _ hB1).1
    rw [hg] at hnw
    have hgb : b0 ≤ g := by have := hB1.size; have := HB0.out; omega
    have HNW := Lib.hid hnw
    have HB1 := Lib.hid hB1
    have HGG := Lib.hid hg
    clear hnw hB1 hg
    go_wp2_with fail
    refine HNW.out.mono ?_
    rintro e w2 ⟨rfl, hh2, hb2⟩
    have hg2 := hh2.lt
    have HB2 := Lib.hid (HB1.out.trans (hb2.mono hgb))
    have HH2 := Lib.hid hh2
    clear hh2 hb2 HNW
    go_wp2_with fail
    refine (HRS.out _).mono ?_
    rintro e w' ⟨rfl, rfl⟩
    go_wp2
    go_loopw [9, 10] (fun av iv W => ∃ (i n : Nat) (A : Option Addr) (c : Nat) (bs : List (BitVec 8)), av = .slice A n c ∧ iv = .int .i64 (i : Int) ∧ i ≤ 12 ∧ n ≤ 100 * i ∧ Hid (W.ownsRow (g + 1) 5 1 (.slice A n c) n (bs.map W8)) ∧ Hid (HashIs W g k bs) ∧ Hid (Below b0 w W)) (fun _ iv _ => 12 - (intOf iv).toNat)
    case atStart => exact ⟨0, 0, none, 0, [], rfl, rfl, by omega, by omega, Lib.hid ⟨rfl, .inl ⟨rfl, rfl⟩⟩, HH2, HB2⟩
    case round =>
      obtain ⟨i, n, A, c, bs, rfl, rfl, hi12, hn, HOWN, HH, HBW⟩ := hrel
      obtain ⟨W, rfl⟩ : ∃ V, V = wr := ⟨_, rfl⟩
      have ki0 : (0 : Int) ≤ i := by omega
      have kib : (i : Int) ≤ 12 := by omega
      have hgW := HH.out.lt
      have hnbs : n = bs.length := by have := HOWN.out.1; simpa using this.symm
      have HNB := Lib.hid hnbs
      clear hnbs
      by_cases h12 : i < pn ∧ i < 12
      · have h1 := h12.1
        have k1 : (i : Int) < pn := by omega
        have k2 : (i : Int) < 12 := by omega
        obtain ⟨pb, po, pv, hPA, hpb, hpv, hpcell⟩ := HPS.out.at_ h1
        subst hPA
        obtain ⟨ps, hps⟩ : ∃ x, pss[i]'(by have := HPN.out; omega) = x := ⟨_, rfl⟩
        have hps2 : pss[i]? = some ps := by rw [← hps]; exact List.getElem?_eq_getElem _
        obtain ⟨Ai, ni, ci, rfl, hsi, hzi⟩ := HPE.out i pv ps hpv hps2
        have hcell : W.cell? ⟨pb, po + i, none⟩ = some (.slice Ai ni ci) := (HBW.out.cell (p := ⟨pb, po + i, none⟩) hpb).trans hpcell
        have hsiW := hsi.below HBW.out
        have hsh := short_any W b0 Ai ni ci ps hsiW 100 (by decide)
        have hss := short_sl (m := 100) hsiW
        obtain ⟨np, hnp⟩ : ∃ x, min ni 100 = x := ⟨_, rfl⟩
        obtain ⟨qs, hqs⟩ : ∃ x, ps.take 100 = x := ⟨_, rfl⟩
        have hnp100 : np ≤ 100 := by omega
        rw [hnp] at hsh hss
        rw [hqs] at hss
        have hnq : np = qs.length := by simpa using hss.len
        have HNQ := Lib.hid hnq
        have HSH := Lib.hid hsh
        have HSS := Lib.hid hss
        have HZI := Lib.hid hzi
        have knp : (np : Int) ≤ 100 := by omega
        clear hsh hss hzi hsiW hsi hps hps2 hpv hpcell hnp hqs hnq h12 h1
        have hi12 : i < 12 := by omega
        go_wp2_with fail
        refine HSH.out.mono ?_
        rintro e w' ⟨rfl, rfl⟩
        have hgb1 : g + 1 ≤ W.heap.size := hgW
        go_wp2_with (first
          | (at_builtin; refine wlv_appA Tryd.elem8 rfl _ _ rfl W.heap.size (.slice none 0 0) 0 [] rfl ⟨rfl, .inl ⟨rfl, rfl⟩⟩ Ai np ci (qs.map W8) rfl HZI.out b0 HSS.out (ones8 qs) (by omega) (Nat.le_refl _) ?_; intro v3 w3 hown3 hgr3 _; rw [Nat.zero_add, List.nil_append] at hown3; obtain ⟨Ap, cp, rfl, hs3, hz3⟩ := own_all hown3; have hbl3 : Below W.heap.size W w3 := (Below.refl _ _).grown hgr3 (Nat.le_refl _) (fun k hk => by cases hk); have hsz3 := hbl3.size; have HO3 := Lib.hid hown3; have HS3 := Lib.hid hs3; have HZ3 := Lib.hid hz3; have HBL3 := Lib.hid hbl3; clear hown3 hs3 hz3 hbl3 hgr3)
          | (at_builtin; refine wlv_appA Tryd.elem8 rfl _ _ rfl (g + 1) (.slice A n c) n (bs.map W8) rfl (own_later_ HOWN.out HBL3.out) Ap np cp (qs.map W8) rfl HZ3.out w3.heap.size HS3.out (ones8 qs) (by omega) (by omega) ?_; intro v4 w4 hown4 hgr4 hpl4; obtain ⟨A4, c4, rfl, hs4, hz4⟩ := own_all hown4; have hsz4 := hgr4.size; have HO4 := Lib.hid hown4; have HGR4 := Lib.hid hgr4; have HPL4 := Lib.hid hpl4; clear hown4 hgr4 hpl4 hs4 hz4))
        have hp4 := own_keep HO3.out (fun q hq => HGR4.out.block q (HO3.out.lt q hq).2 (fun e => by have h1 := (HOWN.out.lt q e.symm).2; have h2 := (HO3.out.lt q hq).1; omega))
        have hbel3 : Below b0 w w3 := HBW.out.trans (HBL3.out.mono (by omega))
        have hbel4 : Below b0 w w4 := hbel3.grown HGR4.out (by omega) (fun r hr => by have := (HOWN.out.lt r hr).1; omega)
        have hh4 : HashIs w4 g k bs := (HH.out.later HBL3.out).keep (HGR4.out.block g (by omega) (fun e => by have := (HOWN.out.lt g e.symm).1; omega))
        have hwr := write_any w4 g k HK.out bs qs hh4 w4.heap.size Ap np cp (own_sl hp4) HZ3.out (Nat.le_refl _) (HGL.out _ hbel4).2 (by omega) (by have := HNQ.out; have := HNB.out; omega)
        have HWR := Lib.hid hwr
        have HP4 := Lib.hid hp4
        have HBEL4 := Lib.hid hbel4
        clear hwr hp4 hbel4 hbel3 hh4
        go_wp2_with fail
        refine HWR.out.mono ?_
        rintro e w5 ⟨rfl, hh5, ho5⟩
        have hsz5 := ho5.size
        have hall5 := own_only HO4.out ho5 (fun e => by have := (HO4.out.lt g e).1; omega)
        rw [← List.map_append] at hall5
        have hp5 := own_only HP4.out ho5 (fun e => by have := (HP4.out.lt g e).1; omega)
        have hbel5 : Below b0 w w5 := HBEL4.out.trans (ho5.below hgb (by omega))
        obtain ⟨gp, hgp1, hgp2, hgp3⟩ := own_place hp5 W.heap.size (Nat.le_refl _) (by omega)
        have hgp4 : (Value.slice A4 (n + np) c4).ownBlock ≠ some gp := fun e => by
          refine hgp2 gp ((hall5.lt gp e).2) (fun e2 => ?_) rfl
          rcases HPL4.out gp e with h | h
          · have h3 := (HOWN.out.lt gp h).2
            have h4 := (HO3.out.lt gp e2).1
            omega
          · have h4 := (HO3.out.lt gp e2).2
            omega
        have HALL5 := Lib.hid hall5
        have HH5 := Lib.hid hh5
        have HBEL5 := Lib.hid hbel5
        have HGP3 := Lib.hid hgp3
        have HGP4 := Lib.hid hgp4
        have hgpg : g ≠ gp := by omega
        have HGPG := Lib.hid hgpg
        clear hh5 ho5 hall5 hp5 hbel5 hgp2 hgp3 hgp4 hgpg HWR
        go_wp2
        go_loopw [12] (fun jv V => ∃ j : Nat, jv = .int .i64 (j : Int) ∧ j ≤ np ∧ Hid (OnlyV w5 V gp) ∧ Hid (0 < np → ∃ ys, RowV 5 V gp ys ∧ ys.length = cp ∧ np ≤ cp)) (fun jv _ => np - (intOf jv).toNat)
        case atStart => exact ⟨0, rfl, Nat.zero_le _, Lib.hid (OnlyV.refl _ _), Lib.hid (fun h => (HGP3.out h).2)⟩
        case round =>
          obtain ⟨j, rfl, hj, HOV, HYS⟩ := hrel
          have kj0 : (0 : Int) ≤ j := by omega
          by_cases hjn : j < np
          · have kjn : (j : Int) < np := by omega
            obtain ⟨ys, hrow, hyl, hle⟩ := HYS.out (by omega)
            have hAp := (HGP3.out (by omega)).1
            subst hAp
            obtain ⟨y, hy⟩ : ∃ y, ys[j]? = some y := ⟨ys[j]'(by omega), List.getElem?_eq_getElem _⟩
            have ce : wr.cell? ⟨gp, j, none⟩ = some y := hrow.at_ hy
            have hfz := hrow.frozen j
            have hnr := hrow.set j (.int .u8 9)
            have hov := HOV.out.set j (.int .u8 9)
            have HNR := Lib.hid hnr
            have HOV2 := Lib.hid hov
            have HYL := Lib.hid (⟨hyl, hle⟩ : ys.length = cp ∧ np ≤ cp)
            clear hrow hnr hov hyl hle hy
            go_wp2
            go_round
            case rel => exact ⟨j + 1, by go_num, by omega, HOV2, Lib.hid (fun _ => ⟨_, HNR.out, by rw [List.length_set]; exact HYL.out.1, HYL.out.2⟩)⟩
            case measure => simp [intOf]; omega
          · have hj' : np = j := by omega
            subst hj'
            obtain ⟨w7, rfl⟩ : ∃ V, V = wr := ⟨_, rfl⟩
            have hsz7 := HOV.out.size
            have hall7 := own_only HALL5.out HOV.out HGP4.out
            have hh7 := HH5.out.only HOV.out HGPG.out
            have hbel7 : Below b0 w w7 := HBEL5.out.trans (HOV.out.below (by omega) (by omega))
            obtain ⟨ms2, hms2⟩ : ∃ x, bs ++ qs = x := ⟨_, rfl⟩
            have hml : n + np = ms2.length := by rw [← hms2, List.length_append, ← HNB.out, ← HNQ.out]
            rw [hms2] at hall7 hh7
            obtain ⟨nn, hnn⟩ : ∃ x, n + np = x := ⟨_, rfl⟩
            rw [hnn] at hall7 hml
            have hnn2 : nn ≤ 100 * (i + 1) := by omega
            obtain ⟨D, hD⟩ : ∃ D, sumL k ms2 = D := ⟨_, rfl⟩
            have hDl : D.length = szN k := by rw [← hD]; exact sumL_length _ _
            have hsum : ∀ V, Below w7.heap.size w7 V → Calls Tryd.prog 8 #[.pointer (some ⟨g, 0, none⟩)] V fun e w' => ∃ A' c', e = .returned (.slice A' D.length c') ∧ SlV w' w'.heap.size A' D.length c' (D.map W8) ∧ Below V.heap.size V w' := fun V hV => by
              refine (sum_any V g k HK.out ms2 (hh7.later hV) ((HGL.out _ (hbel7.trans (hV.mono (by omega)))).2) (by omega)).mono ?_
              rintro e w' ⟨b, rfl, hb, hrr, hbb⟩
              rw [hD] at hrr
              have h := hrr.sl (by rw [List.length_map, hDl]; have := (szN_le HK.out).2.2; omega)
              rw [List.length_map] at h
              rw [← hDl]
              exact ⟨_, _, rfl, h, hbb⟩
            obtain ⟨A7, c7, he7, hs7, hz7⟩ := own_all hall7
            have hro : ∀ V, Below w7.heap.size w7 V → Calls Tryd.prog 12 #[.int .i64 k, .slice A4 (n + np) c4] V fun e w' => ∃ A' c', e = .returned (.slice A' D.length c') ∧ SlV w' w'.heap.size A' D.length c' (D.map W8) ∧ Below V.heap.size V w' := fun V hV => by
              rw [hnn, he7]
              have h := rof_any V k HK.out w7.heap.size _ _ _ _ (hs7.below hV) hz7 hV.size (by omega)
              rw [hD] at h
              refine h.mono ?_
              rintro e w' ⟨v, rfl, ⟨A', c', rfl, h1, _, _⟩, h2⟩
              exact ⟨A', c', rfl, h1, h2⟩
            have HSUM := Lib.hid hsum
            have HRO := Lib.hid hro
            have HBEL7 := Lib.hid hbel7
            have HALL7 := Lib.hid hall7
            have HH7 := Lib.hid hh7
            have HNN := Lib.hid hnn
            have hbd : Below w7.heap.size w7 w7.drew := (Below.refl _ w7).drew
            have HBD := Lib.hid hbd
            have e1 := fun (w : World) (t : TypeId) (x y : Operand) (a b : List (BitVec 8)) => eqGuard_str (P := Tryd.prog) w .neq t x y a b
            have e2 : ∀ w', (binOp .neq 9 (strV D) (strV D)).run Tryd.prog w' = .ok (.bool false) w' := fun w' => by
              rw [neq_str w' _ D D, decide_eq_true rfl]; rfl
            clear hsum hro hh7 hall7 hbel7 hbd hD hDl hms2 hml hnn he7 hs7 hz7
            go_wp2_with fail
            rw [shut_conv (some 71), shut_conv (some 75)]
            go_region_held3 (fun _ => True) (trivial)
              (first | (go_at_call 8; (with_reducible refine (HSUM.out _ HBD.out).mono ?_); rintro e w8 ⟨A8, c8, rfl, hs8, hb8⟩; have hb78 := HBD.out.trans (hb8.mono HBD.out.size); have cv8 := FreshV.conv hs8 (Below.refl _ _)) | (go_at_call 12; (with_reducible refine (HRO.out _ hb78).mono ?_); rintro e w9 ⟨A9, c9, rfl, hs9, hb9⟩; have hb79 := hb78.trans (hb9.mono hb78.size); have cv9 := FreshV.conv hs9 (Below.refl _ _); have cv8' := FreshV.conv hs8 hb9))
            all_goals
              have HFIN := Lib.hid (HBEL7.out.trans (hb79.mono (by omega)))
              have HALL9 := Lib.hid (own_later_ HALL7.out hb79)
              have HH9 := Lib.hid (HH7.out.later hb79)
              clear hb79 hb78
              go_wp2
              go_roundw
              case rel => exact ⟨i + 1, n + np, A4, c4, ms2, rfl, by go_num, by omega, by omega, by rw [HNN.out]; exact HALL9, HH9, HFIN⟩
              case measure => simp [intOf]; omega
      · have hex : ¬ (i : Int) < pn ∨ ((i : Int) < pn ∧ ¬ (i : Int) < 12) := by omega
        have hcp := copy_is W g k bs HH.out
        obtain ⟨gc, hgc⟩ : ∃ x, W.heap.size = x := ⟨_, rfl⟩
        rw [hgc] at hcp
        have HCP := Lib.hid hcp
        have HGC := Lib.hid hgc
        have hggc : g < gc := by omega
        have hbc : b0 ≤ gc := by omega
        clear hcp hgc h12
        rcases hex with k1 | ⟨k1, k2⟩
        all_goals
          go_wp2_with fail
          refine HCP.out.mono ?_
          rintro e w8 ⟨rfl, hh8, hb8⟩
          have hb8' : Below W.heap.size W w8 := by rw [HGC.out]; exact hb8
          have hsz8 : gc ≤ w8.heap.size := by have := hb8'.size; have := HGC.out; omega
          have hbel8 : Below b0 w w8 := HBW.out.trans (hb8.mono hbc)
          have hM8 := HM.out.below hbel8
          have hsh := short_any w8 b0 MA mn mc ms hM8 50 (by decide)
          have hss := short_sl (m := 50) hM8
          obtain ⟨nm, hnm⟩ : ∃ x, min mn 50 = x := ⟨_, rfl⟩
          obtain ⟨qs, hqs⟩ : ∃ x, ms.take 50 = x := ⟨_, rfl⟩
          have hnm50 : nm ≤ 50 := by omega
          have HNM := Lib.hid hnm
          rw [hnm] at hsh hss
          rw [hqs] at hss
          have hnq : nm = qs.length := by simpa using hss.len
          have hshl : ∀ V, Below w8.heap.size w8 V → Calls Tryd.prog 10 #[.slice MA mn mc, .int .i64 ((50 : Nat) : Int)] V fun e w' => e = .returned (.slice MA nm mc) ∧ V = w' := fun V hV => by
            have h := short_any V b0 MA mn mc ms (hM8.below (hV.mono (by omega))) 50 (by decide)
            rw [hnm] at h
            exact h
          have hlen2 : bs.length + qs.length ≤ 17592186044416 := by have := HNB.out; omega
          have hwr := write_any w8 gc k HK.out bs qs hh8 b0 MA nm mc hss HMZ.out (by omega) (HGL.out _ hbel8).2 (by omega) hlen2
          have hall8 := own_later_ HOWN.out hb8'
          have hh8g := HH.out.later hb8'
          have HSHL := Lib.hid hshl
          have HSH := Lib.hid hsh
          have HSS := Lib.hid hss
          have HWR := Lib.hid hwr
          have HALL8 := Lib.hid hall8
          have HH8G := Lib.hid hh8g
          have HBEL8 := Lib.hid hbel8
          have HNQ := Lib.hid hnq
          clear hshl hsh hss hwr hall8 hh8g hbel8 hM8 hh8 hb8 hb8' hnm hqs hnq HCP
          go_wp2_with fail
          refine HSH.out.mono ?_
          rintro e w' ⟨rfl, rfl⟩
          go_wp2_with fail
          refine HWR.out.mono ?_
          rintro e w9 ⟨rfl, hh9, ho9⟩
          have hsz9 := ho9.size
          have hall9 := own_only HALL8.out ho9 (fun e => by have := (HOWN.out.lt gc e).2; have := HGC.out; omega)
          have hh9g := HH8G.out.only ho9 (by omega)
          have hbel9 : Below b0 w w9 := HBEL8.out.trans (ho9.below hbc (by omega))
          have hss9 : SlV w9 b0 MA nm mc (qs.map W8) := HSS.out.below (ho9.below hbc (by omega))
          have h89 : Below gc w8 w9 := ho9.below (Nat.le_refl _) hsz8
          obtain ⟨ms2, hms2⟩ : ∃ x, bs ++ qs = x := ⟨_, rfl⟩
          have hml : n + nm = ms2.length := by rw [← hms2, List.length_append, ← HNB.out, ← HNQ.out]
          rw [hms2] at hh9
          obtain ⟨D, hD⟩ : ∃ D, sumL k bs = D := ⟨_, rfl⟩
          have hDl : D.length = szN k := by rw [← hD]; exact sumL_length _ _
          obtain ⟨D2, hD2⟩ : ∃ D, sumL k ms2 = D := ⟨_, rfl⟩
          have hD2l : D2.length = szN k := by rw [← hD2]; exact sumL_length _ _
          have hsum : ∀ V, Below w9.heap.size w9 V → Calls Tryd.prog 8 #[.pointer (some ⟨g, 0, none⟩)] V fun e w' => ∃ A' c', e = .returned (.slice A' D.length c') ∧ SlV w' w'.heap.size A' D.length c' (D.map W8) ∧ Below V.heap.size V w' := fun V hV => by
            refine (sum_any V g k HK.out bs (hh9g.later hV) ((HGL.out _ (hbel9.trans (hV.mono (by omega)))).2) (by have := HNB.out; omega)).mono ?_
            rintro e w' ⟨b, rfl, hb, hrr, hbb⟩
            rw [hD] at hrr
            have h := hrr.sl (by rw [List.length_map, hDl]; have := (szN_le HK.out).2.2; omega)
            rw [List.length_map] at h
            rw [← hDl]
            exact ⟨_, _, rfl, h, hbb⟩
          have hsumc : ∀ V, Below w9.heap.size w9 V → Calls Tryd.prog 8 #[.pointer (some ⟨gc, 0, none⟩)] V fun e w' => ∃ b, e = .returned (.slice (some ⟨b, 0, none⟩) D2.length D2.length) ∧ V.heap.size ≤ b ∧ RowV 5 w' b (D2.map W8) ∧ Below V.heap.size V w' := fun V hV => by
            refine (sum_any V gc k HK.out ms2 (hh9.later hV) ((HGL.out _ (hbel9.trans (hV.mono (by omega)))).2) (by have := HNB.out; omega)).mono ?_
            rintro e w' ⟨b, rfl, hb, hrr, hbb⟩
            rw [hD2] at hrr
            rw [← hD2l]
            exact ⟨b, rfl, hb, hrr, hbb⟩
          have hro : ∀ V, Below w9.heap.size w9 V → Calls Tryd.prog 12 #[.int .i64 k, .slice A n c] V fun e w' => ∃ A' c', e = .returned (.slice A' D.length c') ∧ SlV w' w'.heap.size A' D.length c' (D.map W8) ∧ Below V.heap.size V w' := fun V hV => by
            obtain ⟨A7, c7, he7, hs7, hz7⟩ := own_all hall9
            rw [he7]
            have h := rof_any V k HK.out w9.heap.size _ _ _ _ (hs7.below hV) hz7 hV.size (by omega)
            rw [hD] at h
            refine h.mono ?_
            rintro e w' ⟨v, rfl, ⟨A', c', rfl, h1, _, _⟩, h2⟩
            exact ⟨A', c', rfl, h1, h2⟩
          have hro2 : ∀ (V : World) A' c', SlV V V.heap.size A' (n + nm) c' (ms2.map W8) → (A' = none → c' = 0) → Calls Tryd.prog 12 #[.int .i64 k, .slice A' (n + nm) c'] V fun e w' => ∃ A' c', e = .returned (.slice A' D2.length c') ∧ SlV w' w'.heap.size A' D2.length c' (D2.map W8) ∧ Below V.heap.size V w' := fun V A' c' hsl hzl => by
            have h := rof_any V k HK.out V.heap.size _ _ _ _ hsl hzl (Nat.le_refl _) (by omega)
            rw [hD2] at h
            refine h.mono ?_
            rintro e w' ⟨v, rfl, ⟨A', c', rfl, h1, _, _⟩, h2⟩
            exact ⟨A', c', rfl, h1, h2⟩
          have hcv3 : ∀ (V : World) b, RowV 5 V b (D2.map W8) → (convert 23 9 (.slice (some ⟨b, 0, none⟩) D2.length D2.length)).run Tryd.prog V = .ok (strV D2) V := fun V b hr => by
            have h := hr.sl (by rw [List.length_map, hD2l]; have := (szN_le HK.out).2.2; omega)
            rw [List.length_map] at h
            exact conv_str h
          have hsh9 : ∀ V, Below w9.heap.size w9 V → Calls Tryd.prog 10 #[.slice MA mn mc, .int .i64 50] V fun e w' => e = .returned (.slice MA nm mc) ∧ V = w' := fun V hV => by
            have h := short_any V b0 MA mn mc ms (HM.out.below (hbel9.trans (hV.mono (by omega)))) 50 (by decide)
            rw [HNM.out] at h
            exact h
          have hgb9 : g + 1 ≤ w9.heap.size := by omega
          have hms3 : bs.map W8 ++ qs.map W8 = ms2.map W8 := by rw [← List.map_append, hms2]
          have HSUM := Lib.hid hsum
          have HSUMC := Lib.hid hsumc
          have HRO := Lib.hid hro
          have HRO2 := Lib.hid hro2
          have HCV3 := Lib.hid hcv3
          have HSH9 := Lib.hid hsh9
          have HALL9 := Lib.hid hall9
          have HBEL9 := Lib.hid hbel9
          have HSS9 := Lib.hid hss9
          have HMS3 := Lib.hid hms3
          have hbd : Below w9.heap.size w9 w9.drew := (Below.refl _ w9).drew
          have HBD := Lib.hid hbd
          have e1 := fun (w : World) (t : TypeId) (x y : Operand) (a b : List (BitVec 8)) => eqGuard_str (P := Tryd.prog) w .eql t x y a b
          have e2 : ∀ w', (binOp .eql 9 (strV D) (strV D)).run Tryd.prog w' = .ok (.bool true) w' := fun w' => by
            rw [eql_str w' _ D D, decide_eq_true rfl]
          have e3 : ∀ w', (binOp .eql 9 (strV D2) (strV D2)).run Tryd.prog w' = .ok (.bool true) w' := fun w' => by
            rw [eql_str w' _ D2 D2, decide_eq_true rfl]
          clear hsum hsumc hro hro2 hcv3 hsh9 hh9 hh9g hall9 hbel9 hss9 hbd hD hDl hD2 hD2l hms2 hml hms3 ho9 h89 HWR HSH HSHL
          go_wp2_with fail
          rw [shut_conv (some 89), shut_conv (some 93), shut_conv (some 99), shut_conv (some 106)]
          go_region_held3 (fun _ => True) (trivial)
            (first
              | (go_at_call 8; (with_reducible refine (HSUM.out _ HBD.out).mono ?_); rintro e wA ⟨A1, c1, rfl, hs1, hb1⟩; have hbA := HBD.out.trans (hb1.mono HBD.out.size); have cv1 := FreshV.conv hs1 (Below.refl _ _))
              | (go_at_call 12; (with_reducible refine (HRO.out _ hbA).mono ?_); rintro e wB ⟨A2, c2, rfl, hs2, hb2⟩; have hbB := hbA.trans (hb2.mono hbA.size); have cv2 := FreshV.conv hs2 (Below.refl _ _); have cv1' := FreshV.conv hs1 hb2)
              | (go_at_call 8; (with_reducible refine (HSUMC.out _ hbB).mono ?_); rintro e wC ⟨b3, rfl, hb3, hr3, hbl3⟩; have hbC := hbB.trans (hbl3.mono hbB.size); have cv3 := HCV3.out _ _ hr3)
              | (go_at_call 10; (with_reducible refine (HSH9.out _ hbC).mono ?_); rintro e w' ⟨rfl, rfl⟩)
              | (refine step_appA Tryd.elem8 (by rfl) _ _ rfl (g + 1) (.slice A n c) n (bs.map W8) rfl (own_later_ HALL9.out hbC) MA nm mc (qs.map W8) rfl HMZ.out b0 (HSS9.out.below (hbC.mono (by omega))) (ones8 qs) (by omega) (by have := hbC.size; omega) ?_; intro vD wD hoD hgD hpD; rw [HMS3.out] at hoD; obtain ⟨AD, cD, rfl, hsD, hzD⟩ := own_all hoD; have hrD : RowV 5 wD b3 (D2.map W8) := (hgD.block b3 hr3.lt (fun e => by have h1 := (HALL9.out.lt b3 e.symm).2; have h2 := hbB.size; omega)).trans hr3; have cvD := HCV3.out _ _ hrD; have hbD : Below b0 w wD := (HBEL9.out.trans (hbC.mono (by omega))).grown hgD (by have := hbC.size; omega) (fun r hr => by have := (HALL9.out.lt r hr).1; omega))
              | (go_at_call 12; (with_reducible refine (HRO2.out _ _ _ hsD hzD).mono ?_); rintro e wE ⟨A6, c6, rfl, hs6, hb6⟩; have cv6 := FreshV.conv hs6 (Below.refl _ _); have cvE := HCV3.out _ _ (hrD.later hb6); have hbE : Below b0 w wE := hbD.trans (hb6.mono (by have := hgD.size; have := hbC.size; omega))))
          all_goals
            have HFIN := Lib.hid hbE
            clear hbE
            go_wp2
            go_ret
            exact ⟨rfl, HFIN.out⟩
  · have HK := Lib.hid hk
    have hrs := fun W => rsize_any W k
    simp only [sizeV_no hk] at hrs
    have HRS := Lib.hid hrs
    clear hrs hk
    go_enter Tryd.func3, Tryd.ntmps3
    go_wp2_with fail
    refine HBG.out.mono ?_
    rintro e w1 ⟨rfl, hB1⟩
    have HB1 := Lib.hid hB1
    clear hB1
    go_wp2_with fail
    refine (new_no w1 k HK.out).mono ?_
    rintro e w' ⟨rfl, rfl⟩
    go_wp2_with fail
    refine (HRS.out _).mono ?_
    rintro e w' ⟨rfl, rfl⟩
    go_wp2_with fail
    refine (sum_nil w1).mono ?_
    rintro e w' ⟨rfl, rfl⟩
    go_wp2_with fail
    refine (copy_nil w1).mono ?_
    rintro e w' ⟨rfl, rfl⟩
    go_wp2
    go_ret
    exact ⟨rfl, HB1.out⟩
end Go.Proofs.YtabhdkjepbkooaaDoor

/- From the row's tables to the walks' facts: starts (rows of rows) and roots. -/
set_option linter.unusedVariables false
set_option linter.unusedSimpArgs false
namespace Go.Proofs.YtabhdkjepbkooaaDoor
open Go.RowKit

theorem cells_of_tabs {H : Type} {enc : TypeId × Value → H} {P : Program} {w : World} {base : Nat} {sp : Nat → Bool} {held : Bool} {fuel : Nat} {t t2 e : TypeId} {n m : Nat} {k : IntKind} {cs : List Value} {zss : List (List Int)} {p : List MemPlace}
    (ht : P.underlying t = some (.array n t2)) (ht2 : P.underlying t2 = some (.array m e)) (he : P.underlying e = some (.int k)) (hce : P.cellsOf e = 1) (hc2 : P.cellsOf t2 = m)
    (h : DataW.trod enc P w base sp held fuel t cs = some (.agg (zss.map (Lib.tabData k)), p)) {i : Nat} {zs : List Int} (hi : zss[i]? = some zs) {j : Nat} {z : Int} (hj : zs[j]? = some z) : cs[i * m + j]? = some (.int k z) := by
  cases fuel with
  | zero => simp [DataW.trod] at h
  | succ fuel =>
    simp only [DataW.trod, ht, hc2] at h
    split at h
    · obtain ⟨xs, hm, hx⟩ := Option.map_eq_some_iff.1 h
      have hxs : xs.map (·.1) = zss.map (Lib.tabData (H := H) k) := by
        have := congrArg Prod.fst hx
        simpa using this
      have hxl : xs.length = n := by simpa using Lib.mapM_length hm
      have hzl : zss.length = n := by
        have := congrArg List.length hxs
        simp at this
        omega
      have hin : i < n := by rw [← hzl]; exact (List.getElem?_eq_some_iff.1 hi).1
      obtain ⟨b, hb, hf⟩ := Lib.mapM_at hm i i (by simp [hin])
      have hb1 : b.1 = Lib.tabData k zs := by
        have h1 : (xs.map (·.1))[i]? = some b.1 := by simp [hb]
        rw [hxs, List.getElem?_map, hi] at h1
        exact (Option.some.inj h1).symm
      obtain ⟨b1, b2⟩ := b
      dsimp only at hb1
      subst hb1
      have hc := Lib.cells_of_tab ht2 he hce hc2 hf
      have hjm : j < m := by
        have h2 := congrArg List.length hc
        have h3 := (List.getElem?_eq_some_iff.1 hj).1
        rw [List.length_take, List.length_map] at h2
        omega
      have h4 := congrArg (·[j]?) hc
      simp only [List.getElem?_map, hj, List.getElem?_take, if_pos hjm, List.getElem?_drop, Option.map_some] at h4
      exact h4
    · cases h

def startsZ : List (List Int) := [[0, 0, 0, 0, 0, 0, 0, 0], (startsL 1).map fun x => (x.toNat : Int), (startsL 2).map fun x => (x.toNat : Int), (startsL 3).map fun x => (x.toNat : Int), (startsL 4).map fun x => (x.toNat : Int), (startsL 5).map fun x => (x.toNat : Int)]
theorem startsZ_at (k : Nat) (h1 : 1 ≤ k) (h5 : k ≤ 5) : startsZ[k]? = some ((startsL k).map fun x => (x.toNat : Int)) := by
  rcases (by omega : k = 1 ∨ k = 2 ∨ k = 3 ∨ k = 4 ∨ k = 5) with rfl | rfl | rfl | rfl | rfl <;> rfl
theorem startsG_of {W : World} {rest : List (String × DataW Unit)} {t t2 e : TypeId} (hg : Tryd.prog.globalNamed "bailey/hashes.starts" = some 0) (hty : (Tryd.prog.globals[0]?).map (·.type) = some t)
    (ht : Tryd.prog.underlying t = some (.array 6 t2)) (ht2 : Tryd.prog.underlying t2 = some (.array 8 e)) (he : Tryd.prog.underlying e = some (.int .u64)) (hce : Tryd.prog.cellsOf e = 1) (hc2 : Tryd.prog.cellsOf t2 = 8)
    (h : laidMet Tryd.prog (("bailey/hashes.starts", .agg (startsZ.map (Lib.tabData .u64))) :: rest) W) : StartsG W := by
  obtain ⟨ps, ⟨g', t', cs, fuel, p, q, hg', ht', hvar, hd, _, _⟩, _⟩ := h
  obtain rfl := Option.some.inj (hg.symm.trans hg')
  obtain rfl := Option.some.inj (hty.symm.trans ht')
  have hc : ∀ (k : Nat) (zs : List Int), startsZ[k]? = some zs → ∀ (j : Nat) (z : Int), zs[j]? = some z → W.cell? ⟨0, k * 8 + j, none⟩ = some (.int .u64 z) := fun k zs hk j z hj => by
    have h1 := cells_of_tabs ht ht2 he hce hc2 hd hk hj
    rw [World.var?_cell hg hvar]
    simpa using h1
  refine ⟨World.block_lt_of_cell? W _ (hc 0 _ rfl 0 0 rfl), fun k h1 h5 j v hv => ?_⟩
  rw [List.getElem?_map, Option.map_eq_some_iff] at hv
  obtain ⟨x, hx, rfl⟩ := hv
  exact hc k _ (startsZ_at k h1 h5) j _ (by rw [List.getElem?_map, hx]; rfl)
theorem rootsG_of {W : World} (t : Lib.TabIs Tryd.prog W "bailey/hashes.roots" .u64 (rootsL.map fun x => (x.toNat : Int))) (g : Tryd.prog.globalNamed "bailey/hashes.roots" = some 1) : RootsG W := by
  have hl : (rootsL.map fun x => (x.toNat : Int)).length = 80 := rfl
  have hc := fun i (hi : i < 80) => t.cell g i (by rw [hl]; exact hi)
  refine ⟨World.block_lt_of_cell? W _ (hc 0 (by decide)), fun k x hx => ?_⟩
  have hk : k < 80 := (List.getElem?_eq_some_iff.1 hx).1
  rw [hc k hk, List.getD_eq_getElem?_getD, List.getElem?_map, hx]
  rfl
/-- a block's cells laid anew -/
def layAt (cs : Array Value) : Obj → Obj
  | .cells _ t frozen => .cells cs t frozen
  | o => o
def startsC : Array Value := (startsZ.flatten.map fun z => Value.int .u64 z).toArray
def rootsC : Array Value := (rootsL.map fun x => Value.int .u64 (x.toNat : Int)).toArray
theorem rows_starts : (Rows.laid_bailey_hashes_starts : DataW Unit) = .agg (startsZ.map (Lib.tabData .u64)) := by kernel_rfl
theorem rows_roots : (Rows.laid_bailey_hashes_roots : DataW Unit) = Lib.tabData .u64 (rootsL.map fun x => (x.toNat : Int)) := by kernel_rfl
theorem gStarts : Tryd.prog.globalNamed "bailey/hashes.starts" = some 0 := by kernel_rfl
theorem gRoots : Tryd.prog.globalNamed "bailey/hashes.roots" = some 1 := by kernel_rfl
theorem tStarts : (Tryd.prog.globals[0]?).map (·.type) = some 48 := by kernel_rfl
theorem tRoots : (Tryd.prog.globals[1]?).map (·.type) = some 108 := by kernel_rfl
theorem cells8 : Tryd.prog.cellsOf 47 = 8 := by kernel_rfl
theorem cells80 : Tryd.prog.cellsOf 108 = 80 := by kernel_rfl
theorem cells64 : Tryd.prog.cellsOf 46 = 1 := by kernel_rfl
theorem hashTabs {W : World} (h : laidMet Tryd.prog [("bailey/hashes.starts", Rows.laid_bailey_hashes_starts), ("bailey/hashes.roots", Rows.laid_bailey_hashes_roots)] W) : StartsG W ∧ RootsG W := by
  rw [rows_starts, rows_roots] at h
  exact ⟨startsG_of gStarts tStarts Tryd.underlying48 Tryd.underlying47 Tryd.underlying46 cells64 cells8 h,
    rootsG_of (Lib.tabIs_of_head gRoots tRoots Tryd.underlying108 Tryd.underlying46 cells64 cells80 h.tail) gRoots⟩
end Go.Proofs.YtabhdkjepbkooaaDoor
