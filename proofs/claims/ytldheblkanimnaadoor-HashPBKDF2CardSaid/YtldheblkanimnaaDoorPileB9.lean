/- Parts of one proof, joined: Hy, Sh, Hmgf, Sw, Tabs3, TopB. -/
import Derived.Test.YtldheblkanimnaaDoorPileB5
import Derived.Test.YtldheblkanimnaaDoorPileB8
import Derived.Lib.SlBytesConst
import Derived.OpenShut
import Derived.Test.YtldheblkanimnaaDoorPileB3
import Derived.Lib.LaidTab
import Derived.Stop.LaidErr
import Derived.Test.YtldheblkanimnaaDoorPileB1

/- baileylaw3: begun, its numbers. -/
set_option linter.unusedVariables false
set_option linter.unusedSimpArgs false
namespace Go.Proofs.YtldheblkanimnaaDoor
open Go.RowKit Go.Shelf
attribute [local go_sem] shutOp

def abcL : List (BitVec 8) := [0x61, 0x62, 0x63]
set_option maxRecDepth 100000 in
theorem sha_abc : (sumL 3 abcL).take 4 = [0xba, 0x78, 0x16, 0xbf] := by decide +kernel
/-- the bytes of a constant -/
theorem constSl (w : World) (l : List (BitVec 8)) (hl : l.length ≤ 9223372036854775807) (a b : Nat) : SlV (w.alloc (.cells (l.map W8).toArray 5 (a, b))) (w.heap.size + 1) (some ⟨w.heap.size, 0, none⟩) l.length l.length (l.map W8) :=
  ⟨by rw [List.length_map], Nat.le_refl _, hl, fun _ => ⟨w.heap.size, 0, rfl, by omega, fun k v hv => by
    rw [Nat.zero_add, World.cell?_alloc_mark]
    simpa using hv⟩⟩
theorem newFrozen (w : World) (C : Array Value) (a b : Nat) : ∃ W, w.alloc (.cells C 5 (a, b)) = W ∧ Below w.heap.size w W ∧ W.heap.size = w.heap.size + 1 := ⟨_, rfl, (Below.refl _ w).alloc (Nat.le_refl _) _, by simp⟩
theorem convConst (w : World) (C : Array Value) (n c : Nat) : (convert 22 22 (.slice (some ⟨w.heap.size, 0, none⟩) n c)).run Tryd.prog (w.alloc (.cells C 5)) = .ok (.slice (some ⟨w.heap.size, 0, none⟩) n c) (w.alloc (.cells C 5 (C.size, C.size + 1))) := Lib.run_convert_bytes_const w 22 5 C n c Tryd.underlying22 Tryd.underlying5
theorem ofConst (w : World) (hGS : StartsG w) (hGR : RootsG w) :
    Calls Tryd.prog 12 #[.int .i64 3, .slice (some ⟨w.heap.size + 1, 0, none⟩) 1 1] ((w.alloc (.cells #[.int .u8 97, .int .u8 98, .int .u8 99] 5 (3, 4))).alloc (.cells #[.slice (some ⟨w.heap.size, 0, none⟩) 3 3] 22)) fun e w' => ∃ b, e = .returned (.slice (some ⟨b, 0, none⟩) 32 32) ∧ (convert 22 9 (.slice (some ⟨b, 0, none⟩) 32 32)).run Tryd.prog w' = .ok (strV (sumL 3 abcL)) w' ∧ Below w.heap.size w w' := by
  have hk3 : KindOk 3 := by unfold KindOk; omega
  obtain ⟨W1, e1, b1, z1⟩ := newFrozen w #[.int .u8 97, .int .u8 98, .int .u8 99] 3 4
  have hs1 : SlV W1 (w.heap.size + 1) (some ⟨w.heap.size, 0, none⟩) 3 3 (abcL.map W8) := by rw [← e1]; exact constSl w abcL (by decide) 3 4
  obtain ⟨W2, e2, r2, b2, z2⟩ := newV W1 22 [.slice (some ⟨w.heap.size, 0, none⟩) 3 3] #[.slice (some ⟨w.heap.size, 0, none⟩) 3 3] rfl
  rw [e1, e2]
  have h12 : Below w.heap.size w W2 := b1.trans (b2.mono (by omega))
  have hpv : PartsV W2 W2.heap.size (some ⟨W1.heap.size, 0, none⟩) 1 1 [abcL] := ⟨[.slice (some ⟨w.heap.size, 0, none⟩) 3 3], r2.sl (by simp), rfl, fun i v ps hv hp => by
    cases i with
    | zero => cases hv; cases hp; exact ⟨_, 3, 3, rfl, (hs1.below (b2.mono (by omega))).more (by omega), by intro h; cases h⟩
    | succ i => simp at hv⟩
  have hof := hof_any W2 3 hk3 (hGS.later h12) (hGR.later h12) W2.heap.size _ _ _ _ hpv (Nat.le_refl _) (by decide) (by decide)
  rw [List.flatten_singleton, z1] at hof
  refine hof.mono ?_
  rintro e w3 ⟨b, rfl, hbb, hrow, hb3⟩
  have hDl : (sumL 3 abcL).length = 32 := by rw [sumL_length]; rfl
  have hsl := hrow.sl (by rw [List.length_map, hDl]; decide)
  rw [List.length_map, hDl] at hsl
  exact ⟨b, rfl, conv_str hsl, h12.trans (hb3.mono h12.size)⟩
theorem convConstD (w : World) (C : Array Value) (n c : Nat) : (convert 22 22 (.slice (some ⟨w.heap.size, 0, none⟩) n c)).run Tryd.prog (w.alloc (.cells C 5)).drew = .ok (.slice (some ⟨w.heap.size, 0, none⟩) n c) (w.alloc (.cells C 5 (C.size, C.size + 1))).drew := convConst w.drew C n c
theorem ofConstD (w : World) (hGS : StartsG w) (hGR : RootsG w) :
    Calls Tryd.prog 12 #[.int .i64 3, .slice (some ⟨w.heap.size + 1, 0, none⟩) 1 1] ((w.alloc (.cells #[.int .u8 97, .int .u8 98, .int .u8 99] 5 (3, 4))).alloc (.cells #[.slice (some ⟨w.heap.size, 0, none⟩) 3 3] 22)).drew fun e w' => ∃ b, e = .returned (.slice (some ⟨b, 0, none⟩) 32 32) ∧ (convert 22 9 (.slice (some ⟨b, 0, none⟩) 32 32)).run Tryd.prog w' = .ok (strV (sumL 3 abcL)) w' ∧ Below w.heap.size w w' := by
  refine (ofConst w.drew (hGS.later (Below.refl _ w).drew) (hGR.later (Below.refl _ w).drew)).mono ?_
  rintro e w' ⟨b, he, hc, hb⟩
  exact ⟨b, he, hc, ⟨hb.os, hb.tape, hb.output, hb.size, fun i hi => hb.block i hi⟩⟩
theorem hmacNil (w : World) (hGS : StartsG w) (hGR : RootsG w) :
    Calls Tryd.prog 22 #[.int .i64 3, .slice none 0 0, .slice none 0 0] w fun e w' => ∃ b, e = .returned (.slice (some ⟨b, 0, none⟩) 32 32) ∧ Below w.heap.size w w' := by
  have hk3 : KindOk 3 := by unfold KindOk; omega
  refine (hmac_any w 3 hk3 hGS hGR w.heap.size none 0 0 [] (SlV.nil _ _ _ (by decide)) (fun _ => rfl) (Nat.le_refl _) (by decide) none 0 0 [] (PartsV.nil _ _ _ (by decide)) (by decide) (by decide)).mono ?_
  rintro e w' ⟨b, rfl, _, _, hb⟩
  exact ⟨b, rfl, hb⟩
set_option maxRecDepth 100000 in
set_option maxHeartbeats 2000000 in
theorem begun3_any (w : World) (hGS : StartsG w) (hGR : RootsG w) :
    Calls Tryd.prog 10 #[] w fun e w' => e = .returned (.bool true) ∧ Below w.heap.size w w' := by
  have hk3 : KindOk 3 := by unfold KindOk; omega
  have hnw := new_is w 3 hk3 hGS
  obtain ⟨g, hg⟩ : ∃ g, w.heap.size = g := ⟨_, rfl⟩
  rw [hg] at hnw
  have hg1 : 1 < g := by have := hGR.1; omega
  have HNW := Lib.hid hnw
  have HGS := Lib.hid hGS
  have HGR := Lib.hid hGR
  have HG := Lib.hid hg
  have HK := Lib.hid hk3
  clear hnw hGS hGR hk3
  go_enter Tryd.func10, Tryd.ntmps10
  go_wp2_with fail
  refine HNW.out.mono ?_
  rintro e w1 ⟨rfl, hh1, hb1⟩
  have hgl := hh1.lt
  have h01 : Below w.heap.size w w1 := by rw [hg]; exact hb1
  have kc := fun (w : World) (C : Array Value) (n c : Nat) => convConst w C n c
  obtain ⟨W2, e2, b2, z2⟩ := newFrozen w1 #[.int .u8 97] 1 2
  have hs2 : SlV W2 (w1.heap.size + 1) (some ⟨w1.heap.size, 0, none⟩) 1 1 ([0x61].map W8) := by rw [← e2]; exact constSl w1 [0x61] (by decide) 1 2
  have h12 : Below g w1 W2 := b2.mono (by omega)
  have hw2 := write_any W2 g 3 HK.out [] [0x61] (hh1.later b2) _ _ _ _ hs2 (by intro h; cases h) (by omega) ((HGR.out.later h01).later b2) hg1 (by decide)
  have HW2 := Lib.hid hw2
  have H01 := Lib.hid h01
  have HB2 := Lib.hid b2
  clear hw2 h01 h12 b2 hs2 hb1 hh1 z2
  go_wp2_with fail
  refine HW2.out.mono ?_
  rintro e w3 ⟨rfl, hh3, ho3⟩
  have hl3 := hh3.lt
  have hG3 : RootsG w3 := ((HGR.out.later H01.out).later HB2.out).only ho3 hg1
  obtain ⟨W4, e4, b4, z4⟩ := newFrozen w3 #[.int .u8 98, .int .u8 99] 2 3
  have hs4 : SlV W4 (w3.heap.size + 1) (some ⟨w3.heap.size, 0, none⟩) 2 2 ([0x62, 0x63].map W8) := by rw [← e4]; exact constSl w3 [0x62, 0x63] (by decide) 2 3
  have hw4 := write_any W4 g 3 HK.out _ [0x62, 0x63] (hh3.later b4) _ _ _ _ hs4 (by intro h; cases h) (by omega) (hG3.later b4) hg1 (by decide)
  have HW4 := Lib.hid hw4
  have h03 : Below w.heap.size w w3 := H01.out.trans ((HB2.out.mono H01.out.size).trans (ho3.below (by have := HG.out; omega) (by have := H01.out.size; have := HB2.out.size; omega)))
  have H03 := Lib.hid h03
  have HG3 := Lib.hid hG3
  have HB4 := Lib.hid b4
  clear hw4 hG3 b4 hs4 hh3 ho3 h03 z4 hl3
  go_wp2_with fail
  refine HW4.out.mono ?_
  rintro e w5 ⟨rfl, hh5, ho5⟩
  have hG5 : RootsG w5 := (HG3.out.later HB4.out).only ho5 hg1
  have h05 : Below w.heap.size w w5 := H03.out.trans ((HB4.out.mono H03.out.size).trans (ho5.below (by have := HG.out; omega) (by have := H03.out.size; have := HB4.out.size; omega)))
  have hsm := sum_any w5 g 3 HK.out abcL hh5 hG5 (by decide)
  have HSM := Lib.hid hsm
  have H05 := Lib.hid h05
  have HG5 := Lib.hid hG5
  clear hsm h05 hG5 hh5 ho5
  go_wp2_with fail
  refine HSM.out.mono ?_
  rintro e w6 ⟨b, rfl, hbb, hrow, hb6⟩
  have hsz3 : szN 3 = 32 := rfl
  rw [hsz3]
  obtain ⟨D, hD⟩ : ∃ D, sumL 3 abcL = D := ⟨_, rfl⟩
  have hab := sha_abc
  rw [hD] at hrow hab
  have hDl : D.length = 32 := by rw [← hD, sumL_length]; rfl
  have hsl := hrow.sl (by rw [List.length_map, hDl]; decide)
  rw [List.length_map, hDl] at hsl
  have HG6 := Lib.hid (HG5.out.later hb6)
  have HS6 := Lib.hid (HGS.out.later (H05.out.trans (hb6.mono H05.out.size)))
  have H06 := Lib.hid (H05.out.trans (hb6.mono H05.out.size))
  have HSL := Lib.hid hsl
  have HAB := Lib.hid hab
  have HD := Lib.hid hD
  have h1 : ∀ w', Below w6.heap.size w6 w' → (convert 22 9 (.slice (some ⟨b, 0, none⟩) 32 32)).run Tryd.prog w' = .ok (strV D) w' := fun w' hb => conv_str (HSL.out.below hb)
  have h2 : ∀ w', Below w6.heap.size w6 w' → (convert 22 9 (.slice (some ⟨b, 0, none⟩) 4 32)).run Tryd.prog w' = .ok (strV (D.take 4)) w' := fun w' hb => conv_str (by have := (HSL.out.below hb).take (k := 4) (by decide); rwa [← List.map_take] at this)
  have h3 : ∀ w', (binOp .eql 9 (strV (D.take 4)) (.string { data := #[186, 120, 22, 191] })).run Tryd.prog w' = .ok (.bool true) w' := fun w' => by
    rw [HAB.out]
    exact eql_str w' _ [0xba, 0x78, 0x16, 0xbf] [0xba, 0x78, 0x16, 0xbf]
  have h4 : ∀ w', (binOp .eql 9 (strV D) (strV D)).run Tryd.prog w' = .ok (.bool true) w' := fun w' => by
    rw [eql_str w' _ D D, decide_eq_true rfl]
  have q1 := fun (w : World) (t : TypeId) (x y : Operand) (a b : List (BitVec 8)) => eqGuard_str (P := Tryd.prog) w .eql t x y a b
  have q2 := fun (w : World) (t : TypeId) (x y : Operand) (a : List (BitVec 8)) (s : ByteArray) => eqGuard_strc (P := Tryd.prog) w .eql t x y a s
  have H1 := Lib.hid h1
  have H2 := Lib.hid h2
  clear h1 h2 hab hD hDl hsl hb6 hrow
  go_wp2_with fail
  have c32 := H1.out _ (Below.refl _ w6).drew
  have c4 := H2.out _ (Below.refl _ w6).drew
  have hsd : StartsG w6.drew := HS6.out.later (Below.refl _ w6).drew
  have hrd : RootsG w6.drew := HG6.out.later (Below.refl _ w6).drew
  have HOF := Lib.hid (ofConstD w6 HS6.out HG6.out)
  have kd := fun (w : World) (C : Array Value) (n c : Nat) => convConstD w C n c
  have hba : ∀ (o : Obj), Below w6.heap.size w6 (w6.alloc o).drew := fun o => ((Below.refl _ w6).alloc (Nat.le_refl _) _).drew
  have hbb2 : ∀ (o o' : Obj), Below w6.heap.size w6 ((w6.alloc o).alloc o').drew := fun o o' => (((Below.refl _ w6).alloc (Nat.le_refl _) _).alloc (by simp) _).drew
  have HD' := Lib.hid HD.out
  clear hsd hrd
  rw [shut_conv (some 27), shut_conv (some 30)]
  go_region_held3 (fun w' => (convert 22 9 (.slice (some ⟨b, 0, none⟩) 32 32)).run Tryd.prog w' = .ok (strV D) w' ∧ (convert 22 9 (.slice (some ⟨b, 0, none⟩) 4 32)).run Tryd.prog w' = .ok (strV (D.take 4)) w') (first | exact ⟨c32, c4⟩ | exact ⟨H1.out _ (by first | assumption | exact hba _ | exact hbb2 _ _), H2.out _ (by first | assumption | exact hba _ | exact hbb2 _ _)⟩)
    (first | (go_at_call 12; refine HOF.out.mono ?_; rintro e w7 ⟨b7, rfl, hcv7, hb7⟩; have hb7 : Below w6.heap.size w6 w7 := ⟨hb7.os, hb7.tape, hb7.output, hb7.size, fun i hi => hb7.block i hi⟩; rw [HD.out] at hcv7) | (go_at_call 14; refine (size_any _ 1).mono ?_; rintro e w' ⟨rfl, rfl⟩) | (go_at_call 22; refine (hmacNil _ (HS6.out.later hb7) (HG6.out.later hb7)).mono ?_; rintro e w8 ⟨b8, rfl, hb8⟩; have hb68 : Below w6.heap.size w6 w8 := hb7.trans (hb8.mono hb7.size)))
  have HB68 := Lib.hid hb68
  clear hb68 hb7 hb8 hcv7 c32 c4
  go_wp2
  go_ret
  exact ⟨rfl, H06.out.trans (HB68.out.mono H06.out.size)⟩
end Go.Proofs.YtldheblkanimnaaDoor

/- baileylaw3: Short; and from a row of bytes that came in to a slice that reads bytes. -/
set_option linter.unusedVariables false
set_option linter.unusedSimpArgs false
namespace Go.Proofs.YtldheblkanimnaaDoor
open Go.RowKit Go.Shelf

theorem short_any (w : World) (B : Nat) (A : Option Addr) (n c : Nat) (bs : List (BitVec 8)) (hs : SlV w B A n c (bs.map W8)) (m : Nat) (hm : m ≤ 1000000) :
    Calls Tryd.prog 11 #[.slice A n c, .int .i64 (m : Int)] w fun e w' => e = .returned (.slice A (min n m) c) ∧ w = w' := by
  have h1 := hs.cap
  have h2 := hs.max
  have hmI : (m : Int) ≤ 1000000 := by omega
  have hm0 : (0 : Int) ≤ m := by omega
  have hnI : (n : Int) ≤ 9223372036854775807 := by omega
  by_cases h : m < n
  · obtain ⟨b, off, v, rfl, _, _, _⟩ := hs.at_ (k := 0) (by omega)
    have hI : (m : Int) < n := by omega
    have hmc : (m : Int) ≤ c := by omega
    have hmn : min n m = m := by omega
    have HMN := Lib.hid hmn
    clear hs h hmn
    go_enter Tryd.func11, Tryd.ntmps11
    go_wp2
    go_ret
    rw [HMN.out]
    exact ⟨rfl, rfl⟩
  · have hI : (n : Int) ≤ m := by omega
    have hmn : min n m = n := by omega
    have HMN := Lib.hid hmn
    clear hs h hmn
    go_enter Tryd.func11, Tryd.ntmps11
    go_wp2
    go_ret
    rw [HMN.out]
    exact ⟨rfl, rfl⟩

/-- a byte off a number -/
def toB (z : Int) : BitVec 8 := BitVec.ofInt 8 z
theorem W8_toB {z : Int} (h : (Lit.int .u8 z).wf = true) : W8 (toB z) = .int .u8 z := by
  have hb := bounds_u8 h
  have : ((BitVec.ofInt 8 z).toNat : Int) = z := by
    rw [BitVec.toNat_ofInt]
    omega
  show Value.int .u8 ((BitVec.ofInt 8 z).toNat : Int) = _
  rw [this]
theorem slV_of_row {w : World} {a : Option Addr} {len cap : Nat} {zs : List Int}
    (h : (a = none ∧ len = 0 ∧ cap = 0 ∧ zs = []) ∨ ∃ x, a = some x ∧ len ≤ cap ∧ cap ≤ maxLen ∧ zs.length = cap ∧ (∀ i, i < zs.length → w.cell? (x.add i) = some (.int .u8 (zs.getD i 0))) ∧ ∀ n ∈ zs, (Lit.int .u8 n).wf = true) :
    ∃ bs : List (BitVec 8), SlV w w.heap.size a len cap (bs.map W8) ∧ (a = none → cap = 0) := by
  rcases h with ⟨rfl, rfl, rfl, rfl⟩ | ⟨x, rfl, hl, hm, hz, hc, hwf⟩
  · exact ⟨[], SlV.nil _ _ _ (by decide), fun _ => rfl⟩
  · refine ⟨(zs.take len).map toB, ⟨by simp; omega, hl, by simpa [maxLen] using hm, fun hne => ?_⟩, fun h => by cases h⟩
    have hlen : 0 < len := by
      rcases Nat.eq_zero_or_pos len with h | h
      · subst h; simp at hne
      · exact h
    obtain ⟨b, off, spot⟩ := x
    have h0 := hc 0 (by omega)
    have hsp : spot = none := by simpa [Addr.add] using World.cell?_spot h0
    subst hsp
    refine ⟨b, off, rfl, World.block_lt_of_cell? w _ (by simpa [Addr.add] using h0), fun k v hv => ?_⟩
    rw [List.map_map, List.getElem?_map, Option.map_eq_some_iff] at hv
    obtain ⟨z, hzk, rfl⟩ := hv
    rw [List.getElem?_take] at hzk
    split at hzk
    · rename_i hkl
      have h1 := hc k (by omega)
      rw [Addr.add_lit] at h1
      rw [h1, List.getD_eq_getElem?_getD, hzk]
      show some (Value.int .u8 z) = some (W8 (toB z))
      rw [W8_toB (hwf z (List.mem_of_getElem? hzk))]
    · cases hzk
end Go.Proofs.YtldheblkanimnaaDoor

/- hashes: MGF1, whole. -/
set_option linter.unusedVariables false
set_option linter.unusedSimpArgs false
namespace Go.Proofs.YtldheblkanimnaaDoor
open Go.RowKit Go.Shelf

def mgfL (k : Int) (seed : List (BitVec 8)) (N : Nat) : List (BitVec 8) := fillL (fun i => sumL k (seed ++ counterL i)) N
theorem szN_ok {k : Int} (h : KindOk k) : 1 ≤ szN k ∧ szN k ≤ 64 := by have := szN_le h; omega
theorem mgfL_length {k : Int} (h : KindOk k) (seed : List (BitVec 8)) (N : Nat) : (mgfL k seed N).length = N := fillL_length _ (szN k) (fun _ => sumL_length _ _) (szN_ok h).1 N
set_option maxRecDepth 100000 in
set_option maxHeartbeats 1000000 in
theorem mgf_any (w : World) (k : Int) (hk : KindOk k) (hGS : StartsG w) (hGR : RootsG w) (B : Nat) (A : Option Addr) (n c : Nat) (seed : List (BitVec 8)) (hs : SlV w B A n c (seed.map W8)) (hz : A = none → c = 0) (hB : B ≤ w.heap.size) (hn : n + 512 ≤ 17592186044416) (N : Nat) (hN1 : 1 ≤ N) (hN2 : N ≤ 65536) :
    Calls Tryd.prog 24 #[.int .i64 k, .slice A n c, .int .i64 (N : Int)] w fun e w' => ∃ v, e = .returned v ∧ w'.ownsRow w.heap.size 5 1 v N ((mgfL k seed N).map W8) ∧ Below w.heap.size w w' := by
  obtain ⟨W1, e1, hB1, b1, s1⟩ := newBox w 3 (.int .i64 k)
  obtain ⟨W2, e2, hB2, b2, s2⟩ := newBox W1 22 (.slice A n c)
  obtain ⟨x1, hx1⟩ : ∃ b, w.heap.size = b := ⟨_, rfl⟩
  obtain ⟨x2, hx2⟩ : ∃ b, W1.heap.size = b := ⟨_, rfl⟩
  rw [hx1] at b1
  rw [hx2] at b2
  replace b1 := b1.later hB2
  have hB12 : Below w.heap.size w W2 := hB1.trans (hB2.mono hB1.size)
  have kN1 : (1 : Int) ≤ N := by omega
  have kN2 : (N : Int) ≤ 65536 := by omega
  have hv := valid_yes W2 k hk
  have hf := fill_any W2 46 #[.pointer (some ⟨x1, 0, none⟩), .pointer (some ⟨x2, 0, none⟩)] (enters_of Tryd.func46 (by kernel_rfl) rfl) (fun i => sumL k (seed ++ counterL i)) (szN k) (fun _ => sumL_length _ _) (szN_ok hk).1 (szN_ok hk).2 N hN1 hN2
    (fun j hj W hW => mgfPart_any W k hk ((hGS.later hB12).later hW) ((hGR.later hB12).later hW) x1 x2 B A n c seed (hs.below ((hB12.trans (hW.mono hB12.size)).mono hB)) hz (Nat.le_trans hB (Nat.le_trans hB12.size hW.size)) hn (b1.later hW) (b2.later hW) j (by omega))
  have q1 := b1.1
  have HF := Lib.hid hf
  have HV := Lib.hid hv
  have HB12 := Lib.hid hB12
  clear hf hv hB12 hB1 hB2 b1 b2 s1 s2 hGS hGR hs hz
  go_enter Tryd.func24, Tryd.ntmps24
  go_wp2_with fail
  refine HV.out.mono ?_
  rintro e w' ⟨rfl, rfl⟩
  go_wp2_with fail
  refine HF.out.mono ?_
  rintro e w3 ⟨v, rfl, hown, hb3⟩
  have hz2 := HB12.out.size
  have HO := Lib.hid hown
  have HB3 := Lib.hid hb3
  clear hown hb3
  go_wp2
  go_ret
  refine ⟨v, rfl, ?_, HB12.out.trans (HB3.out.mono hz2)⟩
  obtain ⟨h1, h2⟩ := HO.out
  exact ⟨h1, h2.imp id (fun ⟨g, cap, cur, e, hb, r⟩ => ⟨g, cap, cur, e, by omega, r⟩)⟩
set_option maxRecDepth 100000 in
set_option maxHeartbeats 1000000 in
theorem mgf_no (w : World) (k : Int) (A : Option Addr) (n c : Nat) (N : Int) (h : KindOk k → N < 1 ∨ 65536 < N) :
    Calls Tryd.prog 24 #[.int .i64 k, .slice A n c, .int .i64 N] w fun e w' => e = .returned (.slice none 0 0) ∧ Below w.heap.size w w' := by
  obtain ⟨W1, e1, hB1, b1, s1⟩ := newBox w 3 (.int .i64 k)
  obtain ⟨W2, e2, hB2, b2, s2⟩ := newBox W1 22 (.slice A n c)
  obtain ⟨x1, hx1⟩ : ∃ b, w.heap.size = b := ⟨_, rfl⟩
  obtain ⟨x2, hx2⟩ : ∃ b, W1.heap.size = b := ⟨_, rfl⟩
  rw [hx1] at b1
  replace b1 := b1.later hB2
  have hB12 : Below w.heap.size w W2 := hB1.trans (hB2.mono hB1.size)
  have q1 := b1.1
  have HB12 := Lib.hid hB12
  clear hB12 hB1 hB2 b1 b2 s1 s2
  by_cases hk : KindOk k
  · have hv := valid_yes W2 k hk
    have HV := Lib.hid hv
    clear hv
    have hN := h hk
    clear h
    by_cases h1 : N < 1
    · go_enter Tryd.func24, Tryd.ntmps24
      go_wp2_with fail
      refine HV.out.mono ?_
      rintro e w' ⟨rfl, rfl⟩
      go_wp2
      go_ret
      exact ⟨rfl, HB12.out⟩
    · have h2 : 65536 < N := by omega
      clear hN
      go_enter Tryd.func24, Tryd.ntmps24
      go_wp2_with fail
      refine HV.out.mono ?_
      rintro e w' ⟨rfl, rfl⟩
      go_wp2
      go_ret
      exact ⟨rfl, HB12.out⟩
  · have hv := valid_no W2 k hk
    have HV := Lib.hid hv
    clear hv h
    go_enter Tryd.func24, Tryd.ntmps24
    go_wp2_with fail
    refine HV.out.mono ?_
    rintro e w' ⟨rfl, rfl⟩
    go_wp2
    go_ret
    exact ⟨rfl, HB12.out⟩
end Go.Proofs.YtldheblkanimnaaDoor

/- The program's and the reference's Of and HMAC, of any kind. -/
set_option linter.unusedVariables false
set_option linter.unusedSimpArgs false
namespace Go.Proofs.YtldheblkanimnaaDoor
open Go.RowKit Go.Shelf

/-- the hash of a message; nothing of another kind -/
def sumK (k : Int) (msg : List (BitVec 8)) : List (BitVec 8) := if 1 ≤ k ∧ k ≤ 5 then sumL k msg else []
def hmacK (k : Int) (key msg : List (BitVec 8)) : List (BitVec 8) := if 1 ≤ k ∧ k ≤ 5 then hmacL k key msg else []
theorem sumK_le (k : Int) (msg : List (BitVec 8)) : (sumK k msg).length ≤ 64 := by
  unfold sumK
  split
  · rename_i h
    rw [sumL_length]
    exact (szN_le (k := k) h).2.2
  · simp
theorem FreshV.row_ {w : World} {B b n : Nat} {l : List (BitVec 8)} (h : RowV 5 w b (l.map W8)) (hb : B ≤ b) (hl : l.length = n) (hm : n ≤ 9223372036854775807) : FreshV w B (.slice (some ⟨b, 0, none⟩) n n) l := by
  have hs := h.sl (by rw [List.length_map]; omega)
  rw [List.length_map] at hs
  subst hl
  exact ⟨_, _, rfl, hs, (by intro h; cases h), (by intro a e; injection e with e; subst e; exact hb)⟩
theorem FreshV.nil_ (w : World) (B : Nat) : FreshV w B (.slice none 0 0) [] := ⟨none, 0, rfl, SlV.nil _ _ _ (by decide), fun _ => rfl, fun a h => by cases h⟩
theorem hofK_any (w : World) (k : Int) (hG : StartsG w) (hR : RootsG w) (B : Nat) (A : Option Addr) (n c : Nat) (pss : List (List (BitVec 8))) (hs : PartsV w B A n c pss) (hB : B ≤ w.heap.size) (hn : n ≤ 17592186044416) (hlen : pss.flatten.length + 256 ≤ 17592186044416) :
    Calls Tryd.prog 12 #[.int .i64 k, .slice A n c] w fun e w' => ∃ v, e = .returned v ∧ FreshV w' w.heap.size v (sumK k pss.flatten) ∧ Below w.heap.size w w' := by
  by_cases hk : KindOk k
  · refine (hof_any w k hk hG hR B A n c pss hs hB hn hlen).mono ?_
    rintro e w' ⟨b, rfl, hb, hr, hB'⟩
    refine ⟨_, rfl, ?_, hB'⟩
    rw [sumK, if_pos (show 1 ≤ k ∧ k ≤ 5 from hk)]
    exact FreshV.row_ hr hb (sumL_length _ _) (by have := (szN_le hk).2.2; omega)
  · refine (of_no w k hk B A n c pss hs hB hn).mono ?_
    rintro e w' ⟨rfl, hB'⟩
    refine ⟨_, rfl, ?_, hB'⟩
    rw [sumK, if_neg (show ¬ (1 ≤ k ∧ k ≤ 5) from hk)]
    exact FreshV.nil_ _ _
theorem rofK_any (w : World) (k : Int) (B : Nat) (A : Option Addr) (n c : Nat) (bs : List (BitVec 8)) (hs : SlV w B A n c (bs.map W8)) (hz : A = none → c = 0) (hB : B ≤ w.heap.size) (hn : n ≤ 1000000000) :
    Calls Tryd.prog 13 #[.int .i64 k, .slice A n c] w fun e w' => ∃ v, e = .returned v ∧ FreshV w' w.heap.size v (sumK k bs) ∧ Below w.heap.size w w' := by
  by_cases hk : KindOk k
  · refine (rof_any w k hk B A n c bs hs hz hB hn).mono ?_
    rintro e w' ⟨v, rfl, hf, hB'⟩
    refine ⟨_, rfl, ?_, hB'⟩
    rw [sumK, if_pos (show 1 ≤ k ∧ k ≤ 5 from hk)]
    exact hf
  · refine (rof_no w k hk A n c).mono ?_
    rintro e w' ⟨rfl, rfl⟩
    refine ⟨_, rfl, ?_, Below.refl _ _⟩
    rw [sumK, if_neg (show ¬ (1 ≤ k ∧ k ≤ 5) from hk)]
    exact FreshV.nil_ _ _
theorem hmacK_any (w : World) (k : Int) (hGS : StartsG w) (hGR : RootsG w) (B : Nat) (A : Option Addr) (n c : Nat) (key : List (BitVec 8)) (hs : SlV w B A n c (key.map W8)) (hz : A = none → c = 0) (hB : B ≤ w.heap.size) (hn : n + 256 ≤ 17592186044416)
    (A2 : Option Addr) (n2 c2 : Nat) (pss : List (List (BitVec 8))) (hp : PartsV w B A2 n2 c2 pss) (hn2 : n2 ≤ 17592186044416) (hlen : pss.flatten.length + 512 ≤ 17592186044416) :
    Calls Tryd.prog 22 #[.int .i64 k, .slice A n c, .slice A2 n2 c2] w fun e w' => ∃ v, e = .returned v ∧ FreshV w' w.heap.size v (hmacK k key pss.flatten) ∧ Below w.heap.size w w' := by
  by_cases hk : KindOk k
  · refine (hmac_any w k hk hGS hGR B A n c key hs hz hB hn A2 n2 c2 pss hp hn2 hlen).mono ?_
    rintro e w' ⟨b, rfl, hb, hr, hB'⟩
    refine ⟨_, rfl, ?_, hB'⟩
    rw [hmacK, if_pos (show 1 ≤ k ∧ k ≤ 5 from hk)]
    exact FreshV.row_ hr hb (hmacL_length _ _ _) (by have := (szN_le hk).2.2; omega)
  · refine (hmac_no w k hk _ _).mono ?_
    rintro e w' ⟨rfl, rfl⟩
    refine ⟨_, rfl, ?_, Below.refl _ _⟩
    rw [hmacK, if_neg (show ¬ (1 ≤ k ∧ k ≤ 5) from hk)]
    exact FreshV.nil_ _ _
theorem rhmacK_any (w : World) (k : Int) (B : Nat) (A : Option Addr) (n c : Nat) (key : List (BitVec 8)) (hs : SlV w B A n c (key.map W8)) (hz : A = none → c = 0) (hB : B ≤ w.heap.size) (hn : n ≤ 1000000)
    (A2 : Option Addr) (n2 c2 : Nat) (msg : List (BitVec 8)) (hs2 : SlV w B A2 n2 c2 (msg.map W8)) (hz2 : A2 = none → c2 = 0) (hn2 : n2 ≤ 1000000) :
    Calls Tryd.prog 23 #[.int .i64 k, .slice A n c, .slice A2 n2 c2] w fun e w' => ∃ v, e = .returned v ∧ FreshV w' w.heap.size v (hmacK k key msg) ∧ Below w.heap.size w w' := by
  by_cases hk : KindOk k
  · refine (rhmac_any w k hk B A n c key hs hz hB hn A2 n2 c2 msg hs2 hz2 hn2).mono ?_
    rintro e w' ⟨v, rfl, hf, hB'⟩
    refine ⟨_, rfl, ?_, hB'⟩
    rw [hmacK, if_pos (show 1 ≤ k ∧ k ≤ 5 from hk)]
    exact hf
  · refine (rhmac_no w k hk _ _).mono ?_
    rintro e w' ⟨rfl, rfl⟩
    refine ⟨_, rfl, ?_, Below.refl _ _⟩
    rw [hmacK, if_neg (show ¬ (1 ≤ k ∧ k ≤ 5) from hk)]
    exact FreshV.nil_ _ _
theorem PartsV.single {w : World} {g B : Nat} {A1 : Option Addr} {n1 c1 : Nat} {p1 : List (BitVec 8)} (h : RowV 22 w g [.slice A1 n1 c1]) (h1 : SlV w B A1 n1 c1 (p1.map W8)) (z1 : A1 = none → c1 = 0) (hg : g < B) :
    PartsV w B (some ⟨g, 0, none⟩) 1 1 [p1] := by
  refine ⟨[.slice A1 n1 c1], ⟨rfl, by decide, by decide, fun _ => ⟨g, 0, rfl, hg, fun k v hv => by rw [Nat.zero_add]; exact h.at_ hv⟩⟩, rfl, fun i v ps hv hp => ?_⟩
  match i with
  | 0 => cases hv; cases hp; exact ⟨_, _, _, rfl, h1, z1⟩
  | i + 1 => simp at hv
/-- 'b[:m]' of Short -/
theorem short_sl {w : World} {B n c m : Nat} {A : Option Addr} {bs : List (BitVec 8)} (h : SlV w B A n c (bs.map W8)) : SlV w B A (min n m) c ((bs.take m).map W8) := by
  have hl := h.len
  rw [List.length_map] at hl
  have h2 := h.take (k := min n m) (by omega)
  rw [← List.map_take] at h2
  have e : bs.take (min n m) = bs.take m := by
    by_cases hm : n ≤ m
    · rw [List.take_of_length_le (by omega), List.take_of_length_le (by omega)]
    · rw [show min n m = m by omega]
  rwa [e] at h2
/-- a result's string, here and later -/
theorem FreshV.conv {w w' : World} {c : Nat} {A : Option Addr} {l : List (BitVec 8)} (h : SlV w w.heap.size A l.length c (l.map W8)) (hb : Below w.heap.size w w') : (convert 22 9 (.slice A l.length c)).run Tryd.prog w' = .ok (strV l) w' := conv_str (h.below hb)
end Go.Proofs.YtldheblkanimnaaDoor

/- From the row's tables to the walks' facts: starts (rows of rows) and roots. -/
set_option linter.unusedVariables false
set_option linter.unusedSimpArgs false
namespace Go.Proofs.YtldheblkanimnaaDoor
open Go.RowKit

theorem cells_of_tabs {H : Type} {enc : TypeId × Value → H} {P : Program} {w : World} {base : Nat} {sp : Nat → Bool} {held : Bool} {fuel : Nat} {t t2 e : TypeId} {n m : Nat} {k : IntKind} {cs : List Value} {zss : List (List Int)} {p : List MemPlace}
    (ht : P.underlying t = some (.array n t2)) (ht2 : P.underlying t2 = some (.array m e)) (he : P.underlying e = some (.int k)) (hce : P.cellsOf e = 1) (hc2 : P.cellsOf t2 = m)
    (h : DataW.trod enc P w base sp held fuel t cs = some (.agg (zss.map (Lib.tabData k)), p)) {i : Nat} {zs : List Int} (hi : zss[i]? = some zs) {j : Nat} {z : Int} (hj : zs[j]? = some z) : cs[i * m + j]? = some (.int k z) := by
  cases fuel with
  | zero => simp [DataW.trod] at h
  | succ fuel =>
    simp only [DataW.trod, ht, hc2] at h
    split at h
    · obtain ⟨xs, hm, hx⟩ := Option.map_eq_some_iff.1 h
      have hxs : xs.map (·.1) = zss.map (Lib.tabData (H := H) k) := by
        have := congrArg Prod.fst hx
        simpa using this
      have hxl : xs.length = n := by simpa using Lib.mapM_length hm
      have hzl : zss.length = n := by
        have := congrArg List.length hxs
        simp at this
        omega
      have hin : i < n := by rw [← hzl]; exact (List.getElem?_eq_some_iff.1 hi).1
      obtain ⟨b, hb, hf⟩ := Lib.mapM_at hm i i (by simp [hin])
      have hb1 : b.1 = Lib.tabData k zs := by
        have h1 : (xs.map (·.1))[i]? = some b.1 := by simp [hb]
        rw [hxs, List.getElem?_map, hi] at h1
        exact (Option.some.inj h1).symm
      obtain ⟨b1, b2⟩ := b
      dsimp only at hb1
      subst hb1
      have hc := Lib.cells_of_tab ht2 he hce hc2 hf
      have hjm : j < m := by
        have h2 := congrArg List.length hc
        have h3 := (List.getElem?_eq_some_iff.1 hj).1
        rw [List.length_take, List.length_map] at h2
        omega
      have h4 := congrArg (·[j]?) hc
      simp only [List.getElem?_map, hj, List.getElem?_take, if_pos hjm, List.getElem?_drop, Option.map_some] at h4
      exact h4
    · cases h

def startsZ : List (List Int) := [[0, 0, 0, 0, 0, 0, 0, 0], (startsL 1).map fun x => (x.toNat : Int), (startsL 2).map fun x => (x.toNat : Int), (startsL 3).map fun x => (x.toNat : Int), (startsL 4).map fun x => (x.toNat : Int), (startsL 5).map fun x => (x.toNat : Int)]
theorem startsZ_at (k : Nat) (h1 : 1 ≤ k) (h5 : k ≤ 5) : startsZ[k]? = some ((startsL k).map fun x => (x.toNat : Int)) := by
  rcases (by omega : k = 1 ∨ k = 2 ∨ k = 3 ∨ k = 4 ∨ k = 5) with rfl | rfl | rfl | rfl | rfl <;> rfl
theorem startsG_of {W : World} {rest : List (String × DataW Unit)} {t t2 e : TypeId} (hg : Tryd.prog.globalNamed "bailey/hashes.starts" = some 0) (hty : (Tryd.prog.globals[0]?).map (·.type) = some t)
    (ht : Tryd.prog.underlying t = some (.array 6 t2)) (ht2 : Tryd.prog.underlying t2 = some (.array 8 e)) (he : Tryd.prog.underlying e = some (.int .u64)) (hce : Tryd.prog.cellsOf e = 1) (hc2 : Tryd.prog.cellsOf t2 = 8)
    (h : laidMet Tryd.prog (("bailey/hashes.starts", .agg (startsZ.map (Lib.tabData .u64))) :: rest) W) : StartsG W := by
  obtain ⟨ps, ⟨g', t', cs, fuel, p, q, hg', ht', hvar, hd, _, _⟩, _⟩ := h
  obtain rfl := Option.some.inj (hg.symm.trans hg')
  obtain rfl := Option.some.inj (hty.symm.trans ht')
  have hc : ∀ (k : Nat) (zs : List Int), startsZ[k]? = some zs → ∀ (j : Nat) (z : Int), zs[j]? = some z → W.cell? ⟨0, k * 8 + j, none⟩ = some (.int .u64 z) := fun k zs hk j z hj => by
    have h1 := cells_of_tabs ht ht2 he hce hc2 hd hk hj
    rw [World.var?_cell hg hvar]
    simpa using h1
  refine ⟨World.block_lt_of_cell? W _ (hc 0 _ rfl 0 0 rfl), fun k h1 h5 j v hv => ?_⟩
  rw [List.getElem?_map, Option.map_eq_some_iff] at hv
  obtain ⟨x, hx, rfl⟩ := hv
  exact hc k _ (startsZ_at k h1 h5) j _ (by rw [List.getElem?_map, hx]; rfl)
theorem rootsG_of {W : World} (t : Lib.TabIs Tryd.prog W "bailey/hashes.roots" .u64 (rootsL.map fun x => (x.toNat : Int))) (g : Tryd.prog.globalNamed "bailey/hashes.roots" = some 1) : RootsG W := by
  have hl : (rootsL.map fun x => (x.toNat : Int)).length = 80 := rfl
  have hc := fun i (hi : i < 80) => t.cell g i (by rw [hl]; exact hi)
  refine ⟨World.block_lt_of_cell? W _ (hc 0 (by decide)), fun k x hx => ?_⟩
  have hk : k < 80 := (List.getElem?_eq_some_iff.1 hx).1
  rw [hc k hk, List.getD_eq_getElem?_getD, List.getElem?_map, hx]
  rfl
/-- a block's cells laid anew -/
def layAt (cs : Array Value) : Obj → Obj
  | .cells _ t frozen => .cells cs t frozen
  | o => o
def startsC : Array Value := (startsZ.flatten.map fun z => Value.int .u64 z).toArray
def rootsC : Array Value := (rootsL.map fun x => Value.int .u64 (x.toNat : Int)).toArray
theorem rows_starts : (Rows.laid_bailey_hashes_starts : DataW Unit) = .agg (startsZ.map (Lib.tabData .u64)) := by kernel_rfl
theorem rows_roots : (Rows.laid_bailey_hashes_roots : DataW Unit) = Lib.tabData .u64 (rootsL.map fun x => (x.toNat : Int)) := by kernel_rfl
theorem gStarts : Tryd.prog.globalNamed "bailey/hashes.starts" = some 0 := by kernel_rfl
theorem gRoots : Tryd.prog.globalNamed "bailey/hashes.roots" = some 1 := by kernel_rfl
theorem tStarts : (Tryd.prog.globals[0]?).map (·.type) = some 61 := by kernel_rfl
theorem tRoots : (Tryd.prog.globals[1]?).map (·.type) = some 115 := by kernel_rfl
theorem cells8 : Tryd.prog.cellsOf 60 = 8 := by kernel_rfl
theorem cells80 : Tryd.prog.cellsOf 115 = 80 := by kernel_rfl
theorem cells64 : Tryd.prog.cellsOf 57 = 1 := by kernel_rfl
theorem hashTabs {W : World} (h : laidMet Tryd.prog [("bailey/hashes.starts", Rows.laid_bailey_hashes_starts), ("bailey/hashes.roots", Rows.laid_bailey_hashes_roots)] W) : StartsG W ∧ RootsG W := by
  rw [rows_starts, rows_roots] at h
  exact ⟨startsG_of gStarts tStarts Tryd.underlying61 Tryd.underlying60 Tryd.underlying57 cells64 cells8 h,
    rootsG_of (Lib.tabIs_of_head gRoots tRoots Tryd.underlying115 Tryd.underlying57 cells64 cells80 h.tail) gRoots⟩
end Go.Proofs.YtldheblkanimnaaDoor

/- The ground of the Hash laws. -/
