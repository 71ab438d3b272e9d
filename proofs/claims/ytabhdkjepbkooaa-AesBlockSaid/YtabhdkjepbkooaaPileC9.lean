/- Parts of one proof, joined: Bj, Bh, Bk, Bp, Bl, Bq, Br, Bs. -/
import Derived.Test.YtabhdkjepbkooaaPileC8
import Derived.Test.YtabhdkjepbkooaaPileC1
import Derived.Test.YtabhdkjepbkooaaPileC3
import Derived.Test.YtabhdkjepbkooaaPileC5

/- The reference's inverse, sub, boxes. -/
set_option linter.unusedVariables false
set_option linter.unusedSimpArgs false
namespace Go.Proofs.Ytabhdkjepbkooaa
open Go.RowKit

set_option maxRecDepth 100000 in
set_option maxHeartbeats 1600000 in
theorem rinverse_any (w : World) (a : BitVec 8) : Calls Try.prog 47 #[W8 a] w fun e w' => e = .returned (W8 (invR 7 a 1)) ∧ w = w' := by
  obtain ⟨R, hR⟩ : ∃ R, invR 7 a 1 = R := ⟨_, rfl⟩
  have HR := Lib.hid hR
  rw [hR]
  clear hR
  go_enter Try.func47, Try.ntmps47
  go_wp2
  go_loopw [0, 3, 4] (fun av pv iv W => ∃ (k m : Nat) (a' p' : BitVec 8), k + m = 7 ∧ av = W8 a' ∧ pv = W8 p' ∧ iv = .int .i64 (k : Int) ∧ Hid (invR m a' p' = R) ∧ W = w) (fun _ _ iv _ => 7 - (intOf iv).toNat)
  case atStart => exact ⟨0, 7, a, 1, rfl, rfl, rfl, rfl, HR, rfl⟩
  case round =>
    obtain ⟨k, m, a', p', hkm, rfl, rfl, rfl, HP, rfl⟩ := hrel
    by_cases hk : k = 7
    · obtain rfl : m = 0 := by omega
      subst hk
      have h1 : p' = R := HP.out
      subst h1
      go_wp2
      go_ret
      exact ⟨rfl, rfl⟩
    · obtain ⟨n, rfl⟩ : ∃ n, m = n + 1 := ⟨m - 1, by omega⟩
      have hki : (k : Int) < 7 := by omega
      have H1 := Lib.hid (show invR n (prodV a' a') (prodV p' (prodV a' a')) = R from HP.out)
      clear HP
      go_wp2_with fail
      refine (rtimes8_any wr a' a').mono ?_
      rintro e w' ⟨rfl, rfl⟩
      go_wp2_with fail
      refine (rtimes8_any wr p' (prodV a' a')).mono ?_
      rintro e w' ⟨rfl, rfl⟩
      go_wp2
      go_roundw
      case rel => exact ⟨k + 1, n, prodV a' a', prodV p' (prodV a' a'), by omega, rfl, rfl, by go_num, H1, by first | rfl | trivial⟩
      case measure => simp [intOf]; omega
theorem byte_shl1 : ∀ x : BitVec 8, i8 x * (2 : Int) % (256 : Int) = i8 (x <<< 1) := by decide +kernel
theorem byte_shr7 : ∀ x : BitVec 8, i8 x / (128 : Int) = i8 (x >>> 7) := by decide +kernel
theorem b8_or (x y : BitVec 8) : bits .or .u8 (i8 x) (i8 y) = i8 (x ||| y) := by
  unfold i8; rw [u8_or_nat _ _ x.isLt y.isLt, BitVec.toNat_or]
set_option maxRecDepth 100000 in
set_option maxHeartbeats 1600000 in
theorem rsub_any (w : World) (a : BitVec 8) : Calls Try.prog 42 #[W8 a] w fun e w' => e = .returned (W8 (boxAt boxL a)) ∧ w = w' := by
  obtain ⟨R, hR⟩ : ∃ R, boxAt boxL a = R := ⟨_, rfl⟩
  have HR := Lib.hid (show subR 5 (invR 7 a 1) 0x63 = R by rw [← hR, ← subV_box]; rfl)
  rw [hR]
  clear hR
  go_enter Try.func42, Try.ntmps42
  go_wp2_with fail
  refine (rinverse_any w a).mono ?_
  rintro e w' ⟨rfl, rfl⟩
  obtain ⟨x0, hx0⟩ : ∃ x, invR 7 a 1 = x := ⟨_, rfl⟩
  rw [hx0] at HR ⊢
  clear hx0
  go_wp2
  go_loopw [3, 4, 5] (fun xv sv iv W => ∃ (k m : Nat) (x' s' : BitVec 8), k + m = 5 ∧ xv = W8 x' ∧ sv = W8 s' ∧ iv = .int .i64 (k : Int) ∧ Hid (subR m x' s' = R) ∧ W = w) (fun _ _ iv _ => 5 - (intOf iv).toNat)
  case atStart => exact ⟨0, 5, x0, 0x63, rfl, rfl, rfl, rfl, HR, rfl⟩
  case round =>
    obtain ⟨k, m, x', s', hkm, rfl, rfl, rfl, HP, rfl⟩ := hrel
    by_cases hk : k = 5
    · obtain rfl : m = 0 := by omega
      subst hk
      have h1 : s' = R := HP.out
      subst h1
      go_wp2
      go_ret
      exact ⟨rfl, rfl⟩
    · obtain ⟨n, rfl⟩ : ∃ n, m = n + 1 := ⟨m - 1, by omega⟩
      have hki : (k : Int) < 5 := by omega
      have H1 := Lib.hid (show subR n (x' <<< 1 ||| x' >>> 7) (s' ^^^ x') = R from HP.out)
      have n1 := b8_xor s' x'
      have n2 := byte_shl1 x'
      have n3 := byte_shr7 x'
      have n4 := b8_or (x' <<< 1) (x' >>> 7)
      have hxl := i8_lt x'
      clear HP
      go_wp2
      go_roundw
      case rel => exact ⟨k + 1, n, x' <<< 1 ||| x' >>> 7, s' ^^^ x', by omega, rfl, rfl, by go_num, H1, by first | rfl | trivial⟩
      case measure => simp [intOf]; omega
end Go.Proofs.Ytabhdkjepbkooaa

/- The reference's Times, numbers alone: the shift by bytes, from the last byte on. -/
set_option linter.unusedVariables false
set_option linter.unusedSimpArgs false
namespace Go.Proofs.Ytabhdkjepbkooaa

/-- a byte shifted, with the bit of the one ahead -/
def shB (s : List (BitVec 8)) (i : Nat) : BitVec 8 := (s.getD i 0) >>> 1 ^^^ (if 0 < i ∧ (s.getD (i - 1) 0).getLsbD 0 then 0x80 else 0)
/-- the bytes from j on are shifted -/
def midL (s : List (BitVec 8)) (j : Nat) : List (BitVec 8) := st16 (fun i => if j ≤ i then shB s i else s.getD i 0)
theorem midL_length (s : List (BitVec 8)) (j : Nat) : (midL s j).length = 16 := st16_length _
theorem midL_top (s : List (BitVec 8)) (h : s.length = 16) : midL s 16 = s := by
  conv => rhs; rw [← st16_of s h]
  unfold midL
  refine st16_congr fun i hi => ?_
  rw [if_neg (by omega)]
theorem midL_set (s : List (BitVec 8)) (j : Nat) (hj : j < 16) : (midL s (j + 1)).set j (shB s j) = midL s j := by
  unfold midL
  rw [st16_set _ _ _ hj]
  refine st16_congr fun i hi => ?_
  by_cases e : i = j
  · subst e; rw [if_pos rfl, if_pos (Nat.le_refl _)]
  · rw [if_neg e]
    by_cases h : j ≤ i
    · rw [if_pos h, if_pos (by omega)]
    · rw [if_neg h, if_neg (by omega)]
theorem midL_get (s : List (BitVec 8)) (j k : Nat) (hk : k < 16) (h : k < j) : (midL s j).getD k 0 = s.getD k 0 := by
  unfold midL
  rw [st16_get _ _ hk, if_neg (by omega)]
theorem shrL_mid (s : List (BitVec 8)) : shrL s = if (s.getD 15 0).getLsbD 0 then (midL s 0).set 0 ((midL s 0).getD 0 0 ^^^ 0xe1) else midL s 0 := by
  by_cases h : (s.getD 15 0).getLsbD 0 = true
  · rw [if_pos h]
    unfold shrL midL
    rw [st16_set _ _ _ (by decide), st16_get _ _ (by decide)]
    refine st16_congr fun i hi => ?_
    by_cases e : i = 0
    · subst e
      rw [if_pos (show (0 = 0 ∧ _) from ⟨rfl, h⟩), if_pos rfl, if_pos (Nat.le_refl _)]
      rfl
    · rw [if_neg e, if_neg (show ¬ (i = 0 ∧ _) from fun x => e x.1), if_pos (Nat.zero_le _)]
      exact BitVec.xor_zero
  · rw [if_neg h]
    unfold shrL midL
    refine st16_congr fun i hi => ?_
    rw [if_neg (show ¬ (i = 0 ∧ _) from fun x => h x.2), if_pos (Nat.zero_le _)]
    exact BitVec.xor_zero
/-- bytes as numbers -/
theorem byte_half : ∀ x : BitVec 8, i8 x / (2 : Int) = i8 (x >>> 1) := by decide +kernel
theorem byte_odd : ∀ x : BitVec 8, i8 x % (2 : Int) = if x.getLsbD 0 then (1 : Int) else 0 := by decide +kernel
theorem byte_top : ∀ x : BitVec 8, i8 (x >>> 1) + (128 : Int) = i8 (x >>> 1 ^^^ 0x80) := by decide +kernel
theorem byte_low : ∀ x : BitVec 8, 0 ≤ i8 (x >>> 1) ∧ i8 (x >>> 1) ≤ 127 := by decide +kernel
theorem byte_bit : ∀ (x : BitVec 8) (k : Fin 8), i8 x / (2 : Int) ^ k.val % (2 : Int) = if x.getLsbD k.val then (1 : Int) else 0 := by decide +kernel
theorem byte_e1 (x : BitVec 8) : bits .xor .u8 (i8 x) 225 = i8 (x ^^^ 0xe1) := b8_xor x 0xe1
end Go.Proofs.Ytabhdkjepbkooaa

/- The reference's Xor; its Times. -/
set_option linter.unusedVariables false
set_option linter.unusedSimpArgs false
namespace Go.Proofs.Ytabhdkjepbkooaa
open Go.RowKit

/-- one by one -/
def xorL (xs ys : List (BitVec 8)) : List (BitVec 8) := List.zipWith (· ^^^ ·) xs ys
theorem xorL_length (xs ys : List (BitVec 8)) (h : xs.length ≤ ys.length) : (xorL xs ys).length = xs.length := by simp [xorL]; omega
theorem xorL_add (xs ys : List (BitVec 8)) (h : xs.length = 16) (h' : ys.length = 16) : xorL xs ys = addV xs ys := by
  refine List.ext_getElem (by rw [xorL_length _ _ (by omega), addV_length, h]) fun i h1 h2 => ?_
  have hi : i < 16 := by rw [addV_length] at h2; exact h2
  simp [xorL, addV, st16, List.getD_eq_getElem?_getD, List.getElem?_eq_getElem (show i < xs.length by omega), List.getElem?_eq_getElem (show i < ys.length by omega)]
theorem xorL_get (xs ys : List (BitVec 8)) (k : Nat) (x y : BitVec 8) (hx : xs[k]? = some x) (hy : ys[k]? = some y) : (xorL xs ys)[k]? = some (x ^^^ y) := by
  rw [xorL, List.getElem?_zipWith, hx, hy]
set_option maxRecDepth 100000 in
set_option maxHeartbeats 1600000 in
theorem rxor_any (w : World) (B : Nat) (A1 : Option Addr) (n c1 : Nat) (xs : List (BitVec 8)) (h1 : SlV w B A1 n c1 (xs.map W8)) (A2 : Option Addr) (n2 c2 : Nat) (ys : List (BitVec 8)) (h2 : SlV w B A2 n2 c2 (ys.map W8)) (hB : B ≤ w.heap.size) (hn : n ≤ n2) (hn9 : n ≤ 1000000) :
    Calls Try.prog 33 #[.slice A1 n c1, .slice A2 n2 c2] w fun e w' => e = .returned (.slice (some ⟨w.heap.size, 0, none⟩) n n) ∧ RowV 5 w' w.heap.size ((xorL xs ys).map W8) ∧ Below w.heap.size w w' := by
  have l1 : xs.length = n := by simpa using h1.len.symm
  have l2 : ys.length = n2 := by simpa using h2.len.symm
  obtain ⟨g, hg⟩ : ∃ g, w.heap.size = g := ⟨_, rfl⟩
  obtain ⟨R, hR⟩ : ∃ R, xorL xs ys = R := ⟨_, rfl⟩
  have hRl : R.length = n := by rw [← hR, xorL_length _ _ (by omega), l1]
  have hRk : ∀ k x y, xs[k]? = some x → ys[k]? = some y → R[k]? = some (x ^^^ y) := fun k x y hx hy => by rw [← hR]; exact xorL_get xs ys k x y hx hy
  rw [hR]
  have i1 : (n : Int) ≤ 1000000 := by omega
  have HG := Lib.hid hg
  have HS1 := Lib.hid h1
  have HS2 := Lib.hid h2
  have HRL := Lib.hid hRl
  have HRK := Lib.hid hRk
  have HL := Lib.hid (And.intro l1 l2)
  have HBG := Lib.hid (show B ≤ g by omega)
  clear hR hRl hRk h1 h2 l1 l2
  go_enter Try.func33, Try.ntmps33
  go_wp2_with (at_make; refine wlv_make Try.elem8 rfl _ rfl _ n rfl rfl (by omega) ?_; intro w1 hr1 hb1 hz1; rw [hg] at hr1 hb1)
  clear hg hz1
  go_loopw [6] (fun i wr => ∃ k : Nat, k ≤ n ∧ i = .int .i64 (k : Int) ∧ RowV 5 wr g ((R.take k ++ List.replicate (R.length - k) 0).map W8) ∧ Below g w wr) (fun i _ => n - (intOf i).toNat)
  case atStart => exact ⟨0, by omega, rfl, by rw [fill_zero, HRL.out, List.map_replicate]; exact hr1, hb1⟩
  case round =>
    clear hr1 hb1
    obtain ⟨k, hk, rfl, hr, hb⟩ := hrel
    by_cases hkn : k = n
    · subst hkn
      rw [fill_all _ _ _ HRL.out.symm] at hr
      have HR := Lib.hid hr
      have HBB := Lib.hid hb
      clear hr hb
      go_wp2
      go_ret
      rw [HG.out]
      exact ⟨rfl, HR.out, HBB.out⟩
    · have hki : (k : Int) < n := by omega
      have hki2 : (k : Int) < n2 := by omega
      obtain ⟨b1, o1, v1, rfl, hb1, hv1, hc1⟩ := (HS1.out.below (hb.mono HBG.out)).at_ (k := k) (by omega)
      obtain ⟨b2, o2, v2, rfl, hb2, hv2, hc2⟩ := (HS2.out.below (hb.mono HBG.out)).at_ (k := k) (by omega)
      rw [List.getElem?_map, Option.map_eq_some_iff] at hv1 hv2
      obtain ⟨x, hx, rfl⟩ := hv1
      obtain ⟨y, hy, rfl⟩ := hv2
      have hRk := HRK.out k x y hx hy
      have hcl : wr.cell? ⟨g, k, none⟩ = some (.int .u8 0) := hr.at_ (by rw [List.getElem?_map, fill_get _ _ _ (by have := HRL.out; omega)]; rfl)
      have hfz := hr.frozen k
      have hr2 := hr.set k (W8 (x ^^^ y))
      rw [← List.map_set, fill_set _ _ _ _ hRk] at hr2
      have hB2 := below_setV hb (Nat.le_refl g) k (W8 (x ^^^ y))
      have hxo := b8_xor x y
      have HR2 := Lib.hid hr2
      have HB2 := Lib.hid hB2
      clear hr2 hB2 hr hb hx hy hRk hb1 hb2
      go_wp2
      go_region
      go_wp2
      go_roundw
      case rel => exact ⟨k + 1, by omega, by go_num, HR2.out, HB2.out.drew⟩
      case measure => simp [intOf]; omega
end Go.Proofs.Ytabhdkjepbkooaa

/- The reference's boxes. -/
set_option linter.unusedVariables false
set_option linter.unusedSimpArgs false
namespace Go.Proofs.Ytabhdkjepbkooaa
open Go.RowKit

theorem boxAt_get (k : Nat) (h : k < 256) : boxAt boxL (BitVec.ofNat 8 k) = boxL.getD k 0 := by
  unfold boxAt
  rw [BitVec.toNat_ofNat, Nat.mod_eq_of_lt h]
set_option maxRecDepth 100000 in
set_option maxHeartbeats 1600000 in
theorem rboxes_any (w : World) : Calls Try.prog 20 #[] w fun e w' => ∃ g1 g2, e = .returned (.tuple #[.slice (some ⟨g1, 0, none⟩) 256 256, .slice (some ⟨g2, 0, none⟩) 256 256]) ∧ w.heap.size ≤ g1 ∧ w.heap.size ≤ g2 ∧ RowV 5 w' g1 (boxL.map W8) ∧ RowV 5 w' g2 (invL.map W8) ∧ Below w.heap.size w w' := by
  obtain ⟨z, hz⟩ : ∃ z, w.heap.size = z := ⟨_, rfl⟩
  have HZ := Lib.hid hz
  obtain ⟨bl, hbl⟩ : ∃ l, boxL = l := ⟨_, rfl⟩
  have hbll : bl.length = 256 := by rw [← hbl]; exact boxL_length
  have HBL := Lib.hid hbl
  have HBLL := Lib.hid hbll
  have hinv : invN bl 256 = invL := by rw [← hbl]; exact invN_box
  obtain ⟨il, hil⟩ : ∃ l, invL = l := ⟨_, rfl⟩
  rw [hil] at hinv ⊢
  have HIL := Lib.hid hinv
  rw [hbl]
  clear hbl hbll hinv hil
  go_enter Try.func20, Try.ntmps20
  go_wp2_with (first | ((with_reducible show wpList _ _ _ (⟨some 5, _, _, _, _, _⟩ :: _) _ _); refine wlv_make Try.elem8 rfl _ rfl _ 256 rfl rfl (by decide) ?_; intro w1 hr1 hb1 hz1; rw [hz] at hr1 hb1 hz1; obtain ⟨g2, hg2⟩ : ∃ g, w1.heap.size = g := ⟨_, rfl⟩; have hzg : z < g2 := (by omega); clear hz1) | ((with_reducible show wpList _ _ _ (⟨some 6, _, _, _, _, _⟩ :: _) _ _); refine wlv_make Try.elem8 rfl _ rfl _ 256 rfl rfl (by decide) ?_; intro w2 hr2 hb2 hz2))
  rw [hg2] at hr2 hb2 hz2
  have HR1 := Lib.hid (show RowV 5 w2 z ((bl.take 0 ++ List.replicate (bl.length - 0) 0).map W8) by rw [fill_zero, HBLL.out, List.map_replicate]; exact hr1.below hb2 (by omega))
  have HR2 := Lib.hid (show RowV 5 w2 g2 ((invN bl 0).map W8) by rw [invN, List.map_replicate]; exact hr2)
  have HB2 := Lib.hid (hb1.trans (hb2.mono (by omega)))
  clear hr1 hr2 hb1 hb2 hz2 hz hg2
  go_loopw [4] (fun iv W => ∃ k : Nat, k ≤ 256 ∧ iv = .int .i64 (k : Int) ∧ Hid (RowV 5 W z ((bl.take k ++ List.replicate (bl.length - k) 0).map W8)) ∧ Hid (RowV 5 W g2 ((invN bl k).map W8)) ∧ Hid (Below z w W)) (fun iv _ => 256 - (intOf iv).toNat)
  case atStart => exact ⟨0, by decide, rfl, HR1, HR2, HB2⟩
  case round =>
    clear HR1 HR2 HB2
    obtain ⟨k, hk, rfl, HR1, HR2, HB⟩ := hrel
    by_cases hk8 : k = 256
    · subst hk8
      have h1 := HR1.out
      rw [fill_all _ _ _ HBLL.out.symm] at h1
      have h2 := HR2.out
      rw [HIL.out] at h2
      have H12 := Lib.hid (And.intro h1 h2)
      clear h1 h2
      go_wp2
      go_ret2
      rw [HZ.out]
      exact ⟨z, g2, rfl, Nat.le_refl _, by omega, H12.out.1, H12.out.2, HB.out⟩
    · have hki : (k : Int) < 256 := by omega
      have hkn : k < 256 := by omega
      have hk0 : (0 : Int) ≤ k := by omega
      have hkm : (k : Int) % 256 = k := by omega
      have hcv := i8_ofNat k hkn
      have hsub := rsub_any wr (BitVec.ofNat 8 k)
      rw [boxAt_get k hkn, HBL.out, show W8 (BitVec.ofNat 8 k) = .int .u8 (k : Int) by rw [← hcv]] at hsub
      obtain ⟨x, hx⟩ : ∃ x, bl.getD k 0 = x := ⟨_, rfl⟩
      rw [hx] at hsub
      have hblk : bl[k]? = some x := by rw [get_at (by rw [HBLL.out]; exact hkn), hx]
      have hc1 : wr.cell? ⟨z, k, none⟩ = some (.int .u8 0) := HR1.out.at_ (by rw [List.getElem?_map, fill_get _ _ _ (by rw [HBLL.out]; exact hkn)]; rfl)
      have hf1 := HR1.out.frozen k
      have hs1 := HR1.out.set k (W8 x)
      rw [← List.map_set, fill_set _ _ _ _ hblk] at hs1
      obtain ⟨V, hV⟩ : ∃ V, wr.setCell ⟨z, k, none⟩ (W8 x) = V := ⟨_, rfl⟩
      have hR2V := HR2.out.far (p := ⟨z, k, none⟩) (show g2 ≠ z by omega) (W8 x)
      have hBV := below_setV HB.out (Nat.le_refl z) k (W8 x)
      rw [hV] at hs1 hR2V hBV
      have hc2 := hs1.at_ (i := k) (v := W8 x) (by rw [List.getElem?_map, List.getElem?_append_left (by rw [List.length_take, HBLL.out]; omega), List.getElem?_take_of_lt (by omega), hblk]; rfl)
      have h8 := i8_lt x
      obtain ⟨j, hj⟩ : ∃ j, (i8 x).toNat = j := ⟨_, rfl⟩
      have hjl : j < 256 := by omega
      have hfz := hR2V.frozen j
      obtain ⟨y, hy⟩ : ∃ y, (invN bl k).getD j 0 = y := ⟨_, rfl⟩
      have hcl := hR2V.at_ (map_at (l := invN bl k) (k := j) (by rw [invN_length]; exact hjl))
      rw [hy] at hcl
      have hr2 := hR2V.set j (W8 (BitVec.ofNat 8 k))
      rw [← List.map_set, show (invN bl k).set j (BitVec.ofNat 8 k) = invN bl (k + 1) by rw [invN, hx, ← hj, i8_nat]] at hr2
      have hr1 := hs1.far (p := ⟨g2, j, none⟩) (show z ≠ g2 by omega) (W8 (BitVec.ofNat 8 k))
      have hB2 := below_setV hBV (show z ≤ g2 by omega) j (W8 (BitVec.ofNat 8 k))
      rw [show W8 (BitVec.ofNat 8 k) = .int .u8 (k : Int) by rw [← hcv]] at hr1 hr2 hB2
      have HR1' := Lib.hid hr1
      have HR2' := Lib.hid hr2
      have HB2' := Lib.hid hB2
      have HSUB := Lib.hid hsub
      clear hr1 hr2 hB2 hy hx hcv hsub hblk hs1 hR2V hBV HR1 HR2 HB
      go_wp2_with fail
      refine HSUB.out.mono ?_
      rintro e w' ⟨rfl, rfl⟩
      go_wp2
      go_roundw
      case rel => exact ⟨k + 1, by omega, by go_num, HR1', HR2', HB2'⟩
      case measure => simp [intOf]; omega
end Go.Proofs.Ytabhdkjepbkooaa

/- The reference's Times. -/
set_option linter.unusedVariables false
set_option linter.unusedSimpArgs false
namespace Go.Proofs.Ytabhdkjepbkooaa
open Go.RowKit

/-- a block that begins with these bytes -/
def RowX (w : World) (g : Nat) (bs : List (BitVec 8)) (vr : List Value) : Prop := RowV 5 w g (bs.map W8 ++ vr)
theorem RowX.at_ {w : World} {g : Nat} {bs : List (BitVec 8)} {vr : List Value} (h : RowX w g bs vr) {k : Nat} (hk : k < bs.length) : w.cell? ⟨g, k, none⟩ = some (W8 (bs.getD k 0)) :=
  RowV.at_ h (by rw [List.getElem?_append_left (by rw [List.length_map]; exact hk)]; exact map_at hk)
theorem RowX.frozen {w : World} {g : Nat} {bs : List (BitVec 8)} {vr : List Value} (h : RowX w g bs vr) (k : Nat) : w.frozen? ⟨g, k, none⟩ = false := RowV.frozen h k
theorem RowX.set {w : World} {g : Nat} {bs : List (BitVec 8)} {vr : List Value} (h : RowX w g bs vr) {k : Nat} (hk : k < bs.length) (x : BitVec 8) : RowX (w.setCell ⟨g, k, none⟩ (W8 x)) g (bs.set k x) vr := by
  have h1 := RowV.set h k (W8 x)
  rw [List.set_append_left _ _ (by rw [List.length_map]; exact hk), ← List.map_set] at h1
  exact h1
theorem RowX.far {w : World} {g : Nat} {bs : List (BitVec 8)} {vr : List Value} (h : RowX w g bs vr) {p : Addr} (hp : g ≠ p.block) (u : Value) : RowX (w.setCell p u) g bs vr := RowV.far h hp u
theorem RowX.later {w w' : World} {g : Nat} {bs : List (BitVec 8)} {vr : List Value} (h : RowX w g bs vr) (hb : Below w.heap.size w w') : RowX w' g bs vr := RowV.later h hb
theorem RowX.lt {w : World} {g : Nat} {bs : List (BitVec 8)} {vr : List Value} (h : RowX w g bs vr) : g < w.heap.size := RowV.lt h
theorem RowX.sl {w : World} {g : Nat} {bs : List (BitVec 8)} {vr : List Value} (h : RowX w g bs vr) (c : Nat) (hc : c = (bs.map W8 ++ vr).length) (hm : c ≤ 9223372036854775807) : SlV w w.heap.size (some ⟨g, 0, none⟩) bs.length c (bs.map W8) := by
  have h1 := RowV.slOff h 0 bs.length (by simp) (by omega)
  rw [List.drop_zero, List.take_append_of_le_length (by simp), List.take_of_length_le (by simp), Nat.sub_zero, ← hc] at h1
  exact h1
theorem byte_shr (x : BitVec 8) (s : Nat) : i8 x / (2 : Int) ^ s = i8 (x >>> s) := by
  unfold i8; rw [BitVec.toNat_ushiftRight, Nat.shiftRight_eq_div_pow]; simp
theorem byte_bit' (x : BitVec 8) (k : Nat) : i8 (x >>> k) % (2 : Int) = if x.getLsbD k then (1 : Int) else 0 := by
  rw [byte_odd, BitVec.getLsbD_ushiftRight, Nat.add_zero]
set_option maxRecDepth 100000 in
set_option maxHeartbeats 4000000 in
theorem rtimes_any (w : World) (B b1 o1 c1 b2 o2 c2 : Nat) (x y : List (BitVec 8)) (hx : SlV w B (some ⟨b1, o1, none⟩) 16 c1 (x.map W8)) (hy : SlV w B (some ⟨b2, o2, none⟩) 16 c2 (y.map W8)) (hB : B ≤ w.heap.size) :
    Calls Try.prog 18 #[.slice (some ⟨b1, o1, none⟩) 16 c1, .slice (some ⟨b2, o2, none⟩) 16 c2] w fun e w' => ∃ g, e = .returned (.slice (some ⟨g, 0, none⟩) 16 16) ∧ w.heap.size ≤ g ∧ RowV 5 w' g ((byV (timesV (elV x) (elV y))).map W8) ∧ Below w.heap.size w w' := by
  have hxl : x.length = 16 := by have := hx.len; simp at this; omega
  have hyl : y.length = 16 := by have := hy.len; simp at this; omega
  obtain ⟨z, hz⟩ : ∃ z, w.heap.size = z := ⟨_, rfl⟩
  rw [hz] at hB
  obtain ⟨E, hE⟩ : ∃ E, elV x = E := ⟨_, rfl⟩
  obtain ⟨F, hF⟩ : ∃ F, elV y = F := ⟨_, rfl⟩
  have hyF : byV F = y := by rw [← hF]; exact byV_elV y hyl
  have hmsb : ∀ m, m < 128 → E.getMsbD m = (x.getD (m / 8) 0).getLsbD (7 - m % 8) := fun m hm => by rw [← hE]; exact elV_msb x m hm
  rw [hE, hF]
  have HX := Lib.hid hx
  have HY := Lib.hid hy
  have HZ := Lib.hid hz
  have HXL := Lib.hid (And.intro hxl hyl)
  have HYF := Lib.hid hyF
  have HMSB := Lib.hid hmsb
  have hzero : (List.replicate 16 (0 : BitVec 8)) = byV (partV E F 0) := by rw [partV_zero]; decide
  have HZR := Lib.hid hzero
  clear hx hy hxl hyl hE hF hyF hmsb hzero
  go_enter Try.func18, Try.ntmps18
  go_wp2_with (first | (at_make; refine wlv_make Try.elem8 rfl _ rfl _ 16 rfl rfl (by decide) ?_; intro w1 hr1 hb1 hz1; rw [hz] at hr1 hb1 hz1; have hy1 := (HY.out.below (hb1.mono hB)); have hB1 : B ≤ w1.heap.size := (by omega)) | (at_builtin; refine wlv_append Try.elem8 rfl _ _ rfl w1.heap.size (.slice none 0 0) 0 [] rfl ⟨rfl, .inl ⟨rfl, rfl⟩⟩ (some ⟨b2, o2, none⟩) 16 c2 (y.map W8) rfl (by intro h; cases h) B hy1 (ones8 y) (by decide) (Nat.le_refl _) ?_; intro v2 w2 hown2 hgr2; obtain ⟨gv, cv, vs, rfl, hgv, hcv1, hcv2, hvl, hvt, hrv⟩ := own_row hown2 (by decide)))
  obtain ⟨vr, hvrd⟩ : ∃ l, vs.drop 16 = l := ⟨_, rfl⟩
  rw [List.nil_append] at hvt
  have hvse : vs = y.map W8 ++ vr := by rw [← hvrd, ← hvt]; exact (List.take_append_drop 16 vs).symm
  have hb2 : Below z w w2 := hb1.grown hgr2 (by omega) (fun r e => by cases e)
  have hz2 : RowV 5 w2 z ((byV (partV E F 0)).map W8) := by
    rw [← HZR.out, List.map_replicate]
    exact hr1.kept hgr2 (fun r e => by cases e)
  have hvx : RowX w2 gv (byV (raiseN 0 F)) vr := by
    show RowV _ _ _ ((byV F).map W8 ++ vr)
    rw [HYF.out, ← hvse]; exact hrv
  have hcv : cv = (y.map W8 ++ vr).length := by rw [← hvse]; exact hvl.symm
  have hzv : z < gv := by omega
  have HCV := Lib.hid (And.intro hcv hcv2)
  have HV := Lib.hid hvx
  have HZ2 := Lib.hid hz2
  have HB2 := Lib.hid hb2
  have kcv : (16 : Int) ≤ cv := by omega
  have kcv2 : (cv : Int) ≤ 9223372036854775807 := by omega
  clear hr1 hb1 hz1 hy1 hB1 hown2 hgr2 hgv hcv1 hvl hvt hrv hvrd hvse hb2 hz2 hvx hcv hcv2 hz
  go_loopw [5, 7] (fun zv iv W => ∃ m gz : Nat, m ≤ 128 ∧ iv = .int .i64 (m : Int) ∧ zv = .slice (some ⟨gz, 0, none⟩) 16 16 ∧ z ≤ gz ∧ gz ≠ gv ∧ Hid (RowV 5 W gz ((byV (partV E F m)).map W8)) ∧ Hid (RowX W gv (byV (raiseN m F)) vr) ∧ Hid (Below z w W)) (fun _ iv _ => 128 - (intOf iv).toNat)
  case atStart => exact ⟨0, z, by decide, rfl, rfl, Nat.le_refl _, by omega, HZ2, HV, HB2⟩
  case round =>
    clear HZ2 HV HB2
    obtain ⟨m, gz, hm, rfl, rfl, hgz, hgzv, HR, HV, HB2⟩ := hrel
    obtain ⟨wo, rfl⟩ : ∃ V, V = wr := ⟨_, rfl⟩
    by_cases hm8 : m = 128
    · subst hm8
      go_wp2
      go_ret
      rw [HZ.out]
      exact ⟨gz, rfl, hgz, HR.out, HB2.out⟩
    · have hmi : (m : Int) < 128 := by omega
      have hmn : m < 128 := by omega
      obtain ⟨q, hq⟩ : ∃ q, m / 8 = q := ⟨_, rfl⟩
      obtain ⟨r, hr⟩ : ∃ r, 7 - m % 8 = r := ⟨_, rfl⟩
      have hqI : (m : Int) / 8 = (q : Int) := by omega
      have hrI : 7 - (m : Int) % 8 = (r : Int) := by omega
      have hq16 : (q : Int) < 16 := by omega
      have hr8 : r < 8 := by omega
      have hr0 : (0 : Int) ≤ r := by omega
      have hr64 : (r : Int) ≤ 7 := by omega
      obtain ⟨bx, ox, vx, e1, hbx, hvx, hcx⟩ := (HX.out.below (HB2.out.mono hB)).at_ (k := q) (by omega)
      injection e1 with e1
      injection e1 with e1 e2
      subst e1 e2
      have hxq := map_at (l := x) (k := q) (by have := HXL.out; omega)
      rw [hxq] at hvx
      injection hvx with hvx
      subst hvx
      have hmb := HMSB.out m hmn
      rw [hq, hr] at hmb
      obtain ⟨xb, hxb⟩ : ∃ b, x.getD q 0 = b := ⟨_, rfl⟩
      rw [hxb] at hcx hmb
      have hbit := byte_bit' xb r
      have hshr := byte_shr xb r
      rw [← hmb] at hbit
      have hps := partV_succ E F m
      have hb8 := i8_lt xb
      obtain ⟨sb, hsb⟩ : ∃ b, xb >>> r = b := ⟨_, rfl⟩
      rw [hsb] at hbit hshr
      have hsb8 := i8_lt sb
      clear hsb
      have HQR := Lib.hid (And.intro hq hr)
      clear hxq hxb hbx hq hr hmb
      by_cases hbt : E.getMsbD m = true
      · rw [if_pos hbt] at hbit hps
        have hs1 := (show RowV 5 wo gz ((byV (partV E F m)).map W8) from HR.out).sl (by rw [List.length_map, byV_length]; decide)
        rw [List.length_map, byV_length] at hs1
        have hs2 := HV.out.sl cv (by rw [HCV.out.1, List.length_append, List.length_append, List.length_map, List.length_map, byV_length, HXL.out.2]) HCV.out.2
        rw [byV_length] at hs2
        have hxor := rxor_any wo wo.heap.size _ 16 16 _ hs1 _ 16 cv _ hs2 (Nat.le_refl _) (Nat.le_refl _) (by decide)
        rw [xorL_add _ _ (byV_length _) (byV_length _), ← byV_xor, ← hps] at hxor
        obtain ⟨g3, hg3⟩ : ∃ g, wo.heap.size = g := ⟨_, rfl⟩
        have hg3z : z ≤ g3 := by have h1 := HB2.out.size; have h2 := HZ.out; omega
        have hg3v : g3 ≠ gv := by have := HV.out.lt; omega
        have hVl := HV.out
        rw [hg3] at hxor
        have HXOR := Lib.hid hxor
        have HG3 := Lib.hid hg3
        clear hxor hs1 hs2 hbt hps hVl hg3
        go_wp2_with fail
        refine HXOR.out.mono ?_
        rintro e w3 ⟨rfl, hr3, hb3⟩
        have HR3 := Lib.hid hr3
        have HV3 := Lib.hid (HV.out.later (by rw [HG3.out]; exact hb3))
        have HB3 := Lib.hid (HB2.out.trans (hb3.mono hg3z))
        clear hr3 hb3 HR HV HB2 HXOR
        obtain ⟨S, hS⟩ : ∃ S, byV (raiseN m F) = S := ⟨_, rfl⟩
        have hSl : S.length = 16 := by rw [← hS]; exact byV_length _
        have hsh := shrL_mid S
        rw [show shrL S = byV (raiseN (m + 1) F) by rw [← hS, shrL_byV]; rfl] at hsh
        have hmt := midL_top S hSl
        rw [hS] at HV3
        have c15 := HV3.out.at_ (k := 15) (by omega)
        obtain ⟨s15, hs15⟩ : ∃ b, S.getD 15 0 = b := ⟨_, rfl⟩
        rw [hs15] at c15 hsh
        have hs8 := i8_lt s15
        obtain ⟨lb, hlb⟩ : ∃ lb : Bool, (i8 s15 % 2 == 1) = lb := ⟨_, rfl⟩
        have hlb2 : s15.getLsbD 0 = lb := by
          rw [← hlb, byte_odd s15]
          cases s15.getLsbD 0 <;> rfl
        rw [hlb2] at hsh
        have HSH := Lib.hid hsh
        have HSL := Lib.hid hSl
        have HV4 := Lib.hid (show RowX w3 gv (midL S 16) vr by rw [hmt]; exact HV3.out)
        clear hsh hSl hmt hS hs15 hlb2 HV3
        go_wp2
        go_loopw [9] (fun kv W => ∃ j : Nat, j ≤ 16 ∧ kv = .int .i64 ((j : Int) - 1) ∧ Hid (RowX W gv (midL S j) vr) ∧ Hid (RowV 5 W g3 ((byV (partV E F (m + 1))).map W8) ∧ Below z w W)) (fun kv _ => (intOf kv + 1).toNat)
        case atStart => exact ⟨16, by decide, by go_num, HV4, Lib.hid ⟨HR3.out, HB3.out⟩⟩
        case round =>
          clear c15 HV4 HR3 HB3 hlb
          obtain ⟨j, hj, rfl, HVJ, HRJ⟩ := hrel
          by_cases hj0 : j = 0
          · subst hj0
            cases lb
            · have HN := Lib.hid (show RowX wr gv (byV (raiseN (m + 1) F)) vr by rw [HSH.out]; exact HVJ.out)
              go_wp2
              go_roundw
              case rel => exact ⟨m + 1, g3, by omega, by go_num, rfl, hg3z, hg3v, Lib.hid HRJ.out.1, HN, Lib.hid HRJ.out.2⟩
              case measure => simp [intOf]; omega
            · have c0 := HVJ.out.at_ (k := 0) (by rw [midL_length]; decide)
              have f0 := HVJ.out.frozen 0
              obtain ⟨u0, hu0⟩ : ∃ b, (midL S 0).getD 0 0 = b := ⟨_, rfl⟩
              have hsx := HVJ.out.set (k := 0) (by rw [midL_length]; decide) (u0 ^^^ 0xe1)
              have hex : (midL S 0).set 0 (u0 ^^^ 0xe1) = byV (raiseN (m + 1) F) := by rw [HSH.out, ← hu0]; rfl
              rw [hex] at hsx
              rw [hu0] at c0
              obtain ⟨u1, hu1⟩ : ∃ b, u0 ^^^ 0xe1 = b := ⟨_, rfl⟩
              have he1 := byte_e1 u0
              rw [hu1] at hsx he1
              have HN := Lib.hid hsx
              have HR5 := Lib.hid (HRJ.out.1.far (p := ⟨gv, 0, none⟩) hg3v (W8 u1))
              have HB5 := Lib.hid (below_setV HRJ.out.2 (show z ≤ gv by omega) 0 (W8 u1))
              clear hsx hex hu0 hu1
              go_wp2
              go_roundw
              case rel => exact ⟨m + 1, g3, by omega, by go_num, rfl, hg3z, hg3v, HR5, HN, HB5⟩
              case measure => simp [intOf]; omega
          · obtain ⟨k, hk⟩ : ∃ k, j - 1 = k := ⟨_, rfl⟩
            have hkI : (j : Int) - 1 = (k : Int) := by omega
            rw [hkI]
            have hk16 : k < 16 := by omega
            have hkI16 : (k : Int) < 16 := by omega
            have hkI0 : (0 : Int) ≤ k := by omega
            obtain rfl : j = k + 1 := by omega
            have c1 := HVJ.out.at_ (k := k) (by rw [midL_length]; exact hk16)
            rw [midL_get S (k + 1) k hk16 (by omega)] at c1
            have f1 := HVJ.out.frozen k
            have hms := midL_set S k hk16
            have hshB : shB S k = (S.getD k 0) >>> 1 ^^^ (if 0 < k ∧ (S.getD (k - 1) 0).getLsbD 0 then 0x80 else 0) := rfl
            obtain ⟨sp, hsp⟩ : ∃ b, S.getD k 0 = b := ⟨_, rfl⟩
            rw [hsp] at c1 hshB
            have hh := byte_half sp
            have ht := byte_top sp
            have htl := byte_low sp
            obtain ⟨s1, hs1⟩ : ∃ b, sp >>> 1 = b := ⟨_, rfl⟩
            rw [hs1] at hh ht htl hshB
            have hsp8 := i8_lt sp
            have hv2 := HVJ.out.set (k := k) (by rw [midL_length]; exact hk16) s1
            have f2 := hv2.frozen k
            have hR2 := HRJ.out.1.far (p := ⟨gv, k, none⟩) hg3v (W8 s1)
            have hB2 := below_setV HRJ.out.2 (show z ≤ gv by omega) k (W8 s1)
            have HV2 := Lib.hid hv2
            have HR2 := Lib.hid hR2
            have HBB2 := Lib.hid hB2
            by_cases hk0 : k = 0
            · have hkz : ¬ (0 : Int) < (k : Int) := by omega
              rw [if_neg (show ¬ (0 < k ∧ _) from fun h => by omega), show s1 ^^^ (0 : BitVec 8) = s1 from BitVec.xor_zero] at hshB
              rw [hshB] at hms
              have HMS := Lib.hid hms
              clear hms hshB hs1 hsp hk hk0 hv2 hR2 hB2 HVJ HRJ
              go_wp2
              go_roundw
              case rel => exact ⟨k, by omega, by go_num, Lib.hid (by rw [← HMS.out]; exact HV2.out), Lib.hid ⟨HR2.out, HBB2.out⟩⟩
              case measure => simp [intOf]
            · have hkz : (0 : Int) < (k : Int) := by omega
              obtain ⟨k1, hk1⟩ : ∃ k1, k - 1 = k1 := ⟨_, rfl⟩
              have hk1I : (k : Int) - 1 = (k1 : Int) := by omega
              have hk10 : (0 : Int) ≤ k1 := by omega
              have hk116 : (k1 : Int) < 16 := by omega
              have c2 := hv2.at_ (k := k1) (by rw [List.length_set, midL_length]; omega)
              have hgd : ((midL S (k + 1)).set k s1).getD k1 0 = S.getD k1 0 := by
                rw [List.getD_eq_getElem?_getD, List.getElem?_set_ne (by omega), ← List.getD_eq_getElem?_getD, midL_get S (k + 1) k1 (by omega) (by omega)]
              rw [hgd] at c2
              rw [hk1] at hshB
              obtain ⟨sq, hsq⟩ : ∃ b, S.getD k1 0 = b := ⟨_, rfl⟩
              rw [hsq] at c2 hshB
              have hsq8 := i8_lt sq
              have hod := byte_odd sq
              by_cases hbb : sq.getLsbD 0 = true
              · rw [if_pos hbb] at hod
                rw [if_pos (show 0 < k ∧ sq.getLsbD 0 = true from ⟨by omega, hbb⟩)] at hshB
                have c3 := hv2.at_ (k := k) (by rw [List.length_set, midL_length]; exact hk16)
                rw [show ((midL S (k + 1)).set k s1).getD k 0 = s1 by rw [List.getD_eq_getElem?_getD, List.getElem?_set_self (by rw [midL_length]; exact hk16)]; rfl] at c3
                obtain ⟨s2, hs2⟩ : ∃ b, s1 ^^^ 0x80 = b := ⟨_, rfl⟩
                have ht2 : i8 s1 + (128 : Int) = i8 s2 := by rw [ht, hs2]
                have hv3 := hv2.set (k := k) (by rw [List.length_set, midL_length]; exact hk16) s2
                have hR3 := hR2.far (p := ⟨gv, k, none⟩) hg3v (W8 s2)
                have hB3 := below_setV hB2 (show z ≤ gv by omega) k (W8 s2)
                rw [List.set_set, show s2 = shB S k by rw [hshB, hs2], hms, ← show s2 = shB S k by rw [hshB, hs2]] at hv3
                have HV5 := Lib.hid hv3
                have HR5 := Lib.hid hR3
                have HB5 := Lib.hid hB3
                clear hms hshB hs1 hsp hk hk0 hv2 hR2 hB2 hv3 hR3 hB3 HVJ HRJ hsq hbb hgd hs2 ht hk1
                go_wp2
                go_roundw
                case rel => exact ⟨k, by omega, by go_num, HV5, Lib.hid ⟨HR5.out, HB5.out⟩⟩
                case measure => simp [intOf]; omega
              · rw [if_neg hbb] at hod
                rw [if_neg (show ¬ (0 < k ∧ sq.getLsbD 0 = true) from fun h => hbb h.2), show s1 ^^^ (0 : BitVec 8) = s1 from BitVec.xor_zero] at hshB
                rw [hshB] at hms
                have HMS := Lib.hid hms
                clear hms hshB hs1 hsp hk hk0 hv2 hR2 hB2 HVJ HRJ hsq hbb hgd ht hk1
                go_wp2
                go_roundw
                case rel => exact ⟨k, by omega, by go_num, Lib.hid (by rw [← HMS.out]; exact HV2.out), Lib.hid ⟨HR2.out, HBB2.out⟩⟩
                case measure => simp [intOf]; omega
      · rw [if_neg hbt] at hbit hps
        obtain ⟨g3, rfl⟩ : ∃ g, g = gz := ⟨_, rfl⟩
        obtain ⟨w3, rfl⟩ : ∃ V, V = wo := ⟨_, rfl⟩
        have hg3z := hgz
        have hg3v := hgzv
        have HR3 := Lib.hid (show RowV 5 w3 g3 ((byV (partV E F (m + 1))).map W8) by rw [hps]; exact HR.out)
        have HV3 := HV
        have HB3 := HB2
        clear hps hbt HR HV HB2
        obtain ⟨S, hS⟩ : ∃ S, byV (raiseN m F) = S := ⟨_, rfl⟩
        have hSl : S.length = 16 := by rw [← hS]; exact byV_length _
        have hsh := shrL_mid S
        rw [show shrL S = byV (raiseN (m + 1) F) by rw [← hS, shrL_byV]; rfl] at hsh
        have hmt := midL_top S hSl
        rw [hS] at HV3
        have c15 := HV3.out.at_ (k := 15) (by omega)
        obtain ⟨s15, hs15⟩ : ∃ b, S.getD 15 0 = b := ⟨_, rfl⟩
        rw [hs15] at c15 hsh
        have hs8 := i8_lt s15
        obtain ⟨lb, hlb⟩ : ∃ lb : Bool, (i8 s15 % 2 == 1) = lb := ⟨_, rfl⟩
        have hlb2 : s15.getLsbD 0 = lb := by
          rw [← hlb, byte_odd s15]
          cases s15.getLsbD 0 <;> rfl
        rw [hlb2] at hsh
        have HSH := Lib.hid hsh
        have HSL := Lib.hid hSl
        have HV4 := Lib.hid (show RowX w3 gv (midL S 16) vr by rw [hmt]; exact HV3.out)
        clear hsh hSl hmt hS hs15 hlb2 HV3
        go_wp2
        go_loopw [9] (fun kv W => ∃ j : Nat, j ≤ 16 ∧ kv = .int .i64 ((j : Int) - 1) ∧ Hid (RowX W gv (midL S j) vr) ∧ Hid (RowV 5 W g3 ((byV (partV E F (m + 1))).map W8) ∧ Below z w W)) (fun kv _ => (intOf kv + 1).toNat)
        case atStart => exact ⟨16, by decide, by go_num, HV4, Lib.hid ⟨HR3.out, HB3.out⟩⟩
        case round =>
          clear c15 HV4 HR3 HB3 hlb
          obtain ⟨j, hj, rfl, HVJ, HRJ⟩ := hrel
          by_cases hj0 : j = 0
          · subst hj0
            cases lb
            · have HN := Lib.hid (show RowX wr gv (byV (raiseN (m + 1) F)) vr by rw [HSH.out]; exact HVJ.out)
              go_wp2
              go_roundw
              case rel => exact ⟨m + 1, g3, by omega, by go_num, rfl, hg3z, hg3v, Lib.hid HRJ.out.1, HN, Lib.hid HRJ.out.2⟩
              case measure => simp [intOf]; omega
            · have c0 := HVJ.out.at_ (k := 0) (by rw [midL_length]; decide)
              have f0 := HVJ.out.frozen 0
              obtain ⟨u0, hu0⟩ : ∃ b, (midL S 0).getD 0 0 = b := ⟨_, rfl⟩
              have hsx := HVJ.out.set (k := 0) (by rw [midL_length]; decide) (u0 ^^^ 0xe1)
              have hex : (midL S 0).set 0 (u0 ^^^ 0xe1) = byV (raiseN (m + 1) F) := by rw [HSH.out, ← hu0]; rfl
              rw [hex] at hsx
              rw [hu0] at c0
              obtain ⟨u1, hu1⟩ : ∃ b, u0 ^^^ 0xe1 = b := ⟨_, rfl⟩
              have he1 := byte_e1 u0
              rw [hu1] at hsx he1
              have HN := Lib.hid hsx
              have HR5 := Lib.hid (HRJ.out.1.far (p := ⟨gv, 0, none⟩) hg3v (W8 u1))
              have HB5 := Lib.hid (below_setV HRJ.out.2 (show z ≤ gv by omega) 0 (W8 u1))
              clear hsx hex hu0 hu1
              go_wp2
              go_roundw
              case rel => exact ⟨m + 1, g3, by omega, by go_num, rfl, hg3z, hg3v, HR5, HN, HB5⟩
              case measure => simp [intOf]; omega
          · obtain ⟨k, hk⟩ : ∃ k, j - 1 = k := ⟨_, rfl⟩
            have hkI : (j : Int) - 1 = (k : Int) := by omega
            rw [hkI]
            have hk16 : k < 16 := by omega
            have hkI16 : (k : Int) < 16 := by omega
            have hkI0 : (0 : Int) ≤ k := by omega
            obtain rfl : j = k + 1 := by omega
            have c1 := HVJ.out.at_ (k := k) (by rw [midL_length]; exact hk16)
            rw [midL_get S (k + 1) k hk16 (by omega)] at c1
            have f1 := HVJ.out.frozen k
            have hms := midL_set S k hk16
            have hshB : shB S k = (S.getD k 0) >>> 1 ^^^ (if 0 < k ∧ (S.getD (k - 1) 0).getLsbD 0 then 0x80 else 0) := rfl
            obtain ⟨sp, hsp⟩ : ∃ b, S.getD k 0 = b := ⟨_, rfl⟩
            rw [hsp] at c1 hshB
            have hh := byte_half sp
            have ht := byte_top sp
            have htl := byte_low sp
            obtain ⟨s1, hs1⟩ : ∃ b, sp >>> 1 = b := ⟨_, rfl⟩
            rw [hs1] at hh ht htl hshB
            have hsp8 := i8_lt sp
            have hv2 := HVJ.out.set (k := k) (by rw [midL_length]; exact hk16) s1
            have f2 := hv2.frozen k
            have hR2 := HRJ.out.1.far (p := ⟨gv, k, none⟩) hg3v (W8 s1)
            have hB2 := below_setV HRJ.out.2 (show z ≤ gv by omega) k (W8 s1)
            have HV2 := Lib.hid hv2
            have HR2 := Lib.hid hR2
            have HBB2 := Lib.hid hB2
            by_cases hk0 : k = 0
            · have hkz : ¬ (0 : Int) < (k : Int) := by omega
              rw [if_neg (show ¬ (0 < k ∧ _) from fun h => by omega), show s1 ^^^ (0 : BitVec 8) = s1 from BitVec.xor_zero] at hshB
              rw [hshB] at hms
              have HMS := Lib.hid hms
              clear hms hshB hs1 hsp hk hk0 hv2 hR2 hB2 HVJ HRJ
              go_wp2
              go_roundw
              case rel => exact ⟨k, by omega, by go_num, Lib.hid (by rw [← HMS.out]; exact HV2.out), Lib.hid ⟨HR2.out, HBB2.out⟩⟩
              case measure => simp [intOf]
            · have hkz : (0 : Int) < (k : Int) := by omega
              obtain ⟨k1, hk1⟩ : ∃ k1, k - 1 = k1 := ⟨_, rfl⟩
              have hk1I : (k : Int) - 1 = (k1 : Int) := by omega
              have hk10 : (0 : Int) ≤ k1 := by omega
              have hk116 : (k1 : Int) < 16 := by omega
              have c2 := hv2.at_ (k := k1) (by rw [List.length_set, midL_length]; omega)
              have hgd : ((midL S (k + 1)).set k s1).getD k1 0 = S.getD k1 0 := by
                rw [List.getD_eq_getElem?_getD, List.getElem?_set_ne (by omega), ← List.getD_eq_getElem?_getD, midL_get S (k + 1) k1 (by omega) (by omega)]
              rw [hgd] at c2
              rw [hk1] at hshB
              obtain ⟨sq, hsq⟩ : ∃ b, S.getD k1 0 = b := ⟨_, rfl⟩
              rw [hsq] at c2 hshB
              have hsq8 := i8_lt sq
              have hod := byte_odd sq
              by_cases hbb : sq.getLsbD 0 = true
              · rw [if_pos hbb] at hod
                rw [if_pos (show 0 < k ∧ sq.getLsbD 0 = true from ⟨by omega, hbb⟩)] at hshB
                have c3 := hv2.at_ (k := k) (by rw [List.length_set, midL_length]; exact hk16)
                rw [show ((midL S (k + 1)).set k s1).getD k 0 = s1 by rw [List.getD_eq_getElem?_getD, List.getElem?_set_self (by rw [midL_length]; exact hk16)]; rfl] at c3
                obtain ⟨s2, hs2⟩ : ∃ b, s1 ^^^ 0x80 = b := ⟨_, rfl⟩
                have ht2 : i8 s1 + (128 : Int) = i8 s2 := by rw [ht, hs2]
                have hv3 := hv2.set (k := k) (by rw [List.length_set, midL_length]; exact hk16) s2
                have hR3 := hR2.far (p := ⟨gv, k, none⟩) hg3v (W8 s2)
                have hB3 := below_setV hB2 (show z ≤ gv by omega) k (W8 s2)
                rw [List.set_set, show s2 = shB S k by rw [hshB, hs2], hms, ← show s2 = shB S k by rw [hshB, hs2]] at hv3
                have HV5 := Lib.hid hv3
                have HR5 := Lib.hid hR3
                have HB5 := Lib.hid hB3
                clear hms hshB hs1 hsp hk hk0 hv2 hR2 hB2 hv3 hR3 hB3 HVJ HRJ hsq hbb hgd hs2 ht hk1
                go_wp2
                go_roundw
                case rel => exact ⟨k, by omega, by go_num, HV5, Lib.hid ⟨HR5.out, HB5.out⟩⟩
                case measure => simp [intOf]; omega
              · rw [if_neg hbb] at hod
                rw [if_neg (show ¬ (0 < k ∧ sq.getLsbD 0 = true) from fun h => hbb h.2), show s1 ^^^ (0 : BitVec 8) = s1 from BitVec.xor_zero] at hshB
                rw [hshB] at hms
                have HMS := Lib.hid hms
                clear hms hshB hs1 hsp hk hk0 hv2 hR2 hB2 HVJ HRJ hsq hbb hgd ht hk1
                go_wp2
                go_roundw
                case rel => exact ⟨k, by omega, by go_num, Lib.hid (by rw [← HMS.out]; exact HV2.out), Lib.hid ⟨HR2.out, HBB2.out⟩⟩
                case measure => simp [intOf]; omega
end Go.Proofs.Ytabhdkjepbkooaa

/- The reference's mix. -/
set_option linter.unusedVariables false
set_option linter.unusedSimpArgs false
namespace Go.Proofs.Ytabhdkjepbkooaa
open Go.RowKit

/-- the first n bytes mixed -/
def mixP (s ms : List (BitVec 8)) (n : Nat) : List (BitVec 8) := st16 (fun i => if i < n then rowV s ms i else 0)
theorem mixP_length (s ms : List (BitVec 8)) (n : Nat) : (mixP s ms n).length = 16 := st16_length _
theorem mixP_zero (s ms : List (BitVec 8)) : mixP s ms 0 = List.replicate 16 0 := by
  unfold mixP
  rw [show (fun i => if i < 0 then rowV s ms i else 0) = (fun _ => (0 : BitVec 8)) by funext i; rw [if_neg (by omega)]]
  rfl
theorem mixP_all (s ms : List (BitVec 8)) : mixP s ms 16 = mixR s ms := by
  unfold mixP mixR
  refine st16_congr fun i hi => ?_
  rw [if_pos hi]
theorem mixP_succ (s ms : List (BitVec 8)) (n : Nat) (hn : n < 16) : (mixP s ms n).set n (rowV s ms n) = mixP s ms (n + 1) := by
  unfold mixP
  rw [st16_set _ _ _ hn]
  refine st16_congr fun i hi => ?_
  by_cases e : i = n
  · subst e; rw [if_pos rfl, if_pos (by omega)]
  · rw [if_neg e]
    by_cases h : i < n
    · rw [if_pos h, if_pos (by omega)]
    · rw [if_neg h, if_neg (by omega)]
theorem rowV_at (s ms : List (BitVec 8)) (c r : Nat) (hr : r < 4) : rowV s ms (4 * c + r) = xor4L (fun k => prodV (s.getD (4 * c + k) 0) (ms.getD ((k + 4 - r) % 4) 0)) 4 := by
  unfold rowV
  rw [show (4 * c + r) / 4 = c by omega, show (4 * c + r) % 4 = r by omega]
set_option maxRecDepth 100000 in
set_option maxHeartbeats 4000000 in
theorem rmix_any (w : World) (B b1 o1 c1 : Nat) (s : List (BitVec 8)) (h1 : SlV w B (some ⟨b1, o1, none⟩) 16 c1 (s.map W8)) (b2 o2 c2 : Nat) (ms : List (BitVec 8)) (h2 : SlV w B (some ⟨b2, o2, none⟩) 4 c2 (ms.map W8)) (hB : B ≤ w.heap.size) :
    Calls Try.prog 34 #[.slice (some ⟨b1, o1, none⟩) 16 c1, .slice (some ⟨b2, o2, none⟩) 4 c2] w fun e w' => ∃ g, e = .returned (.slice (some ⟨g, 0, none⟩) 16 16) ∧ w.heap.size ≤ g ∧ RowV 5 w' g ((mixR s ms).map W8) ∧ Below w.heap.size w w' := by
  have hsl : s.length = 16 := by have := h1.len; simp at this; omega
  have hml : ms.length = 4 := by have := h2.len; simp at this; omega
  obtain ⟨z, hz⟩ : ∃ z, w.heap.size = z := ⟨_, rfl⟩
  rw [hz] at hB
  have HZ := Lib.hid hz
  have H1 := Lib.hid h1
  have H2 := Lib.hid h2
  have HL := Lib.hid (And.intro hsl hml)
  clear h1 h2 hsl hml
  go_enter Try.func34, Try.ntmps34
  go_wp2_with (at_make; refine wlv_make Try.elem8 rfl _ rfl _ 16 rfl rfl (by decide) ?_; intro w1 hr1 hb1 hz1; rw [hz] at hr1 hb1 hz1)
  have HR1 := Lib.hid (show RowV 5 w1 z ((mixP s ms (4 * 0)).map W8) by rw [mixP_zero, List.map_replicate]; exact hr1)
  have HB1 := Lib.hid hb1
  clear hr1 hb1 hz1 hz
  go_loopw [6] (fun cv W => ∃ c : Nat, c ≤ 4 ∧ cv = .int .i64 (c : Int) ∧ Hid (RowV 5 W z ((mixP s ms (4 * c)).map W8)) ∧ Hid (Below z w W)) (fun cv _ => 4 - (intOf cv).toNat)
  case atStart => exact ⟨0, by decide, rfl, HR1, HB1⟩
  case round =>
    clear HR1 HB1
    obtain ⟨c, hc, rfl, HRc, HBc⟩ := hrel
    by_cases hc4 : c = 4
    · subst hc4
      have h := HRc.out
      rw [mixP_all] at h
      have H := Lib.hid h
      clear h
      go_wp2
      go_ret
      rw [HZ.out]
      exact ⟨z, rfl, Nat.le_refl _, H.out, HBc.out⟩
    · have hci : (c : Int) < 4 := by omega
      have hci0 : (0 : Int) ≤ c := by omega
      go_wp2
      go_loopw [7] (fun rv W => ∃ r : Nat, r ≤ 4 ∧ rv = .int .i64 (r : Int) ∧ Hid (RowV 5 W z ((mixP s ms (4 * c + r)).map W8)) ∧ Hid (Below z w W)) (fun rv _ => 4 - (intOf rv).toNat)
      case atStart => exact ⟨0, by decide, rfl, HRc, HBc⟩
      case round =>
        clear HRc HBc
        obtain ⟨r, hr, rfl, HRr, HBr⟩ := hrel
        by_cases hr4 : r = 4
        · subst hr4
          go_wp2
          go_roundw
          case rel => exact ⟨c + 1, by omega, by go_num, HRr, HBr⟩
          case measure => simp [intOf]; omega
        · have hri : (r : Int) < 4 := by omega
          have hri0 : (0 : Int) ≤ r := by omega
          have hrn : r < 4 := by omega
          have HROW := Lib.hid (rowV_at s ms c r hrn)
          go_wp2
          go_loopw [8, 9] (fun xv kv W => ∃ (k : Nat) (x : BitVec 8), k ≤ 4 ∧ kv = .int .i64 (k : Int) ∧ xv = W8 x ∧ Hid (x = xor4L (fun k => prodV (s.getD (4 * c + k) 0) (ms.getD ((k + 4 - r) % 4) 0)) k) ∧ Hid (RowV 5 W z ((mixP s ms (4 * c + r)).map W8)) ∧ Hid (Below z w W)) (fun _ kv _ => 4 - (intOf kv).toNat)
          case atStart => exact ⟨0, 0, by decide, rfl, rfl, Lib.hid rfl, HRr, HBr⟩
          case round =>
            clear HRr HBr
            obtain ⟨k, x, hk, rfl, rfl, HX, HR, HBk⟩ := hrel
            by_cases hk4 : k = 4
            · subst hk4
              have hx := HX.out
              rw [← HROW.out] at hx
              obtain ⟨p, hp⟩ : ∃ p, 4 * c + r = p := ⟨_, rfl⟩
              have hpI : 4 * (c : Int) + (r : Int) = (p : Int) := by omega
              have hp16 : p < 16 := by omega
              have hpI16 : (p : Int) < 16 := by omega
              have hpI0 : (0 : Int) ≤ p := by omega
              have hRo := HR.out
              rw [hp] at hx hRo
              have hcl := hRo.at_ (map_at (l := mixP s ms p) (k := p) (by rw [mixP_length]; exact hp16))
              obtain ⟨y, hy⟩ : ∃ y, (mixP s ms p).getD p 0 = y := ⟨_, rfl⟩
              rw [hy] at hcl
              have hfz := hRo.frozen p
              have hst := hRo.set p (W8 x)
              rw [← List.map_set, hx, mixP_succ s ms p hp16, ← hx] at hst
              have hB2 := below_setV HBk.out (Nat.le_refl z) p (W8 x)
              have HST := Lib.hid hst
              have HB2 := Lib.hid hB2
              have HP := Lib.hid (show p + 1 = 4 * c + (r + 1) by omega)
              clear hx hy hst hB2 hRo hp HX HR HBk
              go_wp2
              go_roundw
              case rel => exact ⟨r + 1, by omega, by go_num, Lib.hid (by rw [← HP.out]; exact HST.out), HB2⟩
              case measure => simp [intOf]; omega
            · have hki : (k : Int) < 4 := by omega
              have hki0 : (0 : Int) ≤ k := by omega
              obtain ⟨p, hp⟩ : ∃ p, 4 * c + k = p := ⟨_, rfl⟩
              have hpI : 4 * (c : Int) + (k : Int) = (p : Int) := by omega
              have hpI16 : (p : Int) < 16 := by omega
              have hpI0 : (0 : Int) ≤ p := by omega
              obtain ⟨d, hd⟩ : ∃ d, k + 4 - r = d := ⟨_, rfl⟩
              have hdI : (k : Int) - (r : Int) + 4 = (d : Int) := by omega
              have hdI0 : (0 : Int) ≤ d := by omega
              have hdI8 : (d : Int) ≤ 8 := by omega
              obtain ⟨q, hq⟩ : ∃ q, d % 4 = q := ⟨_, rfl⟩
              have hqI : (d : Int) % 4 = (q : Int) := by omega
              have hqI4 : (q : Int) < 4 := by omega
              have hqI0 : (0 : Int) ≤ q := by omega
              obtain ⟨bx, ox, v1, e1, _, hv1, hc1⟩ := (H1.out.below (HBk.out.mono hB)).at_ (k := p) (by omega)
              injection e1 with e1
              injection e1 with e1 e2
              subst e1 e2
              rw [map_at (by have := HL.out; omega)] at hv1
              injection hv1 with hv1
              subst hv1
              obtain ⟨by_, oy, v2, e1, _, hv2, hc2⟩ := (H2.out.below (HBk.out.mono hB)).at_ (k := q) (by omega)
              injection e1 with e1
              injection e1 with e1 e2
              subst e1 e2
              rw [map_at (by have := HL.out; omega)] at hv2
              injection hv2 with hv2
              subst hv2
              have hxn : x ^^^ prodV (s.getD p 0) (ms.getD q 0) = xor4L (fun k => prodV (s.getD (4 * c + k) 0) (ms.getD ((k + 4 - r) % 4) 0)) (k + 1) := by
                rw [HX.out, xor4L, hp, hd, hq]
              obtain ⟨u, hu⟩ : ∃ u, s.getD p 0 = u := ⟨_, rfl⟩
              obtain ⟨v, hv⟩ : ∃ v, ms.getD q 0 = v := ⟨_, rfl⟩
              rw [hu] at hc1 hxn
              rw [hv] at hc2 hxn
              have hxo := b8_xor x (prodV u v)
              have HXN := Lib.hid hxn
              have HDR := Lib.hid (show Hid (RowV 5 wr.drew z ((mixP s ms (4 * c + r)).map W8)) ∧ Hid (Below z w wr.drew) from ⟨HR, Lib.hid HBk.out.drew⟩)
              clear hxn hu hv
              obtain ⟨c4, hc4'⟩ : ∃ c4, 4 * c = c4 := ⟨_, rfl⟩
              have w1 : IntKind.i64.wrap (4 * (c : Int)) = (c4 : Int) := by rw [IntKind.wrap_i64]; omega
              have w2 : IntKind.i64.wrap ((c4 : Int) + (k : Int)) = (p : Int) := by rw [IntKind.wrap_i64]; omega
              have w3 : IntKind.i64.wrap ((k : Int) - (r : Int)) = (k : Int) - (r : Int) := by rw [IntKind.wrap_i64]; omega
              have w4 : IntKind.i64.wrap ((k : Int) - (r : Int) + 4) = (d : Int) := by rw [IntKind.wrap_i64]; omega
              have w5 : (d : Int).tmod 4 = (q : Int) := by rw [Int.tmod_eq_emod_of_nonneg hdI0]; exact hqI
              clear hc4' hpI hdI hqI hp hd hq
              have HT := Lib.hid (fun W => ((rtimes8_any W u v).mono (fun e w' h => ⟨h.1, h.2.symm⟩) : Calls Try.prog 21 #[W8 u, W8 v] W fun e w' => e = .returned (W8 (prodV u v)) ∧ w' = W))
              go_wp2_with fail
              refine wp_region_still_tail 18 (by kernel_rfl) (by kernel_rfl) ?_
              simp only [List.take_succ_cons, List.take_zero, List.drop_succ_cons, List.drop_zero]
              show wpStill _ _ (World.drew _) (fun a' => wpList _ _ _ _ a' (World.drew _)) _ _
              generalize hV0 : World.drew _ = V0
              have hc1' : V0.cell? ⟨b1, o1 + p, none⟩ = some (W8 u) := by rw [← hV0]; exact hc1
              have hc2' : V0.cell? ⟨b2, o2 + q, none⟩ = some (W8 v) := by rw [← hV0]; exact hc2
              rw [hV0] at HDR
              clear hc1 hc2 hV0
              iterate 16 (refine wpStill_step (fun K hK => ?_); go_simp; refine hK _ ?_; clear hK K)
              refine wpStill_step (fun K hK => ?_)
              go_simp
              refine ⟨_, HT.out _, hK _ ?_⟩
              clear hK K
              refine wpStill_step (fun K hK => ?_); go_simp; refine hK _ ?_; clear hK K
              refine wpStill_nil ?_
              go_wp2
              go_roundw
              case rel => exact ⟨k + 1, x ^^^ prodV u v, by omega, by go_num, rfl, HXN, HDR.out.1, HDR.out.2⟩
              case measure => simp [intOf]; omega
end Go.Proofs.Ytabhdkjepbkooaa

/- The reference's cipher of a key; its Encrypt. -/
set_option linter.unusedVariables false
set_option linter.unusedSimpArgs false
namespace Go.Proofs.Ytabhdkjepbkooaa
open Go.RowKit

/-- the slices of the round keys in the block of all of them -/
def keySl (gw n : Nat) : List Value := (List.range n).map fun i => Value.slice (some ⟨gw, 16 * i, none⟩) 16 16
theorem keySl_at (gw n i : Nat) (h : i < n) : (keySl gw n)[i]? = some (.slice (some ⟨gw, 16 * i, none⟩) 16 16) := by
  simp [keySl, h]
/-- the reference's cipher of a key in block g -/
structure RcR (w : World) (g : Nat) (key : List (BitVec 8)) (gK cK gs gt gw : Nat) (kr vr : List Value) : Prop where
  len : KeyLen key.length
  own : RowV 35 w g [.slice (some ⟨gK, 0, none⟩) (cntL key.length) cK, .slice (some ⟨gs, 0, none⟩) 256 256, .slice (some ⟨gt, 0, none⟩) 256 256]
  keys : RowV 22 w gK (keySl gw (cntL key.length) ++ kr)
  box : RowV 5 w gs (boxL.map W8)
  inv : RowV 5 w gt (invL.map W8)
  all : RowX w gw (wholeL key) vr
  room : (wholeL key).length + vr.length ≤ 9223372036854775807
theorem RcR.later {w w' : World} {g gK cK gs gt gw : Nat} {key : List (BitVec 8)} {kr vr : List Value} (h : RcR w g key gK cK gs gt gw kr vr) (hb : Below w.heap.size w w') : RcR w' g key gK cK gs gt gw kr vr :=
  ⟨h.len, h.own.later hb, h.keys.later hb, h.box.later hb, h.inv.later hb, h.all.later hb, h.room⟩
theorem RcR.key_at {w : World} {g gK cK gs gt gw : Nat} {key : List (BitVec 8)} {kr vr : List Value} (h : RcR w g key gK cK gs gt gw kr vr) (i : Nat) (hi : i < cntL key.length) :
    w.cell? ⟨gK, i, none⟩ = some (.slice (some ⟨gw, 16 * i, none⟩) 16 16) ∧ ∃ kb, (keysL key)[i]? = some kb ∧ kb.length = 16 ∧ SlV w w.heap.size (some ⟨gw, 16 * i, none⟩) 16 16 (kb.map W8) := by
  have hwl := wholeL_length key h.len
  refine ⟨h.keys.at_ (by rw [List.getElem?_append_left (by simp [keySl]; exact hi)]; exact keySl_at gw _ i hi), _, keysL_get key i hi, by simp [hwl]; omega, ?_⟩
  have h1 := RowV.slOff h.all (16 * i) 16 (by simp [hwl]; omega) (by have := h.room; simp; omega)
  have e : ((((wholeL key).map W8 ++ vr).drop (16 * i)).take 16) = (((wholeL key).drop (16 * i)).take 16).map W8 := by
    rw [List.drop_append_of_le_length (by simp [hwl]; omega), List.take_append_of_le_length (by simp [hwl]; omega), List.map_take, List.map_drop]
  rw [e] at h1
  exact ⟨h1.1, Nat.le_refl _, by decide, h1.2.2.2⟩
end Go.Proofs.Ytabhdkjepbkooaa

/- The reference's Encrypt. -/
set_option linter.unusedVariables false
set_option linter.unusedSimpArgs false
namespace Go.Proofs.Ytabhdkjepbkooaa
open Go.RowKit

theorem encL_take (last : Nat) (ks : List (List (BitVec 8))) (bs : List (BitVec 8)) (i : Nat) (k : List (BitVec 8)) (h : ks[i]? = some k) : encL last 0 (ks.take (i + 1)) bs = encR last i k (encL last 0 (ks.take i) bs) := by
  have hi := (List.getElem?_eq_some_iff.1 h).1
  rw [List.take_add_one, h, Option.toList_some, encL_snoc, Nat.zero_add, List.length_take, Nat.min_eq_left (by omega)]
set_option maxRecDepth 100000 in
set_option maxHeartbeats 8000000 in
theorem renc_any (w : World) (g : Nat) (key : List (BitVec 8)) (gK cK gs gt gw : Nat) (kr vr : List Value) (hR : RcR w g key gK cK gs gt gw kr vr) (B b1 o1 c1 : Nat) (bs : List (BitVec 8)) (h1 : SlV w B (some ⟨b1, o1, none⟩) 16 c1 (bs.map W8)) (hB : B ≤ w.heap.size) :
    Calls Try.prog 13 #[.pointer (some ⟨g, 0, none⟩), .slice (some ⟨b1, o1, none⟩) 16 c1] w fun e w' => ∃ g', e = .returned (.slice (some ⟨g', 0, none⟩) 16 16) ∧ w.heap.size ≤ g' ∧ RowV 5 w' g' ((encA key bs).map W8) ∧ Below w.heap.size w w' := by
  have hbl : bs.length = 16 := by have := h1.len; simp at this; omega
  obtain ⟨z, hz⟩ : ∃ z, w.heap.size = z := ⟨_, rfl⟩
  obtain ⟨C, hC⟩ : ∃ C, cntL key.length = C := ⟨_, rfl⟩
  have hCb : 11 ≤ C ∧ C ≤ 15 := by rw [← hC]; unfold cntL; rcases hR.len with h | h | h <;> omega
  obtain ⟨last, hlast⟩ : ∃ l, C - 1 = l := ⟨_, rfl⟩
  have hcell0 : ∀ W, Below z w W → W.cell? ⟨g, 0, none⟩ = some (.slice (some ⟨gK, 0, none⟩) C cK) := fun W hW => by
    rw [← hz] at hW
    have h := (hR.later hW).own.at_ (i := 0) rfl
    rw [hC] at h
    exact h
  have hcell1 : ∀ W, Below z w W → W.cell? ⟨g, 1, none⟩ = some (.slice (some ⟨gs, 0, none⟩) 256 256) := fun W hW => by
    rw [← hz] at hW
    exact (hR.later hW).own.at_ (i := 1) rfl
  have hbox : ∀ W, Below z w W → ∀ x : BitVec 8, W.cell? ⟨gs, (i8 x).toNat, none⟩ = some (W8 (boxAt boxL x)) := fun W hW x => by
    rw [← hz] at hW
    rw [i8_nat]
    exact (hR.later hW).box.at_ (map_at (by rw [boxL_length]; exact x.isLt))
  have hkey : ∀ W, Below z w W → ∀ i, i < C → W.cell? ⟨gK, i, none⟩ = some (.slice (some ⟨gw, 16 * i, none⟩) 16 16) ∧ ∃ kb, (keysL key)[i]? = some kb ∧ kb.length = 16 ∧ SlV W W.heap.size (some ⟨gw, 16 * i, none⟩) 16 16 (kb.map W8) := fun W hW i hi => by
    rw [← hz] at hW
    exact (hR.later hW).key_at i (by rw [hC]; exact hi)
  have hEA : encA key bs = encL last 0 ((keysL key).take C) bs := by
    rw [List.take_of_length_le (by rw [keysL_length, hC]; exact Nat.le_refl _), ← hlast, ← hC]; rfl
  rw [hEA]
  rw [hz] at hB
  have HZ := Lib.hid hz
  have H1 := Lib.hid h1
  have HC0 := Lib.hid hcell0
  have HC1 := Lib.hid hcell1
  have HBX := Lib.hid hbox
  have HKY := Lib.hid hkey
  have HBL := Lib.hid hbl
  have kC1 : (11 : Int) ≤ C := by omega
  have kC2 : (C : Int) ≤ 15 := by omega
  have klast : (C : Int) - 1 = (last : Int) := by omega
  have hlast2 : last + 1 = C := by omega
  -- the first key
  obtain ⟨hk0, kb0, hkb0, hkl0, hks0⟩ := hkey w (Below.refl _ _) 0 (by omega)
  rw [Nat.mul_zero] at hk0 hks0
  have hxor := rxor_any w w.heap.size _ 16 c1 bs (h1.more (by omega)) _ 16 16 kb0 hks0 (Nat.le_refl _) (Nat.le_refl _) (by decide)
  rw [xorL_add _ _ hbl hkl0, show addV bs kb0 = encL last 0 ((keysL key).take 1) bs by rw [encL_take last (keysL key) bs 0 kb0 hkb0]; rfl, hz] at hxor
  have hc0 := hcell0 w (Below.refl _ _)
  have HXOR := Lib.hid hxor
  clear hcell0 hcell1 hbox hkey h1 hR hz hC hCb hlast hEA hks0 hkb0 hxor hbl
  go_enter Try.func13, Try.ntmps13
  go_wp2_with fail
  refine HXOR.out.mono ?_
  rintro e w1 ⟨rfl, hr1, hb1⟩
  have hc1 := HC0.out w1 hb1
  have HR1 := Lib.hid hr1
  have HB1 := Lib.hid hb1
  clear hr1 hb1 hc0 hk0
  go_wp2
  go_loopw [5, 7] (fun xv iv W => ∃ i gx : Nat, 1 ≤ i ∧ i ≤ C ∧ iv = .int .i64 (i : Int) ∧ xv = .slice (some ⟨gx, 0, none⟩) 16 16 ∧ z ≤ gx ∧ Hid (RowV 5 W gx ((encL last 0 ((keysL key).take i) bs).map W8)) ∧ Hid (Below z w W)) (fun _ iv _ => C - (intOf iv).toNat)
  case atStart => exact ⟨1, z, Nat.le_refl _, by omega, rfl, rfl, Nat.le_refl _, HR1, HB1⟩
  case round =>
    clear HR1 HB1 hc1
    obtain ⟨i, gx, hi1, hiC, rfl, rfl, hgx, HR, HB⟩ := hrel
    by_cases hiC2 : i = C
    · have hgt : (last : Int) < (i : Int) := by omega
      subst hiC2
      go_wp2
      go_ret
      rw [HZ.out]
      exact ⟨gx, rfl, hgx, HR.out, HB.out⟩
    · have hle : (i : Int) ≤ (last : Int) := by omega
      have hilt : (i : Int) < (C : Int) := by omega
      have hi0 : (0 : Int) ≤ i := by omega
      have hi1I : (1 : Int) ≤ i := by omega
      obtain ⟨hki, kb, hkb, hkl, _⟩ := HKY.out wr HB.out i (by omega)
      have hnext := encL_take last (keysL key) bs i kb hkb
      obtain ⟨st, hst⟩ : ∃ l, encL last 0 ((keysL key).take i) bs = l := ⟨_, rfl⟩
      have hstl : st.length = 16 := by rw [← hst]; exact encL_length _ _ _ _ HBL.out
      rw [hst] at HR hnext
      obtain ⟨R, hRe⟩ : ∃ l, replV st = l := ⟨_, rfl⟩
      have hRl : R.length = 16 := by rw [← hRe]; exact replV_length _
      have hRk : ∀ k, k < 16 → R[k]? = some (boxAt boxL (st.getD (5 * k % 16) 0)) := fun k hk => by
        rw [get_at (by omega), ← hRe, replV, st16_get _ k hk]
      unfold encR at hnext
      rw [if_pos (show 0 < i by omega), hRe] at hnext
      obtain ⟨gy, hgy⟩ : ∃ x, wr.heap.size = x := ⟨_, rfl⟩
      have hzgy : z ≤ gy := by have h1 := HB.out.size; have h2 := HZ.out; omega
      have hgxy : gx < gy := by rw [← hgy]; exact HR.out.lt
      have HNEXT := Lib.hid hnext
      have HRK := Lib.hid hRk
      have HRL := Lib.hid (And.intro hRl hstl)
      have HKB := Lib.hid (And.intro hkb hkl)
      obtain ⟨wo, rfl⟩ : ∃ V, V = wr := ⟨_, rfl⟩
      clear hnext hRk hRl hstl hRe hst hkb hkl hki
      go_wp2_with (at_make; refine wlv_make Try.elem8 rfl _ rfl _ 16 rfl rfl (by decide) ?_; intro w6 hr6 hb6 hz6; rw [hgy] at hr6 hb6)
      have HR6 := Lib.hid (show RowV 5 w6 gy ((R.take 0 ++ List.replicate (R.length - 0) 0).map W8) by rw [fill_zero, HRL.out.1, List.map_replicate]; exact hr6)
      have HB6 := Lib.hid (HB.out.trans (hb6.mono hzgy))
      have HX6 := Lib.hid (HR.out.below hb6 hgxy)
      clear hr6 hb6 hz6 hgy
      go_loopw [9] (fun kv W => ∃ k : Nat, k ≤ 16 ∧ kv = .int .i64 (k : Int) ∧ Hid (RowV 5 W gy ((R.take k ++ List.replicate (R.length - k) 0).map W8)) ∧ Hid (Below gy w6 W)) (fun kv _ => 16 - (intOf kv).toNat)
      case atStart => exact ⟨0, by decide, rfl, HR6, Lib.hid (Below.refl _ _)⟩
      case round =>
        obtain ⟨k, hk, rfl, HRY, HBY⟩ := hrel
        have hBz := HB6.out.trans (HBY.out.mono hzgy)
        by_cases hk16 : k = 16
        · subst hk16
          have hry := HRY.out
          rw [fill_all _ _ _ HRL.out.1.symm] at hry
          by_cases hil : i < last
          · have hilI : (i : Int) < (last : Int) := by omega
            obtain ⟨W7, e7, r7, b7, z7⟩ := newV wr 5 ([2, 3, 1, 1].map W8) #[.int .u8 2, .int .u8 3, .int .u8 1, .int .u8 1] rfl
            have hzw : z ≤ wr.heap.size := by have h1 := hBz.size; have h2 := HZ.out; omega
            have hs7 := r7.sl (by simp)
            rw [List.length_map, show ([2, 3, 1, 1] : List (BitVec 8)).length = 4 from rfl] at hs7
            have hsy := (hry.later b7).sl (by rw [List.length_map, HRL.out.1]; decide)
            rw [List.length_map, HRL.out.1] at hsy
            have hmx := rmix_any W7 W7.heap.size gy 0 16 R hsy wr.heap.size 0 4 [2, 3, 1, 1] hs7 (Nat.le_refl _)
            rw [mixR_enc] at hmx
            have HMX := Lib.hid hmx
            have HB7 := Lib.hid (hBz.trans (b7.mono hzw))
            have hz7 : z ≤ W7.heap.size := by omega
            have hn := HNEXT.out
            rw [if_pos hil] at hn
            have HN := Lib.hid hn
            clear hmx hs7 hsy r7 b7 z7 hry hBz hn HRY HBY HR6 HX6
            go_wp2_with fail
            refine HMX.out.mono ?_
            rintro e w8 ⟨g8, rfl, hg8, hr8, hb8⟩
            obtain ⟨M, hM⟩ : ∃ l, mixS R = l := ⟨_, rfl⟩
            have hMl : M.length = 16 := by rw [← hM]; exact mixS_length _
            rw [hM] at hr8 HN
            have HB8 := Lib.hid (HB7.out.trans (hb8.mono hz7))
            clear hM hb8 HMX e7
            obtain ⟨hki, kb', hkb', hkl', hks'⟩ := HKY.out w8 HB8.out i (by omega)
            obtain rfl : kb' = kb := by have h := HKB.out.1; rw [hkb'] at h; injection h
            have hsm := hr8.sl (by rw [List.length_map, hMl]; decide)
            rw [List.length_map, hMl] at hsm
            have hxr := rxor_any w8 w8.heap.size _ 16 16 M hsm _ 16 16 kb' hks' (Nat.le_refl _) (Nat.le_refl _) (by decide)
            rw [xorL_add _ _ hMl hkl', ← HN.out] at hxr
            have hcW := HC0.out w8 HB8.out
            obtain ⟨gn, hgn⟩ : ∃ x, w8.heap.size = x := ⟨_, rfl⟩
            have hzgn : z ≤ gn := by have h1 := HB8.out.size; have h2 := HZ.out; omega
            rw [hgn] at hxr
            have HXR := Lib.hid hxr
            clear hxr hgn hsm hks' hkb' hkl' hr8 HN
            go_wp2_with fail
            refine HXR.out.mono ?_
            rintro e w9 ⟨rfl, hr9, hb9⟩
            have HR9 := Lib.hid hr9
            have HB9 := Lib.hid (HB8.out.trans (hb9.mono hzgn))
            clear hr9 hb9 HXR hcW hki
            go_wp2
            go_roundw
            case rel => exact ⟨i + 1, gn, by omega, by omega, by go_num, rfl, hzgn, HR9, HB9⟩
            case measure => simp [intOf]; omega
          · have hilI : ¬ (i : Int) < (last : Int) := by omega
            obtain ⟨w8, rfl⟩ : ∃ V, V = wr := ⟨_, rfl⟩
            obtain ⟨g8, rfl⟩ : ∃ x, x = gy := ⟨_, rfl⟩
            have hn := HNEXT.out
            rw [if_neg hil] at hn
            have HN := Lib.hid hn
            have hMl := HRL.out.1
            have hr8 := hry
            have HB8 := Lib.hid hBz
            clear hry hBz hn HRY HBY HR6 HX6
            obtain ⟨hki, kb', hkb', hkl', hks'⟩ := HKY.out w8 HB8.out i (by omega)
            obtain rfl : kb' = kb := by have h := HKB.out.1; rw [hkb'] at h; injection h
            have hsm := hr8.sl (by rw [List.length_map, hMl]; decide)
            rw [List.length_map, hMl] at hsm
            have hxr := rxor_any w8 w8.heap.size _ 16 16 R hsm _ 16 16 kb' hks' (Nat.le_refl _) (Nat.le_refl _) (by decide)
            rw [xorL_add _ _ hMl hkl', ← HN.out] at hxr
            have hcW := HC0.out w8 HB8.out
            obtain ⟨gn, hgn⟩ : ∃ x, w8.heap.size = x := ⟨_, rfl⟩
            have hzgn : z ≤ gn := by have h1 := HB8.out.size; have h2 := HZ.out; omega
            rw [hgn] at hxr
            have HXR := Lib.hid hxr
            clear hxr hgn hsm hks' hkb' hkl' hr8 HN
            go_wp2_with fail
            refine HXR.out.mono ?_
            rintro e w9 ⟨rfl, hr9, hb9⟩
            have HR9 := Lib.hid hr9
            have HB9 := Lib.hid (HB8.out.trans (hb9.mono hzgn))
            clear hr9 hb9 HXR hcW hki
            go_wp2
            go_roundw
            case rel => exact ⟨i + 1, gn, by omega, by omega, by go_num, rfl, hzgn, HR9, HB9⟩
            case measure => simp [intOf]; omega
        · have hki : (k : Int) < 16 := by omega
          have hk0 : (0 : Int) ≤ k := by omega
          obtain ⟨r4, hr4⟩ : ∃ r, k % 4 = r := ⟨_, rfl⟩
          have hr4I : (k : Int) % 4 = (r4 : Int) := by omega
          have hr4b : (r4 : Int) ≤ 3 := by omega
          have hr40 : (0 : Int) ≤ r4 := by omega
          obtain ⟨q, hq⟩ : ∃ q, k + 4 * r4 = q := ⟨_, rfl⟩
          have hqI : (k : Int) + 4 * (r4 : Int) = (q : Int) := by omega
          have hqb : (q : Int) ≤ 27 := by omega
          have hq0 : (0 : Int) ≤ q := by omega
          obtain ⟨j, hj⟩ : ∃ j, q % 16 = j := ⟨_, rfl⟩
          have hjI : (q : Int) % 16 = (j : Int) := by omega
          have hj16 : (j : Int) < 16 := by omega
          have hj0 : (0 : Int) ≤ j := by omega
          have hj5 : 5 * k % 16 = j := by omega
          have hrk := HRK.out k (by omega)
          rw [hj5] at hrk
          obtain ⟨xb, hxb⟩ : ∃ b, st.getD j 0 = b := ⟨_, rfl⟩
          rw [hxb] at hrk
          have cg := HC1.out wr hBz
          have cx := (HX6.out.below HBY.out hgxy).at_ (map_at (l := st) (k := j) (by have := HRL.out.2; omega))
          rw [hxb] at cx
          have cb := HBX.out wr hBz xb
          have h8 := i8_lt xb
          obtain ⟨v, hv⟩ : ∃ b, boxAt boxL xb = b := ⟨_, rfl⟩
          rw [hv] at cb hrk
          obtain ⟨m, hm⟩ : ∃ m, (i8 xb).toNat = m := ⟨_, rfl⟩
          rw [hm] at cb
          have cy : wr.cell? ⟨gy, k, none⟩ = some (.int .u8 0) := HRY.out.at_ (by rw [List.getElem?_map, fill_get _ _ _ (by have := HRL.out.1; omega)]; rfl)
          have fy := HRY.out.frozen k
          have hst2 := HRY.out.set k (W8 v)
          rw [← List.map_set, fill_set _ _ _ _ hrk] at hst2
          have hB2 := below_setV HBY.out (Nat.le_refl gy) k (W8 v)
          have HST := Lib.hid hst2
          have HB2 := Lib.hid hB2
          clear hst2 hB2 hxb hv hrk hj5 hBz hr4 hq hj
          go_wp2
          go_region
          go_wp2
          go_roundw
          case rel => exact ⟨k + 1, by omega, by go_num, HST, Lib.hid HB2.out.drew⟩
          case measure => simp [intOf]; omega
end Go.Proofs.Ytabhdkjepbkooaa
