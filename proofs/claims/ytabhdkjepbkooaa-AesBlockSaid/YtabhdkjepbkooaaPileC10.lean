/- Parts of one proof, joined: Bt, Bu. -/
import Derived.Test.YtabhdkjepbkooaaPileC9
import Derived.Test.YtabhdkjepbkooaaPileC7

/- The reference's Decrypt. -/
set_option linter.unusedVariables false
set_option linter.unusedSimpArgs false
namespace Go.Proofs.Ytabhdkjepbkooaa
open Go.RowKit

/-- the first n bytes put back -/
def putP (s : List (BitVec 8)) (n : Nat) : List (BitVec 8) := st16 (fun i => if 13 * i % 16 < n then boxAt invL (s.getD (13 * i % 16) 0) else 0)
theorem putP_length (s : List (BitVec 8)) (n : Nat) : (putP s n).length = 16 := st16_length _
theorem putP_zero (s : List (BitVec 8)) : putP s 0 = List.replicate 16 0 := by
  unfold putP
  rw [show (fun i => if 13 * i % 16 < 0 then boxAt invL (s.getD (13 * i % 16) 0) else 0) = (fun _ => (0 : BitVec 8)) by funext i; rw [if_neg (by omega)]]
  rfl
theorem putP_all (s : List (BitVec 8)) : putP s 16 = putV s := by
  unfold putP putV
  refine st16_congr fun i hi => ?_
  rw [if_pos (by omega)]
theorem putP_succ (s : List (BitVec 8)) (n : Nat) (hn : n < 16) : (putP s n).set (5 * n % 16) (boxAt invL (s.getD n 0)) = putP s (n + 1) := by
  unfold putP
  rw [st16_set _ _ _ (by omega)]
  refine st16_congr fun i hi => ?_
  by_cases e : i = 5 * n % 16
  · have h : 13 * i % 16 = n := by omega
    rw [if_pos e, if_pos (by omega), h]
  · have h : 13 * i % 16 ≠ n := by omega
    rw [if_neg e]
    by_cases h' : 13 * i % 16 < n
    · rw [if_pos h', if_pos (by omega)]
    · rw [if_neg h', if_neg (by omega)]
set_option maxRecDepth 100000 in
set_option maxHeartbeats 8000000 in
theorem rdec_any (w : World) (g : Nat) (key : List (BitVec 8)) (gK cK gs gt gw : Nat) (kr vr : List Value) (hR : RcR w g key gK cK gs gt gw kr vr) (B b1 o1 c1 : Nat) (bs : List (BitVec 8)) (h1 : SlV w B (some ⟨b1, o1, none⟩) 16 c1 (bs.map W8)) (hB : B ≤ w.heap.size) :
    Calls Try.prog 14 #[.pointer (some ⟨g, 0, none⟩), .slice (some ⟨b1, o1, none⟩) 16 c1] w fun e w' => ∃ g', e = .returned (.slice (some ⟨g', 0, none⟩) 16 16) ∧ w.heap.size ≤ g' ∧ RowV 5 w' g' ((decA key bs).map W8) ∧ Below w.heap.size w w' := by
  have hbl : bs.length = 16 := by have := h1.len; simp at this; omega
  obtain ⟨z, hz⟩ : ∃ z, w.heap.size = z := ⟨_, rfl⟩
  obtain ⟨C, hC⟩ : ∃ C, cntL key.length = C := ⟨_, rfl⟩
  have hCb : 11 ≤ C ∧ C ≤ 15 := by rw [← hC]; unfold cntL; rcases hR.len with h | h | h <;> omega
  obtain ⟨last, hlast⟩ : ∃ l, C - 1 = l := ⟨_, rfl⟩
  have hcell0 : ∀ W, Below z w W → W.cell? ⟨g, 0, none⟩ = some (.slice (some ⟨gK, 0, none⟩) C cK) := fun W hW => by
    rw [← hz] at hW
    have h := (hR.later hW).own.at_ (i := 0) rfl
    rw [hC] at h
    exact h
  have hcell2 : ∀ W, Below z w W → W.cell? ⟨g, 2, none⟩ = some (.slice (some ⟨gt, 0, none⟩) 256 256) := fun W hW => by
    rw [← hz] at hW
    exact (hR.later hW).own.at_ (i := 2) rfl
  have hbox : ∀ W, Below z w W → ∀ x : BitVec 8, W.cell? ⟨gt, (i8 x).toNat, none⟩ = some (W8 (boxAt invL x)) := fun W hW x => by
    rw [← hz] at hW
    rw [i8_nat]
    exact (hR.later hW).inv.at_ (map_at (by rw [invL_length]; exact x.isLt))
  have hkey : ∀ W, Below z w W → ∀ i, i < C → W.cell? ⟨gK, i, none⟩ = some (.slice (some ⟨gw, 16 * i, none⟩) 16 16) ∧ ∃ kb, (keysL key)[i]? = some kb ∧ kb.length = 16 ∧ SlV W W.heap.size (some ⟨gw, 16 * i, none⟩) 16 16 (kb.map W8) := fun W hW i hi => by
    rw [← hz] at hW
    exact (hR.later hW).key_at i (by rw [hC]; exact hi)
  have hDA : decA key bs = decL last 0 (keysL key) bs := by rw [← hlast, ← hC]; rfl
  rw [hDA]
  rw [hz] at hB
  have hnil : decL last (last + 1) ((keysL key).drop (last + 1)) bs = bs := by
    rw [List.drop_eq_nil_of_le (by rw [keysL_length, hC]; omega)]; rfl
  have HZ := Lib.hid hz
  have H1 := Lib.hid (show SlV w w.heap.size (some ⟨b1, o1, none⟩) 16 c1 ((decL last (last + 1) ((keysL key).drop (last + 1)) bs).map W8) by rw [hnil]; exact h1.more (by omega))
  have HC0 := Lib.hid hcell0
  have HC2 := Lib.hid hcell2
  have HBX := Lib.hid hbox
  have HKY := Lib.hid hkey
  have HBL := Lib.hid hbl
  have kC1 : (11 : Int) ≤ C := by omega
  have kC2 : (C : Int) ≤ 15 := by omega
  have klast : (C : Int) - 1 = (last : Int) := by omega
  have hlast2 : last + 1 = C := by omega
  have hc0 := hcell0 w (Below.refl _ _)
  clear hcell0 hcell2 hbox hkey h1 hR hz hC hCb hlast hDA hbl hnil
  go_enter Try.func14, Try.ntmps14
  go_wp2
  clear hc0
  go_loopw [6, 7] (fun xv iv W => ∃ i bx ox cx : Nat, i ≤ last ∧ iv = .int .i64 (i : Int) ∧ xv = .slice (some ⟨bx, ox, none⟩) 16 cx ∧ Hid (SlV W W.heap.size (some ⟨bx, ox, none⟩) 16 cx ((decL last (i + 1) ((keysL key).drop (i + 1)) bs).map W8)) ∧ Hid (Below z w W)) (fun _ iv _ => (intOf iv).toNat)
  case atStart => exact ⟨last, b1, o1, c1, Nat.le_refl _, rfl, rfl, H1, Lib.hid (Below.refl _ _)⟩
  case round =>
    clear H1
    obtain ⟨i, bx, ox, cx, hil, rfl, rfl, HS, HB⟩ := hrel
    obtain ⟨wo, rfl⟩ : ∃ V, V = wr := ⟨_, rfl⟩
    obtain ⟨hki, kb, hkb, hkl, hks⟩ := HKY.out wo HB.out i (by omega)
    have hnext := decL_drop last (keysL key) bs i kb hkb
    obtain ⟨st, hst⟩ : ∃ l, decL last (i + 1) ((keysL key).drop (i + 1)) bs = l := ⟨_, rfl⟩
    have hstl : st.length = 16 := by rw [← hst]; exact decL_length _ _ _ _ HBL.out
    rw [hst] at HS hnext
    have hxor := rxor_any wo wo.heap.size _ 16 cx st HS.out _ 16 16 kb hks (Nat.le_refl _) (Nat.le_refl _) (by decide)
    rw [xorL_add _ _ hstl hkl] at hxor
    obtain ⟨gy, hgy⟩ : ∃ x, wo.heap.size = x := ⟨_, rfl⟩
    have hzgy : z ≤ gy := by have h1 := HB.out.size; have h2 := HZ.out; omega
    rw [hgy] at hxor
    have hcW := HC0.out wo HB.out
    by_cases hi0 : i = 0
    · subst hi0
      rw [Nat.mul_zero] at hki hxor
      rw [List.drop_zero] at hnext
      unfold decR at hnext
      rw [if_neg (by decide)] at hnext
      rw [← hnext] at hxor
      have HXR := Lib.hid hxor
      clear hxor hgy hks hkb hkl hnext hst hstl HS
      go_wp2_with fail
      refine HXR.out.mono ?_
      rintro e w9 ⟨rfl, hr9, hb9⟩
      have HR9 := Lib.hid hr9
      have HB9 := Lib.hid (HB.out.trans (hb9.mono hzgy))
      clear hr9 hb9 HXR hcW hki
      go_wp2
      go_ret
      rw [HZ.out]
      exact ⟨gy, rfl, hzgy, HR9.out, HB9.out⟩
    · have hge : (1 : Int) ≤ (i : Int) := by omega
      have hilt : (i : Int) < (C : Int) := by omega
      have hi0I : (0 : Int) ≤ i := by omega
      obtain ⟨Y, hY⟩ : ∃ l, addV st kb = l := ⟨_, rfl⟩
      have hYl : Y.length = 16 := by rw [← hY]; exact addV_length _ _
      unfold decR at hnext
      rw [if_pos (show 0 < i by omega), hY] at hnext
      rw [hY] at hxor
      have HXR := Lib.hid hxor
      have HNEXT := Lib.hid hnext
      have HYL := Lib.hid hYl
      clear hxor hgy hks hkb hkl hnext hst hstl HS hY hYl
      go_wp2_with fail
      refine HXR.out.mono ?_
      rintro e w2 ⟨rfl, hr2, hb2⟩
      have hB2 := HB.out.trans (hb2.mono hzgy)
      have hzw : z ≤ w2.heap.size := by have h1 := hB2.size; have h2 := HZ.out; omega
      clear HXR hcW hki hb2
      by_cases hil2 : i < last
      · have hilI : (i : Int) < (last : Int) := by omega
        obtain ⟨W7, e7, r7, b7, z7⟩ := newV w2 5 ([14, 11, 13, 9].map W8) #[.int .u8 14, .int .u8 11, .int .u8 13, .int .u8 9] rfl
        have hs7 := r7.sl (by simp)
        rw [List.length_map, show ([14, 11, 13, 9] : List (BitVec 8)).length = 4 from rfl] at hs7
        have hsy := (hr2.later b7).sl (by rw [List.length_map, HYL.out]; decide)
        rw [List.length_map, HYL.out] at hsy
        have hmx := rmix_any W7 W7.heap.size gy 0 16 Y hsy w2.heap.size 0 4 [14, 11, 13, 9] hs7 (Nat.le_refl _)
        rw [mixR_dec] at hmx
        have HMX := Lib.hid hmx
        have HB7 := Lib.hid (hB2.trans (b7.mono hzw))
        have hz7 : z ≤ W7.heap.size := by omega
        have hn := HNEXT.out
        rw [if_pos hil2] at hn
        obtain ⟨M, hM⟩ : ∃ l, mixS (mixS (mixS Y)) = l := ⟨_, rfl⟩
        have hMl : M.length = 16 := by rw [← hM]; exact mixS_length _
        rw [hM] at HMX hn
        have HN := Lib.hid hn
        have HML := Lib.hid hMl
        clear hmx hs7 hsy r7 b7 z7 hr2 hB2 hn hM hMl HNEXT
        go_wp2_with fail
        refine HMX.out.mono ?_
        rintro e w8 ⟨g8, rfl, hg8, hr8, hb8⟩
        have HB8 := Lib.hid (HB7.out.trans (hb8.mono hz7))
        have hz8 : z ≤ w8.heap.size := by have := hb8.size; omega
        have HR8 := Lib.hid hr8
        clear hb8 hr8 HMX e7 hg8
        obtain ⟨gx, hgx⟩ : ∃ x, w8.heap.size = x := ⟨_, rfl⟩
        have hzgx : z ≤ gx := by omega
        have hg8x : g8 < gx := by rw [← hgx]; exact HR8.out.lt
        go_wp2_with (at_make; refine wlv_make Try.elem8 rfl _ rfl _ 16 rfl rfl (by decide) ?_; intro w6 hr6 hb6 hz6; rw [hgx] at hr6 hb6)
        have HR6 := Lib.hid (show RowV 5 w6 gx ((putP M 0).map W8) by rw [putP_zero, List.map_replicate]; exact hr6)
        have HB6 := Lib.hid (HB8.out.trans (hb6.mono hzgx))
        have HX6 := Lib.hid (HR8.out.below hb6 hg8x)
        clear hr6 hb6 hz6 hgx
        go_loopw [9] (fun kv W => ∃ k : Nat, k ≤ 16 ∧ kv = .int .i64 (k : Int) ∧ Hid (RowV 5 W gx ((putP M k).map W8)) ∧ Hid (Below gx w6 W)) (fun kv _ => 16 - (intOf kv).toNat)
        case atStart => exact ⟨0, by decide, rfl, HR6, Lib.hid (Below.refl _ _)⟩
        case round =>
          obtain ⟨k, hk, rfl, HRY, HBY⟩ := hrel
          have hBz := HB6.out.trans (HBY.out.mono hzgx)
          by_cases hk16 : k = 16
          · subst hk16
            have hry := HRY.out
            rw [putP_all, ← HN.out] at hry
            obtain ⟨i', hi'⟩ : ∃ x, i - 1 = x := ⟨_, rfl⟩
            have hiI : (i : Int) - 1 = (i' : Int) := by omega
            have hi1 : i = i' + 1 := by omega
            rw [hi1] at hry
            have hsx := hry.sl (by rw [List.length_map, decL_length _ _ _ _ HBL.out]; decide)
            rw [List.length_map, decL_length _ _ _ _ HBL.out] at hsx
            have HSX := Lib.hid hsx
            have HBZ := Lib.hid hBz
            have hlt : i' < i := by omega
            have hle : i' ≤ last := by omega
            clear hry hsx hBz hi1 hi' HRY HBY HR6 HX6
            go_wp2
            go_roundw
            case rel => exact ⟨i', gx, 0, 16, hle, rfl, rfl, HSX, HBZ⟩
            case measure => simp [intOf]; omega
          · have hki : (k : Int) < 16 := by omega
            have hk0 : (0 : Int) ≤ k := by omega
            obtain ⟨r4, hr4⟩ : ∃ r, k % 4 = r := ⟨_, rfl⟩
            have hr4I : (k : Int) % 4 = (r4 : Int) := by omega
            have hr4b : (r4 : Int) ≤ 3 := by omega
            have hr40 : (0 : Int) ≤ r4 := by omega
            obtain ⟨q, hq⟩ : ∃ q, k + 4 * r4 = q := ⟨_, rfl⟩
            have hqI : (k : Int) + 4 * (r4 : Int) = (q : Int) := by omega
            have hqb : (q : Int) ≤ 27 := by omega
            have hq0 : (0 : Int) ≤ q := by omega
            obtain ⟨j, hj⟩ : ∃ j, q % 16 = j := ⟨_, rfl⟩
            have hjI : (q : Int) % 16 = (j : Int) := by omega
            have hj16 : (j : Int) < 16 := by omega
            have hj0 : (0 : Int) ≤ j := by omega
            have hj5 : 5 * k % 16 = j := by omega
            have hrk := putP_succ M k (by omega)
            rw [hj5] at hrk
            obtain ⟨xb, hxb⟩ : ∃ b, M.getD k 0 = b := ⟨_, rfl⟩
            rw [hxb] at hrk
            have cg := HC2.out wr hBz
            have cx := (HX6.out.below HBY.out hg8x).at_ (map_at (l := M) (k := k) (by have := HML.out; omega))
            rw [hxb] at cx
            have cb := HBX.out wr hBz xb
            have h8 := i8_lt xb
            obtain ⟨v, hv⟩ : ∃ b, boxAt invL xb = b := ⟨_, rfl⟩
            rw [hv] at cb hrk
            obtain ⟨m, hm⟩ : ∃ m, (i8 xb).toNat = m := ⟨_, rfl⟩
            rw [hm] at cb
            have cy := HRY.out.at_ (map_at (l := putP M k) (k := j) (by rw [putP_length]; omega))
            obtain ⟨y0, hy0⟩ : ∃ b, (putP M k).getD j 0 = b := ⟨_, rfl⟩
            rw [hy0] at cy
            have fy := HRY.out.frozen j
            have hst2 := HRY.out.set j (W8 v)
            rw [← List.map_set, hrk] at hst2
            have hB2 := below_setV HBY.out (Nat.le_refl gx) j (W8 v)
            have HST := Lib.hid hst2
            have HB2 := Lib.hid hB2
            clear hst2 hB2 hxb hv hrk hj5 hBz hr4 hq hj hy0
            go_wp2
            go_region
            go_wp2
            go_roundw
            case rel => exact ⟨k + 1, by omega, by go_num, HST, Lib.hid HB2.out.drew⟩
            case measure => simp [intOf]; omega
      · have hilI : ¬ (i : Int) < (last : Int) := by omega
        obtain ⟨w8, rfl⟩ : ∃ V, V = w2 := ⟨_, rfl⟩
        obtain ⟨g8, rfl⟩ : ∃ x, x = gy := ⟨_, rfl⟩
        obtain ⟨M, rfl⟩ : ∃ l, l = Y := ⟨_, rfl⟩
        have hn := HNEXT.out
        rw [if_neg hil2] at hn
        have HN := Lib.hid hn
        have HML := HYL
        have hz8 := hzw
        have HR8 := Lib.hid hr2
        have HB8 := Lib.hid hB2
        clear hr2 hB2 hn HNEXT
        obtain ⟨gx, hgx⟩ : ∃ x, w8.heap.size = x := ⟨_, rfl⟩
        have hzgx : z ≤ gx := by omega
        have hg8x : g8 < gx := by rw [← hgx]; exact HR8.out.lt
        go_wp2_with (at_make; refine wlv_make Try.elem8 rfl _ rfl _ 16 rfl rfl (by decide) ?_; intro w6 hr6 hb6 hz6; rw [hgx] at hr6 hb6)
        have HR6 := Lib.hid (show RowV 5 w6 gx ((putP M 0).map W8) by rw [putP_zero, List.map_replicate]; exact hr6)
        have HB6 := Lib.hid (HB8.out.trans (hb6.mono hzgx))
        have HX6 := Lib.hid (HR8.out.below hb6 hg8x)
        clear hr6 hb6 hz6 hgx
        go_loopw [9] (fun kv W => ∃ k : Nat, k ≤ 16 ∧ kv = .int .i64 (k : Int) ∧ Hid (RowV 5 W gx ((putP M k).map W8)) ∧ Hid (Below gx w6 W)) (fun kv _ => 16 - (intOf kv).toNat)
        case atStart => exact ⟨0, by decide, rfl, HR6, Lib.hid (Below.refl _ _)⟩
        case round =>
          obtain ⟨k, hk, rfl, HRY, HBY⟩ := hrel
          have hBz := HB6.out.trans (HBY.out.mono hzgx)
          by_cases hk16 : k = 16
          · subst hk16
            have hry := HRY.out
            rw [putP_all, ← HN.out] at hry
            obtain ⟨i', hi'⟩ : ∃ x, i - 1 = x := ⟨_, rfl⟩
            have hiI : (i : Int) - 1 = (i' : Int) := by omega
            have hi1 : i = i' + 1 := by omega
            rw [hi1] at hry
            have hsx := hry.sl (by rw [List.length_map, decL_length _ _ _ _ HBL.out]; decide)
            rw [List.length_map, decL_length _ _ _ _ HBL.out] at hsx
            have HSX := Lib.hid hsx
            have HBZ := Lib.hid hBz
            have hlt : i' < i := by omega
            have hle : i' ≤ last := by omega
            clear hry hsx hBz hi1 hi' HRY HBY HR6 HX6
            go_wp2
            go_roundw
            case rel => exact ⟨i', gx, 0, 16, hle, rfl, rfl, HSX, HBZ⟩
            case measure => simp [intOf]; omega
          · have hki : (k : Int) < 16 := by omega
            have hk0 : (0 : Int) ≤ k := by omega
            obtain ⟨r4, hr4⟩ : ∃ r, k % 4 = r := ⟨_, rfl⟩
            have hr4I : (k : Int) % 4 = (r4 : Int) := by omega
            have hr4b : (r4 : Int) ≤ 3 := by omega
            have hr40 : (0 : Int) ≤ r4 := by omega
            obtain ⟨q, hq⟩ : ∃ q, k + 4 * r4 = q := ⟨_, rfl⟩
            have hqI : (k : Int) + 4 * (r4 : Int) = (q : Int) := by omega
            have hqb : (q : Int) ≤ 27 := by omega
            have hq0 : (0 : Int) ≤ q := by omega
            obtain ⟨j, hj⟩ : ∃ j, q % 16 = j := ⟨_, rfl⟩
            have hjI : (q : Int) % 16 = (j : Int) := by omega
            have hj16 : (j : Int) < 16 := by omega
            have hj0 : (0 : Int) ≤ j := by omega
            have hj5 : 5 * k % 16 = j := by omega
            have hrk := putP_succ M k (by omega)
            rw [hj5] at hrk
            obtain ⟨xb, hxb⟩ : ∃ b, M.getD k 0 = b := ⟨_, rfl⟩
            rw [hxb] at hrk
            have cg := HC2.out wr hBz
            have cx := (HX6.out.below HBY.out hg8x).at_ (map_at (l := M) (k := k) (by have := HML.out; omega))
            rw [hxb] at cx
            have cb := HBX.out wr hBz xb
            have h8 := i8_lt xb
            obtain ⟨v, hv⟩ : ∃ b, boxAt invL xb = b := ⟨_, rfl⟩
            rw [hv] at cb hrk
            obtain ⟨m, hm⟩ : ∃ m, (i8 xb).toNat = m := ⟨_, rfl⟩
            rw [hm] at cb
            have cy := HRY.out.at_ (map_at (l := putP M k) (k := j) (by rw [putP_length]; omega))
            obtain ⟨y0, hy0⟩ : ∃ b, (putP M k).getD j 0 = b := ⟨_, rfl⟩
            rw [hy0] at cy
            have fy := HRY.out.frozen j
            have hst2 := HRY.out.set j (W8 v)
            rw [← List.map_set, hrk] at hst2
            have hB2 := below_setV HBY.out (Nat.le_refl gx) j (W8 v)
            have HST := Lib.hid hst2
            have HB2 := Lib.hid hB2
            clear hst2 hB2 hxb hv hrk hj5 hBz hr4 hq hj hy0
            go_wp2
            go_region
            go_wp2
            go_roundw
            case rel => exact ⟨k + 1, by omega, by go_num, HST, Lib.hid HB2.out.drew⟩
            case measure => simp [intOf]; omega
end Go.Proofs.Ytabhdkjepbkooaa

/- append to the call's own slice: where the result lies. -/
set_option linter.unusedVariables false
set_option linter.unusedSimpArgs false
namespace Go.Proofs.Ytabhdkjepbkooaa
open Go.RowKit

/-- append onto an own row that is not nil, as one run, and where the result lies -/
theorem run_wappendP {P : Program} {t e : TypeId} {z : Value} {sz : Nat} {w : World} {o : Oper} (E : Elem P t e z sz) {ρ : Operand → Value} (s x : Operand)
    (ho : o.op = .call { callee := .builtin .append, args := #[s, x], argTypes := #[t, t] })
    (base g cap k : Nat) (ys : List Value) (hs : ρ s = .slice (some ⟨g, 0, none⟩) k cap) (hown : w.ownsRow base e 1 (.slice (some ⟨g, 0, none⟩) k cap) k ys) (ad : Addr) (m c : Nat) (xs : List Value) (hx : ρ x = .slice (some ad) m c) (hl : xs.length = m)
    (hnews : ∀ j u, xs[j]? = some u → w.cell? (ad.add j) = some u) (h1 : ∀ u ∈ xs, u.oneCell' = true) (hk : k + m ≤ 17592186044416) (hbase : base ≤ w.heap.size) :
    ∃ g' c' w', (execOp ρ o).run P w = .ok (.value (.slice (some ⟨g', 0, none⟩) (k + m) c')) w' ∧ w'.ownsRow base e 1 (.slice (some ⟨g', 0, none⟩) (k + m) c') (k + m) (ys ++ xs) ∧ w.grownBy w' (some g) ∧ (g' = g ∨ g' = w.heap.size) ∧ (∀ i u, ys[i]? = some u → w'.cell? ⟨g, i, none⟩ = some u) := by
  obtain ⟨i0, hi, hz0, hz1, hz2⟩ := info_parts E.info
  have hb : (k + m) * i0.bytes ≤ 140737488355328 := by rw [hz2]; exact Nat.le_trans (Nat.mul_le_mul hk E.b8) (by decide)
  have hzs : z.cells.size = i0.size := by rw [E.one, hz1]; rfl
  have hsi : 0 < i0.size := by rw [hz1]; decide
  have hown2 : w.ownsRow base e i0.size (.slice (some ⟨g, 0, none⟩) k cap) k ys := by rw [hz1]; exact hown
  obtain ⟨v', w', hr, h2, h3, _⟩ := run_append_own (P := P) w base t o.type e i0 z i0.size i0.bytes E.sl hi hz0 rfl rfl hzs hsi _ k ys hown2 ad m c xs (by rw [hz1]; omega) hnews h1 (by simp only [maxLen]; omega) hb hbase
  have holds0 : ∀ j u, ys[j]? = some u → w.cell? ((⟨g, 0, none⟩ : Addr).add j) = some u := hown2.cells (g := g) rfl
  have hgl : g < w.heap.size := (hown.lt g rfl).2
  have hpl : ∃ g' c', v' = .slice (some ⟨g', 0, none⟩) (k + m) c' ∧ (g' = g ∨ g' = w.heap.size) ∧ (∀ i u, ys[i]? = some u → w'.cell? ⟨g, i, none⟩ = some u) := by
    rcases hown2.2 with ⟨e0, _⟩ | ⟨g0, cap0, cur, e0, hbg, hg, hnc, hcm, hcs, htake⟩
    · cases e0
    · injection e0 with e1 e2 e3
      injection e1 with e1
      injection e1 with e1 _
      subst e1 e3
      by_cases hroom : k + m ≤ cap
      · have hfit : k * i0.size + xs.length ≤ cur.size := by rw [hcs, hz1]; omega
        have hr2 := run_append_room (P := P) w t o.type e i0 E.sl hi g k cap cur hg ad m c xs (by rw [hz1]; omega) hnews h1 hroom hfit
        rw [hr] at hr2
        injection hr2 with hr2 _
        refine ⟨g, cap, hr2, .inl rfl, fun i u hu => ?_⟩
        have h4 := h2.cells (g := g) (by rw [hr2]; rfl) i u (by rw [List.getElem?_append_left (List.getElem?_eq_some_iff.1 hu).1]; exact hu)
        rw [Addr.add_lit, Nat.zero_add] at h4
        exact h4
      · have holds : ∀ j u, ys[j]? = some u → w.cell? ((⟨g, 0, none⟩ : Addr).add j) = some u := hown2.cells (g := g) rfl
        have hr2 := run_append_grow (P := P) w t o.type e i0 z E.sl hi hz0 ⟨g, 0, none⟩ k cap ys hown2.1 holds ad m c xs (by rw [hz1]; omega) hnews (by omega) (by omega) (growslice_fits (by omega) hb)
        rw [hr] at hr2
        injection hr2 with hr2 hw
        refine ⟨w.heap.size, _, hr2, .inr rfl, fun i u hu => ?_⟩
        have h4 := holds0 i u hu
        rw [Addr.add_lit, Nat.zero_add] at h4
        have hb4 : Below w.heap.size w w' := by rw [hw]; exact ((Below.refl _ w).drew).alloc (Nat.le_refl _) _
        exact (hb4.cell (p := ⟨g, i, none⟩) hgl).trans h4
  obtain ⟨g', c', rfl, hg', hcs'⟩ := hpl
  rw [hz1] at h2
  refine ⟨g', c', w', ?_, h2, h3, hg', hcs'⟩
  unfold execOp
  simp only [ho, resolve, invoke, builtin, Sem.run_bind, Sem.run_pure, Result.andThen_ok, List.map_toArray, List.map_cons, List.map_nil, hs, hx, hr]
/-- append of slices onto an own row of slices -/
theorem run_wappendS {P : Program} {t e : TypeId} {z : Value} {w : World} {o : Oper} (hsl : P.underlying t = some (.slice e)) (hinfo : (P.info? e).map (fun i => (i.zero, i.size, i.bytes)) = some (some z, 1, 24)) (hone : z.cells = #[z]) {ρ : Operand → Value} (s x : Operand)
    (ho : o.op = .call { callee := .builtin .append, args := #[s, x], argTypes := #[t, t] })
    (base : Nat) (v : Value) (k : Nat) (ys : List Value) (hs : ρ s = v) (hown : w.ownsRow base e 1 v k ys) (ad : Addr) (m c : Nat) (xs : List Value) (hx : ρ x = .slice (some ad) m c) (hl : xs.length = m)
    (hnews : ∀ j u, xs[j]? = some u → w.cell? (ad.add j) = some u) (h1 : ∀ u ∈ xs, u.oneCell' = true) (hk : k + m ≤ 1000000) (hbase : base ≤ w.heap.size) :
    ∃ v' w', (execOp ρ o).run P w = .ok (.value v') w' ∧ w'.ownsRow base e 1 v' (k + m) (ys ++ xs) ∧ w.grownBy w' v.ownBlock := by
  obtain ⟨i0, hi, hz0, hz1, hz2⟩ := info_parts hinfo
  obtain ⟨v', w', hr, h2, h3, h4⟩ := run_append_own (P := P) w base t o.type e i0 z 1 24 hsl hi hz0 hz1 hz2 (by rw [hone]; rfl) (by decide) v k ys hown ad m c xs (by omega) hnews h1 (by simp only [maxLen]; omega) (by omega) hbase
  refine ⟨v', w', ?_, h2, h3⟩
  unfold execOp
  simp only [ho, resolve, invoke, builtin, Sem.run_bind, Sem.run_pure, Result.andThen_ok, List.map_toArray, List.map_cons, List.map_nil, hs, hx, hr]
/-- a byte more, behind the call's own bytes: the steps of 's = append(s, a ^ b)' -/
def RN (wr w2 : World) (zb L1 : Nat) (d : BitVec 8) (ys : List Value) (gy cx : Nat) (xs : List (BitVec 8)) (gb : Nat) (zs : List Value) : Nat → Value → World → Prop
  | 0, _, W => ∃ q, W = wr.drewN q
  | 1, _, W => ∃ q, W = (wr.alloc (.cells #[W8 d] 5)).drewN q
  | _ + 2, v, W => ∃ g7 c7, v = .slice (some ⟨g7, 0, none⟩) L1 c7 ∧ W.ownsRow zb 5 1 v L1 ys ∧ g7 ≠ gy ∧ SlV W W.heap.size (some ⟨gy, 0, none⟩) 4 cx (xs.map W8) ∧ Below zb w2 W ∧ (∀ i u, zs[i]? = some u → W.cell? ⟨gb, i, none⟩ = some u)
theorem RN.drew {wr w2 : World} {zb L1 : Nat} {d : BitVec 8} {ys : List Value} {gy cx : Nat} {xs : List (BitVec 8)} {gb : Nat} {zs : List Value} : ∀ (k : Nat) (v : Value) (W : World) (q : Nat), RN wr w2 zb L1 d ys gy cx xs gb zs k v W → RN wr w2 zb L1 d ys gy cx xs gb zs k v (W.drewN q)
  | 0, _, _, q, ⟨q0, h⟩ => ⟨q0 + q, by rw [h, World.drewN_drewN]⟩
  | 1, _, _, q, ⟨q0, h⟩ => ⟨q0 + q, by rw [h, World.drewN_drewN]⟩
  | _ + 2, _, _, q, ⟨g7, c7, h1, h2, h3, h4, h5, h6⟩ => ⟨g7, c7, h1, h2, h3, h4, below_drewN h5 q, h6⟩
/-- 'append(s, x...)', s the call's own and not nil: the result lies where s lay, or in a new block -/
theorem wlv_appendP {P : Program} {t e : TypeId} {z : Value} {sz : Nat} {w : World} {ops : Array Oper} {rest : List Oper} {o : Oper} {a : Act} {Q : Exit → Act → World → Prop} (E : Elem P t e z sz) (hgd : o.guard = none) (s x : Operand)
    (ho : o.op = .call { callee := .builtin .append, args := #[s, x], argTypes := #[t, t] })
    (base g cap k : Nat) (ys : List Value) (hs : a.eval s = .slice (some ⟨g, 0, none⟩) k cap) (hown : w.ownsRow base e 1 (.slice (some ⟨g, 0, none⟩) k cap) k ys) (ad : Addr) (m c : Nat) (xs : List Value) (hx : a.eval x = .slice (some ad) m c) (B : Nat) (hsl : SlV w B (some ad) m c xs) (h1 : Ones xs)
    (hk : k + m ≤ 17592186044416) (hbase : base ≤ w.heap.size)
    (h : ∀ g' c' w', w'.ownsRow base e 1 (.slice (some ⟨g', 0, none⟩) (k + m) c') (k + m) (ys ++ xs) → w.grownBy w' (some g) → g' = g ∨ g' = w.heap.size → wpList P ops Q rest (a.put o.dst (.slice (some ⟨g', 0, none⟩) (k + m) c')) w') : wpList P ops Q (o :: rest) a w := by
  obtain ⟨i0, hi, hz0, hz1, hz2⟩ := info_parts E.info
  have hm : m = xs.length := hsl.len
  have hc : ∀ j u, xs[j]? = some u → w.cell? (ad.add j) = some u := fun j u hu => by
    obtain ⟨b, off, e, _, hc⟩ := hsl.2.2.2 (by intro e; subst e; simp at hu)
    injection e with e
    subst e
    rw [Addr.add_lit]
    exact hc j u hu
  have hb : (k + m) * i0.bytes ≤ 140737488355328 := by rw [hz2]; exact Nat.le_trans (Nat.mul_le_mul hk E.b8) (by decide)
  have hzs : z.cells.size = i0.size := by rw [E.one, hz1]; rfl
  have hsi : 0 < i0.size := by rw [hz1]; decide
  have hown2 : w.ownsRow base e i0.size (.slice (some ⟨g, 0, none⟩) k cap) k ys := by rw [hz1]; exact hown
  obtain ⟨v', w', hr, h2, h3, _⟩ := run_append_own (P := P) w base t o.type e i0 z i0.size i0.bytes E.sl hi hz0 rfl rfl hzs hsi _ k ys hown2 ad m c xs (by rw [hz1]; omega) hc h1 (by simp only [maxLen]; omega) hb hbase
  have hpl : ∃ g' c', v' = .slice (some ⟨g', 0, none⟩) (k + m) c' ∧ (g' = g ∨ g' = w.heap.size) := by
    rcases hown2.2 with ⟨e0, _⟩ | ⟨g0, cap0, cur, e0, hbg, hg, hnc, hcm, hcs, htake⟩
    · cases e0
    · injection e0 with e1 e2 e3
      injection e1 with e1
      injection e1 with e1 _
      subst e1 e3
      by_cases hroom : k + m ≤ cap
      · have hfit : k * i0.size + xs.length ≤ cur.size := by rw [hcs, hz1]; omega
        have hr2 := run_append_room (P := P) w t o.type e i0 E.sl hi g k cap cur hg ad m c xs (by rw [hz1]; omega) hc h1 hroom hfit
        rw [hr] at hr2
        injection hr2 with hr2 _
        exact ⟨g, cap, hr2, .inl rfl⟩
      · have holds : ∀ j u, ys[j]? = some u → w.cell? ((⟨g, 0, none⟩ : Addr).add j) = some u := hown2.cells (g := g) rfl
        have hr2 := run_append_grow (P := P) w t o.type e i0 z E.sl hi hz0 ⟨g, 0, none⟩ k cap ys hown2.1 holds ad m c xs (by rw [hz1]; omega) hc (by omega) (by omega) (growslice_fits (by omega) hb)
        rw [hr] at hr2
        injection hr2 with hr2 _
        exact ⟨w.heap.size, _, hr2, .inr rfl⟩
  obtain ⟨g', c', rfl, hg'⟩ := hpl
  rw [hz1] at h2
  refine wpList_plain hgd fun K hK => ?_
  unfold Oper.wp execOp
  simp only [ho, resolve, invoke, builtin, Sem.run_bind, Sem.run_pure, Result.andThen_ok, List.map_toArray, List.map_cons, List.map_nil, hs, hx, hr]
  exact hK _ _ (h g' c' w' h2 h3 hg')
theorem RN.cells {wr w2 : World} {zb L1 : Nat} {d : BitVec 8} {ys : List Value} {gy cx : Nat} {xs : List (BitVec 8)} {gb : Nat} {zs : List Value} (h1 : ∀ i u, zs[i]? = some u → wr.cell? ⟨gb, i, none⟩ = some u) (hgb : gb < wr.heap.size) (h2 : SlV wr wr.heap.size (some ⟨gy, 0, none⟩) 4 cx (xs.map W8)) :
    ∀ (k : Nat) (v : Value) (W : World), RN wr w2 zb L1 d ys gy cx xs gb zs k v W → (∀ i u, zs[i]? = some u → W.cell? ⟨gb, i, none⟩ = some u) ∧ SlV W W.heap.size (some ⟨gy, 0, none⟩) 4 cx (xs.map W8)
  | 0, _, W, ⟨q0, h⟩ => by subst h; exact ⟨h1, h2⟩
  | 1, _, W, ⟨q0, h⟩ => by
    have hba : Below wr.heap.size wr W := by rw [h]; exact below_drewN ((Below.refl _ _).alloc (Nat.le_refl _) _) q0
    exact ⟨fun i u hu => (hba.cell (p := ⟨gb, i, none⟩) hgb).trans (h1 i u hu), (h2.below hba).more hba.size⟩
  | _ + 2, _, _, ⟨_, _, _, _, _, h4, _, h6⟩ => ⟨h6, h4⟩
end Go.Proofs.Ytabhdkjepbkooaa
